import PyProof.Rows.All
import Wide.All
import OpenK.AllK
import Wide.FinOn
import Lean
import PyProof.EqAt
import PyProof.EqKinds
import PyProof.TupleCall
import PyProof.ListRange
import PyProof.TupleOfSeq
import OpenK.KRaise
import OpenK.KOwn
import PyProof.NsDelKeeps
import PyProof.StrOps2
import PyProof.ExcAttrAll.ValueError
import PySem.SetTable
import PyProof.SetScanFacts
import PyProof.TupleKey
import PyProof.SetKind
import PyProof.IsRules
import PyProof.DictKinds
import PyProof.InstSpecial
import PyProof.Rows.SetFrom
import PyProof.WalksS
import PyProof.Walks
import PyProof.Seq
import PyProof.FactsAll.set_1
import PyProof.Comp
import PyProof.CollectWalk
import PyProof.SetNew
import PyProof.FactsAll.set_2
import PyProof.Rows.SortShellK
import PyProof.Rows.SortWalk
import PyProof.ZipIter
import PyProof.DictWalks
import KE.KDictList
import PyProof.DictValues
import PyProof.SetRoads
import PySem.Str
import PyProof.NeKinds
import PySem.Eval
import PyProof.ExcBaseAll.ValueError
import PySem.Challenge.RW_roundlap_k08_gaps
set_option genSizeOfSpec false
set_option bootstrap.genMatcherCode false
noncomputable section
abbrev WH:=PySem.Value->PySem.Shared->Prop
abbrev WI:=List (PySem.Addr × PySem.Obj)
abbrev WJ:=List Int
abbrev WL:=PySem.W.Frag
abbrev WM:=List PySem.Value
abbrev WN:=PySem.Shared
abbrev WO:=List (List Int)
abbrev WP:=PySem.Program
abbrev WQ:=List PySem.Addr
abbrev WR:=PySem.Str->Option PySem.Value
abbrev WS:=PySem.World
abbrev WT:=Array (Int × PySem.Value)
abbrev WU:=List PySem.Str
abbrev WV:=Array PySem.Value
abbrev WW:=PySem.Expr
abbrev WX:=List PySem.Expr
abbrev WY:=PySem.Around
abbrev WZ:=List (PySem.Str × PySem.Addr)
abbrev W0:=Array (Option PySem.Value)
abbrev W1:=Array (Option Nat)
abbrev W2:=List (Int × PySem.Value)
abbrev W3:=Option PySem.Value->PySem.Shared->Prop
abbrev W4:=List (PySem.Str × PySem.Stmt)
abbrev W5:=Option PySem.Addr
abbrev W6:=Nat × Nat
abbrev W7:=List Nat
abbrev W8:=Array PySem.DictEntry
abbrev W9:=PySem.Value
noncomputable abbrev Za:=@PySem.wpAny_bind
noncomputable abbrev Zb:=@List.length_map
noncomputable abbrev Zc:=@List.getElem?_eq_getElem
noncomputable abbrev Zd:=@if_pos
noncomputable abbrev Ze:=@if_neg
noncomputable abbrev Zf:=@PySem.wpAny_pure
noncomputable abbrev Zg:=@List.getElem?_eq_some_iff
noncomputable abbrev Zh:=@PySem.Heap.get?_push_of_some
noncomputable abbrev Zi:=@List.prefix_append
noncomputable abbrev Zj:=@decide_eq_true
noncomputable abbrev Zk:=@Nat.le_refl
noncomputable abbrev Zl:=@List.mem_cons_self
noncomputable abbrev Zm:=@List.mem_cons_of_mem
noncomputable abbrev Zn:=@of_decide_eq_true
noncomputable abbrev Zo:=@List.size_toArray
noncomputable abbrev Zp:=@List.length_append
noncomputable abbrev Zq:=@decide_eq_false
noncomputable abbrev Zr:=@Array.getElem?_eq_getElem
noncomputable abbrev Zs:=@List.append_assoc
noncomputable abbrev Zt:=@List.mem_cons
noncomputable abbrev Zu:=@Bool.and_eq_true
noncomputable abbrev Zv:=@PySem.Heap.lt_size
noncomputable abbrev Zw:=@Bool.false_eq_true
noncomputable abbrev Zx:=@PySem.Heap.get?_push_size
noncomputable abbrev Zy:=@List.mem_map
noncomputable abbrev Zz:=@Bool.false_ne_true
noncomputable abbrev ZA:=@List.mem_of_getElem?
noncomputable abbrev ZB:=@List.length_cons
noncomputable abbrev ZC:=@List.map_cons
noncomputable abbrev ZD:=@Option.map_eq_some_iff
noncomputable abbrev ZE:=@List.mem_append
noncomputable abbrev ZF:=@List.getElem?_append_left
noncomputable abbrev ZG:=@Array.length_toList
noncomputable abbrev ZH:=@List.mem_singleton
noncomputable abbrev ZI:=@Nat.ne_of_lt
noncomputable abbrev ZJ:=@List.getD_eq_getElem?_getD
noncomputable abbrev ZK:=@List.getElem?_map
noncomputable abbrev ZL:=@List.length_range
noncomputable abbrev ZM:=@List.map_append
noncomputable abbrev ZN:=@Nat.lt_of_lt_of_le
noncomputable abbrev ZO:=@List.getElem?_of_mem
noncomputable abbrev ZP:=@List.getElem?_append_right
noncomputable abbrev ZQ:=@beq_eq_false_iff_ne
noncomputable abbrev ZR:=@Array.getElem?_toList
noncomputable abbrev ZS:=@List.mem_range
noncomputable abbrev ZT:=@List.find?_cons
noncomputable abbrev ZU:=@if_false
noncomputable abbrev ZV:=@Array.getElem?_eq_some_iff
noncomputable abbrev ZW:=@List.getElem?_set_ne
noncomputable abbrev ZX:=@List.map_map
noncomputable abbrev ZY:=@List.mem_append_right
noncomputable abbrev ZZ:=@PySem.wpAny_call_entry
noncomputable abbrev Z0:=@Option.some.inj
noncomputable abbrev Z1:=@beq_self_eq_true
noncomputable abbrev Z2:=@List.prefix_refl
noncomputable abbrev Z3:=@PyProof.Rows.callWith_type1
noncomputable abbrev Z4:=@List.take_length
noncomputable abbrev Z5:=@PyProof.Rows.wpS_bind
noncomputable abbrev Z6:=@PySem.wpAny_callSpecial?_slot
noncomputable abbrev Z7:=@Nat.le_trans
noncomputable abbrev Z8:=@List.lookup_cons
noncomputable abbrev Z9:=@Int.toNat_natCast
noncomputable abbrev Xa:=@List.all_eq_true
noncomputable abbrev Xb:=@PySem.wpAny_newObj_type
noncomputable abbrev Xd:=@List.mem_append_left
noncomputable abbrev Xe:=@List.getElem?_set_self
noncomputable abbrev Xf:=@Nat.zero_le
noncomputable abbrev Xg:=@List.nodup_cons
noncomputable abbrev Xh:=@PySem.Heap.SameBut.update
noncomputable abbrev Xi:=@PySem.Heap.get?_update_self
noncomputable abbrev Xj:=@Array.getD_eq_getD_getElem?
noncomputable abbrev Xk:=@PySem.wpAny_truthy_bool
noncomputable abbrev Xl:=@List.append_nil
noncomputable abbrev Xm:=@Nat.zero_add
noncomputable abbrev Xn:=@congrArg
noncomputable abbrev Xo:=@List.getElem_mem
noncomputable abbrev Xp:=@List.drop_eq_getElem_cons
noncomputable abbrev Xq:=@PySem.Heap.size_push
noncomputable abbrev Xr:=@List.length_filter_le
noncomputable abbrev Xs:=@PyProof.Rows.wpS_pure
noncomputable abbrev Xt:=@List.filterMap_cons
noncomputable abbrev Xu:=@PySem.wpAny_mono
noncomputable abbrev Xv:=@PySem.codeAny_builtin
noncomputable abbrev Xw:=@Classical.byContradiction
noncomputable abbrev Xx:=@Int.mul_le_mul_of_nonneg_right
noncomputable abbrev Xy:=@List.length_singleton
noncomputable abbrev Xz:=@List.getElem?_eq_none
noncomputable abbrev XA:=@Nat.lt_succ_self
noncomputable abbrev XB:=@List.pairwise_cons
noncomputable abbrev XC:=@PySem.sizeLine_eq
noncomputable abbrev XD:=@PySem.Around.under_plainId
noncomputable abbrev XE:=@PySem.wpAny_setState_of
noncomputable abbrev XG:=@List.mem_filter
noncomputable abbrev XH:=@List.length_nil
noncomputable abbrev XI:=@List.length_set
noncomputable abbrev XJ:=@if_true
noncomputable abbrev XL:=@Nat.le_succ
noncomputable abbrev XM:=@Nat.lt_irrefl
noncomputable abbrev XN:=@List.cons_append
noncomputable abbrev XO:=@PySem.wpAny_Call_Name_kw
noncomputable abbrev XQ:=@PySem.Obj.data_mapFields
noncomputable abbrev XR:=@PySem.wpAny_field
noncomputable abbrev XS:=@Array.getElem_toList
noncomputable abbrev XT:=@PySem.F.slot_dict_valueiterator_next
noncomputable abbrev XU:=@Int.ofNat_le
noncomputable abbrev XV:=@decide_eq_true_eq
noncomputable abbrev XX:=@List.nodup_append
noncomputable abbrev XY:=@Nat.lt_succ_of_lt
noncomputable abbrev XZ:=@List.any_cons
noncomputable abbrev X0:=@PySem.wpAny_attempt
noncomputable abbrev X1:=@PySem.wpAny_holding
noncomputable abbrev X2:=@List.getElem?_replicate
noncomputable abbrev X3:=@List.filter_cons_of_pos
noncomputable abbrev X4:=@List.length_take
noncomputable abbrev X5:=@PySem.F.slot_dict_keyiterator_next
noncomputable abbrev X6:=@Array.getElem?_eq_none
noncomputable abbrev X7:=@List.map_nil
noncomputable abbrev X8:=@PyProof.Rows.F.plain_set_update_loop
noncomputable abbrev X9:=@PySem.wpAny_passesOwn
noncomputable abbrev Qa:=@List.lookup_cons_self
noncomputable abbrev Qb:=@List.nil_append
noncomputable abbrev Qc:=@PySem.F.slot_tuple_iterator_next
noncomputable abbrev Qd:=@Bool.not_true
noncomputable abbrev Qe:=@List.exists_cons_of_ne_nil
noncomputable abbrev Qf:=@List.pairwise_iff_getElem
noncomputable abbrev Qg:=@PySem.wpAny_of_eq
noncomputable abbrev Qh:=@Int.le_refl
noncomputable abbrev Qi:=@PySem.wpAny_setField
noncomputable abbrev Qj:=@Nat.le_of_lt
noncomputable abbrev Qk:=@Nat.ne_of_gt
noncomputable abbrev Ql:=@Nat.succ_pos
noncomputable abbrev Qm:=@List.getElem_map
noncomputable abbrev Qn:=@List.take_succ_eq_append_getElem
noncomputable abbrev Qo:=@PySem.mem_of_lookup
noncomputable abbrev Qp:=@List.filter_cons_of_neg
noncomputable abbrev Qq:=@List.cons.inj
noncomputable abbrev Qr:=@List.mem_filterMap
noncomputable abbrev Qs:=@Bool.eq_iff_iff
noncomputable abbrev Qt:=@beq_iff_eq
noncomputable abbrev Qu:=@PySem.wpAny_setField_rec
noncomputable abbrev Qv:=@PySem.wpAny_pyIter_tuple
noncomputable abbrev Qw:=@Int.emod_lt_of_pos
noncomputable abbrev Qx:=@beq_false_of_ne
noncomputable abbrev Qy:=@PySem.W.kia_one
noncomputable abbrev Qz:=@Int.natCast_nonneg
noncomputable abbrev QA:=@PySem.Heap.get?_update_other
noncomputable abbrev QB:=@List.filter_eq_nil_iff
noncomputable abbrev QC:=@PySem.Value.isInt_shape
noncomputable abbrev QD:=@bne_self_eq_false
noncomputable abbrev QE:=@List.ext_getElem?
noncomputable abbrev QF:=@Classical.not_imp
noncomputable abbrev QG:=@Nat.lt_trans
noncomputable abbrev QH:=@List.nodup_nil
noncomputable abbrev QI:=@PySem.Obj.isFreed_of_fields
noncomputable abbrev QJ:=@PySem.F.slot_enumerate_next
noncomputable abbrev QK:=@PySem.wpAny_forIn_list
noncomputable abbrev QL:=@PySem.wpAny_isInstance
noncomputable abbrev QM:=@Classical.not_forall
noncomputable abbrev QN:=@PySem.wpAny_askSetting
noncomputable abbrev QO:=@Bool.and_eq_true_iff
noncomputable abbrev QP:=@List.mem_of_mem_take
noncomputable abbrev QQ:=@PySem.plainId_quiet
noncomputable abbrev QR:=@Array.perm_iff_toList_perm
noncomputable abbrev QS:=@PySem.F.excBase_ValueError
noncomputable abbrev QT:=@Nat.lt_succ_iff
noncomputable abbrev QU:=@Int.emod_nonneg
noncomputable abbrev QV:=@PySem.Calls.spliced_cons
noncomputable abbrev QW:=@List.getElem?_take_of_lt
noncomputable abbrev QX:=@PySem.tupleKind_room_in1
noncomputable abbrev QY:=@PyProof.Rows.F.entry_set_update_loop
noncomputable abbrev QZ:=@PyProof.Rows.listItems_at
noncomputable abbrev Q2:=@PyProof.Rows.wpS_forRange
noncomputable abbrev Q3:=@List.length_filterMap_le
noncomputable abbrev Q4:=@List.filterMap_cons_none
noncomputable abbrev Q5:=@List.filterMap_cons_some
noncomputable abbrev Q6:=@List.length_eq_zero_iff
noncomputable abbrev Q7:=@PySem.F.plainAttrs_list
noncomputable abbrev Q8:=@PySem.Calls.spliced_nil
noncomputable abbrev Q9:=@Option.isSome_map
noncomputable abbrev Wa:=@PySem.Obj.cls_mapFields
noncomputable abbrev Wb:=@PySem.wpAny_pyIter_slot
noncomputable abbrev Wc:=@PySem.Calls.callWith_builtin
noncomputable abbrev Wd:=@PySem.richCompare_meets_room
noncomputable abbrev We:=@PyProof.Rows.boot_list
noncomputable abbrev Wf:=@PySem.Paired.length
noncomputable abbrev Wg:=@Bool.true_and
noncomputable abbrev Wh:=@PySem.wpAny_execs_nil
noncomputable abbrev Wi:=@PySem.codeAny_mono
noncomputable abbrev Wj:=@PySem.wpAny_rule
noncomputable abbrev Wl:=@Nat.mod_lt
noncomputable abbrev Wm:=@Nat.sub_self
noncomputable abbrev Wn:=@List.sum_append
noncomputable abbrev Wo:=@Int.le_trans
noncomputable abbrev Wp:=@List.set_set
noncomputable abbrev Wq:=@List.map_congr_left
noncomputable abbrev Wr:=@Int.toNat_of_nonneg
noncomputable abbrev Ws:=@Bool.false_and
noncomputable abbrev Wt:=@PySem.wpAny_seqItems
noncomputable abbrev Wu:=@PySem.isSubtype_stop
noncomputable abbrev Wv:=@Int.mul_le_mul
noncomputable abbrev Ww:=@PySem.W.of_hideAll
noncomputable abbrev Wx:=@of_decide_eq_false
noncomputable abbrev Wy:=@List.all_cons
noncomputable abbrev Wz:=@PySem.W.mg_of
noncomputable abbrev WA:=@List.take_sublist
noncomputable abbrev WB:=@Nat.lt_trichotomy
noncomputable abbrev WC:=@List.pairwise_map
noncomputable abbrev WD:=@Nat.lt_of_sub_pos
noncomputable abbrev WE:=@Int.ediv_one
noncomputable abbrev WG:=@Nat.pow_succ
set_option Elab.async false
set_option linter.all false
set_option maxRecDepth 100000
namespace L2
open PySem PySem.Spec PyProof.Rows
abbrev Key:=Sum Int Str
noncomputable def g7:Key->Value->Bool
 | .inl k,v=>Value.isInt k v
 | .inr x,v=>Value.isStrOf x v
noncomputable def EF (w:WS):Key->Int
 | .inl k=>hashInt k
 | .inr x=>hashStr w x
theorem dY:∀ {k:Key} {v:W9},g7 k v=true->(∃ i t,k=Sum.inl i/\v=Value.int i t)\/(∃ x t,k=Sum.inr x/\v=Value.str x t)
 | .inl i,v,h=>by
  obtain ⟨t,e⟩:=QC (k:=i) (v:=v) h
  exact .inl ⟨i,t,rfl,e⟩
 | .inr x,v,h=>by
  obtain ⟨t,e⟩:=Value.isStrOf_shape (x:=x) (v:=v) h
  exact .inr ⟨x,t,rfl,e⟩
theorem zg (i:Int) (t:Tok):g7 (.inl i) (.int i t)=true:=by simp [g7,Value.isInt]
theorem yc (x:Str) (t:Tok):g7 (.inr x) (.str x t)=true:=by simp [g7,Value.isStrOf]
theorem GP (a b:Int):decide ((Sum.inl a:Key)=Sum.inl b)=(a==b):=by
 by_cases e:a=b
 ·subst e; simp
 ·have h:¬ (Sum.inl a:Key)=Sum.inl b:=fun q=>e (Sum.inl.inj q)
  rw [Zq h]
  exact (ZQ.mpr e).symm
theorem GV (a b:Str):decide ((Sum.inr a:Key)=Sum.inr b)=decide (a=b):=by
 by_cases e:a=b
 ·subst e; simp
 ·have h:¬ (Sum.inr a:Key)=Sum.inr b:=fun q=>e (Sum.inr.inj q)
  rw [Zq h,Zq e]
theorem Im (a:Int) (b:Str):decide ((Sum.inl a:Key)=Sum.inr b)=false:=Zq (fun q=>nomatch q)
theorem Gd (a:Str) (b:Int):decide ((Sum.inr a:Key)=Sum.inl b)=false:=Zq (fun q=>nomatch q)
noncomputable def bK (prog:WP) (w:WS):PySem.KeyKind prog w Key where
 is:=g7
 hash:=EF w
 inj:=fun v a b ha hb=>by
  rcases dY ha with ⟨i,t,rfl,rfl⟩|⟨x,t,rfl,rfl⟩
  ·rcases dY hb with ⟨j,u,rfl,e⟩|⟨y,u,rfl,e⟩
   ·injection e with e1 _; rw [e1]
   ·exact nomatch e
  ·rcases dY hb with ⟨j,u,rfl,e⟩|⟨y,u,rfl,e⟩
   ·exact nomatch e
   ·injection e with e1 _; rw [e1]
 byValue:=fun k v h=>by
  rcases dY h with ⟨i,t,rfl,rfl⟩|⟨x,t,rfl,rfl⟩ <;> rfl
 pyHash:=fun hv h=>by
  rcases dY hv with ⟨i,t,rfl,rfl⟩|⟨x,t,rfl,rfl⟩
  ·exact wpAny_pyHash_int h
  ·exact wpAny_pyHash_str h
 eqBool:=fun hu hv h=>by
  rcases dY hu with ⟨i,t,rfl,rfl⟩|⟨x,t,rfl,rfl⟩
  ·rcases dY hv with ⟨j,u,rfl,rfl⟩|⟨y,u,rfl,rfl⟩
   ·rw [GP] at h; exact wpAny_eqBool_int h
   ·rw [Im] at h; exact SeqAt.EqAt.int_str i t y u _ _ _ _ h
  ·rcases dY hv with ⟨j,u,rfl,rfl⟩|⟨y,u,rfl,rfl⟩
   ·rw [Gd] at h; exact SeqAt.EqAt.str_int x t j u _ _ _ _ h
   ·rw [GV] at h; exact wpAny_eqBool_str h
 «strs»:=fun k x t v h=>by
  rcases dY h with ⟨i,u,rfl,e⟩|⟨y,u,rfl,e⟩
  ·exact nomatch e
  ·injection e with e1 _
   subst e1
   cases v <;> rfl
theorem Ec (prog:WP) (w:WS) (i:Int) (t:Tok):(bK prog w).is (.inl i) (.int i t)=true:=zg i t
theorem HX (prog:WP) (w:WS) (x:Str) (t:Tok):(bK prog w).is (.inr x) (.str x t)=true:=yc x t
end L2
namespace L2
open PySem PySem.Spec PyProof.Rows
inductive V where
 | non|bl (b:Bool)|int (i:Int)|str (x:Str)|byt (b:Array UInt8)|flt (b:UInt64)|ref (a:Addr)|ty (n:String)
 deriving DecidableEq
abbrev Yb:=List (List Key × V)
abbrev Ya:=List V
def RelV:V->Value->Prop
 | .non,u=>u=Value.none
 | .bl b,u=>u=Value.bool b
 | .int i,u=>∃ t,u=Value.int i t
 | .str x,u=>∃ t,u=Value.str x t
 | .byt b,u=>∃ t,u=Value.bytes b t
 | .flt b,u=>∃ t,u=Value.float b t
 | .ref a,u=>u=Value.ref a
 | .ty n,u=>u=Value.type n
abbrev Vals:List V->List Value->Prop:=Paired RelV
theorem Vals.length {xs:Ya} {us:WM} (r:Vals xs us):xs.length=us.length:=Wf r
theorem Vals.get:∀ {xs:Ya} {us:WM} {i:Nat} {x:V},Vals xs us->xs[i]?=some x->∃ u,us[i]?=some u/\RelV x u
 | _,_,_,_,.nil,e=>by simp at e
 | _,_,0,_,.cons r _,e=>by simp at e; subst e; exact ⟨_,rfl,r⟩
 | _,_,i+1,x,.cons _ t,e=>by
  obtain ⟨u,h1,h2⟩:=Vals.get (i:=i) (x:=x) t (by simpa using e)
  exact ⟨u,by simpa using h1,h2⟩
theorem Vals.append:∀ {xs ys:Ya} {us ws:WM},Vals xs us->Vals ys ws->Vals (xs++ys) (us++ws)
 | _,_,_,_,.nil,s=>s
 | _,_,_,_,.cons r t,s=>.cons r (Vals.append t s)
def dR:Option V->Option Value->Prop
 | some v,some u=>RelV v u
 | none,none=>True
 | _,_=>False
noncomputable def KV {κ:Type}:List (κ × V)->List (κ × Value)->Prop:=Paired fun (p:κ × V) (q:κ × Value)=>p.1=q.1/\RelV p.2 q.2
noncomputable def kV:Key->V
 | .inl i=>.int i
 | .inr x=>.str x
inductive HO where
 /-- a list -/
 | lst (xs:Ya)
 /-- a tuple (never changes) -/
 | tup (xs:Ya)
 /-- a dict whose keys are ints and texts; one whose keys are tuples of ints and texts (the empty one is both) -/
 | dK (kvs:List (Key × V))|dT (kvs:Yb)
 /-- a set of ints: its members,its size -/
 | set (S:Int->Bool) (n:Nat)
 /-- an instance of the class at C,its dict at dx,its attributes -/
 | ins (C dx:Addr) (fs:List (Str × V))
 /-- the dict of the instance at x -/
 | own (x:Addr)
 /-- the dict of an exception -/
 | xd (fs:List (Str × V))
 /-- a bound method,f of x -/
 | met (f x:Addr)
 /-- a range object lo,lo+1,.. below hi -/
 | rng (lo hi:Int)
 /-- a thing that is known to the object (the script; a dict while a loop walks it): read,never written while it is so -/
 | frz (o:Obj) (u:HO)
 /-- a code object's table -/
 | tbl (ps:WV)
 /-- any other thing,by what is true of its one object (a def of one's own: SetO a S n:=HO.ext fun h=>..) -/
 | ext (φ:Heap->Prop)
abbrev Hp:=Addr->Option HO
noncomputable def upd (H:Hp) (a:Addr) (o:HO):Hp:=fun b=>if b=a then some o else H b
theorem cu {H:Hp} {a:Addr} {o:HO}:upd H a o a=some o:=by unfold upd; rw [Zd rfl]
theorem aE {H:Hp} {a b:Addr} {o:HO} (h:b≠a):upd H a o b=H b:=by unfold upd; rw [Ze h]
theorem n6 {H:Hp} {a b:Addr} {o u:HO} (h:H a=some o) (h':H b=some u) (d:o≠u):a≠b:=by
 intro e; subst e; rw [h] at h'; exact d (Z0 h')
theorem bz {H:Hp} {a b:Addr} {o:HO} (h:H a=some o) (h':H b=none):a≠b:=by
 intro e; subst e; rw [h] at h'; cases h'
section
variable (P:WP) (w:WS)
def aW (H:Hp) (h:Heap) (a:Addr):HO->Prop
 | .lst xs=>xs.length<=sizeLine/\∃ (its:WM) (n:Nat),Vals xs its/\h.get? a=some { cls:=.type "list",data:=.seq its.toArray n }
 | .tup xs=>xs.length<=sizeLine/\∃ its:List Value,Vals xs its/\IsTup h a its.toArray
 | .dK kvs=>kvs.length<=sizeLine/\(a==sysModules)=false/\∃ vs,KV kvs vs/\h.DictOf (bK P w) a vs
 | .dT kvs=>kvs.length<=sizeLine/\(a==sysModules)=false/\∃ xs:List (List Key × Addr × Value),
   Paired (fun (p:List Key × V) (q:List Key × Addr × Value)=>p.1=q.1/\H q.2.1=some (.tup (p.1.map kV))/\RelV p.2 q.2.2) kvs xs /\
   ∃ o es ep,h.get? a=some o/\o.ExactDict/\o.data=.dict es ep/\es.toList=xs.map (entryOfKey (tupleKind (bK P w)))/\(xs.map (·.1)).Nodup
 | .set S n=>h.SetOf (intKind P w) a S n
 | .ins C dx fs=>H dx=some (.own a)/\fs.length<=1000/\dx≠a/\h.get? a=some (PySem.W.instObj C dx) /\
   ∃ mA,h.Ns1 dx mA/\(∀ f,dR (fs.lookup f) (mA f))/\PySem.Within mA (fs.map (·.1))
 | .own _=>∃ o,h.get? a=some o
 | .xd fs=>∃ mA,h.Ns1 a mA/\∀ f,dR (fs.lookup f) (mA f)
 | .rng lo hi=>∃ t u v,h.get? a=some { cls:=.type "range",data:=.fields #[.int lo t,.int hi u,.int 1 v] }
 | .frz o u=>h.get? a=some o/\aW H h a u
 | .tbl ps=>h.get? a=some { cls:=.none,data:=.fields ps }
 | .met f x=>h.get? a=some (PySem.W.methodObj (.ref f) (.ref x))
 | .ext φ=>φ h/\(∃ o,h.get? a=some o)/\∀ h1 h2:Heap,φ h1->(∀ o,h1.get? a=some o->h2.get? a=some o)->φ h2
def HOk (H:Hp) (h:Heap):Prop:=∀ a o,H a=some o->aW P w H h a o
end
section
variable {P:WP} {w:WS} {H H':Hp} {h h':Heap} {a:Addr} {o:HO}
theorem aW.lt (x:aW P w H h a o):a < h.objs.size:=by
 cases o with
 | lst xs=>obtain ⟨_,_,_,_,e⟩:=x; exact Zv e
 | tup xs=>obtain ⟨_,_,_,p⟩:=x; exact p.lt
 | dK kvs=>obtain ⟨_,_,_,_,o,_,_,e,_⟩:=x; exact Zv e
 | dT kvs=>obtain ⟨_,_,_,_,o,_,_,e,_⟩:=x; exact Zv e
 | set S n=>obtain ⟨o,_,_,_,e,_⟩:=x; exact Zv e
 | ins C dx fs=>obtain ⟨_,_,_,e,_⟩:=x; exact Zv e
 | own y=>obtain ⟨_,e⟩:=x; exact Zv e
 | xd fs=>obtain ⟨_,⟨_,_,_,e,_⟩,_⟩:=x; exact Zv e
 | rng lo hi=>obtain ⟨_,_,_,e⟩:=x; exact Zv e
 | frz ob u=>obtain ⟨e,_⟩:=x; exact Zv e
 | tbl ps=>exact Zv (show h.get? a=some _ from x)
 | met f y=>exact Zv (show h.get? a=some _ from x)
 | ext φ=>obtain ⟨_,⟨_,e⟩,_⟩:=x; exact Zv e
theorem Paired.nX {α β:Type} {F G:α->β->Prop}:∀ {l₁:List α} {l₂:List β},Paired F l₁ l₂->(∀ a b,F a b->G a b)->Paired G l₁ l₂
 | _,_,.nil,_=>.nil
 | _,_,.cons r t,f=>.cons (f _ _ r) (Paired.nX t f)
theorem aW.stay (x:aW P w H h a o) (k:∀ b u,(b=a\/H b=some (.own a))->h.get? b=some u->h'.get? b=some u)
  (ho:∀ b,H b=some (.own a)->H' b=some (.own a)) (ht:∀ b xs,H b=some (.tup xs)->H' b=some (.tup xs)):aW P w H' h' a o:=by
 induction o with
 | lst xs=>obtain ⟨z,its,n,r,e⟩:=x; exact ⟨z,its,n,r,k _ _ (.inl rfl) e⟩
 | tup xs=>obtain ⟨z,its,r,ob,e,c⟩:=x; exact ⟨z,its,r,ob,k _ _ (.inl rfl) e,c⟩
 | dK kvs=>obtain ⟨z,y,vs,r,ob,es,ep,e,c⟩:=x; exact ⟨z,y,vs,r,ob,es,ep,k _ _ (.inl rfl) e,c⟩
 | dT kvs =>
  obtain ⟨z,y,xs,r,ob,es,ep,e,c⟩:=x
  exact ⟨z,y,xs,Paired.nX r fun p q z=>⟨z.1,ht _ _ z.2.1,z.2.2⟩,ob,es,ep,k _ _ (.inl rfl) e,c⟩
 | set S n=>obtain ⟨ob,es,ep,t,e,c⟩:=x; exact ⟨ob,es,ep,t,k _ _ (.inl rfl) e,c⟩
 | ins C dx fs =>
  obtain ⟨d,z,ne,e,mA,⟨od,es,ep,e2,c⟩,r⟩:=x
  exact ⟨ho _ d,z,ne,k _ _ (.inl rfl) e,mA,⟨od,es,ep,k _ _ (.inr d) e2,c⟩,r⟩
 | own y=>obtain ⟨ob,e⟩:=x; exact ⟨ob,k _ _ (.inl rfl) e⟩
 | xd fs=>obtain ⟨mA,⟨od,es,ep,e,c⟩,r⟩:=x; exact ⟨mA,⟨od,es,ep,k _ _ (.inl rfl) e,c⟩,r⟩
 | rng lo hi=>obtain ⟨t,u,v,e⟩:=x; exact ⟨t,u,v,k _ _ (.inl rfl) e⟩
 | frz ob u ih=>obtain ⟨e,q⟩:=x; exact ⟨k _ _ (.inl rfl) e,ih q⟩
 | tbl ps =>
  have e:h.get? a=some { cls:=.none,data:=.fields ps }:=x
  show h'.get? a=some { cls:=.none,data:=.fields ps }
  exact k a _ (.inl rfl) e
 | met f y =>
  have e:h.get? a=some (PySem.W.methodObj (.ref f) (.ref y)):=x
  show h'.get? a=some (PySem.W.methodObj (.ref f) (.ref y))
  exact k a _ (.inl rfl) e
 | ext φ=>obtain ⟨p,⟨o,e⟩,st⟩:=x; exact ⟨st _ _ p fun o q=>k _ _ (.inl rfl) q,⟨o,k _ _ (.inl rfl) e⟩,st⟩
theorem HOk.lt (x:HOk P w H h) (e:H a=some o):a < h.objs.size:=(x a o e).lt
theorem HOk.fresh (x:HOk P w H h) (e:h.objs.size<=a):H a=none:=by
 cases q:H a with
 | none=>rfl
 | some u=>exact absurd (ZN (x.lt q) e) (XM _)
theorem HOk.kept (x:HOk P w H h) (k:∀ b u,h.get? b=some u->h'.get? b=some u):HOk P w H h':=fun a o e =>
 (x a o e).stay (fun b u _ q=>k b u q) (fun _ q=>q) fun _ _ q=>q
theorem HOk.laid (x:HOk P w H h) (k:∀ b u,h.get? b=some u->h'.get? b=some u) (hp:h.objs.size<=a) (new:aW P w (upd H a o) h' a o):HOk P w (upd H a o) h':=fun b u e=>by
 have hn:=x.fresh hp
 by_cases hb:b=a
 ·subst hb; rw [cu] at e; cases e; exact new
 ·rw [aE hb] at e
  exact (x b u e).stay (fun c v _ q=>k c v q) (fun c q=>by rw [aE (bz q hn)]; exact q) fun c xs q=>by rw [aE (bz q hn)]; exact q
end
def Rd (H:Hp) (a:Addr) (u:HO):Prop:=H a=some u\/∃ o,H a=some (.frz o u)
theorem Rd.ok {P:WP} {w:WS} {H:Hp} {h:Heap} {a:Addr} {u:HO} (r:Rd H a u) (x:HOk P w H h):aW P w H h a u:=by
 rcases r with r|⟨o,r⟩
 ·exact x a u r
 ·obtain ⟨_,q⟩:=x a _ r
  exact q
def Mut:Option HO->Prop
 | some (.lst _)=>True
 | some (.dK _)=>True
 | some (.dT _)=>True
 | some (.set _ _)=>True
 | some (.ins _ _ _)=>True
 | some (.ext _)=>True
 | _=>False
section
variable {P:WP} {w:WS} {H:Hp} {h h':Heap} {x e:Addr} {o':HO}
theorem HOk.write (ok:HOk P w H h) (mu:Mut (H x)) (he:e=x\/H e=some (.own x)) (k:∀ b u,b≠e->h.get? b=some u->h'.get? b=some u) (heo:∃ u,h'.get? e=some u)
  (new:aW P w (upd H x o') h' x o'):HOk P w (upd H x o') h':=fun b u q=>by
 have nown:∀ c y,H c=some (.own y)->c≠x:=fun c y r z=>by subst z; rw [r] at mu; exact mu
 have ntup:∀ c xs,H c=some (.tup xs)->c≠x:=fun c xs r z=>by subst z; rw [r] at mu; exact mu
 by_cases hb:b=x
 ·subst hb; rw [cu] at q; cases q; exact new
 ·rw [aE hb] at q
  by_cases hbe:b=e
  ·have q':H b=some (.own x):=by
    rcases he with z|z
    ·exact absurd (hbe.trans z) hb
    ·rw [hbe]; exact z
   rw [q] at q'; cases q'
   obtain ⟨v,hv⟩:=heo
   exact ⟨v,by rw [hbe]; exact hv⟩
  ·refine (ok b u q).stay (fun c v hc r=>k c v ?_ r) (fun c r=>by rw [aE (nown c b r)]; exact r) fun c xs r=>by rw [aE (ntup c xs r)]; exact r
   rcases hc with rfl|hc
   ·exact hbe
   ·rintro rfl
    rcases he with z|z
    ·exact nown c b hc z
    ·rw [hc] at z; cases z; exact hb rfl
end
structure Un (fs ex:WQ) (H H':Hp) (h h':Heap):Prop where
 keep:∀ b o,h.get? b=some o->H b=none->b ∉ fs->b ∉ ex->h'.get? b=some o
 slot:∀ b o,h.get? b=some o->H b=none->b∈fs->b ∉ ex->∃ sl,h'.get? b=some { o with slots:=sl }
 free:∀ b o,h.get? b=some o->H b=none->b ∉ ex->H' b=none
 there:∀ b o,h.get? b=some o->b ∉ ex->∃ o',h'.get? b=some o'
 tups:∀ b xs,H b=some (.tup xs)->H' b=some (.tup xs)
 frzs:∀ b o u,H b=some (.frz o u)->H' b=some (.frz o u)
 tbls:∀ b ps,H b=some (.tbl ps)->∃ more,H' b=some (.tbl (ps++more))
section
variable {fs fs' ex ex':WQ} {H H1 H2:Hp} {h h1 h2 h':Heap} {a x e:Addr} {o:HO}
theorem Un.any (u:Un fs ex H H1 h h1) {b:Addr} {ob:Obj} (q:h.get? b=some ob) (n:H b=none) (hx:b ∉ ex):∃ sl,h1.get? b=some { ob with slots:=sl }:=by
 by_cases hb:b∈fs
 ·exact u.slot b ob q n hb hx
 ·exact ⟨ob.slots,u.keep b ob q n hb hx⟩
theorem Un.kept (k:∀ b u,h.get? b=some u->h'.get? b=some u):Un fs ex H H h h' :=
 ⟨fun b ob q _ _ _=>k b ob q,fun b ob q _ _ _=>⟨ob.slots,k b ob q⟩,fun _ _ _ n _=>n,fun b ob q _=>⟨ob,k b ob q⟩,fun _ _ q=>q,fun _ _ _ q=>q,fun _ ps q=>⟨#[],by rw [q]; simp⟩⟩
theorem Un.refl:Un fs ex H H h h:=Un.kept fun _ _ q=>q
theorem Un.laid (k:∀ b u,h.get? b=some u->h'.get? b=some u) (hp:h.objs.size<=a) (hn:H a=none):Un fs ex H (upd H a o) h h' where
 keep:=fun b u q _ _ _=>k b u q
 slot:=fun b u q _ _ _=>⟨u.slots,k b u q⟩
 free:=fun b u q n _=>by rw [aE (ZI (ZN (Zv q) hp))]; exact n
 there:=fun b u q _=>⟨u,k b u q⟩
 tups:=fun b xs q=>by rw [aE (bz q hn)]; exact q
 frzs:=fun b u xs q=>by rw [aE (bz q hn)]; exact q
 tbls:=fun b ps q=>⟨#[],by rw [aE (bz q hn),q]; simp⟩
theorem Un.write (mu:Mut (H x)) (he:e=x\/H e=some (.own x)) (k:∀ b u,b≠e->h.get? b=some u->h'.get? b=some u) (heo:∃ u,h'.get? e=some u):Un fs ex H (upd H x o) h h':=by
 have hx:∀ b,H b=none->b≠x:=fun b n z=>by subst z; rw [n] at mu; exact mu
 have hb:∀ b,H b=none->b≠e:=fun b n z=>by
  subst z
  rcases he with r|r
  ·exact hx b n r
  ·rw [n] at r; cases r
 have hm:∀ b u,H b=some u->¬ Mut (some u)->b≠x:=fun b u q nm z=>by subst z; rw [q] at mu; exact nm mu
 refine ⟨fun b u q n _ _=>k b u (hb b n) q,fun b u q n _ _=>⟨u.slots,k b u (hb b n) q⟩,fun b u q n _=>by rw [aE (hx b n)]; exact n,fun b u q _=>?_,
  fun b xs q=>by rw [aE (hm b _ q fun z=>z)]; exact q,fun b u xs q=>by rw [aE (hm b _ q fun z=>z)]; exact q,fun b ps q=>⟨#[],by rw [aE (hm b _ q fun z=>z),q]; simp⟩⟩
 by_cases hbe:b=e
 ·subst hbe; exact heo
 ·exact ⟨u,k b u hbe q⟩
end
noncomputable def trk (h:Heap) (H:Hp):List Addr:=(List.range h.objs.size).filter fun a=>(H a).isSome
noncomputable def er (h:Heap) (H:Hp):Heap:=PySem.W.hideAll h (trk h H)
theorem D_ (h:Heap) (H:Hp):(er h H).objs.size=h.objs.size:=PySem.W.hideAll_size _ _
theorem C7 {h:Heap} {H:Hp} {b:Addr} {o:Obj} (e:h.get? b=some o) (n:H b=none):(er h H).get? b=some o :=
 PySem.W.hideAll_get _ e fun hm=>by
  have q:(H b).isSome=true:=(XG.mp hm).2
  rw [n] at q; simp at q
theorem Hv {h:Heap} {H:Hp} {b:Addr} {o:Obj} (e:(er h H).get? b=some o):h.get? b=some o/\H b=none:=by
 have e':h.get? b=some o:=Ww (trk h H) e
 refine ⟨e',?_⟩
 cases q:H b with
 | none=>rfl
 | some x =>
  have hm:b∈trk h H:=XG.mpr ⟨ZS.mpr (Zv e'),by simp [q]⟩
  have z:(er h H).get? b=none:=PySem.W.hideAll_none (trk h H) hm
  rw [z] at e; cases e
end L2
namespace L2
open PySem PySem.Spec PyProof.Rows
structure Mod (K:WL) (mg:WR) (base:Heap):Prop where
 kin:K.In base
 glob:base.Ns mainGlobals mg
 blt:∃ mb,base.Ns builtinsNs mb/\∀ x:Str,x≠"__name__"->mb x=bootBuiltins x
 nolimit:base.NoLimit
structure Cx where
 prog:Program
 w:World
 K:PySem.W.Frag
 mg:Str->Option Value
 base:Heap
 A:Around
 N:List Str
 s₀:Shared
 H₀:Hp
 env:Env
 outer:List Env
 stack:List Env
 ex:List Addr
 fn:Str->Bool
 calm:Bool
 pn:List (Addr × Obj)
 xe:Value->Shared->Prop
noncomputable def frs (l:List Env):List Addr:=l.filterMap (·.frame)
abbrev Cx.fs (X:Cx):List Addr:=frs X.outer
def Vis (sc:Scope) (x:Str):Prop:=sc.names.lookup x=some .local\/sc.names.lookup x=some .cell\/sc.names.lookup x=some .free
def Loc (sc:Scope) (x:Str):Prop:=sc.names.lookup x=some .local\/sc.names.lookup x=some .cell
def Look (env:Env) (h:Heap) (m:WR) (x:Str) (u:W9):Prop :=
 (env.kindOf x=some .local/\m x=some u)\/((env.kindOf x=some .cell\/env.kindOf x=some .free)/\∃ c,env.cells.lookup x=some c/\h.IsCell c (some u))
structure Cx.Ok (X:Cx):Prop where
 mod:Mod X.K X.mg X.base
 kind:X.env.scope.kind=.function
 glob:X.env.globals=mainGlobals
 blt:X.env.builtins=builtinsNs
 above:X.s₀.heap.objs.size<=X.env.locals
 inj:∀ x y c,X.env.cells.lookup x=some c->X.env.cells.lookup y=some c->x=y
 has:∀ x,(X.env.kindOf x=some .cell\/X.env.kindOf x=some .free)->∃ c,X.env.cells.lookup x=some c
 cab:∀ x c,X.fn x=true->X.env.cells.lookup x=some c->X.s₀.heap.objs.size<=c
 hd:X.calm=true->X.A.handled=none
 frames:X.A.frames=some X.stack
 stk:X.stack=X.outer\/(X.stack=X.env::X.outer/\X.env.frame=some X.env.locals)
 exf:∀ b∈X.ex,b≠X.env.locals/\∀ x c,X.env.cells.lookup x=some c->c≠b
 bs:∀ b o,X.base.get? b=some o->X.s₀.heap.get? b=some o/\X.H₀ b=none
 bsz:X.base.objs.size<=X.s₀.heap.objs.size
 noex:∀ b o,X.base.get? b=some o->b ∉ X.ex
 exfs:∀ b∈X.ex,b ∉ X.fs
 dj:X.s₀.heap.FunFrames X.base X.outer
 frf:∀ b∈X.fs,X.H₀ b=none
structure Inv (X:Cx) (pins:WI) (σ:List (Option V)) (H:Hp) (s:WN):Prop where
 ok:X.Ok
 os:s.os=X.s₀.os
 bare:AllBare s.gens
 base:Un X.fs X.ex X.H₀ H X.s₀.heap s.heap
 loc:∃ m,s.heap.Ns X.env.locals m/\∀ (i:Nat) (x:Str) (v:V),X.N[i]?=some x->σ[i]?=some (some v)->Vis X.env.scope x->∃ u,RelV v u/\Look X.env s.heap m x u
 cell:∀ x c,X.env.cells.lookup x=some c->∃ v,s.heap.IsCell c v
 free:H X.env.locals=none
 freeC:∀ x c,X.env.cells.lookup x=some c->H c=none
 pin:∀ p∈X.pn++pins,s.heap.get? p.1=some p.2/\H p.1=none/\p.1≠X.env.locals/\p.1 ∉ X.fs/\∀ v,p.2.data≠.cell v
 hok:HOk X.prog X.w H s.heap
 len:σ.length=X.N.length
section
variable {X:Cx} {pins:WI} {σ:List (Option V)} {H H':Hp} {s:WN} {h':Heap}
theorem Cx.Ok.IC (ok:X.Ok) {b:Addr} {o:Obj} (e:X.base.get? b=some o):b ∉ X.fs:=fun hb=>by
 have:=(ok.dj.mem hb).1
 rw [e] at this; cases this
theorem Inv.bs (I:Inv X pins σ H s):∀ b o,X.base.get? b=some o->s.heap.get? b=some o/\H b=none:=fun b o e =>
 ⟨I.base.keep b o (I.ok.bs b o e).1 (I.ok.bs b o e).2 (I.ok.IC e) (I.ok.noex b o e),I.base.free b o (I.ok.bs b o e).1 (I.ok.bs b o e).2 (I.ok.noex b o e)⟩
theorem Inv.bk (I:Inv X pins σ H s):∀ b o,X.base.get? b=some o->s.heap.get? b=some o:=fun b o e=>(I.bs b o e).1
theorem Inv.mod (I:Inv X pins σ H s):Mod X.K X.mg X.base:=I.ok.mod
theorem Inv.kIn (I:Inv X pins σ H s):X.K.In s.heap:=I.ok.mod.kin.keeps I.bk
theorem Inv.lt (I:Inv X pins σ H s):X.env.locals < s.heap.objs.size:=let ⟨_,hn,_⟩:=I.loc; hn.lt
theorem Inv.sz (I:Inv X pins σ H s):X.s₀.heap.objs.size<=s.heap.objs.size:=Z7 I.ok.above (Qj I.lt)
theorem Inv.IA (I:Inv X pins σ H s) {a:Addr} (h:s.heap.objs.size<=a):a ∉ X.fs:=fun hb=>by
 obtain ⟨_,o,ho,_⟩:=I.ok.dj.mem hb
 exact absurd (ZN (Zv ho) (Z7 I.sz h)) (XM _)
theorem Inv.cne (I:Inv X pins σ H s):∀ x c,X.env.cells.lookup x=some c->c≠X.env.locals:=fun x c e z=>by
 obtain ⟨v,o,ho,hd⟩:=I.cell x c e
 obtain ⟨m,⟨o',es,ep,ho',hd',_⟩,_⟩:=I.loc
 rw [z,ho'] at ho; cases ho; rw [hd'] at hd; cases hd
theorem Inv.dj (I:Inv X pins σ H s):s.heap.FunFrames X.base X.outer:=by
 have all:∀ (l:List Env),(∀ b∈frs l,b∈X.fs)->X.s₀.heap.FunFrames X.base l->s.heap.FunFrames X.base l:=by
  intro l
  induction l with
  | nil=>intro _ _; trivial
  | cons env r ih =>
   intro hs hl
   obtain ⟨hk,⟨L,o,hf,hn,ho,hd⟩,hr⟩:=hl
   have hL:L∈X.fs:=hs L (by unfold frs; rw [Xt,hf]; exact Zl)
   obtain ⟨sl,e⟩:=I.base.slot L o ho (I.ok.frf L hL) hL fun z=>I.ok.exfs L z hL
   exact ⟨hk,⟨L,_,hf,hn,e,hd⟩,ih (fun b hb=>hs b (by unfold frs; rw [Xt,hf]; exact Zm _ hb)) hr⟩
 exact all X.outer (fun _ hb=>hb) I.ok.dj
theorem Inv.stack (I:Inv X pins σ H s):s.heap.FunFrames X.base X.stack:=by
 rcases I.ok.stk with e|⟨e,hf⟩
 ·rw [e]; exact I.dj
 ·rw [e]
  obtain ⟨m,hn,_⟩:=I.loc
  refine .cons (by rw [I.ok.kind]; decide) hf hn ?_ I.dj
  exact Heap.get?_none_of_le (Z7 I.ok.bsz I.ok.above)
theorem Inv.lB (I:Inv X pins σ H s):∀ b∈frs X.stack,b∈X.env.locals::X.fs:=fun b hb=>by
 rcases I.ok.stk with e|⟨e,hf⟩
 ·rw [e] at hb; exact Zm _ hb
 ·rw [e] at hb
  unfold frs at hb
  rw [Xt,hf] at hb
  exact hb
theorem Inv.nO (I:Inv X pins σ H s):∀ b∈frs X.stack,H b=none:=fun b hb=>by
 rcases Zt.mp (I.lB b hb) with e|hb
 ·rw [e]; exact I.free
 ·obtain ⟨_,o,ho,_⟩:=I.ok.dj.mem hb
  exact I.base.free b o ho (I.ok.frf b hb) fun z=>I.ok.exfs b z hb
theorem Inv.step {g':Array GenState} {t':Nat} {d':Drawn} {ch:WQ} (I:Inv X pins σ H s)
  (hch:∀ b∈ch,(b∈X.ex\/X.s₀.heap.objs.size<=b)/\b≠X.env.locals/\(∀ x c,X.env.cells.lookup x=some c->c≠b)/\∀ p∈X.pn++pins,p.1≠b)
  (keep:∀ b o,b≠X.env.locals->b ∉ X.fs->b ∉ ch->s.heap.get? b=some o->H b=none->h'.get? b=some o)
  (slot:∀ b o,b≠X.env.locals->b∈X.fs->b ∉ ch->s.heap.get? b=some o->H b=none->∃ sl,h'.get? b=some { o with slots:=sl }) (free:∀ b o,b ∉ ch->s.heap.get? b=some o->H b=none->H' b=none)
  (there:∀ b o,b ∉ ch->s.heap.get? b=some o->∃ o',h'.get? b=some o')
  (tups:∀ b xs,H b=some (.tup xs)->H' b=some (.tup xs)) (frzs:∀ b o u,H b=some (.frz o u)->H' b=some (.frz o u)) (tbls:∀ b ps,H b=some (.tbl ps)->∃ more,H' b=some (.tbl (ps++more)))
  (ns:∀ m,s.heap.Ns X.env.locals m->h'.Ns X.env.locals m) (hok:HOk X.prog X.w H' h') (hg:AllBare g') :
  Inv X pins σ H' { s with heap:=h',gens:=g',drawn:=d',toks:=t' }:=by
 have neL:∀ b o,X.s₀.heap.get? b=some o->b≠X.env.locals:=fun b o e=>ZI (ZN (Zv e) I.ok.above)
 have neC:∀ b o,X.s₀.heap.get? b=some o->b ∉ X.ex->b ∉ ch:=fun b o e hx hb=>by
  rcases (hch b hb).1 with z|z
  ·exact hx z
  ·exact absurd (ZN (Zv e) z) (XM _)
 have cellK:∀ x c,X.env.cells.lookup x=some c->∀ v,s.heap.IsCell c v->h'.IsCell c v:=fun x c e v ⟨o,ho,hd⟩=>by
  have nch:c ∉ ch:=fun z=>(hch c z).2.2.1 x c e rfl
  by_cases hc:c∈X.fs
  ·obtain ⟨sl,q⟩:=slot c o (I.cne x c e) hc nch ho (I.freeC x c e)
   exact ⟨_,q,hd⟩
  ·exact ⟨o,keep c o (I.cne x c e) hc nch ho (I.freeC x c e),hd⟩
 refine ⟨I.ok,I.os,hg,⟨fun b o e n hb hx=>?_,fun b o e n hb hx=>?_,fun b o e n hx=>?_,fun b o e hx=>?_,fun b xs e=>tups b xs (I.base.tups b xs e),fun b o xs e=>frzs b o xs (I.base.frzs b o xs e),fun b ps e=>?_⟩,?_,fun x c e=>?_,?_,fun x c e=>?_,fun p hp=>?_,hok,I.len⟩
 ·exact keep b o (neL b o e) hb (neC b o e hx) (I.base.keep b o e n hb hx) (I.base.free b o e n hx)
 ·obtain ⟨sl,e1⟩:=I.base.slot b o e n hb hx
  obtain ⟨sl',e2⟩:=slot b _ (neL b o e) hb (neC b o e hx) e1 (I.base.free b o e n hx)
  exact ⟨sl',e2⟩
 ·obtain ⟨o',e1⟩:=I.base.there b o e hx
  exact free b o' (neC b o e hx) e1 (I.base.free b o e n hx)
 ·obtain ⟨o',e1⟩:=I.base.there b o e hx
  exact there b o' (neC b o e hx) e1
 ·obtain ⟨m1,e1⟩:=I.base.tbls b ps e
  obtain ⟨m2,e2⟩:=tbls b _ e1
  exact ⟨m1++m2,by rw [e2,Array.append_assoc]⟩
 ·obtain ⟨m,hn,hl⟩:=I.loc
  refine ⟨m,ns m hn,fun i x v e1 e2 e3=>?_⟩
  obtain ⟨u,r,l⟩:=hl i x v e1 e2 e3
  refine ⟨u,r,?_⟩
  rcases l with l|⟨k,c,e,z⟩
  ·exact .inl l
  ·exact .inr ⟨k,c,e,cellK x c e _ z⟩
 ·obtain ⟨v,z⟩:=I.cell x c e
  exact ⟨v,cellK x c e v z⟩
 ·obtain ⟨m,⟨o,_,_,ho,_⟩,_⟩:=I.loc
  exact free _ o (fun z=>(hch _ z).2.1 rfl) ho I.free
 ·obtain ⟨v,o,ho,hd⟩:=I.cell x c e
  exact free c o (fun z=>(hch c z).2.2.1 x c e rfl) ho (I.freeC x c e)
 ·obtain ⟨e,n,ne,nf,d⟩:=I.pin p hp
  have nch:p.1 ∉ ch:=fun z=>(hch p.1 z).2.2.2 p hp rfl
  exact ⟨keep p.1 p.2 ne nf nch e n,free p.1 p.2 nch e n,ne,nf,d⟩
theorem Inv.un {t':Nat} (I:Inv X pins σ H s) (u:Un X.fs [] H H' s.heap h') (hok:HOk X.prog X.w H' h'):Inv X pins σ H' { s with heap:=h',toks:=t' }:=by
 obtain ⟨m,⟨o,es,ep,ho,r⟩,_⟩:=id I.loc
 obtain ⟨sl,hL⟩:=u.any ho I.free (by simp)
 exact I.step (g':=s.gens) (d':=s.drawn) (ch:=[]) (fun _ z=>nomatch z) (fun b o _ hb _ e n=>u.keep b o e n hb (by simp)) (fun b o _ hb _ e n=>u.slot b o e n hb (by simp)) (fun b o _ e n=>u.free b o e n (by simp)) (fun b o _ e=>u.there b o e (by simp)) u.tups u.frzs u.tbls (fun m' hm=>by
  obtain ⟨o',es',ep',ho',r'⟩:=hm
  rw [ho] at ho'; cases ho'
  exact ⟨_,es',ep',hL,r'⟩) hok I.bare
theorem Inv.call {g':Array GenState} {t':Nat} {d':Drawn} {ch:WQ} (I:Inv X pins σ H s) (u:Un (frs X.stack) ch H H' s.heap h') (hok:HOk X.prog X.w H' h') (hg:AllBare g')
  (hch:∀ b∈ch,(b∈X.ex\/X.s₀.heap.objs.size<=b)/\b≠X.env.locals/\(∀ x c,X.env.cells.lookup x=some c->c≠b)/\∀ p∈X.pn++pins,p.1≠b) :
  Inv X pins σ H' { s with heap:=h',gens:=g',drawn:=d',toks:=t' }:=by
 obtain ⟨m,⟨o,es,ep,ho,r⟩,_⟩:=id I.loc
 obtain ⟨sl,hL⟩:=u.any ho I.free fun z=>(hch _ z).2.1 rfl
 exact I.step (ch:=ch) hch (fun b o hL hb hc e n=>u.keep b o e n (fun z=>(Zt.mp (I.lB b z)).elim hL hb) hc) (fun b o _ _ hc e n=>u.any e n hc) (fun b o hc e n=>u.free b o e n hc) (fun b o hc e=>u.there b o e hc) u.tups u.frzs u.tbls (fun m' hm=>by
  obtain ⟨o',es',ep',ho',r'⟩:=hm
  rw [ho] at ho'; cases ho'
  exact ⟨_,es',ep',hL,r'⟩) hok hg
theorem Inv.turned {t':Nat} {it:Addr} (I:Inv X pins σ H s) (k:∀ b o,b≠it->s.heap.get? b=some o->h'.get? b=some o) (hn:H it=none) (hL:it≠X.env.locals)
  (h1:it∈X.ex\/X.s₀.heap.objs.size<=it) (h2:∀ x c,X.env.cells.lookup x=some c->c≠it) (h3:∀ p∈X.pn++pins,p.1≠it):Inv X pins σ H { s with heap:=h',toks:=t' }:=by
 have nit:∀ b u,H b=some u->b≠it:=fun b u e z=>by rw [z,hn] at e; cases e
 refine I.step (g':=s.gens) (d':=s.drawn) (ch:=[it]) (fun b hb=>?_) (fun b o _ _ hc e _=>k b o (fun z=>hc (by simp [z])) e) (fun b o _ _ hc e _=>⟨o.slots,k b o (fun z=>hc (by simp [z])) e⟩) (fun _ _ _ _ n=>n)
  (fun b o hc e=>⟨o,k b o (fun z=>hc (by simp [z])) e⟩) (fun _ _ e=>e) (fun _ _ _ e=>e) (fun b ps e=>⟨#[],by rw [e]; simp⟩) (fun m hm=>?_) (fun b u e=>?_) I.bare
 ·have e:b=it:=by simpa using hb
  subst e
  exact ⟨h1,hL,h2,h3⟩
 ·obtain ⟨o,es,ep,ho,r⟩:=hm
  exact ⟨o,es,ep,k _ o (Ne.symm hL) ho,r⟩
 ·refine (I.hok b u e).stay (fun c v hc q=>k c v ?_ q) (fun _ q=>q) fun _ _ q=>q
  rcases hc with z|z
  ·rw [z]; exact nit b u e
  ·exact nit c _ z
theorem Inv.tok (I:Inv X pins σ H s) (t:Nat):Inv X pins σ H { s with toks:=t }:=I.un (h':=s.heap) (t':=t) Un.refl I.hok
theorem Inv.kept {t':Nat} (I:Inv X pins σ H s) (k:∀ b u,s.heap.get? b=some u->h'.get? b=some u):Inv X pins σ H { s with heap:=h',toks:=t' }:=I.un (Un.kept k) (I.hok.kept k)
theorem Inv.laid {a:Addr} {o:HO} {t':Nat} (I:Inv X pins σ H s) (k:∀ b u,s.heap.get? b=some u->h'.get? b=some u) (hp:s.heap.objs.size<=a) (new:aW X.prog X.w (upd H a o) h' a o) :
  Inv X pins σ (upd H a o) { s with heap:=h',toks:=t' }:=I.un (Un.laid k hp (I.hok.fresh hp)) (I.hok.laid k hp new)
theorem Inv.write {x e:Addr} {o:HO} {t':Nat} (I:Inv X pins σ H s) (mu:Mut (H x)) (he:e=x\/H e=some (.own x)) (k:∀ b u,b≠e->s.heap.get? b=some u->h'.get? b=some u) (heo:∃ u,h'.get? e=some u)
  (new:aW X.prog X.w (upd H x o) h' x o):Inv X pins σ (upd H x o) { s with heap:=h',toks:=t' }:=I.un (Un.write mu he k heo) (I.hok.write mu he k heo new)
theorem Inv.weak {σ':List (Option V)} (I:Inv X pins σ H s) (hl:σ'.length=σ.length) (w:∀ (i:Nat) v,σ'[i]?=some (some v)->σ[i]?=some (some v)):Inv X pins σ' H s :=
 ⟨I.ok,I.os,I.bare,I.base,let ⟨m,hn,hl'⟩:=I.loc; ⟨m,hn,fun i x v e1 e2 e3=>hl' i x v e1 (w i v e2) e3⟩,I.cell,I.free,I.freeC,I.pin,I.hok,hl.trans I.len⟩
theorem Inv.rz {pins':WI} (I:Inv X pins σ H s) (h:∀ p∈pins',s.heap.get? p.1=some p.2/\H p.1=none/\p.1≠X.env.locals/\p.1 ∉ X.fs/\∀ v,p.2.data≠.cell v):Inv X pins' σ H s :=
 ⟨I.ok,I.os,I.bare,I.base,I.loc,I.cell,I.free,I.freeC,fun p hp=>(ZE.mp hp).elim (fun z=>I.pin p (Xd _ z)) (h p),I.hok,I.len⟩
theorem qh {N:WU} (hN:N.Nodup) {i j:Nat} {x:Str} (a:N[i]?=some x) (b:N[j]?=some x):i=j:=by
 obtain ⟨h1,e1⟩:=Zg.mp a
 obtain ⟨h2,e2⟩:=Zg.mp b
 exact (List.getElem_inj hN).mp (e1.trans e2.symm)
theorem sf {M:Model} {A:WY} {E:WH} {i:Nat} {x:Str} {v:V} {u:W9} {Q:Unit->Shared->Prop} (I:Inv X pins σ H s) (hN:X.N.Nodup) (hi:X.N[i]?=some x) (hx:Loc X.env.scope x) (r:RelV v u)
  (h:∀ s',Inv X pins (σ.set i (some v)) H s'->(∃ a,Heap.SameBut a s.heap s'.heap/\(a=X.env.locals\/X.env.cells.lookup x=some a))->Q () s') (hf:X.fn x=true\/X.env.scope.names.lookup x=some .local:=by first|exact .inl rfl|exact .inr rfl|assumption):wpAny M A (storeName X.env x u) Q E s:=by
 obtain ⟨m,hn,hl⟩:=id I.loc
 have hcls:(X.env.scope.kind==.class||(X.env.scope.kind==.module&&X.env.locals != X.env.globals))=false:=by rw [I.ok.kind]; rfl
 have hiσ:i < σ.length:=by rw [I.len]; exact (Zg.mp hi).1
 have cne:=I.cne
 have tracked:∀ {a:Addr} {h':Heap},(∃ o,s.heap.get? a=some o/\H a=none)->Heap.SameBut a s.heap h'->HOk X.prog X.w H h':=fun {a h'} ha hs b ob e=>by
  obtain ⟨_,_,hfree⟩:=ha
  refine (I.hok b ob e).stay (fun c w' hc q=>(hs.2 c ?_).trans q) (fun _ q=>q) fun _ _ q=>q
  rintro rfl
  rcases hc with rfl|hc
  ·rw [hfree] at e; cases e
  ·rw [hfree] at hc; cases hc
 rcases hx with hk|hk
 ·refine wpAny_storeName_local hk hn (fun h' hn' hs=>?_) hcls
  obtain ⟨oL,_,_,hoL,_⟩:=id hn
  refine h _ ⟨I.ok,I.os,I.bare,⟨fun b o e n hb hx=>?_,fun b o e n hb hx=>?_,I.base.free,fun b o e hx=>?_,I.base.tups,I.base.frzs,I.base.tbls⟩,⟨_,hn',fun j y v' e1 e2 e3=>?_⟩,fun y c e=>?_,I.free,I.freeC,fun p hp=>?_,tracked ⟨oL,hoL,I.free⟩ hs,by simpa using I.len⟩ ⟨_,hs,.inl rfl⟩
  ·exact (hs.2 b (ZI (ZN (Zv e) I.ok.above))).trans (I.base.keep b o e n hb hx)
  ·obtain ⟨sl,e1⟩:=I.base.slot b o e n hb hx
   exact ⟨sl,(hs.2 b (ZI (ZN (Zv e) I.ok.above))).trans e1⟩
  ·obtain ⟨o',e1⟩:=I.base.there b o e hx
   exact ⟨o',(hs.2 b (ZI (ZN (Zv e) I.ok.above))).trans e1⟩
  ·by_cases hj:j=i
   ·subst hj
    rw [hi] at e1; cases e1
    rw [Xe hiσ] at e2
    cases e2
    exact ⟨u,r,.inl ⟨hk,by simp⟩⟩
   ·rw [ZW (Ne.symm hj)] at e2
    obtain ⟨u',r',q⟩:=hl j y v' e1 e2 e3
    refine ⟨u',r',?_⟩
    rcases q with ⟨k,e⟩|⟨k,c,e,z⟩
    ·refine .inl ⟨k,?_⟩
     have:y≠x:=fun e=>hj (qh hN e1 (e ▸ hi))
     simp [this,e]
    ·exact .inr ⟨k,c,e,z.sameBut hs (cne y c e)⟩
  ·obtain ⟨w',z⟩:=I.cell y c e
   exact ⟨w',z.sameBut hs (cne y c e)⟩
  ·obtain ⟨e,n,ne,nf,d⟩:=I.pin p hp
   exact ⟨(hs.2 p.1 ne).trans e,n,ne,nf,d⟩
 ·have hfn:X.fn x=true:=by
   rcases hf with z|z
   ·exact z
   ·rw [z] at hk; cases hk
  obtain ⟨c,hc⟩:=I.ok.has x (.inl hk)
  obtain ⟨w',z⟩:=I.cell x c hc
  refine wpAny_storeName_cell I.ok.kind hk hc z (fun h' hc' hs=>?_)
  obtain ⟨oc,hoc,hocd⟩:=id z
  refine h { s with heap:=h' } ⟨I.ok,I.os,I.bare,⟨fun b o e n hb hx=>?_,fun b o e n hb hx=>?_,I.base.free,fun b o e hx=>?_,I.base.tups,I.base.frzs,I.base.tbls⟩,⟨m,hn.sameBut hs (Ne.symm (cne x c hc)),fun j y v' e1 e2 e3=>?_⟩,fun y c' e=>?_,I.free,I.freeC,fun p hp=>?_,tracked ⟨oc,hoc,I.freeC x c hc⟩ hs,by simpa using I.len⟩ ⟨c,hs,.inr hc⟩
  ·exact (hs.2 b (ZI (ZN (Zv e) (I.ok.cab x c hfn hc)))).trans (I.base.keep b o e n hb hx)
  ·obtain ⟨sl,e1⟩:=I.base.slot b o e n hb hx
   exact ⟨sl,(hs.2 b (ZI (ZN (Zv e) (I.ok.cab x c hfn hc)))).trans e1⟩
  ·obtain ⟨o',e1⟩:=I.base.there b o e hx
   exact ⟨o',(hs.2 b (ZI (ZN (Zv e) (I.ok.cab x c hfn hc)))).trans e1⟩
  ·by_cases hj:j=i
   ·subst hj
    rw [hi] at e1; cases e1
    rw [Xe hiσ] at e2
    cases e2
    exact ⟨u,r,.inr ⟨.inl hk,c,hc,hc'⟩⟩
   ·rw [ZW (Ne.symm hj)] at e2
    obtain ⟨u',r',q⟩:=hl j y v' e1 e2 e3
    refine ⟨u',r',?_⟩
    rcases q with q|⟨k,c',e,z'⟩
    ·exact .inl q
    ·refine .inr ⟨k,c',e,z'.sameBut hs ?_⟩
     rintro rfl
     exact hj (qh hN e1 (I.ok.inj _ _ _ e hc ▸ hi))
  ·by_cases hcc:c'=c
   ·subst hcc; exact ⟨_,hc'⟩
   ·obtain ⟨w2,z2⟩:=I.cell y c' e
    exact ⟨w2,z2.sameBut hs hcc⟩
  ·obtain ⟨e,n,ne,nf,d⟩:=I.pin p hp
   refine ⟨(hs.2 p.1 ?_).trans e,n,ne,nf,d⟩
   intro q
   rw [q,hoc] at e
   have q':oc=p.2:=Z0 e
   exact d w' (by rw [<- q']; exact hocd)
theorem xD {M:Model} {A:WY} {E:WH} {i:Nat} {x:Str} {v:V} {u:W9} {Q:Unit->Shared->Prop} (I:Inv X pins σ H s) (hN:X.N.Nodup) (hi:X.N[i]?=some x) (hx:Loc X.env.scope x) (r:RelV v u)
  (h:∀ s',Inv X pins (σ.set i (some v)) H s'->Q () s') (hf:X.fn x=true\/X.env.scope.names.lookup x=some .local:=by first|exact .inl rfl|exact .inr rfl|assumption):wpAny M A (storeName X.env x u) Q E s :=
 sf I hN hi hx r (fun s' I' _=>h s' I') hf
theorem Inv.zI {s':WN} {ch:WQ} (I:Inv X pins σ H s) (ho:s'.os=s.os) (u:Un (frs X.stack) ch H H' s.heap s'.heap) (hok:HOk X.prog X.w H' s'.heap) (hg:AllBare s'.gens)
  (hch:∀ b∈ch,(b∈X.ex\/X.s₀.heap.objs.size<=b)/\b≠X.env.locals/\(∀ x c,X.env.cells.lookup x=some c->c≠b)/\∀ p∈X.pn++pins,p.1≠b):Inv X pins σ H' s':=by
 obtain ⟨h',g',d',t',o'⟩:=s'
 have e:o'=s.os:=ho
 subst e
 exact I.call (g':=g') (t':=t') (d':=d') u hok hg hch
end
abbrev XK:=Value->Option Addr->Hp->Prop
abbrev St:=List (Option V)
abbrev VK:=V->Hp->Prop
abbrev TE:=St->Hp->VK->Prop
abbrev TT:=St->Hp->(Bool->Hp->Prop)->Prop
abbrev TA:=St->Hp->(List V->Hp->Prop)->Prop
structure Ends where
 nx:St->Hp->Prop
 rt:VK
 bk:St->Hp->Prop:=fun _ _=>False
 ct:St->Hp->Prop:=fun _ _=>False
abbrev TS:=Ends->St->Hp->Prop
def EP (X:Cx) (pins:WI) (σ:St) (Q:VK) (u:W9) (s':WN):Prop:=∃ v H',Inv X pins σ H' s'/\RelV v u/\Q v H'
def TP (X:Cx) (pins:WI) (σ:St) (Q:Bool->Hp->Prop) (b:Bool) (s':WN):Prop:=∃ H',Inv X pins σ H' s'/\Q b H'
def AP (X:Cx) (pins:WI) (σ:St) (Q:List V->Hp->Prop) (us:WM) (s':WN):Prop:=∃ vs H',Inv X pins σ H' s'/\Vals vs us/\Q vs H'
def SP (X:Cx) (pins:WI) (D:Ends) (f:Flow) (s':WN):Prop :=
 match f with
 | .next=>∃ σ' H',Inv X pins σ' H' s'/\D.nx σ' H'
 | .brk=>∃ σ' H',Inv X pins σ' H' s'/\D.bk σ' H'
 | .cont=>∃ σ' H',Inv X pins σ' H' s'/\D.ct σ' H'
 | .ret u=>∃ v σ' H',Inv X pins σ' H' s'/\RelV v u/\D.rt v H'
def PE (X:Cx) (e:Expr) (t:TE):Prop :=
 ∀ (pins:WI) (s:WN) (σ:St) (H:Hp) (Q:VK),Inv X pins σ H s->t σ H Q->wpAny (model X.prog X.w) X.A (eval e X.env) (EP X pins σ Q) X.xe s
def PT (X:Cx) (e:Expr) (t:TT):Prop :=
 ∀ (pins:WI) (s:WN) (σ:St) (H:Hp) (Q:Bool->Hp->Prop),Inv X pins σ H s->t σ H Q->wpAny (model X.prog X.w) X.A (isTrue e X.env (eval e X.env)) (TP X pins σ Q) X.xe s
def PW (X:Cx) (e:Expr) (t:TT):Prop :=
 ∀ (whole:Sem Value) (pins:WI) (s:WN) (σ:St) (H:Hp) (Q:Bool->Hp->Prop),Inv X pins σ H s->t σ H Q->wpAny (model X.prog X.w) X.A (isTrue e X.env whole) (TP X pins σ Q) X.xe s
theorem PW.pt {X:Cx} {e:Expr} {t:TT} (h:PW X e t):PT X e t:=h _
def PA (X:Cx) (es:WX) (t:TA):Prop :=
 ∀ (pos:Pos) (pins:WI) (s:WN) (σ:St) (H:Hp) (Q:List V->Hp->Prop),Inv X pins σ H s->t σ H Q->wpAny (model X.prog X.w) X.A (spliced (backTo pos (starEach es X.env))) (AP X pins σ Q) X.xe s
def PS (X:Cx) (st:Stmt) (t:TS):Prop :=
 ∀ (pins:WI) (s:WN) (σ:St) (H:Hp) (D:Ends),Inv X pins σ H s->t D σ H->wpAny (model X.prog X.w) X.A (exec st X.env) (SP X pins D) X.xe s
def PSs (X:Cx) (st:List Stmt) (t:TS):Prop :=
 ∀ (pins:WI) (s:WN) (σ:St) (H:Hp) (D:Ends),Inv X pins σ H s->t D σ H->wpAny (model X.prog X.w) X.A (execs st X.env) (SP X pins D) X.xe s
theorem thn {α:Type} {t:Sem α} {Q Q':α->Shared->Prop} {M:Model} {A:WY} {E:WH} {s:WN} (h:wpAny M A t Q E s) (hQ:∀ a s,Q a s->Q' a s):wpAny M A t Q' E s:=Xu h hQ fun _ _ x=>x
end L2
namespace L2
open PySem PySem.Spec PyProof.Rows
section
variable {X:Cx}
def Dr (i:Nat):TE:=fun σ H Q=>∃ v,σ[i]?=some (some v)/\Q v H
def tC (v:V):TE:=fun _ H Q=>Q v H
theorem Dj {i:Nat} {x:Str} {pos:Pos} (hN:X.N[i]?=some x) (hv:Vis X.env.scope x) (hd:(x==("__debug__" : Str))=false:=by decide) (hcd:(x==("__classdict__" : Str))=false:=by decide):PE X (.Name x pos) (Dr i):=by
 intro pins s σ H Q I h
 obtain ⟨v,e,h⟩:=h
 obtain ⟨m,hn,hl⟩:=I.loc
 obtain ⟨u,r,l⟩:=hl i x v hN e hv
 have fin:EP X pins σ Q u s:=⟨v,H,I,r,h⟩
 rcases l with ⟨hk,hm⟩|⟨hk,c,hc,hcell⟩
 ·exact wpAny_Name (wpAny_loadName_local I.ok.kind hk hn hm fin) hd
 ·rcases hk with hk|hk
  ·exact wpAny_Name (wpAny_loadName_cell I.ok.kind hk hc hcell fin) hd
  ·exact wpAny_Name (wpAny_loadName_free I.ok.kind hk hc hcell fin hcd) hd
theorem Ft {i j pos}:PE X (.Constant (.int i) j pos) (tC (.int i)):=fun _ _ _ H _ I h=>wpAny_Constant_int ⟨.int i,H,I.tok _,⟨_,rfl⟩,h⟩
theorem xX {b j pos}:PE X (.Constant (.bool b) j pos) (tC (.bl b)):=fun _ _ _ H _ I h=>Constant_bool ⟨.bl b,H,I,rfl,h⟩
theorem Cq {j pos}:PE X (.Constant .none j pos) (tC .non):=fun _ _ _ H _ I h=>Constant_none ⟨.non,H,I,rfl,h⟩
theorem rB {x j pos}:PE X (.Constant (.str x) j pos) (tC (.str x)):=fun _ _ _ H _ I h=>Calls.Constant_str ⟨.str x,H,I.tok _,⟨_,rfl⟩,h⟩
def Gl (X:Cx) (x:Str):Prop:=X.env.kindOf x=some .globalImplicit
theorem jI {E:WH} {pins:WI} {s:WN} {σ:St} {H:Hp} {x:Str} {u:W9} {pos:Pos} {Q:WH} (I:Inv X pins σ H s) (hg:Gl X x) (hm:X.mg x=some u) (h:Q u s)
  (hd:(x==("__debug__" : Str))=false:=by decide):wpAny (model X.prog X.w) X.A (eval (.Name x pos) X.env) Q E s :=
 Calls.Name_function_global I.ok.kind hg (Calls.loadGlobal_global (by rw [I.ok.glob]; exact I.mod.glob.keeps I.bk) hm h) hd
theorem cP {E:WH} {pins:WI} {s:WN} {σ:St} {H:Hp} {x:Str} {u:W9} {pos:Pos} {Q:WH} (I:Inv X pins σ H s) (hg:Gl X x) (hm:X.mg x=none) (hv:bootBuiltins x=some u) (h:Q u s)
  (hn:x≠"__name__":=by decide) (hd:(x==("__debug__" : Str))=false:=by decide):wpAny (model X.prog X.w) X.A (eval (.Name x pos) X.env) Q E s:=by
 obtain ⟨mb,h1,h2⟩:=I.mod.blt
 exact Calls.Name_function_global I.ok.kind hg (Calls.loadGlobal_builtin (by rw [I.ok.glob]; exact I.mod.glob.keeps I.bk) hm (by rw [I.ok.blt]; exact h1.keeps I.bk) ((h2 x hn).trans hv) h) hd
theorem GQ {x:Str} {v:V} {u:W9} {pos:Pos} (hg:Gl X x) (hm:X.mg x=some u) (r:RelV v u) (hd:(x==("__debug__" : Str))=false:=by decide):PE X (.Name x pos) (tC v) :=
 fun _ _ _ H _ I h=>jI I hg hm ⟨v,H,I,r,h⟩ hd
theorem Iv {x:Str} {v:V} {u:W9} {pos:Pos} (hg:Gl X x) (hm:X.mg x=none) (hv:bootBuiltins x=some u) (r:RelV v u) (hn:x≠"__name__":=by decide) (hd:(x==("__debug__" : Str))=false:=by decide):PE X (.Name x pos) (tC v) :=
 fun _ _ _ H _ I h=>cP I hg hm hv ⟨v,H,I,r,h⟩ hn hd
variable {a b:Expr} {ta tb:TE} {pos:Pos}
def PC (X:Cx) (op:CmpOp) (a b:Expr) (t:TE):Prop :=
 ∀ (pins:WI) (s:WN) (σ:St) (H:Hp) (Q:VK),Inv X pins σ H s->t σ H Q ->
  wpAny (model X.prog X.w) X.A (eval a X.env) (fun v s₁=>wpAny (model X.prog X.w) X.A (eval b X.env) (fun u s₂=>wpAny (model X.prog X.w) X.A (compareOp op v u) (EP X pins σ Q) X.xe s₂) X.xe s₁) X.xe s
theorem qC (b:Expr) {op:CmpOp} (h:op≠.In) (h2:op≠.NotIn):behindInMarks op b=false:=by
 have e1:(op==CmpOp.In)=false:=by cases op <;> first|rfl|exact absurd rfl h
 have e2:(op==CmpOp.NotIn)=false:=by cases op <;> first|rfl|exact absurd rfl h2
 cases b <;> simp [behindInMarks,e1,e2]
def zS (ta:TE):TE:=fun σ H Q=>ta σ H fun x H1=>Q (.bl (decide (x=.non))) H1
def IG (ta:TE):TE:=fun σ H Q=>ta σ H fun x H1=>Q (.bl (!decide (x=.non))) H1
theorem RelV.wu {x:V} {v:W9} (r:RelV x v):(v==Value.none)=decide (x=.non):=by
 cases x with
 | non=>cases r; rfl
 | bl _=>cases r; rfl
 | int _=>obtain ⟨t,rfl⟩:=r; rfl
 | str _=>obtain ⟨t,rfl⟩:=r; rfl
 | byt _=>obtain ⟨t,rfl⟩:=r; rfl
 | flt _=>obtain ⟨t,rfl⟩:=r; rfl
 | ref _=>cases r; rfl
 | ty _=>cases r; rfl
theorem w_ {j pos'} (ha:PE X a ta):PC X .Is a (.Constant .none j pos') (zS ta):=by
 intro pins s σ H Q I h
 refine thn (ha pins s σ H _ I h) fun v s1 ⟨x,H1,I1,r1,q1⟩=>?_
 exact Constant_none (is_none_gen ⟨.bl _,H1,I1,by rw [r1.wu]; rfl,q1⟩)
theorem se {j pos'} (ha:PE X a ta):PC X .IsNot a (.Constant .none j pos') (IG ta):=by
 intro pins s σ H Q I h
 refine thn (ha pins s σ H _ I h) fun v s1 ⟨x,H1,I1,r1,q1⟩=>?_
 exact Constant_none (isnot_none_gen ⟨.bl _,H1,I1,by rw [r1.wu]; rfl,q1⟩)
def tB (t:TE):TT:=fun σ H Q=>t σ H fun x H1=>∃ c,x=.bl c/\Q c H1
theorem sZ {op:CmpOp} {t:TE} (h:PC X op a b t) (h1:behindInMarks op b=false:=by first|exact qC _ (by decide) (by decide)|rfl):PE X (.Compare a [op] [b] pos) t:=fun pins s σ H Q I hw=>wpAny_Compare1 (h pins s σ H Q I hw) h1
theorem pP {op:CmpOp} {t:TE} (h:PC X op a b t) (h1:behindInMarks op b=false:=by first|exact qC _ (by decide) (by decide)|rfl):PT X (.Compare a [op] [b] pos) (tB t):=by
 intro pins s σ H Q I hw
 refine wpAny_isTrue_Compare1 (thn (h pins s σ H _ I hw) fun v s1 h1=>thn h1 fun u s2 h2=>thn h2 fun c s3 ⟨x,H1,I1,r1,q1⟩=>?_) h1
 obtain ⟨d,rfl,q⟩:=q1
 cases r1
 exact Xk ⟨H1,I1,q⟩
variable {tA tB':TT} {rest:WX}
def Ip (t u:TT):TT:=fun σ H Q=>t σ H fun c H1=>if c=true then u σ H1 Q else Q false H1
def tOr (t u:TT):TT:=fun σ H Q=>t σ H fun c H1=>if c=true then Q true H1 else u σ H1 Q
def HL (t:TT):TT:=fun σ H Q=>t σ H fun c H1=>Q (!c) H1
theorem vj (ha:PT X a tA):PW X (.BoolOp .And [a] pos) tA:=by
 intro wh pins s σ H Q I h
 refine isTrue_and (thn (ha pins s σ H Q I h) fun c s1 e=>?_)
 cases c with
 | true=>exact isTrue_and_nil e
 | false=>exact e
theorem vZ (ha:PT X a tA):PW X (.BoolOp .Or [a] pos) tA:=by
 intro wh pins s σ H Q I h
 refine isTrue_or (thn (ha pins s σ H Q I h) fun c s1 e=>?_)
 cases c with
 | false=>exact isTrue_or_nil e
 | true=>exact e
theorem Du (ha:PT X a tA) (hb:PW X (.BoolOp .And (b::rest) pos) tB'):PW X (.BoolOp .And (a::b::rest) pos) (Ip tA tB'):=by
 intro wh pins s σ H Q I h
 refine isTrue_and (thn (ha pins s σ H _ I h) fun c s1 ⟨H1,I1,q1⟩=>?_)
 cases c with
 | true=>exact hb wh pins s1 σ H1 Q I1 q1
 | false=>exact ⟨H1,I1,q1⟩
theorem E5 (ha:PT X a tA) (hb:PW X (.BoolOp .Or (b::rest) pos) tB'):PW X (.BoolOp .Or (a::b::rest) pos) (tOr tA tB'):=by
 intro wh pins s σ H Q I h
 refine isTrue_or (thn (ha pins s σ H _ I h) fun c s1 ⟨H1,I1,q1⟩=>?_)
 cases c with
 | true=>exact ⟨H1,I1,q1⟩
 | false=>exact hb wh pins s1 σ H1 Q I1 q1
theorem zZ (ha:PT X a tA):PT X (.UnaryOp .Not a pos) (HL tA):=by
 intro pins s σ H Q I h
 exact isTrue_not (ha pins s σ H (fun c H1=>Q (!c) H1) I h)
def Ag (ta tb:TE):TE:=fun σ H Q=>ta σ H fun x H1=>∃ c,x=.bl c/\if c=true then tb σ H1 Q else Q (.bl false) H1
def E3 (ta tb:TE):TE:=fun σ H Q=>ta σ H fun x H1=>∃ c,x=.bl c/\if c=true then Q (.bl true) H1 else tb σ H1 Q
def BX (ta:TE):TE:=fun σ H Q=>ta σ H fun x H1=>∃ c,x=.bl c/\Q (.bl (!c)) H1
theorem tN {op} {t:TE} (h:PE X a t):PE X (.BoolOp op [a] pos) t:=fun pins s σ H Q I hw=>BoolOp_one (h pins s σ H Q I hw)
theorem xY (ha:PE X a ta) (hb:PE X (.BoolOp .And (b::rest) pos) tb):PE X (.BoolOp .And (a::b::rest) pos) (Ag ta tb):=by
 intro pins s σ H Q I h
 refine BoolOp_and (thn (ha pins s σ H _ I h) fun v s1 ⟨x,H1,I1,r1,q1⟩=>?_)
 obtain ⟨c,rfl,q1⟩:=q1
 cases r1
 refine Xk ?_
 cases c with
 | true=>exact hb pins s1 σ H1 Q I1 q1
 | false=>exact ⟨.bl false,H1,I1,rfl,q1⟩
theorem yY (ha:PE X a ta) (hb:PE X (.BoolOp .Or (b::rest) pos) tb):PE X (.BoolOp .Or (a::b::rest) pos) (E3 ta tb):=by
 intro pins s σ H Q I h
 refine BoolOp_or (thn (ha pins s σ H _ I h) fun v s1 ⟨x,H1,I1,r1,q1⟩=>?_)
 obtain ⟨c,rfl,q1⟩:=q1
 cases r1
 refine Xk ?_
 cases c with
 | false=>exact hb pins s1 σ H1 Q I1 q1
 | true=>exact ⟨.bl true,H1,I1,rfl,q1⟩
theorem AK (ha:PE X a ta):PE X (.UnaryOp .Not a pos) (BX ta):=by
 intro pins s σ H Q I h
 refine UnaryOp_ (thn (ha pins s σ H _ I h) fun v s1 ⟨x,H1,I1,r1,q1⟩=>?_)
 obtain ⟨c,rfl,q1⟩:=q1
 cases r1
 exact not_of (Xk ⟨.bl (!c),H1,I1,rfl,q1⟩)
def tIf (t:TT) (ta tb:TE):TE:=fun σ H Q=>t σ H fun c H1=>if c=true then ta σ H1 Q else tb σ H1 Q
theorem G3 {c:Expr} (hc:PT X c tA) (ha:PE X a ta) (hb:PE X b tb):PE X (.IfExp c a b pos) (tIf tA ta tb):=by
 intro pins s σ H Q I h
 refine wpAny_IfExp (thn (hc pins s σ H _ I h) fun d s1 ⟨H1,I1,q1⟩=>?_)
 cases d with
 | true=>exact ha pins s1 σ H1 Q I1 q1
 | false=>exact hb pins s1 σ H1 Q I1 q1
end
end L2
namespace L2
open PySem PySem.Spec PyProof.Rows
def SqL (K:WL) (H:Hp) (a:Addr) (xs:Ya):Prop :=
 Rd H a (.lst xs) \/
  ∃ (o:Obj) (its:WV) (n:Nat),K.lookup a=some o/\o.cls=.type "list"/\o.dict=none/\o.data=.seq its n/\its.size<=sizeLine/\Vals xs its.toList
def SqT (K:WL) (H:Hp) (a:Addr) (xs:Ya):Prop :=
 Rd H a (.tup xs) \/
  ∃ (o:Obj) (its:WV) (n:Nat),K.lookup a=some o/\o.cls=.type "tuple"/\o.data=.seq its n/\its.size<=sizeLine/\Vals xs its.toList
noncomputable def Gf:Value->Option V
 | .none=>some .non
 | .bool b=>some (.bl b)
 | .int i _=>some (.int i)
 | .str x _=>some (.str x)
 | .bytes b _=>some (.byt b)
 | .float b _=>some (.flt b)
 | .ref a=>some (.ref a)
 | .type n=>some (.ty n)
 | _=>none
theorem RelV.abs {x:V} {u:W9} (r:RelV x u):Gf u=some x:=by
 cases x with
 | non=>cases r; rfl
 | bl _=>cases r; rfl
 | int _=>obtain ⟨t,rfl⟩:=r; rfl
 | str _=>obtain ⟨t,rfl⟩:=r; rfl
 | byt _=>obtain ⟨t,rfl⟩:=r; rfl
 | flt _=>obtain ⟨t,rfl⟩:=r; rfl
 | ref _=>cases r; rfl
 | ty _=>cases r; rfl
theorem RelV.inj {x y:V} {u:W9} (r:RelV x u) (q:RelV y u):x=y:=Z0 (r.abs.symm.trans q.abs)
theorem Vals.inj:∀ {xs ys:Ya} {us:WM},Vals xs us->Vals ys us->xs=ys
 | _,_,_,.nil,.nil=>rfl
 | _,_,_,.cons r t,.cons r' t'=>by rw [r.inj r',Vals.inj t t']
section
variable {X:Cx} {pins:WI} {σ:St} {H:Hp} {s:WN} {a:Addr} {xs ys:Ya}
theorem SqL.of {K:WL} (h:H a=some (.lst xs)):SqL K H a xs:=.inl (.inl h)
theorem SqT.of {K:WL} (h:H a=some (.tup xs)):SqT K H a xs:=.inl (.inl h)
theorem Inv.list (I:Inv X pins σ H s) (h:SqL X.K H a xs):∃ its:List Value,Vals xs its/\PlainL s.heap a its.toArray/\xs.length<=sizeLine:=by
 rcases h with h|⟨o,its,n,hk,hc,hd,hs,hz,r⟩
 ·obtain ⟨z,its,n,r,e⟩:=h.ok I.hok
  exact ⟨its,r,⟨_,n,e,rfl,rfl,rfl⟩,z⟩
 ·refine ⟨its.toList,r,⟨o,n,I.kIn a o hk,hc,hd,by simpa using hs⟩,?_⟩
  have e:=r.length
  simp only [ZG] at e
  omega
theorem Inv.tuple (I:Inv X pins σ H s) (h:SqT X.K H a xs):∃ its:List Value,Vals xs its/\IsTup s.heap a its.toArray/\xs.length<=sizeLine:=by
 rcases h with h|⟨o,its,n,hk,hc,hs,hz,r⟩
 ·obtain ⟨z,its,r,p⟩:=h.ok I.hok
  exact ⟨its,r,p,z⟩
 ·refine ⟨its.toList,r,⟨o,I.kIn a o hk,hc,n,by simpa using hs⟩,?_⟩
  have e:=r.length
  simp only [ZG] at e
  omega
theorem Inv.kr (I:Inv X pins σ H s) (h:SqL X.K H a xs) (h':SqL X.K H a ys):xs=ys:=by
 obtain ⟨its,r,⟨o,n,e,_,_,d⟩,_⟩:=I.list h
 obtain ⟨its',r',⟨o',n',e',_,_,d'⟩,_⟩:=I.list h'
 rw [e] at e'; cases e'
 rw [d] at d'
 injection d' with d1 _
 have:its=its':=by simpa using Xn Array.toList d1
 subst this
 exact r.inj r'
theorem Inv.kD (I:Inv X pins σ H s) (h:SqT X.K H a xs) (h':SqT X.K H a ys):xs=ys:=by
 obtain ⟨its,r,⟨o,e,_,n,d⟩,_⟩:=I.tuple h
 obtain ⟨its',r',⟨o',e',_,n',d'⟩,_⟩:=I.tuple h'
 rw [e] at e'; cases e'
 rw [d] at d'
 injection d' with d1 _
 have:its=its':=by simpa using Xn Array.toList d1
 subst this
 exact r.inj r'
end
abbrev Cx.dS (X:Cx) (E:WH):Cx:={ X with xe:=E }
abbrev Cx.nox (X:Cx):Cx:=X.dS fun _ _=>False
theorem Cx.Ok.dS {X:Cx} (ok:X.Ok) (E:WH):(X.dS E).Ok :=
 ⟨ok.mod,ok.kind,ok.glob,ok.blt,ok.above,ok.inj,ok.has,ok.cab,ok.hd,ok.frames,ok.stk,ok.exf,ok.bs,ok.bsz,ok.noex,ok.exfs,ok.dj,ok.frf⟩
theorem Cx.Ok.ff {X:Cx} {E:WH} (ok:(X.dS E).Ok):X.Ok :=
 ⟨ok.mod,ok.kind,ok.glob,ok.blt,ok.above,ok.inj,ok.has,ok.cab,ok.hd,ok.frames,ok.stk,ok.exf,ok.bs,ok.bsz,ok.noex,ok.exfs,ok.dj,ok.frf⟩
section
variable {X:Cx} {pins:WI} {σ:St} {H:Hp} {s:WN} {E:WH}
theorem Inv.dS (I:Inv X pins σ H s) (E:WH):Inv (X.dS E) pins σ H s:=⟨I.ok.dS E,I.os,I.bare,I.base,I.loc,I.cell,I.free,I.freeC,I.pin,I.hok,I.len⟩
theorem Inv.ff (I:Inv (X.dS E) pins σ H s):Inv X pins σ H s:=⟨I.ok.ff,I.os,I.bare,I.base,I.loc,I.cell,I.free,I.freeC,I.pin,I.hok,I.len⟩
theorem SP.ff {D:Ends} {f:Flow} {s':WN} (h:SP (X.dS E) pins D f s'):SP X pins D f s':=by
 cases f with
 | next=>obtain ⟨σ',H',I,q⟩:=h; exact ⟨σ',H',I.ff,q⟩
 | brk=>obtain ⟨σ',H',I,q⟩:=h; exact ⟨σ',H',I.ff,q⟩
 | cont=>obtain ⟨σ',H',I,q⟩:=h; exact ⟨σ',H',I.ff,q⟩
 | ret u=>obtain ⟨v,σ',H',I,r,q⟩:=h; exact ⟨v,σ',H',I.ff,r,q⟩
end
section
variable {X:Cx} {st:Stmt} {rest:List Stmt} {t u:TS} {e:Expr} {te:TE} {pos:Pos}
def lO:TS:=fun D σ H=>D.nx σ H
def Gm (t u:TS):TS:=fun D σ H=>t { D with nx:=u D } σ H
theorem xq:PSs X [] lO:=fun _ _ σ H _ I h=>Wh ⟨σ,H,I,h⟩
theorem BY (h1:PS X st t) (h2:PSs X rest u):PSs X (st::rest) (Gm t u):=by
 intro pins s σ H D I h
 refine wpAny_execs_cons (thn (h1 pins s σ H { D with nx:=u D } I h) fun f s1 q=>?_)
 cases f with
 | next =>
  obtain ⟨σ',H',I',q⟩:=q
  exact h2 pins s1 σ' H' D I' q
 | ret v=>exact q
 | brk=>exact q
 | cont=>exact q
theorem GH (h1:PS X st t):PSs X [st] t:=by
 intro pins s σ H D I h
 refine wpAny_execs_cons (thn (h1 pins s σ H D I h) fun f s1 q=>?_)
 cases f with
 | next=>exact Wh q
 | ret v=>exact q
 | brk=>exact q
 | cont=>exact q
theorem Gv:PS X (.Pass pos) lO:=fun _ _ σ H _ I h=>wpAny_Pass ⟨σ,H,I,h⟩
theorem Inv.quiet {pins:WI} {σ:St} {H:Hp} {s:WN} (I:Inv X pins σ H s):interactive X.env=false:=by simp [interactive,I.ok.kind]
theorem A3 {x j pos pos'}:PS X (.Expr (.Constant (.str x) j pos) pos') lO:=fun _ s σ H _ I h=>wpAny_Expr (Calls.Constant_str (show SP X _ _ .next { s with toks:=s.toks+1 } from ⟨σ,H,I.tok _,h⟩)) I.quiet
def DU (te:TE):TS:=fun D σ H=>te σ H fun _ H1=>D.nx σ H1
theorem Fd (he:PE X e te) (hs:swapsWith e none pos.line X.env=pure false:=by rfl):PS X (.Expr e pos) (DU te):=by
 intro pins s σ H D I h
 exact wpAny_Expr_any (thn (he pins s σ H _ I h) fun v s1 ⟨x,H1,I1,r1,q1⟩=>⟨σ,H1,I1,q1⟩) I.quiet hs
def Et (te:TE):TS:=fun D σ H=>te σ H D.rt
theorem zF (he:PE X e te):PS X (.Return (some e) pos) (Et te):=by
 intro pins s σ H D I h
 exact wpAny_Return_some (thn (he pins s σ H _ I h) fun v s1 ⟨x,H1,I1,r1,q1⟩=>⟨x,σ,H1,I1,r1,q1⟩)
def Dc:TS:=fun D _ H=>D.rt .non H
theorem zc:PS X (.Return none pos) Dc:=fun _ _ σ H _ I h=>wpAny_Return_none ⟨.non,σ,H,I,rfl,h⟩
def E4 (c:TT) (t u:TS):TS:=fun D σ H=>c σ H fun b H1=>if b=true then t D σ H1 else u D σ H1
theorem Ct {c:Expr} {a b:List Stmt} {tc:TT} (hc:PT X c tc) (ha:PSs X a t) (hb:PSs X b u):PS X (.If c a b pos) (E4 tc t u):=by
 intro pins s σ H D I h
 refine wpAny_If (thn (hc pins s σ H _ I h) fun d s1 ⟨H1,I1,q1⟩=>?_)
 cases d with
 | true=>exact ha pins s1 σ H1 D I1 q1
 | false=>exact hb pins s1 σ H1 D I1 q1
end
abbrev TG:=V->St->Hp->(St->Hp->Prop)->Prop
abbrev TGs:=List V->St->Hp->(St->Hp->Prop)->Prop
def PG (X:Cx) (target:Expr) (t:TG):Prop :=
 ∀ (pins:WI) (s:WN) (σ:St) (H:Hp) (v:V) (u:W9) (Q:St->Hp->Prop),Inv X pins σ H s->RelV v u->t v σ H Q ->
  wpAny (model X.prog X.w) X.A (assign target X.env u) (fun _ s'=>∃ σ' H',Inv X pins σ' H' s'/\Q σ' H') X.xe s
def PGs (X:Cx) (ts:WX) (t:TGs):Prop :=
 ∀ (pins:WI) (s:WN) (σ:St) (H:Hp) (vs:Ya) (us:WM) (Q:St->Hp->Prop),Inv X pins σ H s->Vals vs us->t vs σ H Q ->
  wpAny (model X.prog X.w) X.A (assignInOrder ((assignEach ts X.env).map (·.2)) us) (fun _ s'=>∃ σ' H',Inv X pins σ' H' s'/\Q σ' H') X.xe s
section
variable {X:Cx} {pos:Pos}
def i_ (i:Nat):TG:=fun v σ H Q=>Q (σ.set i (some v)) H
theorem sA {i:Nat} {x:Str} (hN:X.N.Nodup) (hi:X.N[i]?=some x) (hx:Loc X.env.scope x) (hf:X.fn x=true\/X.env.scope.names.lookup x=some .local:=by first|exact .inl rfl|exact .inr rfl|assumption):PG X (.Name x pos) (i_ i):=by
 intro pins s σ H v u Q I r h
 exact wpAny_assign_Name (xD I hN hi hx r (fun s' I'=>⟨_,H,I',h⟩) hf)
def vz:TGs:=fun vs σ H Q=>vs=[]/\Q σ H
def t7 (t:TG) (u:TGs):TGs:=fun vs σ H Q=>∃ v r,vs=v::r/\t v σ H fun σ' H'=>u r σ' H' Q
theorem AU:PGs X [] vz:=by
 intro pins s σ H vs us Q I r h
 obtain ⟨e,h⟩:=h
 subst e
 cases r
 exact assignInOrder_nil ⟨σ,H,I,h⟩
theorem BV {e:Expr} {es:WX} {t:TG} {u:TGs} (h1:PG X e t) (h2:PGs X es u)
  (hs:(assignEach (e::es) X.env).map (·.2)=assign e X.env::(assignEach es X.env).map (·.2):=by rfl):PGs X (e::es) (t7 t u):=by
 intro pins s σ H vs us Q I r h
 obtain ⟨v,vr,e1,h⟩:=h
 subst e1
 cases r with
 | cons r rr =>
  rw [hs]
  refine assignInOrder_cons (thn (h1 pins s σ H _ _ _ I r h) fun _ s1 ⟨σ1,H1,I1,q1⟩=>?_)
  exact h2 pins s1 σ1 H1 _ _ Q I1 rr q1
def yK (K:WL) (n:Nat) (t:TGs):TG:=fun v σ H Q=>∃ a xs,v=.ref a/\SqT K H a xs/\xs.length=n/\t xs σ H Q
theorem Hq {es:WX} {k:Nat} {t:TGs} {n:Nat} (hc:X.calm=true) (h:PGs X es t)
  (hn:(assignEach es X.env).length=n:=by rfl) (hst:(assignEach es X.env).findIdx? (·.1)=none:=by rfl):PG X (.Tuple es k pos) (yK X.K n t):=by
 intro pins s σ H v u Q I r hw
 obtain ⟨a,xs,e1,hq,hl,hw⟩:=hw
 subst e1
 cases r
 obtain ⟨its,rv,ht,hz⟩:=I.tuple hq
 refine assign_Tuple_tuple (I.ok.hd hc) ht (by simp [hn,<- hl,rv.length]) hst fun h' hx=>?_
 have I1:Inv X pins σ H { s with heap:=h' }:=I.kept (t':=s.toks) fun b o e=>hx b o (ZI (Zv e)) e
 exact h pins _ σ H xs _ Q I1 (by simpa using rv) hw
def lJ (te:TE) (g:TG):TS:=fun D σ H=>te σ H fun x H1=>g x σ H1 D.nx
theorem Bp {tg e:Expr} {te:TE} {g:TG} (he:PE X e te) (hg:PG X tg g) (hs:swapsWithSole [tg] e pos.line X.env=pure false:=by rfl) (hw:swappedStores [tg] e X.env=pure none:=by rfl)
  (h1:(assignEach [tg] X.env).map (·.2)=[assign tg X.env]:=by rfl):PS X (.Assign [tg] e pos) (lJ te g):=by
 intro pins s σ H D I h
 refine wpAny_Assign_stores (thn (he pins s σ H _ I h) fun v s1 ⟨x,H1,I1,r1,q1⟩=>?_) hs hw
 rw [h1]
 exact thn (hg pins s1 σ H1 x v _ I1 r1 q1) fun _ s2 q=>q
end
section
variable {X:Cx} {pos:Pos}
def rP (c:TT) (tb:TS):TS:=fun D σ H=>∃ W:Nat->St->Hp->Prop,(∃ m,W m σ H)/\∀ m σ H,W m σ H ->
 c σ H fun b H1=>if b=true then ∃ N:St->Hp->Prop,(∀ σ' H',N σ' H'->∃ m',m' < m/\W m' σ' H')/\tb { D with nx:=N,ct:=N,bk:=D.nx } σ H1 else D.nx σ H1
theorem yf {c:Expr} {body:List Stmt} {tc:TT} {tb:TS} (hp:PassesOwn (model X.prog X.w) X.A X.env X.xe) (hc:PT X c tc) (hb:PSs X body tb):PS X (.While c body [] pos) (rP tc tb):=by
 intro pins s σ H D I h
 obtain ⟨W,⟨m0,w0⟩,turn⟩:=h
 refine wpAny_While (codeAny_whileLoop (fun n s'=>∃ σ' H',Inv X pins σ' H' s'/\W n σ' H') ?_ m0 ⟨σ,H,I,w0⟩)
 rintro n s1 ⟨σ1,H1,I1,w1⟩
 refine X9 hp (thn (hc pins s1 σ1 H1 _ I1 (turn n σ1 H1 w1)) fun b s2 ⟨H2,I2,q2⟩=>?_)
 cases b with
 | true =>
  obtain ⟨N,hN,q2⟩:=q2
  rw [Zd rfl]
  refine X9 hp (thn (hb pins s2 σ1 H2 _ I2 q2) fun f s3 q3=>?_)
  cases f with
  | next =>
   obtain ⟨σ3,H3,I3,n3⟩:=q3
   obtain ⟨m',hm,w3⟩:=hN σ3 H3 n3
   exact ⟨m',hm,σ3,H3,I3,w3⟩
  | cont =>
   obtain ⟨σ3,H3,I3,n3⟩:=q3
   obtain ⟨m',hm,w3⟩:=hN σ3 H3 n3
   exact ⟨m',hm,σ3,H3,I3,w3⟩
  | brk=>exact q3
  | ret v=>exact q3
 | false =>
  rw [Ze Zz]
  exact Wh ⟨σ1,H2,I2,q2⟩
end
structure It where
 go:Nat->Hp->Prop
 yld:Nat->Hp->V->Hp->Prop
 stop:Nat->Hp->Prop
def cY (X:Cx) (pins:WI) (H:Hp) (b:Addr):Prop :=
 H b=none/\b≠X.env.locals/\b ∉ X.fs/\(b∈X.ex\/X.s₀.heap.objs.size<=b)/\(∀ x c,X.env.cells.lookup x=some c->c≠b)/\∀ p∈X.pn++pins,p.1≠b
theorem Inv.fU {X:Cx} {pins:WI} {σ:St} {H H':Hp} {s:WN} {b:Addr} (I:Inv X pins σ H s) (hb:s.heap.objs.size<=b) (hn:H' b=none):cY X pins H' b:=by
 refine ⟨hn,Qk (ZN I.lt hb),I.IA hb,.inr (Z7 I.sz hb),fun x c e z=>?_,fun p hp z=>?_⟩
 ·obtain ⟨v,q⟩:=I.cell x c e
  exact absurd (ZN q.lt (by rw [z]; exact hb)) (XM _)
 ·exact absurd (ZN (Zv (I.pin p hp).1) (by rw [z]; exact hb)) (XM _)
structure Turn (P:WP) (w:WS) (K:WL) (tg:Expr) (J:It) (fp:WQ) (it:Addr) (tn:Nat->Heap->Prop):Prop where
 mem:it∈fp
 obj:∀ i h,tn i h->∀ b∈fp,∃ o,h.get? b=some o/\∀ v,o.data≠.cell v
 keep:∀ i h h',tn i h->(∀ b∈fp,∀ o,h.get? b=some o->h'.get? b=some o)->tn i h'
 item:∀ (X:Cx),X.prog=P->X.w=w->X.K=K->X.calm=true->∀ (i:Nat) (pins:WI) (s:WN) (σ:St) (H:Hp) (E:WH),Inv X pins σ H s->(∀ b∈fp,cY X pins H b)->tn i s.heap->J.go i H ->
  wpAny (model P w) X.A (pyNext (.ref it)) (fun r s1=>∃ u,r=some u /\
   wpAny (model P w) X.A (letOwnedTupleGo tg (.ref it) u) (fun _ s2=>∃ x H',Inv X pins σ H' s2/\RelV x u/\J.yld i H x H'/\tn (i+1) s2.heap/\∀ b∈fp,H' b=none) E s1) E s
 done:∀ (X:Cx),X.prog=P->X.w=w->X.K=K->X.calm=true->∀ (i:Nat) (pins:WI) (s:WN) (σ:St) (H:Hp) (E:WH),Inv X pins σ H s->(∀ b∈fp,cY X pins H b)->tn i s.heap->J.stop i H ->
  wpAny (model P w) X.A (pyNext (.ref it)) (fun r s1=>r=none/\Inv X pins σ H s1) E s
 self:∀ (A:WY) (i:Nat) (s:WN) (Q:WH) (E:WH),tn i s.heap->Q (.ref it) s->wpAny (model P w) A (pyIter (.ref it)) Q E s
abbrev TI:=St->Hp->(It->Hp->Prop)->Prop
def PIE (X:Cx) (pins:WI) (σ:St) (tg:Expr) (R:It->Hp->Prop) (itv:W9) (s2:WN):Prop :=
 ∃ (it:Addr) (fp:WQ) (tn:Nat->Heap->Prop) (J:It) (H':Hp),itv=.ref it/\Inv X pins σ H' s2/\Turn X.prog X.w X.K tg J fp it tn/\tn 0 s2.heap/\(∀ b∈fp,cY X pins H' b)/\R J H'
def PI (X:Cx) (tg iter:Expr) (wi:TI):Prop :=
 ∀ (pins:WI) (s:WN) (σ:St) (H:Hp) (R:It->Hp->Prop),Inv X pins σ H s->wi σ H R ->
  wpAny (model X.prog X.w) X.A (eval iter X.env) (fun v s1=>wpAny (model X.prog X.w) X.A (pyIter v) (PIE X pins σ tg R) X.xe s1) X.xe s
theorem jn {M:Model} {A:WY} {E:WH} {s:WN} {tg:Expr} {it:Addr} {u:W9} {o:Obj} {n:String} {vs:WV} {Q:Unit->Shared->Prop} (ho:s.heap.get? it=some o) (hc:o.cls=.type n) (hd:o.data=.fields vs)
  (hn:["enumerate","zip","dict_itemiterator","dict_reverseitemiterator","odict_iterator","itertools.zip_longest","itertools.pairwise"].contains n=false) (hQ:Q () s):wpAny M A (letOwnedTupleGo tg (.ref it) u) Q E s:=by
 unfold letOwnedTupleGo
 cases tg <;> first
  | exact Zf hQ
  | (cases u <;> first
    | exact Zf hQ
    | (
      refine Za (wpAny_load ho ?_)
      rw [hc,hd]
      show wpAny M A (if (["enumerate","zip","dict_itemiterator","dict_reverseitemiterator","odict_iterator","itertools.zip_longest","itertools.pairwise"].contains n&&vs[0]?==some (rawInt _))=true then _ else _) Q E s
      rw [Ze (by intro h; rw [hn,Ws] at h; cases h)]
      exact Zf hQ))
noncomputable def Itl (K:WL) (a:Addr):It :=
 ⟨fun i H=>∃ xs x,SqL K H a xs/\xs[i]?=some x,fun i H x H'=>H'=H/\∀ xs,SqL K H a xs->xs[i]?=some x,fun i H=>∃ xs,SqL K H a xs/\xs.length<=i⟩
noncomputable def Itt (K:WL) (a:Addr):It :=
 ⟨fun i H=>∃ xs x,SqT K H a xs/\xs[i]?=some x,fun i H x H'=>H'=H/\∀ xs,SqT K H a xs->xs[i]?=some x,fun i H=>∃ xs,SqT K H a xs/\xs.length<=i⟩
noncomputable def Itr (lo:Int) (n:Nat):It:=⟨fun i _=>i < n,fun i H x H'=>H'=H/\x=.int (lo+i),fun i _=>n<=i⟩
theorem ym {P:WP} {w:WS} {K:WL} {tg:Expr} (a it:Addr):Turn P w K tg (Itl K a) [it] it (fun i h=>h.IsListIter it a i) where
 mem:=by simp
 obj:=fun i h st b hb=>by
  have e:b=it:=by simpa using hb
  subst e
  obtain ⟨o,e,c,d⟩:=st
  exact ⟨o,e,fun v z=>by rw [d] at z; cases z⟩
 keep:=fun i h h' st k=>st.at fun o e=>k it (by simp) o e
 item:=by
  intro X hP hw hK hc i pins s σ H E I hf st hg
  subst hP hw hK
  obtain ⟨xs,x,hq,hx⟩:=hg
  obtain ⟨its,rv,p,hz⟩:=I.list hq
  obtain ⟨u,hu,ru⟩:=rv.get hx
  obtain ⟨f0,f1,f2,f3,f4,f5⟩:=hf it (by simp)
  refine wpAny_pyNext_list_item st p.isList (x:=u) (by simpa using hu) fun h' st' sb=>?_
  have I1:Inv X pins σ H { s with heap:=h' }:=I.turned (t':=s.toks) (fun b o hb e=>(sb.2 b hb).trans e) f0 f1 f3 f4 f5
  obtain ⟨o,e,c,d⟩:=id st'
  exact ⟨u,rfl,jn (s:={ s with heap:=h' }) e c d (by decide) ⟨x,H,I1,ru,⟨rfl,fun ys hy=>by rw [I.kr hy hq]; exact hx⟩,st',fun b hb=>(hf b hb).1⟩⟩
 done:=by
  intro X hP hw hK hc i pins s σ H E I hf st hg
  subst hP hw hK
  obtain ⟨xs,hq,hx⟩:=hg
  obtain ⟨its,rv,p,hz⟩:=I.list hq
  obtain ⟨f0,f1,f2,f3,f4,f5⟩:=hf it (by simp)
  have hl:=rv.length
  exact wpAny_pyNext_list_end (I.ok.hd hc) st p.isList (by simp; omega) fun h' eb=>⟨rfl,I.turned (t':=s.toks) (fun b o hb e=>eb b o hb e) f0 f1 f3 f4 f5⟩
 self:=fun _ _ _ _ _ st h=>wpAny_pyIter_listiter st h
theorem A8 {P:WP} {w:WS} {K:WL} {tg:Expr} (a it:Addr):Turn P w K tg (Itt K a) [it] it (fun i h=>h.IsTupleIter it a i) where
 mem:=by simp
 obj:=fun i h st b hb=>by
  have e:b=it:=by simpa using hb
  subst e
  obtain ⟨o,e,c,d⟩:=st
  exact ⟨o,e,fun v z=>by rw [d] at z; cases z⟩
 keep:=fun i h h' st k=>st.at fun o e=>k it (by simp) o e
 item:=by
  intro X hP hw hK hc i pins s σ H E I hf st hg
  subst hP hw hK
  obtain ⟨xs,x,hq,hx⟩:=hg
  obtain ⟨its,rv,p,hz⟩:=I.tuple hq
  obtain ⟨u,hu,ru⟩:=rv.get hx
  obtain ⟨f0,f1,f2,f3,f4,f5⟩:=hf it (by simp)
  refine wpAny_pyNext_tuple_item st (show s.heap.IsTuple a its.toArray from p) (x:=u) (by simpa using hu) fun h' st' sb=>?_
  have I1:Inv X pins σ H { s with heap:=h' }:=I.turned (t':=s.toks) (fun b o hb e=>(sb.2 b hb).trans e) f0 f1 f3 f4 f5
  obtain ⟨o,e,c,d⟩:=id st'
  exact ⟨u,rfl,jn (s:={ s with heap:=h' }) e c d (by decide) ⟨x,H,I1,ru,⟨rfl,fun ys hy=>by rw [I.kD hy hq]; exact hx⟩,st',fun b hb=>(hf b hb).1⟩⟩
 done:=by
  intro X hP hw hK hc i pins s σ H E I hf st hg
  subst hP hw hK
  obtain ⟨xs,hq,hx⟩:=hg
  obtain ⟨its,rv,p,hz⟩:=I.tuple hq
  obtain ⟨f0,f1,f2,f3,f4,f5⟩:=hf it (by simp)
  have hl:=rv.length
  exact wpAny_pyNext_tuple_end (I.ok.hd hc) st (show s.heap.IsTuple a its.toArray from p) (by simp; omega) fun h' eb=>⟨rfl,I.turned (t':=s.toks) (fun b o hb e=>eb b o hb e) f0 f1 f3 f4 f5⟩
 self:=fun _ _ _ _ _ st h=>wpAny_pyIter_tupleiter st h
theorem HS {P:WP} {w:WS} {K:WL} {tg:Expr} (it:Addr) (lo:Int) (n:Nat):Turn P w K tg (Itr lo n) [it] it (fun i h=>IsRangeIter h it (lo+(i:Nat) * 1) ((n:Int) - (i:Nat)) 1) where
 mem:=by simp
 obj:=fun i h st b hb=>by
  have e:b=it:=by simpa using hb
  subst e
  exact ⟨_,st,fun v z=>by
   have z':Data.fields _=Data.cell v:=z
   cases z'⟩
 keep:=fun i h h' st k=>k it (by simp) _ st
 item:=by
  intro X hP hw hK hc i pins s σ H E I hf st hg
  subst hP hw hK
  obtain ⟨f0,f1,f2,f3,f4,f5⟩:=hf it (by simp)
  have W:=Walks.range (prog:=X.prog) (w:=X.w) (I.ok.hd hc) it lo 1 n
  refine W.item i s _ _ hg st fun v h' tk hv st' kk=>?_
  obtain ⟨t,rfl⟩:=hv
  have I1:Inv X pins σ H { s with heap:=h',toks:=tk }:=I.turned (fun b o hb e=>kk b o (by simpa using hb) e) f0 f1 f3 f4 f5
  refine ⟨_,rfl,jn (s:={ s with heap:=h',toks:=tk }) (n:="range_iterator") st' rfl rfl (by decide) ⟨.int (lo+i),H,I1,⟨t,?_⟩,⟨rfl,rfl⟩,st',fun b hb=>(hf b hb).1⟩⟩
  rw [Int.mul_one]
 done:=by
  intro X hP hw hK hc i pins s σ H E I hf st hg
  subst hP hw hK
  obtain ⟨f0,f1,f2,f3,f4,f5⟩:=hf it (by simp)
  exact wpAny_pyNext_range_end (I.ok.hd hc) st (by have:n<=i:=hg; omega) fun h' eb=>⟨rfl,I.turned (t':=s.toks) (fun b o hb e=>eb b o hb e) f0 f1 f3 f4 f5⟩
 self:=fun _ _ _ _ _ st h=>wpAny_pyIter_rangeiter st h
end L2
namespace L2
open PySem PySem.Spec PyProof.Rows
section
variable {X:Cx} {tg:Expr}
theorem wB {pins:WI} {σ:St} {H:Hp} {s:WN} {R:It->Hp->Prop} {E:WH} {lo hi:Int} {t u v:Tok} {tk:Nat} (I:Inv X pins σ H s) (h1:-(2 ^ 62)<=lo) (h2:lo < 2 ^ 62) (h3:-(2 ^ 62)<=hi) (h4:hi < 2 ^ 62)
  (q:R (Itr lo (hi - lo).toNat) H):wpAny (model X.prog X.w) X.A (pyIter (.ref s.heap.objs.size)) (PIE X pins σ tg R) E { s with heap:=s.heap.push { cls:=.type "range",data:=.fields #[.int lo t,.int hi u,.int 1 v] },toks:=tk }:=by
 refine wpAny_pyIter_range (IsRange.new ..) (small_one h1 h2 h3 h4) ?_
 have I1:Inv X pins σ H { s with heap:=s.heap.push { cls:=.type "range",data:=.fields #[.int lo t,.int hi u,.int 1 v] },toks:=tk }:=I.kept fun b o e=>Zh _ e
 refine ⟨(s.heap.push { cls:=.type "range",data:=.fields #[.int lo t,.int hi u,.int 1 v] }).objs.size,[(s.heap.push { cls:=.type "range",data:=.fields #[.int lo t,.int hi u,.int 1 v] }).objs.size],_,_,H,rfl,
  I1.kept (t':=tk) fun b o e=>Zh _ e,HS _ lo (hi - lo).toNat,?_,fun b hb=>?_,q⟩
 ·have e1:lo+((0:Nat):Int) * 1=lo:=by simp
  have e2:(((hi - lo).toNat:Nat):Int) - ((0:Nat):Int)=Builtin.Range.rangeSize lo hi 1:=by rw [rangeSize_one]; split <;> omega
  show IsRangeIter _ _ (lo+((0:Nat):Int) * 1) ((((hi - lo).toNat:Nat):Int) - ((0:Nat):Int)) 1
  rw [e1,e2]
  exact Zx _ rfl
 ·have e:b=(s.heap.push { cls:=.type "range",data:=.fields #[.int lo t,.int hi u,.int 1 v] }).objs.size:=by simpa using hb
  subst e
  exact I1.fU (Zk _) (I1.hok.fresh (Zk _))
def G8 (ta:TA):TI:=fun σ H R=>ta σ H fun vs H1=>∃ j:Int,vs=[.int j]/\-(2 ^ 62)<=j/\j < 2 ^ 62/\R (Itr 0 j.toNat) H1
def Er (ta:TA):TI:=fun σ H R=>ta σ H fun vs H1=>∃ i j:Int,vs=[.int i,.int j]/\(-(2 ^ 62)<=i/\i < 2 ^ 62/\-(2 ^ 62)<=j/\j < 2 ^ 62)/\R (Itr i (j - i).toNat) H1
theorem xS {a:Expr} {ta:TA} {p pos:Pos} (hg:Gl X "range") (hm:X.mg "range" = none) (ha:PA X [a] ta) (hs:starEach [a] X.env=[(false,eval a X.env)]:=by rfl):PI X tg (.Call (.Name "range" p) [a] [] pos) (G8 ta):=by
 intro pins s σ H R I h
 refine Call_ (cP I hg hm boot_range (Z3 (thn (ha pos pins s σ H _ I h) fun us s1 ⟨vs,H1,I1,r1,q1⟩=>?_) hs rfl))
 obtain ⟨j,e,q1,q2,q⟩:=q1
 subst e
 cases r1 with
 | cons r rr =>
  cases rr
  obtain ⟨t,rfl⟩:=r
  exact call_range_1 (wB I1 (by omega) (by omega) q1 q2 (by simpa using q))
theorem FD {a b:Expr} {ta:TA} {p pos:Pos} (hg:Gl X "range") (hm:X.mg "range" = none) (ha:PA X [a,b] ta) (hs:starEach [a,b] X.env=[(false,eval a X.env),(false,eval b X.env)]:=by rfl) (hs2:starEach [b] X.env=[(false,eval b X.env)]:=by rfl) :
  PI X tg (.Call (.Name "range" p) [a,b] [] pos) (Er ta):=by
 intro pins s σ H R I h
 refine Call_ (cP I hg hm boot_range (Z3 (thn (ha pos pins s σ H _ I h) fun us s1 ⟨vs,H1,I1,r1,q1⟩=>?_) (by rw [hs,hs2]) (by rw [hs2]; rfl)))
 obtain ⟨i,j,e,⟨q1,q2,q3,q4⟩,q⟩:=q1
 subst e
 cases r1 with
 | cons r rr =>
  cases rr with
  | cons r' rr =>
   cases rr
   obtain ⟨t,rfl⟩:=r
   obtain ⟨t',rfl⟩:=r'
   exact call_range_2 (wB I1 q1 q2 q3 q4 q)
def tW (wi:TI) (g:TG) (tb:TS):TS:=fun D σ H=>wi σ H fun J H1=>∃ W:Nat->Nat->St->Hp->Prop,(∃ m,W 0 m σ H1)/\∀ i m σ H,W i m σ H ->
 (J.stop i H/\D.nx σ H)\/(J.go i H/\∃ N:St->Hp->Prop,(∀ σ' H',N σ' H'->∃ m',m' < m/\W (i+1) m' σ' H')/\∀ x H',J.yld i H x H'->g x σ H' fun σ2 H2=>tb { D with nx:=N,ct:=N,bk:=D.nx } σ2 H2)
noncomputable def jx (fp:WQ) (h:Heap):List (Addr × Obj):=fp.filterMap fun b=>(h.get? b).map fun o=>(b,o)
theorem kM {fp:WQ} {h:Heap} {b:Addr} {o:Obj} (hb:b∈fp) (e:h.get? b=some o):(b,o)∈jx fp h:=Qr.mpr ⟨b,hb,by rw [e]; rfl⟩
theorem Ek {fp:WQ} {h:Heap} {p:Addr × Obj} (hp:p∈jx fp h):p.1∈fp/\h.get? p.1=some p.2:=by
 obtain ⟨b,hb,e⟩:=Qr.mp hp
 cases q:h.get? b with
 | none=>rw [q] at e; cases e
 | some o =>
  rw [q] at e
  have e':(b,o)=p:=Z0 e
  subst e'
  exact ⟨hb,q⟩
theorem Inv.pinned {pins:WI} {σ:St} {H:Hp} {s:WN} {fp:WQ} (I:Inv X pins σ H s) (hf:∀ b∈fp,cY X pins H b) (ho:∀ b∈fp,∃ o,s.heap.get? b=some o/\∀ v,o.data≠.cell v):Inv X (pins++jx fp s.heap) σ H s :=
 I.rz fun p hp=>(ZE.mp hp).elim (fun z=>I.pin p (ZY _ z)) fun z=>by
  obtain ⟨hb,e⟩:=Ek z
  obtain ⟨f0,f1,f2,_⟩:=hf p.1 hb
  obtain ⟨o,e',d⟩:=ho p.1 hb
  rw [e] at e'; cases e'
  exact ⟨e,f0,f1,f2,d⟩
theorem Inv.kL {pins pl:WI} {σ:St} {H:Hp} {s:WN} (I:Inv X (pins++pl) σ H s):Inv X pins σ H s:=I.rz fun p hp=>I.pin p (ZY _ (Xd _ hp))
theorem GR {iter:Expr} {body:List Stmt} {wi:TI} {g:TG} {tb:TS} {pos:Pos} (hp:PassesOwn (model X.prog X.w) X.A X.env X.xe) (hc:X.calm=true) (hi:PI X tg iter wi) (hg:PG X tg g) (hb:PSs X body tb)
  (hs:∀ x,foldedSetIterable iter X.env x=pure x:=by intro _; rfl):PS X (.For tg iter body [] pos) (tW wi g tb):=by
 intro pins s σ H D I h
 refine wpAny_For (thn (hi pins s σ H _ I h) fun v s1 h1=>thn h1 fun itv s2 h2=>?_) hs
 obtain ⟨it,fp,tn,J,H2,e,I2,T,st2,f2,W,⟨m0,w0⟩,turn⟩:=h2
 subst e
 have stat:∀ {H':Hp},(∀ b∈fp,H' b=none)->∀ b∈fp,cY X pins H' b:=fun hn b hb=>⟨hn b hb,(f2 b hb).2⟩
 refine codeAny_forLoop_any (fun n s'=>∃ i σ' H',Inv X pins σ' H' s'/\tn i s'.heap/\(∀ b∈fp,H' b=none)/\W i n σ' H') ?_ m0 ⟨0,σ,H2,I2,st2,fun b hb=>(f2 b hb).1,w0⟩
 rintro n s3 ⟨i,σ3,H3,I3,st3,fr3,w3⟩
 rcases turn i n σ3 H3 w3 with ⟨stop,qn⟩|⟨go,N,hN,step⟩
 ·refine X9 hp (thn (T.done X rfl rfl rfl hc i pins s3 σ3 H3 X.xe I3 (stat fr3) st3 stop) fun r s4 ⟨hr,I4⟩=>?_)
  subst hr
  exact Wh ⟨σ3,H3,I4,qn⟩
 ·refine X9 hp (thn (T.item X rfl rfl rfl hc i pins s3 σ3 H3 X.xe I3 (stat fr3) st3 go) fun r s4 ⟨u,hr,h4⟩=>?_)
  subst hr
  refine X9 hp (thn h4 fun _ s5 ⟨x,H5,I5,r5,y5,st5,fr5⟩=>?_)
  have I5':=I5.pinned (stat fr5) (T.obj _ _ st5)
  refine X9 hp (thn (hg _ s5 σ3 H5 x u _ I5' r5 (step x H5 y5)) fun _ s6 ⟨σ6,H6,I6,q6⟩=>?_)
  refine X9 hp (thn (hb _ s6 σ6 H6 _ I6 q6) fun f s7 q7=>?_)
  have again:∀ {σ7:St} {H7:Hp},Inv X (pins++jx fp s5.heap) σ7 H7 s7->N σ7 H7->∃ m,m < n/\∃ i σ' H',Inv X pins σ' H' s7/\tn i s7.heap/\(∀ b∈fp,H' b=none)/\W i m σ' H':=fun {σ7 H7} I7 n7=>by
   obtain ⟨m',hm,w7⟩:=hN σ7 H7 n7
   refine ⟨m',hm,i+1,σ7,H7,I7.kL,T.keep _ _ _ st5 fun b hb o e=>(I7.pin (b,o) (ZY _ (ZY _ (kM hb e)))).1,fun b hb=>?_,w7⟩
   obtain ⟨o,e,d⟩:=T.obj _ _ st5 b hb
   exact (I7.pin (b,o) (ZY _ (ZY _ (kM hb e)))).2.1
  cases f with
  | next=>obtain ⟨σ7,H7,I7,n7⟩:=q7; exact again I7 n7
  | cont=>obtain ⟨σ7,H7,I7,n7⟩:=q7; exact again I7 n7
  | brk=>obtain ⟨σ7,H7,I7,q7⟩:=q7; exact ⟨σ7,H7,I7.kL,q7⟩
  | ret v=>obtain ⟨x7,σ7,H7,I7,r7,q7⟩:=q7; exact ⟨x7,σ7,H7,I7.kL,r7,q7⟩
end
end L2
namespace L2
open PySem PySem.Spec PyProof.Rows
abbrev R2:=V->V->Hp->VK->Prop
def OpR (X:Cx) (f:Value->Value->Sem Value) (r:R2):Prop :=
 ∀ (pins:WI) (s:WN) (σ:St) (H:Hp) (x y:V) (v u:W9) (Q:VK),Inv X pins σ H s->RelV x v->RelV y u->r x y H Q ->
  wpAny (model X.prog X.w) X.A (f v u) (EP X pins σ Q) X.xe s
def UnR (X:Cx) (f:Value->Sem Value) (r:V->Hp->VK->Prop):Prop :=
 ∀ (pins:WI) (s:WN) (σ:St) (H:Hp) (x:V) (v:W9) (Q:VK),Inv X pins σ H s->RelV x v->r x H Q ->
  wpAny (model X.prog X.w) X.A (f v) (EP X pins σ Q) X.xe s
def cA (X:Cx) (f:W9) (r:List V->Hp->VK->Prop):Prop :=
 ∀ (pins:WI) (s:WN) (σ:St) (H:Hp) (xs:Ya) (us:WM) (Q:VK),Inv X pins σ H s->Vals xs us->r xs H Q ->
  wpAny (model X.prog X.w) X.A (call f us) (EP X pins σ Q) X.xe s
def rD (X:Cx) (r:V->Hp->(Bool->Hp->Prop)->Prop):Prop :=
 ∀ (pins:WI) (s:WN) (σ:St) (H:Hp) (x:V) (v:W9) (Q:Bool->Hp->Prop),Inv X pins σ H s->RelV x v->r x H Q ->
  wpAny (model X.prog X.w) X.A (truthy v) (TP X pins σ Q) X.xe s
def tOp (r:R2) (ta tb:TE):TE:=fun σ H Q=>ta σ H fun x H1=>tb σ H1 fun y H2=>r x y H2 Q
def tUn (r:V->Hp->VK->Prop) (ta:TE):TE:=fun σ H Q=>ta σ H fun x H1=>r x H1 Q
def rI (C:Int->Int->Prop) (g:Int->Int->V):R2:=fun x y H Q=>∃ i j,x=.int i/\y=.int j/\C i j/\Q (g i j) H
def rI0 (g:Int->Int->V):R2:=fun x y H Q=>∃ i j,x=.int i/\y=.int j/\Q (g i j) H
noncomputable def rU (g:Int->V):V->Hp->VK->Prop:=fun x H Q=>∃ i,x=.int i/\Q (g i) H
section
variable {X:Cx} {a b c:Expr} {ta tb tc:TE} {pos:Pos}
theorem oN (ha:PE X a ta) (hb:PE X b tb) {pins:WI} {s:WN} {σ:St} {H:Hp} {R:V->V->Hp->Prop} (I:Inv X pins σ H s)
  (h:ta σ H fun x H1=>tb σ H1 fun y H2=>R x y H2) {Q:WH} {f:Value->Value->Sem Value}
  (hf:∀ v u s2 x y H2,Inv X pins σ H2 s2->RelV x v->RelV y u->R x y H2->wpAny (model X.prog X.w) X.A (f v u) Q X.xe s2) :
  wpAny (model X.prog X.w) X.A (eval a X.env) (fun v s₁=>wpAny (model X.prog X.w) X.A (eval b X.env) (fun u s₂=>wpAny (model X.prog X.w) X.A (f v u) Q X.xe s₂) X.xe s₁) X.xe s:=by
 refine thn (ha pins s σ H _ I h) fun v s1 ⟨x,H1,I1,r1,q1⟩=>?_
 refine thn (hb pins s1 σ H1 _ I1 q1) fun u s2 ⟨y,H2,I2,r2,q2⟩=>?_
 exact hf v u s2 x y H2 I2 r1 r2 q2
theorem zk {op:Operator} {r:R2} (ho:OpR X (binaryOp op) r) (ha:PE X a ta) (hb:PE X b tb):PE X (.BinOp a op b pos) (tOp r ta tb):=by
 intro pins s σ H Q I h
 exact wpAny_BinOp (oN ha hb I h fun v u s2 x y H2 I2 rx ry q=>ho pins s2 σ H2 x y v u Q I2 rx ry q)
theorem GZ {op:UnaryOp} {r:V->Hp->VK->Prop} (ho:UnR X (unaryOp op) r) (ha:PE X a ta):PE X (.UnaryOp op a pos) (tUn r ta):=by
 intro pins s σ H Q I h
 exact UnaryOp_ (thn (ha pins s σ H _ I h) fun v s1 ⟨x,H1,I1,r1,q1⟩=>ho pins s1 σ H1 x v Q I1 r1 q1)
theorem opI {f:Value->Value->Sem Value} {C:Int->Int->Prop} {g:Int->Int->Int}
  (rule:∀ (i j:Int) (t u:Tok) (s:WN) (Q:WH) (E:WH),C i j->Q (.int (g i j) s.toks) { s with toks:=s.toks+1 }->wpAny (model X.prog X.w) X.A (f (.int i t) (.int j u)) Q E s) :
  OpR X f (rI C fun i j=>.int (g i j)):=by
 intro pins s σ H x y v u Q I rx ry h
 obtain ⟨i,j,rfl,rfl,hc,q⟩:=h
 obtain ⟨t,rfl⟩:=rx
 obtain ⟨t',rfl⟩:=ry
 exact rule i j t t' s _ _ hc ⟨.int (g i j),H,I.tok _,⟨_,rfl⟩,q⟩
theorem qt {f:Value->Value->Sem Value} {g:Int->Int->Int}
  (rule:∀ (i j:Int) (t u:Tok) (s:WN) (Q:WH) (E:WH),Q (.int (g i j) s.toks) { s with toks:=s.toks+1 }->wpAny (model X.prog X.w) X.A (f (.int i t) (.int j u)) Q E s) :
  OpR X f (rI0 fun i j=>.int (g i j)):=by
 intro pins s σ H x y v u Q I rx ry h
 obtain ⟨i,j,rfl,rfl,q⟩:=h
 obtain ⟨t,rfl⟩:=rx
 obtain ⟨t',rfl⟩:=ry
 exact rule i j t t' s _ _ ⟨.int (g i j),H,I.tok _,⟨_,rfl⟩,q⟩
theorem kB {f:Value->Value->Sem Value} {g:Int->Int->Bool}
  (rule:∀ (i j:Int) (t u:Tok) (s:WN) (Q:WH) (E:WH),Q (.bool (g i j)) s->wpAny (model X.prog X.w) X.A (f (.int i t) (.int j u)) Q E s) :
  OpR X f (rI0 fun i j=>.bl (g i j)):=by
 intro pins s σ H x y v u Q I rx ry h
 obtain ⟨i,j,rfl,rfl,q⟩:=h
 obtain ⟨t,rfl⟩:=rx
 obtain ⟨t',rfl⟩:=ry
 exact rule i j t t' s _ _ ⟨.bl (g i j),H,I,rfl,q⟩
def BB (i j:Int):Prop:=0 < j/\j < 1073741824
def nK (i j:Int):Prop:=(-(2 ^ 64) < i/\i < 2 ^ 64)\/(-(2 ^ 64) < j/\j < 2 ^ 64)
theorem nK.ok {i j:Int} (h:nK i j):IntMulOk i j:=by
 rcases h with ⟨h1,h2⟩|⟨h1,h2⟩
 ·exact .of_left (intBits_le_64 h1 h2)
 ·exact .of_right (intBits_le_64 h1 h2)
theorem ER:OpR X (binaryOp .Add) (rI0 fun i j=>.int (i+j)):=qt fun _ _ _ _ _ _ _ q=>add_int q
theorem ye:OpR X (binaryOp .Sub) (rI0 fun i j=>.int (i - j)):=qt fun _ _ _ _ _ _ _ q=>sub_int q
theorem Gb:OpR X (binaryOp .Mult) (rI nK fun i j=>.int (i * j)):=opI fun _ _ _ _ _ _ _ hc q=>mul_int q hc.ok
theorem Fq:OpR X (binaryOp .FloorDiv) (rI BB fun i j=>.int (i / j)):=opI fun i j _ _ _ _ _ hc q=>by
 have h1:(0:Int) < j:=hc.1
 have h2:j < 1073741824:=hc.2
 exact floordiv_int (by omega) (by rw [Int.fdiv_eq_ediv_of_nonneg i (by omega)]; exact q) (.inl (PyProof.noPylong_small (by omega)))
theorem EY:OpR X (binaryOp .Mod) (rI (fun _ j=>0 < j) fun i j=>.int (i % j)):=opI fun i j _ _ _ _ _ hc q=>by
 have h1:(0:Int) < j:=hc
 exact mod_int' (by omega) (by rw [Int.fmod_eq_emod_of_nonneg i (by omega)]; exact q)
theorem unI {f:Value->Sem Value} {g:Int->Int}
  (rule:∀ (i:Int) (t:Tok) (s:WN) (Q:WH) (E:WH),Q (.int (g i) s.toks) { s with toks:=s.toks+1 }->wpAny (model X.prog X.w) X.A (f (.int i t)) Q E s) :
  UnR X f (rU fun i=>.int (g i)):=by
 intro pins s σ H x v Q I rx h
 obtain ⟨i,rfl,q⟩:=h
 obtain ⟨t,rfl⟩:=rx
 exact rule i t s _ _ ⟨.int (g i),H,I.tok _,⟨_,rfl⟩,q⟩
theorem C4:UnR X (unaryOp .USub) (rU fun i=>.int (-i)):=unI fun _ _ _ _ _ q=>neg_int q
end
noncomputable def ud:V->V->Bool
 | .non,.non=>true|.non,.int _=>true|.int _,.non=>true|.non,.bl _=>true|.bl _,.non=>true|.non,.str _=>true|.str _,.non=>true
 | .int _,.int _=>true|.bl _,.bl _=>true|.str _,.str _=>true|.byt _,.byt _=>true
 | .int _,.str _=>true|.str _,.int _=>true|.bl _,.str _=>true|.str _,.bl _=>true
 | _,_=>false
def rNe:R2:=fun x y H Q=>ud x y=true/\Q (.bl (!decide (x=y))) H
theorem nj {i j:Int}:decide (V.int i=V.int j)=(i==j):=by
 rw [Qs]
 simp
theorem p6 {i j:Bool}:decide (V.bl i=V.bl j)=(i==j):=by
 rw [Qs]
 simp
theorem rQ {i j:Str}:decide (V.str i=V.str j)=(i==j):=by
 rw [Qs]
 simp
theorem Dv {i j:Array UInt8}:decide (V.byt i=V.byt j)=(i.toList==j.toList):=by
 rw [Qs]
 cases i
 cases j
 simp
section
variable {X:Cx} {a b c:Expr} {ta tb tc:TE} {pos:Pos}
theorem cB {pins:WI} {σ:St} {H:Hp} {s:WN} {Q:VK} {k k':Bool} (I:Inv X pins σ H s) (q:Q (.bl k) H) (e:k=k'):EP X pins σ Q (.bool k') s:=by
 subst e
 exact ⟨.bl k,H,I,rfl,q⟩
theorem xE:OpR X (compareOp .NotEq) rNe:=by
 intro pins s σ H x y v u Q I rx ry h
 obtain ⟨hs,q⟩:=h
 cases x with
 | non =>
  cases rx
  cases y with
  | non=>cases ry; exact PySem.EqNone.ne_none_none (cB I q (by simp))
  | bl j=>cases ry; exact PySem.EqNone.ne_none_bool (cB I q (by simp))
  | int j=>obtain ⟨t',rfl⟩:=ry; exact PySem.EqNone.ne_none_int (cB I q (by simp))
  | str j=>obtain ⟨t',rfl⟩:=ry; exact PySem.EqNone.ne_none_str (cB I q (by simp))
  | _=>exact absurd (show false=true from hs) Zz
 | bl i =>
  cases rx
  cases y with
  | non=>cases ry; exact PySem.EqNone.ne_bool_none (cB I q (by simp))
  | bl j=>cases ry; exact ne_bool (cB I q (Xn not p6))
  | str j=>obtain ⟨t',rfl⟩:=ry; exact PySem.EqMixed.ne_bool_str (cB I q (by simp))
  | _=>exact absurd (show false=true from hs) Zz
 | int i =>
  obtain ⟨t,rfl⟩:=rx
  cases y with
  | non=>cases ry; exact PySem.EqNone.ne_int_none (cB I q (by simp))
  | int j=>obtain ⟨t',rfl⟩:=ry; exact ne_int (cB I q (Xn not nj))
  | str j=>obtain ⟨t',rfl⟩:=ry; exact PySem.EqMixed.ne_int_str (cB I q (by simp))
  | _=>exact absurd (show false=true from hs) Zz
 | str i =>
  obtain ⟨t,rfl⟩:=rx
  cases y with
  | non=>cases ry; exact PySem.EqNone.ne_str_none (cB I q (by simp))
  | bl j=>cases ry; exact PySem.EqMixed.ne_str_bool (cB I q (by simp))
  | int j=>obtain ⟨t',rfl⟩:=ry; exact PySem.EqMixed.ne_str_int (cB I q (by simp))
  | str j=>obtain ⟨t',rfl⟩:=ry; exact ne_str (cB I q (Xn not rQ))
  | _=>exact absurd (show false=true from hs) Zz
 | byt i =>
  obtain ⟨t,rfl⟩:=rx
  cases y with
  | byt j=>obtain ⟨t',rfl⟩:=ry; exact PySem.W.ne_bytes (cB I q (Xn not Dv))
  | _=>exact absurd (show false=true from hs) Zz
 | _=>cases y <;> exact absurd (show false=true from hs) Zz
theorem Am:OpR X (compareOp .Lt) (rI0 fun i j=>.bl (decide (i < j))):=kB fun _ _ _ _ _ _ _ q=>lt_int q
theorem xx:OpR X (compareOp .LtE) (rI0 fun i j=>.bl (decide (i<=j))):=kB fun _ _ _ _ _ _ _ q=>le_int q
theorem Ax:OpR X (compareOp .Gt) (rI0 fun i j=>.bl (decide (j < i))):=kB fun _ _ _ _ _ _ _ q=>gt_int q
theorem C5:OpR X (compareOp .GtE) (rI0 fun i j=>.bl (decide (j<=i))):=kB fun _ _ _ _ _ _ _ q=>ge_int q
theorem AG {op:CmpOp} {r:R2} (ho:OpR X (compareOp op) r) (ha:PE X a ta) (hb:PE X b tb) (hm:behindInMarks op b=false):PE X (.Compare a [op] [b] pos) (tOp r ta tb):=by
 intro pins s σ H Q I h
 exact wpAny_Compare1 (oN ha hb I h fun v u s2 x y H2 I2 rx ry q=>ho pins s2 σ H2 x y v u Q I2 rx ry q) hm
def rE (t:TE):TT:=fun σ H Q=>t σ H fun x H'=>∃ k,x=.bl k/\Q k H'
theorem Hf {op:CmpOp} {r:R2} (ho:OpR X (compareOp op) r) (ha:PE X a ta) (hb:PE X b tb) (hm:behindInMarks op b=false):PT X (.Compare a [op] [b] pos) (rE (tOp r ta tb)):=by
 intro pins s σ H Q I h
 refine wpAny_isTrue_Compare1 (thn (ha pins s σ H _ I h) fun v s1 ⟨x,H1,I1,r1,q1⟩=>thn (hb pins s1 σ H1 _ I1 q1) fun u s2 ⟨y,H2,I2,r2,q2⟩ =>
  thn (ho pins s2 σ H2 x y v u _ I2 r1 r2 q2) fun c s3 ⟨z,H3,I3,r3,k,e,q3⟩=>?_) hm
 subst e
 cases r3
 exact Xk ⟨H3,I3,q3⟩
def rj (r r':R2) (ta tb tc:TE):TE:=fun σ H Q=>ta σ H fun x H1=>tb σ H1 fun y H2=>r x y H2 fun z H3=>∃ k,z=.bl k /\
 (if k=true then tc σ H3 fun w' H4=>r' y w' H4 Q else Q (.bl false) H3)
theorem EB {op op':CmpOp} {r r':R2} (ho:OpR X (compareOp op) r) (ho':OpR X (compareOp op') r') (ha:PE X a ta) (hb:PE X b tb) (hc:PE X c tc)
  (hm:lastMarks [op,op'] [b,c]=false:=by with_unfolding_all rfl):PE X (.Compare a [op,op'] [b,c] pos) (rj r r' ta tb tc):=by
 intro pins s σ H Q I h
 refine Compare_chain (thn (ha pins s σ H _ I h) fun v s1 ⟨x,H1,I1,r1,q1⟩=>chain_link (thn (hb pins s1 σ H1 _ I1 q1) fun u s2 ⟨y,H2,I2,r2,q2⟩ =>
  thn (ho pins s2 σ H2 x y v u _ I2 r1 r2 q2) fun d s3 ⟨z,H3,I3,r3,k,e,q3⟩=>?_)) hm
 subst e
 cases r3
 refine Xk ?_
 cases k with
 | false=>exact ite_ff ⟨.bl false,H3,I3,rfl,q3⟩
 | true=>exact ite_tt (chain_last (thn (hc pins s3 σ H3 _ I3 q3) fun w' s4 ⟨z',H4,I4,r4,q4⟩=>ho' pins s4 σ H4 y z' u w' Q I4 r2 r4 q4))
theorem Ih {op op':CmpOp} {r r':R2} (ho:OpR X (compareOp op) r) (ho':OpR X (compareOp op') r') (ha:PE X a ta) (hb:PE X b tb) (hc:PE X c tc)
  (hm:lastMarks [op,op'] [b,c]=false:=by with_unfolding_all rfl):PT X (.Compare a [op,op'] [b,c] pos) (rE (rj r r' ta tb tc)):=by
 intro pins s σ H Q I h
 refine isTrue_chain (thn (ha pins s σ H _ I h) fun v s1 ⟨x,H1,I1,r1,q1⟩=>test_link (thn (hb pins s1 σ H1 _ I1 q1) fun u s2 ⟨y,H2,I2,r2,q2⟩ =>
  thn (ho pins s2 σ H2 x y v u _ I2 r1 r2 q2) fun d s3 ⟨z,H3,I3,r3,k,e,q3⟩=>?_)) hm
 subst e
 cases r3
 refine Xk ?_
 cases k with
 | false =>
  obtain ⟨k',e',q'⟩:=q3
  cases e'
  exact ite_ff ⟨H3,I3,q'⟩
 | true =>
  refine ite_tt (test_last (thn (hc pins s3 σ H3 _ I3 q3) fun w' s4 ⟨z',H4,I4,r4,q4⟩=>thn (ho' pins s4 σ H4 y z' u w' _ I4 r2 r4 q4) fun d' s5 ⟨z2,H5,I5,r5,k2,e2,q5⟩=>?_))
  subst e2
  cases r5
  exact Xk ⟨H5,I5,q5⟩
def zY (K:WL) (x:V) (H:Hp) (k:Bool):Prop :=
 match x with
 | .non=>k=false
 | .bl b=>k=b
 | .int i=>k=(i != 0)
 | .str y=>y.length<=sizeLine/\k=((y.length:Int) != 0)
 | .byt y=>y.size<=sizeLine/\k=((y.size:Int) != 0)
 | .ref p=>(∃ xs,SqL K H p xs/\k=!xs.isEmpty)\/(∃ xs,SqT K H p xs/\k=!xs.isEmpty)\/∃ kvs,H p=some (.dK kvs)/\k=!kvs.isEmpty
 | _=>False
theorem CU {κ:Type} {kvs:List (κ × V)} {vs:List (κ × Value)} (r:KV kvs vs):(!vs.isEmpty)=!kvs.isEmpty:=by
 cases r <;> rfl
theorem vO {xs:Ya} {its:WM} (r:Vals xs its):(!its.toArray.isEmpty)=!xs.isEmpty:=by
 cases r <;> simp
theorem kX:(sizeLine:Nat) < 2 ^ 63:=by rw [XC]; decide
theorem Ff:rD X (fun x H Q=>∃ k,zY X.K x H k/\Q k H):=by
 intro pins s σ H x v Q I rx h
 obtain ⟨k,e,q⟩:=h
 have hl:=kX
 have hs:sizeLine=16777216:=XC
 cases x with
 | non =>
  cases rx
  have e':k=false:=e
  subst e'
  exact truthy_none ⟨H,I,q⟩
 | bl b =>
  cases rx
  have e':k=b:=e
  subst e'
  exact Xk ⟨H,I,q⟩
 | int i =>
  obtain ⟨t,rfl⟩:=rx
  have e':k=(i != 0):=e
  subst e'
  exact PySem.P.truthy_int ⟨H,I,q⟩
 | str y =>
  obtain ⟨t,rfl⟩:=rx
  obtain ⟨hy,e'⟩:y.length<=sizeLine/\k=((y.length:Int) != 0):=e
  subst e'
  exact PySem.P.truthy_str (by omega) ⟨H,I.tok _,q⟩
 | byt y =>
  obtain ⟨t,rfl⟩:=rx
  obtain ⟨hy,e'⟩:y.size<=sizeLine/\k=((y.size:Int) != 0):=e
  subst e'
  exact PySem.W.truthy_bytes (by omega) ⟨H,I.tok _,q⟩
 | ref p =>
  cases rx
  have e':(∃ xs,SqL X.K H p xs/\k=!xs.isEmpty)\/(∃ xs,SqT X.K H p xs/\k=!xs.isEmpty)\/∃ kvs,H p=some (.dK kvs)/\k=!kvs.isEmpty:=e
  rcases e' with ⟨xs,hx,e'⟩|⟨xs,hx,e'⟩|⟨kvs,hx,e'⟩
  ·subst e'
   obtain ⟨its,r,pl,hz⟩:=I.list hx
   have hlen:=r.length
   exact wpAny_truthy_list pl.isList (by simp only [Zo]; omega) ⟨H,I.tok _,by rw [vO r]; exact q⟩
  ·subst e'
   obtain ⟨its,r,pl,hz⟩:=I.tuple hx
   have hlen:=r.length
   exact truthy_tuple pl (by simp only [Zo]; omega) ⟨H,I.tok _,by rw [vO r]; exact q⟩
  ·subst e'
   obtain ⟨hz,hS,vs,r,m⟩:kvs.length<=sizeLine/\(p==sysModules)=false/\∃ vs,KV kvs vs/\s.heap.DictOf (bK X.prog X.w) p vs:=I.hok p _ hx
   have hlen:kvs.length=vs.length:=Wf r
   exact wpAny_truthy_dict hS m (by omega) ⟨H,I.tok _,by rw [CU r]; exact q⟩
 | _=>exact (show False from e).elim
theorem vals1 {x:V} {us:WM} (r:Vals [x] us):∃ u,us=[u]/\RelV x u:=by
 cases r with
 | cons r1 r2=>cases r2; exact ⟨_,rfl,r1⟩
theorem vals2 {x y:V} {us:WM} (r:Vals [x,y] us):∃ u w',us=[u,w']/\RelV x u/\RelV y w':=by
 cases r with
 | cons r1 r2 =>
  cases r2 with
  | cons r3 r4=>cases r4; exact ⟨_,_,rfl,r1,r3⟩
theorem yi (hc:X.calm=true):cA X (.builtin "max") (fun xs H Q=>∃ i j,xs=[.int i,.int j]/\Q (.int (if j > i then j else i)) H):=by
 intro pins s σ H xs us Q I r h
 obtain ⟨i,j,rfl,q⟩:=h
 obtain ⟨u,w',rfl,⟨t,rfl⟩,⟨t',rfl⟩⟩:=vals2 r
 refine max_two_ints (I.ok.hd hc) fun h' tk k=>⟨_,H,I.kept k,?_,q⟩
 by_cases hj:j > i
 ·rw [Zd hj,Zd hj]; exact ⟨_,rfl⟩
 ·rw [Ze hj,Ze hj]; exact ⟨_,rfl⟩
end
end L2
namespace L2
open PySem PySem.Spec PyProof.Rows
structure Jh (h:Heap) (x dx C:Addr) (mA:WR):Prop where
 obj:h.get? x=some (PySem.W.instObj C dx)
 ns:h.Ns1 dx mA
 ne:dx≠x
section
variable {prog:WP} {w:WS} {A:WY} {E:WH} {s:WN} {K:WL} {x dx C f:Addr} {mA:WR} {name:Str} {v:W9}
end
theorem dR.some_of {v:V} {o:Option Value} (r:dR (some v) o):∃ u,o=some u/\RelV v u:=by
 cases o with
 | none=>exact (show False from r).elim
 | some u=>exact ⟨u,rfl,r⟩
section
variable {P:WP} {w:WS} {H H':Hp} {h h':Heap} {a C dx:Addr} {fs fs':List (Str × V)}
end
structure Cls (K:WL) (C:Addr):Prop where
 pg:PySem.W.plainGet K C Str.empty=true
 hd:PySem.W.hasDictIn K C=true
 po:PySem.W.plainOver K C=true
 sa:PySem.W.findIn K (.ref C) "__setattr__" = some (some (.builtin "object.__setattr__"))
structure Con (K:WL) (C:Addr) (f:Str) (v:V) (u:W9):Prop where
 at_:PySem.W.findIn K (.ref C) f=some (some u)
 rel:RelV v u
 get:PySem.W.specialIn K u "__get__" = some none
 cp:PySem.W.copiedNames.contains f=false
section
variable {X:Cx} {pins:WI} {σ:St} {H:Hp} {s:WN} {a C dx:Addr} {fs:List (Str × V)} {f:Str} {v:V} {A:WY} {E:WH}
end
section
variable {X:Cx} {o e value:Expr} {f:Str} {pos pos' tpos:Pos} {ta tv:TE}
end
section
variable {X:Cx} {pins:WI} {σ:St} {H:Hp} {s:WN} {A:WY} {E:WH} {Q:WH} {c:W9} {b:Bool}
inductive cZ (K:WL) (H:Hp):V->Value->Prop where
 | non:cZ K H .non (.type "NoneType")
 | bl (x:Bool):cZ K H (.bl x) (.type "bool")
 | int (i:Int):cZ K H (.int i) (.type "int")
 | str (x:Str):cZ K H (.str x) (.type "str")
 | flt (x:UInt64):cZ K H (.flt x) (.type "float")
 | lst {a:Addr} {xs:Ya} (e:H a=some (.lst xs)):cZ K H (.ref a) (.type "list")
 | frz {a:Addr} {o:Obj} {xs:Ya} (e:H a=some (.frz o (.lst xs))):cZ K H (.ref a) (.type "list")
 | tup {a:Addr} {xs:Ya} (e:H a=some (.tup xs)):cZ K H (.ref a) (.type "tuple")
 | dK {a:Addr} {kvs:List (Key × V)} (e:H a=some (.dK kvs)):cZ K H (.ref a) (.type "dict")
 | dT {a:Addr} {kvs:Yb} (e:H a=some (.dT kvs)):cZ K H (.ref a) (.type "dict")
 | ins {a C dx:Addr} {fs:List (Str × V)} (e:H a=some (.ins C dx fs)) (cl:Cls K C) (ha:PySem.W.findIn K (.ref C) "__class__" = some (some (.builtin "object.__class__")))
   (hn:PySem.W.specialIn K (.builtin "object.__class__") "__get__" = some (some (.builtin "getset_descriptor.__get__"))) (htk:PySem.W.takesIn K (.builtin "object.__class__")=some true)
   (hm:PySem.W.mroIn K C (.type "object")=some true):cZ K H (.ref a) (.ref C)
end
end L2
namespace L2
open PySem PySem.Spec PyProof.Rows
structure bW (k:Nat) (A:WY):Prop where
 hd:A.handled=none
 dp:A.depth+3 * k+5 < recursionLimit
 un:A.units+16 * k+200 < cLine
theorem bW.deeper {k:Nat} {A:WY} (r:bW (k+1) A) (env:Env):bW k (A.deeper env) :=
 ⟨r.hd,by have:=r.dp; show A.depth+1+3 * k+5 < _; omega,by have:=r.un; show A.units+3+16 * k+200 < _; omega⟩
theorem bW.depth {k:Nat} {A:WY} (r:bW k A):A.depth < recursionLimit:=by have:=r.dp; omega
theorem bW.units {k:Nat} {A:WY} (r:bW k A):A.units+64 < cLine:=by have:=r.un; omega
def qv:TA:=fun _ H Q=>Q [] H
def yH (ta:TE) (tr:TA):TA:=fun σ H Q=>ta σ H fun x H1=>tr σ H1 fun xs H2=>Q (x::xs) H2
section
variable {X:Cx} {e:Expr} {es:WX} {te:TE} {t:TA} {pos:Pos}
theorem jy:PA X [] qv:=fun _ _ _ _ H Q I h=>Q8 ⟨[],H,I,.nil,h⟩
theorem gA (ha:PE X e te) (hr:PA X es t) (hs:starEach (e::es) X.env=(false,eval e X.env)::starEach es X.env:=by rfl):PA X (e::es) (yH te t):=by
 intro pos pins s σ H Q I h
 rw [hs]
 show wpAny _ _ (spliced ((false,eval e X.env)::backTo pos (starEach es X.env))) _ _ s
 refine QV (thn (ha pins s σ H _ I h) fun u s1 ⟨x,H1,I1,r1,q1⟩=>?_)
 exact thn (hr pos pins s1 σ H1 _ I1 q1) fun us s2 ⟨xs,H2,I2,r2,q2⟩=>⟨x::xs,H2,I2,.cons r1 r2,q2⟩
def Bj (t:TA):TE:=fun σ H Q=>t σ H fun xs H1=>xs.length<=sizeLine/\∀ p,H1 p=none->Q (.ref p) (upd H1 p (.tup xs))
def yQ (t:TA):TE:=fun σ H Q=>t σ H fun xs H1=>xs.length<=sizeLine/\∀ p,H1 p=none->Q (.ref p) (upd H1 p (.lst xs))
theorem zK {x1} (h:PA X es t):PE X (.Tuple es x1 pos) (Bj t):=by
 intro pins s σ H Q I hq
 refine wpAny_Tuple_spliced (thn (h pos pins s σ H _ I hq) fun us s1 ⟨xs,H1,I1,r,z,q⟩=>⟨by rw [<- r.length]; exact z,?_⟩)
 have hf:H1 s1.heap.objs.size=none:=I1.hok.fresh (Zk _)
 refine ⟨.ref s1.heap.objs.size,upd H1 s1.heap.objs.size (.tup xs),I1.laid (t':=s1.toks) (fun b u e=>Zh _ e) (Zk _) ?_,rfl,q _ hf⟩
 exact ⟨z,us,r,⟨_,Zx _ rfl,rfl,_,rfl⟩⟩
theorem Ak (h:PA X es t):PE X (.List es pos) (yQ t):=by
 intro pins s σ H Q I hq
 refine wpAny_List_spliced (thn (h pos pins s σ H _ I hq) fun us s1 ⟨xs,H1,I1,r,z,q⟩=>⟨by rw [<- r.length]; exact z,?_⟩)
 have hf:H1 s1.heap.objs.size=none:=I1.hok.fresh (Zk _)
 refine ⟨.ref s1.heap.objs.size,upd H1 s1.heap.objs.size (.lst xs),I1.laid (t':=s1.toks) (fun b u e=>Zh _ e) (Zk _) ?_,rfl,q _ hf⟩
 exact ⟨z,us,0,r,Zx _ rfl⟩
end
abbrev Sp:=List V->Hp->VK->XK->Prop
abbrev CXT:=List Env->Hp->Shared->XK->Value->Shared->Prop
structure j_ (P:WP) (w:WS) (K:WL) (mg:WR) (base:Heap) (A:WY) (outer:List Env) (s:WN) (H:Hp):Prop where
 frames:A.frames=some outer
 mod:Mod K mg base
 bs:∀ b o,base.get? b=some o->s.heap.get? b=some o/\H b=none
 bsz:base.objs.size<=s.heap.objs.size
 dj:s.heap.FunFrames base outer
 frf:∀ b∈frs outer,H b=none
 hok:HOk P w H s.heap
 bare:AllBare s.gens
def CE (outer:List Env) (P:WP) (w:WS) (H:Hp) (s:WN) (Q:VK) (u:W9) (s':WN):Prop :=
 ∃ v H',s'.os=s.os/\AllBare s'.gens/\Un (frs outer) [] H H' s.heap s'.heap/\HOk P w H' s'.heap/\RelV v u/\Q v H'
def CR (CX:CXT) (outer:List Env) (P:WP) (w:WS) (H:Hp) (s:WN) (Q:VK) (E:XK) (r:Result) (s':WN):Prop :=
 match r with
 | .ok (.ret u)=>CE outer P w H s Q u s'
 | .ok _=>False
 | .error e=>CX outer H s E e s'
structure dW (P:WP) (w:WS) (K:WL) (mg:WR) (base:Heap) (CX:CXT) (k:Nat) (f:Addr) (fd:FuncData) (ps:WU) (sp:Sp):Prop where
 len:∀ vs H Q E,sp vs H Q E->vs.length=ps.length
 run:∀ (A:WY) (outer:List Env) (s:WN) (H:Hp) (args:Args) (us:WM) (vs:Ya) (Q:VK) (E:XK),bW k A->j_ P w K mg base A outer s H->BindsTo s fd args (ps.zip us)->Vals vs us->sp vs H Q E ->
  codeAny (model P w) A (.call (.ref f) args) (CR CX outer P w H s Q E) s
section
variable {X:Cx} {pins:WI} {σ:St} {H:Hp} {s s':WN}
theorem Inv.De (I:Inv X pins σ H s):j_ X.prog X.w X.K X.mg X.base X.A X.stack s H :=
 ⟨I.ok.frames,I.ok.mod,I.bs,Z7 I.ok.bsz I.sz,I.stack,I.nO,I.hok,I.bare⟩
theorem Inv.after {Q:VK} {u:W9} (I:Inv X pins σ H s) (h:CE X.stack X.prog X.w H s Q u s'):EP X pins σ Q u s':=by
 obtain ⟨v,H',os,bare,un,hok,r,q⟩:=h
 obtain ⟨hh,g,d,t,os'⟩:=s'
 obtain rfl:os'=s.os:=os
 exact ⟨v,H',I.call (h':=hh) (g':=g) (d':=d) (t':=t) (ch:=[]) un hok bare (fun b z=>absurd z (by simp)),r,q⟩
end
def nZ (sp:Sp) (dvs:Ya) (E:XK) (t:TA):TE:=fun σ H Q=>t σ H fun vs H1=>sp (vs++dvs) H1 Q E
def Binds (K:WL) (fd:FuncData) (ps:WU) (ds:WM):Prop :=
 ∀ (s:WN) (us:WM),K.In s.heap->(us++ds).length=ps.length->BindsTo s fd ⟨us,[]⟩ (ps.zip (us++ds))
theorem Binds.all {K:WL} {fd:FuncData} {ps:WU} (h:∀ us:List Value,us.length=ps.length->bindArgs fd ⟨us,[]⟩=pure (ps.zip us)):Binds K fd ps []:=fun s us _ hl=>by
 rw [Xl] at hl ⊢
 exact .of_eq (h us hl)
def Passes (CX:CXT) (X:Cx) (E:XK):Prop:=∀ (pins:WI) (σ:St) (H:Hp) (s:WN) (e:W9) (s':WN),Inv X pins σ H s->CX X.stack H s E e s'->X.xe e s'
section
variable {X:Cx} {CX:CXT} {k:Nat} {f C:Addr} {fd:FuncData} {ps:WU} {sp:Sp} {dvs:Ya} {ds:WM} {E:XK} {x m:Str} {p pos apos:Pos} {e o:Expr} {es:WX} {ta:TE} {t:TA}
theorem sy {pins:WI} {σ:St} {H:Hp} {s:WN} {Q:VK} {us:WM} {vs:Ya} (F:dW X.prog X.w X.K X.mg X.base CX k f fd ps sp) (hr:bW k X.A) (hb:Binds X.K fd ps ds) (hd:Vals dvs ds) (hx:Passes CX X E)
  (I:Inv X pins σ H s) (r:Vals vs us) (h:sp (vs++dvs) H Q E):wpAny (model X.prog X.w) X.A (call (.ref f) us) (EP X pins σ Q) X.xe s:=by
 have r2:Vals (vs++dvs) (us++ds):=r.append hd
 have hl:(us++ds).length=ps.length:=by rw [<- r2.length]; exact F.len _ _ _ _ h
 refine wpAny_call (Wi (F.run X.A X.stack s H ⟨us,[]⟩ (us++ds) (vs++dvs) Q E hr I.De (hb s us I.kIn hl) r2 h) fun r s' hq=>?_)
 cases r with
 | error e=>exact hx pins σ H s e s' I hq
 | ok fl =>
  cases fl with
  | ret u=>exact I.after hq
  | next=>exact False.elim hq
  | brk=>exact False.elim hq
  | cont=>exact False.elim hq
theorem Fo (F:dW X.prog X.w X.K X.mg X.base CX k f fd ps sp) (hr:bW k X.A) (hg:Gl X x) (hm:X.mg x=some (.ref f)) (hk:PySem.W.keepIn X.K (.ref f)=true) (hb:Binds X.K fd ps ds) (hd:Vals dvs ds) (hx:Passes CX X E)
  (ha:PA X (e::es) t) (hdb:(x==("__debug__" : Str))=false:=by decide) (he:starEach (e::es) X.env=(false,eval e X.env)::starEach es X.env:=by rfl) (hpl:(backTo pos (starEach es X.env)).any (·.1)=false:=by rfl) :
  PE X (.Call (.Name x p) (e::es) [] pos) (nZ sp dvs E t):=by
 intro pins s σ H Q I h
 refine XO (jI I hg hm ?_ hdb)
 refine PySem.W.callWith_K (h₀:=X.base) I.ok.mod.kin hk (thn (ha pos pins s σ H _ I h) fun us s1 ⟨vs,H1,I1,r,q⟩=>⟨I1.kIn,?_⟩) he hpl
 exact sy F hr hb hd hx I1 r q
theorem xN (F:dW X.prog X.w X.K X.mg X.base CX k f fd ps sp) (hr:bW k X.A) (hg:Gl X x) (hm:X.mg x=some (.ref f)) (hk:PySem.W.keepIn X.K (.ref f)=true) (hb:Binds X.K fd ps ds) (hd:Vals dvs ds) (hx:Passes CX X E)
  (hdb:(x==("__debug__" : Str))=false:=by decide):PE X (.Call (.Name x p) [] [] pos) (nZ sp dvs E qv):=by
 intro pins s σ H Q I h
 refine XO (jI I hg hm ?_ hdb)
 exact PySem.W.callWith_K0 I.kIn hk (sy (us:=[]) F hr hb hd hx I .nil h)
structure Mk (K:WL) (C f:Addr):Prop where
 makes:PySem.W.makesIn K C=true
 init:PySem.W.findIn K (.ref C) "__init__" = some (some (.ref f))
 fn:PySem.W.isFn K (.ref f)=true
 kp:PySem.W.keepIn K (.ref C)=true
end
section
variable {X:Cx} {CX:CXT} {k:Nat} {f C:Addr} {fd:FuncData} {ps ks:WU} {sp:Sp} {E:XK} {x m:Str} {p pos apos kpos:Pos} {e o:Expr} {es:WX} {kws:List Keyword} {te ta:TE} {t tk:TA} {nm:Option Str}
structure IX (K:WL) (fd:FuncData) (ps ks:WU) (g:List Value->List Value->List Value) (gV:List V->List V->List V):Prop where
 to:∀ (s:WN) (us ws:WM),K.In s.heap->(g us ws).length=ps.length->BindsTo s fd ⟨us,ks.zip ws⟩ (ps.zip (g us ws))
 rel:∀ {vs:Ya} {us:WM} {zs:Ya} {ws:WM},Vals vs us->Vals zs ws->Vals (gV vs zs) (g us ws)
variable {g:List Value->List Value->List Value} {gV:List V->List V->List V}
end
structure ow (N P:WU) (sc:Scope):Prop where
 kind:sc.kind=.function
 co:sc.isCoroutine=false
 gen:sc.isGenerator=false
 nd:N.Nodup
 pre:N.take P.length=P
 par:∀ x∈P,sc.names.lookup x=some .local\/sc.names.lookup x=some .cell
 nofree:∀ y∈sc.names,y.2≠.free
theorem qm {kindOf:Str->Option NameKind} {x:Str}:∀ {binds:List (Str × Value)} {m:WR},(∀ v,(x,v) ∉ binds)->bindL kindOf binds m x=m x
 | [],_,_=>rfl
 | (n,v)::r,m,h=>by
  unfold bindL
  rw [qm fun w hw=>h w (Zm _ hw)]
  split
  ·have:x≠n:=by rintro rfl; exact h v Zl
   simp [this]
  ·rfl
theorem rV {kindOf:Str->Option NameKind} {x:Str}:∀ {binds:List (Str × Value)} {m:WR},(∀ v,(x,v) ∉ binds)->bindC kindOf binds m x=m x
 | [],_,_=>rfl
 | (n,v)::r,m,h=>by
  unfold bindC
  rw [rV fun w hw=>h w (Zm _ hw)]
  split
  ·rfl
  ·have:x≠n:=by rintro rfl; exact h v Zl
   simp [this]
theorem uD {kindOf:Str->Option NameKind} {x:Str} {v:W9}:∀ {P:WU} {vs:WM} {i:Nat} {m:WR},P.Nodup->P[i]?=some x->vs[i]?=some v->kindOf x=some .local ->
  bindL kindOf (P.zip vs) m x=some v
 | [],_,_,_,_,h,_,_=>by simp at h
 | _::_,[],_,_,_,_,h,_=>by simp at h
 | p::P,w::vs,0,m,nd,h1,h2,hk=>by
  simp at h1 h2; subst h1; subst h2
  show bindL kindOf ((p,w)::P.zip vs) m p=_
  unfold bindL
  rw [qm fun v hv=>(Xg.mp nd).1 (List.of_mem_zip hv).1,Zd hk]
  simp
 | p::P,w::vs,i+1,m,nd,h1,h2,hk=>by
  show bindL kindOf ((p,w)::P.zip vs) m x=_
  unfold bindL
  exact uD (i:=i) (Xg.mp nd).2 (by simpa using h1) (by simpa using h2) hk
theorem qA {kindOf:Str->Option NameKind} {x:Str} {v:W9}:∀ {P:WU} {vs:WM} {i:Nat} {m:WR},P.Nodup->P[i]?=some x->vs[i]?=some v->kindOf x≠some .local ->
  bindC kindOf (P.zip vs) m x=some v
 | [],_,_,_,_,h,_,_=>by simp at h
 | _::_,[],_,_,_,_,h,_=>by simp at h
 | p::P,w::vs,0,m,nd,h1,h2,hk=>by
  simp at h1 h2; subst h1; subst h2
  show bindC kindOf ((p,w)::P.zip vs) m p=_
  unfold bindC
  rw [rV fun v hv=>(Xg.mp nd).1 (List.of_mem_zip hv).1,Ze hk]
  simp
 | p::P,w::vs,i+1,m,nd,h1,h2,hk=>by
  show bindC kindOf ((p,w)::P.zip vs) m x=_
  unfold bindC
  exact qA (i:=i) (Xg.mp nd).2 (by simpa using h1) (by simpa using h2) hk
noncomputable def start (N:WU) (vs:Ya):St:=vs.map some++List.replicate (N.length - vs.length) none
noncomputable def cV (CX:CXT) (P:WP) (w:WS) (K:WL) (mg:WR) (base:Heap) (N:WU) (qual:Str) (scope:Scope) (f:Addr) (cd:W9) (A:WY) (outer:List Env) (s:WN) (H:Hp) (E:XK):Cx where
 prog:=P
 w:=w
 K:=K
 mg:=mg
 base:=base
 A:=A.deeper (envOfC qual scope s.heap.objs.size f cd)
 N:=N
 s₀:=s
 H₀:=H
 env:=envOfC qual scope s.heap.objs.size f cd
 outer:=outer
 stack:=envOfC qual scope s.heap.objs.size f cd::outer
 ex:=[]
 calm:=true
 fn:=fun _=>true
 pn:=[]
 xe:=fun e s'=>wpAny (model P w) (A.deeper (envOfC qual scope s.heap.objs.size f cd)) (leaving (envOfC qual scope s.heap.objs.size f cd) e) (fun _ s''=>CX outer H s E e s'') (fun e' s''=>CX outer H s E e' s'') s'
theorem nJ {sc:Scope} {n:Nat} {x:Str} (h:sc.names.lookup x=some .cell):∃ c,(cellsFrom n sc.names []).lookup x=some c:=by
 have q:=PySem.W.cellsFrom_some sc.names n [] (.inl h)
 exact Option.isSome_iff_exists.mp q
theorem BL {CX:CXT} {P:WP} {w:WS} {K:WL} {mg:WR} {base:Heap} {N ps:WU} {qual:Str} {scope:Scope} {f:Addr} {cd:W9} {A:WY} {outer:List Env} {s s1:WN} {H:Hp} {E:XK} {us:WM} {vs:Ya}
  (S:ow N ps scope) (hd:A.handled=none) (e0:j_ P w K mg base A outer s H) (hl:vs.length=ps.length) (r:Vals vs us)
  (x:InCallC s s.heap.objs.size (bindL (envOfC qual scope s.heap.objs.size f cd).kindOf (ps.zip us) fun _=>none) (cellsFrom (s.heap.objs.size+1) scope.names []) (bindC (envOfC qual scope s.heap.objs.size f cd).kindOf (ps.zip us) fun _=>none) s1) :
  Inv (cV CX P w K mg base N qual scope f cd A outer s H E) [] (start N vs) H s1:=by
 have hpl:ps.length<=N.length:=by have:=Xn List.length S.pre; rw [X4] at this; omega
 obtain ⟨h1,tk,rfl,hk⟩:=x.done
 have noA:∀ b:Addr,b ∉ (cV CX P w K mg base N qual scope f cd A outer s H E).ex:=fun b z=>absurd (show b∈([]:List Addr) from z) (by simp)
 refine ⟨⟨e0.mod,S.kind,rfl,rfl,Zk _,fun y z c h1 h2=>?_,fun y hy=>?_,fun y c _ h=>?_,fun _=>hd,Around.frames_deeper e0.frames,.inr ⟨rfl,rfl⟩,fun b z=>absurd z (noA b),e0.bs,e0.bsz,fun b _ _=>noA b,fun b z=>absurd z (noA b),e0.dj,e0.frf⟩,
  rfl,e0.bare,Un.kept hk,⟨_,x.toInCall.ns,fun i y v h1 h2 h3=>?_⟩,fun y c h=>⟨_,x.cell y c h⟩,e0.hok.fresh (Zk _),fun y c h=>?_,fun p hp=>absurd (show p∈([]:List (Addr × Obj)) from hp) (by simp),e0.hok.kept hk,?_⟩
 ·exact name_of_addr x.apart (Qo h1) (Qo h2)
 ·have hy:scope.names.lookup y=some .cell\/scope.names.lookup y=some .free:=hy
  rcases hy with hy|hy
  ·exact nJ hy
  ·exact absurd rfl (S.nofree _ (Qo hy))
 ·exact Qj (x.above y c (Qo h))
 ·have hi:i < vs.length:=by
   unfold start at h2
   by_cases hi:i < vs.length
   ·exact hi
   ·rw [ZP (by simpa using hi)] at h2
    rw [X2] at h2
    split at h2 <;> cases h2
  have ha:vs[i]?=some v:=by
   unfold start at h2
   rw [ZF (by simpa using hi),ZK] at h2
   cases e:vs[i]? with
   | none=>rw [e] at h2; cases h2
   | some a=>rw [e] at h2; cases h2; rfl
  obtain ⟨u,hu,rv⟩:=r.get ha
  have hp:ps[i]?=some y:=by
   rw [<- S.pre,QW (by omega)]; exact h1
  have ndP:ps.Nodup:=by rw [<- S.pre]; exact S.nd.sublist (WA _ _)
  refine ⟨u,rv,?_⟩
  rcases S.par y (ZA hp) with k|k
  ·exact .inl ⟨k,uD ndP hp hu k⟩
  ·obtain ⟨c,e⟩:=nJ (n:=s.heap.objs.size+1) k
   refine .inr ⟨.inl k,c,e,?_⟩
   have q:=x.cell y c e
   rw [qA ndP hp hu (by show scope.names.lookup y≠_; rw [k]; decide)] at q
   exact q
 ·exact e0.hok.fresh (Qj (x.above y c (Qo h)))
 ·unfold start
  show _=N.length
  rw [Zp,Zb,List.length_replicate]
  omega
theorem Hj {CX:CXT} {P:WP} {w:WS} {K:WL} {mg:WR} {base:Heap} {k:Nat} {f:Addr} {name qual:Str} {params:Arguments} {body:List Stmt} {scope:Scope} {dV kV doc pm cdv ct oc:W9} {an od:W5}
  {osl:W0} {N ps:WU} {sp:Sp} (lk:K.lookup f=some ⟨oc,od,.func (PySem.W.fnOf name qual params body scope dV kV doc pm an cdv ct),osl⟩) (hcd:PySem.W.codeIn K cdv qual=true) (S:ow N ps scope)
  (len:∀ vs H Q E,sp vs H Q E->vs.length=ps.length)
  (hbody:∀ (A:WY) (outer:List Env) (s:WN) (H:Hp) (vs:Ya) (Q:VK) (E:XK),bW k (A.deeper (envOfC qual scope s.heap.objs.size f cdv))->sp vs H Q E ->
   ∃ t,PSs (cV CX P w K mg base N qual scope f cdv A outer s H E) body t/\t { nx:=fun _ H'=>Q .non H',rt:=Q } (start N vs) H) :
  dW P w K mg base CX (k+1) f (PySem.W.fnOf name qual params body scope dV kV doc pm an cdv ct) ps sp:=by
 refine ⟨len,fun A outer s H args us vs Q E hr e0 hb r hsp=>?_⟩
 have hl:=len _ _ _ _ hsp
 have KX:K.In s.heap:=e0.mod.kin.keeps fun b o e=>(e0.bs b o e).1
 have lim:s.heap.NoLimit:=e0.mod.nolimit.keeps fun b o e=>(e0.bs b o e).1
 have hkind:∀ y∈ps.zip us,scope.names.lookup y.1=some .local\/(scope.names.lookup y.1=some .cell/\((cellsFrom (s.heap.objs.size+1) scope.names []).lookup y.1).isSome=true):=fun ⟨n,v⟩ hy=>by
  rcases S.par n (List.of_mem_zip hy).1 with q|q
  ·exact .inl q
  ·exact .inr ⟨q,PySem.W.cellsFrom_some _ _ _ (.inl q)⟩
 refine codeAny_call_function hr.depth (KX _ _ lk) rfl S.co S.gen rfl (PySem.W.codeRec_of KX hcd) (hb _ _ _ _ ?_)
 refine wpAny_newFunctionEnv_cells S.kind hkind fun env he s1 x=>?_
 subst he
 refine ⟨lim.keeps x.toInCall.keep,codeAny_func ?_⟩
 obtain ⟨t,ht,hq⟩:=hbody A outer s H vs Q E (hr.deeper _) hsp
 have I:Inv (cV CX P w K mg base N qual scope f cdv A outer s H E) [] (start N vs) H s1:=BL S hr.hd e0 hl r x
 refine Xu (ht [] s1 (start N vs) H _ I hq) (fun fl s' hs=>?_) fun e s' hs=>hs
 have fin:∀ {σ':St} {H':Hp} {v:V} {u:W9},Inv (cV CX P w K mg base N qual scope f cdv A outer s H E) [] σ' H' s'->RelV v u->Q v H'->CE outer P w H s Q u s' :=
  fun {σ' H' v u} J rv q=>⟨v,H',J.os,J.bare,J.base,J.hok,rv,q⟩
 cases fl with
 | ret u =>
  obtain ⟨v,σ',H',J,rv,q⟩:=hs
  exact fin J rv q
 | next =>
  obtain ⟨σ',H',J,q⟩:=hs
  exact fin (v:=V.non) (u:=Value.none) J rfl q
 | brk =>
  obtain ⟨_,_,_,q⟩:=hs
  exact False.elim q
 | cont =>
  obtain ⟨_,_,_,q⟩:=hs
  exact False.elim q
end L2
namespace L2
open PySem PySem.Spec PyProof.Rows
section
variable {X:Cx} {x:Str} {p pos:Pos} {e:Expr} {es:WX} {t:TA} {id T:String} {r:List V->Hp->VK->Prop}
def tCB (r:List V->Hp->VK->Prop) (t:TA):TE:=fun σ H Q=>t σ H fun vs H1=>r vs H1 Q
theorem wD (hc:cA X (.builtin id) r) (hg:Gl X x) (hm:X.mg x=none) (hv:bootBuiltins x=some (.builtin id)) (ha:PA X (e::es) t) (hn:x≠"__name__":=by decide) (hdb:(x==("__debug__" : Str))=false:=by decide)
  (he:starEach (e::es) X.env=(false,eval e X.env)::starEach es X.env:=by rfl) (hpl:(backTo pos (starEach es X.env)).any (·.1)=false:=by rfl):PE X (.Call (.Name x p) (e::es) [] pos) (tCB r t):=by
 intro pins s σ H Q I h
 refine XO (cP I hg hm hv ?_ hn hdb)
 exact PyProof.Rows.callWith_builtin1 (thn (ha pos pins s σ H _ I h) fun us s1 ⟨vs,H1,I1,r1,q1⟩=>hc pins s1 σ H1 vs us Q I1 r1 q1) he hpl
theorem pM (hc:cA X (.type T) r) (hg:Gl X x) (hm:X.mg x=none) (hv:bootBuiltins x=some (.type T)) (ha:PA X (e::es) t) (hn:x≠"__name__":=by decide) (hdb:(x==("__debug__" : Str))=false:=by decide)
  (he:starEach (e::es) X.env=(false,eval e X.env)::starEach es X.env:=by rfl) (hpl:(backTo pos (starEach es X.env)).any (·.1)=false:=by rfl):PE X (.Call (.Name x p) (e::es) [] pos) (tCB r t):=by
 intro pins s σ H Q I h
 refine XO (cP I hg hm hv ?_ hn hdb)
 exact Z3 (thn (ha pos pins s σ H _ I h) fun us s1 ⟨vs,H1,I1,r1,q1⟩=>hc pins s1 σ H1 vs us Q I1 r1 q1) he hpl
end
end L2
namespace HT
open PySem PyProof.Rows
section
open PySem.SeqAt
open PySem.AutoSeq1 (wpAny_loadPart')
open PySem.MeetsSeq PySem.MeetsSeq2 PySem.MeetsSeq3
end
section
variable {prog:WP} {w:WS} {A:WY} {E:WH} {s:WN}
end
end HT
namespace L2
open PySem PySem.Spec PyProof.Rows
theorem intsAre_of {ns:WJ}:∀ {us:WM},Vals (ns.map V.int) us->IntsAre us ns:=by
 induction ns with
 | nil=>intro us r; rw [X7] at r; cases r; exact .nil
 | cons n ns ih =>
  intro us r
  rw [ZC] at r
  cases r with
  | cons r1 r2 =>
   obtain ⟨t,e⟩:=r1
   subst e
   exact .cons n t (ih r2)
section
variable {X:Cx} {e:Expr} {te:TE} {lo hi:Option Expr} {tl th:TO} {pos p2:Pos}
end
end L2
namespace L2
open PySem PySem.Spec PyProof.Rows
noncomputable def ixN (n:Nat) (i:Int):Option Nat:=if 0<=i then (if i < n then some i.toNat else none) else if -(n:Int)<=i then some (i+n).toNat else none
noncomputable def atI {α:Type} (xs:List α) (i:Int):Option α:=(ixN xs.length i).bind fun j=>xs[j]?
theorem yD {n:Nat} {i:Int} {j:Nat} (h:ixN n i=some j):seqIndex? i n=some j/\j < n/\-(n:Int)<=i/\i < n:=by
 unfold ixN at h
 by_cases h0:0<=i
 ·rw [Zd h0] at h
  by_cases h1:i < n
  ·rw [Zd h1] at h
   have e:i.toNat=j:=Z0 h
   exact ⟨by rw [seqIndex_of h0 h1,e],by omega,by omega,h1⟩
  ·rw [Ze h1] at h; cases h
 ·rw [Ze h0] at h
  by_cases h1:-(n:Int)<=i
  ·rw [Zd h1] at h
   have e:(i+n).toNat=j:=Z0 h
   exact ⟨by rw [seqIndex_neg (by omega) h1,e],by omega,h1,by omega⟩
  ·rw [Ze h1] at h; cases h
theorem uP {α:Type} {xs:List α} {i:Int} {v:α} (h:atI xs i=some v):∃ j,seqIndex? i xs.length=some j/\xs[j]?=some v/\j < xs.length/\-(xs.length:Int)<=i/\i < xs.length:=by
 unfold atI at h
 cases e:ixN xs.length i with
 | none=>rw [e] at h; cases h
 | some j =>
  rw [e] at h
  obtain ⟨h1,h2,h3,h4⟩:=yD e
  exact ⟨j,h1,h,h2,h3,h4⟩
def oZ (b:Expr):Prop:=∀ o i,subscripted b false o i=operate [o,i] (getItem o i)
def IxR (X:Cx) (r:R2):Prop :=
 ∀ (value slice:Expr) (pins:WI) (s:WN) (σ:St) (H:Hp) (x y:V) (v u:W9) (Q:VK),Inv X pins σ H s->RelV x v->RelV y u->r x y H Q ->
  subscripted slice false v u=operate [v,u] (getItem v u)->wpAny (model X.prog X.w) X.A (subscriptTail value slice v u) (EP X pins σ Q) X.xe s
def MtR (X:Cx) (id:String) (r:V->List V->Hp->VK->Prop):Prop :=
 ∀ (pins:WI) (s:WN) (σ:St) (H:Hp) (x:V) (xs:Ya) (v:W9) (us:WM) (Q:VK),Inv X pins σ H s->RelV x v->Vals xs us->r x xs H Q ->
  wpAny (model X.prog X.w) X.A (call (.builtin id) (v::us)) (EP X pins σ Q) X.xe s
section
variable {X:Cx} {a b:Expr} {ta tb:TE} {pos:Pos}
theorem GS {r:R2} (hr:IxR X r) (ha:PE X a ta) (hb:PE X b tb) (hs:oZ b):PE X (.Subscript a b pos) (tOp r ta tb):=by
 intro pins s σ H Q I h
 exact Subscript_ (oN ha hb I h fun v u s2 x y H2 I2 rx ry q=>hr a b pins s2 σ H2 x y v u Q I2 rx ry q (hs _ _))
def xK (K:WL):R2:=fun x y H Q=>∃ p xs i v,x=.ref p/\y=.int i/\SqL K H p xs/\atI xs i=some v/\Q v H
def zH (K:WL):R2:=fun x y H Q=>∃ p xs i v,x=.ref p/\y=.int i/\SqT K H p xs/\atI xs i=some v/\Q v H
theorem BJ:IxR X (xK X.K):=by
 intro value slice pins s σ H x y v u Q I rx ry h hs
 obtain ⟨p,xs,i,z,rfl,rfl,hq,he,q⟩:=h
 cases rx
 obtain ⟨t,rfl⟩:=ry
 obtain ⟨its,r,pl,hz⟩:=I.list hq
 obtain ⟨j,h1,h2,h3,h4,h5⟩:=uP he
 obtain ⟨w,ew,rw'⟩:=r.get h2
 have hl:=r.length
 have hn:=kX
 have fin:EP X pins σ Q w s:=⟨z,H,I,rw',q⟩
 by_cases h0:0<=i
 ·have hj:i.toNat=j:=by
   rw [seqIndex_of h0 h5] at h1
   exact Z0 h1
  exact item_listR pl.isList h0 (by omega) (by rw [hj]; simpa using ew) fin hs
 ·have hj:(i+(its.toArray.size:Int)).toNat=j:=by
   rw [seqIndex_neg (by omega) h4] at h1
   rw [Zo,<- hl]
   exact Z0 h1
  exact subscriptTail_builtinR (x:=w) pl.isList.typeIs slot_list_getitem.lookup
   (wpAny_getItem_list_neg (Q:=fun r s'=>r=w/\EP X pins σ Q r s') pl.isList (by omega) (by rw [Zo] <;> omega) (by omega) (by rw [hj]; simpa using ew) ⟨rfl,fin⟩) hs
theorem Cg:IxR X (zH X.K):=by
 intro value slice pins s σ H x y v u Q I rx ry h hs
 obtain ⟨p,xs,i,z,rfl,rfl,hq,he,q⟩:=h
 cases rx
 obtain ⟨t,rfl⟩:=ry
 obtain ⟨its,r,pl,hz⟩:=I.tuple hq
 obtain ⟨j,h1,h2,h3,h4,h5⟩:=uP he
 obtain ⟨w,ew,rw'⟩:=r.get h2
 have hl:=r.length
 have hn:=kX
 have fin:EP X pins σ Q w s:=⟨z,H,I,rw',q⟩
 exact subscriptTail_builtinR (x:=w) pl.typeIs slot_tuple_getitem.lookup
  (getItem_tuple (j:=j) (Q:=fun r s'=>r=w/\EP X pins σ Q r s') pl (by omega) (by omega) (by rw [Zo,<- hl]; exact h1) (by simpa using ew) ⟨rfl,fin⟩) hs
noncomputable def zz:V->Bool
 | .non=>true
 | .bl _=>true
 | .int _=>true
 | .str _=>true
 | _=>false
theorem FN:cA X (.builtin "len") (fun xs H Q=>∃ p ys,xs=[.ref p]/\(SqL X.K H p ys\/SqT X.K H p ys)/\Q (.int ys.length) H):=by
 intro pins s σ H xs us Q I r h
 obtain ⟨p,ys,rfl,hq,q⟩:=h
 obtain ⟨u,rfl,rx⟩:=vals1 r
 cases rx
 have hn:=kX
 rcases hq with hq|hq
 ·obtain ⟨its,r',pl,hz⟩:=I.list hq
  have hlen:=r'.length
  exact Calls.call_len_list pl.isList (by simp only [Zo] <;> omega) ⟨.int ys.length,H,I.tok _,⟨s.toks+1,by rw [Zo,hlen]⟩,q⟩
 ·obtain ⟨its,r',pl,hz⟩:=I.tuple hq
  have hlen:=r'.length
  exact len_tuple pl (by simp only [Zo] <;> omega) ⟨.int ys.length,H,I.tok _,⟨s.toks+1,by rw [Zo,hlen]⟩,q⟩
theorem oB:cA X (.type "tuple") (fun xs H Q=>∃ p ys,xs=[.ref p]/\((SqL X.K H p ys/\∀ l,H l=none->Q (.ref l) (upd H l (.tup ys)))\/(SqT X.K H p ys/\Q (.ref p) H))):=by
 intro pins s σ H xs us Q I r h
 obtain ⟨p,ys,rfl,h⟩:=h
 obtain ⟨u,rfl,rx⟩:=vals1 r
 cases rx
 rcases h with ⟨hq,q⟩|⟨hq,q⟩
 ·obtain ⟨its,r',pl,hz⟩:=I.list hq
  have hlen:=r'.length
  refine call_tuple_list pl.isList (fun h' kp=>?_) (by simp only [Zo] <;> omega)
  have I1:Inv X pins σ H { s with heap:=h' }:=I.kept (t':=s.toks) kp
  have I2:Inv X pins σ (upd H h'.objs.size (.tup ys)) { s with heap:=h'.push { cls:=.type "tuple",data:=.seq its.toArray } } :=
   I1.laid (t':=s.toks) (fun b o e=>Zh _ e) (Zk _) (show aW X.prog X.w _ _ _ (.tup ys) from ⟨hz,its,r',IsTup.new _ _⟩)
  exact ⟨.ref h'.objs.size,_,I2,rfl,q _ (I1.hok.fresh (Zk _))⟩
 ·obtain ⟨its,r',pl,hz⟩:=I.tuple hq
  exact call_tuple_same pl ⟨.ref p,H,I,rfl,q⟩
def tyV (K:WL) (T:String) (x:V) (H:Hp):Prop:=match x with
 | .str _=>T = "str"
 | .int _=>T = "int"
 | .ref p=>(T = "list"/\∃ xs,SqL K H p xs)\/(T = "tuple"/\∃ o,K.lookup p=some o/\o.cls=.type "tuple"/\o.dict=none) \/
   (T = "dict"/\((∃ kvs,H p=some (.dK kvs))\/∃ kvs,H p=some (.dT kvs)))\/(T = "set"/\∃ S n,H p=some (.set S n))
 | _=>False
theorem qK {pins:WI} {σ:St} {H:Hp} {s:WN} {T:String} {x:V} {v:W9} (I:Inv X pins σ H s) (r:RelV x v) (ty:tyV X.K T x H) :
  s.TypeIs v T/\∀ a,v=.ref a->∃ ob,s.heap.get? a=some ob/\ob.dict=none:=by
 cases x with
 | str z =>
  obtain ⟨t,rfl⟩:=r
  cases (show T = "str" from ty)
  exact ⟨typeIs_str s z t,fun _ e=>nomatch e⟩
 | int i =>
  obtain ⟨t,rfl⟩:=r
  cases (show T = "int" from ty)
  exact ⟨typeIs_int s i t,fun _ e=>nomatch e⟩
 | ref p =>
  cases r
  rcases ty with ⟨rfl,xs,hq⟩|⟨rfl,o,hk,hc,hd⟩|⟨rfl,hk⟩|⟨rfl,S,n,hk⟩
  ·obtain ⟨its,_,pl,_⟩:=I.list hq
   refine ⟨pl.isList.typeIs,fun a e=>?_⟩
   cases e
   obtain ⟨o,n,e,c,hd,_⟩:=pl
   exact ⟨o,e,hd⟩
  ·refine ⟨⟨o,I.kIn p o hk,hc⟩,fun a e=>?_⟩
   cases e
   exact ⟨o,I.kIn _ o hk,hd⟩
  ·have z:∃ o,s.heap.get? p=some o/\o.ExactDict:=by
    rcases hk with ⟨kvs,hk⟩|⟨kvs,hk⟩
    ·obtain ⟨_,_,_,_,o,_,_,e,ex,_⟩:=I.hok p _ hk
     exact ⟨o,e,ex⟩
    ·obtain ⟨_,_,_,_,o,_,_,e,ex,_⟩:=I.hok p _ hk
     exact ⟨o,e,ex⟩
   obtain ⟨o,e,ex⟩:=z
   refine ⟨⟨o,e,ex.1⟩,fun a e2=>?_⟩
   cases e2
   exact ⟨o,e,ex.2.1⟩
  ·obtain ⟨o,_,_,_,e,ex,_⟩:=I.hok p _ hk
   refine ⟨⟨o,e,ex.1⟩,fun a e2=>?_⟩
   cases e2
   exact ⟨o,e,ex.2.1⟩
 | _=>exact False.elim ty
def yj (K:WL) (T:String) (r:V->List V->Hp->VK->Prop) (to:TE):TE:=fun σ H Q=>to σ H fun x H1=>tyV K T x H1/\r x [] H1 Q
def tBM (K:WL) (T:String) (r:V->List V->Hp->VK->Prop) (to:TE) (t:TA):TE:=fun σ H Q=>to σ H fun x H1=>tyV K T x H1/\t σ H1 fun xs H2=>r x xs H2 Q
variable {o e:Expr} {es:WX} {to:TE} {t:TA} {name:Str} {apos cpos:Pos} {T id:String} {r:V->List V->Hp->VK->Prop}
theorem Ac (pa:PlainAttrs T) (slot:Slot T name id) (hty:typeOf (.builtin id)=pure (.type "method_descriptor")) (hm:MtR X id r) (ho:PE X o to)
  (hbase:attributeBase o name X.env (eval o X.env)=eval o X.env:=by rfl) (hline:(apos.endLine==cpos.line)=true:=by rfl):PE X (.Call (.Attribute o name apos) [] [] cpos) (yj X.K T r to):=by
 intro pins s σ H Q I h
 refine wpAny_Call_method0_late hbase hline (thn (ho pins s σ H _ I h) fun v s1 ⟨x,H1,I1,r1,ty,q1⟩=>?_)
 obtain ⟨h1,h2⟩:=qK I1 r1 ty
 exact ⟨T,id,pa,slot,hty,h1,h2,Wc rfl (PySem.evalArgs_none (hm pins s1 σ H1 x [] v [] Q I1 r1 .nil q1))⟩
theorem Fv (pa:PlainAttrs T) (slot:Slot T name id) (hty:typeOf (.builtin id)=pure (.type "method_descriptor")) (hm:MtR X id r) (ho:PE X o to) (ha:PA X (e::es) t)
  (hbase:attributeBase o name X.env (eval o X.env)=eval o X.env:=by rfl)
  (hfew:((backTo cpos (starEach (e::es) X.env)).all (fun x=>!x.1)&&(backToKw cpos (keywordEach [] X.env)).all (fun x=>x.1.isSome)
  &&decide ((e::es).length+([]:List Keyword).length+(if ([]:List Keyword).isEmpty then 0 else 1) < 30))=true:=by rfl)
  (hline:(apos.endLine==cpos.line)=true:=by rfl) (hs:starEach (e::es) X.env=(false,eval e X.env)::starEach es X.env:=by rfl) (hplain:(backTo cpos (starEach es X.env)).any (·.1)=false:=by rfl) :
  PE X (.Call (.Attribute o name apos) (e::es) [] cpos) (tBM X.K T r to t):=by
 intro pins s σ H Q I h
 refine wpAny_Call_method_late hbase hfew hline rfl (thn (ho pins s σ H _ I h) fun v s1 ⟨x,H1,I1,r1,ty,q1⟩=>?_)
 obtain ⟨h1,h2⟩:=qK I1 r1 ty
 refine ⟨T,id,pa,slot,hty,h1,h2,?_⟩
 have hA:=ha cpos pins s1 σ H1 _ I1 q1
 rw [hs] at hA ⊢
 refine Wc (by show (false||(backTo cpos (starEach es X.env)).any (·.1))=false; rw [hplain] <;> rfl) (Calls.evalArgs_plain ?_)
 exact thn hA fun us s2 ⟨vs,H2,I2,r2,q2⟩=>hm pins s2 σ H2 x vs v us Q I2 r1 r2 q2
/- xs.append(e),list.index on a module's tuple .. are MtR facts of 06m -/
end
end L2
namespace L2
open PySem PySem.Spec PyProof.Rows
def MtM (X:Cx) (id:String) (r:V->List V->Hp->VK->Prop):Prop :=
 ∀ (pins:WI) (s:WN) (σ:St) (H:Hp) (x:V) (xs:Ya) (v:W9) (us:WM) (Q:VK),Inv X pins σ H s->RelV x v->Vals xs us->r x xs H Q ->
  wpAny (model X.prog X.w) X.A (call (.builtin id) (v::us)) (EP X pins σ Q) X.xe s
theorem Vals.one:∀ {x:V} {us:WM},Vals [x] us->∃ u,us=[u]/\RelV x u
 | _,_,.cons r .nil=>⟨_,rfl,r⟩
theorem Vals.two:∀ {x y:V} {us:WM},Vals [x,y] us->∃ u v,us=[u,v]/\RelV x u/\RelV y v
 | _,_,_,.cons r (.cons q .nil)=>⟨_,_,rfl,r,q⟩
theorem Vals.zero:∀ {us:WM},Vals [] us->us=[]
 | _,.nil=>rfl
theorem Vals.dropLast {xs:Ya} {us:WM} (h:Vals xs us):Vals xs.dropLast us.dropLast:=by
 induction h with
 | nil=>exact .nil
 | cons r t ih =>
  cases t with
  | nil=>exact .nil
  | cons q t'=>exact .cons r ih
theorem Ao {α:Type} (l:List α):l.eraseIdx (l.length - 1)=l.dropLast:=by
 induction l with
 | nil=>rfl
 | cons a r ih =>
  cases r with
  | nil=>rfl
  | cons b r =>
   have e:(a::b::r).length - 1=((b::r).length - 1)+1:=by
    have h1:(a::b::r).length=r.length+2:=rfl
    have h2:(b::r).length=r.length+1:=rfl
    omega
   rw [e,List.eraseIdx_cons_succ,ih]
   all_goals rfl
section
variable {X:Cx} {pins:WI} {σ:St} {H:Hp} {s:WN} {l b:Addr} {xs ys zs:Ya}
theorem Inv.lR {its its':WM} {n:Nat} {f:Array Value->Array Value} {t':Nat} (I:Inv X pins σ H s) (hH:H l=some (.lst xs))
  (e:s.heap.get? l=some { cls:=.type "list",data:=.seq its.toArray n }) (hf:f its.toArray=its'.toArray) (hv:Vals ys its') (hz:ys.length<=sizeLine) :
  Inv X pins σ (upd H l (.lst ys)) { s with heap:=s.heap.update l (Obj.mapSeq f),toks:=t' }:=by
 have q:=PySem.IsL.update e f
 rw [hf] at q
 refine I.write (x:=l) (e:=l) (by rw [hH]; exact trivial) (.inl rfl) (fun b' u hb hu=>(QA s.heap (Obj.mapSeq f) (Ne.symm hb)).trans hu) ⟨_,q⟩ ?_
 exact ⟨hz,its',_,hv,q⟩
theorem Inv.E8 {its:WM} {t':Nat} (I:Inv X pins σ H s) (hv:Vals ys its) (hz:ys.length<=sizeLine) :
  Inv X pins σ (upd H s.heap.objs.size (.lst ys)) { s with heap:=s.heap.push { cls:=.type "list",data:=.seq its.toArray },toks:=t' } :=
 I.laid (fun _ _ q=>Zh _ q) (Zk _) ⟨hz,its,0,hv,Zx _ rfl⟩
theorem Inv.fresh (I:Inv X pins σ H s):H s.heap.objs.size=none:=I.hok.fresh (Zk _)
theorem Inv.gU (I:Inv X pins σ H s) (hH:H l=some (.lst xs)):xs.length<=sizeLine/\∃ (its:WM) (n:Nat),Vals xs its/\xs.length=its.length/\s.heap.get? l=some { cls:=.type "list",data:=.seq its.toArray n }:=by
 obtain ⟨z,its,n,r,e⟩:=I.hok l _ hH
 exact ⟨z,its,n,r,r.length,e⟩
theorem Fe {n:Nat} (h:n<=sizeLine):Builtin.List.listTooLong n=false:=by
 unfold Builtin.List.listTooLong
 exact Zq (by omega)
end
section
variable {X:Cx}
noncomputable def Bb:V->List V->Hp->VK->Prop:=fun x vs H Q=>∃ l xs y,x=.ref l/\vs=[y]/\H l=some (.lst xs)/\xs.length < sizeLine/\Q .non (upd H l (.lst (xs++[y])))
theorem tP:MtM X "list.append" Bb:=by
 intro pins s σ H x vs v us Q I rx rv h
 obtain ⟨l,xs,y,rfl,rfl,hH,hz,q⟩:=h
 cases rx
 obtain ⟨u,rfl,ru⟩:=rv.one
 obtain ⟨z,its,n,r,hl,e⟩:=I.gU hH
 refine call_meets F.slot_list_append ⟨_,e,rfl⟩ F.entry_list_append (F.args_list_append_2 _ _) (PySem.list_append l its.toArray n u (by rw [Zo]; omega)) ⟨e,?_⟩
 refine ⟨.non,_,I.lR (its':=its++[u]) hH e (by simp) (r.append (.cons ru .nil)) ?_,rfl,q⟩
 rw [Zp,Xy]
 omega
noncomputable def F5:V->List V->Hp->VK->Prop:=fun x vs H Q=>∃ l b xs zs,x=.ref l/\vs=[.ref b]/\H l=some (.lst xs)/\H b=some (.lst zs)/\xs.length+zs.length<=sizeLine/\Q .non (upd H l (.lst (xs++zs)))
theorem BZ:MtM X "list.extend" F5:=by
 intro pins s σ H x vs v us Q I rx rv h
 obtain ⟨l,b,xs,zs,rfl,rfl,hH,hB,hz,q⟩:=h
 cases rx
 obtain ⟨u,rfl,ru⟩:=rv.one
 cases ru
 obtain ⟨z,its,n,r,hl,e⟩:=I.gU hH
 obtain ⟨z2,its2,n2,r2,hl2,e2⟩:=I.gU hB
 have hsz:its.toArray.size+its2.toArray.size<=sizeLine:=by rw [Zo,Zo]; omega
 have hlong:¬ (!its.toArray.isEmpty&&Builtin.List.listTooLong (its.toArray.size+its2.toArray.size))=true:=by
  rw [Fe hsz,Bool.and_false]
  exact Zz
 refine call_meets F.slot_list_extend ⟨_,e,rfl⟩ F.entry_list_extend (F.args_list_extend_2 _ _)
  (AutoSeq1.list_extend_list_list_0 l its.toArray n b its2.toArray n2 hlong (by rw [Zo]; omega) (by omega)) ⟨e,e2,?_⟩
 refine ⟨.non,_,I.lR (its':=its++its2) hH e (by simp) (r.append r2) ?_,rfl,q⟩
 rw [Zp]
 omega
noncomputable def Fw:V->List V->Hp->VK->Prop:=fun x vs H Q=>∃ l xs y,x=.ref l/\vs=[]/\H l=some (.lst xs)/\xs[xs.length - 1]?=some y/\Q y (upd H l (.lst xs.dropLast))
theorem Ej:MtM X "list.pop" Fw:=by
 intro pins s σ H x vs v us Q I rx rv h
 obtain ⟨l,xs,y,rfl,rfl,hH,hy,q⟩:=h
 cases rx
 have hus:=rv.zero
 subst hus
 obtain ⟨z,its,n,r,hl,e⟩:=I.gU hH
 obtain ⟨u,hu,ru⟩:=r.get hy
 have hy':its.toArray[its.toArray.size - 1]?=some u:=by
  show its.toArray[its.length - 1]?=some u
  rw [<- ZR,<- hl]
  exact hu
 refine call_meets F.slot_list_pop ⟨_,e,rfl⟩ F.entry_list_pop (F.args_list_pop_1 _) (MeetsSeq.list_pop_last l its.toArray n u hy' (by rw [Zo]; omega)) ⟨e,?_⟩
 refine ⟨y,_,I.lR (its':=its.dropLast) hH e ?_ r.dropLast ?_,ru,q⟩
 ·show its.toArray.eraseIdxIfInBounds (its.toArray.size - 1)=its.dropLast.toArray
  rw [Zo,List.eraseIdxIfInBounds_toArray,Ao]
 ·rw [List.length_dropLast]
  omega
def FY:R2:=fun x y H Q=>∃ l b xs zs,x=.ref l/\y=.ref b/\H l=some (.lst xs)/\H b=some (.lst zs)/\xs.length+zs.length<=sizeLine/\∀ p,H p=none->Q (.ref p) (upd H p (.lst (xs++zs)))
theorem yX:OpR X (binaryOp .Add) FY:=by
 intro pins s σ H x y v u Q I rx ry h
 obtain ⟨l,b,xs,zs,rfl,rfl,hH,hB,hz,q⟩:=h
 cases rx
 cases ry
 obtain ⟨z,its,n,r,hl,e⟩:=I.gU hH
 obtain ⟨z2,its2,n2,r2,hl2,e2⟩:=I.gU hB
 refine PySem.P.add_list e e2 ?_ (by rw [Zo,Zo]; omega)
 have ea:its.toArray++its2.toArray=(its++its2).toArray:=by simp
 rw [ea]
 exact ⟨.ref _,_,I.E8 (t':=s.toks) (r.append r2) (by rw [Zp]; omega),rfl,q _ I.fresh⟩
end
section
variable {prog:WP} {w:WS} {A:WY} {E:WH} {s:WN}
end
section
variable {X:Cx}
end
end L2
namespace Att
open PySem PySem.W PySem.Calls PyProof.Rows
theorem HF {P:Params} {h:Heap}:∀ (ns:WJ) (vs:WM),WellAll P h vs (ns.map WData.int)->IntsAre vs ns:=by
 intro ns
 induction ns with
 | nil =>
  intro vs w
  rw [X7] at w
  cases w
  exact .nil
 | cons n ns ih =>
  intro vs w
  rw [ZC] at w
  cases w with
  | cons a b =>
   cases a
   exact .cons _ _ (ih _ b)
theorem CL {l:OpenLaw} {n:Nat} (hn:l.most=some n) {P:Params} {h:Heap} {args:List WData} {vals:WM}
  (hpre:l.row.toRowW.claim.pre args=true) (hwl:WellAll P h vals args) :
  ∃ a vs ns,vals=[Value.ref a]/\args=[WData.list (ns.map WData.int)]/\h.get? a=some { cls:=.type "list",data:=.seq vs.toArray }/\IntsAre vs ns/\ns.length<=n:=by
 have hsh:WShape.hasAll [] args [.list .int]=true:=(pre_splitW hpre).1
 have hc:l.pre.holds [] { args:=args }=true:=(pre_splitW hpre).2
 obtain ⟨d,r,rfl,h1,h2⟩:=hasAllW_cons hsh
 obtain rfl:=hasAllW_nil h2
 obtain ⟨xs,rfl,h3⟩:=hasW_list h1
 obtain ⟨ns,rfl⟩:=items_int h3
 have hlen:ns.length<=n:=by
  unfold OpenLaw.pre at hc
  have h4:(WTm.not (.lt (.lit (.int (n:Int))) (.len (.arg 0)))).holds [] { args:=[.list (ns.map .int)] }=true:=by
   have h4:=(holds_andW hc).1
   rw [hn] at h4
   exact h4
  have h5:=condW_of h4 (w_not (w_lt w_lit (w_len_list (w_arg rfl))))
  rw [Zb] at h5
  refine Nat.le_of_not_lt fun q=>?_
  have q':(n:Int) < ((ns.length:Nat):Int):=by omega
  first
   | (rw [Zj q'] at h5; exact absurd h5 (by decide))
   | (simp at h5; omega)
 cases hwl with
 | cons w1 w2 =>
  cases w2
  cases w1 with
  | list ho hall=>exact ⟨_,_,ns,rfl,rfl,ho,HF ns _ hall,hlen⟩
theorem ET (l:OpenLaw) (args:List WData):l.row.toRowW.claim.post args (.bool true) args=true :=
 postW_of (r:=l.row.toRowW) (X:=(true==true))
  (show WShape.has [] (.bool true) .bool=true by first|rfl|decide|simp [WShape.has,WShape.arms,WShape.armsAll])
  (show (WTm.eq .res (.lit (.bool true))).value [] { args:=args,res:=some (.bool true),after:=args }=some (.bool (true==true)) from w_eq_bool (w_res rfl) w_lit) rfl
theorem B5 {l:OpenLaw} {n:Nat} {q:WP} {loose:WU} {XP:(Str->Option Value)->Heap->Prop} {YP:World->Heap->Prop} {d:DefRec}
  (hn:l.most=some n) (hdf:d.params.defaults=[])
  (call:∀ (w:WS) (s₀ s₁:WN) (mg mb:WR) (fa:Addr) (o:Obj) (pm cd doc:W9) (a:Addr) (vs:WM) (ns:WJ),
   Ground q loose [] XP w s₀ mg mb s₁.heap->YP w s₁.heap ->
   s₁.heap.get? fa=some o->o.data=.func (docDef d.name d.params d.body d.scope pm cd doc)->s₁.heap.CodeRec cd d.name->mg d.name=some (.ref fa) ->
   s₁.heap.get? a=some { cls:=.type "list",data:=.seq vs.toArray }->IntsAre vs ns->ns.length<=n->s₁.gens=#[] ->
   codeAny (model l.prog w) callerA (.call (.ref fa) ⟨[.ref a],[]⟩) (fun r s'=>r=.ok (.ret (.bool true))/\OldK s₁.heap s'.heap/\s'.os=s₁.os/\AllBare s'.gens) s₁) :
  WalkO q loose XP YP l.row.toRowW d [] (fun f vs=>PySem.call f vs):=by
 intro w s₀ s₁ mg mb G Y fa o pm cd doc dV kV ho hd hcd hD hmg hg args vals as hpre hlay hrd hwl hlo
 obtain rfl:dV=.none:=Dflts.none hD hdf
 obtain rfl:kV=.none:=Dflts.noKw hD
 obtain ⟨a,vs,ns,rfl,rfl,hobj,hints,hlen⟩:=CL hn hpre hwl
 refine enter_call (Wi (call w s₀ s₁ mg mb fa o pm cd doc a vs ns G Y ho (fd_plain hd) hcd hmg hobj hints hlen hg) fun r s' hq=>?_)
 obtain ⟨rfl,h2,h3,h4⟩:=hq
 exact ⟨.inl ⟨.bool true,.bool true,[],rfl,fun _=>rfl,.bool true,ET l _,fun _=>⟨List.Pairwise.nil,fun _ hm=>(nomatch hm)⟩⟩,h2,h3,h4⟩
section
variable {prog:WP} {w:WS} {A:WY} {E:WH} {s:WN} {K:Frag}
end
end Att
namespace L2
open PySem PySem.Spec PyProof.Rows
theorem u7:∀ {vs:WM} {ns:WJ},IntsAre vs ns->Vals (ns.map V.int) vs
 | _,_,.nil=>.nil
 | _,_,.cons n t h=>.cons ⟨t,rfl⟩ (u7 h)
def iA (H:Hp):Prop:=∀ b,H b=none\/∃ o xs,H b=some (.frz o (.lst xs))
theorem CY {P:WP} {w:WS} {K:WL} {mg mb:WR} {CX:CXT} {k:Nat} {fa a:Addr} {fd:FuncData} {x:Str} {sp:Sp} {s₁:WN} {vs:WM} {ns:WJ}
  (KX:K.In s₁.heap) (hns:s₁.heap.Ns mainGlobals mg) (hb:s₁.heap.Ns builtinsNs mb) (hbb:∀ x:Str,x≠"__name__"->mb x=bootBuiltins x) (hlim:s₁.heap.NoLimit) (hg:s₁.gens=#[])
  (ha:s₁.heap.get? a=some { cls:=.type "list",data:=.seq vs.toArray }) (hi:IntsAre vs ns) (hl:ns.length<=sizeLine) (hr:bW k callerA)
  (F:∀ base:Heap,K.In base->base.Ns mainGlobals mg->dW P w K mg base CX k fa fd [x] sp) (hbind:∀ (s:WN) (u:W9),BindsTo s fd ⟨[u],[]⟩ [(x,u)])
  (hsp:∀ H:Hp,iA H->SqL K H a (ns.map V.int)->sp [.ref a] H (fun v _=>v=.bl true) fun _ _ _=>False)
  (hCX:∀ H e s',CX [] H s₁ (fun _ _ _=>False) e s'->False) :
  codeAny (model P w) callerA (.call (.ref fa) ⟨[.ref a],[]⟩) (fun r s'=>r=.ok (.ret (.bool true))/\OldK s₁.heap s'.heap/\s'.os=s₁.os/\AllBare s'.gens) s₁:=by
 have rv:=u7 hi
 have lenV:=hi.length
 have core:∀ H:Hp,iA H->SqL K H a (ns.map V.int)->HOk P w H s₁.heap->(∀ b,H b≠none->b=a)->(H a≠none->K.lookup a=none) ->
   codeAny (model P w) callerA (.call (.ref fa) ⟨[.ref a],[]⟩) (fun r s'=>r=.ok (.ret (.bool true))/\OldK s₁.heap s'.heap/\s'.os=s₁.os/\AllBare s'.gens) s₁:=by
  intro H hO hS hok hA hK
  have base_of:∀ {b:Addr} {o:Obj},s₁.heap.get? b=some o->H b=none->(er s₁.heap H).get? b=some o:=fun e n=>C7 e n
  have noA:∀ {b:Addr} {o:Obj} {es:W8} {ep:Nat},s₁.heap.get? b=some o->o.data=.dict es ep->H b=none:=fun {b o es ep} e d=>by
   cases q:H b with
   | none=>rfl
   | some u =>
    have e':b=a:=hA b (by rw [q]; simp)
    subst e'
    rw [ha] at e; cases e
    have d':Data.seq vs.toArray _=Data.dict es ep:=d
    cases d'
  have nsK:∀ {b:Addr} {m:WR},s₁.heap.Ns b m->(er s₁.heap H).Ns b m:=fun {b m} ⟨o,es,ep,e,d,r⟩=>⟨o,es,ep,base_of e (noA e d),d,r⟩
  have hKb:K.In (er s₁.heap H):=fun b o e=>base_of (KX b o e) (by
   cases q:H b with
   | none=>rfl
   | some u =>
    have e':b=a:=hA b (by rw [q]; simp)
    subst e'
    rw [hK (by rw [q]; simp)] at e; cases e)
  have hM:Mod K mg (er s₁.heap H):=⟨hKb,nsK hns,⟨mb,nsK hb,hbb⟩,let ⟨mc,h1,h2⟩:=hlim; ⟨mc,nsK h1,h2⟩⟩
  have e0:j_ P w K mg (er s₁.heap H) callerA [] s₁ H:=⟨rfl,hM,fun b o e=>Hv e,Nat.le_of_eq (D_ _ _),trivial,fun b hb=>absurd (show b∈([]:List Addr) from hb) (by simp),hok,.of_eq hg⟩
  refine Wi ((F _ hKb (nsK hns)).run callerA [] s₁ H ⟨[.ref a],[]⟩ [.ref a] [.ref a] _ _ hr e0 (hbind s₁ (.ref a)) (.cons rfl .nil) (hsp H hO hS)) fun r s' h=>?_
  cases r with
  | error e=>exact (hCX H e s' h).elim
  | ok fl =>
   cases fl with
   | next=>exact False.elim h
   | brk=>exact False.elim h
   | cont=>exact False.elim h
   | ret u =>
    obtain ⟨v,H',os,bare,un,hok',r',q⟩:=h
    have q':v=.bl true:=q
    subst q'
    obtain rfl:u=Value.bool true:=r'
    refine ⟨rfl,OldK.of_keep fun b o e=>?_,os,bare⟩
    cases q:H b with
    | none=>exact un.keep b o e q (by intro z; exact absurd (show b∈([]:List Addr) from z) (by simp)) (by simp)
    | some u =>
     rcases hO b with z|⟨ob,xs,z⟩
     ·rw [q] at z; cases z
     ·have z2:=un.frzs b ob _ z
      obtain ⟨e1,_⟩:=hok b _ z
      obtain ⟨e2,_⟩:=hok' b _ z2
      rw [e] at e1; cases e1
      exact e2
 cases hk:K.lookup a with
 | some o =>
  have e:=KX a o hk
  rw [ha] at e
  cases e
  refine core (fun _=>none) (fun _=>.inl rfl) (.inr ⟨_,vs.toArray,_,hk,rfl,rfl,rfl,by rw [Zo,lenV]; exact hl,by simpa using rv⟩) (fun b u z=>by have z':(none:Option HO)=some u:=z; cases z') (fun b z=>absurd rfl z) fun z=>absurd rfl z
 | none =>
  refine core (fun b=>if b=a then some (.frz { cls:=.type "list",data:=.seq vs.toArray } (.lst (ns.map V.int))) else none) (fun b=>?_) (.inl (.inr ⟨{ cls:=.type "list",data:=.seq vs.toArray },Zd rfl⟩)) (fun b u z=>?_) (fun b z=>?_) fun _=>hk
  ·by_cases hb:b=a
   ·exact .inr ⟨_,_,Zd hb⟩
   ·exact .inl (Ze hb)
  ·by_cases hb:b=a
   ·have z':=(Zd hb).symm.trans z
    cases z'
    subst hb
    exact ⟨ha,by rw [Zb]; exact hl,vs,_,rv,ha⟩
   ·have z':=(Ze hb).symm.trans z
    cases z'
  ·by_cases hb:b=a
   ·exact hb
   ·exact absurd (Ze hb) z
end L2
namespace L2
open PySem PySem.Spec PyProof.Rows
theorem uT {l:PySem.W.OpenLaw} {n k:Nat} {q:WP} {loose:WU} {XP:(Str->Option Value)->Heap->Prop} {YP:World->Heap->Prop} {d:DefRec} {K:Params->PySem.W.Frag} {CX:World->CXT} {sp:World->Sp} {x:Str}
  (hn:l.most=some n) (hn2:n<=sizeLine) (hdf:d.params.defaults=[]) (hr:bW k callerA)
  (hY:∀ (w:WS) (h:Heap),YP w h->(K w.params).In h)
  (F:∀ (w:WS) (mg:WR) (fa:Addr) (h:Heap),(K w.params).In h->h.Ns mainGlobals mg->mg d.name=some (.ref fa) ->
   ∃ fd:FuncData,(∀ (s:WN) (u:W9),BindsTo s fd ⟨[u],[]⟩ [(x,u)]) /\
    ∀ base:Heap,(K w.params).In base->base.Ns mainGlobals mg->dW l.prog w (K w.params) mg base (CX w) k fa fd [x] (sp w))
  (hsp:∀ (w:WS) (H:Hp) (a:Addr) (ns:WJ),ns.length<=n->iA H->SqL (K w.params) H a (ns.map V.int)->sp w [.ref a] H (fun v _=>v=.bl true) fun _ _ _=>False)
  (hCX:∀ (w:WS) (H:Hp) (s:WN) (e:W9) (s':WN),CX w [] H s (fun _ _ _=>False) e s'->False) :
  PySem.W.WalkO q loose XP YP l.row.toRowW d [] (fun f vs=>PySem.call f vs):=by
 refine Att.B5 hn hdf fun w s₀ s₁ mg mb fa o pm cd doc a vs ns G Y ho hd hcd hmg hobj hints hlen hg=>?_
 have KX:=hY w _ Y
 obtain ⟨fd,hb,hF⟩:=F w mg fa _ KX G.T.g hmg
 exact CY KX G.T.g G.T.b G.T.builtins G.T.nolimit hg hobj hints (Z7 hlen hn2) hr hF hb (fun H hO hS=>hsp w H a ns hlen hO hS) fun H e s'=>hCX w H s₁ e s'
theorem Ja {l:PySem.W.OpenLaw} {n k:Nat} {q:WP} {loose:WU} {XP:(Str->Option Value)->Heap->Prop} {YP:World->Heap->Prop} {d:DefRec} {K:Params->PySem.W.Frag} {CX:CXT} {sp:PySem.W.Frag->Sp} {x:Str}
  (hn:l.most=some n) (hn2:n<=sizeLine) (hdf:d.params.defaults=[]) (hr:bW k callerA)
  (hY:∀ (w:WS) (h:Heap),YP w h->(K w.params).In h)
  (F:∀ (w:WS) (mg:WR) (fa:Addr) (h:Heap),(K w.params).In h->h.Ns mainGlobals mg->mg d.name=some (.ref fa) ->
   ∃ fd:FuncData,(∀ (s:WN) (u:W9),BindsTo s fd ⟨[u],[]⟩ [(x,u)]) /\
    ∀ base:Heap,(K w.params).In base->base.Ns mainGlobals mg->dW l.prog w (K w.params) mg base CX k fa fd [x] (sp (K w.params)))
  (hsp:∀ (K:WL) (H:Hp) (a:Addr) (ns:WJ),ns.length<=n->iA H->SqL K H a (ns.map V.int)->sp K [.ref a] H (fun v _=>v=.bl true) fun _ _ _=>False)
  (hCX:∀ (H:Hp) (s:WN) (e:W9) (s':WN),CX [] H s (fun _ _ _=>False) e s'->False) :
  PySem.W.WalkO q loose XP YP l.row.toRowW d [] (fun f vs=>PySem.call f vs) :=
 uT (K:=K) (CX:=fun _=>CX) (sp:=fun w=>sp (K w.params)) hn hn2 hdf hr hY F (fun w H a ns h1 h2 h3=>hsp (K w.params) H a ns h1 h2 h3) fun _ H s e s'=>hCX H s e s'
end L2
namespace L2
open PySem PySem.Spec PyProof.Rows
noncomputable def dg (s:Stmt):Arguments:=match s with
 | .FunctionDef _ a _ _ _ _ _ _ _ _=>a
 | _=>{ posonlyargs:=[],args:=[],vararg:=none,kwonlyargs:=[],kw_defaults:=[],kwarg:=none,defaults:=[] }
noncomputable def iy (s:Stmt):List Stmt:=match s with
 | .FunctionDef _ _ b _ _ _ _ _ _ _=>b
 | _=>[]
noncomputable def i8 (s:Stmt):Scope:=match s with
 | .FunctionDef _ _ _ _ _ _ sc _ _ _=>sc
 | _=>{ kind:=.function,names:=[],isGenerator:=false,isCoroutine:=false }
structure Fun (K:WL) (x qual:Str) (st:Stmt) (f:Addr) (fd:FuncData):Prop where
 ex:∃ (oc:W9) (od:W5) (kV doc pm:W9) (an:W5) (cdv ct:W9) (osl:W0),
  fd=PySem.W.fnOf x qual (dg st) (iy st) (i8 st) .none kV doc pm an cdv ct/\K.lookup f=some ⟨oc,od,.func fd,osl⟩/\PySem.W.codeIn K cdv qual=true
 kp:PySem.W.keepIn K (.ref f)=true
section
variable {P:WP} {w:WS} {K:WL} {mg:WR} {base:Heap}
theorem Fun.binds {x qual:Str} {st:Stmt} {f:Addr} {fd:FuncData} {ps:WU} (F:Fun K x qual st f fd)
  (h:∀ (kV doc pm:W9) (an:W5) (cdv ct:W9) (us:WM),us.length=ps.length->bindArgs (PySem.W.fnOf x qual (dg st) (iy st) (i8 st) .none kV doc pm an cdv ct) ⟨us,[]⟩=pure (ps.zip us)):Binds K fd ps []:=by
 obtain ⟨oc,od,kV,doc,pm,an,cdv,ct,osl,rfl,lk,hcd⟩:=F.ex
 exact .all (h kV doc pm an cdv ct)
theorem Fc {x qual:Str} {st:Stmt} {f:Addr} {oc:W9} {od an:W5} {osl:W0} {kV doc pm cdv ct:W9} (l:K.lookup f=some ⟨oc,od,.func (PySem.W.fnOf x qual (dg st) (iy st) (i8 st) .none kV doc pm an cdv ct),osl⟩)
  (c:PySem.W.codeIn K cdv qual=true) (k:PySem.W.keepIn K (.ref f)=true):Fun K x qual st f (PySem.W.fnOf x qual (dg st) (iy st) (i8 st) .none kV doc pm an cdv ct):=⟨⟨oc,od,kV,doc,pm,an,cdv,ct,osl,rfl,l,c⟩,k⟩
end
section
variable {X:Cx}
end
theorem zM {A B:Prop} (h:B):if false=true then A else B:=by
 rw [Ze Zz]
 exact h
theorem G9 {A B:Prop} (h:A):if true=true then A else B:=by
 rw [Zd rfl]
 exact h
end L2

namespace L2
open PySem PySem.Spec PyProof.Rows
section
variable {κ:Type} [DecidableEq κ]
noncomputable def b8 (kvs:List (κ × V)) (k:κ):Option V:=(kvs.find? fun kv=>decide (kv.1=k)).map (·.2)
noncomputable def putK (kvs:List (κ × V)) (k:κ) (v:V):List (κ × V) :=
 if (kvs.any fun kv=>decide (kv.1=k))=true then kvs.map (fun kv=>if kv.1=k then (kv.1,v) else kv) else kvs++[(k,v)]
theorem lA {p:κ × V} {r:List (κ × V)} {k:κ} (e:p.1=k):b8 (p::r) k=some p.2:=by simp [b8,ZT,e]
theorem lN {p:κ × V} {r:List (κ × V)} {k:κ} (e:¬ p.1=k):b8 (p::r) k=b8 r k:=by simp [b8,ZT,e]
theorem rm (k:κ):∀ kvs:List (κ × V),(kvs.any fun kv=>decide (kv.1=k))=(b8 kvs k).isSome
 | []=>rfl
 | p::r=>by
  rw [XZ]
  by_cases e:p.1=k
  ·simp only [lA e,Zj e,Bool.true_or,Option.isSome_some]
  ·rw [lN e,Zq e,Bool.false_or]; exact rm k r
theorem vK (kvs:List (κ × V)) (k:κ) (v:V):(putK kvs k v).length<=kvs.length+1:=by
 unfold putK
 split
 ·rw [Zb]; omega
 ·rw [Zp,ZB,XH]; omega
theorem dR.je {o:Option V} {u:Option Value} (r:dR o u):o.isSome=u.isSome:=by
 cases o with
 | none=>cases u with
  | none=>rfl
  | some _=>exact (show False from r).elim
 | some _=>cases u with
  | none=>exact (show False from r).elim
  | some _=>rfl
theorem KV.val {kvs:List (κ × V)} {vs:List (κ × Value)} (r:KV kvs vs) (k:κ):dR (b8 kvs k) (valueAt vs k):=by
 unfold KV at r
 induction r with
 | nil=>exact True.intro
 | @cons p q ps qs h t ih =>
  obtain ⟨h1,h2⟩:=h
  by_cases e:p.1=k
  ·have e':q.1=k:=h1.symm.trans e
   have b:valueAt (q::qs) k=some q.2:=by simp [valueAt,ZT,e']
   rw [lA e,b]; exact h2
  ·have e':¬ q.1=k:=fun z=>e (h1.trans z)
   have b:valueAt (q::qs) k=valueAt qs k:=by simp [valueAt,ZT,e']
   rw [lN e,b]; exact ih
theorem KV.any {kvs:List (κ × V)} {vs:List (κ × Value)} (r:KV kvs vs) (k:κ):(kvs.any fun kv=>decide (kv.1=k))=vs.any fun kv=>decide (kv.1=k):=by
 unfold KV at r
 induction r with
 | nil=>rfl
 | cons h t ih=>rw [XZ,XZ,ih,h.1]
theorem KV.repl {kvs:List (κ × V)} {vs:List (κ × Value)} (r:KV kvs vs) (k:κ) {y:V} {u:W9} (ry:RelV y u) :
  KV (kvs.map fun kv=>if kv.1=k then (kv.1,y) else kv) (vs.map fun kv=>if kv.1=k then (kv.1,u) else kv):=by
 unfold KV at r ⊢
 induction r with
 | nil=>exact .nil
 | @cons p q ps qs h t ih =>
  rw [ZC,ZC]
  refine .cons ?_ ih
  obtain ⟨h1,h2⟩:=h
  by_cases e:p.1=k
  ·rw [Zd e,Zd (h1.symm.trans e)]; exact ⟨h1,ry⟩
  ·rw [Ze e,Ze (fun z=>e (h1.trans z))]; exact ⟨h1,h2⟩
theorem KV.put {kvs:List (κ × V)} {vs:List (κ × Value)} (r:KV kvs vs) (k:κ) {y:V} {u:W9} (ry:RelV y u):KV (putK kvs k y) (stored vs k u):=by
 unfold putK stored
 rw [r.any k]
 by_cases e:(vs.any fun kv=>decide (kv.1=k))=true
 ·rw [Zd e,Zd e]; exact r.repl k ry
 ·rw [Ze e,Ze e]; exact Paired.snoc r ⟨rfl,ry⟩
theorem KV.length {kvs:List (κ × V)} {vs:List (κ × Value)} (r:KV kvs vs):kvs.length=vs.length:=Wf r
end
theorem jz {P:WP} {w:WS} {k:Key} {u:W9} (r:RelV (kV k) u):(bK P w).is k u=true:=by
 cases k with
 | inl i=>obtain ⟨t,e⟩:=(show ∃ t,u=Value.int i t from r); subst e; exact Ec P w i t
 | inr x=>obtain ⟨t,e⟩:=(show ∃ t,u=Value.str x t from r); subst e; exact HX P w x t
theorem vn {P:WP} {w:WS}:∀ {ks:List Key} {us:WM},Vals (ks.map kV) us->ItemsAre (bK P w) ks us
 | [],_,r=>by rw [X7] at r; cases r; exact .nil
 | k::ks,_,r=>by
  rw [ZC] at r
  cases r with
  | cons h t=>exact .cons (jz h) (vn t)
abbrev KT (H:Hp):List (List Key × V)->List (List Key × Addr × Value)->Prop:=Paired fun p q=>p.1=q.1/\H q.2.1=some (.tup (p.1.map kV))/\RelV p.2 q.2.2
theorem KT.val {H:Hp} {kvs:Yb} {xs:List (List Key × Addr × Value)} (r:KT H kvs xs) (k:List Key):dR (b8 kvs k) ((atKey xs k).map (·.2)):=by
 induction r with
 | nil=>exact True.intro
 | @cons p q ps qs h t ih =>
  obtain ⟨h1,_,h2⟩:=h
  by_cases e:p.1=k
  ·have e':q.1=k:=h1.symm.trans e
   have b:atKey (q::qs) k=some q.2:=by simp [atKey,ZT,e']
   rw [lA e,b]; exact h2
  ·have e':¬ q.1=k:=fun z=>e (h1.trans z)
   have b:atKey (q::qs) k=atKey qs k:=by simp [atKey,ZT,e']
   rw [lN e,b]; exact ih
theorem KT.repl {H:Hp} {kvs:Yb} {xs:List (List Key × Addr × Value)} (r:KT H kvs xs) (k:List Key) {y:V} {u:W9} (ry:RelV y u) :
  KT H (kvs.map fun kv=>if kv.1=k then (kv.1,y) else kv) (xs.map (putAt k u)):=by
 induction r with
 | nil=>exact .nil
 | @cons p q ps qs h t ih =>
  rw [ZC,ZC]
  refine .cons ?_ ih
  obtain ⟨h1,h2,h3⟩:=h
  unfold putAt
  by_cases e:p.1=k
  ·rw [Zd e,Zd (h1.symm.trans e)]; exact ⟨h1,h2,ry⟩
  ·rw [Ze e,Ze (fun z=>e (h1.trans z))]; exact ⟨h1,h2,h3⟩
theorem KT.put {H:Hp} {kvs:Yb} {xs:List (List Key × Addr × Value)} (r:KT H kvs xs) (k:List Key) {b:Addr} {y:V} {u:W9} (hb:H b=some (.tup (k.map kV))) (ry:RelV y u) :
  KT H (putK kvs k y) (storedH xs k b u):=by
 have e:(kvs.any fun kv=>decide (kv.1=k))=(atKey xs k).isSome:=by
  rw [rm,(r.val k).je,Q9]
 unfold putK storedH
 rw [e]
 by_cases q:(atKey xs k).isSome=true
 ·rw [Zd q,Zd q]; exact r.repl k ry
 ·rw [Ze q,Ze q]; exact Paired.snoc r ⟨rfl,hb,ry⟩
theorem KT.keeps {H H':Hp} {kvs:Yb} {xs:List (List Key × Addr × Value)} (r:KT H kvs xs) (ht:∀ b ys,H b=some (.tup ys)->H' b=some (.tup ys)):KT H' kvs xs :=
 Paired.nX r fun _ _ z=>⟨z.1,ht _ _ z.2.1,z.2.2⟩
section
variable {P:WP} {w:WS} {H:Hp} {h:Heap} {a:Addr}
theorem qP {u:HO} (ok:HOk P w H h) (e:Rd H a u):aW P w H h a u:=e.ok ok
theorem jm {kvs:List (Key × V)} (ok:HOk P w H h) (e:Rd H a (.dK kvs)):kvs.length<=sizeLine/\(a==sysModules)=false/\∃ vs,KV kvs vs/\h.DictOf (bK P w) a vs :=
 show aW P w H h a (.dK kvs) from qP ok e
theorem Ca {kvs:List (Key × V)} (ok:HOk P w H h) (e:H a=some (.dK kvs)):kvs.length<=sizeLine/\(a==sysModules)=false/\∃ vs,KV kvs vs/\h.DictOf (bK P w) a vs:=jm ok (.inl e)
theorem jb {ks:List Key} (ok:HOk P w H h) (e:H a=some (.tup (ks.map kV))):(tupleKind (bK P w)).is h ks a:=by
 obtain ⟨_,its,r,o,h1,h2,n,h3⟩:=(show aW P w H h a (.tup (ks.map kV)) from ok a _ e)
 exact ⟨o,its.toArray,n,h1,h2,h3,by simpa using vn r⟩
theorem jf {kvs:Yb} (ok:HOk P w H h) (e:Rd H a (.dT kvs)):kvs.length<=sizeLine/\(a==sysModules)=false /\
  ∃ xs,KT H kvs xs/\h.DictOfH (tupleKind (bK P w)) a xs:=by
 obtain ⟨z,y,xs,r,o,es,ep,h1,h2,h3,h4,h5⟩:=(show aW P w H h a (.dT kvs) from qP ok e)
 refine ⟨z,y,xs,r,o,es,ep,h1,h2,h3,h4,fun x hx=>?_,h5⟩
 have all:∀ {l:Yb} {m:List (List Key × Addr × Value)},KT H l m->∀ x∈m,(tupleKind (bK P w)).is h x.1 x.2.1:=by
  intro l m q
  induction q with
  | nil=>intro x hx; exact nomatch hx
  | @cons p q ps qs hq t ih =>
   intro x hx
   rcases Zt.mp hx with e|hx
   ·subst e
    exact jb ok (by rw [<- hq.1]; exact hq.2.1)
   ·exact ih x hx
 exact all r x hx
theorem Ab {kvs:Yb} (ok:HOk P w H h) (e:H a=some (.dT kvs)):kvs.length<=sizeLine/\(a==sysModules)=false /\
  ∃ xs,KT H kvs xs/\h.DictOfH (tupleKind (bK P w)) a xs:=jf ok (.inl e)
end
def fJ (H:Hp) (a:Addr) (y:V) (r:Option V):Prop :=
 (∃ kvs k,Rd H a (.dK kvs)/\y=kV k/\r=b8 kvs k)\/∃ kvs k b,Rd H a (.dT kvs)/\y=.ref b/\H b=some (.tup (k.map kV))/\r=b8 kvs k
def jr (H:Hp) (a:Addr) (y v:V) (H':Hp):Prop :=
 (∃ kvs k,H a=some (.dK kvs)/\y=kV k/\kvs.length < sizeLine/\H'=upd H a (.dK (putK kvs k v))) \/
 ∃ kvs k b,H a=some (.dT kvs)/\y=.ref b/\H b=some (.tup (k.map kV))/\kvs.length < sizeLine/\H'=upd H a (.dT (putK kvs k v))
theorem jr.t {H:Hp} {a b:Addr} {kvs:Yb} {k:List Key} {v:V} (e:H a=some (.dT kvs)) (eb:H b=some (.tup (k.map kV))) (hl:kvs.length < sizeLine) :
  jr H a (.ref b) v (upd H a (.dT (putK kvs k v))):=.inr ⟨kvs,k,b,e,rfl,eb,hl,rfl⟩
section
variable {X:Cx} {pins:WI} {σ:St} {H:Hp} {s:WN} {a:Addr} {y v:V} {u r:W9} {o:Option V} {A:WY} {E:WH}
theorem Inv.big (I:Inv X pins σ H s):sysModules < s.heap.objs.size:=by
 have h:mainGlobals < s.heap.objs.size:=(I.mod.glob.keeps I.bk).lt
 exact QG (by decide) h
theorem Cf {Q:WH} (hu:A.units+1 < cLine) (I:Inv X pins σ H s) (g:fJ H a y (some v)) (ry:RelV y u) (h:∀ w' s',Inv X pins σ H s'->RelV v w'->Q w' s') :
  wpAny (model X.prog X.w) A (getItem (.ref a) u) Q E s:=by
 rcases g with ⟨kvs,k,e,ey,l⟩|⟨kvs,k,b,e,ey,eb,l⟩
 ·subst ey
  obtain ⟨z,hd,vs,rel,dd⟩:=jm I.hok e
  obtain ⟨w',hw,rw'⟩:=dR.some_of (v:=v) (o:=valueAt vs k) (by rw [l]; exact rel.val k)
  exact wpAny_getItem_of (jz ry) dd.mapOf hw (h w' _ (I.tok _) rw')
 ·subst ey
  cases (show u=Value.ref b from ry)
  obtain ⟨z,hd,xs,rel,dd⟩:=jf I.hok e
  obtain ⟨w',hw,rw'⟩:=dR.some_of (v:=v) (o:=(atKey xs k).map (·.2)) (by rw [l]; exact rel.val k)
  obtain ⟨p,hp,hp2⟩:=ZD.mp hw
  refine wpAny_getItem_heap (QX hu) (jb I.hok eb) dd hp ?_
  rw [hp2]
  exact h w' _ (I.tok _) rw'
theorem B_ {Q:WH} (hu:A.units+1 < cLine) (I:Inv X pins σ H s) (g:fJ H a y o) (ry:RelV y u) (h:∀ s',Inv X pins σ H s'->Q (.bool o.isSome) s') :
  wpAny (model X.prog X.w) A (compareOp .In u (.ref a)) Q E s:=by
 rcases g with ⟨kvs,k,e,ey,l⟩|⟨kvs,k,b,e,ey,eb,l⟩
 ·subst ey
  obtain ⟨z,hd,vs,rel,dd⟩:=jm I.hok e
  refine wpAny_in_of (jz ry) hd dd.mapOf ?_
  rw [<- (rel.val k).je,<- l]
  exact h _ (I.tok _)
 ·subst ey
  cases (show u=Value.ref b from ry)
  obtain ⟨z,hd,xs,rel,dd⟩:=jf I.hok e
  refine wpAny_in_heap (QX hu) (jb I.hok eb) hd dd ?_
  have q:=(rel.val k).je
  rw [Q9] at q
  rw [<- q,<- l]
  exact h _ (I.tok _)
theorem Cn {Q:WH} (hu:A.units+1 < cLine) (I:Inv X pins σ H s) (g:fJ H a y o) (ry:RelV y u) (h:∀ s',Inv X pins σ H s'->Q (.bool (!o.isSome)) s') :
  wpAny (model X.prog X.w) A (compareOp .NotIn u (.ref a)) Q E s:=by
 rcases g with ⟨kvs,k,e,ey,l⟩|⟨kvs,k,b,e,ey,eb,l⟩
 ·subst ey
  obtain ⟨z,hd,vs,rel,dd⟩:=jm I.hok e
  refine wpAny_notIn_of (jz ry) hd dd.mapOf ?_
  rw [<- (rel.val k).je,<- l]
  exact h _ (I.tok _)
 ·subst ey
  cases (show u=Value.ref b from ry)
  obtain ⟨z,hd,xs,rel,dd⟩:=jf I.hok e
  refine wpAny_notIn_heap (QX hu) (jb I.hok eb) hd dd ?_
  have q:=(rel.val k).je
  rw [Q9] at q
  rw [<- q,<- l]
  exact h _ (I.tok _)
theorem tK {h':Heap} {t':Nat} {ob:HO} (I:Inv X pins σ H s) (mu:Mut (H a)) (hs:Heap.SameBut a s.heap h') (he:∃ q,h'.get? a=some q) (new:aW X.prog X.w (upd H a ob) h' a ob) :
  Inv X pins σ (upd H a ob) { s with heap:=h',toks:=t' } :=
 I.write (x:=a) (e:=a) mu (.inl rfl) (fun b q hb z=>(hs.2 b hb).trans z) he new
theorem Bk {P:WP} {w:WS} {H':Hp} {h':Heap} {kvs:List (Key × V)} {vs:List (Key × Value)} (z:kvs.length<=sizeLine) (hd:(a==sysModules)=false) (rel:KV kvs vs) (dd:h'.DictOf (bK P w) a vs) :
  aW P w H' h' a (.dK kvs):=⟨z,hd,vs,rel,dd⟩
theorem HE {H':Hp} {Q:Unit->Shared->Prop} (hu:A.units+1 < cLine) (I:Inv X pins σ H s) (g:jr H a y v H') (ry:RelV y u) (rv:RelV v r) (h:∀ s',Inv X pins σ H' s'->Q () s') :
  wpAny (model X.prog X.w) A (setItem (.ref a) u r) Q E s:=by
 rcases g with ⟨kvs,k,e,ey,l,eH⟩|⟨kvs,k,b,e,ey,eb,l,eH⟩
 ·subst ey eH
  obtain ⟨z,hd,vs,rel,dd⟩:=Ca I.hok e
  have hz:vs.length<=sizeLine:=by rw [<- rel.length]; exact z
  have hl:(putK kvs k v).length<=sizeLine:=by have:=vK kvs k v; omega
  refine wpAny_setItem_pairs (hsz:=hz) (jz ry) dd fun h' dd' hs=>h _ ?_
  have he:∃ q,h'.get? a=some q:=let ⟨q,_,_,hq,_⟩:=dd'; ⟨q,hq⟩
  exact tK I (by rw [e]; exact True.intro) hs he (Bk hl hd (rel.put k rv) dd')
 ·subst ey eH
  cases (show u=Value.ref b from ry)
  obtain ⟨z,hd,xs,rel,dd⟩:=Ab I.hok e
  have hz:xs.length<=sizeLine:=by rw [<- Wf rel]; exact z
  have hl:(putK kvs k v).length<=sizeLine:=by have:=vK kvs k v; omega
  refine wpAny_setItem_heap (hsz:=hz) (QX hu) (jb I.hok eb) dd fun h' dd' hs=>h _ ?_
  obtain ⟨q,es,ep,hq,h2,h3,h4,_,h5⟩:=dd'
  refine tK I (by rw [e]; exact True.intro) hs ⟨q,hq⟩ ⟨hl,hd,_,(rel.put k eb rv).keeps fun c ys ec=>?_,q,es,ep,hq,h2,h3,h4,h5⟩
  rw [aE (n6 ec e (fun z=>nomatch z))]
  exact ec
end
section
variable {X:Cx} {pins:WI} {σ:St} {H:Hp} {s:WN} {a:Addr} {kvs:List (Key × V)} {k:Key} {u:W9} {A:WY} {E:WH}
end
def nU (i:Expr):Prop:=∀ ov iv,subscripted i false ov iv=operate [ov,iv] (getItem ov iv)
theorem yr {prog:WP} {w:WS} {A:WY} {E:WH} {s:WN} {env:Env} {value slice:Expr} {pos:Pos} {T id:String} {Q:WH}
  (hl:typeLookup (.type T) "__getitem__" = pure (some (.builtin id))) (hs:nU slice)
  (h:wpAny (model prog w) A (eval value env) (fun o s₁=>wpAny (model prog w) A (eval slice env) (fun i s₂=>s₂.TypeIs o T/\wpAny (model prog w) A (getItem o i) Q E s₂) E s₁) E s) :
  wpAny (model prog w) A (eval (.Subscript value slice pos) env) Q E s:=by
 refine Subscript_ (Xu h (fun o s₁ h₁=>Xu h₁ (fun i s₂ h₂=>?_) fun _ _ x=>x) fun _ _ x=>x)
 obtain ⟨hT,h₂⟩:=h₂
 unfold subscriptTail
 refine Za ?_
 rw [getitemInPython_of_ne hT.not_modules]
 refine Za (wpAny_specialOf hT hl ?_)
 have fin:wpAny (model prog w) A (subscripted slice false o i) (fun r s₃=>wpAny (model prog w) A (letTemporaryGo value o r>>=fun _=>pure r) Q E s₃) E s₂:=by
  rw [hs o i]
  exact wpAny_operating (Xu h₂ (fun r s₃ h₃=>Za (wpAny_letTemporaryGo (Zf h₃))) fun _ _ x=>x)
 first
  | exact Zf (Za fin)
  | exact Za (Zf (Za fin))
  | exact Za fin
theorem CP {X:Cx} {pins:WI} {σ:St} {H:Hp} {s:WN} {a:Addr} {y:V} {o:Option V} (I:Inv X pins σ H s) (g:fJ H a y o):s.TypeIs (.ref a) "dict":=by
 rcases g with ⟨kvs,k,e,_,_⟩|⟨kvs,k,b,e,_,_,_⟩
 ·obtain ⟨_,_,vs,_,dd⟩:=jm I.hok e
  exact dd.typeIs
 ·obtain ⟨_,_,xs,_,dd⟩:=jf I.hok e
  exact dd.typeIs
def yN (td ty:TE):TE:=fun σ H Q=>td σ H fun x H1=>ty σ H1 fun y H2=>∃ a v,x=.ref a/\fJ H2 a y (some v)/\Q v H2
def Ey (td ty tv:TE):TS:=fun D σ H=>tv σ H fun v H1=>td σ H1 fun x H2=>ty σ H2 fun y H3=>∃ a H4,x=.ref a/\jr H3 a y v H4/\D.nx σ H4
section
variable {X:Cx} {o i e value:Expr} {pos pos' tpos:Pos} {td ty tv:TE}
theorem zm (hu:X.A.units+1 < cLine) (ho:PE X o td) (hi:PE X i ty) (hs:nU i):PE X (.Subscript o i pos) (yN td ty):=by
 intro pins s σ H Q I h
 refine yr PySem.F.slot_dict_getitem.lookup hs (thn (ho pins s σ H _ I h) fun u s1 ⟨x,H1,I1,rx,q1⟩=>thn (hi pins s1 σ H1 _ I1 q1) fun iv s2 ⟨y,H2,I2,ry,a,v,ex,g,q2⟩=>?_)
 subst ex
 obtain rfl:u=Value.ref a:=rx
 exact ⟨CP I2 g,Cf hu I2 g ry fun w' s3 I3 rw'=>⟨v,H2,I3,rw',q2⟩⟩
theorem G4 (hu:X.A.units+1 < cLine) (ho:PE X o td) (hi:PE X i ty) (hv:PE X value tv) (hs:swapsWith value (some (.Subscript o i pos')) pos.line X.env=pure false) :
  PS X (.Assign [.Subscript o i pos'] value pos) (Ey td ty tv):=by
 intro pins s σ H D I h
 refine wpAny_Assign_Subscript (thn (hv pins s σ H _ I h) fun r s1 ⟨v,H1,I1,rv,q1⟩=>thn (ho pins s1 σ H1 _ I1 q1) fun u s2 ⟨x,H2,I2,rx,q2⟩=>thn (hi pins s2 σ H2 _ I2 q2) fun iv s3 ⟨y,H3,I3,ry,a,H4,ex,g,q3⟩=>?_) hs
 subst ex
 obtain rfl:u=Value.ref a:=rx
 exact HE hu I3 g ry rv fun s4 I4=>⟨σ,H4,I4,q3⟩
end
theorem B0 {P:WP} {w:WS} {H:Hp} (h:Heap) (hb:sysModules < h.objs.size):aW P w H (h.push { cls:=.type "dict",data:=.dict #[] }) h.objs.size (.dT []) :=
 ⟨Xf _,ZQ.mpr (Ne.symm (ZI hb)),[],.nil,_,#[],0,Zx _ rfl,⟨rfl,rfl,rfl⟩,rfl,rfl,QH⟩
def z_:TE:=fun _ H Q=>∀ p,H p=none->Q (.ref p) (upd H p (.dT []))
section
variable {X:Cx} {pos:Pos}
theorem EX:PE X (.Dict [] [] pos) z_:=fun pins s σ H Q I h =>
 wpAny_Dict_empty ⟨.ref s.heap.objs.size,_,I.laid (a:=s.heap.objs.size) (o:=.dT []) (t':=s.toks) (fun _ _ q=>Zh _ q) (Zk _) (B0 s.heap I.big),rfl,h _ (I.hok.fresh (Zk _))⟩
end
end L2

namespace L2
open PySem PySem.Spec PyProof.Rows
section
variable {prog:WP} {w:WS} {A:WY} {R:Result->Shared->Prop} {s:WN}
theorem AH {elt target iter:Expr} {ifs:WX} {scope:Scope} {pos:Pos} {it acc:W9} {env:Env} (I:Nat->Shared->Prop)
  (turn:∀ n s,I n s->wpAny (model prog w) A (pyNext it) (fun r s₁=>match r with
   | none=>R (.ok .next) s₁
   | some v=>wpAny (model prog w) A (letOwnedTupleGo target it v) (fun _ s₁'=>wpAny (model prog w) A (assign target env v) (fun _ s₂ =>
     wpAny (model prog w) A (forIn ifs true fun c r=>if r=true then do let ok <- isTrue c env (eval c env); pure (ForInStep.yield ok) else pure (ForInStep.yield r)) (fun ok s₃ =>
      if ok=true then wpAny (model prog w) A (eval elt env) (fun x s₄ =>
       wpAny (model prog w) A (call (.builtin "list.append") [acc,x]) (fun _ s₅=>∃ m,m < n/\I m s₅) (fun _ _=>False) s₄) (fun _ _=>False) s₃
      else ∃ m,m < n/\I m s₃) (fun _ _=>False) s₂) (fun _ _=>False) s₁') (fun _ _=>False) s₁) (fun _ _=>False) s)
  (n:Nat) (h:I n s) :
  codeAny (model prog w) A (.compLoop (.ListComp elt [⟨target,iter,ifs,0⟩] scope pos) 0 it acc env) R s:=by
 refine codeAny_loop rfl I (fun n s hI=>?_) n h
 show wpAny _ A ((compTurn (.ListComp elt [⟨target,iter,ifs,0⟩] scope pos) 0 it acc env).onRaise (fun x=>do noteFrame x env; theTreesLotGoes x)) _ _ s
 refine wpAny_noted ?_
 rw [compTurn_list]
 refine Za (wpAny_standAt (Za (Xu (turn n s hI) (fun r s₁ h₁=>?_) fun _ _ h'=>h'.elim)))
 cases r with
 | none=>exact Zf h₁
 | some v =>
  refine Za (Xu h₁ (fun _ s₁' h₁'=>?_) fun _ _ h'=>h'.elim)
  refine Za (Xu h₁' (fun _ s₂ h₂=>Za (Xu h₂ (fun ok s₃ h₃=>?_) fun _ _ h'=>h'.elim)) fun _ _ h'=>h'.elim)
  cases ok with
  | false=>exact Zf ⟨rfl,h₃⟩
  | true =>
   exact Za (Za (Xu h₃ (fun x s₄ h₄=>Za (Xu h₄ (fun _ s₅ h₅=>Zf (Zf ⟨rfl,h₅⟩)) fun _ _ h'=>h'.elim)) fun _ _ h'=>h'.elim))
end
theorem nV {env:Env}:∀ (names:List (Str × NameKind)) (cs:WZ),(∀ y∈names,y.2=.free->∃ c,env.cells.lookup y.1=some c) ->
  (∀ x c,cs.lookup x=some c->env.cells.lookup x=some c) ->
  ∃ cl,(forIn names cs fun (p:Str × NameKind) (r:WZ)=>if (p.2==NameKind.free)=true then (do let c <- cellOf env p.1; pure (ForInStep.yield ((p.1,c)::r))) else pure (ForInStep.yield r):Sem (List (Str × Addr)))=pure cl /\
   (∀ x c,cl.lookup x=some c->env.cells.lookup x=some c)/\(∀ x c,cs.lookup x=some c->cl.lookup x=some c)/\∀ y∈names,y.2=.free->cl.lookup y.1=env.cells.lookup y.1
 | [],cs,_,hc=>⟨cs,rfl,hc,fun _ _ h=>h,fun y hy=>absurd hy (by simp)⟩
 | (x,k)::r,cs,h,hc=>by
  have hr:∀ y∈r,y.2=.free->∃ c,env.cells.lookup y.1=some c:=fun y hy=>h y (Zm _ hy)
  by_cases hk:k=.free
  ·subst hk
   obtain ⟨c,e⟩:=h (x,.free) Zl rfl
   have hc':∀ z d,((x,c)::cs).lookup z=some d->env.cells.lookup z=some d:=fun z d q=>by
    by_cases hz:z=x
    ·subst hz
     rw [Qa] at q
     cases q; exact e
    ·rw [Z8,show (z==x)=false from ZQ.mpr hz] at q
     exact hc z d q
   obtain ⟨cl,e1,e2,e3,e4⟩:=nV r ((x,c)::cs) hr hc'
   refine ⟨cl,?_,e2,fun z d q=>?_,fun y hy hf=>?_⟩
   ·rw [List.forIn_cons]
    simp only [Z1,XJ]
    unfold cellOf
    rw [e]
    simp only [pure_bind]
    exact e1
   ·by_cases hz:z=x
    ·subst hz
     have:=hc z d q
     rw [e] at this
     exact e3 z d (by rw [Qa]; exact this)
    ·exact e3 z d (by rw [Z8,show (z==x)=false from ZQ.mpr hz]; exact q)
   ·rcases Zt.mp hy with z|z
    ·subst z
     rw [e3 x c (Qa),e]
    ·exact e4 y z hf
  ·have hb:(k==NameKind.free)=false:=ZQ.mpr hk
   obtain ⟨cl,e1,e2,e3,e4⟩:=nV r cs hr hc
   refine ⟨cl,?_,e2,e3,fun y hy hf=>?_⟩
   ·rw [List.forIn_cons]
    simp only [hb,Zw,ZU,pure_bind]
    exact e1
   ·rcases Zt.mp hy with z|z
    ·subst z; exact absurd hf hk
    ·exact e4 y z hf
theorem wG {env:Env} {scope:Scope} (h:∀ y∈scope.names,y.2=.free->∃ c,env.cells.lookup y.1=some c) :
  ∃ cl,closureFor scope env=pure cl/\(∀ x c,cl.lookup x=some c->env.cells.lookup x=some c)/\∀ y∈scope.names,y.2=.free->cl.lookup y.1=env.cells.lookup y.1:=by
 obtain ⟨cl,e1,e2,_,e4⟩:=nV (env:=env) scope.names [] h (fun x c q=>by cases q)
 refine ⟨cl,?_,e2,e4⟩
 unfold closureFor
 show ((forIn scope.names ([]:List (Str × Addr)) fun (p:Str × NameKind) (r:WZ)=>if (p.2==NameKind.free)=true then (do let c <- cellOf env p.1; pure (ForInStep.yield ((p.1,c)::r))) else pure (ForInStep.yield r):Sem (List (Str × Addr)))>>=fun s=>pure s)=pure cl
 rw [e1]
 rfl
noncomputable def aQ (X:Cx) (scope:Scope) (cl:WZ) (N':WU) (fp:WQ) (s3:WN) (H3:Hp):Cx :=
 { X with N:=N',s₀:=s3,H₀:=H3,env:=compEnvC scope cl s3.heap.objs.size X.env,outer:=X.stack,stack:=X.stack,ex:=fp,fn:=fun x=>decide (scope.names.lookup x=some .cell),pn:=[],xe:=fun _ _=>False }
def PF (X:Cx) (ifs:WX) (t:TT):Prop :=
 ∀ (pins:WI) (s:WN) (σ:St) (H:Hp) (Q:Bool->Hp->Prop),Inv X pins σ H s->t σ H Q ->
  wpAny (model X.prog X.w) X.A (forIn ifs true fun c r=>if r=true then do let ok <- isTrue c X.env (eval c X.env); pure (ForInStep.yield ok) else pure (ForInStep.yield r)) (TP X pins σ Q) X.xe s
theorem pK {X:Cx}:PF X [] (fun _ H Q=>Q true H):=fun _ _ _ H _ I h=>wpAny_tests_nil ⟨H,I,h⟩
theorem qf {X:Cx} {c:Expr} {t:TT} (hc:PT X c t):PF X [c] t:=fun pins s σ H Q I h=>wpAny_tests_one (hc pins s σ H Q I h)
def lH (k:Nat) (wi:TI) (g:TG) (tt:TT) (te:TE):TE:=fun σ H Q=>wi σ H fun J H1=>∀ l,H1 l=none->∃ W:Nat->Nat->Hp->Prop,(∃ m,W 0 m (upd H1 l (.lst [])))/\∀ i m H,W i m H ->
 (J.stop i H/\Q (.ref l) H)\/(J.go i H/\∀ x H',J.yld i H x H'->g x (σ++List.replicate k none) H' fun σ2 H2=>(∀ (j:Nat) v,(σ++List.replicate k none)[j]?=some (some v)->σ2[j]?=some (some v))/\tt σ2 H2 fun b H3 =>
  if b=true then te σ2 H3 fun y H4=>∃ xs,H4 l=some (.lst xs)/\xs.length < sizeLine/\∃ m',m' < m/\W (i+1) m' (upd H4 l (.lst (xs++[y]))) else ∃ m',m' < m/\W (i+1) m' H3)
theorem kG:∀ (names:List (Str × NameKind)) (n:Nat) (acc:WZ),cellsFrom n names acc=cellsFrom n names []++acc
 | [],_,_=>rfl
 | (x,k)::r,n,acc=>by
  unfold cellsFrom
  split
  ·rw [kG r (n+1) ((x,n)::acc),kG r (n+1) [(x,n)],Zs]; rfl
  ·exact kG r n acc
theorem oK {x:Str} {c:Addr}:∀ (names:List (Str × NameKind)) (n:Nat) (acc:WZ),(x,c)∈cellsFrom n names acc->(x,NameKind.cell)∈names\/(x,c)∈acc
 | [],_,_,h=>.inr h
 | (y,k)::r,n,acc,h=>by
  unfold cellsFrom at h
  split at h
  ·rename_i hk
   rcases oK r (n+1) _ h with z|z
   ·exact .inl (Zm _ z)
   ·rcases Zt.mp z with e|e
    ·cases e
     rw [Qt.mp hk]
     exact .inl Zl
    ·exact .inr e
  ·rcases oK r n acc h with z|z
   ·exact .inl (Zm _ z)
   ·exact .inr z
theorem kI {α:Type}:∀ {l:List (Str × α)} {x:Str} {a:α},(l.map (·.1)).Nodup->(x,a)∈l->l.lookup x=some a
 | (y,b)::r,x,a,nd,h=>by
  obtain ⟨n1,n2⟩:=Xg.mp nd
  rcases Zt.mp h with e|e
  ·cases e; exact Qa
  ·have hne:x≠y:=fun z=>n1 (Zy.mpr ⟨(x,a),e,z⟩)
   rw [Z8,ZQ.mpr hne]
   exact kI n2 e
theorem lu {scope:Scope} {n:Nat} {cl:WZ} (nd:(scope.names.map (·.1)).Nodup) (x:Str):(scope.names.lookup x=some .cell/\∃ c,(cellsFrom n scope.names cl).lookup x=some c/\(x,c)∈cellsFrom n scope.names [])\/(scope.names.lookup x≠some .cell/\(cellsFrom n scope.names cl).lookup x=cl.lookup x):=by
 rw [kG]
 by_cases h:scope.names.lookup x=some .cell
 ·refine .inl ⟨h,?_⟩
  obtain ⟨c,e⟩:=nJ (n:=n) h
  exact ⟨c,by rw [List.lookup_append,e]; rfl,mem_of_lookup e⟩
 ·refine .inr ⟨h,?_⟩
  cases e:(cellsFrom n scope.names []).lookup x with
  | none=>rw [List.lookup_append,e]; rfl
  | some c =>
   rcases oK _ _ _ (mem_of_lookup e) with z|z
   ·exact absurd (kI nd z) h
   ·cases z
theorem zp {M:Model} {A:WY} {E:WH} {s:WN} {scope:Scope} {cl:WZ} {g:Addr} {env:Env} {qual:Str} {Q:Env->Shared->Prop}
  (hQ:Q { scope:=scope,locals:=s.heap.objs.size,globals:=g,cells:=cellsFrom (s.heap.objs.size+1) scope.names cl,qual:=qual,func:=none,code:=env.code,frame:=env.frame,builtins:=env.builtins } { s with heap:=pushCells (s.heap.push { cls:=.type "dict",data:=.dict #[] }) scope.names }) :
  wpAny M A (newFunctionEnv scope g cl [] qual none .none (some env)) Q E s:=by
 simp only [newFunctionEnv,Option.isSome_some,XJ]
 refine Za (wpAny_alloc ?_)
 refine Za (wpAny_layCells _ (fun name kind cells=>by cases hkc:kind==NameKind.cell <;> simp [hkc]) _ _ _ _ ?_)
 rw [show ({ s with heap:=s.heap.push { cls:=.type "dict",data:=.dict #[] } }:Shared).heap.objs.size=s.heap.objs.size+1 from Xq ..]
 refine Za ?_
 rw [List.forIn_nil]
 exact Zf (Zf hQ)
structure eV (X:Cx) (scope:Scope) (N':WU) (k:Nat):Prop where
 fr:∀ y∈scope.names,y.2=.free->X.env.kindOf y.1=some .cell\/X.env.kindOf y.1=some .free
 nd:(scope.names.map (·.1)).Nodup
 kind:scope.kind=.function
 names:∀ y∈scope.names,y.2=.local->scope.names.lookup y.1=some .local
 len:N'.length=X.N.length+k
 old:∀ (i:Nat) (x:Str),i < X.N.length->N'[i]?=some x->Vis (relabel scope X.env) x->X.N[i]?=some x/\(x,NameKind.free)∈scope.names/\(relabel scope X.env).names.lookup x≠some .local
section
variable {X:Cx} {scope:Scope} {N':WU} {k:Nat} {cl:WZ} {pins:WI} {σ:St} {H:Hp} {s3 s4:WN} {fp:WQ}
theorem CJ (C:eV X scope N' k) (hc:X.calm=true) (I:Inv X pins σ H s3) (hf:∀ b∈fp,cY X pins H b) (hfl:∀ b∈fp,b < s3.heap.objs.size) (hcl1:∀ x c,cl.lookup x=some c->X.env.cells.lookup x=some c)
  (hcl2:∀ y∈scope.names,y.2=.free->cl.lookup y.1=X.env.cells.lookup y.1) {cl':WZ} (hcl':cl'=cellsFrom (s3.heap.objs.size+1) scope.names cl) (h':Heap) (hns:h'.Ns s3.heap.objs.size fun _=>none) (hk:∀ b o,s3.heap.get? b=some o->h'.get? b=some o) (hown:CellsOk h' (s3.heap.objs.size+1) (cellsFrom (s3.heap.objs.size+1) scope.names [])) :
  Inv (aQ X scope cl' N' fp s3 H) [] (σ++List.replicate k none) H { s3 with heap:=h' }:=by
 have fpold:∀ b∈fp,∀ o,X.base.get? b≠some o:=fun b hb o e=>by
  rcases (hf b hb).2.2.2.1 with z|z
  ·exact I.ok.noex b o e z
  ·exact absurd (ZN (Zv (I.ok.bs b o e).1) z) (XM _)
 have own:∀ x c,cl'.lookup x=some c->(scope.names.lookup x=some .cell/\(x,c)∈cellsFrom (s3.heap.objs.size+1) scope.names []/\s3.heap.objs.size < c/\h'.IsCell c none)\/(scope.names.lookup x≠some .cell/\cl.lookup x=some c):=fun x c e=>by
  rw [hcl'] at e
  rcases lu (n:=s3.heap.objs.size+1) (cl:=cl) C.nd x with ⟨h1,c',e1,e2⟩|⟨h1,e1⟩
  ·rw [e1] at e; cases e
   have:=hown.empty x c e2
   exact .inl ⟨h1,e2,this.2,this.1⟩
  ·rw [e1] at e; exact .inr ⟨h1,e⟩
 have fre:∀ y∈scope.names,y.2=.free->cl'.lookup y.1=X.env.cells.lookup y.1:=fun y hy hf=>by
  rw [hcl']
  rcases lu (n:=s3.heap.objs.size+1) (cl:=cl) C.nd y.1 with ⟨h1,_⟩|⟨_,e1⟩
  ·have:=kI C.nd (show (y.1,y.2)∈scope.names from hy)
   rw [h1,hf] at this; cases this
  ·rw [e1]; exact hcl2 y hy hf
 have ncl:∀ x c,cl.lookup x=some c->c < s3.heap.objs.size:=fun x c e=>by
  obtain ⟨v,o,ho,_⟩:=I.cell x c (hcl1 x c e)
  exact Zv ho
 have ok:(aQ X scope cl' N' fp s3 H).Ok:=by
  refine ⟨I.ok.mod,C.kind,I.ok.glob,I.ok.blt,Zk _,fun x y c h1 h2=>?_,fun x hx=>?_,fun x c hfn e=>?_,I.ok.hd,I.ok.frames,.inl rfl,fun b hb=>?_,I.bs,Z7 I.ok.bsz I.sz,fun b o e hb=>fpold b hb o e,fun b hb hb2=>?_,I.stack,I.nO⟩
  ·rcases own x c h1 with ⟨a1,a2,a3,a4⟩|⟨a1,a2⟩
   ·rcases own y c h2 with ⟨b1,b2,b3,b4⟩|⟨b1,b2⟩
    ·exact name_of_addr hown.apart a2 b2
    ·exact absurd (ncl y c b2) (Nat.lt_asymm a3)
   ·rcases own y c h2 with ⟨b1,b2,b3,b4⟩|⟨b1,b2⟩
    ·exact absurd (ncl x c a2) (Nat.lt_asymm b3)
    ·exact I.ok.inj x y c (hcl1 x c a2) (hcl1 y c b2)
  ·have hx':(relabel scope X.env).names.lookup x=some .cell\/(relabel scope X.env).names.lookup x=some .free:=hx
   have:(x,NameKind.free)∈scope.names\/(x,NameKind.cell)∈scope.names:=by
    have all:∀ (ns:List (Str × NameKind)),((ns.map fun (n,k)=>if (k==.free&&X.env.scope.kind==.function&&X.env.kindOf n==some .cell) then (n,NameKind.cell) else (n,k)).lookup x=some .cell\/(ns.map fun (n,k)=>if (k==.free&&X.env.scope.kind==.function&&X.env.kindOf n==some .cell) then (n,NameKind.cell) else (n,k)).lookup x=some .free)->(x,NameKind.free)∈ns\/(x,NameKind.cell)∈ns:=by
     intro ns
     induction ns with
     | nil=>intro h; rcases h with h|h <;> simp at h
     | cons y r ih =>
      intro h
      obtain ⟨n,kd⟩:=y
      have hr:=ih
      simp only [ZC] at h
      by_cases hxn:x=n
      ·subst hxn
       by_cases hkf:kd=.free
       ·subst hkf; exact .inl Zl
       ·have hb:(kd==NameKind.free)=false:=ZQ.mpr hkf
        simp only [hb,Ws,Zw,ZU,Qa] at h
        rcases h with h|h
        ·rw [Z0 h]; exact .inr Zl
        ·exact absurd (Z0 h) hkf
      ·have hb:(x==n)=false:=ZQ.mpr hxn
       refine (hr ?_).imp (Zm _) (Zm _)
       by_cases hcnd:(kd==NameKind.free&&X.env.scope.kind==.function&&X.env.kindOf n==some .cell)=true
       ·simp only [Zd hcnd,Z8,hb] at h
        exact h
       ·simp only [Ze hcnd,Z8,hb] at h
        exact h
    exact all scope.names hx'
   rcases this with this|this
   ·obtain ⟨c,e⟩:=I.ok.has x (C.fr _ this rfl)
    exact ⟨c,(fre _ this rfl).trans e⟩
   ·rcases lu (n:=s3.heap.objs.size+1) (cl:=cl) C.nd x with ⟨h1,c',e1,e2⟩|⟨h1,_⟩
    ·exact ⟨c',by show cl'.lookup x=_; rw [hcl']; exact e1⟩
    ·exact absurd (kI C.nd this) h1
  ·rcases own x c e with ⟨a1,a2,a3,a4⟩|⟨a1,a2⟩
   ·exact Qj a3
   ·exact absurd (Zn hfn) a1
  ·obtain ⟨f0,f1,f2,f3,f4,f5⟩:=hf b hb
   refine ⟨?_,fun x c e=>?_⟩
   rotate_left
   ·rcases own x c e with ⟨a1,a2,a3,a4⟩|⟨a1,a2⟩
    ·exact fun z=>absurd (hfl b hb) (by rw [<- z]; exact Nat.lt_asymm a3)
    ·exact f4 x c (hcl1 x c a2)
   intro z
   have hz:b=s3.heap.objs.size:=z
   exact absurd (hfl b hb) (by rw [hz]; exact XM _)
  ·obtain ⟨f0,f1,f2,f3,f4,f5⟩:=hf b hb
   rcases Zt.mp (I.lB b hb2) with z|z
   ·exact f1 z
   ·exact f2 z
 refine ⟨ok,rfl,I.bare,Un.kept hk,⟨fun _=>none,hns,fun i x v e1 e2 e3=>?_⟩,fun x c e=>?_,I.hok.fresh (Zk _),fun x c e=>?_,fun p hp=>absurd (show p∈([]:List (Addr × Obj)) from hp) (by simp),I.hok.kept hk,?_⟩
 ·have hi:i < σ.length:=by
   by_cases hi:i < σ.length
   ·exact hi
   ·rw [ZP (by omega),X2] at e2
    split at e2 <;> cases e2
  rw [ZF hi] at e2
  obtain ⟨o1,o2,o3⟩:=C.old i x (by rw [<- I.len]; exact hi) e1 e3
  obtain ⟨m,hn,hl⟩:=I.loc
  have hkk:=C.fr _ o2 rfl
  obtain ⟨u,r,l⟩:=hl i x v o1 e2 (by rcases hkk with q|q; exact .inr (.inl q); exact .inr (.inr q))
  refine ⟨u,r,?_⟩
  rcases l with ⟨q,_⟩|⟨q,c,e,z⟩
  ·rcases hkk with q'|q' <;> (rw [q] at q'; cases q')
  ·refine .inr ⟨?_,c,(fre _ o2 rfl).trans e,?_⟩
   ·rcases e3 with e3|e3|e3
    ·exact absurd e3 o3
    ·exact .inl e3
    ·exact .inr e3
   ·obtain ⟨o,ho,hd⟩:=z
    exact ⟨o,hk _ _ ho,hd⟩
 ·rcases own x c e with ⟨a1,a2,a3,a4⟩|⟨a1,a2⟩
  ·exact ⟨none,a4⟩
  ·obtain ⟨v,o,ho,hd⟩:=I.cell x c (hcl1 x c a2)
   exact ⟨v,o,hk _ _ ho,hd⟩
 ·rcases own x c e with ⟨a1,a2,a3,a4⟩|⟨a1,a2⟩
  ·exact I.hok.fresh (Qj a3)
  ·exact I.freeC x c (hcl1 x c a2)
 ·show (σ++List.replicate k none).length=N'.length
  rw [Zp,List.length_replicate,I.len,C.len]
theorem qG {elt iter tg:Expr} {ifs:WX} {pos:Pos} {g:TG} {tt:TT} {te:TE} {it:Addr} {tn:Nat->Heap->Prop} {J:It} {s2:WN} {Q:VK} {E:WH} (C:eV X scope N' k) (hc:X.calm=true)
  (hg:∀ cl fp s3 H3,PG (aQ X scope cl N' fp s3 H3) tg g) (htt:∀ cl fp s3 H3,PF (aQ X scope cl N' fp s3 H3) ifs tt) (hte:∀ cl fp s3 H3,PE (aQ X scope cl N' fp s3 H3) elt te)
  (hcl1:∀ x c,cl.lookup x=some c->X.env.cells.lookup x=some c) (hcl2:∀ y∈scope.names,y.2=.free->cl.lookup y.1=X.env.cells.lookup y.1)
  (I2:Inv X pins σ H s2) (T:Turn X.prog X.w X.K tg J fp it tn) (st2:tn 0 s2.heap) (f2:∀ b∈fp,cY X pins H b)
  (h2:∀ l,H l=none->∃ W:Nat->Nat->Hp->Prop,(∃ m,W 0 m (upd H l (.lst [])))/\∀ i m H,W i m H ->
   (J.stop i H/\Q (.ref l) H)\/(J.go i H/\∀ x H',J.yld i H x H'->g x (σ++List.replicate k none) H' fun σ2 H2=>(∀ (j:Nat) v,(σ++List.replicate k none)[j]?=some (some v)->σ2[j]?=some (some v))/\tt σ2 H2 fun b H3 =>
    if b=true then te σ2 H3 fun y H4=>∃ xs,H4 l=some (.lst xs)/\xs.length < sizeLine/\∃ m',m' < m/\W (i+1) m' (upd H4 l (.lst (xs++[y]))) else ∃ m',m' < m/\W (i+1) m' H3))
  {R:Value->Addr->Result->Shared->Prop} (hR:∀ l c H' s' m,Inv X pins σ H' s'->Q (.ref l) H'->s'.heap.Ns c m->cY X pins H' c->R (.ref l) c (.ok .next) s') :
  wpAny (model X.prog X.w) X.A (newList []) (fun acc s₃=>wpAny (model X.prog X.w) X.A (newFunctionEnv scope X.env.globals cl [] X.env.qual none .none (some X.env)) (fun cenv s₄ =>
   codeAny (model X.prog X.w) X.A (.compStart (.ListComp elt [⟨tg,iter,ifs,0⟩] scope pos) 0 (.ref it) acc { cenv with scope:=relabel scope X.env }) (R acc cenv.locals) s₄) E s₃) E s2:=by
 refine Xb ?_
 have hl0:H s2.heap.objs.size=none:=I2.hok.fresh (Zk _)
 obtain ⟨W,⟨m0,w0⟩,turn⟩:=h2 s2.heap.objs.size hl0
 have I3:Inv X pins σ (upd H s2.heap.objs.size (.lst [])) { s2 with heap:=s2.heap.push { cls:=.type "list",data:=.seq ([]:List Value).toArray } } :=
  I2.laid (t':=s2.toks) (fun b u e=>Zh _ e) (Zk _) ⟨by show 0<=_; omega,[],0,.nil,Zx _ rfl⟩
 have obj2:∀ b∈fp,∃ o,s2.heap.get? b=some o/\∀ v,o.data≠.cell v:=T.obj _ _ st2
 have lt2:∀ b∈fp,b < s2.heap.objs.size:=fun b hb=>let ⟨o,e,_⟩:=obj2 b hb; Zv e
 have f3:∀ b∈fp,cY X pins (upd H s2.heap.objs.size (.lst [])) b:=fun b hb=>⟨by rw [aE (ZI (lt2 b hb))]; exact (f2 b hb).1,(f2 b hb).2⟩
 generalize hs3:({ s2 with heap:=s2.heap.push { cls:=.type "list",data:=.seq ([]:List Value).toArray } }:Shared)=s3 at I3 ⊢
 have st3:tn 0 s3.heap:=T.keep _ _ _ st2 fun b hb o e=>by rw [<- hs3]; exact Zh _ e
 generalize hH3:upd H s2.heap.objs.size (.lst [])=H3 at I3 w0 f3
 generalize s2.heap.objs.size=l at turn ⊢ w0
 clear hs3 hH3
 have obj3:∀ b∈fp,∃ o,s3.heap.get? b=some o/\∀ v,o.data≠.cell v:=T.obj _ _ st3
 have lt3:∀ b∈fp,b < s3.heap.objs.size:=fun b hb=>let ⟨o,e,_⟩:=obj3 b hb; Zv e
 refine zp ?_
 have hown:=cellsFrom_ok scope.names (s3.heap.push { cls:=.type "dict",data:=.dict #[] }) (s3.heap.objs.size+1) [] ⟨fun _ _ hm=>(nomatch hm),List.Pairwise.nil⟩ (by rw [Xq]; exact Zk _)
 rw [Xq] at hown
 have hns₁:(pushCells (s3.heap.push { cls:=.type "dict",data:=.dict #[] }) scope.names).Ns s3.heap.objs.size fun _=>none:=(Heap.Ns.new s3.heap (.type "dict")).keeps (pushCells_keeps _ _)
 have hk1:∀ b o,s3.heap.get? b=some o->(pushCells (s3.heap.push { cls:=.type "dict",data:=.dict #[] }) scope.names).get? b=some o:=fun b o e=>pushCells_keeps _ _ b o (Zh _ e)
 generalize hcl':cellsFrom (s3.heap.objs.size+1) scope.names cl=cl'
 generalize pushCells (s3.heap.push { cls:=.type "dict",data:=.dict #[] }) scope.names=h₁ at hown hns₁ hk1
 have I4:Inv (aQ X scope cl' N' fp s3 H3) [] (σ++List.replicate k none) H3 { s3 with heap:=h₁ }:=CJ C hc I3 f3 lt3 hcl1 hcl2 hcl'.symm h₁ hns₁ hk1 hown
 have st4:tn 0 h₁:=T.keep _ _ _ st3 fun b _ o e=>hk1 b o e
 have stat:∀ {H':Hp},(∀ b∈fp,H' b=none)->∀ b∈fp,cY (aQ X scope cl' N' fp s3 H3) [] H' b:=fun {H'} hn b hb =>
  ⟨hn b hb,(I4.ok.exf b hb).1,I4.ok.exfs b hb,.inl hb,(I4.ok.exf b hb).2,fun p hp=>absurd (show p∈([]:List (Addr × Obj)) from hp) (by simp)⟩
 have loop:∀ s4:Shared,s4={ s3 with heap:=h₁ } ->
   codeAny (model X.prog X.w) X.A (.compLoop (.ListComp elt [⟨tg,iter,ifs,0⟩] scope pos) 0 (.ref it) (.ref l) (compEnvC scope cl' s3.heap.objs.size X.env)) (R (.ref l) s3.heap.objs.size) s4:=by
  rintro s4 rfl
  refine AH (env:=(aQ X scope cl' N' fp s3 H3).env) (fun n s'=>∃ i H',Inv (aQ X scope cl' N' fp s3 H3) [] (σ++List.replicate k none) H' s'/\tn i s'.heap/\(∀ b∈fp,H' b=none)/\W i n H') ?_ m0 ⟨0,H3,I4,st4,fun b hb=>(f3 b hb).1,w0⟩
  rintro n s5 ⟨i,H5,I5,st5,fr5,w5⟩
  rcases turn i n H5 w5 with ⟨stop,qn⟩|⟨go,step⟩
  ·refine thn (T.done (aQ X scope cl' N' fp s3 H3) rfl rfl rfl hc i [] s5 _ H5 _ I5 (stat fr5) st5 stop) fun r s6 ⟨hr,I6⟩=>?_
   subst hr
   obtain ⟨m,hnm,_⟩:=I6.loc
   have I7:Inv X pins σ H5 s6:=I3.zI (ch:=fp) I6.os I6.base I6.hok I6.bare fun b hb=>⟨(f3 b hb).2.2.2.1,(f3 b hb).2.1,(f3 b hb).2.2.2.2.1,(f3 b hb).2.2.2.2.2⟩
   exact hR l _ H5 s6 m I7 qn hnm (I3.fU (Zk _) I6.free)
  ·refine thn (T.item (aQ X scope cl' N' fp s3 H3) rfl rfl rfl hc i [] s5 _ H5 _ I5 (stat fr5) st5 go) fun r s6 ⟨u,hr,h6⟩=>?_
   subst hr
   refine thn h6 fun _ s7 ⟨x,H7,I7,r7,y7,st7,fr7⟩=>?_
   have I7':=I7.pinned (stat fr7) (T.obj _ _ st7)
   refine thn (hg cl' fp s3 H3 _ s7 _ H7 x u _ I7' r7 (step x H7 y7)) fun _ s8 ⟨σ8,H8,I8,w8,q8⟩=>?_
   refine thn (htt cl' fp s3 H3 _ s8 σ8 H8 _ I8 q8) fun b s9 ⟨H9,I9,q9⟩=>?_
   have again:∀ {H':Hp} {s':WN},Inv (aQ X scope cl' N' fp s3 H3) ([]++jx fp s7.heap) σ8 H' s'->(∃ m',m' < n/\W (i+1) m' H') ->
     ∃ m,m < n/\∃ i H',Inv (aQ X scope cl' N' fp s3 H3) [] (σ++List.replicate k none) H' s'/\tn i s'.heap/\(∀ b∈fp,H' b=none)/\W i m H':=fun {H' s'} I' ⟨m',hm,w'⟩=>by
    refine ⟨m',hm,i+1,H',(I'.kL).weak (by rw [I'.len]; exact I4.len) w8,T.keep _ _ _ st7 fun b hb o e=>(I'.pin (b,o) (ZY _ (ZY _ (kM hb e)))).1,fun b hb=>?_,w'⟩
    obtain ⟨o,e,d⟩:=T.obj _ _ st7 b hb
    exact (I'.pin (b,o) (ZY _ (ZY _ (kM hb e)))).2.1
   cases b with
   | false=>exact again I9 (by simpa using q9)
   | true =>
    rw [Zd rfl]
    rw [Zd rfl] at q9
    refine thn (hte cl' fp s3 H3 _ s9 σ8 H9 _ I9 q9) fun y s10 ⟨yv,H10,I10,r10,xs,hl10,hz,q10⟩=>?_
    refine thn (tP (X:=aQ X scope cl' N' fp s3 H3) _ s10 σ8 H10 (.ref l) [yv] (.ref l) [y] (fun _ H'=>∃ m',m' < n/\W (i+1) m' H') I10 rfl (.cons r10 .nil) ⟨l,xs,yv,rfl,rfl,hl10,hz,q10⟩) fun _ s11 ⟨_,H11,I11,_,q11⟩=>again I11 q11
 exact codeAny_compStart_list (loop _ rfl) (T.self _ 0 _ _ _ st4 (loop _ rfl))
theorem CD {elt iter tg:Expr} {ifs:WX} {pos:Pos} {wi:TI} {g:TG} {tt:TT} {te:TE} (C:eV X scope N' k) (hc:X.calm=true) (hi:PI X tg iter wi)
  (hg:∀ cl fp s3 H3,PG (aQ X scope cl N' fp s3 H3) tg g) (htt:∀ cl fp s3 H3,PF (aQ X scope cl N' fp s3 H3) ifs tt) (hte:∀ cl fp s3 H3,PE (aQ X scope cl N' fp s3 H3) elt te)
  (hs:∀ x,foldedSetIterable iter X.env x=pure x:=by intro _; rfl):PE X (.ListComp elt [⟨tg,iter,ifs,0⟩] scope pos) (lH k wi g tt te):=by
 intro pins s σ H Q I h
 rw [eval_ListComp]
 obtain ⟨cl,e1,e2,e3⟩:=wG (env:=X.env) (scope:=scope) fun y hy hf=>I.ok.has y.1 (C.fr y hy hf)
 refine wpAny_comprehension_free (use:=none) rfl hs e1 C.kind C.names (thn (hi pins s σ H _ I h) fun v s1 h1=>thn h1 fun itv s2 h2=>?_)
 obtain ⟨it,fp,tn,J,H2,e,I2,T,st2,f2,h2⟩:=h2
 subst e
 refine qG (R:=fun acc c=>compPost (model X.prog X.w) X.A X.xe none (EP X pins σ Q) acc c) C hc hg htt hte e2 e3 I2 T st2 f2 h2 fun l c H' s' m I' q hn fc=>?_
 obtain ⟨f0,f1,f2,f3,f4,f5⟩:=fc
 exact ⟨m,hn,fun h' hsb=>⟨.ref l,H',I'.turned (t':=s'.toks) (fun b o hb e=>(hsb.2 b hb).trans e) f0 f1 f3 f4 f5,rfl,q⟩⟩
theorem zy {elt iter tg:Expr} {ifs:WX} {pos:Pos} {wi:TI} {g:TG} {tt:TT} {te:TE} {j:Nat} {y:Str} {py spos:Pos} (C:eV X scope N' k) (hc:X.calm=true) (hi:PI X tg iter wi)
  (hg:∀ cl fp s3 H3,PG (aQ X scope cl N' fp s3 H3) tg g) (htt:∀ cl fp s3 H3,PF (aQ X scope cl N' fp s3 H3) ifs tt) (hte:∀ cl fp s3 H3,PE (aQ X scope cl N' fp s3 H3) elt te)
  (hN:X.N.Nodup) (hj:X.N[j]?=some y) (hy:X.env.scope.names.lookup y=some .local)
  (hsw:swapsWith (.ListComp elt [⟨tg,iter,ifs,0⟩] scope pos) (some (.Name y py)) spos.line X.env=pure true)
  (hs:∀ x,foldedSetIterable iter X.env x=pure x:=by intro _; rfl):PS X (.Assign [.Name y py] (.ListComp elt [⟨tg,iter,ifs,0⟩] scope pos) spos) (lJ (lH k wi g tt te) (i_ j)):=by
 intro pins s σ H D I h
 rw [exec_Assign_Name_used _ _ _ _ hsw]
 refine Za (wpAny_standAt (Za ?_))
 show wpAny _ X.A (do let _ <- comprehension (.ListComp elt [⟨tg,iter,ifs,0⟩] scope pos) scope X.env _ (newList []) false (eval iter X.env) (some (assign (.Name y py) X.env))) _ _ s
 obtain ⟨cl,e1,e2,e3⟩:=wG (env:=X.env) (scope:=scope) fun y hy hf=>I.ok.has y.1 (C.fr y hy hf)
 refine Za (Xu (wpAny_comprehension_free (use:=some (assign (.Name y py) X.env)) (Q:=fun _ s'=>SP X pins D .next s') rfl hs e1 C.kind C.names
  (thn (hi pins s σ H _ I h) fun v s1 h1=>thn h1 fun itv s2 h2=>?_)) (fun _ s' hq=>Zf (Zf hq)) fun _ _ e=>e)
 obtain ⟨it,fp,tn,J,H2,e,I2,T,st2,f2,h2⟩:=h2
 subst e
 refine qG (Q:=fun x H1=>i_ j x σ H1 D.nx) (R:=fun acc c=>compPost (model X.prog X.w) X.A X.xe (some (assign (.Name y py) X.env)) (fun _ s'=>SP X pins D .next s') acc c) C hc hg htt hte e2 e3 I2 T st2 f2 h2 fun l c H' s' m I' q hn fc=>?_
 obtain ⟨f0,f1,f2,f3,f4,f5⟩:=fc
 show wpAny _ X.A (assign (.Name y py) X.env (.ref l)) _ _ _
 refine wpAny_assign_Name (sf I' hN hj (.inl hy) (v:=.ref l) rfl (fun s'' I'' ch=>?_) (.inr hy))
 obtain ⟨a,hsb,ha⟩:=ch
 have hac:c≠a:=by
  rcases ha with z|z
  ·rw [z]; exact f1
  ·exact fun w=>f4 y a z w.symm
 refine ⟨m,hn.sameBut hsb hac,fun h' hsb2=>⟨_,H',I''.turned (t':=s''.toks) (fun b o hb e=>(hsb2.2 b hb).trans e) f0 f1 f3 f4 f5,q⟩⟩
end
end L2

namespace L2
open PySem PySem.Spec PyProof.Rows
structure Xc (B:Heap) (stack:List Env) (e:Addr) (h:Heap):Prop where
 stays:B.StaysIn h
 new:B.get? e=none
 frames:h.FunFrames B stack
def Cov (B:Heap) (stack:List Env) (s:WN) (H':Hp) (h:Heap):Prop:=∀ b o,h.get? b=some o->(H' b≠none\/∃ o',s.heap.get? b=some o')->b ∉ frs stack->B.get? b=some o
noncomputable def CXg (st:Heap->Heap->Addr->Addr->Prop) (P:WP) (w:WS):CXT:=fun stack H s E v s' =>
 ∃ e C B H',v=.ref e/\s'.os=s.os/\AllBare s'.gens/\Un (frs stack) [] H H' s.heap s'.heap/\HOk P w H' s'.heap/\Xc B stack e s'.heap/\st B s'.heap e C/\Cov B stack s H' s'.heap/\E (.ref C) none H'
def stF (_:Heap) (h:Heap) (e C:Addr):Prop:=∃ t,h.get? e=some { cls:=.ref C,data:=.fields #[.ref t,.none,.none,.none,.bool false,.none] }
def stT (B:Heap) (h:Heap) (e C:Addr):Prop:=∃ a0,h.TracedW B e (.ref C) a0
abbrev CXe (P:WP) (w:WS):CXT:=CXg stT P w
abbrev CXr (P:WP) (w:WS):CXT:=CXg stF P w
theorem vd {P:WP} {w:WS} {H:Hp} {h:Heap} {b:Addr} {ob:HO} (ok:HOk P w H h) (q:H b=some ob):∃ o,h.get? b=some o:=by
 have x:=ok b ob q
 clear q ok
 induction ob with
 | lst xs=>obtain ⟨_,_,_,_,e⟩:=x; exact ⟨_,e⟩
 | tup xs=>obtain ⟨_,_,_,_,e,_⟩:=x; exact ⟨_,e⟩
 | dK kvs=>obtain ⟨_,_,_,_,_,_,_,e,_⟩:=x; exact ⟨_,e⟩
 | dT kvs=>obtain ⟨_,_,_,_,_,_,_,e,_⟩:=x; exact ⟨_,e⟩
 | set S n=>obtain ⟨_,_,_,_,e,_⟩:=x; exact ⟨_,e⟩
 | ins C dx fs=>obtain ⟨_,_,_,e,_⟩:=x; exact ⟨_,e⟩
 | own y=>exact x
 | xd fs=>obtain ⟨_,⟨_,_,_,e,_⟩,_⟩:=x; exact ⟨_,e⟩
 | rng lo hi=>obtain ⟨_,_,_,e⟩:=x; exact ⟨_,e⟩
 | frz o u ih=>exact ⟨o,x.1⟩
 | tbl ps=>exact ⟨_,x⟩
 | met f y=>exact ⟨_,x⟩
 | ext φ=>exact x.2.1
section
variable {P:WP} {w:WS} {B h h':Heap} {stack:List Env} {e C:Addr} {s:WN} {H H':Hp}
theorem zj (hf:∀ b∈frs stack,∃ o,s.heap.get? b=some o/\H b=none) (u:Un (frs stack) [] H H' s.heap h) (ok:HOk P w H' h) (fr:h.FunFrames B stack) (cv:Cov B stack s H' h) (sb:B.StaysIn h') (up:h.UpToSlots h') :
  Un (frs stack) [] H H' s.heap h'/\HOk P w H' h'/\Cov B stack s H' h':=by
 have nf:∀ {b:Addr},H' b≠none->b ∉ frs stack:=fun {b} hb m=>by
  obtain ⟨o,e1,e2⟩:=hf b m
  exact hb (u.free b o e1 e2 (by simp))
 have old:∀ {b:Addr} {o:Obj},h.get? b=some o->(H' b≠none\/∃ o',s.heap.get? b=some o')->b ∉ frs stack->h'.get? b=some o:=fun {b o} e1 e2 e3=>sb b o (cv b o e1 e2 e3)
 have fram:∀ {b:Addr} {o:Obj},b∈frs stack->h.get? b=some o->∃ sl,h'.get? b=some { o with slots:=sl }:=fun {b o} m e1=>by
  obtain ⟨_,o',e2,hd⟩:=fr.mem m
  rw [e1] at e2; cases e2
  exact up b o e1 hd
 refine ⟨⟨fun b o e n hb _=>?_,fun b o e n hb _=>?_,u.free,fun b o e _=>?_,u.tups,u.frzs,u.tbls⟩,fun a o ea=>?_,fun b o e1 e2 e3=>?_⟩
 ·exact old (u.keep b o e n hb (by simp)) (.inr ⟨o,e⟩) hb
 ·obtain ⟨sl,e1⟩:=u.slot b o e n hb (by simp)
  obtain ⟨sl2,e2⟩:=fram hb e1
  exact ⟨sl2,e2⟩
 ·obtain ⟨o1,e1⟩:=u.there b o e (by simp)
  by_cases hb:b∈frs stack
  ·obtain ⟨sl,e2⟩:=fram hb e1
   exact ⟨_,e2⟩
  ·exact ⟨o1,old e1 (.inr ⟨o,e⟩) hb⟩
 ·refine (ok a o ea).stay (fun b v hb q=>?_) (fun _ q=>q) fun _ _ q=>q
  have hne:H' b≠none:=by
   rcases hb with rfl|hb
   ·rw [ea]; exact fun z=>by cases z
   ·rw [hb]; exact fun z=>by cases z
  exact old q (.inl hne) (nf hne)
 ·-- what is there now was there
  have:∃ o1,h.get? b=some o1:=by
   rcases e2 with z|⟨o2,z⟩
   ·cases q:H' b with
    | none=>exact absurd q z
    | some ob=>exact vd ok q
   ·exact u.there b o2 z (by simp)
  obtain ⟨o1,e4⟩:=this
  have e5:=cv b o1 e4 e2 e3
  have e6:=sb b o1 e5
  rw [e1] at e6; cases e6
  exact e5
end
section
variable {CX:CXT} {P:WP} {w:WS} {K:WL} {mg:WR} {base:Heap} {N:WU} {qual:Str} {scope:Scope} {f:Addr} {cd:W9} {A:WY} {outer:List Env} {s:WN} {H:Hp} {E E':XK}
theorem qz {X:Cx} {pins:WI} {σ:St} {H:Hp} {s:WN} (I:Inv X pins σ H s):∀ b∈frs X.stack,∃ o,s.heap.get? b=some o/\H b=none:=fun b hb=>by
 obtain ⟨_,o,e,_⟩:=I.stack.mem hb
 exact ⟨o,e,I.nO b hb⟩
theorem vU {st:Heap->Heap->Addr->Addr->Prop} (hst:∀ B h e C,st B h e C->stF B h e C\/stT B h e C) (hE:∀ C H,E' (.ref C) none H->E (.ref C) none H) {pins:WI} {σ:St} {H1:Hp} {s1:WN} {v:W9} {s':WN} (hA:A.frames=some outer)
  (I:Inv (cV (CXe P w) P w K mg base N qual scope f cd A outer s H E) pins σ H1 s1) (hx:CXg st P w (cV (CXe P w) P w K mg base N qual scope f cd A outer s H E).stack H1 s1 E' v s'):(cV (CXe P w) P w K mg base N qual scope f cd A outer s H E).xe v s':=by
 obtain ⟨e,C,B,H',rfl,h1,h2,u,ok,xc,hs,cv,hE'⟩:=hx
 have hstk:(cV (CXe P w) P w K mg base N qual scope f cd A outer s H E).stack=envOfC qual scope s.heap.objs.size f cd::outer:=rfl
 have hfr:(A.deeper (envOfC qual scope s.heap.objs.size f cd)).frames=some (envOfC qual scope s.heap.objs.size f cd::outer):=Around.frames_deeper hA
 have hf:(envOfC qual scope s.heap.objs.size f cd).frame=some s.heap.objs.size:=rfl
 have fin:∀ (h'':Heap) (a0:W9),Heap.LeftW B (envOfC qual scope s.heap.objs.size f cd::outer) e (.ref C) a0 s'.heap h''->CXe P w outer H s E (.ref e) { s' with heap:=h'' }:=fun h'' a0 hL=>by
  obtain ⟨k1,k2,k3,k4⟩:=hL
  obtain ⟨u2,ok2,cv2⟩:=zj (qz I) u ok xc.frames cv k1 k4
  have nL:∀ {b:Addr} {o:Obj},s.heap.get? b=some o->b≠s.heap.objs.size:=fun {b o} q=>ZI (Zv q)
  have mem:∀ {b:Addr},b∈frs (envOfC qual scope s.heap.objs.size f cd::outer) ↔ b=s.heap.objs.size\/b∈frs outer:=fun {b}=>by
   unfold frs
   rw [Xt,hf]
   exact Zt
  have ub:Un (frs outer) [] H H1 s.heap s1.heap:=I.base
  refine ⟨e,C,B,H',rfl,h1.trans I.os,h2,⟨fun b o q n hb _=>?_,fun b o q n hb _=>?_,fun b o q n _=>?_,fun b o q _=>?_,fun b xs q=>?_,fun b o u q=>?_,fun b ps q=>?_⟩,ok2,⟨k1,xc.new,k2.2.2⟩,⟨a0,k3⟩,fun b o q1 q2 q3=>?_,hE _ _ hE'⟩
  ·exact u2.keep b o (ub.keep b o q n hb (by simp)) (ub.free b o q n (by simp)) (fun z=>(mem.mp z).elim (nL q) hb) (by simp)
  ·obtain ⟨sl,q1⟩:=ub.slot b o q n hb (by simp)
   obtain ⟨sl2,q2⟩:=u2.slot b _ q1 (ub.free b o q n (by simp)) (mem.mpr (.inr hb)) (by simp)
   exact ⟨sl2,q2⟩
  ·obtain ⟨o1,q1⟩:=ub.there b o q (by simp)
   exact u2.free b o1 q1 (ub.free b o q n (by simp)) (by simp)
  ·obtain ⟨o1,q1⟩:=ub.there b o q (by simp)
   exact u2.there b o1 q1 (by simp)
  ·exact u2.tups b xs (ub.tups b xs q)
  ·exact u2.frzs b o u (ub.frzs b o u q)
  ·obtain ⟨m1,q1⟩:=ub.tbls b ps q
   obtain ⟨m2,q2⟩:=u2.tbls b _ q1
   exact ⟨m1++m2,by rw [<- Array.append_assoc]; exact q2⟩
  ·have hfree:H' s.heap.objs.size=none:=by
    obtain ⟨oL,eL,hL⟩:=qz I s.heap.objs.size (mem.mpr (.inl rfl))
    exact u2.free _ oL eL hL (by simp)
   refine cv2 b o q1 ?_ fun z=>?_
   ·rcases q2 with z|⟨o',z⟩
    ·exact .inl z
    ·exact .inr (ub.there b o' z (by simp))
   ·rcases mem.mp z with z|z
    ·rcases q2 with y|⟨o',y⟩
     ·rw [z] at y; exact y hfree
     ·exact nL y z
    ·exact q3 z
 show wpAny (model P w) (A.deeper (envOfC qual scope s.heap.objs.size f cd)) (leaving (envOfC qual scope s.heap.objs.size f cd) (.ref e)) (fun _ s''=>CXe P w outer H s E (.ref e) s'') (fun e' s''=>CXe P w outer H s E e' s'') s'
 rcases hst _ _ _ _ hs with ⟨t,he⟩|⟨a0,ht⟩
 ·exact wpAny_leaving_firstW hfr xc.frames hf he xc.stays xc.new rfl (a0:=.ref t) rfl rfl fun h'' hL=>fin h'' _ hL
 ·exact wpAny_leaving_nextW hfr xc.frames hf ht xc.stays xc.new fun h'' hL=>fin h'' _ hL
end
end L2

namespace L2
open PySem PySem.Spec PyProof.Rows
theorem Ah {K:WL} {h:Heap} {C:Addr} {bmB:WM} {newId:String} (X:K.In h) (q:PySem.W.excIn K C bmB newId=true) :
  ∃ bm N nm q bs hdct sn sub ab col dd k0 k1 k2 k3 k5 mN,h.get? C=some (excClassObj nm q C N bs bm hdct sn sub ab col dd k0 k1 k2 k3 k5 newId)/\h.Ns N mN/\mN "__init__" = none/\OwnTail h bmB bm:=by
 unfold PySem.W.excIn at q
 split at q
 case h_2=>cases q
 rename_i dd cd sl ho
 split at q
 case h_2=>cases q
 rename_i C' bm k0 k1 k2 k3 n k5 hm hs
 simp only [Zu,Qt,Bool.not_eq_true'] at q
 obtain ⟨⟨⟨⟨⟨z1,z2⟩,z3⟩,z4⟩,z5⟩,z6⟩:=q
 subst z1; subst z2
 obtain ⟨nm,bs,mro,ns,qn,hd,sn,sub,ab,col,del⟩:=cd
 dsimp only at hm z3 z5 z6
 subst hm; subst z3
 obtain ⟨l⟩:=sl
 have z7:l=[k0,k1,k2,k3,some (.builtin n),k5]:=hs
 subst z7
 exact ⟨bm,ns,nm,qn,bs,hd,sn,sub,ab,col,dd,k0,k1,k2,k3,k5,_,X _ _ ho,.of_isNs (PySem.W.isNs_of_in X z5),PySem.W.nsMap_none_of_in X z5 z6,PySem.W.tail_of_in X z4⟩
section
variable {X:Cx}
theorem Fz {x:Str} {C:Addr} {B newId initId:String} {bmB:WM} {np cpos pos:Pos} {a:Expr} {v:V} {E:XK} (FB:ExcBaseFacts B newId initId bmB) (ex:PySem.W.excIn X.K C bmB newId=true) (hm:X.mg x=some (.ref C)) (hg:Gl X x) (hc:X.calm=true) (hdb:(x==("__debug__" : Str))=false)
  (ha:PE X a (tC v)) (he:starEach [a] X.env=(false,eval a X.env)::starEach [] X.env) (hx:Passes (CXr X.prog X.w) X E):PS X (.Raise (some (.Call (.Name x np) [a] [] cpos)) none pos) (fun _ _ H=>E (.ref C) none H):=by
 intro pins s σ H D I h
 obtain ⟨tl,N,nm,q,bs,hdct,sn,sub,ab,col,dd,k0,k1,k2,k3,k5,mN,hC,hN,hni,T⟩:=Ah I.ok.mod.kin ex
 refine wpAny_Raise_call_subT (C:=C) (nm:=nm) (q:=q) (N:=N) (bs:=bs) (bm:=tl) (hdct:=hdct) (sn:=sn) (sub:=sub) (ab:=ab) (col:=col) (dd:=dd) (k0:=k0) (k1:=k1) (k2:=k2) (k3:=k3) (k5:=k5)
  FB (mN:=mN) (T.hasType FB.hasBase) (I.ok.hd hc) (by rw [he]; rfl) hni (jI I hg hm ⟨rfl,?_⟩ hdb)
 have ha':=gA ha jy he cpos pins s σ H (fun vs H'=>vs.length<=1/\E (.ref C) none H') I ⟨by simp,h⟩
 rw [he] at ha' ⊢
 refine Calls.evalArgs_plain (Xu ha' (fun vs s2 ⟨ws,H2,I2,r,hl,hE⟩=>⟨rfl,?_,I2.bk _ _ hC,hN.keeps I2.bk,T.keeps I2.bk,fun h' e hmd=>?_⟩) fun _ _ z=>z)
 ·show vs.length<=sizeLine
  rw [<- r.length,XC]; omega
 ·have old:∀ {b:Addr},(H2 b≠none\/∃ o',s2.heap.get? b=some o')->b < s2.heap.objs.size:=fun {b} hb=>by
   rcases hb with z|⟨o',z⟩
   ·cases q:H2 b with
    | none=>exact absurd q z
    | some ob=>exact I2.hok.lt q
   ·exact Zv z
  refine hx pins σ H2 s2 _ _ I2 ⟨e,C,PySem.W.hideAll s2.heap (frs X.stack),H2,rfl,rfl,I2.bare,Un.kept hmd.keeps,I2.hok.kept hmd.keeps,⟨fun b o z=>hmd.keeps b o (Ww _ z),?_,?_⟩,?_,fun b o z1 z2 z3=>?_,hE⟩
  ·cases z:(PySem.W.hideAll s2.heap (frs X.stack)).get? e with
   | none=>rfl
   | some o=>have:=Ww _ z; rw [hmd.new] at this; cases this
  ·refine (PySem.W.funFrames_hide I2.stack fun env hv b hb=>Qr.mpr ⟨env,hv,hb⟩).of_keeps fun b o z _=>⟨o,hmd.keeps b o z,rfl⟩
  ·obtain ⟨t,z,_⟩:=hmd.there
   exact ⟨t,z⟩
  ·have:∃ o1,s2.heap.get? b=some o1:=by
    rcases z2 with z|⟨o',z⟩
    ·cases q:H2 b with
     | none=>exact absurd q z
     | some ob=>exact vd I2.hok q
    ·exact ⟨o',z⟩
   obtain ⟨o1,z4⟩:=this
   have z5:=hmd.keeps b o1 z4
   rw [z1] at z5; cases z5
   exact PySem.W.hideAll_get _ z4 z3
end
end L2

namespace L2
open PySem PySem.Spec PySem.Calls PyProof.Rows
open PySem.W (Looks)
section
variable {X:Cx} {i:Nat} {C:Addr}
section
variable {k:Nat} {f:Addr} {fd:FuncData} {ps:WU} {sp:Sp} {x c n:Str} {newId:String} {bmB:WM} {p cpos rpos np hpos rp2 pos:Pos} {e kx:Expr} {es:WX} {t:TA} {kv:V}
end
end
end L2

namespace L2
open PySem PySem.Spec PySem.Calls PyProof.Rows
open PySem.W (Looks)
open PySem.Builtin PySem.Builtin.ObjectAttr PySem.Builtin.Getset_descriptor
structure DJ (K:WL) (C:Addr):Prop where
 ga:PySem.W.findIn K (.ref C) "__getattribute__" = some (some (.builtin "BaseException.__getattribute__"))
 gt:PySem.W.findIn K (.ref C) "__getattr__" = some none
 cl:PySem.W.findIn K (.ref C) "__class__" = some (some (.builtin "object.__class__"))
 gn:PySem.W.specialIn K (.builtin "object.__class__") "__get__" = some (some (.builtin "getset_descriptor.__get__"))
 tk:PySem.W.takesIn K (.builtin "object.__class__")=some true
 mo:PySem.W.mroIn K C (.type "object")=some true
 mb:PySem.W.mroIn K C (.type "BaseException")=some true
 is:(PySem.W.clsIn K C).isSome=true
section
variable {K:WL} {prog:WP} {w:WS} {A:WY} {E:WH} {s:WN} {a C:Addr}
end
section
variable {X:Cx} {i:Nat} {C:Addr}
end
end L2

namespace NEQ
open PySem PySem.SeqAt
open AutoSeq1 (wpAny_loadPart')
open MeetsSeq MeetsSeq2 MeetsSeq3 SeqRoads2
theorem Al (p q:Addr) (us ws:WV) (n1 n2:Nat) (d1 d2:W5) (z1 z2:W0) (hlen:us.size=ws.size) (same:Nat->Bool) (left:Nat) :
  ∀ at_:Nat,us.size - at_=left->Meets (Builtin.«list.__eq__.loop» ⟨[.ref p,.ref q,rawInt at_,rawInt 3],[]⟩)
   (fun A R st=>st.heap.get? p=some { cls:=.type "list",dict:=d1,data:=.seq us n1,slots:=z1 }/\st.heap.get? q=some { cls:=.type "list",dict:=d2,data:=.seq ws n2,slots:=z2 } /\
    (∀ j (h1:j < us.size) (h2:j < ws.size),EqAt A.in1 st us[j] ws[j] (same j))/\R (.ok (.ret (.bool (!((List.range us.size).drop at_).all same)))) st):=by
 induction left with
 | zero =>
  intro at_ hk prog w A R st hyp
  obtain ⟨hp,g,dr,tk,os⟩:=st
  obtain ⟨hl,hb,he,fin⟩:=hyp
  wp_walk using wpAny_loadPart' hl,wpAny_loadPart' hb
  have no1:us[((at_:Nat):Int).toNat]?=none:=by simp; omega
  have no2:ws[((at_:Nat):Int).toNat]?=none:=by simp; omega
  have nil:(List.range us.size).drop at_=[]:=by simp; omega
  rw [nil] at fin
  rw [no1,no2]
  wp_walk using wpAny_loadPart' hl,wpAny_loadPart' hb
  show R (.ok (.ret (.bool (us.size != ws.size)))) _
  rw [hlen]
  simpa using fin
 | succ left ih =>
  intro at_ hk prog w A R st hyp
  obtain ⟨hp,g,dr,tk,os⟩:=st
  obtain ⟨hl,hb,he,fin⟩:=hyp
  wp_walk using wpAny_loadPart' hl,wpAny_loadPart' hb
  have lt1:at_ < us.size:=by omega
  have lt2:at_ < ws.size:=by omega
  have yes1:us[((at_:Nat):Int).toNat]?=some us[at_]:=by simp [lt1]
  have yes2:ws[((at_:Nat):Int).toNat]?=some ws[at_]:=by simp [lt2]
  have cons:(List.range us.size).drop at_=at_::(List.range us.size).drop (at_+1):=by simp [Xp,lt1]
  have up:((at_:Int)+1)=((at_+1:Nat):Int):=by push_cast; rfl
  rw [cons,Wy] at fin
  rw [yes1,yes2]
  refine Za (he at_ lt1 lt2 prog w _ _ ?_)
  cases ev:same at_ with
  | true =>
   rw [ev] at fin
   wp_walk
   rw [up]
   exact ⟨QQ plain_eq_loop _,Xv entry_eq_loop (by
    rw [XD plain_eq_loop _]
    exact ih (at_+1) (by omega) prog w A R _ ⟨hl,hb,he,by simpa using fin⟩)⟩
  | false =>
   rw [ev] at fin
   wp_walk using wpAny_loadPart' hl,wpAny_loadPart' hb
   rw [yes1,yes2]
   wp_walk
   simpa using fin
theorem BU (p q:Addr) (us ws:WV) (n1 n2:Nat) (d1 d2:W5) (z1 z2:W0) (hlen:us.size=ws.size) (same:Nat->Bool) :
  Meets (Builtin.«list.__ne__» ⟨[.ref p,.ref q],[]⟩)
   (fun A R st=>st.heap.get? p=some { cls:=.type "list",dict:=d1,data:=.seq us n1,slots:=z1 }/\st.heap.get? q=some { cls:=.type "list",dict:=d2,data:=.seq ws n2,slots:=z2 } /\
    (∀ j (h1:j < us.size) (h2:j < ws.size),EqAt A.in1 st us[j] ws[j] (same j))/\R (.ok (.ret (.bool (!(List.range us.size).all same)))) st):=by
 intro prog w A R st hyp
 obtain ⟨hp,g,dr,tk,os⟩:=st
 obtain ⟨hl,hb,he,fin⟩:=hyp
 have f3:=AutoSeq1.sub_list_list
 have hne:¬ (us.size != ws.size)=true:=by simp [hlen]
 wp_walk using wpAny_loadPart' hl,wpAny_loadPart' hb
 exact ⟨QQ plain_eq_loop _,Xv entry_eq_loop (by
  rw [XD plain_eq_loop _]
  exact Al p q us ws n1 n2 d1 d2 z1 z2 hlen same _ 0 rfl prog w A R _ ⟨hl,hb,he,by simpa using fin⟩)⟩
theorem FW (p q:Addr) (us ws:WV) (n1 n2:Nat) (d1 d2:W5) (z1 z2:W0) (hlen:(us.size != ws.size)=true) :
  Meets (Builtin.«list.__ne__» ⟨[.ref p,.ref q],[]⟩)
   (fun _ R st=>st.heap.get? p=some { cls:=.type "list",dict:=d1,data:=.seq us n1,slots:=z1 }/\st.heap.get? q=some { cls:=.type "list",dict:=d2,data:=.seq ws n2,slots:=z2 } /\
    R (.ok (.ret (.bool true))) st) :=
 .of_wp fun prog w A R st hyp=>by
  obtain ⟨hp,g,dr,tk,os⟩:=st
  obtain ⟨hl,hb,fin⟩:=hyp
  have f3:=AutoSeq1.sub_list_list
  wp_walk using wpAny_loadPart' hl,wpAny_loadPart' hb
  exact ⟨_,rfl,fin⟩
theorem ED (p q:Addr) (us ws:WV) (n1 n2:Nat) (d1 d2:W5) (z1 z2:W0) (same:Nat->Bool) :
  Meets (Builtin.«tuple.__ne__» ⟨[.ref p,.ref q],[]⟩)
   (fun A R st=>st.heap.get? p=some { cls:=.type "tuple",dict:=d1,data:=.seq us n1,slots:=z1 }/\st.heap.get? q=some { cls:=.type "tuple",dict:=d2,data:=.seq ws n2,slots:=z2 } /\
    (∀ j (h1:j < us.size) (h2:j < ws.size),EqAt A.in1 st us[j] ws[j] (same j)) /\
    R (.ok (.ret (.bool (!((List.range (min us.size ws.size)).all same&&us.size==ws.size))))) st) :=
 .of_wp fun prog w A R st hyp=>by
  obtain ⟨hp,g,dr,tk,os⟩:=st
  obtain ⟨hl,hb,he,fin⟩:=hyp
  have f2:=AutoSeq1.sub_tuple_tuple
  have zl:(us.toList.zip ws.toList).length=min us.size ws.size:=by simp
  wp_walk using wpAny_loadPart' hl,wpAny_loadPart' hb,QK _ (fun more b s'=>b.1=none/\s'=⟨hp,g,dr,tk,os⟩/\∃ i,more=(us.toList.zip ws.toList).drop i /\
   R (.ok (.ret (.bool (!(((List.range (min us.size ws.size)).drop i).all same&&us.size==ws.size))))) ⟨hp,g,dr,tk,os⟩) _
  case turn =>
   rintro ⟨y,x⟩ more b s' ⟨hb',rfl,i,hz,hR⟩
   have lt:i < (us.toList.zip ws.toList).length:=by
    rcases Nat.lt_or_ge i (us.toList.zip ws.toList).length with h'|h'
    ·exact h'
    ·rw [List.drop_of_length_le h'] at hz; cases hz
   have hm:i < min us.size ws.size:=zl ▸ lt
   have h1:i < us.size:=ZN hm (Nat.min_le_left _ _)
   have h2:i < ws.size:=ZN hm (Nat.min_le_right _ _)
   rw [Xp lt] at hz
   injection hz with pair hmore
   have hy:y=us[i]:=by have:=Xn Prod.fst pair; simpa using this
   have hx:x=ws[i]:=by have:=Xn Prod.snd pair; simpa using this
   subst hy hx
   have cons:(List.range (min us.size ws.size)).drop i=i::(List.range (min us.size ws.size)).drop (i+1):=by simp [Xp,hm]
   rw [cons,Wy] at hR
   refine Za (he i h1 h2 prog w _ _ ?_)
   cases ev:same i with
   | true =>
    rw [ev] at hR
    wp_walk
    exact ⟨rfl,rfl,i+1,hmore,by simpa using hR⟩
   | false =>
    rw [ev] at hR
    wp_walk
    exact ⟨_,rfl,by simpa using hR⟩
  case fin =>
   rintro ⟨b1,b2⟩ s' ⟨hb',rfl,i,hz,hR⟩
   simp only at hb'
   subst hb'
   have ge:min us.size ws.size<=i:=by
    rcases Nat.lt_or_ge i (us.toList.zip ws.toList).length with h'|h'
    ·rw [Xp h'] at hz; cases hz
    ·exact zl ▸ h'
   rw [List.drop_of_length_le (by simpa using ge)] at hR
   wp_walk
   exact ⟨_,rfl,by simpa [Builtin.Tuple.tupleCompareSizes,bne] using hR⟩
  case h =>
   exact ⟨rfl,rfl,0,rfl,by simpa using fin⟩
section
variable {prog:WP} {w:WS} {A:WY} {E:WH} {s:WN}
theorem xR {l b:Addr} {us ws:WV} {same:Nat->Bool} {Q:WH} (hl:s.heap.IsList l us) (hb:s.heap.IsList b ws) (hlen:us.size=ws.size) (hu:A.units < cLine)
  (he:∀ j (h1:j < us.size) (h2:j < ws.size),EqAt A.in1 s us[j] ws[j] (same j)) (h:Q (.bool (!(List.range us.size).all same)) s):wpAny (model prog w) A (compareOp .NotEq (.ref l) (.ref b)) Q E s:=by
 obtain ⟨⟨c1,d1,t1,z1⟩,o1,k1,n1,e1⟩:=id hl
 obtain ⟨⟨c2,d2,t2,z2⟩,o2,k2,n2,e2⟩:=id hb
 simp only at k1 e1 k2 e2
 subst k1 e1 k2 e2
 exact Wd (op:=.NotEq) ⟨_,o1,rfl⟩ ⟨_,o2,rfl⟩ F.slot_list_ne F.entry_list_ne (F.args_list_ne_2 _ _) (BU l b us ws n1 n2 d1 d2 z1 z2 hlen same) ⟨o1,o2,he,⟨(fun x=>nomatch x),h⟩⟩ hu
theorem xG {l b:Addr} {us ws:WV} {Q:WH} (hl:s.heap.IsList l us) (hb:s.heap.IsList b ws) (hlen:(us.size != ws.size)=true) (hu:A.units < cLine)
  (h:Q (.bool true) s):wpAny (model prog w) A (compareOp .NotEq (.ref l) (.ref b)) Q E s:=by
 obtain ⟨⟨c1,d1,t1,z1⟩,o1,k1,n1,e1⟩:=id hl
 obtain ⟨⟨c2,d2,t2,z2⟩,o2,k2,n2,e2⟩:=id hb
 simp only at k1 e1 k2 e2
 subst k1 e1 k2 e2
 exact Wd (op:=.NotEq) ⟨_,o1,rfl⟩ ⟨_,o2,rfl⟩ F.slot_list_ne F.entry_list_ne (F.args_list_ne_2 _ _) (FW l b us ws n1 n2 d1 d2 z1 z2 hlen) ⟨o1,o2,⟨(fun x=>nomatch x),h⟩⟩ hu
theorem zd {l b:Addr} {us ws:WV} {same:Nat->Bool} {Q:WH} (hl:s.heap.IsTuple l us) (hb:s.heap.IsTuple b ws) (hu:A.units < cLine)
  (he:∀ j (h1:j < us.size) (h2:j < ws.size),EqAt A.in1 s us[j] ws[j] (same j)) (h:Q (.bool (!((List.range (min us.size ws.size)).all same&&us.size==ws.size))) s):wpAny (model prog w) A (compareOp .NotEq (.ref l) (.ref b)) Q E s:=by
 obtain ⟨⟨c1,d1,t1,z1⟩,o1,k1,n1,e1⟩:=id hl
 obtain ⟨⟨c2,d2,t2,z2⟩,o2,k2,n2,e2⟩:=id hb
 simp only at k1 e1 k2 e2
 subst k1 e1 k2 e2
 exact Wd (op:=.NotEq) ⟨_,o1,rfl⟩ ⟨_,o2,rfl⟩ F.slot_tuple_ne F.entry_tuple_ne (F.args_tuple_ne_2 _ _) (ED l b us ws n1 n2 d1 d2 z1 z2 same) ⟨o1,o2,he,⟨(fun x=>nomatch x),h⟩⟩ hu
end
end NEQ

namespace ENM
open PySem PyProof.Rows
open AutoSeq1 (wpAny_loadPart')
section
variable {prog:WP} {w:WS} {A:WY} {E:WH} {s:WN}
theorem Bl {it t:Addr} {k:Nat} {us:WV} {u:W9} {Q:WH} (hit:s.heap.IsTupleIter it t k) (ht:s.heap.IsTuple t us) (hu:us[k]?=some u)
  (fin:∀ h',h'.IsTupleIter it t (k+1)->Heap.SameBut it s.heap h'->Q u { s with heap:=h' }):wpAny (model prog w) A (Builtin.SmallTypes.nextOf (.ref it)) Q E s:=by
 obtain ⟨ob,hob,hcl,hda⟩:=id hit
 obtain ⟨ot,hot,_,nt,hdt⟩:=ht
 unfold Builtin.SmallTypes.nextOf
 refine Za (Z6 (name:=Str.ofString "__next__") hit.typeIs Qc (ZZ Qc hit.typeIs F.entry_tuple_iterator_next ?_ (F.args_tuple_iterator_next_1 _)))
 show wpAny _ _ (field (.ref it) 0>>=_) _ _ s
 refine Za (XR hob hda (x:=.ref t) rfl ?_)
 show wpAny _ _ (if (Value.ref t==Value.none)=true then _ else _) _ _ s
 rw [Ze (show ¬ ((Value.ref t==Value.none)=true) from Zz)]
 show wpAny _ _ (field (.ref it) 1>>=_) _ _ s
 refine Za (XR hob hda (x:=.int k 0) rfl ?_)
 show wpAny _ _ (seqItems? (.ref t)>>=_) _ _ s
 refine Za (Wt hot hdt ?_)
 simp only [Z9,hu]
 refine Za (Qi hob hda (by simp) (Zf ⟨u,rfl,Zf (fin _ ?_ (Xh ..))⟩))
 refine ⟨_,Xi _ hob (QI (XQ hda _)),(Wa ..).trans hcl,?_⟩
 rw [XQ hda]
 simp [rawInt]
theorem A7 {it t:Addr} {k:Nat} {us:WV} {Q:WH} (calm:A.handled=none) (hit:s.heap.IsTupleIter it t k) (ht:s.heap.IsTuple t us) (hu:us[k]?=none)
  (fin:∀ h' e,Heap.ExtBut it s.heap h'->(∃ o,h'.get? e=some o/\o.cls=.type "StopIteration")->E (.ref e) { s with heap:=h' }):wpAny (model prog w) A (Builtin.SmallTypes.nextOf (.ref it)) Q E s:=by
 obtain ⟨ob,hob,hcl,hda⟩:=id hit
 obtain ⟨ot,hot,_,nt,hdt⟩:=ht
 unfold Builtin.SmallTypes.nextOf
 refine Za (Z6 (name:=Str.ofString "__next__") hit.typeIs Qc (ZZ Qc hit.typeIs F.entry_tuple_iterator_next ?_ (F.args_tuple_iterator_next_1 _)))
 show wpAny _ _ (field (.ref it) 0>>=_) _ _ s
 refine Za (XR hob hda (x:=.ref t) rfl ?_)
 show wpAny _ _ (if (Value.ref t==Value.none)=true then _ else _) _ _ s
 rw [Ze (show ¬ ((Value.ref t==Value.none)=true) from Zz)]
 show wpAny _ _ (field (.ref it) 1>>=_) _ _ s
 refine Za (XR hob hda (x:=.int k 0) rfl ?_)
 show wpAny _ _ (seqItems? (.ref t)>>=_) _ _ s
 refine Za (Wt hot hdt ?_)
 simp only [Z9,hu]
 refine Za (Wj (Za (Qi hob hda (by simp) ?_)))
 show wpAny _ _ (newExc (.type "StopIteration") []>>=_) _ _ _
 refine Za ?_
 simp only [newExc,newTuple]
 refine Za (Xb ?_ (by size_fits))
 refine Za (m:=firstArgMember _ _) (Qg (a:=Value.none) (by first|rfl|(simp only [firstArgMember]; rfl)) ?_)
 refine Xb ?_ (by size_fits)
 simp only [raiseNew]
 refine Za (wpAny_handled ?_)
 first|rw [show A.in1.handled=none from calm]|rw [calm]
 refine Za (Zf (wpAny_throw ?_))
 exact fin _ _ (((Xh ..).extBut.push _).push _) ⟨_,Zx _ rfl,rfl⟩
def Inn (tup:Bool) (h:Heap) (it a:Addr) (k:Nat):Prop:=match tup with
 | true=>h.IsTupleIter it a k
 | false=>h.IsListIter it a k
def Seq (tup:Bool) (h:Heap) (a:Addr) (us:WV):Prop:=match tup with
 | true=>h.IsTuple a us
 | false=>h.IsList a us
theorem Inn.keep {tup:Bool} {h h':Heap} {it a:Addr} {k:Nat} (x:Inn tup h it a k) (e:∀ o,h.get? it=some o->h'.get? it=some o):Inn tup h' it a k:=by
 cases tup with
 | true=>obtain ⟨o,ho,r⟩:=(show h.IsTupleIter it a k from x); exact ⟨o,e _ ho,r⟩
 | false=>obtain ⟨o,ho,r⟩:=(show h.IsListIter it a k from x); exact ⟨o,e _ ho,r⟩
theorem Inn.there {tup:Bool} {h:Heap} {it a:Addr} {k:Nat} (x:Inn tup h it a k):∃ o,h.get? it=some o/\∀ v,o.data≠.cell v:=by
 cases tup with
 | true=>obtain ⟨o,ho,_,hd⟩:=(show h.IsTupleIter it a k from x); exact ⟨o,ho,fun v z=>by rw [hd] at z; cases z⟩
 | false=>obtain ⟨o,ho,_,hd⟩:=(show h.IsListIter it a k from x); exact ⟨o,ho,fun v z=>by rw [hd] at z; cases z⟩
theorem HY {tup:Bool} {it a:Addr} {k:Nat} {us:WV} {u:W9} {Q:WH} (hit:Inn tup s.heap it a k) (hs:Seq tup s.heap a us) (hu:us[k]?=some u)
  (fin:∀ h',Inn tup h' it a (k+1)->Heap.SameBut it s.heap h'->Q u { s with heap:=h' }):wpAny (model prog w) A (Builtin.SmallTypes.nextOf (.ref it)) Q E s:=by
 cases tup with
 | true=>exact Bl hit hs hu fin
 | false=>exact wpAny_nextOf_list_item hit hs hu fin
theorem AI {tup:Bool} {it a:Addr} {k:Nat} {us:WV} {Q:WH} (calm:A.handled=none) (hit:Inn tup s.heap it a k) (hs:Seq tup s.heap a us) (hu:us[k]?=none)
  (fin:∀ h' e,Heap.ExtBut it s.heap h'->(∃ o,h'.get? e=some o/\o.cls=.type "StopIteration")->E (.ref e) { s with heap:=h' }):wpAny (model prog w) A (Builtin.SmallTypes.nextOf (.ref it)) Q E s:=by
 cases tup with
 | true=>exact A7 calm hit hs hu fin
 | false=>exact wpAny_nextOf_list_end calm hit hs hu fin
theorem Gn {tup:Bool} {en it a:Addr} {k:Nat} {us:WV} {u old:W9} {Q:W3} (he:IsEnum s.heap en it k old) (hit:Inn tup s.heap it a k) (hs:Seq tup s.heap a us) (hu:us[k]?=some u) (hne:en≠it)
  (fin:∀ h',IsEnumOut h' en it ((k:Int)+1) u s.heap.objs.size->Inn tup h' it a (k+1)->h'.get? s.heap.objs.size=some { cls:=.type "tuple",data:=.seq #[.int k s.toks,u] }->h'.objs.size=s.heap.objs.size+1 ->
   (∀ b o,b≠en->b≠it->s.heap.get? b=some o->h'.get? b=some o)->Q (some (.ref s.heap.objs.size)) { s with heap:=h',toks:=s.toks+1 }):wpAny (model prog w) A (pyNext (.ref en)) Q E s:=by
 have hT:s.TypeIs (.ref en) "enumerate":=⟨_,he,rfl⟩
 unfold pyNext
 refine Za (X0 (Z6 (name:=Str.ofString "__next__") hT QJ (ZZ QJ hT F.entry_enumerate_next ?_ (F.args_enumerate_next_1 _))))
 obtain ⟨hp,g,dr,tk,os⟩:=s
 show wpAny _ _ (field (.ref en) 2>>=_) _ _ _
 refine Za (XR he rfl (x:=.ref it) rfl ?_)
 refine Za (HY hit hs hu fun h1 hit1 sb1=>?_)
 replace sb1:Heap.SameBut it hp h1:=sb1
 have he1:IsEnum h1 en it k old:=(sb1.2 en hne).trans he
 show wpAny _ _ (field (.ref en) 3>>=_) _ _ ⟨h1,g,dr,tk,os⟩
 refine Za (XR he1 rfl (x:=rawInt k) rfl ?_)
 show wpAny _ _ (field (.ref en) 4>>=_) _ _ ⟨h1,g,dr,tk,os⟩
 refine Za (XR he1 rfl (x:=.none) rfl ?_)
 show wpAny _ _ (mkInt k>>=_) _ _ ⟨h1,g,dr,tk,os⟩
 refine Za (wpAny_mkInt ?_)
 show wpAny _ _ (setField (.ref en) 3 (rawInt ((k:Int)+1))>>=_) _ _ ⟨h1,g,dr,tk+1,os⟩
 refine Za (Qu he1 (by simp) fun h2 he2 sb2=>?_)
 replace sb2:Heap.SameBut en h1 h2:=sb2
 replace he2:IsEnum h2 en it ((k:Int)+1) old:=he2
 show wpAny _ _ (setField (.ref en) 4 .none>>=_) _ _ ⟨h2,g,dr,tk+1,os⟩
 refine Za (Qu he2 (by simp) fun h3 he3 sb3=>?_)
 replace sb3:Heap.SameBut en h2 h3:=sb3
 replace he3:IsEnum h3 en it ((k:Int)+1) old:=he3
 show wpAny _ _ (newTuple [.int k tk,u]>>=_) _ _ ⟨h3,g,dr,tk+1,os⟩
 refine Za (wpAny_newTuple ?_)
 have he4:IsEnum (h3.push { cls:=.type "tuple",data:=.seq #[.int k tk,u] }) en it ((k:Int)+1) old:=Zh _ he3
 generalize eh4:h3.push { cls:=.type "tuple",data:=.seq #[.int k tk,u] }=h4 at he4
 have sz3:h3.objs.size=hp.objs.size:=by rw [sb3.1,sb2.1,sb1.1]
 have enlt:en < hp.objs.size:=Zv he
 have tp4:h4.get? hp.objs.size=some { cls:=.type "tuple",data:=.seq #[.int k tk,u] }:=by rw [<- eh4,<- sz3]; exact Zx _ rfl
 have sz4:h4.objs.size=hp.objs.size+1:=by rw [<- eh4,Xq,sz3]
 have kp4:∀ b o,b≠en->b≠it->hp.get? b=some o->h4.get? b=some o:=fun b o hbe hbi hb=>by
  rw [<- eh4]; exact Zh _ (sb3.extBut b o hbe (sb2.extBut b o hbe (sb1.extBut b o hbi hb)))
 have hit4:Inn tup h4 it a (k+1):=hit1.keep fun o e=>by
  rw [<- eh4]; exact Zh _ (sb3.extBut _ o (Ne.symm hne) (sb2.extBut _ o (Ne.symm hne) e))
 show wpAny _ _ (Builtin.SmallTypes.ownedTupleIsFree (.ref en)>>=_) _ _ ⟨h4,g,dr,tk+1,os⟩
 rw [sz3]
 clear eh4 he3 sb3 he2 sb2 he1 sb1 hit1 sz3 h3 h2 h1
 refine Za ?_
 unfold Builtin.SmallTypes.ownedTupleIsFree
 refine Za (XR he4 rfl (x:=.none) rfl (Zf ?_))
 simp only [XJ]
 refine Za (Wj ?_)
 refine Za (XR he4 rfl (x:=old) rfl ?_)
 refine Za (Qu he4 (by simp) fun h5 he5 sb5=>?_)
 replace sb5:Heap.SameBut en h4 h5:=sb5
 replace he5:IsEnum h5 en it ((k:Int)+1) u:=he5
 show wpAny _ _ (Builtin.SmallTypes.ownedTupleHandOut (.ref en) (.ref hp.objs.size)>>=_) _ _ ⟨h5,g,dr,tk+1,os⟩
 refine Za ?_
 unfold Builtin.SmallTypes.ownedTupleHandOut
 refine Za (Qu he5 (by simp) fun h6 he6 sb6=>?_)
 replace sb6:Heap.SameBut en h5 h6:=sb6
 replace he6:IsEnumOut h6 en it ((k:Int)+1) u hp.objs.size:=he6
 refine Qu he6 (by simp) fun h7 he7 sb7=>?_
 replace sb7:Heap.SameBut en h6 h7:=sb7
 replace he7:IsEnumOut h7 en it ((k:Int)+1) u hp.objs.size:=he7
 have up:∀ b o,b≠en->h4.get? b=some o->h7.get? b=some o:=fun b o hbe hb=>sb7.extBut b o hbe (sb6.extBut b o hbe (sb5.extBut b o hbe hb))
 refine Za (wpAny_letGo (Zf ⟨_,rfl,Zf (fin h7 he7 (hit4.keep fun o e=>up _ o (Ne.symm hne) e) (up _ _ (Qk enlt) tp4) ?_ fun b o hbe hbi hb=>up b o hbe (kp4 b o hbe hbi hb))⟩))
 rw [sb7.1,sb6.1,sb5.1,sz4]
theorem FP {tup:Bool} {en it a:Addr} {k:Nat} {us:WV} {old:W9} {Q:W3} (calm:A.handled=none) (he:IsEnum s.heap en it k old) (hit:Inn tup s.heap it a k) (hs:Seq tup s.heap a us) (hu:us[k]?=none)
  (fin:∀ h',Heap.ExtBut it s.heap h'->Q none { s with heap:=h' }):wpAny (model prog w) A (pyNext (.ref en)) Q E s:=by
 have hT:s.TypeIs (.ref en) "enumerate":=⟨_,he,rfl⟩
 unfold pyNext
 refine Za (X0 (Z6 (name:=Str.ofString "__next__") hT QJ (ZZ QJ hT F.entry_enumerate_next ?_ (F.args_enumerate_next_1 _))))
 show wpAny _ _ (field (.ref en) 2>>=_) _ _ _
 refine Za (XR he rfl (x:=.ref it) rfl ?_)
 refine Za (AI calm hit hs hu fun h' x ext hx=>?_)
 obtain ⟨o,ho,hc⟩:=hx
 refine Za (QL (T:="StopIteration") (b:=true) ⟨o,ho,hc⟩ Wu ?_)
 exact Zf (fin _ ext)
theorem A0 (t:Addr) (us:WV) (n:Nat) (dd:W5) (sl:W0) :
  Meets (Builtin.«enumerate.__new__» ⟨[.type "enumerate",.ref t],[]⟩) (fun _ R s=>s.heap.get? t=some { cls:=.type "tuple",dict:=dd,data:=.seq us n,slots:=sl } /\
   R (.ok (.ret (.ref (s.heap.push { cls:=.type "tuple_iterator",data:=.fields #[.ref t,.int 0 0] }).objs.size)))
    { s with heap:=(s.heap.push { cls:=.type "tuple_iterator",data:=.fields #[.ref t,.int 0 0] }).push { cls:=.type "enumerate",data:=.fields #[.none,.bool false,.ref s.heap.objs.size,rawInt 0,.none,.none] } }) :=
 .of_wp fun prog w A R s h=>by
  obtain ⟨hp,g,d,tk,os⟩:=s
  obtain ⟨ht,h⟩:=h
  have hsub:=sub_enumerate
  have hT:Heap.IsTuple (Shared.heap ⟨hp,g,d,tk,os⟩) t us:=⟨_,ht,rfl,n,rfl⟩
  wp_walk using wpAny_loadPart' ht
  refine wpAny_stack_any fun st=>Zf ?_
  split
  ·rename_i c _ _ _ _ _
   cases (c==Value.type "enumerate")
   ·wp_walk using wpAny_loadPart' ht,Qv hT
    exact ⟨_,rfl,h⟩
   ·wp_walk using wpAny_loadPart' ht,Qv hT
    exact ⟨_,rfl,h⟩
  ·wp_walk using wpAny_loadPart' ht,Qv hT
   exact ⟨_,rfl,h⟩
theorem xP {t:Addr} {us:WV} {Q:WH} (hT:s.heap.IsTuple t us)
  (h:∀ h',IsEnum h' (s.heap.objs.size+1) s.heap.objs.size 0 .none->h'.IsTupleIter s.heap.objs.size t 0->h'.objs.size=s.heap.objs.size+2->(∀ b o,s.heap.get? b=some o->h'.get? b=some o)->Q (.ref (s.heap.objs.size+1)) { s with heap:=h' }) :
  wpAny (model prog w) A (call (.type "enumerate") [.ref t]) Q E s:=by
 obtain ⟨⟨c,dd,dt,sl⟩,ht,hc,n,hd⟩:=hT
 replace hc:c=.type "tuple":=hc
 replace hd:dt=.seq us n:=hd
 subst hc hd
 refine callType_new F.called_enumerate (by decide) (F.typeCall_enumerate_1 _) (F.newCall_enumerate_1 _) (fun obj=>F.args_object_init_2 obj _) F.entry_enumerate_new (A0 t us n dd sl) ⟨ht,?_⟩
 have sz:(s.heap.push { cls:=.type "tuple_iterator",data:=.fields #[.ref t,.int 0 0] }).objs.size=s.heap.objs.size+1:=Xq ..
 show _/\_
 rw [sz]
 have he:IsEnum ((s.heap.push { cls:=.type "tuple_iterator",data:=.fields #[.ref t,.int 0 0] }).push { cls:=.type "enumerate",data:=.fields #[.none,.bool false,.ref s.heap.objs.size,rawInt 0,.none,.none] }) (s.heap.objs.size+1) s.heap.objs.size 0 .none:=by
  have:=Zx (s.heap.push { cls:=.type "tuple_iterator",data:=.fields #[.ref t,.int 0 0] }) (o:={ cls:=.type "enumerate",data:=.fields #[.none,.bool false,.ref s.heap.objs.size,rawInt 0,.none,.none] }) rfl
  rw [sz] at this; exact this
 exact ⟨⟨_,he,rfl⟩,h _ he ⟨_,Zh _ (Zx _ rfl),rfl,rfl⟩ (by rw [Xq,sz]) fun b o x=>Zh _ (Zh _ x)⟩
theorem zO {tup:Bool} {a:Addr} {us:WV} {Q:WH} (hs:Seq tup s.heap a us)
  (h:∀ h',IsEnum h' (s.heap.objs.size+1) s.heap.objs.size 0 .none->Inn tup h' s.heap.objs.size a 0->h'.objs.size=s.heap.objs.size+2->(∀ b o,s.heap.get? b=some o->h'.get? b=some o)->Q (.ref (s.heap.objs.size+1)) { s with heap:=h' }) :
  wpAny (model prog w) A (call (.type "enumerate") [.ref a]) Q E s:=by
 cases tup with
 | true=>exact xP hs h
 | false=>exact call_enumerate_list hs h
end
end ENM
namespace L2
open PySem PySem.Spec PyProof.Rows ENM
def SqB (K:WL) (H:Hp) (tup:Bool) (a:Addr) (xs:Ya):Prop:=match tup with
 | true=>SqT K H a xs
 | false=>SqL K H a xs
noncomputable def Ite (K:WL) (tup:Bool) (a:Addr):It :=
 ⟨fun i H=>∃ xs x,SqB K H tup a xs/\xs[i]?=some x,fun i H x H'=>∃ y p,(∀ xs,SqB K H tup a xs->xs[i]?=some y)/\H p=none/\H'=upd H p (.tup [.int i,y])/\x=.ref p,fun i H=>∃ xs,SqB K H tup a xs/\xs.length<=i⟩
theorem Inv.lS {X:Cx} {pins:WI} {σ:L2.St} {H:Hp} {s:WN} (I:Inv X pins σ H s) {tup:Bool} {a:Addr} {xs:Ya} (h:SqB X.K H tup a xs):∃ its:List Value,Vals xs its/\Seq tup s.heap a its.toArray:=by
 cases tup with
 | true=>obtain ⟨its,rv,p,_⟩:=I.tuple h; exact ⟨its,rv,p⟩
 | false=>obtain ⟨its,rv,p,_⟩:=I.list h; exact ⟨its,rv,p.isList⟩
theorem Inv.zN {X:Cx} {pins:WI} {σ:L2.St} {H:Hp} {s:WN} (I:Inv X pins σ H s) {tup:Bool} {a:Addr} {xs ys:Ya} (h:SqB X.K H tup a xs) (h':SqB X.K H tup a ys):xs=ys:=by
 cases tup with
 | true=>exact I.kD h h'
 | false=>exact I.kr h h'
theorem yU {P:WP} {w:WS} {K:WL} {elts:WX} {k1:Nat} {tp:Pos} (tup:Bool) (a en it:Addr) (hne:en≠it) :
  Turn P w K (.Tuple elts k1 tp) (Ite K tup a) [en,it] en (fun i h=>(∃ old,IsEnum h en it i old)/\Inn tup h it a i) where
 mem:=by simp
 obj:=fun i h st b hb=>by
  obtain ⟨⟨old,he⟩,hi⟩:=st
  rcases Zt.mp hb with rfl|hb
  ·exact ⟨_,he,fun v z=>by
    have z':Data.fields _=Data.cell v:=z
    cases z'⟩
  ·have e:b=it:=by simpa using hb
   subst e; exact hi.there
 keep:=fun i h h' st k=>by
  obtain ⟨⟨old,he⟩,hi⟩:=st
  exact ⟨⟨old,k en (by simp) _ he⟩,hi.keep fun o e=>k it (by simp) o e⟩
 item:=by
  intro X hP hw hK hc i pins s σ H E I hf st hg
  subst hP hw hK
  obtain ⟨⟨old,he⟩,hi⟩:=st
  obtain ⟨xs,x,hq,hx⟩:=hg
  obtain ⟨its,rv,hs⟩:=I.lS hq
  obtain ⟨u,hu,ru⟩:=rv.get hx
  obtain ⟨f0,f1,f2,f3,f4,f5⟩:=hf en (by simp)
  obtain ⟨g0,g1,g2,g3,g4,g5⟩:=hf it (by simp)
  refine Gn he hi hs (u:=u) (by simpa using hu) hne fun h' ho hi' ht hz hk=>?_
  refine ⟨_,rfl,wpAny_letOwnedTupleGo_enum ho fun h2 he2 sb2=>?_⟩
  replace sb2:Heap.SameBut en h' h2:=sb2
  have elt:en < s.heap.objs.size:=Zv he
  have hp:H s.heap.objs.size=none:=I.hok.fresh (Zk _)
  have ilt:it < s.heap.objs.size:=by obtain ⟨o,e,_⟩:=hi.there; exact Zv e
  have kept:∀ b o,b≠en->b≠it->s.heap.get? b=some o->h2.get? b=some o:=fun b o h1 h3 e=>sb2.extBut b o h1 (hk b o h1 h3 e)
  have tp2:h2.get? s.heap.objs.size=some { cls:=.type "tuple",data:=.seq #[.int i s.toks,u] }:=sb2.extBut _ _ (Qk elt) ht
  have I2:Inv X pins σ (upd H s.heap.objs.size (.tup [.int i,x])) { s with heap:=h2,toks:=s.toks+1 }:=by
   refine I.step (g':=s.gens) (d':=s.drawn) (ch:=[en,it]) (fun b hb=>?_) (fun b o _ _ hc e _=>kept b o (fun z=>hc (by simp [z])) (fun z=>hc (by simp [z])) e)
    (fun b o _ _ hc e _=>⟨o.slots,kept b o (fun z=>hc (by simp [z])) (fun z=>hc (by simp [z])) e⟩) (fun b o _ e n=>by rw [aE (ZI (Zv e))]; exact n)
    (fun b o hc e=>⟨o,kept b o (fun z=>hc (by simp [z])) (fun z=>hc (by simp [z])) e⟩) (fun b ys q=>by rw [aE (bz q hp)]; exact q) (fun b o u q=>by rw [aE (bz q hp)]; exact q)
    (fun b ps q=>⟨#[],by rw [aE (bz q hp),q]; simp⟩) (fun m hm=>?_) ?_ I.bare
   ·rcases Zt.mp hb with rfl|hb
    ·exact ⟨f3,f1,f4,f5⟩
    ·have e:b=it:=by simpa using hb
     subst e; exact ⟨g3,g1,g4,g5⟩
   ·obtain ⟨o,es,ep,ho',r⟩:=hm
    exact ⟨o,es,ep,kept _ o (Ne.symm f1) (Ne.symm g1) ho',r⟩
   ·intro b o q
    by_cases hb:b=s.heap.objs.size
    ·subst hb
     rw [cu] at q
     cases q
     exact ⟨by show 2<=sizeLine; decide,[.int i s.toks,u],.cons ⟨_,rfl⟩ (.cons ru .nil),_,tp2,rfl,_,rfl⟩
    ·rw [aE hb] at q
     have hb1:b≠en:=fun z=>by rw [z,f0] at q; cases q
     have hb2:b≠it:=fun z=>by rw [z,g0] at q; cases q
     refine (I.hok b o q).stay (fun c v hc e=>?_) (fun c q=>by rw [aE (bz q hp)]; exact q) fun c ys q=>by rw [aE (bz q hp)]; exact q
     rcases hc with rfl|hc
     ·exact kept _ v hb1 hb2 e
     ·exact kept c v (fun z=>by rw [z,f0] at hc; cases hc) (fun z=>by rw [z,g0] at hc; cases hc) e
  refine ⟨.ref s.heap.objs.size,upd H s.heap.objs.size (.tup [.int i,x]),I2,rfl,⟨x,_,fun ys hy=>by rw [I.zN hy hq]; exact hx,hp,rfl,rfl⟩,⟨⟨u,by simpa using he2⟩,hi'.keep fun o e=>sb2.extBut _ o (Ne.symm hne) e⟩,fun b hb=>?_⟩
  rcases Zt.mp hb with rfl|hb
  ·rw [aE (ZI elt)]; exact f0
  ·have e:b=it:=by simpa using hb
   subst e; rw [aE (ZI ilt)]; exact g0
 done:=by
  intro X hP hw hK hc i pins s σ H E I hf st hg
  subst hP hw hK
  obtain ⟨⟨old,he⟩,hi⟩:=st
  obtain ⟨xs,hq,hx⟩:=hg
  obtain ⟨its,rv,hs⟩:=I.lS hq
  obtain ⟨g0,g1,g2,g3,g4,g5⟩:=hf it (by simp)
  have hl:=rv.length
  exact FP (I.ok.hd hc) he hi hs (by simp; omega) fun h' eb=>⟨rfl,I.turned (t':=s.toks) (fun b o hb e=>eb b o hb e) g0 g1 g3 g4 g5⟩
 self:=fun _ _ _ _ _ st h=>by
  obtain ⟨⟨old,he⟩,_⟩:=st
  exact wpAny_pyIter_enum he h
section
variable {X:Cx}
def yV (K:WL) (ta:TA):TI:=fun σ H R=>ta σ H fun vs H1=>∃ tup a,vs=[.ref a]/\(∃ xs,SqB K H1 tup a xs)/\R (Ite K tup a) H1
theorem FJ {e:Expr} {ta:TA} {p pos:Pos} {elts:WX} {k1:Nat} {tp:Pos} (hg:Gl X "enumerate") (hm:X.mg "enumerate" = none) (hv:bootBuiltins "enumerate" = some (.type "enumerate")) (ha:PA X [e] ta) (hs:starEach [e] X.env=[(false,eval e X.env)]) :
  PI X (.Tuple elts k1 tp) (.Call (.Name "enumerate" p) [e] [] pos) (yV X.K ta):=by
 intro pins s σ H R I h
 refine Call_ (cP I hg hm hv (Z3 (thn (ha pos pins s σ H _ I h) fun us s1 ⟨vs,H1,I1,r1,q1⟩=>?_) hs rfl))
 obtain ⟨tup,a,e,⟨xs,hq⟩,q⟩:=q1
 subst e
 cases r1 with
 | cons r rr =>
  cases rr
  cases r
  obtain ⟨its,rv,hsq⟩:=I1.lS hq
  refine zO hsq fun h' he hi hz hk=>?_
  refine wpAny_pyIter_enum he ?_
  have fr:∀ b,s1.heap.objs.size<=b->cY X pins H1 b:=fun b hb=>I1.fU hb (I1.hok.fresh hb)
  refine ⟨s1.heap.objs.size+1,[s1.heap.objs.size+1,s1.heap.objs.size],_,_,H1,rfl,I1.kept (t':=s1.toks) hk,yU tup a _ _ (Qk (XA _)),⟨⟨.none,he⟩,hi⟩,fun b hb=>?_,q⟩
  rcases Zt.mp hb with rfl|hb
  ·exact fr _ (XL _)
  ·have e:b=s1.heap.objs.size:=by simpa using hb
   subst e; exact fr _ (Zk _)
noncomputable def oO (lo:Int) (n:Nat):It:=⟨fun i _=>i < n,fun i H x H'=>H'=H/\x=.int (lo - i),fun i _=>n<=i⟩
theorem zL {P:WP} {w:WS} {K:WL} {tg:Expr} (it:Addr) (lo:Int) (n:Nat):Turn P w K tg (oO lo n) [it] it (fun i h=>IsRangeIter h it (lo+(i:Nat) * (-1)) ((n:Int) - (i:Nat)) (-1)) where
 mem:=by simp
 obj:=fun i h st b hb=>by
  have e:b=it:=by simpa using hb
  subst e
  exact ⟨_,st,fun v z=>by
   have z':Data.fields _=Data.cell v:=z
   cases z'⟩
 keep:=fun i h h' st k=>k it (by simp) _ st
 item:=by
  intro X hP hw hK hc i pins s σ H E I hf st hg
  subst hP hw hK
  obtain ⟨f0,f1,f2,f3,f4,f5⟩:=hf it (by simp)
  have W:=Walks.range (prog:=X.prog) (w:=X.w) (I.ok.hd hc) it lo (-1) n
  refine W.item i s _ _ hg st fun v h' tk hv st' kk=>?_
  obtain ⟨t,rfl⟩:=hv
  have I1:Inv X pins σ H { s with heap:=h',toks:=tk }:=I.turned (fun b o hb e=>kk b o (by simpa using hb) e) f0 f1 f3 f4 f5
  refine ⟨_,rfl,jn (s:={ s with heap:=h',toks:=tk }) (n:="range_iterator") st' rfl rfl (by decide) ⟨.int (lo - i),H,I1,⟨t,?_⟩,⟨rfl,rfl⟩,st',fun b hb=>(hf b hb).1⟩⟩
  congr 1
  omega
 done:=by
  intro X hP hw hK hc i pins s σ H E I hf st hg
  subst hP hw hK
  obtain ⟨f0,f1,f2,f3,f4,f5⟩:=hf it (by simp)
  exact wpAny_pyNext_range_end (I.ok.hd hc) st (by have:n<=i:=hg; omega) fun h' eb=>⟨rfl,I.turned (t':=s.toks) (fun b o hb e=>eb b o hb e) f0 f1 f3 f4 f5⟩
 self:=fun _ _ _ _ _ st h=>wpAny_pyIter_rangeiter st h
theorem rangeSize_down (a b:Int):Builtin.Range.rangeSize a b (-1)=if b < a then a - b else 0:=by
 unfold Builtin.Range.rangeSize
 rw [Ze (by decide)]
 by_cases h:b < a
 ·rw [Zd h,Zd (show a > b from h)]
  rw [show (-(-1):Int)=1 from rfl,WE]; omega
 ·rw [Ze h,Ze (show ¬ a > b from h)]
theorem small_down {a b:Int} (ha:-(2 ^ 62)<=a) (ha':a < 2 ^ 62) (hb:-(2 ^ 62)<=b) (hb':b < 2 ^ 62):Builtin.Range.small a b (-1)=true:=by
 unfold Builtin.Range.small
 rw [rangeSize_down]
 simp only [Builtin.Range.rangeFitsLong,Zu,Bool.or_eq_true,XV,Qt]
 by_cases h:b < a
 ·simp only [Zd h]
  rw [Ze (show ¬ (-1:Int) > 0 by decide),Zu,XV,XV]
  omega
 ·simp only [Ze h]
  rw [Ze (show ¬ (-1:Int) > 0 by decide),Zu,XV,XV]
  omega
def yp (ta:TA):TI:=fun σ H R=>ta σ H fun vs H1=>∃ i j:Int,vs=[.int i,.int j,.int (-1)]/\(-(2 ^ 62)<=i/\i < 2 ^ 62/\-(2 ^ 62)<=j/\j < 2 ^ 62)/\R (oO i (i - j).toNat) H1
theorem A9 {tg a b c:Expr} {ta:TA} {p pos:Pos} (hg:Gl X "range") (hm:X.mg "range" = none) (ha:PA X [a,b,c] ta) (hs:starEach [a,b,c] X.env=[(false,eval a X.env),(false,eval b X.env),(false,eval c X.env)]) (hs2:starEach [b,c] X.env=[(false,eval b X.env),(false,eval c X.env)]) :
  PI X tg (.Call (.Name "range" p) [a,b,c] [] pos) (yp ta):=by
 intro pins s σ H R I h
 refine Call_ (cP I hg hm boot_range (Z3 (thn (ha pos pins s σ H _ I h) fun us s1 ⟨vs,H1,I1,r1,q1⟩=>?_) (by rw [hs,hs2]) (by rw [hs2]; rfl)))
 obtain ⟨i,j,e,⟨q1,q2,q3,q4⟩,q⟩:=q1
 subst e
 cases r1 with
 | cons r rr =>
  cases rr with
  | cons r' rr =>
   cases rr with
   | cons r'' rr =>
    cases rr
    obtain ⟨t,rfl⟩:=r
    obtain ⟨t',rfl⟩:=r'
    obtain ⟨t'',rfl⟩:=r''
    refine call_range_3 (by decide) ?_ (.inl (PyProof.noPylong_small (by decide)))
    refine wpAny_pyIter_range (IsRange.new ..) (small_down q1 q2 q3 q4) ?_
    have I2:Inv X pins σ H1 { s1 with heap:=s1.heap.push { cls:=.type "range",data:=.fields #[.int i t,.int j t',.int (-1) t''] } }:=I1.kept (t':=s1.toks) fun b o e=>Zh _ e
    refine ⟨(s1.heap.push { cls:=.type "range",data:=.fields #[.int i t,.int j t',.int (-1) t''] }).objs.size,[(s1.heap.push { cls:=.type "range",data:=.fields #[.int i t,.int j t',.int (-1) t''] }).objs.size],_,_,H1,rfl,
     I2.kept (t':=s1.toks) fun b o e=>Zh _ e,zL _ i (i - j).toNat,?_,fun b hb=>?_,q⟩
    ·have e1:i+((0:Nat):Int) * (-1)=i:=by simp
     have e2:(((i - j).toNat:Nat):Int) - ((0:Nat):Int)=Builtin.Range.rangeSize i j (-1):=by rw [rangeSize_down]; split <;> omega
     show IsRangeIter _ _ (i+((0:Nat):Int) * (-1)) ((((i - j).toNat:Nat):Int) - ((0:Nat):Int)) (-1)
     rw [e1,e2]
     exact Zx _ rfl
    ·have e:b=(s1.heap.push { cls:=.type "range",data:=.fields #[.int i t,.int j t',.int (-1) t''] }).objs.size:=by simpa using hb
     subst e
     exact I2.fU (Zk _) (I2.hok.fresh (Zk _))
end
end L2

namespace TB
open PySem PySem.SetTable
noncomputable def adv (mask:Nat) (p:Probe):Probe :=
 if p.more > 0 then { p with j:=p.j+1,more:=p.more - 1 } else
 { p with j:=(leap mask p.i p.perturb).1,more:=runEnd mask (leap mask p.i p.perturb).1 - (leap mask p.i p.perturb).1,i:=(leap mask p.i p.perturb).1,perturb:=(leap mask p.i p.perturb).2 }
theorem tX (t:SetTable) (p:Probe):t.advance p=adv t.mask p:=rfl
noncomputable def bs (mask:Nat) (b:W6):Probe:={ j:=b.1,more:=runEnd mask b.1 - b.1,i:=b.1,perturb:=b.2,dummy:=none }
noncomputable def st (mask:Nat) (h:Int):Nat->Probe
 | 0=>bs mask (bits h % (mask+1),bits h)
 | k+1=>adv mask (st mask h k)
def pos (mask:Nat) (h:Int) (k:Nat):Nat:=(st mask h k).j
noncomputable def dG (mask:Nat):Nat->Probe->Probe
 | 0,p=>p
 | n+1,p=>dG mask n (adv mask p)
theorem mJ (mask:Nat):∀ (a b:Nat) (p:Probe),dG mask (a+b) p=dG mask b (dG mask a p)
 | 0,b,p=>by rw [Xm]; rfl
 | a+1,b,p=>by rw [Nat.add_right_comm]; exact mJ mask a b (adv mask p)
theorem ku (mask:Nat) (h:Int):∀ (n k:Nat),dG mask n (st mask h k)=st mask h (k+n)
 | 0,k=>rfl
 | n+1,k=>by
  show dG mask n (st mask h (k+1))=_
  rw [ku mask h n (k+1),show k+1+n=k+(n+1) by omega]
theorem sV (mask:Nat) (h:Int):∀ k,(st mask h k).dummy=none
 | 0=>rfl
 | k+1=>by
  show (adv mask (st mask h k)).dummy=none
  unfold adv
  split <;> exact sV mask h k
structure Ok (mask:Nat) (p:Probe):Prop where
 i:p.i<=mask
 q:p.perturb < 2 ^ 64
 m:p.more<=9
 j:p.j+p.more=runEnd mask p.i
 d:p.dummy=none
theorem pW (mask i:Nat):runEnd mask i - i<=9:=by unfold runEnd; split <;> omega
theorem mU (mask i:Nat):i<=runEnd mask i:=by unfold runEnd; split <;> omega
theorem qo {mask i:Nat} (h:i<=mask):runEnd mask i<=mask:=by unfold runEnd; split <;> omega
theorem vt {mask:Nat} {b:W6} (h1:b.1<=mask) (h2:b.2 < 2 ^ 64):Ok mask (bs mask b) :=
 ⟨h1,h2,pW mask b.1,Nat.add_sub_cancel' (mU mask b.1),rfl⟩
theorem sL {mask i q:Nat} (h:q < 2 ^ 64):(leap mask i q).1<=mask/\(leap mask i q).2 < 2 ^ 64:=by
 refine ⟨QT.mp (Wl _ (Ql mask)),?_⟩
 show q / 32 < _
 omega
theorem Bx {mask:Nat} {p:Probe} (h:Ok mask p):Ok mask (adv mask p):=by
 unfold adv
 split
 ·rename_i hm
  exact ⟨h.i,h.q,by show p.more - 1<=9; have:=h.m; omega,by show p.j+1+(p.more - 1)=runEnd mask p.i; have:=h.j; omega,h.d⟩
 ·have:=sL (mask:=mask) (i:=p.i) h.q
  exact ⟨this.1,this.2,pW _ _,Nat.add_sub_cancel' (mU _ _),h.d⟩
theorem w9 (h:Int):bits h < 2 ^ 64:=by
 unfold bits
 have h1:=QU h (show (2 ^ 64:Int)≠0 by decide)
 have h2:=Qw h (show (0:Int) < 2 ^ 64 by decide)
 omega
theorem cU (mask:Nat) (h:Int):∀ k,Ok mask (st mask h k)
 | 0=>vt (QT.mp (Wl _ (Ql mask))) (w9 h)
 | k+1=>Bx (cU mask h k)
theorem D9 (mask:Nat) (h:Int) (k:Nat):pos mask h k<=mask:=by
 have o:=cU mask h k
 have:=qo o.i
 have:=o.j
 unfold pos; omega
theorem lV (mask:Nat):∀ (a:Nat) (p:Probe),a<=p.more->dG mask a p={ p with j:=p.j+a,more:=p.more - a }
 | 0,p,_=>rfl
 | a+1,p,h=>by
  have e:adv mask p={ p with j:=p.j+1,more:=p.more - 1 }:=by unfold adv; rw [Zd (by omega)]
  show dG mask a (adv mask p)=_
  rw [e,lV mask a _ (by show a<=p.more - 1; omega)]
  show ({ p with j:=p.j+1+a,more:=p.more - 1 - a }:Probe)=_
  congr 1 <;> omega
theorem m6 {mask:Nat} {p:Probe} (h:p.dummy=none):dG mask (p.more+1) p=bs mask (leap mask p.i p.perturb):=by
 rw [mJ,lV mask p.more p (Zk _)]
 show adv mask { p with j:=p.j+p.more,more:=p.more - p.more }=_
 unfold adv
 rw [Ze (by show ¬ p.more - p.more > 0; omega)]
 unfold bs
 rw [<- h]
noncomputable def ck (mask:Nat):Nat->Nat × Nat->Nat × Nat
 | 0,b=>b
 | n+1,b=>ck mask n (leap mask b.1 b.2)
theorem blocks {mask:Nat}:∀ (n:Nat) (p:Probe),Ok mask p->∃ c,c<=10 * (n+1)/\dG mask c p=bs mask (ck mask (n+1) (p.i,p.perturb))
 | 0,p,h=>⟨p.more+1,by have:=h.m; omega,m6 h.d⟩
 | n+1,p,h=>by
  have hb:=sL (mask:=mask) (i:=p.i) h.q
  obtain ⟨c,hc,e⟩:=blocks n (bs mask (leap mask p.i p.perturb)) (vt hb.1 hb.2)
  refine ⟨p.more+1+c,by have:=h.m; omega,?_⟩
  rw [mJ,m6 h.d,e]
  rfl
theorem vR (mask:Nat):∀ (n:Nat) (b:W6),(ck mask n b).2=b.2 / 32 ^ n
 | 0,b=>(Nat.div_one _).symm
 | n+1,b=>by
  show (ck mask n (leap mask b.1 b.2)).2=_
  rw [vR mask n]
  show b.2 / 32 / 32 ^ n=_
  rw [Nat.div_div_eq_div_mul,WG,Nat.mul_comm]
theorem qg (mask:Nat):∀ (a b:Nat) (x:W6),ck mask (a+b) x=ck mask b (ck mask a x)
 | 0,b,x=>by rw [Xm]; rfl
 | a+1,b,x=>by rw [Nat.add_right_comm]; exact qg mask a b _
theorem w6 {mask:Nat}:∀ (n:Nat) (b:W6),b.1<=mask->(ck mask n b).1<=mask
 | 0,b,h=>h
 | n+1,b,_=>w6 n _ (QT.mp (Wl _ (Ql mask)))
noncomputable def jc (mask:Nat):Nat->Nat->List Nat
 | 0,_=>[]
 | n+1,i=>i::jc mask n ((i * 5+1) % (mask+1))
theorem m_ {mask:Nat}:∀ (n i j:Nat),j∈jc mask n i->∃ m,m < n/\(ck mask m (i,0)).1=j
 | 0,i,j,h=>by simp [jc] at h
 | n+1,i,j,h=>by
  rcases Zt.mp h with rfl|h
  ·exact ⟨0,by omega,rfl⟩
  ·obtain ⟨m,hm,e⟩:=m_ n _ j h
   refine ⟨m+1,by omega,?_⟩
   have e2:leap mask i 0=((i * 5+1) % (mask+1),0):=by unfold leap; rw [Nat.zero_div,Nat.add_zero]
   rw [<- e,<- e2]
   rfl
theorem xO:∀ i < 8,∀ j < 8,j∈jc 7 8 i:=by decide +kernel
theorem An:∀ i < 32,∀ j < 32,j∈jc 31 32 i:=by decide +kernel
def Msk (mask:Nat):Prop:=mask=7\/mask=31
theorem round {mask:Nat} (hm:Msk mask) {i j:Nat} (hi:i<=mask) (hj:j<=mask):∃ m,m<=mask/\(ck mask m (i,0)).1=j:=by
 rcases hm with rfl|rfl
 ·obtain ⟨m,h,e⟩:=m_ _ _ _ (xO i (by omega) j (by omega)); exact ⟨m,by omega,e⟩
 ·obtain ⟨m,h,e⟩:=m_ _ _ _ (An i (by omega) j (by omega)); exact ⟨m,by omega,e⟩
theorem reach {mask:Nat} (hm:Msk mask) {i q j:Nat} (hi:i<=mask) (hq:q < 2 ^ 64) (hj:j<=mask):∃ n,12<=n/\n<=12+mask/\(ck mask (n+1) (i,q)).1=j:=by
 have h0:(ck mask 13 (i,q)).2=0:=by
  rw [vR]
  exact Nat.div_eq_of_lt (QG hq (by decide))
 obtain ⟨m,h1,e⟩:=round hm (w6 13 (i,q) hi) hj
 refine ⟨12+m,by omega,by omega,?_⟩
 rw [show 12+m+1=13+m by omega,qg]
 rw [show ck mask 13 (i,q)=((ck mask 13 (i,q)).1,0) from Prod.ext rfl h0]
 exact e
theorem cover {mask:Nat} (hm:Msk mask) (h:Int) (k:Nat) {j:Nat} (hj:j<=mask):∃ d,d < 10 * turns mask/\pos mask h (k+d)=j:=by
 have o:=cU mask h k
 obtain ⟨n,h1,h2,e⟩:=reach hm o.i o.q hj
 obtain ⟨c,hc,e2⟩:=blocks n (st mask h k) o
 refine ⟨c,by unfold turns; omega,?_⟩
 rw [ku] at e2
 unfold pos
 rw [e2]
 exact e
end TB

namespace TB
open PySem PySem.SetTable
def Srt (xs:Array Nat):Prop:=∀ (i i' v v':Nat),xs[i]?=some v->xs[i']?=some v'->i < i'->v < v'
theorem oJ {xs:Array Nat} (hs:Srt xs) (j:Nat):∀ (fuel lo hi:Nat),lo<=hi->hi<=xs.size->hi - lo<=fuel->(∀ (i v:Nat),xs[i]?=some v->i < lo->v < j)->(∀ (i v:Nat),xs[i]?=some v->hi<=i->j<=v) ->
  below.go xs j fuel lo hi<=xs.size/\(∀ (i v:Nat),xs[i]?=some v->i < below.go xs j fuel lo hi->v < j)/\∀ (i v:Nat),xs[i]?=some v->below.go xs j fuel lo hi<=i->j<=v
 | 0,lo,hi,h1,h2,h3,h4,h5=>by
  have e:lo=hi:=by omega
  subst e
  exact ⟨h2,h4,h5⟩
 | fuel+1,lo,hi,h1,h2,h3,h4,h5=>by
  by_cases hl:lo < hi
  ·have ego:below.go xs j (fuel+1) lo hi=if xs.getD ((lo+hi) / 2) j < j then below.go xs j fuel ((lo+hi) / 2+1) hi else below.go xs j fuel lo ((lo+hi) / 2):=by
    conv=>lhs; unfold below.go
    rw [Zd hl]
   have hm:(lo+hi) / 2 < xs.size:=by omega
   have hg:xs[(lo+hi) / 2]?=some xs[(lo+hi) / 2]:=Zr hm
   have hd:xs.getD ((lo+hi) / 2) j=xs[(lo+hi) / 2]:=by rw [Xj,hg]; rfl
   rw [ego,hd]
   by_cases hv:xs[(lo+hi) / 2] < j
   ·rw [Zd hv]
    refine oJ hs j fuel ((lo+hi) / 2+1) hi (by omega) h2 (by omega) (fun i v e hi'=>?_) h5
    by_cases z:i=(lo+hi) / 2
    ·subst z; rw [hg] at e; cases e; exact hv
    ·exact QG (hs i _ v _ e hg (by omega)) hv
   ·rw [Ze hv]
    refine oJ hs j fuel lo ((lo+hi) / 2) (by omega) (by omega) (by omega) h4 fun i v e hi'=>?_
    by_cases z:i=(lo+hi) / 2
    ·subst z; rw [hg] at e; cases e; omega
    ·have:=hs _ i _ v hg e (by omega); omega
  ·have ego:below.go xs j (fuel+1) lo hi=lo:=by
    conv=>lhs; unfold below.go
    rw [Ze hl]
   have e:lo=hi:=by omega
   subst e
   rw [ego]
   exact ⟨h2,h4,h5⟩
theorem oW {xs:Array Nat} (hs:Srt xs) (j:Nat):below xs j<=xs.size/\(∀ (i v:Nat),xs[i]?=some v->i < below xs j->v < j)/\∀ (i v:Nat),xs[i]?=some v->below xs j<=i->j<=v :=
 oJ hs j xs.size 0 xs.size (Xf _) (Zk _) (by omega) (fun i v _ h=>by omega) fun i v e h=>by
  have:=(ZV.mp e).1; omega
def NotIn (xs:Array Nat) (j:Nat):Prop:=∀ i:Nat,xs[i]?≠some j
theorem below_at {xs:Array Nat} (hs:Srt xs) {i j:Nat} (e:xs[i]?=some j):below xs j=i:=by
 obtain ⟨h1,h2,h3⟩:=oW hs j
 have hi:=(ZV.mp e).1
 rcases WB (below xs j) i with z|z|z
 ·have hg:xs[below xs j]?=some xs[below xs j]:=Zr (by omega)
  have:=h3 _ _ hg (Zk _)
  have:=hs _ i _ j hg e z
  omega
 ·exact z
 ·have:=h2 i j e z; omega
theorem kY {t:SetTable} (hs:Srt t.place) {i j:Nat} (e:t.place[i]?=some j):t.slot j=.live i:=by
 unfold slot
 rw [below_at hs e]
 simp only [e,Z1,XJ]
theorem Fp {t:SetTable} (hd:t.dummies=#[]) {j:Nat} (h:NotIn t.place j):t.slot j=.empty:=by
 unfold slot
 have h1:(t.place[below t.place j]?==some j)=false:=by
  cases q:t.place[below t.place j]?==some j with
  | false=>rfl
  | true=>exact absurd (by simpa using q) (h _)
 simp only [h1,Zw,ZU]
 rw [hd]
 rfl
theorem lD {t:SetTable} {f:Nat->Int} {h:Int}:∀ (d k fuel:Nat),d < fuel->(∀ k',k<=k'->k' < k+d->∃ i,t.slot (pos t.mask h k')=.live i/\f i≠h) ->
  probe.go t f h fuel (st t.mask h k)=probe.go t f h (fuel - d) (st t.mask h (k+d))
 | 0,k,fuel,_,_=>rfl
 | d+1,k,0,hf,_=>by omega
 | d+1,k,fuel+1,hf,hw=>by
  obtain ⟨i,e,hne⟩:=hw k (Zk _) (by omega)
  have e:t.slot (st t.mask h k).j=.live i:=e
  conv=>lhs; unfold probe.go
  simp only [e]
  rw [Ze (by simpa using hne),tX]
  show probe.go t f h fuel (st t.mask h (k+1))=_
  rw [lD d (k+1) fuel (by omega) fun k' h1 h2=>hw k' (by omega) (by omega),show fuel+1 - (d+1)=fuel - d by omega,show k+1+d=k+(d+1) by omega]
theorem xQ {t:SetTable} {f:Nat->Int} {h:Int} {d k:Nat} (hd:d < 10 * turns t.mask) (hw:∀ k',k<=k'->k' < k+d->∃ i,t.slot (pos t.mask h k')=.live i/\f i≠h) (he:t.slot (pos t.mask h (k+d))=.empty) :
  t.probe f h (st t.mask h k)=some (.empty (pos t.mask h (k+d)) none):=by
 unfold probe
 rw [lD d k _ hd hw]
 obtain ⟨m,hm⟩:∃ m,10 * turns t.mask - d=m+1:=⟨10 * turns t.mask - d - 1,by omega⟩
 rw [hm]
 unfold probe.go
 have he:t.slot (st t.mask h (k+d)).j=.empty:=he
 simp only [he,sV]
 rfl
theorem Ea {t:SetTable} {f:Nat->Int} {h:Int} {d k i:Nat} (hd:d < 10 * turns t.mask) (hw:∀ k',k<=k'->k' < k+d->∃ i,t.slot (pos t.mask h k')=.live i/\f i≠h) (he:t.slot (pos t.mask h (k+d))=.live i) (hi:f i=h) :
  t.probe f h (st t.mask h k)=some (.candidate (pos t.mask h (k+d)) i (st t.mask h (k+d+1))):=by
 unfold probe
 rw [lD d k _ hd hw]
 obtain ⟨m,hm⟩:∃ m,10 * turns t.mask - d=m+1:=⟨10 * turns t.mask - d - 1,by omega⟩
 rw [hm]
 unfold probe.go
 have he:t.slot (st t.mask h (k+d)).j=.live i:=he
 simp only [he]
 rw [Zd (by simpa using hi),tX]
 rfl
structure Good {α:Type} (t:SetTable) (es:Array (Int × α)):Prop where
 dum:t.dummies=#[]
 len:t.place.size=es.size
 srt:Srt t.place
 top:∀ (i s:Nat),t.place[i]?=some s->s<=t.mask
 msk:Msk t.mask
 way:∀ (i s:Nat) e,t.place[i]?=some s->es[i]?=some e->∃ k,pos t.mask e.1 k=s/\∀ k',k' < k->∃ i':Nat,t.place[i']?=some (pos t.mask e.1 k')
variable {α:Type} {t:SetTable} {es:Array (Int × α)}
theorem DR {xs:Array Nat} (hs:Srt xs) {mask:Nat} (ht:∀ (i s:Nat),xs[i]?=some s->s<=mask) (hl:xs.size<=mask):∃ j,j<=mask/\NotIn xs j:=by
 have hnd:xs.toList.Nodup:=by
  refine Qf.mpr fun i i' h1 h2 hlt e=>?_
  rw [ZG] at h1 h2
  have:=hs i i' _ _ (Zr h1) (Zr h2) hlt
  rw [XS,XS] at e
  omega
 by_cases h:∃ j,j<=mask/\NotIn xs j
 ·exact h
 ·exfalso
  have hsub:List.range (mask+1) ⊆ xs.toList:=fun j hj=>by
   have hj:j<=mask:=by have:=ZS.mp hj; omega
   by_cases q:NotIn xs j
   ·exact absurd ⟨j,hj,q⟩ h
   ·unfold NotIn at q
    simp only [ne_eq,QM,Classical.not_not] at q
    obtain ⟨i,e⟩:=q
    rw [<- ZR] at e
    exact ZA e
  have:=(List.nodup_range (n:=mask+1)).length_le_of_subset hsub
  rw [ZL,ZG] at this
  omega
end TB

namespace TB
open PySem PySem.SetTable
variable {α:Type} {t:SetTable} {es:Array (Int × α)}
theorem least {P:Nat->Prop}:∀ (n:Nat),P n->∃ m,m<=n/\P m/\∀ k,k < m->¬ P k:=by
 intro n
 induction n using Nat.strongRecOn with
 | ind n ih =>
  intro h
  by_cases q:∃ k,k < n/\P k
  ·obtain ⟨k,hk,hp⟩:=q
   obtain ⟨m,h1,h2,h3⟩:=ih k hk hp
   exact ⟨m,by omega,h2,h3⟩
  ·exact ⟨n,Zk _,h,fun k hk hp=>q ⟨k,hk,hp⟩⟩
structure End (t:SetTable) (h:Int) (K:Nat):Prop where
 lt:K < 10 * turns t.mask
 free:NotIn t.place (pos t.mask h K)
 full:∀ k,k < K->∃ i:Nat,t.place[i]?=some (pos t.mask h k)
theorem zw (g:Good t es) (hl:es.size<=t.mask) (h:Int):∃ K,End t h K:=by
 obtain ⟨j,hj,hn⟩:=DR g.srt g.top (g.len ▸ hl)
 obtain ⟨d,hd,e⟩:=cover g.msk h 0 hj
 rw [Xm] at e
 obtain ⟨K,h1,h2,h3⟩:=least (P:=fun k=>NotIn t.place (pos t.mask h k)) d (by show NotIn t.place _; rw [e]; exact hn)
 refine ⟨K,by omega,h2,fun k hk=>?_⟩
 have:=h3 k hk
 unfold NotIn at this
 simp only [ne_eq,QM,Classical.not_not] at this
 exact this
theorem EG (g:Good t es) {h:Int} {K:Nat} (E:End t h K) {i:Nat} {e:Int × α} (he:es[i]?=some e) (hh:e.1=h):∃ k,k < K/\t.place[i]?=some (pos t.mask h k):=by
 have hi:=(ZV.mp he).1
 have hi':i < t.place.size:=g.len ▸ hi
 have hp:t.place[i]?=some t.place[i]:=Zr hi'
 obtain ⟨k,e1,e2⟩:=g.way i _ e hp he
 rw [hh] at e1 e2
 refine ⟨k,?_,by rw [hp,<- e1]⟩
 rcases WB k K with z|z|z
 ·exact z
 ·subst z; exact absurd (e1 ▸ hp) (E.free i)
 ·obtain ⟨i',q⟩:=e2 K z; exact absurd q (E.free i')
theorem AZ (g:Good t es) {h:Int} {K:Nat} (E:End t h K) {f:Nat->Int} {k:Nat} (hk:k<=K) :
  t.probe f h (st t.mask h k)=some (.empty (pos t.mask h K) none)/\(∀ (m i:Nat),k<=m->m < K->t.place[i]?=some (pos t.mask h m)->f i≠h) \/
  ∃ m i,k<=m/\m < K/\t.place[i]?=some (pos t.mask h m)/\f i=h/\t.slot (pos t.mask h m)=.live i/\t.probe f h (st t.mask h k)=some (.candidate (pos t.mask h m) i (st t.mask h (m+1)))/\∀ (m' i':Nat),k<=m'->m' < m->t.place[i']?=some (pos t.mask h m')->f i'≠h:=by
 by_cases q:∃ m,k<=m/\m < K/\∃ i:Nat,t.place[i]?=some (pos t.mask h m)/\f i=h
 ·obtain ⟨m0,q⟩:=q
  obtain ⟨m,_,⟨h1,h2,i,h3,h4⟩,h5⟩:=least (P:=fun m=>k<=m/\m < K/\∃ i:Nat,t.place[i]?=some (pos t.mask h m)/\f i=h) m0 q
  have hne:∀ (m' i':Nat),k<=m'->m' < m->t.place[i']?=some (pos t.mask h m')->f i'≠h:=fun m' i' a b c d=>h5 m' b ⟨a,by omega,i',c,d⟩
  refine .inr ⟨m,i,h1,h2,h3,h4,kY g.srt h3,?_,hne⟩
  have:=Ea (t:=t) (f:=f) (h:=h) (d:=m - k) (k:=k) (i:=i) (by have:=E.lt; omega) (fun k' a b=>by
   obtain ⟨i',e⟩:=E.full k' (by omega)
   exact ⟨i',kY g.srt e,hne k' i' a (by omega) e⟩) (by rw [show k+(m - k)=m by omega]; exact kY g.srt h3) h4
  rw [show k+(m - k)=m by omega] at this
  exact this
 ·have hne:∀ (m i:Nat),k<=m->m < K->t.place[i]?=some (pos t.mask h m)->f i≠h:=fun m i a b c d=>q ⟨m,a,b,i,c,d⟩
  refine .inl ⟨?_,hne⟩
  have:=xQ (t:=t) (f:=f) (h:=h) (d:=K - k) (k:=k) (by have:=E.lt; omega) (fun k' a b=>by
   obtain ⟨i',e⟩:=E.full k' (by omega)
   exact ⟨i',kY g.srt e,hne k' i' a (by omega) e⟩) (by rw [show k+(K - k)=K by omega]; exact Fp g.dum E.free)
  rw [show k+(K - k)=K by omega] at this
  exact this
theorem gT {β:Type} (xs:Array β) {p:Nat} (hp:p<=xs.size) (x:β) (i:Nat):(insertAt xs p x)[i]?=if i < p then xs[i]? else if i=p then some x else xs[i - 1]?:=by
 rw [<- ZR,SetTable.toList_insertAt]
 have hl:(xs.toList.take p).length=p:=by rw [X4,ZG]; omega
 by_cases h1:i < p
 ·rw [Zd h1]
  rw [ZF (by omega),QW h1,ZR]
 ·rw [Ze h1]
  rw [ZP (by omega),hl]
  by_cases h2:i=p
  ·subst h2; rw [Zd rfl,Wm]; rfl
  ·rw [Ze h2]
   obtain ⟨m,rfl⟩:∃ m,i=p+1+m:=⟨i - p - 1,by omega⟩
   rw [show p+1+m - p=m+1 by omega,show p+1+m - 1=p+m by omega]
   show (xs.toList.drop p)[m]?=_
   rw [List.getElem?_drop,ZR]
theorem ni {β:Type} (xs:Array β) (p:Nat) (x:β):(insertAt xs p x).size=xs.size+1:=by
 have:=(SetTable.insertAt_perm xs p x).length_eq
 rw [ZG,ZG,Array.size_push] at this
 exact this
theorem Hw (j:Nat):has #[] j=false:=rfl
theorem yg (g:Good t es) {h:Int} {K:Nat} (E:End t h K) (x:α):Good (t.put (pos t.mask h K)).1 (insertAt es (t.put (pos t.mask h K)).2 (h,x)):=by
 obtain ⟨s1,s2,s3⟩:=oW g.srt (pos t.mask h K)
 generalize hj:pos t.mask h K=j at s1 s2 s3
 have hfree:NotIn t.place j:=hj ▸ E.free
 generalize hp:below t.place j=p at s1 s2 s3
 have e1:(t.put j).1.place=insertAt t.place p j:=by unfold put; rw [hp]
 have e2:(t.put j).2=p:=by unfold put; rw [hp]
 have e3:(t.put j).1.mask=t.mask:=rfl
 have e4:(t.put j).1.dummies=#[]:=by
  show (if has t.dummies j then eraseAt t.dummies (below t.dummies j) else t.dummies)=#[]
  rw [g.dum,Hw]; rfl
 have s1':p<=es.size:=g.len ▸ s1
 have up:∀ (i s:Nat),t.place[i]?=some s->∃ i':Nat,(insertAt t.place p j)[i']?=some s:=fun i s e=>by
  by_cases z:i < p
  ·exact ⟨i,by rw [gT _ s1,Zd z]; exact e⟩
  ·exact ⟨i+1,by rw [gT _ s1,Ze (by omega),Ze (by omega)]; exact e⟩
 refine ⟨e4,by rw [e1,e2,ni,ni,g.len],?_,?_,by rw [e3]; exact g.msk,?_⟩
 ·rw [e1]
  intro i i' v v' a b hlt
  rw [gT _ s1] at a b
  by_cases z:i < p
  ·rw [Zd z] at a
   by_cases z':i' < p
   ·rw [Zd z'] at b; exact g.srt i i' v v' a b hlt
   ·rw [Ze z'] at b
    by_cases w:i'=p
    ·rw [Zd w] at b; cases b; exact s2 i v a z
    ·rw [Ze w] at b; exact g.srt i _ v v' a b (by omega)
  ·rw [Ze z] at a
   rw [Ze (by omega),Ze (by omega)] at b
   by_cases w:i=p
   ·rw [Zd w] at a
    cases a
    have h1:=s3 _ v' b (by omega)
    have h2:v'≠j:=fun q=>hfree _ (q ▸ b)
    omega
   ·rw [Ze w] at a
    exact g.srt _ _ v v' a b (by omega)
 ·rw [e1,e3]
  intro i s a
  rw [gT _ s1] at a
  by_cases z:i < p
  ·rw [Zd z] at a; exact g.top i s a
  ·rw [Ze z] at a
   by_cases w:i=p
   ·rw [Zd w] at a; cases a; rw [<- hj]; exact D9 _ _ _
   ·rw [Ze w] at a; exact g.top _ s a
 ·rw [e1,e2,e3]
  intro i s e a b
  rw [gT _ s1] at a
  rw [gT _ s1'] at b
  have old:∀ (m s:Nat) e,t.place[m]?=some s->es[m]?=some e->∃ k,pos t.mask e.1 k=s/\∀ k',k' < k->∃ i':Nat,(insertAt t.place p j)[i']?=some (pos t.mask e.1 k'):=fun m s e a b=>by
   obtain ⟨k,q1,q2⟩:=g.way m s e a b
   exact ⟨k,q1,fun k' hk'=>let ⟨i',q⟩:=q2 k' hk'; up i' _ q⟩
  by_cases z:i < p
  ·rw [Zd z] at a b; exact old i s e a b
  ·rw [Ze z] at a b
   by_cases w:i=p
   ·rw [Zd w] at a b
    cases a; cases b
    exact ⟨K,hj,fun k' hk'=>let ⟨i',q⟩:=E.full k' hk'; up i' _ q⟩
   ·rw [Ze w] at a b; exact old _ s e a b
end TB

namespace TB
open PySem PySem.SetTable
def Occ (owner:W1) (j:Nat):Prop:=∃ i:Nat,owner[j]?=some (some i)
theorem mS {mask:Nat} {h:Int} {c:Nat} {b:W6} (e:st mask h c=bs mask b) {a:Nat} (ha:b.1+a<=runEnd mask b.1):pos mask h (c+a)=b.1+a:=by
 unfold pos
 rw [<- ku,e,lV mask a (bs mask b) (by show a<=runEnd mask b.1 - b.1; omega)]
 rfl
theorem Ii {mask:Nat} {h:Int} {c:Nat} {b:W6} (e:st mask h c=bs mask b):st mask h (c+(runEnd mask b.1 - b.1+1))=bs mask (leap mask b.1 b.2):=by
 rw [<- ku,e]
 exact m6 (p:=bs mask b) rfl
theorem vC {owner:W1} {j:Nat} (hj:j < owner.size) (h:(owner.getD j (some 0)).isNone=false):Occ owner j:=by
 have hg:owner[j]?=some owner[j]:=Zr hj
 rw [Xj,hg] at h
 show ∃ i:Nat,owner[j]?=some (some i)
 rw [hg]
 cases q:owner[j] with
 | none=>rw [q] at h; cases h
 | some i=>exact ⟨i,rfl⟩
theorem Dk {owner:W1} {j:Nat} (hj:j < owner.size) (h:(owner.getD j (some 0)).isNone=true):owner[j]?=some none:=by
 have hg:owner[j]?=some owner[j]:=Zr hj
 rw [Xj,hg] at h
 rw [hg]
 cases q:owner[j] with
 | none=>rfl
 | some i=>rw [q] at h; cases h
theorem qD {mask:Nat} {owner:W1} (hs:owner.size=mask+1) {h:Int} {j0:Nat} (hf:owner[j0]?=some none):∀ (fuel n:Nat) (b:W6) (c:Nat),b.1<=mask->st mask h c=bs mask b->(∀ k,k < c->Occ owner (pos mask h k))->(ck mask n b).1=j0->n < fuel ->
  ∃ K,layClean.free mask owner fuel b.1 b.2=some (pos mask h K)/\owner[pos mask h K]?=some none/\∀ k,k < K->Occ owner (pos mask h k)
 | 0,n,b,c,_,_,_,_,hn=>by omega
 | fuel+1,n,b,c,hb,e,ho,hl,hn=>by
  have hr:=qo hb
  have hge:=mU mask b.1
  cases q:(List.range (runEnd mask b.1+1 - b.1)).find? (fun k=>(owner.getD (b.1+k) (some 0)).isNone) with
  | some a =>
   obtain ⟨h1,h2,h3⟩:=List.find?_range_eq_some.mp q
   have h2:=ZS.mp h2
   have hp:=mS e (a:=a) (by omega)
   refine ⟨c+a,?_,?_,fun k hk=>?_⟩
   ·unfold layClean.free
    rw [q,hp]
   ·rw [hp]; exact Dk (by omega) h1
   ·by_cases z:k < c
    ·exact ho k z
    ·obtain ⟨m,rfl⟩:∃ m,k=c+m:=⟨k - c,by omega⟩
     rw [mS e (a:=m) (by omega)]
     exact vC (by omega) (by simpa using h3 m (by omega))
  | none =>
   have h3:=List.find?_range_eq_none.mp q
   have occ:∀ a,b.1+a<=runEnd mask b.1->Occ owner (b.1+a):=fun a ha=>vC (by omega) (by simpa using h3 a (by omega))
   cases n with
   | zero =>
    exfalso
    obtain ⟨i,w⟩:=occ 0 (by omega)
    have hl:b.1=j0:=hl
    rw [Nat.add_zero,hl,hf] at w
    cases w
   | succ n =>
    have hle:(leap mask b.1 b.2).1<=mask:=QT.mp (Wl _ (Ql mask))
    obtain ⟨K,r1,r2,r3⟩:=qD hs hf fuel n (leap mask b.1 b.2) (c+(runEnd mask b.1 - b.1+1)) hle (Ii e) (fun k hk=>by
     by_cases z:k < c
     ·exact ho k z
     ·obtain ⟨m,rfl⟩:∃ m,k=c+m:=⟨k - c,by omega⟩
      rw [mS e (a:=m) (by omega)]
      exact occ m (by omega)) hl (by omega)
    refine ⟨K,?_,r2,r3⟩
    unfold layClean.free
    rw [q]
    exact r1
theorem B4 {mask:Nat} (hm:Msk mask) {owner:W1} (hs:owner.size=mask+1) {j0:Nat} (hf:owner[j0]?=some none) (h:Int) :
  ∃ K,layClean.free mask owner (turns mask) (bits h % (mask+1)) (bits h)=some (pos mask h K)/\owner[pos mask h K]?=some none/\∀ k,k < K->Occ owner (pos mask h k):=by
 have hj:j0<=mask:=by have:=(ZV.mp hf).1; omega
 have hi:bits h % (mask+1)<=mask:=QT.mp (Wl _ (Ql mask))
 obtain ⟨n,h1,h2,e⟩:=reach hm hi (w9 h) hj
 exact qD hs hf (turns mask) (n+1) (bits h % (mask+1),bits h) 0 hi rfl (fun k hk=>by omega) e (by unfold turns; omega)
structure Own (mask:Nat) (hs:WJ) (owner:W1):Prop where
 size:owner.size=mask+1
 lt:∀ (j i:Nat),owner[j]?=some (some i)->i < hs.length
 ex:∀ i:Nat,i < hs.length->∃ j:Nat,owner[j]?=some (some i)
 inj:∀ (j j' i:Nat),owner[j]?=some (some i)->owner[j']?=some (some i)->j=j'
 way:∀ (j i:Nat) h,owner[j]?=some (some i)->hs[i]?=some h->∃ K,pos mask h K=j/\∀ k,k < K->Occ owner (pos mask h k)
theorem A_ (mask:Nat):Own mask [] (Array.replicate (mask+1) none):=by
 have no:∀ (j i:Nat),(Array.replicate (mask+1) (none:Option Nat))[j]?≠some (some i):=fun j i e=>by
  rw [Array.getElem?_replicate] at e
  split at e <;> cases e
 exact ⟨Array.size_replicate,fun j i e=>absurd e (no j i),fun i h=>absurd h (Nat.not_lt_zero i),fun j _ i e=>absurd e (no j i),fun j i _ e=>absurd e (no j i)⟩
theorem Aw {mask:Nat} {hs:WJ} {owner:W1} (o:Own mask hs owner) (hl:hs.length<=mask):∃ j:Nat,owner[j]?=some none:=by
 by_cases q:∃ j:Nat,owner[j]?=some none
 ·exact q
 ·exfalso
  have all:∀ j,j < mask+1->∃ i:Nat,owner[j]?=some (some i):=fun j hj=>by
   have hj':j < owner.size:=by rw [o.size]; exact hj
   have hg:owner[j]?=some owner[j]:=Zr hj'
   cases w:owner[j] with
   | none=>exact absurd ⟨j,by rw [hg,w]⟩ q
   | some i=>exact ⟨i,by rw [hg,w]⟩
  let g:Nat->Nat:=fun j=>((owner[j]?).getD none).getD 0
  have hg:∀ j i:Nat,owner[j]?=some (some i)->g j=i:=fun j i e=>by show ((owner[j]?).getD none).getD 0=i; rw [e]; rfl
  have hnd:((List.range (mask+1)).map g).Nodup:=by
   refine WC.mpr (List.Pairwise.imp_of_mem (fun {a b} ha hb hab=>?_) (List.nodup_range (n:=mask+1)))
   obtain ⟨i,e⟩:=all a (ZS.mp ha)
   obtain ⟨i',e'⟩:=all b (ZS.mp hb)
   rw [hg a i e,hg b i' e']
   intro z
   subst z
   exact hab (o.inj a b i e e')
  have hsub:(List.range (mask+1)).map g ⊆ List.range hs.length:=fun x hx=>by
   obtain ⟨j,hj,rfl⟩:=Zy.mp hx
   obtain ⟨i,e⟩:=all j (ZS.mp hj)
   rw [hg j i e]
   exact ZS.mpr (o.lt j i e)
  have:=hnd.length_le_of_subset hsub
  rw [Zb,ZL,ZL] at this
  omega
theorem Aj {mask:Nat} (hm:Msk mask) {hs:WJ} {owner:W1} (o:Own mask hs owner) (hl:hs.length<=mask) (h:Int) :
  ∃ j,layClean.free mask owner (turns mask) (bits h % (mask+1)) (bits h)=some j/\Own mask (hs++[h]) (owner.setIfInBounds j (some hs.length)):=by
 obtain ⟨j0,hf⟩:=Aw o hl
 obtain ⟨K,e1,e2,e3⟩:=B4 hm o.size hf h
 generalize hj:pos mask h K=j at e1 e2
 have hjl:j < owner.size:=(ZV.mp e2).1
 have get:∀ x:Nat,(owner.setIfInBounds j (some hs.length))[x]?=if x=j then some (some hs.length) else owner[x]?:=fun x=>by
  rw [Array.getElem?_setIfInBounds]
  by_cases z:j=x
  ·subst z; rw [Zd rfl,Zd hjl,Zd rfl]
  ·rw [Ze z,Ze (fun q=>z q.symm)]
 have keep:∀ x:Nat,Occ owner x->Occ (owner.setIfInBounds j (some hs.length)) x:=fun x ⟨i,w⟩=>⟨i,by
  rw [get,Ze (fun q=>by subst q; rw [e2] at w; cases w)]; exact w⟩
 refine ⟨j,e1,?_,?_,?_,?_,?_⟩
 ·rw [Array.size_setIfInBounds]; exact o.size
 ·intro x i w
  rw [get] at w
  rw [Zp,Xy]
  split at w
  ·cases w; omega
  ·have:=o.lt x i w; omega
 ·intro i hi
  rw [Zp,Xy] at hi
  by_cases z:i=hs.length
  ·subst z; exact ⟨j,by rw [get,Zd rfl]⟩
  ·obtain ⟨x,w⟩:=o.ex i (by omega)
   exact ⟨x,by rw [get,Ze (fun q=>by subst q; rw [e2] at w; cases w)]; exact w⟩
 ·intro x x' i w w'
  rw [get] at w w'
  by_cases z:x=j
  ·by_cases z':x'=j
   ·rw [z,z']
   ·rw [Zd z] at w; rw [Ze z'] at w'
    cases w
    have:=o.lt x' _ w'; omega
  ·rw [Ze z] at w
   by_cases z':x'=j
   ·rw [Zd z'] at w'
    cases w'
    have:=o.lt x _ w; omega
   ·rw [Ze z'] at w'; exact o.inj x x' i w w'
 ·intro x i h' w hh
  rw [get] at w
  by_cases z:x=j
  ·rw [Zd z] at w
   cases w
   rw [ZP (Zk _),Wm] at hh
   cases hh
   exact ⟨K,by rw [hj,z],fun k hk=>keep _ (e3 k hk)⟩
  ·rw [Ze z] at w
   rw [ZF (o.lt x i w)] at hh
   obtain ⟨K',r1,r2⟩:=o.way x i h' w hh
   exact ⟨K',r1,fun k hk=>keep _ (r2 k hk)⟩
theorem qV {mask:Nat} (hm:Msk mask):∀ (rest done:WJ) (owner:W1),Own mask done owner->done.length+rest.length<=mask+1 ->
  ∃ o',(rest.foldl (fun (acc:Option (Array (Option Nat) × Nat)) h=>do let (owner,k) <- acc; let j <- layClean.free mask owner (turns mask) (bits h % (mask+1)) (bits h); pure (owner.setIfInBounds j (some k),k+1)) (some (owner,done.length)))=some (o',(done++rest).length)/\Own mask (done++rest) o'
 | [],done,owner,o,_=>⟨owner,by rw [Xl]; rfl,by rw [Xl]; exact o⟩
 | h::rest,done,owner,o,hl=>by
  rw [ZB] at hl
  obtain ⟨j,e,o2⟩:=Aj hm o (by omega) h
  obtain ⟨o',e',o3⟩:=qV hm rest (done++[h]) _ o2 (by rw [Zp,Xy]; omega)
  rw [Zs] at e' o3
  refine ⟨o',?_,o3⟩
  rw [List.foldl_cons]
  rw [Zp,Xy] at e'
  have:(do let (owner,k) <- some (owner,done.length); let j <- layClean.free mask owner (turns mask) (bits h % (mask+1)) (bits h); pure (owner.setIfInBounds j (some k),k+1))=some (owner.setIfInBounds j (some done.length),done.length+1):=by
   show (layClean.free mask owner (turns mask) (bits h % (mask+1)) (bits h)).bind (fun j=>some (owner.setIfInBounds j (some done.length),done.length+1))=_
   rw [e]; rfl
  rw [this]
  exact e'
theorem y9 {mask:Nat} (hm:Msk mask) (hs:Array Int) (hl:hs.size<=mask+1):∃ o',layClean mask hs=some o'/\Own mask hs.toList o':=by
 obtain ⟨o',e,o⟩:=qV hm hs.toList [] _ (A_ mask) (by rw [XH,ZG]; omega)
 rw [Qb] at e o
 refine ⟨o',?_,o⟩
 unfold layClean
 rw [<- Array.foldl_toList]
 rw [XH] at e
 rw [e]
 rfl
end TB

namespace TB
open PySem PySem.SetTable
variable {α:Type} {es:Array (Int × α)}
theorem qa:∀ {l:W7},(∀ i∈l,i < es.size)->(l.filterMap (es[·]?)).length=l.length/\∀ m:Nat,(l.filterMap (es[·]?))[m]?=l[m]?.bind (es[·]?)
 | [],_=>⟨rfl,fun m=>by simp⟩
 | i::l,h=>by
  have hi:=h i Zl
  obtain ⟨h1,h2⟩:=qa (l:=l) fun x hx=>h x (Zm _ hx)
  have e:es[i]?=some es[i]:=Zr hi
  rw [Xt,e]
  refine ⟨by rw [ZB,ZB,h1],fun m=>?_⟩
  cases m with
  | zero=>rw [List.getElem?_cons_zero,List.getElem?_cons_zero]; exact e.symm
  | succ m=>rw [List.getElem?_cons_succ,List.getElem?_cons_succ]; exact h2 m
noncomputable def bL (mask:Nat) (owner:W1):List (Nat × Nat):=(List.range (mask+1)).filterMap fun j=>(owner.getD j none).map (j,·)
theorem Es {mask:Nat} {owner:W1} (hs:owner.size=mask+1) (j i:Nat):(j,i)∈bL mask owner ↔ owner[j]?=some (some i):=by
 unfold bL
 rw [Qr]
 constructor
 ·rintro ⟨x,hx,e⟩
  have hx:x < owner.size:=by rw [hs]; exact ZS.mp hx
  have hg:owner[x]?=some owner[x]:=Zr hx
  rw [Xj,hg] at e
  cases q:owner[x] with
  | none=>rw [q] at e; cases e
  | some y =>
   rw [q] at e
   have e:(x,y)=(j,i):=by simpa using e
   cases e
   rw [hg,q]
 ·intro e
  have hj:j < owner.size:=(ZV.mp e).1
  refine ⟨j,ZS.mpr (by omega),?_⟩
  rw [Xj,e]; rfl
theorem DC (mask:Nat) (owner:W1):(bL mask owner).Pairwise fun a b=>a.1 < b.1:=by
 refine List.Pairwise.filterMap _ (fun a a' hlt b hb b' hb'=>?_) List.pairwise_lt_range
 cases q:owner.getD a none with
 | none=>rw [q] at hb; cases hb
 | some y =>
  cases q':owner.getD a' none with
  | none=>rw [q'] at hb'; cases hb'
  | some y' =>
   rw [q] at hb; rw [q'] at hb'
   have hb:(a,y)=b:=by simpa using hb
   have hb':(a',y')=b':=by simpa using hb'
   subst hb; subst hb'
   exact hlt
theorem Gg {l l':W7} (h:l.Nodup) (h':l'.Nodup) (hm:∀ a,a∈l ↔ a∈l'):l.Perm l':=by
 rw [List.perm_iff_count]
 intro a
 rw [h.count,h'.count]
 by_cases q:a∈l
 ·rw [Zd q,Zd ((hm a).mp q)]
 ·rw [Ze q,Ze (fun z=>q ((hm a).mpr z))]
theorem FA {mask:Nat} (hm:Msk mask) (es:Array (Int × α)) (hl:es.size<=mask+1) (finger moves:Nat) (led plain:Bool) :
  ∃ t' order,laid mask finger moves led plain (es.map (·.1))=some (t',order)/\Good t' (order.filterMap (es[·]?))/\(order.filterMap (es[·]?)).size=es.size/\(order.filterMap (es[·]?)).toList.Perm es.toList /\
   t'={ mask:=mask,place:=t'.place,dummies:=#[],finger:=finger,led:=led,moves:=moves,plain:=plain }:=by
 obtain ⟨owner,e,o⟩:=y9 hm (es.map (·.1)) (by rw [Array.size_map]; exact hl)
 have hlen:(es.map (·.1)).toList.length=es.size:=by rw [ZG,Array.size_map]
 have hm':=Es o.size
 have hlt:=DC mask owner
 have hi:∀ i∈(bL mask owner).map (·.2),i < es.size:=fun i hi=>by
  obtain ⟨⟨j,i'⟩,h1,rfl⟩:=Zy.mp hi
  have:=o.lt j i' ((hm' j i').mp h1)
  rw [hlen] at this
  exact this
 obtain ⟨f1,f2⟩:=qa (es:=es) hi
 have hnd:((bL mask owner).map (·.2)).Nodup:=by
  refine WC.mpr (List.Pairwise.imp_of_mem (fun {a b} ha hb hab=>?_) hlt)
  obtain ⟨j,i⟩:=a
  obtain ⟨j',i'⟩:=b
  intro z
  have z:i=i':=z
  subst z
  have:=o.inj j j' i ((hm' j i).mp ha) ((hm' j' i).mp hb)
  subst this
  exact absurd hab (XM _)
 have hperm:((bL mask owner).map (·.2)).Perm (List.range es.size):=Gg hnd List.nodup_range fun a=>by
  constructor
  ·intro h; exact ZS.mpr (hi a h)
  ·intro h
   obtain ⟨j,w⟩:=o.ex a (by rw [hlen]; exact ZS.mp h)
   exact Zy.mpr ⟨(j,a),(hm' j a).mpr w,rfl⟩
 have hfm:(((bL mask owner).map (·.2)).toArray.filterMap (es[·]?)).toList=((bL mask owner).map (·.2)).filterMap (es[·]?):=by rw [Array.toList_filterMap]
 have hget:∀ m:Nat,(((bL mask owner).map (·.2)).toArray.filterMap (es[·]?))[m]?=((bL mask owner).map (·.2))[m]?.bind (es[·]?):=fun m=>by rw [<- ZR,hfm,f2]
 have hsize:(((bL mask owner).map (·.2)).toArray.filterMap (es[·]?)).size=es.size:=by
  rw [<- ZG,hfm,f1,hperm.length_eq,ZL]
 refine ⟨_,_,by unfold laid; rw [e]; rfl,?_,hsize,?_,rfl⟩
 ·have pget:∀ m:Nat,((bL mask owner).map (·.1)).toArray[m]?=(bL mask owner)[m]?.map (·.1):=fun m=>by rw [List.getElem?_toArray,ZK]
  refine ⟨rfl,?_,?_,?_,hm,?_⟩
  ·show ((bL mask owner).map (·.1)).toArray.size=_
   rw [hsize,Zo,Zb]
   have:=hperm.length_eq
   rw [Zb,ZL] at this
   exact this
  ·intro i i' v v' a b hlt'
   have a:((bL mask owner).map (·.1)).toArray[i]?=some v:=a
   have b:((bL mask owner).map (·.1)).toArray[i']?=some v':=b
   rw [pget] at a b
   obtain ⟨x,hx,rfl⟩:=ZD.mp a
   obtain ⟨y,hy,rfl⟩:=ZD.mp b
   obtain ⟨h1,e1⟩:=Zg.mp hx
   obtain ⟨h2,e2⟩:=Zg.mp hy
   have:=Qf.mp hlt i i' h1 h2 hlt'
   rw [e1,e2] at this
   exact this
  ·intro i s a
   have a:((bL mask owner).map (·.1)).toArray[i]?=some s:=a
   rw [pget] at a
   obtain ⟨⟨j,k⟩,hx,rfl⟩:=ZD.mp a
   have:=(ZV.mp ((hm' j k).mp (ZA hx))).1
   have:=o.size
   show j<=mask
   omega
  ·intro i s e' a b
   have a:((bL mask owner).map (·.1)).toArray[i]?=some s:=a
   have b:(((bL mask owner).map (·.2)).toArray.filterMap (es[·]?))[i]?=some e':=b
   rw [pget] at a
   obtain ⟨⟨j,k⟩,hx,rfl⟩:=ZD.mp a
   rw [hget,ZK,hx] at b
   have b:es[k]?=some e':=b
   have hown:=(hm' j k).mp (ZA hx)
   have hh:(es.map (·.1)).toList[k]?=some e'.1:=by rw [ZR,Array.getElem?_map,b]; rfl
   obtain ⟨K,r1,r2⟩:=o.way j k e'.1 hown hh
   refine ⟨K,r1,fun k' hk'=>?_⟩
   obtain ⟨i2,w⟩:=r2 k' hk'
   obtain ⟨m,hm2⟩:=ZO ((hm' _ i2).mpr w)
   exact ⟨m,by show ((bL mask owner).map (·.1)).toArray[m]?=_; rw [pget,hm2]; rfl⟩
 ·rw [hfm]
  have:=hperm.filterMap (es[·]?)
  rw [filterMap_getElem?_range] at this
  exact this
end TB

namespace TB
open PySem PySem.SetTable
section
variable {prog:WP} {w:WS} {A:WY} {E:WH} {s:WN}
abbrev TK (prog:WP) (w:WS) (h:Heap) (ks:WJ) (b:Addr):Prop:=IsTupleKey (intKind prog w) h ks b
def hsh (prog:WP) (w:WS) (ks:WJ):Int:=tupleKeyHash (intKind prog w) ks
structure El (prog:WP) (w:WS) (h:Heap) (e:Int × Value) (ks:WJ):Prop where
 hash:e.1=hsh prog w ks
 ref:∃ b,e.2=.ref b/\TK prog w h ks b
theorem rO {ks:WJ} {vs:WM} (h:ItemsAre (intKind prog w) ks vs):∀ v∈vs,∃ i t,v=Value.int i t:=by
 induction h with
 | nil=>intro v hv; cases hv
 | cons h1 _ ih =>
  intro v hv
  rcases Zt.mp hv with rfl|hv
  ·obtain ⟨t,e⟩:=QC h1; exact ⟨_,t,e⟩
  ·exact ih v hv
theorem wL (n:Nat) {ks:WJ} {b:Addr} {Q:Bool->Shared->Prop} (hk:TK prog w s.heap ks b) (h:Q false s):wpAny (model prog w) A (ofAClassStatement (n+1) (.ref b)) Q E s:=by
 obtain ⟨o,items,m,ho,hc,hd,hi⟩:=hk
 unfold ofAClassStatement
 refine Za (wpAny_typeOf_ref ho ?_)
 rw [hc]
 refine Za (Zf ?_)
 simp only [Qd,Zw,ZU]
 refine Za (Wt ho hd ?_)
 refine Za ?_
 show wpAny _ _ (forIn items _ _) _ _ s
 rw [<- Array.forIn_toList]
 refine QK _ (fun rest r z=>r.1=none/\z=s/\∀ v∈rest,∃ i t,v=Value.int i t) _ ?_ ?_ _ _ ⟨rfl,rfl,rO hi⟩
 ·rintro v rest r z ⟨hr,rfl,hall⟩
  obtain ⟨i,t,rfl⟩:=hall v Zl
  have e:ofAClassStatement n (Value.int i t)=pure false:=by cases n <;> rfl
  rw [e]
  refine Za (Zf ?_)
  exact Zf ⟨rfl,rfl,fun u hu=>hall u (Zm _ hu)⟩
 ·rintro ⟨r1,r2⟩ z ⟨hr,rfl,_⟩
  have hr:r1=none:=hr
  subst hr
  exact Zf h
theorem AF {ks:WJ} {b:Addr} {ys:WM} {Q:Bool->Shared->Prop} (hk:TK prog w s.heap ks b) (hy:∀ y∈ys,∃ js c,y=Value.ref c/\TK prog w s.heap js c) (h:Q false s):wpAny (model prog w) A (searchCouldBeSeen (.ref b) ys) Q E s:=by
 unfold searchCouldBeSeen
 refine Za (QK _ (fun rest r z=>r.1=none/\z=s/\∀ y∈rest,∃ js c,y=Value.ref c/\TK prog w s.heap js c) _ ?_ ?_ _ _ ⟨rfl,rfl,hy⟩)
 ·rintro y rest r z ⟨hr,rfl,hall⟩
  obtain ⟨js,c,rfl,hc⟩:=hall y Zl
  have hrest:∀ y∈rest,∃ js c,y=Value.ref c/\TK prog w z.heap js c:=fun u hu=>hall u (Zm _ hu)
  dsimp only
  split
  ·exact Zf ⟨rfl,rfl,hrest⟩
  ·refine Za (wpAny_eqIsQuiet_tuple hk ?_)
   simp only [Qd,Zw,ZU]
   refine Za (wpAny_eqIsQuiet_tuple hc ?_)
   simp only [Qd,Zw,ZU]
   refine Za (wL 7 hk ?_)
   simp only [Zw,ZU]
   refine Za (wL 7 hc ?_)
   simp only [Zw,ZU]
   exact Zf ⟨rfl,rfl,hrest⟩
 ·rintro ⟨r1,r2⟩ z ⟨hr,rfl,_⟩
  have hr:r1=none:=hr
  subst hr
  exact Zf h
def kZ (prog:WP) (w:WS) (h:Heap) (es:WT) (L:WO):Prop:=L.length=es.size/\∀ (i:Nat) e ks,es[i]?=some e->L[i]?=some ks->El prog w h e ks
theorem kZ.get {h:Heap} {es:WT} {L:WO} (k:kZ prog w h es L) {i:Nat} {e:Int × Value} (he:es[i]?=some e):∃ ks,L[i]?=some ks/\El prog w h e ks:=by
 have hi:=(ZV.mp he).1
 have hi':i < L.length:=by rw [k.1]; exact hi
 have hl:L[i]?=some L[i]:=Zc hi'
 exact ⟨_,hl,k.2 i e _ he hl⟩
theorem fW {t:SetTable} {es:WT} (g:Good t es) (hl:es.size<=t.mask):t.fits es.size=true:=by
 unfold SetTable.fits SetTable.fill
 rw [g.dum,g.len]
 simp only [Z1,Wg,XV]
 exact hl
theorem Eg {mask:Nat} (h:Msk mask):(mask % 2==0)=false:=by rcases h with rfl|rfl <;> rfl
theorem vY {t:SetTable} {f f':Nat->Int} {h:Int} {p:SetTable.Probe} {r:Option SetTable.Met} (e:t.probe f h p=r) (hf:∀ i,f' i=f i):t.probe f' h p=r:=by rw [show f'=f from funext hf]; exact e
theorem DI {a c:Addr} {o:Obj} {es:WT} {ep:Nat} {t:SetTable} {L:WO} {ks:WJ} {Q:SetFound->Shared->Prop} (hu:A.units < cLine)
  (ho:s.heap.get? a=some o) (hd:o.data=.set es ep t) (g:Good t es) (hl:es.size<=t.mask) (K:kZ prog w s.heap es L) (hk:TK prog w s.heap ks c) {M:Nat} (EN:End t (hsh prog w ks) M)
  (h1:ks∈L->Q (.there none) s) (h2:ks ∉ L->Q (.free (pos t.mask (hsh prog w ks) M) false) s) :
  ∀ (n fuel k:Nat) (stand:Option SetTable.Probe),M - k=n->n < fuel->k<=M->stand.getD (t.probeStart (hsh prog w ks))=st t.mask (hsh prog w ks) k ->
   (∀ (m i:Nat),m < k->t.place[i]?=some (pos t.mask (hsh prog w ks) m)->L[i]?≠some ks) ->
   wpAny (model prog w) A (setSearchFrom a (.ref c) (hsh prog w ks) true fuel stand) Q E s:=by
 intro n
 induction n using Nat.strongRecOn with
 | ind n ih =>
  intro fuel k stand hn hf hkM hst hprev
  obtain ⟨fuel,rfl⟩:∃ f,fuel=f+1:=⟨fuel - 1,by omega⟩
  have hfit:=fW g hl
  unfold setSearchFrom
  refine Za (XE ho hd hfit ?_)
  dsimp only
  have hgw:t.gaveWay=false:=Eg g.msk
  rw [hgw]
  simp only [Zw,ZU]
  rw [hst]
  have hsto:∀ (i:Nat) e,es[i]?=some e->(es[i]?.map (·.1)).getD 0=e.1:=fun i e he=>by rw [he]; rfl
  rcases AZ g EN (f:=fun i=>(es[i]?.map (·.1)).getD 0) hkM with ⟨hp,hne⟩|⟨m,i,hkm,hmM,hpi,hfi,hslot,hp,hne⟩
  ·rw [vY hp]
   rotate_left
   ·exact fun i=>rfl
   refine Zf (h2 fun hmem=>?_)
   obtain ⟨i,hi⟩:=ZO hmem
   have hi':i < es.size:=by rw [<- K.1]; exact (Zg.mp hi).1
   have he:es[i]?=some es[i]:=Zr hi'
   have hel:=K.2 i _ ks he hi
   obtain ⟨m,hm,hpl⟩:=EG g EN he hel.hash
   by_cases z:m < k
   ·exact hprev m i z hpl hi
   ·exact hne m i (by omega) hm hpl ((hsto i _ he).trans hel.hash)
  ·rw [vY hp]
   rotate_left
   ·exact fun i=>rfl
   dsimp only
   have hi':i < es.size:=by rw [<- g.len]; exact (ZV.mp hpi).1
   have he:es[i]?=some es[i]:=Zr hi'
   obtain ⟨js,hjs,hel⟩:=K.get he
   obtain ⟨b,hb,hkb⟩:=hel.ref
   have hstored:∀ y∈(es.filter (·.1==hsh prog w ks)).toList.map (·.2),∃ js c,y=Value.ref c/\TK prog w s.heap js c:=fun y hy=>by
    obtain ⟨e,h3,rfl⟩:=Zy.mp hy
    have h3:e∈es:=by
     rw [Array.toList_filter] at h3
     exact Array.mem_def.mpr (XG.mp h3).1
    obtain ⟨i',hi'⟩:=Array.getElem?_of_mem h3
    obtain ⟨js',_,hel'⟩:=K.get hi'
    obtain ⟨b',q1,q2⟩:=hel'.ref
    exact ⟨js',b',q1,q2⟩
   have rest:wpAny (model prog w) A (do
     let some (_,y):=es[i]?|unsupported "internal:set-entry"
     let equal <- holding [y] (eqBool y (.ref c))
     let (es',_,t') <- setState a
     if true&&equal then return .there none
     let some same:=t'.sameMemory t.moves t.mask|unsupported "set.changed-during-lookup:is-the-new-block-at-the-old-address"
     let aH <- match (if same then t'.slot (pos t.mask (hsh prog w ks) m) else .empty) with
      | .live i'=>match es'[i']? with
       | some (_,y')=>do pure (if <- isSame y' y then some i' else none)
       | none=>pure none
      | _=>pure none
     match aH with
     | none=>rule "set.search.anew"; setSearchFrom a (.ref c) (hsh prog w ks) true fuel none
     | some i'=>if equal then return .there (some i') else setSearchFrom a (.ref c) (hsh prog w ks) true fuel (some (st t.mask (hsh prog w ks) (m+1)))) Q E s:=by
    rw [he]
    rcases hE:es[i] with ⟨eh,ev⟩
    rw [hE] at hb
    have hb:ev=.ref b:=hb
    subst hb
    dsimp only
    refine Za (X1 (wpAny_eqBool_tuple hu hkb hk ?_))
    refine Za (XE ho hd hfit ?_)
    dsimp only
    by_cases hq:js=ks
    ·subst hq
     rw [Zj rfl]
     simp only [Bool.and_self,XJ]
     exact Zf (h1 (ZA hjs))
    ·rw [Zq hq]
     simp only [Bool.and_false,Zw,ZU]
     have hsm:t.sameMemory t.moves t.mask=some true:=by unfold SetTable.sameMemory; simp only [Z1,XJ]
     rw [hsm]
     simp only [XJ]
     rw [hslot]
     dsimp only
     rw [he,hE]
     dsimp only
     refine Za (wpAny_isSame_ref_self (Za (Zf ?_)))
     simp only [XJ]
     refine ih (M - (m+1)) (by omega) fuel (m+1) _ rfl (by omega) (by omega) rfl fun m' i' hm' hpl=>?_
     by_cases z:m' < k
     ·exact hprev m' i' z hpl
     ·by_cases z2:m'=m
      ·subst z2
       have:i'=i:=by
        have r1:=below_at g.srt hpl
        have r2:=below_at g.srt hpi
        omega
       subst this
       rw [hjs]
       intro q
       cases q
       exact hq rfl
      ·intro q
       have hi2:i' < es.size:=by rw [<- g.len]; exact (ZV.mp hpl).1
       have he2:es[i']?=some es[i']:=Zr hi2
       exact hne m' i' (by omega) (by omega) hpl ((hsto i' _ he2).trans (K.2 i' _ ks he2 q).hash)
   cases hled:t.led with
   | true =>
    simp only [Qd,Zw,ZU]
    exact rest
   | false =>
    simp only [Bool.not_false,XJ]
    refine Za (AF hk hstored ?_)
    simp only [Zw,ZU]
    exact rest
end
end TB

namespace TB
open PySem PySem.SetTable
section
variable {prog:WP} {w:WS} {A:WY} {E:WH} {s:WN}
inductive Els (prog:WP) (w:WS) (h:Heap):List (Int × Value)->List (List Int)->Prop
 | nil:Els prog w h [] []
 | cons {e:Int × Value} {ks:WJ} {l:W2} {L:WO}:El prog w h e ks->Els prog w h l L->Els prog w h (e::l) (ks::L)
variable {h:Heap}
theorem Els.length:∀ {l:W2} {L:WO},Els prog w h l L->L.length=l.length
 | _,_,.nil=>rfl
 | _,_,.cons _ r=>by rw [ZB,ZB,r.length]
theorem Els.get:∀ {l:W2} {L:WO},Els prog w h l L->∀ (i:Nat) e ks,l[i]?=some e->L[i]?=some ks->El prog w h e ks
 | _,_,.nil,i,e,ks,a,_=>by simp at a
 | _,_,.cons q r,0,e,ks,a,b=>by cases a; cases b; exact q
 | _,_,.cons q r,i+1,e,ks,a,b=>r.get i e ks a b
theorem Els.keys {es:WT} {L:WO} (x:Els prog w h es.toList L):kZ prog w h es L :=
 ⟨by rw [x.length,ZG],fun i e ks a b=>x.get i e ks (by rw [ZR]; exact a) b⟩
theorem Els.perm {l l':W2} (p:l.Perm l'):∀ {L:WO},Els prog w h l' L->∃ L',Els prog w h l L'/\L'.Perm L:=by
 induction p with
 | nil=>intro L x; cases x; exact ⟨[],.nil,.nil⟩
 | cons e _ ih=>intro L x; cases x with|cons q r=>obtain ⟨L',a,b⟩:=ih r; exact ⟨_,.cons q a,b.cons _⟩
 | swap e e' l=>intro L x; cases x with|cons q r=>cases r with|cons q' r'=>exact ⟨_,.cons q' (.cons q r'),.swap ..⟩
 | trans _ _ ih1 ih2 =>
  intro L x
  obtain ⟨L1,a1,b1⟩:=ih2 x
  obtain ⟨L2,a2,b2⟩:=ih1 a1
  exact ⟨L2,a2,b2.trans b1⟩
theorem Els.snoc:∀ {l:W2} {L:WO} {e:Int × Value} {ks:WJ},Els prog w h l L->El prog w h e ks->Els prog w h (l++[e]) (L++[ks])
 | _,_,_,_,.nil,q=>.cons q .nil
 | _,_,_,_,.cons a r,q=>.cons a (r.snoc q)
theorem Els.mono {h':Heap} (f:∀ ks b,TK prog w h ks b->TK prog w h' ks b):∀ {l:W2} {L:WO},Els prog w h l L->Els prog w h' l L
 | _,_,.nil=>.nil
 | _,_,.cons ⟨a,b,c,d⟩ r=>.cons ⟨a,b,c,f _ _ d⟩ (r.mono f)
theorem rf {a b:Addr} {h':Heap} {ks:WJ} {o:Obj} {es:WT} {ep:Nat} {t:SetTable} (ho:h.get? a=some o) (hd:o.data=.set es ep t) (q:Heap.SameBut a h h') (x:TK prog w h ks b):TK prog w h' ks b:=by
 obtain ⟨ob,items,n,x1,x2,x3,x4⟩:=x
 refine ⟨ob,items,n,(q.2 b fun z=>?_).trans x1,x2,x3,x4⟩
 subst z
 rw [ho] at x1
 cases x1
 rw [hd] at x3
 cases x3
def byT (w:WS):Bool:=w.params.followText "set-order"
def cL (prog:WP) (w:WS) (lim:Addr->Prop) (h:Heap) (a:Addr) (L:WO):Prop:=∃ o es ep t,h.get? a=some o/\o.ExactSet/\o.data=.set es ep t/\Good t es/\(t.plain=true/\t.led=!byT w)/\es.size * 5 < t.mask * 3/\Els prog w h es.toList L/\L.Nodup /\
 ∀ e∈es.toList,∀ b,e.2=.ref b->lim b
theorem xU {ks:WJ} {c:Addr} {Q:Bool->Shared->Prop} (hk:TK prog w s.heap ks c) (q:Q true s):wpAny (model prog w) A (hashByValue 8 (.ref c)) Q E s:=by
 have hT:=hk.typeIs
 obtain ⟨o,items,m,ho,hc,hd,hi⟩:=hk
 unfold hashByValue
 refine Za (wpAny_specialOf hT F.slot_tuple_hash.lookup ?_)
 show wpAny _ _ (seqItems? (.ref c)>>=_) _ _ s
 refine Za (Wt ho hd ?_)
 refine Za ?_
 show wpAny _ _ (forIn items _ _) _ _ s
 rw [<- Array.forIn_toList]
 refine QK _ (fun rest r z=>r.1=none/\z=s/\∀ v∈rest,∃ i t,v=Value.int i t) _ ?_ ?_ _ _ ⟨rfl,rfl,rO hi⟩
 ·rintro v rest r z ⟨hr,rfl,hall⟩
  obtain ⟨i,t,rfl⟩:=hall v Zl
  have e:∀ n,hashByValue n (Value.int i t)=pure true:=fun n=>by cases n <;> rfl
  rw [e]
  refine Za (Zf ?_)
  exact Zf ⟨rfl,rfl,fun u hu=>hall u (Zm _ hu)⟩
 ·rintro ⟨r1,r2⟩ z ⟨hr,rfl,_⟩
  have hr:r1=none:=hr
  subst hr
  exact Zf q
theorem zB {mask:Nat} (hm:Msk mask):10 * turns mask < 100000:=by rcases hm with rfl|rfl <;> decide
theorem sO {a:Addr} {o:Obj} {es:WT} {ep:Nat} {t:SetTable} (ho:h.get? a=some o) (hd:o.data=.set es ep t) (es':WT) (t':SetTable) :
  (h.update a (Obj.putSet es' t')).get? a=some { o with data:=.set es' (ep+1) t' }:=by
 have q:=Xi (Obj.putSet es' t') ho (by rw [putSet_of es' t' hd]; rfl)
 rw [putSet_of es' t' hd] at q
 exact q
theorem yO {a c:Addr} {L:WO} {ks:WJ} {Q:Bool->Shared->Prop} (hu:A.units < cLine) {lim:Addr->Prop} (hs:cL prog w lim s.heap a L) (hn:L.length<=17) (hk:TK prog w s.heap ks c) (hc:lim c)
  (q:∀ r h' L',Heap.SameBut a s.heap h'->cL prog w lim h' a L'->(∀ x,x∈L' ↔ x∈L\/x=ks)->L'.length<=L.length+1->Q r { s with heap:=h' }) :
  wpAny (model prog w) A (setAddHashed a (.ref c) (hsh prog w ks)) Q E s:=by
 obtain ⟨o,es,ep,t,ho,hex,hd,g,hpl,hsz,hels,hnd,hlim⟩:=hs
 have hlen:L.length=es.size:=by rw [hels.length,ZG]
 have hl:es.size<=t.mask:=by rcases g.msk with z|z <;> omega
 have hfit:=fW g hl
 obtain ⟨M,EN⟩:=zw g hl (hsh prog w ks)
 have hts:=zB g.msk
 have hML:=EN.lt
 unfold setAddHashed setAddHashedIn
 refine X1 (Za (XE ho hd hfit ?_))
 dsimp only
 have hbs:byScan (.ref c) es=false:=rfl
 rw [hbs]
 simp only [Zw,ZU]
 unfold setSearch
 refine Za (DI hu ho hd g hl hels.keys hk EN (fun hm=>?_) (fun hm=>?_) M 100000 0 none (Nat.sub_zero M) (by omega) (Xf _) rfl (fun m i hm=>absurd hm (Nat.not_lt_zero m)))
 ·have e:s={ s with heap:=s.heap }:=by cases s; rfl
  rw [e]
  exact Zf (q _ s.heap L (Heap.SameBut.refl a s.heap) ⟨o,es,ep,t,ho,hex,hd,g,hpl,hsz,hels,hnd,hlim⟩ (fun x=>⟨.inl,fun z=>z.elim id fun z=>z ▸ hm⟩) (XL _))
 dsimp only
 refine Za (XE ho hd hfit ?_)
 dsimp only
 have g1:=yg g EN (Value.ref c)
 generalize hp:t.put (pos t.mask (hsh prog w ks) M)=TP at g1
 have hmask:TP.1.mask=t.mask:=by rw [<- hp]; rfl
 have hplain:TP.1.plain=true:=by rw [<- hp]; exact hpl.1
 have hled:TP.1.led=!byT w:=by rw [<- hp]; exact hpl.2
 obtain ⟨t1,p⟩:=TP
 have hmask:t1.mask=t.mask:=hmask
 have hplain:t1.plain=true:=hplain
 have hled:t1.led=!byT w:=hled
 have g1:Good t1 (insertAt es p (hsh prog w ks,.ref c)):=g1
 dsimp only
 rw [hplain]
 simp only [XJ]
 refine Za (xU hk ?_)
 simp only [XJ]
 have hperm:=SetTable.insertAt_perm es p (hsh prog w ks,Value.ref c)
 rw [Array.toList_push] at hperm
 have hz1:(insertAt es p (hsh prog w ks,Value.ref c)).size=es.size+1:=ni _ _ _
 obtain ⟨L1,x1,y1⟩:=Els.perm hperm (hels.snoc (e:=(hsh prog w ks,Value.ref c)) ⟨rfl,c,rfl,hk⟩)
 have hL1:L1.length=L.length+1:=by rw [y1.length_eq,Zp,Xy]
 have hnd1:L1.Nodup:=y1.nodup_iff.mpr (XX.mpr ⟨hnd,by simp,fun x hx y hy=>by rw [ZH.mp hy]; intro z; exact hm (z ▸ hx)⟩)
 have hm1:∀ x,x∈L1 ↔ x∈L\/x=ks:=fun x=>by rw [y1.mem_iff,ZE,ZH]
 have hlim1:∀ e∈(insertAt es p (hsh prog w ks,Value.ref c)).toList,∀ b,e.2=.ref b->lim b:=fun e he b hb=>by
  rcases ZE.mp (hperm.mem_iff.mp he) with z|z
  ·exact hlim e z b hb
  ·rw [ZH.mp z] at hb; cases hb; exact hc
 generalize insertAt es p (hsh prog w ks,Value.ref c)=es1 at g1 hz1 x1 hlim1
 have hline:∀ n:Nat,n<=100->n<=sizeLine:=fun n h=>by rw [XC]; omega
 have ho1:=sO (h:=s.heap) ho hd es1 t1
 have sb1:=Xh s.heap a (Obj.putSet es1 t1)
 refine Za (wpAny_storeSet_of ho hd ?_ (hline _ (by omega)))
 have hl1:es1.size<=t1.mask:=by rw [hmask]; rcases g.msk with z|z <;> omega
 have hfill:t1.fill=es1.size:=by unfold SetTable.fill; rw [g1.dum,g1.len]; rfl
 have x1':=x1.mono fun ks b z=>rf ho hd sb1 z
 by_cases hfull:t1.tooFull=true
 ·rw [hfull]
  simp only [Bool.not_false,Bool.and_self,XJ]
  have hfull:t1.fill * 5 ≥ t1.mask * 3:=Zn hfull
  rw [hfill,hmask,hz1] at hfull
  have h4:es.size=4:=by rcases g.msk with z|z <;> omega
  unfold setRelay
  refine Za ?_
  refine Za (XE ho1 rfl (fW g1 hl1) ?_)
  dsimp only
  have hw:SetTable.grown (es.size+1)=20:=by rw [h4]; rfl
  rw [hw]
  have h32:SetTable.sizeAbove 20=32:=by decide
  have hno:¬ (SetTable.sizeAbove 20 > sizeLine):=by rw [h32,XC]; omega
  rw [Ze hno]
  obtain ⟨t2,order,e2,g2,z2,p2,f2⟩:=FA (mask:=31) (.inr rfl) es1 (by omega) t1.finger (t1.movedTo 31) t1.led t1.plain
  have hrel:t1.relaid (es1.map (·.1)) 20=some (t2,order):=by unfold SetTable.relaid; rw [h32]; exact e2
  have hplain2:t2.plain=true:=by rw [f2]; exact hplain
  have hled2:t2.led=!byT w:=by rw [f2]; exact hled
  have hmask2:t2.mask=31:=by rw [f2]
  rw [show (es1.map fun x=>x.1)=es1.map (·.1) from rfl,hrel]
  obtain ⟨L2,x2,y2⟩:=Els.perm p2 x1'
  generalize hes2:order.filterMap (es1[·]?)=es2 at g2 z2 p2 x2
  have ho2:=sO ho1 rfl es2 t2
  have sb2:=Xh (s.heap.update a (Obj.putSet es1 t1)) a (Obj.putSet es2 t2)
  refine Za (Qg (a:=(es2,t2)) ?_ ?_)
  ·show (ite _ _ _:Sem (Array (Int × Value) × SetTable))=_
   refine (Ze ?_).trans ?_
   ·rw [hes2,z2]; simp
   ·rw [hes2]
  ·refine wpAny_storeSet_of ho1 rfl ?_ (hline _ (by show es2.size<=100; omega))
   refine Zf (q _ _ L2 (sb1.trans sb2) ⟨_,es2,_,t2,ho2,hex,rfl,g2,⟨hplain2,hled2⟩,by omega,x2.mono fun ks b z=>rf ho1 rfl sb2 z,y2.nodup_iff.mpr hnd1,fun e he=>hlim1 e (p2.mem_iff.mp he)⟩ (fun x=>by rw [y2.mem_iff,hm1]) (by rw [y2.length_eq]; omega))
 ·have hfull':t1.tooFull=false:=by simpa using hfull
  rw [hfull']
  simp only [Bool.and_false,Zw,ZU]
  have hnf:¬ (t1.fill * 5 ≥ t1.mask * 3):=fun z=>hfull (Zj z)
  rw [hfill] at hnf
  exact Zf (q _ _ L1 sb1 ⟨_,es1,ep+1,t1,ho1,hex,rfl,g1,⟨hplain,hled⟩,by omega,x1',hnd1,hlim1⟩ hm1 (by omega))
theorem cL.keep {lim:Addr->Prop} {a:Addr} {h':Heap} {L:WO} (x:cL prog w lim h a L) (k:∀ b o,lim b\/b=a->h.get? b=some o->h'.get? b=some o):cL prog w lim h' a L:=by
 obtain ⟨o,es,ep,t,ho,hex,hd,g,hpl,hsz,hels,hnd,hlim⟩:=x
 refine ⟨o,es,ep,t,k a o (.inr rfl) ho,hex,hd,g,hpl,hsz,?_,hnd,hlim⟩
 have all:∀ (l:W2) (L:WO),(∀ e∈l,∀ b,e.2=.ref b->lim b)->Els prog w h l L->Els prog w h' l L:=by
  intro l L hl q
  induction q with
  | nil=>exact .nil
  | @cons e ks l L q r ih =>
   obtain ⟨q1,b,q2,ob,items,n,x1,x2⟩:=q
   exact .cons ⟨q1,b,q2,ob,items,n,k b ob (.inl (hl e Zl b q2)) x1,x2⟩ (ih fun e' he'=>hl e' (Zm _ he'))
 exact all _ _ hlim hels
theorem ES (finger moves:Nat) (led:Bool):Good (.fresh finger moves led) (#[]:Array (Int × Value)) :=
 ⟨rfl,rfl,fun i _ v _ e=>by simp [SetTable.fresh] at e,fun i v e=>by simp [SetTable.fresh] at e,.inl rfl,fun i v _ e=>by simp [SetTable.fresh] at e⟩
theorem cL.new {lim:Addr->Prop} {a:Addr} (ho:h.get? a=some { cls:=.type "set",dict:=none,data:=.set #[] 0 (.fresh 0 0 (!byT w)) }):cL prog w lim h a [] :=
 ⟨_,#[],0,_,ho,⟨rfl,rfl,rfl⟩,rfl,ES 0 0 _,⟨rfl,rfl⟩,(show 0 * 5 < 7 * 3 by decide),.nil,QH,fun e he=>by simp at he⟩
end
end TB

namespace TB
open PySem PySem.SetTable PySem.Spec
section
variable {prog:WP} {w:WS} {A:WY} {R:Result->Shared->Prop} {I:Addr} {fp wr:WQ} {G:Array GenState->Array GenState->Prop} {n:Nat} {P:Nat->Value->Prop} {St:Nat->Shared->Prop}
theorem fm {h h':Heap} {ks:WJ} {c:Addr} (x:TK prog w h ks c) (k:∀ o,h.get? c=some o->h'.get? c=some o):TK prog w h' ks c:=by
 obtain ⟨o,items,m,x1,x2⟩:=x
 exact ⟨o,items,m,k o x1,x2⟩
theorem xB (hu:A.in1.units < cLine) (W:WalksS prog w A.in1 I fp wr G n P St) (S:Addr) (lim:Addr->Prop) (hS1:S ∉ fp) (hwr:∀ b∈wr,¬ lim b) (hSl:¬ lim S) (val:Nat->List Int) (hn:n<=18) (hval:∀ i v,P i v->∃ c,v=.ref c/\lim c) :
  ∀ (k i:Nat) (z:WN) (L:WO),n - i=k->i<=n->St i z->cL prog w lim z.heap S L->(∀ x,x∈L ↔ ∃ j,j < i/\val j=x)->L.length<=i->(∀ i c,P i (.ref c)->TK prog w z.heap (val i) c) ->
   (∀ z' L',Moved (S::wr) G z z'->cL prog w lim z'.heap S L'->(∀ x,x∈L' ↔ ∃ j,j < n/\val j=x)->(∀ i c,P i (.ref c)->TK prog w z'.heap (val i) c)->R (.ok (.ret .none)) z') ->
   codeAny (model prog w) A (.builtin "set.update.loop" ⟨[.ref S,.ref I],[]⟩) R z:=by
 have hS2:S ∉ wr:=fun q=>hS1 (W.sub _ q)
 have more:∀ b∈wr,b∈S::wr:=fun b q=>Zm _ q
 have old:∀ {c:Addr},lim c->c ∉ wr:=fun hc q=>hwr _ q hc
 intro k
 induction k with
 | zero =>
  intro i z L hk hi hst hT hL hlen hP hR
  obtain rfl:i=n:=by omega
  refine Xv QY ?_
  rw [XD X8 _]
  refine Za (W.done z _ _ hst fun z' hm=>?_)
  refine Zf (hR z' L (hm.mono more) (hT.keep fun b o hb e=>hm.heap b o ?_ e) hL fun j c hp=>fm (hP j c hp) fun o e=>hm.heap c o ?_ e)
  ·rcases hb with hb|rfl
   ·exact old hb
   ·exact hS2
  ·obtain ⟨c',q1,q2⟩:=hval j _ hp; cases q1; exact old q2
 | succ k ih =>
  intro i z L hk hi hst hT hL hlen hP hR
  have hlt:i < n:=by omega
  refine Xv QY ?_
  rw [XD X8 _]
  refine Za (W.item i z _ _ hlt hst fun v z' hv hst' hm=>?_)
  obtain ⟨c,rfl,hc⟩:=hval i v hv
  have hP':∀ i c,P i (.ref c)->TK prog w z'.heap (val i) c:=fun j d hp=>fm (hP j d hp) fun o e=>hm.heap d o (by obtain ⟨c',q1,q2⟩:=hval j _ hp; cases q1; exact old q2) e
  have hT':cL prog w lim z'.heap S L:=hT.keep fun b o hb e=>hm.heap b o (by rcases hb with hb|rfl; exact old hb; exact hS2) e
  have hci:=hP' i c hv
  refine Za (X1 ?_)
  unfold setAdd
  refine X1 (Za (wpAny_pyHash_tuple hu hci ?_))
  refine yO (s:={ z' with toks:=z'.toks+((val i).length+1) }) hu hT' (by omega) hci hc fun r h' L' sb hT2 hL2 hlen2=>?_
  have kp:∀ b o,b≠S->z'.heap.get? b=some o->h'.get? b=some o:=fun b o hb e=>(sb.2 b hb).trans e
  refine Zf ⟨QQ X8 _,ih (i+1) _ L' (by omega) hlt (W.frame _ z' _ _ hst' (Nat.le_add_right _ _) fun b hb o e=>kp b o (fun q=>hS1 (q ▸ hb)) e) hT2 (fun x=>?_) (by omega) (fun j d hp=>fm (hP' j d hp) fun o e=>kp d o ?_ e) fun z2 L2 hm2 a1 a2 a3=>?_⟩
  ·rw [hL2,hL]
   constructor
   ·rintro (⟨j,h1,h2⟩|rfl)
    ·exact ⟨j,by omega,h2⟩
    ·exact ⟨i,by omega,rfl⟩
   ·rintro ⟨j,h1,rfl⟩
    by_cases q:j=i
    ·subst q; exact .inr rfl
    ·exact .inl ⟨j,by omega,rfl⟩
  ·obtain ⟨c',q1,q2⟩:=hval j _ hp; cases q1; exact fun q=>hSl (q ▸ q2)
  ·exact hR z2 L2 (Moved.trans W.gtrans ((hm.mono more).then_heap (Nat.le_add_right _ _) fun b o hb e=>kp b o (fun q=>hb (by rw [q]; exact Zl)) e) hm2) a1 a2 a3
end
end TB

namespace TB
open PySem PySem.SetTable
theorem g6:Slot "set_iterator" "__next__" "set_iterator.__next__" :=
 .of (owner:="set_iterator") (n:="__next__") (by rw [typeLookup_type,builtinLookup_eq_fast]; kernel_rfl) (by decide +kernel) (by decide +kernel) (by decide +kernel) (.inl (by decide +kernel)) (by rw [isSubtype_type]; kernel_rfl)
theorem ve:Slot "set_iterator" "__iter__" "set_iterator.__iter__" :=
 .of (owner:="set_iterator") (n:="__iter__") (by rw [typeLookup_type,builtinLookup_eq_fast]; kernel_rfl) (by decide +kernel) (by decide +kernel) (by decide +kernel) (.inl (by decide +kernel)) (by rw [isSubtype_type]; kernel_rfl)
theorem qF:entryFor table "set_iterator.__next__" = some Builtin.«set_iterator.__next__»:=entryFor_of_fast (by kernel_rfl)
theorem Fi:entryFor table "set_iterator.__iter__" = some Builtin.«dict_keyiterator.__iter__»:=entryFor_alias (id':="dict_keyiterator.__iter__") (by kernel_rfl) rfl (by decide +kernel) (by kernel_rfl)
theorem sM (a:W9):argsOk "set_iterator.__next__" ⟨[a],[]⟩:=by unfold argsOk; kernel_rfl
theorem FO (a:W9):argsOk "set_iterator.__iter__" ⟨[a],[]⟩:=by unfold argsOk; kernel_rfl
theorem C_:entryFor table "set.__iter__" = some Builtin.«frozenset.__iter__»:=entryFor_alias (id':="frozenset.__iter__") (by kernel_rfl) rfl (by decide +kernel) (by kernel_rfl)
end TB

namespace TB
open PySem PySem.SetTable PySem.Spec
section
variable {prog:WP} {w:WS} {A:WY} {E:WH} {s:WN}
def zA (prog:WP) (w:WS) (h:Heap) (items:WV) (val:Nat->List Int):Prop:=∀ (i:Nat) v,items[i]?=some v->∃ c,v=.ref c/\TK prog w h (val i) c
noncomputable def eT (led:Bool):Obj:={ cls:=.type "set",dict:=none,data:=.set #[] 0 (.fresh 0 0 led) }
def Made (prog:WP) (w:WS) (h:Heap) (items:WV) (val:Nat->List Int) (h':Heap):Prop:=(∃ L,cL prog w (fun c=>c < h.objs.size/\Value.ref c∈items.toList) h' h.objs.size L/\∀ x,x∈L ↔ ∃ j,j < items.size/\val j=x)/\∀ b o,b < h.objs.size->h.get? b=some o->h'.get? b=some o
set_option maxRecDepth 100000 in
set_option maxHeartbeats 3200000 in
theorem En (a:W9) {Q:WH} (q:Q (.ref s.heap.objs.size) { s with heap:=s.heap.push (eT (!byT w)) }) :
  codeAny (model prog w) A (.call (.builtin "set.__new__") ⟨[.type "set",a],[]⟩) (wants Q E) s:=by
 refine codeAny_of_tree (show wpAny _ A.in1 (do checkBuiltinCall "set.__new__" ⟨[.type "set",a],[]⟩; again (.builtin "set.__new__" ⟨[.type "set",a],[]⟩)) _ _ s from ?_)
 refine Za (Qg (F.newCall_set_1 a) (Zf ⟨QQ F.plain_set_new _,Xv F.entry_set_new ?_⟩)); rw [XD F.plain_set_new _]
 unfold Builtin.«set.__new__» Builtin.Frozenset.newClass; have hsub:=sub_set_self
 obtain ⟨hp,g,d,tk,os⟩:=s
 dsimp only; wp_walk
 refine QN (Zf ?_)
 dsimp only; simp only [newObj]
 refine Za (wpAny_alloc (Zf (Zf ?_)))
 exact q
set_option maxRecDepth 100000 in
set_option maxHeartbeats 3200000 in
theorem yG {l:Addr} {items:WV} {val:Nat->List Int} {Q:WH} (hu:A.units+4 < cLine) (hh:A.handled=none) (hl:s.heap.IsList l items) (ht:zA prog w s.heap items val) (hb:items.size<=18)
  (q:∀ h' tk,Made prog w s.heap items val h'->Q (.ref s.heap.objs.size) { s with heap:=h',toks:=tk }):wpAny (model prog w) A (call (.type "set") [.ref l]) Q E s:=by
 obtain ⟨ka,kb,kc⟩:=F.called_set.mro; have kd:=F.called_set.made; have ke:=F.called_set.sub
 refine wpAny_call (codeAny_of_tree (show wpAny _ _ (callAny (.type "set") _) _ _ _ from ?_))
 refine Zf ⟨Code.quiet_builtin _ (by decide +kernel),Xv F.entry_type_call ?_⟩; rw [Around.under_plain (weight_type_call_type "set" [.ref l] []) rfl]
 have kf:=F.called_set.notType; have kg:=F.called_set.canCreate; have ki:=F.typeCall_set_1 (.ref l)
 repeat (any_goals (first|wp_step|assumption))
 refine Wi (En (.ref l) (E:=E) (Q:=fun ob z=>∃ led:Bool,led=!byT w/\ob=.ref s.heap.objs.size/\z={ s with heap:=s.heap.push (eT led) }) ⟨_,rfl,rfl,rfl⟩) fun r z hr=>?_
 cases r with
 | error e=>exact hr
 | ok fl =>
  cases fl with
  | ret ob =>
   obtain ⟨led,hled,rfl,rfl⟩:=hr
   have gS:(s.heap.push (eT led)).get? s.heap.objs.size=some (eT led):=Zx _ rfl
   have hT:Shared.TypeIs { s with heap:=s.heap.push (eT led) } (.ref s.heap.objs.size) "set":=⟨_,gS,rfl⟩
   have kj:=F.called_set.init.lookup; have kk:=F.called_set.init.bind (.ref s.heap.objs.size)
   repeat (any_goals (first|wp_step|assumption))
   refine Wi (codeAny_call_builtin (R:=wants (fun r z=>r=.none/\∃ h' tk,z={ s with heap:=h',toks:=tk }/\Made prog w s.heap items val h') E) F.called_set.init.plain F.entry_set_init (check_set_init_1 hT ?_)) fun r2 z2 hr2=>?_
   ·obtain ⟨⟨oc,od,ot,os⟩,hol,hcl,nl,hdl⟩:=hl
    have hcl:oc=.type "list":=hcl; have hdl:ot=.seq items nl:=hdl
    subst hcl; subst hdl
    have hlt:l < s.heap.objs.size:=Zv hol
    have gl:(s.heap.push (eT led)).get? l=some { cls:=.type "list",dict:=od,data:=.seq items nl,slots:=os }:=Zh _ hol
    have kl:=F.sub_list_set; have km:=F.sub_list_frozenset; have kn:(Value.type "list"==Value.type "dict")=false:=by decide
    have hl1:(s.heap.push (eT led)).IsList l items:=⟨_,gl,rfl,nl,rfl⟩
    unfold Builtin.«set.__init__» noKeywords Builtin.Frozenset.updateFrom
    generalize hpi:pyIter=pit
    unfold eT at *
    wp_walk
    subst hpi
    refine wpAny_pyIter_list hl1 (Za (wpAny_runValue ?_))
    have sz:((s.heap.push ({ cls:=.type "set",dict:=none,data:=.set #[] 0 (.fresh 0 0 led) }:Obj)).objs.size)=s.heap.objs.size+1:=Xq _ _
    have h3:A.in1.in1.in1.handled=none:=by simpa using hh
    have hI:l≠(s.heap.push ({ cls:=.type "set",dict:=none,data:=.set #[] 0 (.fresh 0 0 led) }:Obj)).objs.size:=by rw [sz]; exact ZI (XY hlt)
    refine xB (by show A.units+1+1+1 < cLine; omega) ((Walks.list h3 _ l hI items).toS) s.heap.objs.size (fun c=>c < s.heap.objs.size/\Value.ref c∈items.toList) ?hS1 ?hwr (fun z=>absurd z.1 (XM _)) val hb ?hval (items.size - 0) 0 _ [] rfl (Xf _) ⟨⟨_,Zx _ rfl,rfl,rfl⟩,hl1.push _⟩ ?hT ?hL (Zk _) ?hP ?hR
    case hS1=>rw [sz]; intro z; rcases Zt.mp z with z|z; exact absurd z (ZI (XA _)); exact absurd (ZH.mp z) (Qk hlt)
    case hwr=>intro b z q; rw [ZH.mp z,sz] at q; exact absurd q.1 (Nat.not_lt_of_le (XL _))
    case hval =>
     intro i v hv
     obtain ⟨c,e,o,items',m,h1,h2⟩:=ht i v hv
     exact ⟨c,e,Zv h1,ZA (by rw [<- e,ZR]; exact hv)⟩
    case hT=>rw [hled] at gS ⊢; exact cL.new (Zh _ gS)
    case hL=>intro x; constructor; (intro z; cases z); (rintro ⟨j,z,_⟩; omega)
    case hP =>
     intro i c hp
     obtain ⟨c',e,x⟩:=ht i _ hp
     cases e
     exact fm x fun o e=>Zh _ (Zh _ e)
    case hR =>
     rintro ⟨h',g',d',tk',os'⟩ L' hm h1 h2 _
     obtain rfl:g'=s.gens:=hm.gens
     obtain rfl:d'=s.drawn:=hm.drawn
     obtain rfl:os'=s.os:=hm.os
     refine Zf (Zf ⟨rfl,h',tk',rfl,⟨L',h1,h2⟩,fun b o hb' e=>?_⟩)
     refine hm.heap b o (fun z=>?_) (Zh _ (Zh _ e))
     rcases Zt.mp z with z|z
     ·exact absurd z (ZI hb')
     ·rw [ZH,sz] at z; exact absurd z (ZI (XY hb'))
   ·cases r2 with
    | error e=>exact hr2
    | ok fl2 =>
     cases fl2 with
     | ret r =>
      obtain ⟨rfl,h',tk,rfl,hm⟩:=hr2
      repeat (any_goals (first|wp_step|assumption))
      exact q _ _ hm
     | _=>exact hr2.elim
  | _=>exact hr.elim
end
end TB

namespace TB
open PySem PySem.SetTable
theorem yW {α:Type} {l:List α} {i:Nat} (h:i < l.length):(l[i]::l.eraseIdx i).Perm l:=by
 rw [List.eraseIdx_eq_take_drop_succ]
 refine List.perm_middle.symm.trans ?_
 rw [<- Xp h,List.take_append_drop]
theorem ug {α:Type} (next:Nat->Nat):∀ (n k:Nat) (left:List α) (out:Array α),left.length=n->(pickOrder.go next n k left out).toList.Perm (out.toList++left)
 | 0,k,left,out,h=>by
  obtain rfl:=Q6.mp h
  unfold pickOrder.go
  rw [Xl]
 | n+1,k,left,out,h=>by
  have hi:next k % left.length < left.length:=Wl _ (by omega)
  unfold pickOrder.go
  rw [Zc hi]
  refine (ug next n (k+1) _ _ (by rw [List.length_eraseIdx_of_lt hi]; omega)).trans ?_
  rw [Array.toList_push,Zs]
  exact (yW hi).append_left _
theorem AV {α:Type} (next:Nat->Nat) (xs:Array α):(pickOrder next xs).toList.Perm xs.toList:=ug next xs.size 0 xs.toList #[] (ZG)
noncomputable def b_ (w:WS) (S:Addr) (ep:Nat) (es:WT):Array (Int × Value):=if byT w=true then pickOrder (w.params.setOrder S ep) es else es
theorem mz (w:WS) (S:Addr) (ep:Nat) (es:WT):(b_ w S ep es).toList.Perm es.toList:=by
 unfold b_
 split
 ·exact AV _ _
 ·exact .refl _
theorem ji (w:WS) (S:Addr) (ep:Nat) (es:WT):(b_ w S ep es).size=es.size:=by
 rw [<- ZG,(mz w S ep es).length_eq,ZG]
noncomputable def slotAt (w:WS) (t:SetTable):Nat->Nat
 | 0=>0
 | i+1=>if byT w=true then 0 else t.place.getD i 0+1
noncomputable def nD (w:WS) (S:Addr) (es:WT) (ep:Nat) (t:SetTable) (i:Nat) (d:W5) (sl:W0):Obj :=
 { cls:=.type "set_iterator",dict:=d,data:=.fields #[rawInt (slotAt w t i),rawInt i,.ref S,rawInt es.size,rawInt ep],slots:=sl }
section
variable {prog:WP} {w:WS} {A:WY} {E:WH} {s:WN} {I S:Addr} {o:Obj} {es:WT} {ep:Nat} {t:SetTable}
structure Fix (w:WS) (o:Obj) (es:WT) (ep:Nat) (t:SetTable):Prop where
 data:o.data=.set es ep t
 good:Good t es
 plain:t.plain=true
 led:t.led=!byT w
 fit:es.size<=t.mask
theorem Fj (g:Good t es) {i:Nat} (hi:i<=es.size) (hb:byT w=false):below t.place (slotAt w t i)=i:=by
 have hsp:=oW g.srt (slotAt w t i)
 cases i with
 | zero =>
  obtain ⟨h1,h2,h3⟩:=hsp
  rcases Nat.eq_zero_or_pos (below t.place (slotAt w t 0)) with z|z
  ·exact z
  ·have hlt:0 < t.place.size:=by omega
   exact absurd (h2 0 _ (Zr hlt) z) (Nat.not_lt_zero _)
 | succ i =>
  have hlt:i < t.place.size:=by rw [g.len]; omega
  have hg:t.place[i]?=some t.place[i]:=Zr hlt
  have e:slotAt w t (i+1)=t.place[i]+1:=by
   show (if byT w=true then 0 else t.place.getD i 0+1)=_
   rw [hb,Ze Zz,Xj,hg]; rfl
  rw [e] at hsp ⊢
  obtain ⟨h1,h2,h3⟩:=hsp
  rcases WB (below t.place (t.place[i]+1)) (i+1) with z|z|z
  ·have:=h3 i _ hg (by omega); omega
  ·exact z
  ·have hlt2:i+1 < t.place.size:=by omega
   have hg2:t.place[i+1]?=some t.place[i+1]:=Zr hlt2
   have a:=h2 (i+1) _ hg2 z
   have b:=g.srt i (i+1) _ _ hg hg2 (XA i)
   omega
theorem uQ {i:Nat} {Q:Option (Value × Nat)->Shared->Prop} (ho:s.heap.get? S=some o) (X:Fix w o es ep t) (hi:i<=es.size)
  (q:Q (((b_ w S ep es)[i]?).map fun e=>(e.2,slotAt w t (i+1))) s):wpAny (model prog w) A (setNext S (slotAt w t i) i ep) Q E s:=by
 have hf:=fW X.good X.fit
 unfold setNext setsByText
 refine Za (XE ho X.data hf (Za (Za (QN (Zf ?_)))))
 dsimp only
 have hbt:(model prog w).w.params.followText "set-order" = byT w:=rfl
 cases hb:byT w with
 | true =>
  rw [hbt,hb]
  simp only [XJ,QD,Zw,ZU]
  unfold setWalk setsByText
  refine Za (Za (XE ho X.data hf (Za (Za (QN (Zf ?_))))))
  dsimp only
  rw [hbt,hb]
  simp only [XJ]
  refine Za (QN (Zf (Zf ?_)))
  have e:b_ w S ep es=pickOrder (w.params.setOrder S ep) es:=by unfold b_; rw [hb]; rfl
  have e2:slotAt w t i=slotAt w t (i+1):=by cases i <;> (unfold slotAt; simp [hb])
  rw [e] at q
  rw [e2]
  exact q
 | false =>
  rw [hbt,hb]
  simp only [Zw,ZU]
  rw [Ze]
  rotate_left
  ·show ¬ ((!t.plain&&decide (es.size > 1))=true)
   rw [X.plain]; simp
  refine Za (Qg (a:=()) (show (if (!t.led&&!es.isEmpty)=true then _ else pure ())=pure () by rw [X.led,hb]; rfl) (Zf ?_))
  rw [Fj X.good hi hb]
  have e:b_ w S ep es=es:=by unfold b_; rw [hb]; rfl
  rw [e] at q
  by_cases hlt:i < es.size
  ·have he:es[i]?=some es[i]:=Zr hlt
   have hl2:i < t.place.size:=by rw [X.good.len]; exact hlt
   have hp:t.place[i]?=some t.place[i]:=Zr hl2
   have e3:slotAt w t (i+1)=t.place[i]+1:=by
    show (if byT w=true then 0 else t.place.getD i 0+1)=_
    rw [hb,Ze Zz,Xj,hp]; rfl
   rw [he,e3] at q
   rw [he,hp]
   exact q
  ·have he:es[i]?=none:=X6 (by omega)
   rw [he] at q
   rw [he]
   exact q
end
end TB

namespace TB
open PySem PySem.SetTable
section
variable {prog:WP} {w:WS} {A:WY} {E:WH} {s:WN} {I S:Addr} {o:Obj} {es:WT} {ep:Nat} {t:SetTable}
def AtI (w:WS) (S:Addr) (es:WT) (ep:Nat) (t:SetTable) (h:Heap) (I:Addr) (i:Nat):Prop:=∃ d sl,h.get? I=some (nD w S es ep t i d sl)
theorem AtI.type {i:Nat} (x:AtI w S es ep t s.heap I i):s.TypeIs (.ref I) "set_iterator":=let ⟨_,_,e⟩:=x; ⟨_,e,rfl⟩
theorem BI {i:Nat} {Q:W3} (x:AtI w S es ep t s.heap I i) (ho:s.heap.get? S=some o) (X:Fix w o es ep t) (hIS:S≠I) {e:Int × Value} (he:(b_ w S ep es)[i]?=some e)
  (q:∀ h',AtI w S es ep t h' I (i+1)->Heap.SameBut I s.heap h'->Q (some e.2) { s with heap:=h' }):wpAny (model prog w) A (pyNext (.ref I)) Q E s:=by
 have hT:=x.type
 obtain ⟨d,sl,hi⟩:=x
 have hlt:i < es.size:=by rw [<- ji w S ep es]; exact (ZV.mp he).1
 unfold pyNext
 refine Za (X0 (Z6 (name:=Str.ofString "__next__") hT g6 (ZZ g6 hT qF ?_ (sM _))))
 unfold Builtin.«set_iterator.__next__»
 refine Za (m:=slotArgs "__next__" 0 _) (Qg (a:=(.ref I,[])) rfl ?_)
 refine Za (wpAny_fieldsOf hi rfl ?_)
 dsimp only
 refine Za (wpAny_setEntries_of ho X.data (fW X.good X.fit) ?_)
 rw [show (((es.size:Int)) != (es.size:Int))=false from QD _]
 simp only [Zw,ZU]
 rw [show rawInt (slotAt w t i)=Value.int (slotAt w t i) 0 from rfl]
 dsimp only
 rw [Z9,Z9,Z9]
 refine Za (uQ ho X (Qj hlt) ?_)
 rw [he]
 dsimp only [Option.map]
 refine Za (Qi hi rfl (by simp) ?_)
 have h1:=Xi (h:=s.heap) (Obj.mapFields (·.setIfInBounds 0 (rawInt (slotAt w t (i+1))))) hi rfl
 refine Za (Qi h1 rfl (by simp) (Zf ⟨e.2,rfl,Zf (q _ ⟨d,sl,?_⟩ ?_)⟩))
 ·rw [Xi _ h1 rfl]
  rfl
 ·exact (Xh s.heap I _).trans (Xh _ I _)
theorem E2 {i:Nat} {Q:W3} (hh:A.handled=none) (x:AtI w S es ep t s.heap I i) (ho:s.heap.get? S=some o) (X:Fix w o es ep t) (hi0:i=es.size)
  (q:∀ h',Heap.ExtBut I s.heap h'->Q none { s with heap:=h' }):wpAny (model prog w) A (pyNext (.ref I)) Q E s:=by
 have hT:=x.type
 obtain ⟨d,sl,hi⟩:=x
 have he:(b_ w S ep es)[i]?=none:=X6 (by rw [ji]; omega)
 unfold pyNext
 refine Za (X0 (Z6 (name:=Str.ofString "__next__") hT g6 (ZZ g6 hT qF ?_ (sM _))))
 unfold Builtin.«set_iterator.__next__»
 refine Za (m:=slotArgs "__next__" 0 _) (Qg (a:=(.ref I,[])) rfl ?_)
 refine Za (wpAny_fieldsOf hi rfl ?_)
 dsimp only
 refine Za (wpAny_setEntries_of ho X.data (fW X.good X.fit) ?_)
 rw [show (((es.size:Int)) != (es.size:Int))=false from QD _]
 simp only [Zw,ZU]
 rw [show rawInt (slotAt w t i)=Value.int (slotAt w t i) 0 from rfl]
 dsimp only
 rw [Z9,Z9,Z9]
 refine Za (uQ ho X (Nat.le_of_eq hi0) ?_)
 rw [he]
 dsimp only [Option.map]
 refine Za (Qi hi rfl (by simp) (Za ?_)); simp only [newExc,newTuple]
 refine Za (Xb (Za (m:=firstArgMember _ _) (Qg (a:=Value.none) (by first|rfl|(simp only [firstArgMember]; rfl)) (Xb ?_ (by size_fits)))) (by size_fits)); simp only [raiseNew]
 refine Za (wpAny_handled ?_); rw [show A.in1.handled=none from hh]
 refine Za (Zf (wpAny_throw ?_))
 refine Za (QL (T:="StopIteration") (b:=true) ⟨_,Zx _ rfl,rfl⟩ Wu (Zf (q _ ?_)))
 exact ((Xh s.heap I _).extBut.push _).push _
theorem BK {i:Nat} {Q:WH} (x:AtI w S es ep t s.heap I i) (q:Q (.ref I) s):wpAny (model prog w) A (pyIter (.ref I)) Q E s :=
 Wb x.type ve (ZZ ve x.type Fi (show wpAny _ _ (ret (.ref I)) _ _ s from Zf ⟨_,rfl,"set_iterator",_,x.type,g6.lookup,q⟩) (FO _))
theorem Aa (hh:A.handled=none) (X:Fix w o es ep t) (hIS:S≠I) :
  Walks prog w A I [I,S] [I] es.size (fun i v=>∃ e,(b_ w S ep es)[i]?=some e/\v=e.2) (fun i h=>AtI w S es ep t h I i/\h.get? S=some o) where
 sub:=fun b hb=>by rw [ZH.mp hb]; exact Zl
 frame:=fun i h h' ⟨⟨d,sl,a⟩,b⟩ k=>⟨⟨d,sl,k I Zl _ a⟩,k S (Zm _ Zl) _ b⟩
 item:=fun i s Q E hi ⟨a,b⟩ k=>by
  have hw:i < (b_ w S ep es).size:=by rw [ji]; exact hi
  exact BI a b X hIS (Zr hw) fun h' x sb=>k _ h' s.toks ⟨_,Zr hw,rfl⟩ ⟨x,(sb.2 S hIS).trans b⟩ fun c oc hc ec=>(sb.2 c fun z=>hc (by rw [z]; exact Zl)).trans ec
 done:=fun s Q E ⟨a,b⟩ k=>E2 hh a b X rfl fun h' eb=>k h' s.toks fun c oc hc ec=>eb c oc (fun z=>hc (by rw [z]; exact Zl)) ec
 self:=fun i s Q E ⟨a,b⟩ k=>BK a k
theorem yw {Q:WH} (ho:s.heap.get? S=some o) (hex:o.ExactSet) (X:Fix w o es ep t)
  (q:∀ h',h'=s.heap.push (nD w S es ep t 0 none #[])->Q (.ref s.heap.objs.size) { s with heap:=h' }):wpAny (model prog w) A (pyIter (.ref S)) Q E s:=by
 have hT:s.TypeIs (.ref S) "set":=⟨o,ho,hex.1⟩
 have hf:=fW X.good X.fit
 refine Wb hT F.slot_set_iter (ZZ F.slot_set_iter hT C_ ?_ (F.args_set_iter_1 _))
 unfold Builtin.«frozenset.__iter__»
 refine Za (m:=Builtin.Frozenset.slot0 "__iter__" _) (Qg (a:=S) rfl ?_)
 unfold Builtin.Frozenset.sizeOf
 refine Za (Za (wpAny_setEntries_of ho X.data hf (Zf ?_)))
 unfold setDrawn setsByText
 refine Za (Za (XE ho X.data hf (Za (Za (QN (Zf (Zf ?_)))))))
 dsimp only
 have hdr:∀ b:Bool,(b&&(!t.plain&&decide (es.size > 1)))=false:=fun b=>by rw [X.plain]; cases b <;> rfl
 rw [Ze]
 rotate_left
 ·show ¬ ((!_&&(!t.plain&&decide (es.size > 1)))=true)
  rw [hdr]; exact Zz
 refine Za (Zf ?_)
 refine Za (wpAny_setEpoch_of ho X.data hf ?_)
 refine Za (Xb (Zf ⟨_,rfl,"set_iterator",_,⟨_,Zx _ rfl,rfl⟩,g6.lookup,?_⟩))
 exact q _ rfl
end
end TB

namespace TB
open PySem PySem.SetTable
theorem zU:splitId "set.__len__" = some ("set","__len__"):=by decide +kernel
section
variable {prog:WP} {w:WS} {A:WY} {E:WH} {s:WN} {S:Addr} {o:Obj} {es:WT} {ep:Nat} {t:SetTable}
theorem Fg {Q:Bool->Shared->Prop} (hT:s.TypeIs (.ref S) "set") (q:Q false s):wpAny (model prog w) A (Builtin.List.listLengthHint (.ref S)) Q E s:=by
 unfold Builtin.List.listLengthHint
 refine Za (wpAny_specialOf hT F.slot_set_len.lookup ?_)
 dsimp only
 rw [zU]
 dsimp only
 refine Za (QL hT sub_set_self ?_)
 simp only [Qd,Zw,ZU]
 rw [Zd]
 rotate_left
 ·show (_:Bool)=true
  decide +kernel
 refine Za (wpAny_typeOf hT ?_)
 exact Zf q
theorem z9 {Q:List Value->Shared->Prop} (hh:A.handled=none) (ho:s.heap.get? S=some o) (hex:o.ExactSet) (X:Fix w o es ep t)
  (q:∀ h' tk,s.heap.objs.size < h'.objs.size->(∀ b oc,b < s.heap.objs.size->s.heap.get? b=some oc->h'.get? b=some oc)->Q ((b_ w S ep es).toList.map (·.2)) { s with heap:=h',toks:=tk }):wpAny (model prog w) A (collect (.ref S)) Q E s:=by
 have hSl:S < s.heap.objs.size:=Zv ho
 unfold collect
 refine Za (wpAny_runValue (Xv F.entry_proto_collect ?_)); rw [XD F.plain_proto_collect _]
 refine Za (show wpAny _ A.in1 (newList []) _ _ s from Xb ?_)
 refine Zf ⟨QQ F.plain_list_iadd _,Xv F.entry_list_iadd ?_⟩; rw [XD F.plain_list_iadd _]
 generalize hob:({ cls:=.type "list",data:=.seq ([]:List Value).toArray }:Obj)=ob
 have g1:(s.heap.push ob).get? S=some o:=Zh _ ho
 have gL:(s.heap.push ob).get? s.heap.objs.size=some ob:=Zx _ (by rw [<- hob]; rfl)
 have hT:Shared.TypeIs { s with heap:=s.heap.push ob } (.ref S) "set":=⟨o,g1,hex.1⟩
 show wpAny _ A.in1 (Builtin.List.listExtendWith (.ref s.heap.objs.size) (.ref S) (.ref s.heap.objs.size)) _ _ { s with heap:=s.heap.push ob }
 unfold Builtin.List.listExtendWith
 refine Za (wpAny_typeOf hT ?_)
 have n1:Builtin.List.listSameRef (.ref s.heap.objs.size) (.ref S)=false:=by
  show (s.heap.objs.size==S)=false
  exact Qx (Qk hSl)
 rw [n1,show (Value.type "set"==Value.type "list")=false by decide,show (Value.type "set"==Value.type "tuple")=false by decide]
 simp only [Bool.or_false,Zw,ZU]
 refine Za (yw (s:={ s with heap:=s.heap.push ob }) g1 hex X fun h2 e2=>?_)
 have k2:∀ b oc,(s.heap.push ob).get? b=some oc->h2.get? b=some oc:=fun b oc e=>by rw [e2]; exact Zh _ e
 refine Za (X1 (Fg (s:={ s with heap:=h2 }) ⟨o,k2 _ _ g1,hex.1⟩ ?_))
 rw [Zd]
 rotate_left
 ·show (_:Bool)=true
  decide +kernel
 refine Za (Wj ?_)
 have sz:(s.heap.push ob).objs.size=s.heap.objs.size+1:=Xq _ _
 have gI:h2.get? (s.heap.push ob).objs.size=some (nD w S es ep t 0 none #[]):=by rw [e2]; exact Zx _ rfl
 have gL2:h2.get? s.heap.objs.size=some { cls:=.type "list",data:=.seq ([]:List Value).toArray }:=by rw [hob]; exact k2 _ _ gL
 refine Za (show wpAny _ A.in1 (updateSeq s.heap.objs.size (·.push .none)>>=fun _=>updateSeq s.heap.objs.size (·.pop)) _ _ _ from ?_)
 refine Za (wpAny_updateSeq gL2 rfl ?_)
 have gL3:=Xi (Obj.mapSeq (·.push Value.none)) gL2 rfl
 refine wpAny_updateSeq gL3 rfl ?_
 have gL4:=Xi (Obj.mapSeq (·.pop)) gL3 rfl
 have k4:∀ b oc,b≠s.heap.objs.size->h2.get? b=some oc->((h2.update s.heap.objs.size (Obj.mapSeq (·.push Value.none))).update s.heap.objs.size (Obj.mapSeq (·.pop))).get? b=some oc :=
  fun b oc hb e=>(QA _ _ (Ne.symm hb)).trans ((QA _ _ (Ne.symm hb)).trans e)
 generalize ((h2.update s.heap.objs.size (Obj.mapSeq (·.push Value.none))).update s.heap.objs.size (Obj.mapSeq (·.pop)))=h4 at gL4 k4
 have hSI:S≠(s.heap.push ob).objs.size:=by rw [sz]; exact ZI (XY hSl)
 have hh2:A.in1.in1.handled=none:=by simpa using hh
 have hh1:A.in1.handled=none:=by simpa using hh
 have hLf:s.heap.objs.size ∉ [(s.heap.push ob).objs.size,S]:=fun z=>by
  rcases Zt.mp z with z|z
  ·rw [sz] at z; exact absurd z (ZI (XA _))
  ·exact absurd (ZH.mp z) (Qk hSl)
 have hn:es.size<=sizeLine:=by rw [XC]; have:=X.fit; rcases X.good.msk with z|z <;> omega
 refine Zf ⟨QQ F.plain_extend_loop _,codeAny_extend_loopS (Aa (I:=(s.heap.push ob).objs.size) hh1 X hSI).toS hn _ hLf _ es.size 0 _ _ _ rfl (Xf _)
  ⟨⟨_,_,k4 _ _ (by rw [sz]; exact Qk (XA _)) gI⟩,k4 S _ (ZI hSl) (k2 _ _ g1)⟩ gL4 (ItemsOf.nil _) fun z acc c hm hz hacc=>?_⟩
 obtain ⟨h',g',d',tk',os'⟩:=z
 obtain rfl:g'=s.gens:=hm.gens
 obtain rfl:d'=s.drawn:=hm.drawn
 obtain rfl:os'=s.os:=hm.os
 refine Za (wpAny_load hz (Zf ?_))
 have hacc':acc.toList=(b_ w S ep es).toList.map (·.2):=by
  refine QE fun j=>?_
  rw [ZR,ZK,ZR]
  by_cases hj:j < es.size
  ·have hj2:j < acc.size:=by rw [hacc.1]; exact hj
   have ha:acc[j]?=some acc[j]:=Zr hj2
   obtain ⟨e,q1,q2⟩:=hacc.2 j _ ha
   rw [ha,q1,q2]; rfl
  ·rw [X6 (by rw [hacc.1]; omega),X6 (by rw [ji]; omega)]; rfl
 show Q acc.toList _
 rw [hacc']
 refine q h' tk' (Zv hz) fun b oc hb e=>hm.heap b oc (fun z=>?_) (k4 b oc (ZI hb) (k2 _ _ (Zh _ e)))
 rcases Zt.mp z with z|z
 ·exact absurd z (ZI hb)
 ·rw [ZH,sz] at z; exact absurd z (ZI (XY hb))
end
end TB

namespace TB
open PySem PyProof.Rows
noncomputable def aC:List Int->List Int->Bool
 | [],[]=>false
 | [],_::_=>true
 | _::_,[]=>false
 | a::r,b::q=>if a=b then aC r q else decide (a < b)
section
variable {prog:WP} {w:WS} {A:WY} {E:WH} {s:WN}
theorem Ck {k:Bool} {a b:Int} {t u:Tok} {Q:Bool->Shared->Prop} (q:Q (decide (a < b)) s):wpAny (model prog w) A (oneLt' k (.int a t) (.int b u)) Q E s:=by
 cases k with
 | true=>exact oneLt_int q
 | false =>
  rw [oneLt'_eq]
  simp only [Zw,ZU]
  exact Za (wpAny_lt_int (Xk q))
theorem HA (k:Bool) (x y:W9):keyLt' (tuples' k) x y=(do
  let xs <- Builtin.List.listItems x; let ys <- Builtin.List.listItems y
  for ((p,q),i) in (xs.toList.zip ys.toList).zipIdx do
   if !(<- eqBool p q) then return <- oneLt' (k&&i==0) p q
  return xs.size < ys.size):=rfl
theorem AE {k:Bool} {ks js:WJ} {x y:Addr} {Q:Bool->Shared->Prop} (hx:TK prog w s.heap ks x) (hy:TK prog w s.heap js y) (q:Q (aC ks js) s):wpAny (model prog w) A (keyLt' (tuples' k) (.ref x) (.ref y)) Q E s:=by
 obtain ⟨ox,xs,nx,hox,_,hdx,hix⟩:=hx
 obtain ⟨oy,ys,ny,hoy,_,hdy,hiy⟩:=hy
 rw [HA]
 refine Za (QZ hox hdx (Za (QZ hoy hdy (Za ?_))))
 refine QK _ (fun rest r z=>r.1=none/\z=s/\∃ ks' js' xs' ys' n,rest=(xs'.zip ys').zipIdx n/\ItemsAre (intKind prog w) ks' xs'/\ItemsAre (intKind prog w) js' ys'/\aC ks' js'=aC ks js/\decide (xs'.length < ys'.length)=decide (xs.size < ys.size)) _ ?_ ?_ _ _
  ⟨rfl,rfl,ks,js,xs.toList,ys.toList,0,rfl,hix,hiy,rfl,by rw [ZG,ZG]⟩
 ·rintro ⟨⟨u,v⟩,i⟩ rest r z ⟨hr,rfl,ks',js',xs',ys',n,hz,h1,h2,hl,hs⟩
  cases h1 with
  | nil=>simp at hz
  | @cons a u' ks2 xs2 ha h1 =>
   cases h2 with
   | nil=>simp at hz
   | @cons b v' js2 ys2 hb h2 =>
    simp only [List.zip_cons_cons,List.zipIdx_cons,List.cons.injEq,Prod.mk.injEq] at hz
    obtain ⟨⟨⟨rfl,rfl⟩,rfl⟩,rfl⟩:=hz
    refine Za ((intKind prog w).eqBool ha hb ?_)
    obtain ⟨t,rfl⟩:=QC ha
    obtain ⟨t',rfl⟩:=QC hb
    by_cases e:a=b
    ·subst e
     rw [Zj rfl]
     simp only [Qd,Zw,ZU]
     refine Zf ⟨rfl,rfl,ks2,js2,xs2,ys2,i+1,rfl,h1,h2,?_,?_⟩
     ·rw [<- hl,aC,Zd rfl]
     ·rw [<- hs]; simp
    ·rw [Zq e]
     simp only [Bool.not_false,XJ]
     have e2:aC ks js=decide (a < b):=by rw [<- hl,aC,Ze e]
     rw [e2] at q
     exact Za (Ck (Zf (Zf q)))
 ·rintro ⟨r1,r2⟩ z ⟨hr,rfl,ks',js',xs',ys',n,hz,h1,h2,hl,hs⟩
  have hr:r1=none:=hr
  subst hr
  have e:aC ks js=decide (xs.size < ys.size):=by
   rw [<- hl,<- hs]
   cases h1 with
   | nil=>cases h2 with
    | nil=>rfl
    | cons _ _=>rfl
   | cons _ _=>cases h2 with
    | nil=>rfl
    | cons _ _=>simp at hz
  rw [e] at q
  exact Zf q
theorem AJ {ks:WJ} {c:Addr} {Q:W3} (hk:TK prog w s.heap ks c) (hne:ks≠[]) (q:∀ i t,Q (some (.int i t)) s):wpAny (model prog w) A (firstOfTuple' (.ref c)) Q E s:=by
 obtain ⟨o,items,n,ho,hc,hd,hi⟩:=hk
 show wpAny _ _ (typeOf (.ref c)>>=_) _ _ s
 refine Za (wpAny_typeOf_ref ho ?_)
 rw [hc]
 rw [Ze (by simp)]
 refine Za (QZ ho hd (Zf ?_))
 cases hv:items.toList with
 | nil=>rw [hv] at hi; cases hi; exact absurd rfl hne
 | cons v r =>
  rw [hv] at hi
  cases hi with
  | @cons k _ _ _ h1 _ =>
   obtain ⟨t,rfl⟩:=QC h1
   have e:items[0]?=some (Value.int k t):=by rw [<- ZR,hv]; rfl
   rw [e]
   exact q _ _
theorem pR:∀ {vs:WM} {Q:List (Option Value)->Shared->Prop},(∀ v∈vs,∃ ks c,v=.ref c/\TK prog w s.heap ks c/\ks≠[])->(∀ l:List (Int × Tok),l.length=vs.length->Q (l.map fun p=>some (.int p.1 p.2)) s) ->
  wpAny (model prog w) A (vs.mapM firstOfTuple') Q E s
 | [],Q,_,q=>by
  rw [List.mapM_nil]
  exact Zf (q [] rfl)
 | v::vs,Q,hv,q=>by
  obtain ⟨ks,c,rfl,hk,hne⟩:=hv v Zl
  rw [List.mapM_cons]
  refine Za (AJ hk hne fun i t=>Za (pR (vs:=vs) (fun u hu=>hv u (Zm _ hu)) fun l hl=>Zf ?_))
  exact q ((i,t)::l) (by rw [ZB,ZB,hl])
theorem uc:∀ l:List (Int × Tok),(l.map fun p=>Value.int p.1 p.2).mapM typeOf=(pure (l.map fun _=>Value.type "int"):Sem (List Value))
 | []=>by simp
 | p::l=>by
  rw [ZC,List.mapM_cons,uc l]
  show (pure (Value.type "int")>>=fun b=>pure _>>=fun bs=>pure (b::bs))=_
  simp
theorem IS {vs:WM} {Q:SortKind->Shared->Prop} (hne:vs≠[]) (hv:∀ v∈vs,∃ ks c,v=.ref c/\TK prog w s.heap ks c/\ks≠[]) (q:Q (tuples' true) s):wpAny (model prog w) A (keyKind' vs.toArray) Q E s:=by
 rw [keyKind'_eq,List.mapM_toArray]
 refine Za ?_
 rw [map_eq_pure_bind]
 refine Za (pR hv fun l hl=>Zf ?_)
 rw [Zd (by simp)]
 refine Za (Wj ?_)
 have e:((l.map fun p=>some (Value.int p.1 p.2)).toArray.filterMap id)=(l.map fun p=>Value.int p.1 p.2).toArray:=by simp
 rw [e,oneTypeOnly'_eq,List.mapM_toArray,uc]
 simp only [map_pure,pure_bind]
 obtain ⟨p,r,rfl⟩:∃ p r,l=p::r:=Qe fun z=>hne (Q6.mp (by rw [<- hl,z]; rfl))
 have h0:(List.map (fun _=>Value.type "int") (p::r)).toArray[0]?=some (Value.type "int"):=rfl
 have ha:((List.map (fun _=>Value.type "int") (p::r)).toArray.all fun x=>x==Value.type "int")=true:=by
  rw [List.all_toArray,List.all_map,Xa]; intro _ _; rfl
 rw [h0]
 simp only [ha,XJ,pure_bind]
 exact Zf q
end
end TB

namespace TB
open PySem PyProof.Rows
theorem lex_irrefl:∀ a,aC a a=false
 | []=>rfl
 | a::r=>by rw [aC,Zd rfl,lex_irrefl r]
theorem lex_trans:∀ a b c,aC a b=true->aC b c=true->aC a c=true
 | [],[],c,h,_=>by cases h
 | [],_::_,[],_,h=>by cases h
 | [],_::_,_::_,_,_=>rfl
 | _::_,[],_,h,_=>by cases h
 | _::_,_::_,[],_,h=>by cases h
 | a::r,b::q,c::p,h1,h2=>by
  rw [aC] at h1 h2 ⊢
  by_cases e1:a=b
  ·subst e1
   rw [Zd rfl] at h1
   by_cases e2:a=c
   ·subst e2; rw [Zd rfl] at h2 ⊢; exact lex_trans r q p h1 h2
   ·rw [Ze e2] at h2 ⊢; exact h2
  ·rw [Ze e1] at h1
   have h1:=Zn h1
   by_cases e2:b=c
   ·subst e2; rw [Ze e1]; exact Zj h1
   ·rw [Ze e2] at h2
    have h2:=Zn h2
    rw [Ze (by omega)]; exact Zj (by omega)
theorem kC:∀ a b,aC a b=false->aC b a=false->a=b
 | [],[],_,_=>rfl
 | [],_::_,h,_=>by cases h
 | _::_,[],_,h=>by cases h
 | a::r,b::q,h1,h2=>by
  rw [aC] at h1 h2
  by_cases e:a=b
  ·subst e; rw [Zd rfl] at h1 h2; rw [kC r q h1 h2]
  ·rw [Ze e] at h1; rw [Ze (Ne.symm e)] at h2
   have h1:=Wx h1
   have h2:=Wx h2
   omega
theorem Cv (a b c:WJ) (h:aC a c=true):aC a b=true\/aC b c=true:=by
 cases h1:aC a b with
 | true=>exact .inl rfl
 | false =>
  cases h2:aC b a with
  | true=>exact .inr (lex_trans b a c h2 h)
  | false=>rw [<- kC a b h1 h2]; exact .inr h
noncomputable def kT (key:Value->List Int):PyProof.Rows.KeyKind:={ α:=List Int,blt:=aC,irrefl:=lex_irrefl,trans:=lex_trans,negTrans:=Cv,total:=kC,keyOf:=fun v=>some (key v),dflt:=[] }
noncomputable def at' (key:Value->List Int) (xs:Array Keyed) (i:Nat):List Int:=KK (kT key) xs i
theorem iI {key:Value->List Int} {xs:Array Keyed} {i:Nat} {p:Keyed} (h:xs[i]?=some p):at' key xs i=key p.1:=by unfold at' KK; rw [h]; rfl
structure Bas (key:Value->List Int) (a0:Array Keyed) (z:SortSt):Prop where
 perm:(arrOf z).Perm a0
 kind:kindOf z=tuples' true
 fail:failedOf z=none
 pend:pendingOf z=#[]
def Diff (key:Value->List Int) (xs:Array Keyed):Prop:=(xs.toList.map fun p=>key p.1).Nodup
theorem Diff.perm {key:Value->List Int} {xs ys:Array Keyed} (p:xs.Perm ys) (d:Diff key ys):Diff key xs:=(((QR.mp p).map _).nodup_iff).mpr d
theorem Diff.ne {key:Value->List Int} {xs:Array Keyed} (d:Diff key xs) {i j:Nat} (hi:i < xs.size) (hj:j < xs.size) (hij:i≠j):at' key xs i≠at' key xs j:=by
 intro e
 have ei:xs[i]?=some xs[i]:=Zr hi
 have ej:xs[j]?=some xs[j]:=Zr hj
 rw [iI ei,iI ej] at e
 have hl:(xs.toList.map fun p=>key p.1).length=xs.size:=by rw [Zb,ZG]
 have gi:(xs.toList.map fun p=>key p.1)[i]'(by omega)=key xs[i].1:=by rw [Qm,XS]
 have gj:(xs.toList.map fun p=>key p.1)[j]'(by omega)=key xs[j].1:=by rw [Qm,XS]
 have:=Qf.mp d
 rcases Nat.lt_or_gt_of_ne hij with z|z
 ·exact this i j (by omega) (by omega) z (by rw [gi,gj]; exact e)
 ·exact this j i (by omega) (by omega) z (by rw [gi,gj]; exact e.symm)
theorem Diff.or {key:Value->List Int} {xs:Array Keyed} (d:Diff key xs) {i j:Nat} (hi:i < xs.size) (hj:j < xs.size) (hij:i≠j) (h:aC (at' key xs i) (at' key xs j)=false):aC (at' key xs j) (at' key xs i)=true:=by
 cases q:aC (at' key xs j) (at' key xs i) with
 | true=>rfl
 | false=>exact absurd (kC _ _ h q) (d.ne hi hj hij)
def Up (key:Value->List Int) (xs:Array Keyed) (n:Nat):Prop:=∀ i j,i < j->j < n->aC (at' key xs i) (at' key xs j)=true
def Down (key:Value->List Int) (xs:Array Keyed) (n:Nat):Prop:=∀ i j,i < j->j < n->aC (at' key xs j) (at' key xs i)=true
theorem Up.more {key:Value->List Int} {xs:Array Keyed} {n:Nat} (u:Up key xs n) (hn:1<=n) (h:aC (at' key xs (n - 1)) (at' key xs n)=true):Up key xs (n+1):=fun i j hij hj=>by
 by_cases z:j < n
 ·exact u i j hij z
 ·obtain rfl:j=n:=by omega
  by_cases y:i=j - 1
  ·subst y; exact h
  ·exact lex_trans _ _ _ (u i (j - 1) (by omega) (by omega)) h
theorem Down.more {key:Value->List Int} {xs:Array Keyed} {n:Nat} (u:Down key xs n) (hn:1<=n) (h:aC (at' key xs n) (at' key xs (n - 1))=true):Down key xs (n+1):=fun i j hij hj=>by
 by_cases z:j < n
 ·exact u i j hij z
 ·obtain rfl:j=n:=by omega
  by_cases y:i=j - 1
  ·subst y; exact h
  ·exact lex_trans _ _ _ h (u i (j - 1) (by omega) (by omega))
section
variable {prog:WP} {w:WS} {A:WY} {E:WH} {s:WN} {a0:Array Keyed} {key:Value->List Int}
def Cmp (prog:WP) (w:WS) (A:WY) (s:WN) (key:Value->List Int) (a0:Array Keyed):Prop:=∀ (E:WH) (x y:Keyed) (Q:Bool->Shared->Prop),x∈a0.toList->y∈a0.toList->Q (aC (key x.1) (key y.1)) s->wpAny (model prog w) A (keyLt' (tuples' true) x.1 y.1) Q E s
theorem iL {z:SortSt} {i j:Nat} {Q:Option Bool->SortSt->Prop} (C:Cmp prog w A s key a0) (B:Bas key a0 z) (hi:i < a0.size) (hj:j < a0.size) (q:Q (some (aC (at' key (arrOf z) i) (at' key (arrOf z) j))) z) :
  wpS (model prog w) A E s (ltAt' i j) Q z:=by
 have sz:=B.perm.size_eq
 have hi':i < (arrOf z).size:=by omega
 have hj':j < (arrOf z).size:=by omega
 have ei:(arrOf z)[i]?=some (arrOf z)[i]:=Zr hi'
 have ej:(arrOf z)[j]?=some (arrOf z)[j]:=Zr hj'
 have mem:∀ (k:Nat) (hk:k < (arrOf z).size),(arrOf z)[k]∈a0.toList:=fun k hk=>(QR.mp B.perm).mem_iff.mp (by simp)
 rw [iI ei,iI ej] at q
 rw [ltAt'_eq]
 refine Z5 (wpS_get (Z5 ?_)); rw [elem'_eq,ei]
 refine Xs (Z5 ?_); rw [elem'_eq,ej]
 refine Xs ?_; rw [lt'_eq]
 refine Z5 (wpS_get (Z5 ?_)); rw [B.kind]
 exact wpS_lift (X0 (C _ _ _ _ (mem i hi') (mem j hj') ⟨rfl,Xs q⟩))
theorem pU {z:SortSt} {a n:Nat} {Q:AscSt->SortSt->Prop} (C:Cmp prog w A s key a0) (B:Bas key a0 z) (D:Diff key a0) (hn:n<=a0.size) (ha:1<=a) (han:a<=n) (u:Up key (arrOf z) a)
  (q:∀ m,a<=m->m<=n->Up key (arrOf z) m->(m=n\/aC (at' key (arrOf z) m) (at' key (arrOf z) (m - 1))=true)->Q (none,m) z):wpS (model prog w) A E s (ascLoop a n) Q z:=by
 have sz:=B.perm.size_eq
 have D':=D.perm B.perm
 unfold ascLoop
 refine Q2 (fun x c y=>y=z/\c=(none,x)/\Up key (arrOf z) x) (fun x c y h1 h2=>?_) (fun c y=>?_) ⟨rfl,rfl,u⟩
 ·rintro ⟨rfl,rfl,ux⟩
  refine Z5 (iL C B (by omega) (by omega) ?_)
  cases hb:aC (at' key (arrOf y) x) (at' key (arrOf y) (x - 1)) with
  | true=>exact Xs (q x h1 (by omega) ux (.inr hb))
  | false=>exact Xs ⟨rfl,rfl,ux.more (by omega) (D'.or (by omega) (by omega) (by omega) hb)⟩
 ·rintro ⟨rfl,rfl,ux⟩
  rw [show max a n=n by omega] at ux ⊢
  exact q n han (Zk n) ux (.inl rfl)
theorem Ba {z:SortSt} {a n:Nat} {Q:DescSt->SortSt->Prop} (C:Cmp prog w A s key a0) (B:Bas key a0 z) (D:Diff key a0) (hn:n<=a0.size) (ha:1<=a) (han:a<=n) (u:Down key (arrOf z) a)
  (q:∀ m,a<=m->m<=n->Down key (arrOf z) m->Q (none,m,0) z):wpS (model prog w) A E s (descLoop a n) Q z:=by
 have sz:=B.perm.size_eq
 have D':=D.perm B.perm
 unfold descLoop
 refine Q2 (fun x c y=>y=z/\c=(none,x,0)/\Down key (arrOf z) x) (fun x c y h1 h2=>?_) (fun c y=>?_) ⟨rfl,rfl,u⟩
 ·rintro ⟨rfl,rfl,ux⟩
  dsimp only
  refine Z5 (iL C B (by omega) (by omega) ?_)
  cases hb:aC (at' key (arrOf y) x) (at' key (arrOf y) (x - 1)) with
  | true=>exact Xs ⟨rfl,rfl,ux.more (by omega) hb⟩
  | false =>
   refine Z5 (iL C B (by omega) (by omega) ?_)
   rw [D'.or (by omega) (by omega) (by omega) hb]
   exact Xs (q x h1 (by omega) ux)
 ·rintro ⟨rfl,rfl,ux⟩
  rw [show max a n=n by omega] at ux ⊢
  exact q n han (Zk n) ux
theorem Bas.put {z:SortSt} (B:Bas key a0 z) {xs:Array Keyed} (p:xs.Perm (arrOf z)):Bas key a0 (setArr z xs):=⟨p.trans B.perm,B.kind,B.fail,B.pend⟩
theorem xJ {z:SortSt} {m n:Nat} {Q:Option Nat->SortSt->Prop} (C:Cmp prog w A s key a0) (B:Bas key a0 z) (D:Diff key a0) (hn:n<=a0.size) (hm:1<=m) (hmn:m<=n) (u:Down key (arrOf z) m)
  (q:∀ k y,Bas key a0 y->1<=k->k<=n->Up key (arrOf y) k->Q (some k) y):wpS (model prog w) A E s (tail3 m n) Q z:=by
 have sz:=B.perm.size_eq
 unfold tail3
 refine Z5 (wpS_reverse ?_)
 have B':Bas key a0 (setArr z (mirror (arrOf z) 0 m ((m - 0) / 2))):=B.put (mirror_perm _ _ _ _)
 have hz:m<=(arrOf z).size:=by omega
 refine Z5 (pU C B' D hn hm hmn (fun i j hij hj=>?_) fun k h1 h2 h3 _=>Xs (q k _ B' (by omega) h2 h3))
 show aC (KK (kT key) (mirror (arrOf z) 0 m ((m - 0) / 2)) i) (KK (kT key) (mirror (arrOf z) 0 m ((m - 0) / 2)) j)=true
 rw [KK_mirror hz,KK_mirror hz,Zd ⟨Xf _,by omega⟩,Zd ⟨Xf _,hj⟩]
 exact u _ _ (by omega) (by omega)
theorem Dw {z:SortSt} {n:Nat} {Q:Option Nat->SortSt->Prop} (C:Cmp prog w A s key a0) (B:Bas key a0 z) (D:Diff key a0) (hn:n<=a0.size) (h1:1<=n)
  (q:∀ k y,Bas key a0 y->1<=k->k<=n->Up key (arrOf y) k->Q (some k) y):wpS (model prog w) A E s (countRun' 0 n) Q z:=by
 rw [countRun0_eq]
 refine Z5 (pU C B D hn (Zk 1) h1 (fun i j a b=>by omega) fun m hm1 hm2 um hor=>?_)
 dsimp only
 by_cases e:m=n
 ·rw [Zd (by simpa using e)]; exact Xs (q m z B hm1 hm2 um)
 rw [Ze (by simpa using e)]
 have hlt:=hor.resolve_left e
 by_cases g:m > 1
 ·rw [Zd g]
  refine Z5 (iL C B (by omega) (by omega) ?_)
  rw [um 0 (m - 1) (by omega) (by omega)]
  exact Xs (q m z B hm1 hm2 um)
 ·rw [Ze g]
  obtain rfl:m=1:=by omega
  unfold descPart
  refine Z5 (wpS_lift (Wj ⟨rfl,Z5 ?_⟩))
  refine Ba C B D hn (by decide) (by omega) (fun i j a b=>?_) fun k k1 k2 k3=>?_
  ·obtain rfl:i=0:=by omega
   obtain rfl:j=1:=by omega
   exact hlt
  ·show wpS _ _ _ _ (tail3 k n) Q z
   exact xJ C B D hn (by omega) k2 k3 q
end
end TB

namespace TB
open PySem PyProof.Rows
section
variable {prog:WP} {w:WS} {A:WY} {E:WH} {s:WN} {a0:Array Keyed} {key:Value->List Int}
theorem Bv {z:SortSt} {k l:Nat} (hk:k < (arrOf z).size) (hl:l<=k) (u:Up key (arrOf z) k) (lo:∀ i,i < l->aC (at' key (arrOf z) i) (at' key (arrOf z) k)=true) (hi:∀ i,l<=i->i < k->aC (at' key (arrOf z) k) (at' key (arrOf z) i)=true) :
  Up key (bubble (arrOf z) k (k - l)) (k+1):=fun i j hij hj=>by
 show aC (KK (kT key) (bubble (arrOf z) k (k - l)) i) (KK (kT key) (bubble (arrOf z) k (k - l)) j)=true
 rw [KK_bubble hk (by omega),KK_bubble hk (by omega),show k - (k - l)=l by omega]
 have u:∀ i j,i < j->j < k->aC (KK (kT key) (arrOf z) i) (KK (kT key) (arrOf z) j)=true:=u
 have lo:∀ i,i < l->aC (KK (kT key) (arrOf z) i) (KK (kT key) (arrOf z) k)=true:=lo
 have hi:∀ i,l<=i->i < k->aC (KK (kT key) (arrOf z) k) (KK (kT key) (arrOf z) i)=true:=hi
 repeat' split
 all_goals first
  | (exfalso; omega)
  | exact lo _ (by omega)
  | exact hi _ (by omega) (by omega)
  | exact u _ _ (by omega) (by omega)
theorem Aq {z:SortSt} {n ok:Nat} {Q:Bool->SortSt->Prop} (C:Cmp prog w A s key a0) (B:Bas key a0 z) (D:Diff key a0) (hn:n<=a0.size) (hok:ok<=n) (u:Up key (arrOf z) ok)
  (q:∀ y,Bas key a0 y->Up key (arrOf y) n->Q true y):wpS (model prog w) A E s (binarySort' 0 n ok) Q z:=by
 rw [binarySort'_eq]; simp only [Xm]
 refine Z5 (wpS_mono (Q2 (fun x c y=>c=(none,())/\Bas key a0 y/\Up key (arrOf y) (min x n)) (Q:=fun c y=>c=(none,())/\Bas key a0 y/\Up key (arrOf y) n) (fun k c y h1 h2=>?_) (fun c y=>?_) ⟨rfl,B,fun i j a b=>?_⟩) fun c y=>?_)
 ·rintro ⟨rfl,By,uy⟩
  rw [show min k n=k by omega] at uy
  have sz:=By.perm.size_eq
  have Dy:=D.perm By.perm
  refine Z5 (wpS_mono (Q2 (fun x c y'=>y'=y/\∃ l r,c=(none,l,r)/\l<=r/\r<=k/\r - l<=k - x/\(∀ i,i < l->aC (at' key (arrOf y) i) (at' key (arrOf y) k)=true)/\∀ i,r<=i->i < k->aC (at' key (arrOf y) k) (at' key (arrOf y) i)=true)
   (Q:=fun c y'=>y'=y/\∃ l r,c=(none,l,r)/\l<=k/\(∀ i,i < l->aC (at' key (arrOf y) i) (at' key (arrOf y) k)=true)/\∀ i,l<=i->i < k->aC (at' key (arrOf y) k) (at' key (arrOf y) i)=true) (fun x c y' g1 g2=>?_) (fun c y'=>?_) ⟨rfl,0,k,rfl,by omega,by omega,by omega,fun i a=>by omega,fun i a b=>by omega⟩) fun c y'=>?_)
  ·rintro ⟨rfl,l,r,rfl,e1,e2,e3,e4,e5⟩
   dsimp only
   by_cases g:l ≥ r
   ·rw [Zd g]
    obtain rfl:l=r:=by omega
    exact Xs ⟨rfl,l,l,rfl,e2,e4,e5⟩
   rw [Ze g]
   refine Z5 (iL C By (by omega) (by omega) ?_)
   cases hb:aC (at' key (arrOf y') k) (at' key (arrOf y') ((l+r) / 2)) with
   | true =>
    refine Xs ⟨rfl,l,(l+r) / 2,rfl,by omega,by omega,by omega,e4,fun i a b=>?_⟩
    by_cases e:i=(l+r) / 2
    ·subst e; exact hb
    ·exact lex_trans _ _ _ hb (uy _ _ (by omega) b)
   | false =>
    have hb':=Dy.or (by omega) (by omega) (by omega) hb
    refine Xs ⟨rfl,(l+r) / 2+1,r,rfl,by omega,by omega,by omega,fun i a=>?_,e5⟩
    by_cases e:i=(l+r) / 2
    ·subst e; exact hb'
    ·exact lex_trans _ _ _ (uy i _ (by omega) (by omega)) hb'
  ·rintro ⟨rfl,l,r,rfl,e1,e2,e3,e4,e5⟩
   obtain rfl:l=r:=by omega
   exact ⟨rfl,l,l,rfl,e2,e4,e5⟩
  ·rintro ⟨rfl,l,r,rfl,e2,e4,e5⟩
   refine Z5 (show wpS _ _ _ _ (moveDown' k l) _ y' from ?_)
   rw [moveDown'_eq]
   refine wpS_modify (Xs ⟨rfl,By.put (bubble_perm _ _ _),?_⟩)
   rw [show min (k+1) n=k+1 by omega]
   exact Bv (by omega) e2 uy e4 e5
 ·rintro ⟨rfl,By,uy⟩
  rw [show min (max (max ok 1) n) n=n by omega] at uy
  exact ⟨rfl,By,uy⟩
 ·exact u i j a (by omega)
 ·rintro ⟨rfl,By,uy⟩
  exact Xs (q y By uy)
def Fin' (key:Value->List Int) (a0:Array Keyed) (z:SortSt):Prop:=(arrOf z).Perm a0/\failedOf z=none/\pendingOf z=#[(0,a0.size,0)]/\Up key (arrOf z) a0.size
theorem Bas.fin {z:SortSt} (B:Bas key a0 z) (u:Up key (arrOf z) a0.size):Fin' key a0 (setPending z ((pendingOf z).push (0,a0.size,0))):=⟨B.perm,B.fail,by show (pendingOf z).push _=_; rw [B.pend]; rfl,u⟩
theorem x_ {z:SortSt} {Q:Unit->SortSt->Prop} (C:Cmp prog w A s key a0) (B:Bas key a0 z) (D:Diff key a0) (h2:2<=a0.size) (h6:a0.size < 64) (q:∀ y,(arrOf y).Perm a0->failedOf y=none->Up key (arrOf y) a0.size->Q () y) :
  wpS (model prog w) A E s sortRuns' Q z:=by
 rw [sortRuns'_eq]
 refine Z5 (wpS_get ?_)
 dsimp only
 have hm:minRun' a0.size a0.size 0=a0.size:=by
  obtain ⟨f,e⟩:∃ f,a0.size=f+1:=⟨a0.size - 1,by omega⟩
  conv=>lhs; arg 1; rw [e]
  rw [minRun'_succ,Zd h6]; rfl
 simp only [B.perm.size_eq,hm]
 refine Z5 (wpS_mono (Q2 (fun x c y=>(x=0/\c=(none,0)/\Bas key a0 y)\/(1<=x/\c=(none,a0.size)/\Fin' key a0 y)) (Q:=fun c y=>c=(none,a0.size)/\Fin' key a0 y) (fun x c y _ h1=>?_) (fun c y=>?_) (.inl ⟨rfl,rfl,B⟩)) fun c y=>?_)
 ·have last:∀ y:SortSt,Bas key a0 y->Up key (arrOf y) a0.size->(pendingOf y).back?=none:=fun y By _=>by rw [By.pend]; rfl
  rintro (⟨rfl,rfl,By⟩|⟨_,rfl,Fy⟩)
  ·dsimp only
   rw [Ze (by omega)]; simp only [Nat.sub_zero,Nat.min_self,Xm]
   refine Z5 (Dw C By D (Zk _) (by omega) fun m y2 B2 m1 m2 u2=>?_)
   dsimp only
   by_cases e:m < a0.size
   ·rw [Zd e]
    refine Z5 (wpS_lift (Wj ⟨rfl,Z5 (Aq C B2 D (Zk _) m2 u2 fun y3 B3 u3=>?_)⟩))
    simp only [Qd,Zw,ZU]
    refine Z5 (wpS_get ?_); rw [last y3 B3 u3]
    exact Z5 (wpS_modify (Xs (.inr ⟨by omega,rfl,B3.fin u3⟩)))
   ·rw [Ze e]
    obtain rfl:m=a0.size:=by omega
    refine Z5 (wpS_get ?_); rw [last y2 B2 u2]
    exact Z5 (wpS_modify (Xs (.inr ⟨by omega,rfl,B2.fin u2⟩)))
  ·dsimp only
   rw [Zd (Zk _)]; exact Xs ⟨rfl,Fy⟩
 ·rintro (⟨h,_,_⟩|⟨_,h,Fy⟩)
  ·omega
  ·exact ⟨h,Fy⟩
 ·rintro ⟨rfl,Fy⟩
  dsimp only
  refine Z5 (wpS_mono (Q2 (fun _ c y'=>y'=y/\c=(none,())) (Q:=fun c y'=>y'=y/\c=(none,())) (fun x c y' _ _=>?_) (fun _ _ h=>h) ⟨rfl,rfl⟩) fun c y'=>?_)
  ·rintro ⟨rfl,rfl⟩
   refine Z5 (wpS_get ?_); rw [Zd (by rw [Fy.2.2.1]; exact Zk 1)]
   exact Xs ⟨rfl,rfl⟩
  ·rintro ⟨rfl,rfl⟩
   exact Xs (q _ Fy.1 Fy.2.1 Fy.2.2.2)
end
end TB

namespace TB
open PySem PyProof.Rows
section
variable {prog:WP} {w:WS} {A:WY} {E:WH} {s:WN} {key:Value->List Int}
theorem mO {vs:WM} {p:Keyed} (h:p∈(pairsOf vs).toList):p.2=p.1/\p.1∈vs:=by
 rw [pairsOf_toList] at h
 obtain ⟨i,hi⟩:=ZO h
 rw [List.getElem?_zip_eq_some] at hi
 exact ⟨Z0 (hi.2.symm.trans hi.1),ZA hi.1⟩
theorem Bh (vs:WM):(pairsOf vs).toList.map (·.2)=vs:=by
 rw [pairsOf_toList]
 exact List.map_snd_zip (Zk _)
theorem IM (vs:WM) (f:Value->List Int):(pairsOf vs).toList.map (fun p=>f p.1)=vs.map f:=by
 rw [pairsOf_toList,show (fun p:Value × Value=>f p.1)=f ∘ Prod.fst from rfl,<- ZX,List.map_fst_zip (Zk _)]
theorem qN {a:Addr} {vs:WM} {n:Nat} {P:Fin->Shared->Prop} (ho:s.heap.get? a=some (seqObj "list" vs.toArray n)) (hv:∀ v∈vs,∃ c,v=.ref c/\TK prog w s.heap (key v) c/\key v≠[]) (hd:(vs.map key).Nodup) (h6:vs.length < 64)
  (q:∀ out:List Value,out.Perm vs->(out.map key).Pairwise (fun x y=>aC x y=true)->P (.done (.ret .none)) { s with heap:=sortedHeap s.heap a vs out.toArray }):wpAny (model prog w) A (Builtin.«list.sort» ⟨[.ref a],[]⟩) P E s:=by
 have hal:a < s.heap.objs.size:=Zv ho
 rw [list_sort_plain]
 refine Za (QZ ho rfl (Za (listUpdate_at ho rfl ?_)))
 obtain ⟨e1,ho1⟩:∃ e1,(s.heap.update a (Obj.mapSeq fun _=>#[])).get? a=some (seqObj "list" #[] e1):=⟨_,get?_update_seq ho fun _=>#[]⟩
 refine Za (seqEpoch_at ho1 rfl (Za (wpAny_newTuple (Za (wpAny_newList (X1 ?_))))))
 have ot:∀ b o,b≠a->s.heap.get? b=some o->(((s.heap.update a (Obj.mapSeq fun _=>#[])).push (seqObj "tuple" vs.toArray 0)).push (seqObj "list" #[] 0)).get? b=some o:=fun b o hb e =>
  Zh _ (Zh _ ((QA _ _ (Ne.symm hb)).trans e))
 have ho6:(((s.heap.update a (Obj.mapSeq fun _=>#[])).push (seqObj "tuple" vs.toArray 0)).push (seqObj "list" #[] 0)).get? a=some (seqObj "list" #[] e1):=Zh _ (Zh _ ho1)
 have fin:∀ y:SortSt,(arrOf y).Perm (pairsOf vs)->Up key (arrOf y) (pairsOf vs).size->P (.done (.ret .none)) { s with heap:=sortedHeap s.heap a vs ((arrOf y).map (·.2)) }:=fun y py uy=>by
  have pl:=QR.mp py
  have h1:=q ((arrOf y).map (·.2)).toList (by rw [Array.toList_map]; exact (pl.map _).trans (by rw [Bh])) ?_
  ·rw [Array.toArray_toList] at h1; exact h1
  ·rw [Array.toList_map,ZX]
   refine WC.mpr (Qf.mpr fun i j hi hj hij=>?_)
   have hi2:i < (arrOf y).size:=by rw [ZG] at hi; exact hi
   have hj2:j < (arrOf y).size:=by rw [ZG] at hj; exact hj
   have m:∀ (k:Nat) (hk:k < (arrOf y).size),key (arrOf y)[k].2=at' key (arrOf y) k:=fun k hk=>by
    rw [iI (Zr hk),(mO (pl.mem_iff.mp (by simp))).1]
   have:=uy i j hij (by rw [<- py.size_eq]; exact hj2)
   show aC (key (arrOf y).toList[i].2) (key (arrOf y).toList[j].2)=true
   rw [XS,XS,m i hi2,m j hj2]
   exact this
 dsimp only
 have lin:∀ y:SortSt,(arrOf y).Perm (pairsOf vs)->((arrOf y).map (·.2)).size<=sizeLine+1:=fun y py=>by rw [Array.size_map,py.size_eq,pairsOf_size,XC]; omega
 by_cases h2:vs.toArray.size < 2
 ·rw [Zd h2,Zd h2]
  refine Za (Zf ?_); rw [StateT.run_pure]
  refine Za (Zf ?_)
  dsimp only
  refine Za (seqEpoch_at ho6 rfl (Za (listUpdate_at ho6 rfl ?_ (hsz2:=lin (SortSt.mk' general' (pairsOf vs) #[] 7 none) (Array.Perm.refl _)))))
  simp only [QD,Zw,ZU]
  refine Zf (fin (SortSt.mk' general' (pairsOf vs) #[] 7 none) (Array.Perm.refl _) fun i j hij hj=>?_)
  rw [pairsOf_size] at hj; rw [Zo] at h2; omega
 ·rw [Ze h2,Ze h2]
  have hne:vs≠[]:=fun z=>h2 (by rw [z]; decide)
  have hv6:∀ v∈vs,∃ c,v=.ref c/\TK prog w (((s.heap.update a (Obj.mapSeq fun _=>#[])).push (seqObj "tuple" vs.toArray 0)).push (seqObj "list" #[] 0)) (key v) c/\key v≠[]:=fun v m=>by
   obtain ⟨c,e,x,y⟩:=hv v m
   refine ⟨c,e,?_,y⟩
   obtain ⟨oc,its,k,x1,x2,x3⟩:=x
   refine ⟨oc,its,k,ot c oc (fun z=>?_) x1,x2,x3⟩
   rw [z,ho] at x1
   cases x1
   exact absurd (Value.type.inj (show Value.type "list" = .type "tuple" from x2)) (by decide)
  refine Za (IS hne (fun v m=>let ⟨c,e,x,y⟩:=hv6 v m; ⟨_,c,e,x,y⟩) ?_)
  have C:Cmp prog w A { s with heap:=((s.heap.update a (Obj.mapSeq fun _=>#[])).push (seqObj "tuple" vs.toArray 0)).push (seqObj "list" #[] 0) } key (pairsOf vs):=fun E x y Q mx my qq=>by
   obtain ⟨c,ex,kx,_⟩:=hv6 _ (mO mx).2
   obtain ⟨d,ey,ky,_⟩:=hv6 _ (mO my).2
   generalize x.1=vx at ex kx qq ⊢
   generalize y.1=vy at ey ky qq ⊢
   subst ex; subst ey
   exact AE kx ky qq
  have D:Diff key (pairsOf vs):=by unfold Diff; rw [IM]; exact hd
  refine Za (Xu (x_ (z:=SortSt.mk' (tuples' true) (pairsOf vs) #[] 7 none) (Q:=fun _ y=>(arrOf y).Perm (pairsOf vs)/\failedOf y=none/\Up key (arrOf y) (pairsOf vs).size) C ⟨Array.Perm.refl _,rfl,rfl,rfl⟩ D (by rw [pairsOf_size]; rw [Zo] at h2; omega) (by rw [pairsOf_size]; exact h6) fun y a1 a2 a3=>⟨a1,a2,a3⟩) ?_ fun _ _ e=>e)
  rintro ⟨⟨⟩,y⟩ z ⟨rfl,py,fy,uy⟩
  dsimp only
  refine Za (seqEpoch_at ho6 rfl (Za (listUpdate_at ho6 rfl ?_ (hsz2:=lin y py))))
  rw [fy]
  simp only [QD,Zw,ZU]
  exact Zf (fin y py uy)
end
end TB

namespace TB
open PySem PyProof.Rows
open Classical in
noncomputable def cI (prog:WP) (w:WS) (h:Heap):Value->List Int
 | .ref c=>if x:∃ ks,TK prog w h ks c then x.choose else []
 | _=>[]
section
variable {prog:WP} {w:WS} {A:WY} {E:WH} {s:WN}
open Classical in
theorem gz {h:Heap} {ks:WJ} {c:Addr} (x:TK prog w h ks c):cI prog w h (.ref c)=ks:=by
 have hx:∃ ks,TK prog w h ks c:=⟨ks,x⟩
 show (if x:∃ ks,TK prog w h ks c then x.choose else [])=ks
 rw [dif_pos hx]
 exact IsTupleKey.inj hx.choose_spec x
theorem pB {h:Heap}:∀ {l:W2} {L:WO},Els prog w h l L->(l.map (·.2)).map (cI prog w h)=L
 | _,_,.nil=>rfl
 | _,_,.cons ⟨_,b,e,x⟩ r=>by
  rw [ZC,ZC,pB r,e,gz x]
theorem p7 {h:Heap}:∀ {l:W2} {L:WO},Els prog w h l L->∀ v∈l.map (·.2),∃ c,v=.ref c/\TK prog w h (cI prog w h v) c/\cI prog w h v∈L
 | _,_,.nil,v,hv=>by cases hv
 | _,_,.cons ⟨_,b,e,x⟩ r,v,hv=>by
  rw [ZC] at hv
  rcases Zt.mp hv with z|z
  ·rw [e] at z
   subst z
   exact ⟨b,rfl,by rw [gz x]; exact x,by rw [gz x]; exact Zl⟩
  ·obtain ⟨c,e1,e2,e3⟩:=p7 r v z
   exact ⟨c,e1,e2,Zm _ e3⟩
def Cy (prog:WP) (w:WS) (h:Heap) (lim:Addr->Prop) (R:Addr) (ks:WO):Prop:=∃ out:List Value,∃ n,h.get? R=some (seqObj "list" out.toArray n)/\out.length=ks.length/\∀ (i:Nat) v k,out[i]?=some v->ks[i]?=some k->∃ c,v=.ref c/\c≠R/\lim c/\TK prog w h k c
theorem BF {S:Addr} {lim:Addr->Prop} {L:WO} {Q:WH} (hh:A.handled=none) (x:cL prog w lim s.heap S L) (hne:∀ ks∈L,ks≠[])
  (q:∀ h' tk R ks,s.heap.objs.size<=R->Cy prog w h' lim R ks->ks.Pairwise (fun a b=>aC a b=true)->(∀ y,y∈ks ↔ y∈L)->(∀ b o,b < s.heap.objs.size->s.heap.get? b=some o->h'.get? b=some o)->Q (.ref R) { s with heap:=h',toks:=tk }) :
  wpAny (model prog w) A (call (.builtin "sorted") [.ref S]) Q E s:=by
 obtain ⟨o,es,ep,t,ho,hex,hd,g,⟨hp,hl⟩,hsz,hels,hnd,hlim⟩:=x
 have hfit:es.size<=t.mask:=by rcases g.msk with z|z <;> omega
 have X:Fix w o es ep t:=⟨hd,g,hp,hl,hfit⟩
 obtain ⟨L1,x1,y1⟩:=Els.perm (mz w S ep es) hels
 refine Calls.call_function_entry kind_sorted plain_sorted entry_sorted (args_sorted1 _) ?_
 unfold Builtin.«sorted»
 refine Za (m:=checkCount "sorted" 1 1 _) (Zf ?_)
 refine Za (z9 (by simpa using hh) ho hex X fun h1 tk hle k1=>?_)
 have hlen:(b_ w S ep es).toList.length=es.size:=by rw [ZG,ji]
 have he18:es.size<=18:=by rcases g.msk with z|z <;> omega
 generalize hvs:(b_ w S ep es).toList.map (·.2)=vs
 have hvl:vs.length=es.size:=by rw [<- hvs,Zb,hlen]
 have hkeys:vs.map (cI prog w s.heap)=L1:=by rw [<- hvs]; exact pB x1
 have hvals:∀ v∈vs,∃ c,v=.ref c/\TK prog w s.heap (cI prog w s.heap v) c/\cI prog w s.heap v∈L1:=by rw [<- hvs]; exact p7 x1
 have up:∀ {ks:WJ} {c:Addr},TK prog w s.heap ks c->TK prog w h1 ks c/\c < s.heap.objs.size:=fun {ks c} z=>by
  obtain ⟨oc,its,m,z1,z2⟩:=z
  exact ⟨⟨oc,its,m,k1 c oc (Zv z1) z1,z2⟩,Zv z1⟩
 refine Za (wpAny_newList ?_)
 have gR:(h1.push (seqObj "list" vs.toArray 0)).get? h1.objs.size=some (seqObj "list" vs.toArray 0):=Zx _ rfl
 refine Za (X1 (ZZ slot_list_sort ⟨_,gR,rfl⟩ entry_list_sort (qN (s:={ s with heap:=h1.push (seqObj "list" vs.toArray 0),toks:=tk }) (key:=cI prog w s.heap) gR (fun v m=>?_) (by rw [hkeys]; exact y1.nodup_iff.mpr hnd) (by omega) fun out po so=>⟨_,rfl,?_⟩) (args_list_sort _)))
 ·obtain ⟨c,e,z,m2⟩:=hvals v m
  refine ⟨c,e,fm (up z).1 fun oc e=>Zh _ e,hne _ (y1.mem_iff.mp m2)⟩
 ·refine Zf ⟨_,rfl,?_⟩
  have old:∀ b o,b < s.heap.objs.size->s.heap.get? b=some o->(sortedHeap (h1.push (seqObj "list" vs.toArray 0)) h1.objs.size vs out.toArray).get? b=some o:=fun b o hb e =>
   (sortedHeap_old (ZI (QG hb hle)) (by rw [Xq]; exact XY (QG hb hle))).trans (Zh _ (k1 b o hb e))
  obtain ⟨n,hn⟩:=sortedHeap_at (vs:=vs) (out:=out.toArray) gR
  refine q _ tk h1.objs.size (out.map (cI prog w s.heap)) (Qj hle) ⟨out,n,hn,(Zb _).symm,fun i v k e1 e2=>?_⟩ so (fun y=>?_) old
  ·rw [ZK,e1] at e2
   have mv:=po.mem_iff.mp (ZA e1)
   obtain ⟨c,e,z,_⟩:=hvals v mv
   have hc:lim c:=by
    rw [<- hvs] at mv
    obtain ⟨en,m1,m2⟩:=Zy.mp mv
    exact hlim en ((mz w S ep es).mem_iff.mp m1) c (m2.trans e)
   have e3:cI prog w s.heap v=k:=Z0 e2
   rw [e3] at z
   exact ⟨c,e,ZI (QG (up z).2 hle),hc,fm z fun oc e=>old c oc (Zv e) e⟩
  ·rw [(po.map _).mem_iff,hkeys]
   exact y1.mem_iff
end
end TB

namespace TB
open PySem PyProof.Rows
section
variable {prog:WP} {w:WS} {A:WY} {E:WH} {s:WN} {l:Addr} {vs:WM} {T:String}
def Sq2 (h:Heap) (l:Addr) (vs:WM):Prop:=∃ T o n,(T = "list"\/T = "tuple")/\h.get? l=some o/\o.cls=.type T/\o.data=.seq vs.toArray n
noncomputable def gM (h:Heap) (vs:WM):Heap:=(h.push (seqObj "list" #[] 0)).update h.objs.size (Obj.mapSeq (·++vs.toArray))
noncomputable def jY (h:Heap) (vs:WM):Heap:=(gM h vs).push (seqObj "list" vs.toArray 0)
theorem gather {Q:List Value->Shared->Prop} (x:Sq2 s.heap l vs) (hz:vs.length<=sizeLine) (q:Q vs { s with heap:=gM s.heap vs }):wpAny (model prog w) A (collect (.ref l)) Q E s:=by
 obtain ⟨T,o,n,hT,e1,e2,e3⟩:=x
 unfold collect
 apply Za; apply wpAny_runValue; apply Xv entry_proto_collect'
 show wpAny _ _ (do again (.builtin "list.__iadd__" ⟨[<- newList [],.ref l],[]⟩)) _ _ s
 apply Za; refine wpAny_newList ?_ (Xf _); apply Zf
 refine ⟨Code.quiet_builtin _ (by decide +kernel),?_⟩
 apply Xv entry_list_iadd'
 show wpAny _ _ (Builtin.List.listExtendWith (.ref s.heap.objs.size) (.ref l) (.ref s.heap.objs.size)) _ _ { s with heap:=s.heap.push (seqObj "list" #[] 0) }
 unfold Builtin.List.listExtendWith
 have e4:(s.heap.push (seqObj "list" #[] 0)).get? l=some o:=Zh _ e1
 have e5:(s.heap.push (seqObj "list" #[] 0)).get? s.heap.objs.size=some (seqObj "list" #[] 0):=Zx _ rfl
 refine Za (wpAny_typeOf (T:=T) ⟨o,e4,e2⟩ ?_)
 have e7:∀ b:Bool,(b||Value.type T==Value.type "list"||Value.type T==Value.type "tuple")=true:=fun b=>by
  rcases hT with rfl|rfl
  ·rw [show (Value.type "list"==Value.type "list")=true from rfl,Bool.or_true,Bool.true_or]
  ·rw [show (Value.type "tuple"==Value.type "tuple")=true from rfl,Bool.or_true]
 rw [Zd (e7 _)]
 refine Za (QZ e4 e3 ?_)
 refine Za (QZ e5 rfl ?_)
 rw [Ze (by simp)]
 refine Za (listUpdate_at e5 rfl ?_ (Xf _) ?_)
 ·refine Zf ?_
  show wpAny (model prog w) A (do
    let o <- load s.heap.objs.size
    match o.data with
    | .seq xs _=>pure xs.toList
    | _=>unsupported "internal:collect") Q E { s with heap:=gM s.heap vs }
  refine Za (wpAny_load (get?_update_seq e5 _) ?_)
  show wpAny _ _ (pure ((#[]:Array Value)++vs.toArray).toList) Q E _
  have e6:((#[]:Array Value)++vs.toArray).toList=vs:=by simp
  rw [e6]
  exact Zf q
 ·show (#[]++vs.toArray).size<=sizeLine+1
  simp only [Array.size_append,Zo,XH]
  omega
theorem vH (h:Heap) (vs:WM):(gM h vs).objs.size=h.objs.size+1:=by unfold gM; rw [Heap.size_update,size_push']
theorem ou (h:Heap) (vs:WM):(jY h vs).get? (h.objs.size+1)=some (seqObj "list" vs.toArray 0):=by rw [<- vH h vs]; exact Zx _ rfl
theorem zX {h:Heap} {vs:WM} {b:Addr} {o:Obj} (e:h.get? b=some o):(jY h vs).get? b=some o:=by
 have hb:b≠h.objs.size:=ZI (Zv e)
 refine Zh _ ?_
 unfold gM
 rw [Heap.get?_update_ne _ _ _ _ hb]
 exact Zh _ e
theorem qu {R:List Value->Prop} {Q:WH} (x:Sq2 s.heap l vs) (hz:vs.length<=sizeLine)
  (k:∀ (A':WY) (E':WH) (P:Fin->Shared->Prop),(∀ out:List Value,R out->P (.done (.ret .none)) { s with heap:=sortedAll s.heap vs out.toArray })->wpAny (model prog w) A' (Builtin.«list.sort» ⟨[.ref (s.heap.objs.size+1)],[]⟩) P E' { s with heap:=jY s.heap vs })
  (q:∀ out:List Value,R out->Q (.ref (s.heap.objs.size+1)) { s with heap:=sortedAll s.heap vs out.toArray }):wpAny (model prog w) A (call (.builtin "sorted") [.ref l]) Q E s:=by
 apply Calls.call_function_entry kind_sorted plain_sorted entry_sorted (args_sorted1 _)
 unfold Builtin.«sorted»
 apply Za (m:=checkCount "sorted" 1 1 _); apply Zf
 refine Za (gather x hz ?_)
 apply Za; refine wpAny_newList ?_ hz
 show wpAny _ _ _ _ _ { s with heap:=jY s.heap vs }
 rw [vH]
 refine Za (X1 (ZZ slot_list_sort ⟨_,ou _ _,rfl⟩ entry_list_sort (k _ _ _ fun out ro=>⟨_,rfl,?_⟩) (args_list_sort _)))
 exact Zf ⟨_,rfl,q out ro⟩
theorem yR {ns:WJ} {Q:WH} (x:Sq2 s.heap l vs) (hI:IntsAre vs ns) (h6:vs.length < 64)
  (q:∀ (out:WM) (ns':WJ),IntsAre out ns'->ns'.Perm ns->ns'.Pairwise (·<=·)->Q (.ref (s.heap.objs.size+1)) { s with heap:=sortedAll s.heap vs out.toArray }):wpAny (model prog w) A (call (.builtin "sorted") [.ref l]) Q E s :=
 qu (R:=fun out=>∃ ns',IntsAre out ns'/\ns'.Perm ns/\ns'.Pairwise (·<=·)) x (by rw [XC]; omega)
  (fun A' E' P h=>list_sort_tree (ou _ _) hI h6 fun out ns' a1 a2 a3=>h out.toList ⟨ns',a1,a2,a3⟩)
  fun out ⟨ns',a1,a2,a3⟩=>q out ns' a1 a2 a3
theorem G0 {key:Value->List Int} {Q:WH} (x:Sq2 s.heap l vs) (hv:∀ v∈vs,∃ c,v=.ref c/\TK prog w s.heap (key v) c/\key v≠[]) (hd:(vs.map key).Nodup) (h6:vs.length < 64)
  (q:∀ out:List Value,out.Perm vs->(out.map key).Pairwise (fun x y=>aC x y=true)->Q (.ref (s.heap.objs.size+1)) { s with heap:=sortedAll s.heap vs out.toArray }):wpAny (model prog w) A (call (.builtin "sorted") [.ref l]) Q E s :=
 qu (R:=fun out=>out.Perm vs/\(out.map key).Pairwise (fun x y=>aC x y=true)) x (by rw [XC]; omega)
  (fun A' E' P h=>qN (ou _ _) (fun v m=>let ⟨c,e,t,n⟩:=hv v m; ⟨c,e,fm t fun oc e=>zX e,n⟩) hd h6 fun out a1 a2=>h out ⟨a1,a2⟩)
  fun out ⟨a1,a2⟩=>q out a1 a2
end
end TB

namespace ENM
open PySem PyProof.Rows
open AutoSeq1 (wpAny_loadPart')
section
variable {prog:WP} {w:WS} {A:WY} {E:WH} {s:WN}
variable {ta tb:Bool} {c pI pO i j a b:Addr} {m n:Nat} {us vs:WV} {u v old1 old2:W9}
end
end ENM
namespace L2
open PySem PySem.Spec PyProof.Rows ENM
section
variable {X:Cx}
end
end L2

namespace L2
open PySem PySem.Spec PyProof.Rows
def bI (h:Heap) (d:Addr) (es:W8) (ep:Nat):Prop:=∃ o,h.get? d=some o/\o.ExactDict/\o.data=.dict es ep
section
variable {prog:WP} {w:WS} {A:WY} {E:WH} {s:WN} {d it:Addr} {es:W8} {ep i:Nat}
theorem bI.typeIs (x:bI s.heap d es ep):s.TypeIs (.ref d) "dict":=by
 obtain ⟨o,ho,hx,_⟩:=x
 exact ⟨o,ho,hx.1⟩
theorem yZ {Q:WH} (hd:(d==sysModules)=false) (hm:bI s.heap d es ep)
  (hQ:Q (.ref s.heap.objs.size) { s with heap:=s.heap.push { cls:=.type "dict_keyiterator",data:=.fields #[.ref d,.int 0 0,.int es.size 0,.int ep 0] } }):wpAny (model prog w) A (pyIter (.ref d)) Q E s:=by
 have hT:=hm.typeIs
 obtain ⟨o,ho,hx,hdat⟩:=hm
 refine Wb hT F.slot_dict_iter (ZZ F.slot_dict_iter hT F.entry_dict_iter ?_ (F.args_dict_iter_1 _))
 have hs:Builtin.Dict.showsAll d=pure ():=by unfold Builtin.Dict.showsAll; rw [Ze (by rw [hd]; exact Zz)]
 refine Za (Za (wpAny_notOrdered_dict hT (Zf ?_)))
 show wpAny _ _ (Builtin.Dict.showsAll d>>=_) _ _ s
 rw [hs]
 refine Za (Zf (Za (wpAny_dictEntries ho hdat (Za (wpAny_dictEpoch ho hdat ?_)))))
 exact Za (Xb (Zf ⟨_,rfl,"dict_keyiterator",_,⟨_,Zx _ rfl,rfl⟩,F.slot_dict_keyiterator_next.lookup,hQ⟩))
open PySem.W (Looks)
theorem q_ {M:Model} {h:Heap} {a:Addr} {o:Obj} {vs:WV} (ho:h.get? a=some o) (hd:o.data=.fields vs):Looks M h (fieldsOf (.ref a)) vs:=fun A Q E s k q=>wpAny_fieldsOf (k _ _ ho) hd q
theorem vE {M:Model} {h:Heap} (x:bI h d es ep):Looks M h (dictEntries d) es:=fun A Q E s k q=>let ⟨o,ho,_,hd⟩:=x; wpAny_dictEntries (k _ _ ho) hd q
theorem uJ {M:Model} {h:Heap} (x:bI h d es ep):Looks M h (dictEpoch d) ep:=fun A Q E s k q=>let ⟨o,ho,_,hd⟩:=x; wpAny_dictEpoch (k _ _ ho) hd q
theorem v7 {nm:String} {A':WY} {R:Fin->Shared->Prop} {E':WH} {x:W9} (o:Obj) (ho:s.heap.get? it=some o) (hd:o.data=.fields #[.ref d,.int i 0,.int es.size 0,.int ep 0]) (hm:bI s.heap d es ep) (hi:i < es.size)
  (hB:nm = "dict_keyiterator"/\x=es[i].key\/nm = "dict_valueiterator"/\x=es[i].val)
  (LN:∀ h':Heap,(∃ o',h'.get? it=some o'/\o'.cls=o.cls)->Looks (model prog w) h' (typeNameOfWhole (.ref it)) nm)
  (LO:∀ (h':Heap) (types:List String),(∃ o',h'.get? it=some o'/\o'.cls=o.cls)->Looks (model prog w) h' (Builtin.Dict_items.isOneOf (.ref it) types) (types.any fun t=>[Value.type nm,Value.type "object"].contains (.type t)))
  (hQ:R (.done (.ret x)) { s with heap:=s.heap.update it (Obj.mapFields (·.setIfInBounds 1 (rawInt ((i:Int)+1)))) }) :
  (nm = "dict_keyiterator"->wpAny (model prog w) A' (Builtin.«dict_keyiterator.__next__» ⟨[.ref it],[]⟩) R E' s)/\(nm = "dict_valueiterator"->wpAny (model prog w) A' (Builtin.«dict_valueiterator.__next__» ⟨[.ref it],[]⟩) R E' s):=by
 have L1:=q_ (M:=model prog w) ho hd
 have L2:=vE (M:=model prog w) hm
 have L3:=uJ (M:=model prog w) hm
 have L4:=LN s.heap ⟨o,ho,rfl⟩
 have L5:=fun ty=>LO s.heap ty ⟨o,ho,rfl⟩
 have L6:=fun ty=>LO (s.heap.update it (Obj.mapFields (·.setIfInBounds 1 (rawInt ((i:Int)+1))))) ty ⟨_,Xi _ ho (QI (XQ hd _)),Wa ..⟩
 obtain ⟨h0,g,dr,tk,os⟩:=s
 have h0':¬ ((i:Int) < 0):=by omega
 refine ⟨fun hn=>?_,fun hn=>?_⟩ <;> subst hn
 all_goals
  refine Za (Zf (Za (Za (Za (L4.at (Zf (Za (L1.at ?_))))))))
  simp only [show Builtin.Dict_items.ownsTuple "dict_keyiterator" = false from by decide,show Builtin.Dict_items.ownsTuple "dict_valueiterator" = false from by decide,Zw,ZU]
  show wpAny _ _ (if (Value.ref d==Value.none)=true then _ else _) _ _ _
  rw [Ze (show ¬ ((Value.ref d==Value.none)=true) from Zz)]
  refine Za (Zf (Za (L2.at ?_)))
  rw [Ze (by simp)]
  refine Za (Zf (Za (L3.at ?_)))
  rw [Ze (by simp)]
  refine Zf ?_
  simp only [h0',ZU,Z9,Zr hi]
  refine Za (Za (L4.at (Zf (Za ((L5 _).at ?_)))))
  refine Za (Qi ho hd (by simp [show Builtin.Dict_items.ownsTuple "dict_keyiterator" = false from by decide,show Builtin.Dict_items.ownsTuple "dict_valueiterator" = false from by decide]) ?_)
  refine Za (X1 ?_)
  rcases hB with ⟨hb,rfl⟩|⟨hb,rfl⟩
  all_goals first|exact absurd hb (by decide)|exact Za ((L6 _).at (Zf (Zf hQ)))|exact Za ((L6 _).at (Za ((L6 _).at (Zf (Zf hQ)))))
theorem rT {nm:String} {A':WY} {R:Fin->Shared->Prop} {E':WH} (hh:A'.handled=none) (o:Obj) (ho:s.heap.get? it=some o) (hd:o.data=.fields #[.ref d,.int i 0,.int es.size 0,.int ep 0]) (hm:bI s.heap d es ep) (hi:es.size<=i)
  (LN:Looks (model prog w) s.heap (typeNameOfWhole (.ref it)) nm)
  (hQ:∀ e h',Heap.ExtBut it s.heap h'->({ s with heap:=h' }:Shared).TypeIs e "StopIteration"->E' e { s with heap:=h' }) :
  (nm = "dict_keyiterator"->wpAny (model prog w) A' (Builtin.«dict_keyiterator.__next__» ⟨[.ref it],[]⟩) R E' s)/\(nm = "dict_valueiterator"->wpAny (model prog w) A' (Builtin.«dict_valueiterator.__next__» ⟨[.ref it],[]⟩) R E' s):=by
 have L1:=q_ (M:=model prog w) ho hd
 have L2:=vE (M:=model prog w) hm
 have L3:=uJ (M:=model prog w) hm
 obtain ⟨h0,g,dr,tk,os⟩:=s
 have h0':¬ ((i:Int) < 0):=by omega
 refine ⟨fun hn=>?_,fun hn=>?_⟩ <;> subst hn
 all_goals
  refine Za (Zf (Za (Za (Za (LN.at (Zf (Za (L1.at ?_))))))))
  simp only [show Builtin.Dict_items.ownsTuple "dict_keyiterator" = false from by decide,show Builtin.Dict_items.ownsTuple "dict_valueiterator" = false from by decide,Zw,ZU]
  show wpAny _ _ (if (Value.ref d==Value.none)=true then _ else _) _ _ _
  rw [Ze (show ¬ ((Value.ref d==Value.none)=true) from Zz)]
  refine Za (Zf (Za (L2.at ?_)))
  rw [Ze (by simp)]
  refine Za (Zf (Za (L3.at ?_)))
  rw [Ze (by simp)]
  refine Zf ?_
  simp only [h0',ZU,Z9,X6 hi]
  refine Za (Za (LN.at (Zf ?_)))
  refine Za (Qi ho hd (by simp [show Builtin.Dict_items.ownsTuple "dict_keyiterator" = false from by decide,show Builtin.Dict_items.ownsTuple "dict_valueiterator" = false from by decide]) ?_)
  refine Za ?_
  simp only [newExc,newTuple]
  refine Za (Xb ?_ (by size_fits))
  refine Za (m:=firstArgMember _ _) (Qg (a:=Value.none) (by first|rfl|(simp only [firstArgMember]; rfl)) ?_)
  refine Xb ?_ (by size_fits)
  simp only [raiseNew]
  refine Za (wpAny_handled ?_)
  rw [hh]
  exact Za (Zf (wpAny_throw (hQ (.ref _) _ (((Xh ..).extBut.push _).push _) ⟨_,Zx _ rfl,rfl⟩)))
theorem Bu {Q:W3} (hit:s.heap.IsKeyIter it d i es.size ep) (hm:bI s.heap d es ep) (hi:i < es.size)
  (hQ:∀ h',h'.IsKeyIter it d (i+1) es.size ep->Heap.SameBut it s.heap h'->Q (some es[i].key) { s with heap:=h' }):wpAny (model prog w) A (pyNext (.ref it)) Q E s:=by
 obtain ⟨o,ho,hc,hd⟩:=id hit
 unfold pyNext
 refine Za (X0 (Z6 (name:=Str.ofString "__next__") hit.typeIs X5
  (ZZ X5 hit.typeIs F.entry_dict_keyiterator_next ?_ (F.args_dict_keyiterator_next_1 _))))
 refine (v7 (nm:="dict_keyiterator") o ho hd hm hi (.inl ⟨rfl,rfl⟩) (fun h' ⟨o',g1,g2⟩ A Q E s k q=>wpAny_typeNameOfWhole_keyiter ⟨o',k _ _ g1,g2.trans hc⟩ q) (fun h' ty ⟨o',g1,g2⟩ A Q E s k q=>wpAny_isOneOf_keyiter ⟨o',k _ _ g1,g2.trans hc⟩ q) ?_).1 rfl
 exact ⟨_,rfl,Zf (hQ _ ⟨_,Xi _ ho (QI (XQ hd _)),(Wa ..).trans hc,by rw [XQ hd]; simp [rawInt]⟩ (Xh ..))⟩
theorem CM {Q:W3} (hh:A.handled=none) (hit:s.heap.IsKeyIter it d i es.size ep) (hm:bI s.heap d es ep) (hi:es.size<=i)
  (hQ:∀ h',Heap.ExtBut it s.heap h'->Q none { s with heap:=h' }):wpAny (model prog w) A (pyNext (.ref it)) Q E s:=by
 obtain ⟨o,ho,hc,hd⟩:=id hit
 unfold pyNext
 refine Za (X0 (Z6 (name:=Str.ofString "__next__") hit.typeIs X5
  (ZZ X5 hit.typeIs F.entry_dict_keyiterator_next ?_ (F.args_dict_keyiterator_next_1 _))))
 refine (rT (nm:="dict_keyiterator") (show A.in1.handled=none from hh) o ho hd hm hi (fun A Q E s k q=>wpAny_typeNameOfWhole_keyiter ⟨o,k _ _ ho,hc⟩ q) fun e h' eb ht=>?_).1 rfl
 refine Za (QL (T:="StopIteration") (b:=true) ht Wu ?_)
 exact Zf (hQ _ eb)
theorem yF {Q:W3} (hit:s.heap.IsValIter it d i es.size ep) (hm:bI s.heap d es ep) (hi:i < es.size)
  (hQ:∀ h',h'.IsValIter it d (i+1) es.size ep->Heap.SameBut it s.heap h'->Q (some es[i].val) { s with heap:=h' }):wpAny (model prog w) A (pyNext (.ref it)) Q E s:=by
 obtain ⟨o,ho,hc,hd⟩:=id hit
 unfold pyNext
 refine Za (X0 (Z6 (name:=Str.ofString "__next__") hit.typeIs XT
  (ZZ XT hit.typeIs F.entry_dict_valueiterator_next ?_ (F.args_dict_valueiterator_next_1 _))))
 refine (v7 (nm:="dict_valueiterator") o ho hd hm hi (.inr ⟨rfl,rfl⟩) (fun h' ⟨o',g1,g2⟩ A Q E s k q=>wpAny_typeNameOfWhole_valiter ⟨o',k _ _ g1,g2.trans hc⟩ q) (fun h' ty ⟨o',g1,g2⟩ A Q E s k q=>wpAny_isOneOf_valiter ⟨o',k _ _ g1,g2.trans hc⟩ q) ?_).2 rfl
 exact ⟨_,rfl,Zf (hQ _ ⟨_,Xi _ ho (QI (XQ hd _)),(Wa ..).trans hc,by rw [XQ hd]; simp [rawInt]⟩ (Xh ..))⟩
theorem Ai {Q:W3} (hh:A.handled=none) (hit:s.heap.IsValIter it d i es.size ep) (hm:bI s.heap d es ep) (hi:es.size<=i)
  (hQ:∀ h',Heap.ExtBut it s.heap h'->Q none { s with heap:=h' }):wpAny (model prog w) A (pyNext (.ref it)) Q E s:=by
 obtain ⟨o,ho,hc,hd⟩:=id hit
 unfold pyNext
 refine Za (X0 (Z6 (name:=Str.ofString "__next__") hit.typeIs XT
  (ZZ XT hit.typeIs F.entry_dict_valueiterator_next ?_ (F.args_dict_valueiterator_next_1 _))))
 refine (rT (nm:="dict_valueiterator") (show A.in1.handled=none from hh) o ho hd hm hi (fun A Q E s k q=>wpAny_typeNameOfWhole_valiter ⟨o,k _ _ ho,hc⟩ q) fun e h' eb ht=>?_).2 rfl
 refine Za (QL (T:="StopIteration") (b:=true) ht Wu ?_)
 exact Zf (hQ _ eb)
theorem DH {v:Addr} {Q:WH} (hv:s.heap.IsValuesView v d) (hm:bI s.heap d es ep)
  (hQ:Q (.ref s.heap.objs.size) { s with heap:=s.heap.push { cls:=.type "dict_valueiterator",data:=.fields #[.ref d,.int 0 0,.int es.size 0,.int ep 0] } }):wpAny (model prog w) A (pyIter (.ref v)) Q E s:=by
 obtain ⟨ov,hov,hcv,hdv⟩:=id hv
 obtain ⟨o,ho,hx,hdat⟩:=hm
 refine Wb hv.typeIs F.slot_dict_values_iter (ZZ F.slot_dict_values_iter hv.typeIs F.entry_dict_values_iter ?_ (F.args_dict_values_iter_1 _))
 refine Za (Zf (Za (Za (XR hov hdv (x:=.ref d) rfl (Zf ?_)))))
 refine Za (Za (wpAny_dictEntries ho hdat (Za (wpAny_dictEpoch ho hdat ?_))))
 simp only [show Builtin.Dict_items.ownsTuple "dict_valueiterator" = false from by decide,Zw,ZU]
 exact Xb (Zf ⟨_,rfl,"dict_valueiterator",_,⟨_,Zx _ rfl,rfl⟩,F.slot_dict_valueiterator_next.lookup,hQ⟩)
end
end L2

namespace L2
open PySem PySem.Spec PyProof.Rows
theorem tT {α β:Type} {R:α->β->Prop}:∀ {as:List α} {bs:List β} {i:Nat} {a:α},Paired R as bs->as[i]?=some a->∃ b,bs[i]?=some b/\R a b
 | _,_,_,_,.nil,e=>by simp at e
 | _,_,0,_,.cons r _,e=>by simp at e; subst e; exact ⟨_,rfl,r⟩
 | _,_,i+1,a,.cons _ t,e=>by
  obtain ⟨b,h1,h2⟩:=tT (i:=i) (a:=a) t (by simpa using e)
  exact ⟨b,by simpa using h1,h2⟩
section
variable {X:Cx} {pins:WI} {σ:St} {H:Hp} {s:WN} {a:Addr} {xs:Yb}
theorem jV {P:WP} {w:WS} {h:Heap} (ok:aW P w H h a (.dT xs)):xs.length<=sizeLine/\(a==sysModules)=false/\∃ ys o es ep,KT H xs ys/\h.get? a=some o/\o.ExactDict/\o.data=.dict es ep/\es.toList=ys.map (entryOfKey (tupleKind (bK P w))):=by
 obtain ⟨z,y,ys,r,o,es,ep,h1,h2,h3,h4,_⟩:=ok
 exact ⟨z,y,ys,o,es,ep,r,h1,h2,h3,h4⟩
theorem kP {P:WP} {w:WS} {ys:List (List Key × Addr × Value)} {es:W8} (r:KT H xs ys) (e:es.toList=ys.map (entryOfKey (tupleKind (bK P w)))):es.size=xs.length:=by
 rw [<- ZG,e,Zb]; exact (Wf r).symm
theorem qB {P:WP} {w:WS} {ys:List (List Key × Addr × Value)} {es:W8} (r:KT H xs ys) (e:es.toList=ys.map (entryOfKey (tupleKind (bK P w)))) {i:Nat} (hi:i < es.size) :
  ∃ k v b u,xs[i]?=some (k,v)/\H b=some (.tup (k.map kV))/\RelV v u/\es[i].key=.ref b/\es[i].val=u:=by
 have hi':i < xs.length:=by rw [<- kP r e]; exact hi
 obtain ⟨q,hq,h1,h2,h3⟩:=tT r (Zc hi')
 have he:es.toList[i]?=some (entryOfKey (tupleKind (bK P w)) q):=by rw [e,ZK,hq]; rfl
 have he2:es[i]=entryOfKey (tupleKind (bK P w)) q:=by
  rw [ZR,Zr hi] at he
  exact Z0 he
 exact ⟨xs[i].1,xs[i].2,q.2.1,q.2.2,Zc hi',h2,h3,by rw [he2]; rfl,by rw [he2]; rfl⟩
noncomputable def Itd (o:Obj) (a:Addr) (xs:Yb):It :=
 ⟨fun i H=>i < xs.length/\H a=some (.frz o (.dT xs)),fun i H x H'=>H'=H/\∃ k v b,xs[i]?=some (k,v)/\x=.ref b/\H b=some (.tup (k.map kV)),fun i H=>xs.length<=i/\H a=some (.frz o (.dT xs))⟩
theorem qj {P:WP} {w:WS} {h:Heap} {o:Obj} {es:W8} {ep:Nat} (ok:HOk P w H h) (e:H a=some (.frz o (.dT xs))) (hx:o.ExactDict) (hd:o.data=.dict es ep):bI h a es ep/\∃ ys,KT H xs ys/\es.toList=ys.map (entryOfKey (tupleKind (bK P w))):=by
 obtain ⟨g1,g2⟩:=(show h.get? a=some o/\aW P w H h a (.dT xs) from ok a _ e)
 obtain ⟨_,_,ys,o',es',ep',r,h1,h2,h3,h4⟩:=jV g2
 rw [g1] at h1; cases h1
 rw [hd] at h3; cases h3
 exact ⟨⟨o,g1,hx,hd⟩,ys,r,h4⟩
theorem zq {P:WP} {w:WS} {K:WL} {tg:Expr} (a it:Addr) (xs:Yb) {o:Obj} {es:W8} {ep:Nat} (hx:o.ExactDict) (hd:o.data=.dict es ep):Turn P w K tg (Itd o a xs) [it] it (fun i h=>h.IsKeyIter it a i es.size ep) where
 mem:=by simp
 obj:=fun i h st b hb=>by
  have e:b=it:=by simpa using hb
  subst e
  obtain ⟨o,e,c,d⟩:=st
  exact ⟨o,e,fun v z=>by rw [d] at z; cases z⟩
 keep:=fun i h h' st k=>st.at fun o e=>k it (by simp) o e
 item:=by
  intro X hP hw hK hc i pins s σ H E I hf st hg
  subst hP hw hK
  obtain ⟨hi,hq⟩:=hg
  obtain ⟨rd,ys,r,he⟩:=qj I.hok hq hx hd
  have hi':i < es.size:=by rw [kP r he]; exact hi
  obtain ⟨k,v,b,u,g1,g2,g3,g4,g5⟩:=qB r he hi'
  obtain ⟨f0,f1,f2,f3,f4,f5⟩:=hf it (by simp)
  refine Bu st rd hi' fun h' st' sb=>?_
  have I1:Inv X pins σ H { s with heap:=h' }:=I.turned (t':=s.toks) (fun b o hb e=>(sb.2 b hb).trans e) f0 f1 f3 f4 f5
  obtain ⟨oi,e,c,dd⟩:=id st'
  rw [g4]
  exact ⟨.ref b,rfl,jn (s:={ s with heap:=h' }) e c dd (by decide) ⟨.ref b,H,I1,rfl,⟨rfl,k,v,b,g1,rfl,g2⟩,st',fun b hb=>(hf b hb).1⟩⟩
 done:=by
  intro X hP hw hK hc i pins s σ H E I hf st hg
  subst hP hw hK
  obtain ⟨hi,hq⟩:=hg
  obtain ⟨rd,ys,r,he⟩:=qj I.hok hq hx hd
  obtain ⟨f0,f1,f2,f3,f4,f5⟩:=hf it (by simp)
  exact CM (I.ok.hd hc) st rd (by rw [kP r he]; exact hi) fun h' eb=>⟨rfl,I.turned (t':=s.toks) (fun b o hb e=>eb b o hb e) f0 f1 f3 f4 f5⟩
 self:=fun _ _ _ _ _ st h=>wpAny_pyIter_keyiter st h
theorem Inv.gx (I:Inv X pins σ H s) (e:H a=some (.dT xs)) {o:Obj} (ho:s.heap.get? a=some o):Inv X pins σ (upd H a (.frz o (.dT xs))) s:=by
 have ok:aW X.prog X.w H s.heap a (.dT xs):=I.hok a _ e
 refine I.write (x:=a) (e:=a) (o:=.frz o (.dT xs)) (h':=s.heap) (t':=s.toks) (by rw [e]; trivial) (.inl rfl) (fun _ _ _ q=>q) ⟨o,ho⟩ ⟨ho,?_⟩
 obtain ⟨z,y,ys,r,rest⟩:=ok
 refine ⟨z,y,ys,KT.keeps r fun b zs q=>?_,rest⟩
 rw [aE]; exact q
 rintro rfl; rw [e] at q; cases q
def iD (tl:TE):TI:=fun σ H R=>tl σ H fun x H1=>∃ a xs,x=.ref a/\((H1 a=some (.dT xs)/\∀ o,R (Itd o a xs) (upd H1 a (.frz o (.dT xs))))\/∃ o,H1 a=some (.frz o (.dT xs))/\R (Itd o a xs) H1)
theorem Dq {tg l:Expr} {tl:TE} (hl:PE X l tl):PI X tg l (iD tl):=by
 intro pins s σ H R I h
 refine thn (hl pins s σ H _ I h) fun v s1 ⟨x,H1,I1,r1,q1⟩=>?_
 obtain ⟨a,xs,e,q1⟩:=q1
 subst e
 cases r1
 have fin:∀ {H2:Hp} {o:Obj},Inv X pins σ H2 s1->H2 a=some (.frz o (.dT xs))->R (Itd o a xs) H2->wpAny (model X.prog X.w) X.A (pyIter (.ref a)) (PIE X pins σ tg R) X.xe s1:=fun {H2 o} I2 h2 q=>by
  obtain ⟨g1,g2⟩:=(show s1.heap.get? a=some o/\aW X.prog X.w H2 s1.heap a (.dT xs) from I2.hok a _ h2)
  obtain ⟨_,hsys,ys,o',es,ep,r,h1,hx,hd,h4⟩:=jV g2
  rw [g1] at h1; cases h1
  refine yZ hsys ⟨o,g1,hx,hd⟩ ?_
  refine ⟨s1.heap.objs.size,[s1.heap.objs.size],_,_,H2,rfl,I2.kept (t':=s1.toks) fun b o e=>Zh _ e,zq a _ xs hx hd,⟨_,Zx _ rfl,rfl,rfl⟩,fun b hb=>?_,q⟩
  have e:b=s1.heap.objs.size:=by simpa using hb
  subst e
  exact I2.fU (Zk _) (I2.hok.fresh (Zk _))
 rcases q1 with ⟨e,q⟩|⟨o,e,q⟩
 ·obtain ⟨_,_,ys,o,es,ep,r,h1,_⟩:=jV (show aW X.prog X.w H1 s1.heap a (.dT xs) from I1.hok a _ e)
  exact fin (I1.gx e h1) cu (q o)
 ·exact fin I1 e q
end
end L2

namespace L2
open PySem PySem.Spec PyProof.Rows PySem.W
section
variable {prog:WP} {w:WS} {A:WY} {E:WH} {s:WN} {d r:Addr} {es:W8} {ep:Nat}
theorem Bs {Q:WH} (hd:(d==sysModules)=false) (hm:bI s.heap d es ep)
  (hQ:Q (.ref s.heap.objs.size) { s with heap:=s.heap.push { cls:=.type "dict_values",data:=.fields #[.ref d] } }):wpAny (model prog w) A (call (.builtin "dict.values") [.ref d]) Q E s:=by
 have hT:=hm.typeIs
 refine ZZ PySem.F.slot_dict_values hT PySem.F.entry_dict_values ?_ (PySem.F.args_dict_values_1 _)
 refine Za ?_
 unfold Builtin.Dict.noArgs
 refine Za (wpAny_notOrdered_dict hT ?_)
 show wpAny _ _ (pure d) _ _ s
 refine Zf ?_
 show wpAny _ _ (Builtin.Dict.showsAll d>>=_) _ _ s
 unfold Builtin.Dict.showsAll
 rw [Ze (by rw [hd]; exact Zz)]
 refine Za (Zf ?_)
 exact Za (Xb (Zf ⟨_,rfl,hQ⟩))
theorem bI.at {h h':Heap} (x:bI h d es ep) (k:∀ o,h.get? d=some o->h'.get? d=some o):bI h' d es ep:=let ⟨o,e,y⟩:=x; ⟨o,k o e,y⟩
theorem xF (hh:A.handled=none) (I d:Addr) (hne:d≠I) (es:W8) (ep:Nat) :
  Walks prog w A I [I,d] [I] es.size (fun i v=>∃ h:i < es.size,v=es[i].val) (fun i h=>h.IsValIter I d i es.size ep/\bI h d es ep) where
 sub:=fun b hb=>by simp at hb; simp [hb]
 frame:=fun _ _ _ st hk=>⟨st.1.at fun o e=>hk I (by simp) o e,st.2.at fun o e=>hk d (by simp) o e⟩
 item:=fun i s Q E hi st hQ=>yF st.1 st.2 hi fun h' hit' hs'=>hQ _ h' s.toks ⟨hi,rfl⟩ ⟨hit',st.2.at fun o e=>hs'.extBut d o hne e⟩ fun b o hb e=>hs'.extBut b o (fun h=>hb (by simp [h])) e
 done:=fun s Q E st hQ=>Ai hh st.1 st.2 (Zk _) fun h' he'=>hQ h' s.toks fun b o hb e=>he' b o (fun h=>hb (by simp [h])) e
 self:=fun _ _ _ _ st hQ=>wpAny_pyIter_valiter st.1 hQ
theorem zG:KdlSrc prog w "dict_values" r d es.size (fun i v=>∃ h:i < es.size,v=es[i].val) (fun h=>h.IsValuesView r d/\bI h d es ep) where
 type:=fun _ hm=>hm.1.typeIs
 there:=fun _ hm=>⟨let ⟨_,ho,_⟩:=hm.1; Zv ho,let ⟨_,ho,_⟩:=hm.2; Zv ho⟩
 keep:=fun _ _ hm hk=>⟨let ⟨o,ho,x⟩:=hm.1; ⟨o,hk r (.inl rfl) o ho,x⟩,hm.2.at fun o e=>hk d (.inr rfl) o e⟩
 notList:=by decide
 notTuple:=by decide
 hint:=fun _ _ _ _ hm hq=>kdl_hint_values hm.1.typeIs hq
 iter:=fun _ _ hh hm=>⟨_,_,(fun _ _ hq=>DH hm.1 hm.2 hq),xF hh _ d (ZI (let ⟨_,ho,_⟩:=hm.2; Zv ho)) es ep,⟨⟨_,Zx _ rfl,rfl,rfl⟩,hm.2.at fun o e=>Zh _ e⟩⟩
end
def AQ (to:TE):TE:=fun σ H Q=>to σ H fun x H1=>∃ a xs,x=.ref a/\(H1 a=some (.dT xs)\/∃ o,H1 a=some (.frz o (.dT xs)))/\∀ p,H1 p=none->Q (.ref p) (upd H1 p (.lst (xs.map (·.2))))
theorem Paired.qi {α β:Type} {R:α->β->Prop}:∀ {xs:List α} {ys:List β},xs.length=ys.length->(∀ (i:Nat) x y,xs[i]?=some x->ys[i]?=some y->R x y)->Paired R xs ys
 | [],[],_,_=>.nil
 | [],_::_,h,_=>by simp at h
 | _::_,[],h,_=>by simp at h
 | x::xs,y::ys,h,f=>.cons (f 0 x y rfl rfl) (Paired.qi (by simpa using h) fun i a b e1 e2=>f (i+1) a b (by simpa using e1) (by simpa using e2))
section
variable {X:Cx} {x:Str} {p pos cpos apos:Pos} {o:Expr} {to:TE}
theorem B7 (hc:X.calm=true) (hg:Gl X x) (hm:X.mg x=none) (hv:bootBuiltins x=some (.type "list")) (ho:PE X o to) (hn:x≠"__name__") (hdb:(x==("__debug__" : Str))=false)
  (hbase:attributeBase o "values" X.env (eval o X.env)=eval o X.env) (hline:(apos.endLine==cpos.line)=true) :
  PE X (.Call (.Name x p) [.Call (.Attribute o "values" apos) [] [] cpos] [] pos) (AQ to):=by
 intro pins s σ H Q I h
 refine XO (cP I hg hm hv ?_ hn hdb)
 refine Z3 (e:=.Call (.Attribute o "values" apos) [] [] cpos) (rest:=[]) ?_ rfl rfl
 refine QV ?_
 refine wpAny_Call_method0_late hbase hline (thn (ho pins s σ H _ I h) fun u s1 ⟨y,H1,I1,ry,a,xs,ey,hd,q1⟩=>?_)
 subst ey
 obtain rfl:u=Value.ref a:=ry
 have ok:aW X.prog X.w H1 s1.heap a (.dT xs):=by
  rcases hd with e|⟨ob,e⟩
  ·exact I1.hok a _ e
  ·exact (show s1.heap.get? a=some ob/\aW X.prog X.w H1 s1.heap a (.dT xs) from I1.hok a _ e).2
 obtain ⟨hz,hsys,ys,ob,es,ep,kt,h1,hx,hdt,h4⟩:=jV ok
 have rd:bI s1.heap a es ep:=⟨ob,h1,hx,hdt⟩
 refine ⟨"dict","dict.values",PySem.F.plainAttrs_dict,PySem.F.slot_dict_values,PySem.F.type_dict_values,rd.typeIs,fun b q=>?_,?_⟩
 ·cases q
  exact ⟨ob,h1,hx.2.1⟩
 ·refine Wc rfl (PySem.evalArgs_none ?_)
  refine Bs hsys rd ?_
  refine Q8 ?_
  have hsz:=kP kt h4
  refine kdl_call (zG (es:=es) (ep:=ep)) (I1.ok.hd hc) ⟨⟨_,Zx _ rfl,rfl,rfl⟩,rd.at fun o e=>Zh _ e⟩ (by rw [hsz]; exact hz) fun h' tk acc' c' hk hD hacc=>?_
  have kp:∀ b o,s1.heap.get? b=some o->h'.get? b=some o:=fun b o e=>hk b o (Zh _ e)
  have hle:s1.heap.objs.size<=(s1.heap.push { cls:=.type "dict_values",data:=.fields #[.ref a] }).objs.size:=by rw [Xq]; exact XL _
  have vals:Vals (xs.map (·.2)) acc'.toList:=by
   refine Paired.qi (by rw [Zb]; exact hsz.symm.trans (hacc.1.symm.trans ZG.symm)) fun i v u e1 e2=>?_
   rw [ZR] at e2
   obtain ⟨hi,rfl⟩:=hacc.2 i u e2
   obtain ⟨k,v',b,u',g1,_,g3,_,g5⟩:=qB kt h4 hi
   rw [ZK,g1] at e1
   cases e1
   rw [g5]; exact g3
  refine ⟨.ref _,_,I1.laid (h':=h') (t':=tk) (o:=.lst (xs.map (·.2))) kp hle ⟨by rw [Zb]; exact hz,acc'.toList,c',vals,by rw [Array.toArray_toList]; exact hD⟩,rfl,q1 _ (I1.hok.fresh hle)⟩
end
end L2
namespace L2
open PySem PySem.Spec PyProof.Rows
section
variable {X:Cx} {x y:Str} {p p' pos pos':Pos} {a:Expr} {ta:TE}
end
end L2

namespace EV
open PySem
inductive D where
 | non|bl (b:Bool)|int (i:Int)|str (x:Str)|tup (ds:List D)|loc (l:Nat)|exn (c:Str)|fro (ds:List D)
 deriving Inhabited
abbrev Yd:=List (List Int × D)
abbrev Yc:=List D
mutual
noncomputable def D.dec:(a b:D)->Decidable (a=b)
 | .non,b=>match b with|.non=>.isTrue rfl|.bl _|.int _|.str _|.tup _|.loc _|.exn _|.fro _=>.isFalse (fun h=>nomatch h)
 | .bl x,b=>match b with
  | .bl y=>if h:x=y then .isTrue (by rw [h]) else .isFalse (fun e=>h (D.bl.inj e))
  | .non|.int _|.str _|.tup _|.loc _|.exn _|.fro _=>.isFalse (fun h=>nomatch h)
 | .int x,b=>match b with
  | .int y=>if h:x=y then .isTrue (by rw [h]) else .isFalse (fun e=>h (D.int.inj e))
  | .non|.bl _|.str _|.tup _|.loc _|.exn _|.fro _=>.isFalse (fun h=>nomatch h)
 | .str x,b=>match b with
  | .str y=>if h:x=y then .isTrue (by rw [h]) else .isFalse (fun e=>h (D.str.inj e))
  | .non|.bl _|.int _|.tup _|.loc _|.exn _|.fro _=>.isFalse (fun h=>nomatch h)
 | .tup x,b=>match b with
  | .tup y=>match D.decs x y with
   | .isTrue h=>.isTrue (by rw [h])
   | .isFalse h=>.isFalse (fun e=>h (D.tup.inj e))
  | .non|.bl _|.int _|.str _|.loc _|.exn _|.fro _=>.isFalse (fun h=>nomatch h)
 | .loc x,b=>match b with
  | .loc y=>if h:x=y then .isTrue (by rw [h]) else .isFalse (fun e=>h (D.loc.inj e))
  | .non|.bl _|.int _|.str _|.tup _|.exn _|.fro _=>.isFalse (fun h=>nomatch h)
 | .exn x,b=>match b with
  | .exn y=>if h:x=y then .isTrue (by rw [h]) else .isFalse (fun e=>h (D.exn.inj e))
  | .non|.bl _|.int _|.str _|.tup _|.loc _|.fro _=>.isFalse (fun h=>nomatch h)
 | .fro x,b=>match b with
  | .fro y=>match D.decs x y with
   | .isTrue h=>.isTrue (by rw [h])
   | .isFalse h=>.isFalse (fun e=>h (D.fro.inj e))
  | .non|.bl _|.int _|.str _|.loc _|.exn _|.tup _=>.isFalse (fun h=>nomatch h)
noncomputable def D.decs:(a b:Yc)->Decidable (a=b)
 | [],[]=>.isTrue rfl
 | [],_::_=>.isFalse (fun h=>nomatch h)
 | _::_,[]=>.isFalse (fun h=>nomatch h)
 | x::xs,y::ys=>match D.dec x y with
  | .isFalse h=>.isFalse (fun e=>h (Qq e).1)
  | .isTrue h=>match D.decs xs ys with
   | .isTrue h'=>.isTrue (by rw [h,h'])
   | .isFalse h'=>.isFalse (fun e=>h' (Qq e).2)
end
noncomputable instance:DecidableEq D:=D.dec
inductive Cell where
 | lst (ds:Yc)|dct (kvs:Yd)|fdc (kvs:Yd)
 deriving DecidableEq,Inhabited
abbrev aa:=List Cell
inductive Res (α:Type) where
 | ok (a:α) (S:aa)|exc (c:Str) (S:aa)|bad
noncomputable def M (α:Type):=aa->Res α
abbrev Ye:=Str->List D->M D
noncomputable instance:Monad M where
 pure a:=fun S=>.ok a S
 bind m f:=fun S=>match m S with
  | .ok a S'=>f a S'
  | .exc c S'=>.exc c S'
  | .bad=>.bad
theorem di {α β:Type} (m:M α) (f:α->M β) (S:aa):(m>>=f) S=match m S with|.ok a S'=>f a S'|.exc c S'=>.exc c S'|.bad=>.bad:=rfl
theorem aj {α β:Type} {m:M α} {f:α->M β} {S S':aa} {a:α} (h:m S=.ok a S'):(m>>=f) S=f a S':=by rw [di,h]
theorem cJ {α β:Type} {m:M α} {f:α->M β} {S S':aa} {c:Str} (h:m S=.exc c S'):(m>>=f) S=.exc c S':=by rw [di,h]
theorem aZ {α β:Type} {m:M α} {f:α->M β} {S:aa} (h:m S=.bad):(m>>=f) S=.bad:=by rw [di,h]
noncomputable def bad {α:Type}:M α:=fun _=>.bad
noncomputable def opt {α:Type}:Option α->M α
 | some a=>pure a
 | none=>bad
def alloc (c:Cell):M D:=fun S=>.ok (.loc S.length) (S++[c])
noncomputable def quiet {α:Type} (m:M α):M α:=fun S=>match m S with
 | .ok a S'=>.ok a S'
 | _=>.bad
def aG:Nat:=16777216
def fits (n:Nat):Bool:=decide (n<=aG)
def e_ (n:Nat):Bool:=decide (n < aG)
noncomputable def guard {α:Type} (b:Bool) (m:M α):M α:=match b with
 | true=>m
 | false=>bad
noncomputable def listAt (S:aa) (l:Nat):Option (List D):=match S[l]? with
 | some (.lst ds)=>some ds
 | _=>none
noncomputable def items:D->M (List D)
 | .tup ds=>pure ds
 | .loc l=>fun S=>match listAt S l with
  | some ds=>.ok ds S
  | none=>.bad
 | .fro ds=>pure ds
 | _=>bad
noncomputable def c_:D->M (List D)
 | .loc l=>items (.loc l)
 | .fro ds=>pure ds
 | _=>bad
noncomputable def asL (S:aa):D->Option (List D)
 | .loc l=>listAt S l
 | .fro ds=>some ds
 | _=>none
def i2b (b:Bool):Int:=if b then 1 else 0
noncomputable def bC:D->D->Option Bool
 | .non,.non=>some true
 | .non,.bl _|.non,.int _|.non,.str _|.bl _,.non|.int _,.non|.str _,.non=>some false
 | .bl a,.bl b=>some (a==b)
 | .bl a,.int b=>some (i2b a==b)
 | .int a,.bl b=>some (a==i2b b)
 | .int a,.int b=>some (a==b)
 | .str a,.str b=>some (a==b)
 | .bl _,.str _|.int _,.str _|.str _,.bl _|.str _,.int _=>some false
 | _,_=>none
noncomputable def bR (f:D->D->Option Bool):List D->List D->Option Bool
 | x::xs,y::ys=>match f x y,bR f xs ys with
  | some a,some b=>some (a&&b)
  | _,_=>none
 | _,_=>some true
inductive Kd where|flat|tup|list|other
noncomputable def D.kd:D->Kd
 | .non|.bl _|.int _|.str _=>.flat
 | .tup _=>.tup
 | .loc _|.fro _=>.list
 | .exn _=>.other
noncomputable def D.its:D->List D
 | .tup ds=>ds
 | _=>[]
noncomputable def eqD:Nat->aa->D->D->Option Bool
 | 0,_,_,_=>none
 | n+1,S,a,b=>match a.kd,b.kd with
  | .flat,.flat=>bC a b
  | .tup,.tup=>(bR (eqD n S) a.its b.its).map fun r=>r&&(a.its.length==b.its.length)
  | .list,.list=>match asL S a,asL S b with
   | some xs,some ys=>if xs.length=ys.length then bR (eqD n S) xs ys else some false
   | _,_=>none
  | .list,.tup=>(asL S a).map fun _=>false
  | .tup,.list=>(asL S b).map fun _=>false
  | .list,.flat=>(asL S a).map fun _=>false
  | .flat,.list=>(asL S b).map fun _=>false
  | .tup,.flat=>some false
  | .flat,.tup=>some false
  | _,_=>none
def deep:Nat:=12
noncomputable def eqM (a b:D):M Bool:=fun S=>match eqD deep S a b with
 | some k=>.ok k S
 | none=>.bad
noncomputable def inL (S:aa) (x:D):List D->Option Bool
 | []=>some false
 | y::ys=>match eqD deep S y x,inL S x ys with
  | some a,some b=>some (a||b)
  | _,_=>none
inductive Op2 where|add|sub|mul|fdiv|mod|pow
inductive Cm where|lt|le|gt|ge|eq|ne|isin|bU|din|dnin
inductive Ty where|int|bool|str|list|tuple|dict|cls (c:Str)
 deriving DecidableEq
inductive Bi where|len|inst (t:Ty)|all|any|sum|min|max|sorted|sortedSet|list|tuple|int|abs|rangeT|rangeL|vals|lenS
inductive Me where|append|extend
def small (i:Int):Bool:=decide (-(2 ^ 64) < i/\i < 2 ^ 64)
def bh (l:Nat) (f:List D->M D):M D:=fun S=>match S[l]? with
 | some (.lst ds)=>f ds S
 | _=>.bad
def put (l:Nat) (c:Cell):M D:=fun S=>.ok .non (S.set l c)
def Bd (a b:Nat):M D:=bh a fun xs=>bh b fun ys=>guard (fits (xs.length+ys.length)) (alloc (.lst (xs++ys)))
noncomputable def Dp:D->D->M D
 | .int i,.int j=>pure (.int (i+j))
 | .loc a,.loc b=>Bd a b
 | _,_=>bad
noncomputable def GY:D->D->M D
 | .int i,.int j=>pure (.int (i - j))
 | _,_=>bad
def IU (l:Nat) (j:Int):M D:=bh l fun xs=>guard (decide (-(2 ^ 63)<=j)&&decide (j < 2 ^ 63)&&fits (xs.length * j.toNat)) (alloc (.lst (List.replicate j.toNat xs).flatten))
noncomputable def yh:D->D->M D
 | .int i,.int j=>guard (small i||small j) (pure (.int (i * j)))
 | _,_=>bad
noncomputable def Iu:D->D->M D
 | .int i,.int j=>guard (decide (0 < j)&&decide (j < 1073741824)) (pure (.int (i / j)))
 | _,_=>bad
noncomputable def Bm:D->D->M D
 | .int i,.int j=>guard (decide (0 < j)) (pure (.int (i % j)))
 | _,_=>bad
noncomputable def GI:D->D->M D
 | .int i,.int j=>guard (decide (0<=j)&&decide (j<=1000)&&decide (i.natAbs < 2 ^ 64)) (pure (.int (i ^ j.toNat)))
 | _,_=>bad
noncomputable def opD:Op2->D->D->M D
 | .add=>Dp
 | .sub=>GY
 | .mul=>yh
 | .fdiv=>Iu
 | .mod=>Bm
 | .pow=>GI
noncomputable def ie (p:Int->Int->Bool):D->D->M D
 | .int i,.int j=>pure (.bl (p i j))
 | _,_=>bad
def inA (neg:Bool) (a:D) (ys:Yc):M D:=fun S=>match inL S a ys with
 | some k=>.ok (.bl (k != neg)) S
 | none=>.bad
def inM (neg:Bool) (a b:D):M D:=do
 let ys <- items b
 inA neg a ys
noncomputable def allInts:List D->Option (List Int)
 | []=>some []
 | .int i::r=>(allInts r).map (i :: ·)
 | _=>none
noncomputable def cg (kvs:Yd) (k:WJ):Option D:=(kvs.find? fun kv=>decide (kv.1=k)).map (·.2)
noncomputable def iY (kvs:Yd) (k:WJ) (d:D):List (List Int × D) :=
 if (kvs.any fun kv=>decide (kv.1=k))=true then kvs.map (fun kv=>if kv.1=k then (kv.1,d) else kv) else kvs++[(k,d)]
def bY (l:Nat) (f:List (List Int × D)->M D):M D:=fun S=>match S[l]? with
 | some (.dct kvs)=>f kvs S
 | some (.fdc kvs)=>f kvs S
 | _=>.bad
noncomputable def jj:D->D->M D
 | .loc l,.tup ds=>do
  let k <- opt (allInts ds)
  bY l fun kvs=>opt (cg kvs k)
 | _,_=>bad
noncomputable def kN (neg:Bool):D->D->M D
 | .tup ds,.loc l=>do
  let k <- opt (allInts ds)
  bY l fun kvs=>pure (.bl ((cg kvs k).isSome != neg))
 | _,_=>bad
noncomputable def sC:D->M D
 | .loc l=>bY l fun kvs=>guard (fits kvs.length) (alloc (.lst (kvs.map (·.2))))
 | _=>bad
noncomputable def Cb (acc:WJ) (x:Int):List Int:=if acc.contains x then acc else acc++[x]
def F1 (xs:WJ):Nat:=(xs.foldl Cb []).length
noncomputable def eW:D->D->Bool
 | .bl _,.int _=>false
 | .int _,.bl _=>false
 | .tup _,.str _=>true
 | a,b=>match a.kd,b.kd with
  | .flat,.flat=>true
  | .tup,.tup=>true
  | .list,.list=>true
  | _,_=>false
noncomputable def cmD:Cm->D->D->M D
 | .lt=>ie fun i j=>decide (i < j)
 | .le=>ie fun i j=>decide (i<=j)
 | .gt=>ie fun i j=>decide (j < i)
 | .ge=>ie fun i j=>decide (j<=i)
 | .eq=>fun a b=>do pure (.bl (<- eqM a b))
 | .ne=>fun a b=>guard (eW a b) (do pure (.bl (!(<- eqM a b))))
 | .isin=>inM false
 | .bU=>inM true
 | .din=>kN false
 | .dnin=>kN true
noncomputable def truth:D->M Bool
 | .bl b=>pure b
 | .non=>pure false
 | .int i=>pure (i != 0)
 | .tup ds=>pure (!ds.isEmpty)
 | .loc l=>do
  let xs <- items (.loc l)
  pure (!xs.isEmpty)
 | .fro ds=>pure (!ds.isEmpty)
 | _=>bad
noncomputable def ixN (n:Nat) (i:Int):Option Nat:=if 0<=i then (if i < n then some i.toNat else none) else if -(n:Int)<=i then some (i+n).toNat else none
noncomputable def atI (xs:Yc) (i:Int):Option D:=(ixN xs.length i).bind fun j=>xs[j]?
def ixD (a i:D):M D:=match i with
 | .int j=>do
  let xs <- items a
  opt (atI xs j)
 | _=>bad
noncomputable def H_:D->D->D->M D
 | .loc l,.int k,d=>bh l fun xs=>match ixN xs.length k with
  | some j=>put l (.lst (xs.set j d))
  | none=>bad
 | _,_,_=>bad
noncomputable def sIx (n d:Nat):Option Int->Nat
 | none=>d
 | some v=>if v < 0 then (v+(n:Int)).toNat else min v.toNat n
noncomputable def cut (xs:Yc) (lo hi:Option Int):List D:=(xs.drop (sIx xs.length 0 lo)).take (sIx xs.length xs.length hi - sIx xs.length 0 lo)
def slD (a:D) (lo hi:Option Int):M D:=match a with
 | .tup xs=>pure (.tup (cut xs lo hi))
 | .loc l=>do
  let xs <- items (.loc l)
  alloc (.lst (cut xs lo hi))
 | .fro xs=>alloc (.lst (cut xs lo hi))
 | _=>bad
noncomputable def dP:List D->Option (List Bool)
 | []=>some []
 | .bl i::r=>(dP r).map (i :: ·)
 | _=>none
noncomputable def ins (i:Int):List Int->List Int
 | []=>[i]
 | j::r=>if i<=j then i::j::r else j::ins i r
noncomputable def g_:List Int->List Int
 | []=>[]
 | i::r=>ins i (g_ r)
abbrev Sub:=Str->Str->Bool
noncomputable def gb (sub:Sub) (S:aa):D->Ty->Option Bool
 | .non,t=>match t with|.cls _=>none|_=>some false
 | .bl _,t=>match t with|.cls _=>none|.int=>some true|.bool=>some true|_=>some false
 | .int _,t=>match t with|.cls _=>none|.int=>some true|_=>some false
 | .str _,t=>match t with|.cls _=>none|.str=>some true|_=>some false
 | .tup _,t=>match t with|.cls _=>none|.tuple=>some true|_=>some false
 | .loc l,t=>match S[l]?,t with
  | _,.cls _=>none
  | some (.lst _),.list=>some true
  | some (.lst _),_=>some false
  | some (.dct _),_=>none
  | some (.fdc _),_=>none
  | none,_=>none
 | .fro _,t=>match t with|.cls _=>none|.list=>some true|_=>some false
 | .exn c,t=>match t with|.cls d=>some (sub c d)|_=>none
noncomputable def lexLe:List Int->List Int->Bool
 | [],_=>true
 | _::_,[]=>false
 | a::r,b::q=>if a < b then true else if a=b then lexLe r q else false
noncomputable def bV (t:WJ):List (List Int)->List (List Int)
 | []=>[t]
 | u::r=>if t=u then u::r else if lexLe t u then t::u::r else u::bV t r
noncomputable def bf:List (List Int)->List (List Int)
 | []=>[]
 | t::r=>bV t (bf r)
noncomputable def tups:List D->Option (List (List Int))
 | []=>some []
 | .tup ds::r=>match allInts ds,tups r with
  | some t,some q=>some (t::q)
  | _,_=>none
 | _=>none
noncomputable def rng (lo hi step:Int):List Int :=
 if 0 < step then (List.range ((hi - lo+step - 1) / step).toNat).map fun (k:Nat)=>lo+k * step
 else if step < 0 then (List.range ((lo - hi - step - 1) / (-step)).toNat).map fun (k:Nat)=>lo+k * step
 else []
def near (i:Int):Bool:=decide (-(2 ^ 62)<=i/\i < 2 ^ 62)
noncomputable def bJ:List D->Option (List Int)
 | [.int j]=>if near j then some (rng 0 j 1) else none
 | [.int i,.int j]=>if near i&&near j then some (rng i j 1) else none
 | [.int i,.int j,.int k]=>if near i&&near j&&decide (k=-1) then some (rng i j k) else none
 | _=>none
noncomputable def GX:List Int->M D
 | []=>bad
 | i::r=>pure (.int (r.foldl min i))
noncomputable def oF:List Int->M D
 | []=>bad
 | i::r=>pure (.int (r.foldl max i))
noncomputable def min2:D->D->M D
 | .int i,.int j=>pure (.int (if j < i then j else i))
 | _,_=>bad
noncomputable def max2:D->D->M D
 | .int i,.int j=>pure (.int (if j > i then j else i))
 | _,_=>bad
noncomputable def toInt:D->M D
 | .int i=>pure (.int i)
 | .bl b=>pure (.int (i2b b))
 | _=>bad
noncomputable def Cu:D->M D
 | .int i=>pure (.int (if i < 0 then -i else i))
 | _=>bad
def iS (sub:Sub) (t:Ty) (a:D):M D:=fun S=>match gb sub S a t with
 | some k=>.ok (.bl k) S
 | none=>.bad
noncomputable def IZ:D->M D
 | .tup ds=>pure (.tup ds)
 | a=>do pure (.tup (<- items a))
noncomputable def mP:Option (List (List Int))->M D
 | some ts=>guard (decide (ts.length < 64)&&decide ts.Nodup&&ts.all fun t=>!t.isEmpty) (alloc (.lst ((bf ts).map fun t=>.tup (t.map .int))))
 | none=>bad
noncomputable def Bg (r:M D):Option (List Int)->M D
 | some is=>guard (decide (is.length < 64)) (alloc (.lst ((g_ is).map .int)))
 | none=>r
def kR (ds:Yc):M D:=Bg (mP (tups ds)) (allInts ds)
noncomputable def bi1 (sub:Sub):Bi->D->M D
 | .len,a=>do
  let ds <- items a
  pure (.int ds.length)
 | .inst t,a=>iS sub t a
 | .all,a=>do
  let ds <- items a
  let bs <- opt (dP ds)
  pure (.bl (bs.all id))
 | .any,a=>do
  let ds <- items a
  let bs <- opt (dP ds)
  pure (.bl (bs.any id))
 | .sum,a=>do
  let ds <- items a
  let is <- opt (allInts ds)
  pure (.int is.sum)
 | .min,a=>do
  let ds <- items a
  let is <- opt (allInts ds)
  GX is
 | .max,a=>do
  let ds <- items a
  let is <- opt (allInts ds)
  oF is
 | .sorted,a=>do
  let ds <- items a
  kR ds
 | .sortedSet,a=>do
  let ds <- c_ a
  let ts <- opt (tups ds)
  guard (decide (ts.length<=18)&&ts.all fun t=>!t.isEmpty) (alloc (.lst ((bf ts).map fun t=>.tup (t.map .int))))
 | .list,a=>do
  let ds <- items a
  alloc (.lst ds)
 | .tuple,a=>do
  let ds <- items a
  pure (.tup ds)
 | .int,a=>toInt a
 | .abs,a=>Cu a
 | .vals,a=>sC a
 | .lenS,a=>do
  let ds <- c_ a
  let is <- opt (allInts ds)
  guard (decide (is.length<=18)) (pure (.int (F1 is)))
 | .rangeT,_=>bad
 | .rangeL,_=>bad
noncomputable def bi2:Bi->D->D->M D
 | .min=>min2
 | .max=>max2
 | _=>fun _ _=>bad
noncomputable def biR:Bi->List D->M D
 | .rangeT,as=>do
  let is <- opt (bJ as)
  guard (fits is.length) (pure (.tup (is.map .int)))
 | .rangeL,as=>do
  let is <- opt (bJ as)
  guard (fits is.length) (alloc (.lst (is.map .int)))
 | _,_=>bad
noncomputable def Bi.isR:Bi->Bool
 | .rangeT=>true
 | .rangeL=>true
 | _=>false
def biD (sub:Sub) (b:Bi) (as:Yc):M D:=match b.isR with
 | true=>biR b as
 | false=>match as with
  | [a]=>bi1 sub b a
  | [a,c]=>bi2 b a c
  | _=>bad
noncomputable def Hr:D->D->M D
 | .loc l,d=>bh l fun ds=>guard (e_ ds.length) (put l (.lst (ds++[d])))
 | _,_=>bad
noncomputable def yx:D->D->M D
 | .loc l,.loc k=>bh l fun ds=>bh k fun es=>guard (fits (ds.length+es.length)) (put l (.lst (ds++es)))
 | _,_=>bad
noncomputable def jd:D->M D
 | .loc l=>bh l fun ds=>match ds.getLast? with
  | some d=>fun S=>.ok d (S.set l (.lst ds.dropLast))
  | none=>bad
 | _=>bad
def meD (m:Me) (o:D) (as:Yc):M D:=match as with
 | [d]=>match m with
  | .append=>Hr o d
  | .extend=>yx o d
 | _=>bad
inductive Tg where
 | one (i:Nat)|many (is:W7)
abbrev Sg:=List (Option D)
abbrev Yf:=Sg->M (List D)
noncomputable def Tg.has:Tg->Nat->Bool
 | .one i,j=>i==j
 | .many is,j=>is.contains j
noncomputable def cz:List Nat->List D->Sg->Sg
 | i::is,d::ds,σ=>cz is ds (σ.set i (some d))
 | _,_,σ=>σ
noncomputable def aS:Tg->D->Sg->M Sg
 | .one i,d,σ=>pure (σ.set i (some d))
 | .many is,.tup ds,σ=>guard (decide (ds.length=is.length)) (pure (cz is ds σ))
 | _,_,_=>bad
inductive E where
 | v (i:Nat)|c (d:D)|bin (op:Op2) (a b:E)|cmp (op:Cm) (a b:E)|chn (o o':Cm) (a b c:E)|and (a b:E)|or (a b:E)|not (a:E)|neg (a:E)|isN (a:E)|notN (a:E)|ite (c a b:E)
 | nl|cs (a r:E)|tup (es:E)|lst (es:E)|ix (a i:E)|sl (a lo hi:E)|call (f:Str) (es:E)|bi (b:Bi) (es:E)|me (m:Me) (o es:E)
 | iSeq (a:E)|iEnum (a:E)|iRng (es:E)|iZip (es:E)|comp (k:Nat) (elt:E) (t:Tg) (it ife:E)|dget (o es:E)|dnew|dgv (o i:E)|iDct (o:E)|pop (o:E)
structure Src where
 its:List D
 l:Option Nat
 raw:List D
noncomputable def aH (s:Src):M Unit:=match s.l with
 | none=>pure ()
 | some l=>fun S=>match listAt S l with
  | some ds=>guard (decide (ds=s.raw)) (pure ()) S
  | none=>.bad
noncomputable def srcOf:D->M Src
 | .tup ds=>pure ⟨ds,none,ds⟩
 | .loc l=>do
  let ds <- items (.loc l)
  pure ⟨ds,some l,ds⟩
 | .fro ds=>pure ⟨ds,none,ds⟩
 | _=>bad
noncomputable def iT:D->M Src
 | .loc l=>fun S=>match S[l]? with
  | some (.dct kvs)=>.ok ⟨kvs.map fun kv=>.tup (kv.1.map .int),none,[]⟩ (S.set l (.fdc kvs))
  | some (.fdc kvs)=>.ok ⟨kvs.map fun kv=>.tup (kv.1.map .int),none,[]⟩ S
  | _=>.bad
 | _=>bad
noncomputable def uG:List D->List D->List D
 | x::r,y::q=>.tup [x,y]::uG r q
 | _,_=>[]
noncomputable def EL:List D->M Src
 | [.tup xs,.tup ys]=>pure ⟨uG xs ys,none,[]⟩
 | _=>bad
noncomputable def num (k:Nat):List D->List D
 | []=>[]
 | d::r=>.tup [.int k,d]::num (k+1) r
noncomputable def bw (s:Src) (f:D->M (Option D)):List D->M (List D)
 | []=>do
  aH s
  pure []
 | d::ds=>do
  aH s
  let y <- f d
  let ys <- bw s f ds
  pure (match y with|some y=>y::ys|none=>ys)
noncomputable def iZ:D->M (Option Int)
 | .int i=>pure (some i)
 | _=>bad
noncomputable def D.dD (S:aa):D->Bool
 | .loc l=>match S[l]? with|some (.lst _)=>true|_=>false
 | _=>false
noncomputable def jN {α:Type} (x:D) (m:M α):M α:=fun S=>guard (x.dD S) m S
def eO (l:Nat) (f:List (List Int × D)->M D):M D:=fun S=>match S[l]? with
 | some (.dct kvs)=>f kvs S
 | _=>.bad
def Dz (a:D) (ds:Yc):M D:=match a with
 | .loc l=>do
  let k <- opt (allInts ds)
  eO l fun kvs=>opt (cg kvs k)
 | _=>bad
def rN (a:D) (ds:Yc) (d:D):M D:=match a with
 | .loc l=>do
  let k <- opt (allInts ds)
  eO l fun kvs=>guard (e_ kvs.length) (put l (.dct (iY kvs k d)))
 | _=>bad
noncomputable def iM (a:D):D->D->M D
 | .tup ds,d=>rN a ds d
 | _,_=>bad
def br (σ:Sg) (i:Nat):M D:=match σ[i]? with
 | some (some d)=>pure d
 | _=>bad
noncomputable def E.bq:E->Bool
 | .nl=>true
 | _=>false
section
variable (sub:Sub) (cf:Ye)
mutual
noncomputable def ev:E->Sg->M D
 | .v i,σ=>br σ i
 | .c d,_=>pure d
 | .bin op a b,σ=>do
  let x <- ev a σ
  let y <- ev b σ
  opD op x y
 | .cmp op a b,σ=>do
  let x <- ev a σ
  let y <- ev b σ
  cmD op x y
 | .chn o o' a b c,σ=>do
  let x <- ev a σ
  let y <- ev b σ
  match <- cmD o x y with
   | .bl true=>do
    let z <- ev c σ
    cmD o' y z
   | .bl false=>pure (.bl false)
   | _=>bad
 | .and a b,σ=>do
  match <- ev a σ with
   | .bl true=>ev b σ
   | .bl false=>pure (.bl false)
   | _=>bad
 | .or a b,σ=>do
  match <- ev a σ with
   | .bl true=>pure (.bl true)
   | .bl false=>ev b σ
   | _=>bad
 | .not a,σ=>do
  match <- ev a σ with
   | .bl b=>pure (.bl (!b))
   | _=>bad
 | .neg a,σ=>do
  match <- ev a σ with
   | .int i=>pure (.int (-i))
   | _=>bad
 | .isN a,σ=>do
  let x <- ev a σ
  pure (.bl (decide (x=.non)))
 | .notN a,σ=>do
  let x <- ev a σ
  pure (.bl (!decide (x=.non)))
 | .ite c a b,σ=>do
  if <- evT c σ then ev a σ else ev b σ
 | .tup es,σ=>do
  let ds <- evs es σ
  guard (fits ds.length) (pure (.tup ds))
 | .lst es,σ=>do
  let ds <- evs es σ
  guard (fits ds.length) (alloc (.lst ds))
 | .ix a i,σ=>do
  let x <- ev a σ
  let y <- ev i σ
  ixD x y
 | .sl a lo hi,σ=>do
  let x <- ev a σ
  let l <- (if lo.bq then pure none else do iZ (<- ev lo σ))
  let h <- (if hi.bq then pure none else do iZ (<- ev hi σ))
  slD x l h
 | .call f es,σ=>do
  let ds <- evs es σ
  cf f ds
 | .bi b es,σ=>do
  let ds <- evs es σ
  biD sub b ds
 | .me m o es,σ=>do
  let x <- ev o σ
  jN x (do
   let ds <- evs es σ
   meD m x ds)
 | .comp k elt t it ife,σ=>do
  let s <- evI it σ
  let ys <- quiet (bw s (fun d=>do
   let σ' <- aS t d (σ++List.replicate k none)
   if <- (if ife.bq then pure true else evT ife σ') then do
    let y <- ev elt σ'
    pure (some y)
   else pure none) s.its)
  guard (fits ys.length) (alloc (.lst ys))
 | .dget o es,σ=>do
  let x <- ev o σ
  let ds <- evs es σ
  guard (fits ds.length) (Dz x ds)
 | .dnew,_=>alloc (.dct [])
 | .dgv o i,σ=>do
  let x <- ev o σ
  let y <- ev i σ
  jj x y
 | .iDct _,_=>bad
 | .pop o,σ=>do
  let x <- ev o σ
  jd x
 | .nl,_=>bad
 | .cs _ _,_=>bad
 | .iSeq _,_=>bad
 | .iEnum _,_=>bad
 | .iRng _,_=>bad
 | .iZip _,_=>bad
noncomputable def evT:E->Sg->M Bool
 | .and a b,σ=>do
  if <- evT a σ then evT b σ else pure false
 | .or a b,σ=>do
  if <- evT a σ then pure true else evT b σ
 | .not a,σ=>do
  let b <- evT a σ
  pure (!b)
 | .v i,σ=>br σ i>>=truth
 | .c d,_=>pure d>>=truth
 | .cmp op a b,σ=>do
  let x <- ev a σ
  let y <- ev b σ
  truth (<- cmD op x y)
 | .chn o o' a b c,σ=>do
  let x <- ev a σ
  let y <- ev b σ
  if <- truth (<- cmD o x y) then do
   let z <- ev c σ
   truth (<- cmD o' y z)
  else pure false
 | .isN a,σ=>do
  let x <- ev a σ
  pure (decide (x=.non))
 | .notN a,σ=>do
  let x <- ev a σ
  pure (!decide (x=.non))
 | .ix a i,σ=>(do
  let x <- ev a σ
  let y <- ev i σ
  ixD x y)>>=truth
 | .call f es,σ=>(do
  let ds <- evs es σ
  cf f ds)>>=truth
 | .bi b es,σ=>(do
  let ds <- evs es σ
  biD sub b ds)>>=truth
 | _,_=>bad
noncomputable def evs:E->Sg->M (List D)
 | .nl,_=>pure []
 | .cs a r,σ=>do
  let x <- ev a σ
  let xs <- evs r σ
  pure (x::xs)
 | _,_=>bad
noncomputable def evI:E->Sg->M Src
 | .iSeq a,σ=>do srcOf (<- ev a σ)
 | .iEnum a,σ=>do
  let s <- srcOf (<- ev a σ)
  pure { s with its:=num 0 s.its }
 | .iRng es,σ=>do
  let is <- opt (bJ (<- evs es σ))
  pure ⟨is.map .int,none,[]⟩
 | .iZip es,σ=>do EL (<- evs es σ)
 | .iDct a,σ=>do iT (<- ev a σ)
 | _,_=>bad
end
end
inductive S where
 | ret (e:E)|retN|set (t:Tg) (e:E)|setIx (o i e:E)|dset (o es e:E)|dsv (o i e:E)|ex (e:E)|ite (c:E) (a b:S)|forS (t:Tg) (it:E) (b:S)|whl (c:E) (b:S)|rais (c:Str)|tryR (f:Str) (es:E) (c:Str) (d:D)|tryE (f:Str) (es:E) (c:Str) (d:D)
 | skip|seq (a b:S)|brk|cont
inductive Fl where
 | nx (σ:Sg)|rt (d:D)|bk (σ:Sg)|ct (σ:Sg)
noncomputable def forL (s:Src) (f:D->Sg->M Fl):List D->Sg->M Fl
 | [],σ=>do
  aH s
  pure (.nx σ)
 | d::ds,σ=>do
  aH s
  match <- f d σ with
   | .nx σ'=>forL s f ds σ'
   | .ct σ'=>forL s f ds σ'
   | .bk σ'=>pure (.nx σ')
   | .rt d=>pure (.rt d)
noncomputable def bH (c:Sg->M Bool) (f:Sg->M Fl):Nat->Sg->M Fl
 | 0,_=>bad
 | n+1,σ=>do
  if <- c σ then do
   match <- f σ with
    | .nx σ'=>bH c f n σ'
    | .ct σ'=>bH c f n σ'
    | .bk σ'=>pure (.nx σ')
    | .rt d=>pure (.rt d)
  else pure (.nx σ)
def F4 (c:Str) (d:D) (m:M D):M D:=fun S=>match m S with
 | .ok v S'=>.ok v S'
 | .exc c' S'=>if c'=c then .ok d S' else .bad
 | .bad=>.bad
noncomputable def Ij (c:Str) (d:D) (σ:Sg) (m:M D):M Fl:=fun S=>match m S with
 | .ok _ S'=>.ok (.nx σ) S'
 | .exc c' S'=>if c'=c then .ok (.rt d) S' else .bad
 | .bad=>.bad
def ig:Nat:=1000000
section
variable (sub:Sub) (cf:Ye)
noncomputable def exec:S->Sg->M Fl
 | .ret e,σ=>do
  let d <- ev sub cf e σ
  pure (.rt d)
 | .retN,_=>pure (.rt .non)
 | .set t e,σ=>do
  let d <- ev sub cf e σ
  let σ' <- aS t d σ
  pure (.nx σ')
 | .setIx o i e,σ=>do
  let d <- ev sub cf e σ
  let a <- ev sub cf o σ
  let k <- ev sub cf i σ
  let _ <- H_ a k d
  pure (.nx σ)
 | .dset o es e,σ=>do
  let d <- ev sub cf e σ
  let a <- ev sub cf o σ
  let ks <- evs sub cf es σ
  let _ <- guard (fits ks.length) (rN a ks d)
  pure (.nx σ)
 | .dsv o i e,σ=>do
  let d <- ev sub cf e σ
  let a <- ev sub cf o σ
  let k <- ev sub cf i σ
  let _ <- iM a k d
  pure (.nx σ)
 | .ex e,σ=>do
  let _ <- ev sub cf e σ
  pure (.nx σ)
 | .ite c a b,σ=>do
  if <- evT sub cf c σ then exec a σ else exec b σ
 | .forS t it b,σ=>quiet (do
  let s <- evI sub cf it σ
  forL s (fun d σ=>do
   let σ' <- aS t d σ
   exec b σ') s.its σ)
 | .whl c b,σ=>quiet (bH (evT sub cf c) (exec b) ig σ)
 | .rais c,_=>fun S=>.exc c S
 | .tryR f es c d,σ=>do
  let ds <- quiet (evs sub cf es σ)
  let v <- F4 c d (cf f ds)
  pure (.rt v)
 | .tryE f es c d,σ=>do
  let ds <- quiet (evs sub cf es σ)
  Ij c d σ (cf f ds)
 | .skip,σ=>pure (.nx σ)
 | .seq a b,σ=>do
  match <- exec a σ with
   | .nx σ'=>exec b σ'
   | f=>pure f
 | .brk,σ=>pure (.bk σ)
 | .cont,σ=>pure (.ct σ)
end
mutual
noncomputable def D.low (n:Nat):D->Bool
 | .tup ds=>D.lows n ds
 | .fro ds=>D.lows n ds
 | .loc l=>decide (l < n)
 | _=>true
noncomputable def D.lows (n:Nat):List D->Bool
 | []=>true
 | d::r=>D.low n d&&D.lows n r
end
noncomputable def Cell.low (n:Nat):Cell->Bool
 | .lst ds=>D.lows n ds
 | .dct _=>false
 | .fdc _=>false
noncomputable def leave (S:aa) (d:D) (S':aa):Res D :=
 if S'.take S.length=S then
  if d.low S.length then .ok d S
  else match d with
   | .loc l=>match S'[l]? with
    | some c=>if c.low S.length then .ok (.loc S.length) (S++[c]) else .ok d S'
    | none=>.ok d S'
   | _=>.ok d S'
 else .ok d S'
structure Fn where
 par:Nat
 names:Nat
 body:S
abbrev Prg:=List (Str × Fn)
noncomputable def iO (S:aa):Res Fl->Res D
 | .ok (.rt d) S'=>leave S d S'
 | .ok (.nx _) S'=>leave S .non S'
 | .ok (.bk _) _=>.bad
 | .ok (.ct _) _=>.bad
 | .exc c S'=>if S'.take S.length=S then .exc c S else .exc c S'
 | .bad=>.bad
noncomputable def frame (F:Fn) (ds:Yc):Sg:=ds.map some++List.replicate (F.names - ds.length) none
noncomputable def ah (sub:Sub) (P:Prg):Nat->Str->List D->M D
 | 0,_,_=>bad
 | n+1,f,ds=>fun S=>match P.lookup f with
  | none=>.bad
  | some F=>if ds.length=F.par then iO S (exec sub (ah sub P n) F.body (frame F ds) S) else .bad
theorem vP {sub:Sub} {P:Prg} {n:Nat} {f:Str} {ds:Yc} {S:aa} {F:Fn} (h:P.lookup f=some F) (hl:ds.length=F.par):ah sub P (n+1) f ds S=iO S (exec sub (ah sub P n) F.body (frame F ds) S):=by
 show (match P.lookup f with|none=>Res.bad|some F=>if ds.length=F.par then iO S (exec sub (ah sub P n) F.body (frame F ds) S) else .bad)=_
 rw [h]; simp only [hl,XJ]
theorem BS {sub:Sub} {P:Prg} {n:Nat} {f:Str} {ds:Yc} {S:aa} {F:Fn} (h:P.lookup f=some F) (hl:ds.length≠F.par):ah sub P (n+1) f ds S=.bad:=by
 show (match P.lookup f with|none=>Res.bad|some F=>if ds.length=F.par then iO S (exec sub (ah sub P n) F.body (frame F ds) S) else .bad)=_
 rw [h]; simp only [hl,ZU]
end EV

namespace EV
open PySem PySem.Spec PyProof.Rows L2
theorem Paired.get {α β:Type} {F:α->β->Prop}:∀ {xs:List α} {ys:List β} {i:Nat} {x:α},Paired F xs ys->xs[i]?=some x->∃ y,ys[i]?=some y/\F x y
 | _,_,_,_,.nil,e=>by simp at e
 | _,_,0,_,.cons r _,e=>by simp at e; subst e; exact ⟨_,rfl,r⟩
 | _,_,i+1,x,.cons _ t,e=>by
  obtain ⟨u,h1,h2⟩:=Paired.get (i:=i) (x:=x) t (by simpa using e)
  exact ⟨u,by simpa using h1,h2⟩
theorem Paired.get' {α β:Type} {F:α->β->Prop} {xs:List α} {ys:List β} {i:Nat} {y:β} (p:Paired F xs ys) (e:ys[i]?=some y):∃ x,xs[i]?=some x/\F x y:=by
 have hl:=p.length
 have hi:i < xs.length:=by rw [hl]; exact (Zg.mp e).1
 obtain ⟨y',e',f⟩:=Paired.get p (Zc hi)
 rw [e] at e'; cases e'
 exact ⟨_,Zc hi,f⟩
theorem Paired.step {α β:Type} {F:α->β->Prop} {ds:List α} {vs:List β} {n:Nat} (h:Paired F ds vs) (hl:ds.length=n+1):∃ d r v q,ds=d::r/\vs=v::q/\F d v/\Paired F r q/\r.length=n:=by
 cases h with
 | nil=>cases hl
 | cons f t=>exact ⟨_,_,_,_,rfl,rfl,f,t,Nat.succ.inj hl⟩
theorem Paired.last {α β:Type} {F:α->β->Prop} {ds:List α} {vs:List β} (h:Paired F ds vs) (hl:ds.length=0):ds=[]/\vs=[]:=by
 cases h with
 | nil=>exact ⟨rfl,rfl⟩
 | cons f t=>cases hl
theorem Paired.app {α β:Type} {F:α->β->Prop}:∀ {a c:List α} {b d:List β},Paired F a b->Paired F c d->Paired F (a++c) (b++d)
 | _,_,_,_,.nil,s=>s
 | _,_,_,_,.cons r t,s=>.cons r (Paired.app t s)
theorem Paired.tak {α β:Type} {F:α->β->Prop}:∀ {a:List α} {b:List β} (n:Nat),Paired F a b->Paired F (a.take n) (b.take n)
 | _,_,0,_=>.nil
 | _,_,_+1,.nil=>.nil
 | _,_,n+1,.cons r t=>.cons r (Paired.tak n t)
theorem Paired.imp {α β:Type} {F G:α->β->Prop} (f:∀ a b,F a b->G a b):∀ {l₁:List α} {l₂:List β},Paired F l₁ l₂->Paired G l₁ l₂
 | _,_,.nil=>.nil
 | _,_,.cons r t=>.cons (f _ _ r) (Paired.imp f t)
theorem Paired.of_get {α β:Type} {F:α->β->Prop}:∀ {xs:List α} {ys:List β},xs.length=ys.length->(∀ (i:Nat) x y,xs[i]?=some x->ys[i]?=some y->F x y)->Paired F xs ys
 | [],[],_,_=>.nil
 | [],_::_,h,_=>by simp at h
 | _::_,[],h,_=>by simp at h
 | x::xs,y::ys,h,f=>.cons (f 0 x y rfl rfl) (Paired.of_get (by simpa using h) fun i a b e1 e2=>f (i+1) a b (by simpa using e1) (by simpa using e2))
structure Gx where
 K:PySem.W.Frag
def Fro (K:WL) (H:Hp) (a:Addr) (xs:Ya):Prop:=(∃ o,H a=some (.frz o (.lst xs)))\/∀ H:Hp,SqL K H a xs
theorem Fro.sq {K:WL} {H:Hp} {a:Addr} {xs:Ya} (h:Fro K H a xs):SqL K H a xs:=by
 rcases h with ⟨o,h⟩|h
 ·exact .inl (.inr ⟨o,h⟩)
 ·exact h H
inductive Rep (Γ:Gx) (ι:WQ) (H:Hp):D->V->Prop
 | non:Rep Γ ι H .non .non
 | bl (b:Bool):Rep Γ ι H (.bl b) (.bl b)
 | int (i:Int):Rep Γ ι H (.int i) (.int i)
 | str (x:Str):Rep Γ ι H (.str x) (.str x)
 | tup {ds:Yc} {a:Addr} {xs:Ya}:SqT Γ.K H a xs->ds.length=xs.length->(∀ (i:Nat) d v,ds[i]?=some d->xs[i]?=some v->Rep Γ ι H d v)->(∀ k,allInts ds=some k->H a=some (.tup xs))->Rep Γ ι H (.tup ds) (.ref a)
 | fro {ds:Yc} {a:Addr} {xs:Ya}:Fro Γ.K H a xs->ds.length=xs.length->(∀ (i:Nat) d v,ds[i]?=some d->xs[i]?=some v->Rep Γ ι H d v)->Rep Γ ι H (.fro ds) (.ref a)
 | loc {l:Nat} {a:Addr}:ι[l]?=some a->Rep Γ ι H (.loc l) (.ref a)
abbrev az (Γ:Gx) (ι:WQ) (H:Hp):List D->List V->Prop:=Paired (Rep Γ ι H)
theorem Rep.ue {Γ:Gx} {ι:WQ} {H:Hp} {ds:Yc} {a:Addr} {xs:Ya} (h:SqT Γ.K H a xs) (p:az Γ ι H ds xs) (hk:∀ k,allInts ds=some k->H a=some (.tup xs)):Rep Γ ι H (.tup ds) (.ref a) :=
 .tup h p.length (fun i d v e1 e2=>by
  obtain ⟨y,e,f⟩:=Paired.get p e1
  rw [e2] at e; cases e; exact f) hk
theorem Rep.kU {Γ:Gx} {ι:WQ} {H:Hp} {ds:Yc} {a:Addr} {xs:Ya} (h:H a=some (.tup xs)) (p:az Γ ι H ds xs):Rep Γ ι H (.tup ds) (.ref a):=.ue (.of h) p fun _ _=>h
theorem Rep.fG {Γ:Gx} {ι:WQ} {H:Hp} {ds:Yc} {v:V} (h:Rep Γ ι H (.fro ds) v):∃ a xs,v=.ref a/\Fro Γ.K H a xs/\az Γ ι H ds xs:=by
 cases h with
 | fro h1 h2 h3=>exact ⟨_,_,rfl,h1,Paired.of_get h2 h3⟩
theorem Rep.cF {Γ:Gx} {ι:WQ} {H:Hp} {ds:Yc} {v:V} (h:Rep Γ ι H (.tup ds) v):∃ a xs,v=.ref a/\SqT Γ.K H a xs/\az Γ ι H ds xs:=by
 cases h with
 | tup h1 h2 h3 _=>exact ⟨_,_,rfl,h1,Paired.of_get h2 h3⟩
structure Ext (ι ι':WQ) (H H':Hp):Prop where
 pre:ι <+: ι'
 tup:∀ a xs,H a=some (.tup xs)->H' a=some (.tup xs)
 frz:∀ a o u,H a=some (.frz o u)->H' a=some (.frz o u)
 oth:∀ a o,H a=some o->a ∉ ι->H' a=some o
 fresh:∀ a∈ι',a ∉ ι->H a=none
section
variable {ι ι1 ι2:WQ} {H H1 H2:Hp}
theorem Ext.refl:Ext ι ι H H:=⟨Z2 _,fun _ _ h=>h,fun _ _ _ h=>h,fun _ _ h _=>h,fun _ h n=>absurd h n⟩
theorem Ext.trans (a:Ext ι ι1 H H1) (b:Ext ι1 ι2 H1 H2):Ext ι ι2 H H2 where
 pre:=a.pre.trans b.pre
 tup:=fun x xs h=>b.tup x xs (a.tup x xs h)
 frz:=fun x o u h=>b.frz x o u (a.frz x o u h)
 oth:=fun x o h n=>b.oth x o (a.oth x o h n) fun m=>by
  have:=a.fresh x m n
  rw [h] at this; cases this
 fresh:=fun x m n=>by
  by_cases h1:x∈ι1
  ·exact a.fresh x h1 n
  ·have:=b.fresh x m h1
   cases q:H x with
   | none=>rfl
   | some o=>rw [a.oth x o q n] at this; cases this
theorem Ext.laid {p:Addr} {o:HO} (hp:H p=none):Ext ι ι H (upd H p o) :=
 ⟨Z2 _,fun a xs h=>by rw [aE (bz h hp)]; exact h,fun a o u h=>by rw [aE (bz h hp)]; exact h,fun a o h _=>by rw [aE (bz h hp)]; exact h,fun _ h n=>absurd h n⟩
theorem Ext.more {p:Addr} {o:HO} (hp:H p=none):Ext ι (ι++[p]) H (upd H p o) :=
 ⟨Zi _ _,fun a xs h=>by rw [aE (bz h hp)]; exact h,fun a o u h=>by rw [aE (bz h hp)]; exact h,fun a o h _=>by rw [aE (bz h hp)]; exact h,fun a h n=>by
  rcases ZE.mp h with z|z
  ·exact absurd z n
  ·have:a=p:=by simpa using z
   rw [this]; exact hp⟩
theorem fC {α:Type} {xs ys:List α} (h:xs <+: ys) {i:Nat} {x:α} (e:xs[i]?=some x):ys[i]?=some x:=by
 obtain ⟨t,rfl⟩:=h
 rw [ZF (Zg.mp e).1]
 exact e
end
section
variable {Γ:Gx} {ι ι1:WQ} {H H1:Hp}
theorem Ext.sqT (e:Ext ι ι1 H H1) {a:Addr} {xs:Ya} (h:SqT Γ.K H a xs):SqT Γ.K H1 a xs:=by
 rcases h with (h|⟨o,h⟩)|h
 ·exact .inl (.inl (e.tup _ _ h))
 ·exact .inl (.inr ⟨o,e.frz _ _ _ h⟩)
 ·exact .inr h
theorem Ext.fro (e:Ext ι ι1 H H1) {a:Addr} {xs:Ya} (h:Fro Γ.K H a xs):Fro Γ.K H1 a xs:=by
 rcases h with ⟨o,h⟩|h
 ·exact .inl ⟨o,e.frz _ _ _ h⟩
 ·exact .inr h
theorem Rep.ext (e:Ext ι ι1 H H1) {d:D} {v:V} (h:Rep Γ ι H d v):Rep Γ ι1 H1 d v:=by
 induction h with
 | non=>exact .non
 | bl b=>exact .bl b
 | int i=>exact .int i
 | str x=>exact .str x
 | tup h1 h2 h3 h4 ih=>exact .tup (e.sqT h1) h2 ih fun k q=>e.tup _ _ (h4 k q)
 | fro h1 h2 h3 ih=>exact .fro (e.fro h1) h2 ih
 | loc h=>exact .loc (fC e.pre h)
theorem az.ext (e:Ext ι ι1 H H1) {ds:Yc} {vs:Ya} (h:az Γ ι H ds vs):az Γ ι1 H1 ds vs:=Paired.imp (fun _ _ r=>Rep.ext e r) h
end
abbrev aJ (Γ:Gx) (ι:WQ) (H:Hp):List (List Int × D)->List (List Key × V)->Prop:=Paired fun p q=>q.1=p.1.map Sum.inl/\Rep Γ ι H p.2 q.2
def jQ (Γ:Gx) (ι:WQ) (H:Hp) (a:Addr):Cell->Prop
 | .lst ds=>∃ xs,H a=some (.lst xs)/\az Γ ι H ds xs
 | .dct kvs=>∃ xs,H a=some (.dT xs)/\aJ Γ ι H kvs xs
 | .fdc kvs=>∃ xs,(∃ o,H a=some (.frz o (.dT xs)))/\aJ Γ ι H kvs xs
structure ao (Γ:Gx) (ι:WQ) (H:Hp) (S:aa):Prop where
 len:ι.length=S.length
 nd:ι.Nodup
 cell:∀ (l:Nat) c,S[l]?=some c->∃ a,ι[l]?=some a/\jQ Γ ι H a c
structure aY (Γ:Gx) (ι:WQ) (H:Hp) (σ:L2.St) (σd:Sg):Prop where
 len:σ.length=σd.length
 var:∀ (i:Nat) d,σd[i]?=some (some d)->∃ v,σ[i]?=some (some v)/\Rep Γ ι H d v
theorem aY.ext {Γ:Gx} {ι ι1:WQ} {H H1:Hp} {σ:L2.St} {σd:Sg} (e:Ext ι ι1 H H1) (h:aY Γ ι H σ σd):aY Γ ι1 H1 σ σd :=
 ⟨h.len,fun i d q=>let ⟨v,a,b⟩:=h.var i d q; ⟨v,a,b.ext e⟩⟩
abbrev XW:=Str->aa->List Addr->Hp->Prop
def Out {α:Type} (Γ:Gx) (xw:XW) (ι:WQ) (H:Hp) (r:Res α) (k:α->aa->List Addr->Hp->Prop):Prop:=match r with
 | .ok a S'=>∀ ι' H',Ext ι ι' H H'->ao Γ ι' H' S'->k a S' ι' H'
 | .exc c S'=>∀ ι' H',Ext ι ι' H H'->ao Γ ι' H' S'->xw c S' ι' H'
 | .bad=>False
section
variable {Γ:Gx} {xw:XW} {ι ι1:WQ} {H H1:Hp} {α β:Type}
theorem Out.step {r:Res α} {k:α->aa->List Addr->Hp->Prop} (h:Out Γ xw ι H r k) (e:Ext ι ι1 H H1):Out Γ xw ι1 H1 r k:=by
 cases r with
 | ok a S'=>exact fun ι' H' e' s'=>h ι' H' (e.trans e') s'
 | exc c S'=>exact fun ι' H' e' s'=>h ι' H' (e.trans e') s'
 | bad=>exact h
theorem Out.mono {r:Res α} {k k':α->aa->List Addr->Hp->Prop} (h:Out Γ xw ι H r k) (f:∀ a S' ι' H',Ext ι ι' H H'->ao Γ ι' H' S'->k a S' ι' H'->k' a S' ι' H'):Out Γ xw ι H r k':=by
 cases r with
 | ok a S'=>exact fun ι' H' e' s'=>f _ _ _ _ e' s' (h ι' H' e' s')
 | exc c S'=>exact h
 | bad=>exact h
theorem Out.bind {m:M α} {f:α->M β} {S:aa} {k:β->aa->List Addr->Hp->Prop} (h:Out Γ xw ι H ((m>>=f) S) k) :
  Out Γ xw ι H (m S) (fun a S' ι' H'=>ao Γ ι' H' S'/\Ext ι ι' H H'/\Out Γ xw ι' H' (f a S') k):=by
 rw [di] at h
 cases q:m S with
 | ok a S'=>rw [q] at h; exact fun ι' H' e' s'=>⟨s',e',Out.step h e'⟩
 | exc c S'=>rw [q] at h; exact h
 | bad=>rw [q] at h; exact h
theorem Out.here {a:α} {S:aa} {k:α->aa->List Addr->Hp->Prop} (h:Out Γ xw ι H (.ok a S) k) (s:ao Γ ι H S):k a S ι H:=h ι H .refl s
theorem Out.quiet {m:M α} {S:aa} {k:α->aa->List Addr->Hp->Prop} (h:Out Γ xw ι H (quiet m S) k) (xw':XW):Out Γ xw' ι H (m S) k:=by
 unfold EV.quiet at h
 cases q:m S with
 | ok a S'=>rw [q] at h; exact h
 | exc c S'=>rw [q] at h; exact h.elim
 | bad=>rw [q] at h; exact h.elim
end
def tM (Γ:Gx) (xw:XW) (m:Sg->M D):TE:=fun σ H Q=>∃ σd ι S,aY Γ ι H σ σd/\ao Γ ι H S/\Out Γ xw ι H (m σd S) fun d _ ι' H'=>∀ v,Rep Γ ι' H' d v->Q v H'
def tMT (Γ:Gx) (xw:XW) (m:Sg->M Bool):TT:=fun σ H Q=>∃ σd ι S,aY Γ ι H σ σd/\ao Γ ι H S/\Out Γ xw ι H (m σd S) fun b _ _ H'=>Q b H'
def tMA (Γ:Gx) (xw:XW) (m:Yf):TA:=fun σ H Q=>∃ σd ι S,aY Γ ι H σ σd/\ao Γ ι H S/\Out Γ xw ι H (m σd S) fun ds _ ι' H'=>∀ vs,az Γ ι' H' ds vs->Q vs H'
theorem PE.imp {X:Cx} {e:Expr} {t t':TE} (h:PE X e t) (f:∀ σ H Q,t' σ H Q->t σ H Q):PE X e t':=fun pins s σ H Q I q=>h pins s σ H Q I (f σ H Q q)
theorem PT.imp {X:Cx} {e:Expr} {t t':TT} (h:PT X e t) (f:∀ σ H Q,t' σ H Q->t σ H Q):PT X e t':=fun pins s σ H Q I q=>h pins s σ H Q I (f σ H Q q)
theorem PW.imp {X:Cx} {e:Expr} {t t':TT} (h:PW X e t) (f:∀ σ H Q,t' σ H Q->t σ H Q):PW X e t':=fun w pins s σ H Q I q=>h w pins s σ H Q I (f σ H Q q)
theorem PA.imp {X:Cx} {e:WX} {t t':TA} (h:PA X e t) (f:∀ σ H Q,t' σ H Q->t σ H Q):PA X e t':=fun p pins s σ H Q I q=>h p pins s σ H Q I (f σ H Q q)
theorem PS.imp {X:Cx} {e:Stmt} {t t':TS} (h:PS X e t) (f:∀ D σ H,t' D σ H->t D σ H):PS X e t':=fun pins s σ H D I q=>h pins s σ H D I (f D σ H q)
theorem PSs.imp {X:Cx} {e:List Stmt} {t t':TS} (h:PSs X e t) (f:∀ D σ H,t' D σ H->t D σ H):PSs X e t':=fun pins s σ H D I q=>h pins s σ H D I (f D σ H q)
section
variable {Γ:Gx} {xw:XW} {σ:L2.St} {H:Hp}
def uv (Γ:Gx) (xw:XW) (f:D->M D) (x:V) (H:Hp) (Q:VK):Prop:=∃ ι S dx,ao Γ ι H S/\Rep Γ ι H dx x/\Out Γ xw ι H (f dx S) fun d _ ι' H'=>∀ v,Rep Γ ι' H' d v->Q v H'
def a_ (Γ:Gx) (xw:XW) (f:D->D->M D) (x y:V) (H:Hp) (Q:VK):Prop :=
 ∃ ι S dx dy,ao Γ ι H S/\Rep Γ ι H dx x/\Rep Γ ι H dy y/\Out Γ xw ι H (f dx dy S) fun d _ ι' H'=>∀ v,Rep Γ ι' H' d v->Q v H'
def dm (Γ:Gx) (xw:XW) (f:List D->M D) (xs:Ya) (H:Hp) (Q:VK):Prop:=∃ ι S ds,ao Γ ι H S/\az Γ ι H ds xs/\Out Γ xw ι H (f ds S) fun d _ ι' H'=>∀ v,Rep Γ ι' H' d v->Q v H'
theorem FI {ma:Sg->M D} {f:D->M D} {Q:VK} (h:tM Γ xw (fun σ=>ma σ>>=f) σ H Q):tM Γ xw ma σ H fun x H1=>uv Γ xw f x H1 Q:=by
 obtain ⟨σd,ι,S,he,hs,ho⟩:=h
 exact ⟨σd,ι,S,he,hs,ho.bind.mono fun d S' ι' H' _ _ ⟨s',e',o'⟩ v r=>⟨ι',S',d,s',r,o'⟩⟩
theorem mY {ma mb:Sg->M D} {f:D->D->M D} {Q:VK} (h:tM Γ xw (fun σ=>ma σ>>=fun x=>mb σ>>=fun y=>f x y) σ H Q) :
  tM Γ xw ma σ H fun x H1=>tM Γ xw mb σ H1 fun y H2=>a_ Γ xw f x y H2 Q:=by
 obtain ⟨σd,ι,S,he,hs,ho⟩:=h
 exact ⟨σd,ι,S,he,hs,ho.bind.mono fun d S' ι' H' _ _ ⟨s',e',o'⟩ v r=>⟨σd,ι',S',he.ext e',s',o'.bind.mono fun d2 S2 ι2 H2 _ _ ⟨s2,e2,o2⟩ v2 r2=>⟨ι2,S2,d,d2,s2,r.ext e2,r2,o2⟩⟩⟩
theorem wj {ma:Yf} {f:List D->M D} {Q:VK} (h:tM Γ xw (fun σ=>ma σ>>=f) σ H Q):tMA Γ xw ma σ H fun xs H1=>dm Γ xw f xs H1 Q:=by
 obtain ⟨σd,ι,S,he,hs,ho⟩:=h
 exact ⟨σd,ι,S,he,hs,ho.bind.mono fun d S' ι' H' _ _ ⟨s',e',o'⟩ v r=>⟨ι',S',d,s',r,o'⟩⟩
end
end EV

namespace EV
open PySem PySem.Spec PyProof.Rows L2
open PySem.SeqAt (EqAt RcAt)
section
variable {X:Cx} {Γ:Gx} {xw:XW} {pins:WI} {σ:L2.St} {H:Hp} {s:WN} {ι:WQ} {S:aa}
theorem ao.list (hS:ao Γ ι H S) {d:D} {v:V} {ds:Yc} (r:Rep Γ ι H d v) (h:asL S d=some ds):∃ a xs,v=.ref a/\SqL Γ.K H a xs/\az Γ ι H ds xs:=by
 cases d with
 | loc l =>
  cases r with
  | loc q =>
   have h':listAt S l=some ds:=h
   unfold listAt at h'
   split at h'
   ·rename_i es e
    cases h'
    obtain ⟨a,ha,xs,hx,r⟩:=hS.cell l _ e
    rw [q] at ha; cases ha
    exact ⟨_,xs,rfl,.of hx,r⟩
   ·cases h'
 | fro es =>
  cases h
  obtain ⟨a,xs,rfl,hf,rs⟩:=r.fG
  exact ⟨a,xs,rfl,hf.sq,rs⟩
 | _=>cases h
theorem ao.lst (hS:ao Γ ι H S) {l:Nat} {ds:Yc} (h:S[l]?=some (.lst ds)):∃ a xs,ι[l]?=some a/\H a=some (.lst xs)/\az Γ ι H ds xs:=by
 obtain ⟨a,ha,xs,hx,r⟩:=hS.cell l _ h
 exact ⟨a,xs,ha,hx,r⟩
theorem o8 {l:Nat}:items (.loc l) S=match listAt S l with|some ds=>.ok ds S|none=>.bad:=rfl
theorem ic {α:Type}:∀ {xs:List α} {i j:Nat} {x:α},xs.Nodup->xs[i]?=some x->xs[j]?=some x->i=j
 | [],_,_,_,_,h,_=>by simp at h
 | y::r,0,0,_,_,_,_=>rfl
 | y::r,0,j+1,x,nd,h1,h2=>by
  simp at h1 h2
  subst h1
  exact absurd (ZA h2) (Xg.mp nd).1
 | y::r,i+1,0,x,nd,h1,h2=>by
  simp at h1 h2
  subst h2
  exact absurd (ZA h1) (Xg.mp nd).1
 | y::r,i+1,j+1,x,nd,h1,h2=>by
  exact Xn (· + 1) (ic (i:=i) (j:=j) (Xg.mp nd).2 (by simpa using h1) (by simpa using h2))
theorem gH {f:D->D->Option Bool}:∀ {xs ys:Yc} {k:Bool},bR f xs ys=some k->∃ e:Nat->Bool,(∀ (j:Nat) x y,xs[j]?=some x->ys[j]?=some y->f x y=some (e j))/\k=(List.range (min xs.length ys.length)).all e
 | [],ys,k,h=>⟨fun _=>true,fun j x y e1 e2=>by simp at e1,by simp only [bR] at h; cases h; simp⟩
 | _::_,[],k,h=>⟨fun _=>true,fun j x y e1 e2=>by simp at e2,by simp only [bR] at h; cases h; simp⟩
 | x::xs,y::ys,k,h=>by
  simp only [bR] at h
  split at h
  ·rename_i a b e1 e2
   cases h
   obtain ⟨e,he,hk⟩:=gH e2
   refine ⟨fun j=>match j with|0=>a|j+1=>e j,fun j u v q1 q2=>?_,?_⟩
   ·cases j with
    | zero=>simp at q1 q2; subst q1; subst q2; exact e1
    | succ j=>exact he j u v (by simpa using q1) (by simpa using q2)
   ·rw [show min (x::xs).length (y::ys).length=min xs.length ys.length+1 by simp only [ZB]; omega,List.range_succ_eq_map,Wy,List.all_map]
    rw [hk]
    rfl
  ·cases h
theorem Rep.jT {d1 d2:D} {x:V} (q1:Rep Γ ι H d1 x) (q2:Rep Γ ι H d2 x) (e:d1.kd=.flat):d2.kd=.flat:=by
 have h1:zz x=true:=by cases q1 <;> first|rfl|cases e
 cases q2 <;> first|rfl|cases h1
theorem Rep.yI {d1 d2:D} {x:V} (q1:Rep Γ ι H d1 x) (q2:Rep Γ ι H d2 x) (e:d1.kd=.flat):d1=d2:=by
 cases q1 <;> first|(cases e; done)|(cases q2; rfl)
theorem C9 {d:D} {k:Bool} (h:bC d d=some k):k=true:=by
 cases d <;> first|(cases h; done)|(simp [bC] at h; exact h)
theorem CW (hK:Γ.K=X.K) (I:Inv X pins σ H s) (hS:ao Γ ι H S):∀ (m:Nat) (d1 d2:D) (k:Bool) (x:V),eqD m S d1 d2=some k->Rep Γ ι H d1 x->Rep Γ ι H d2 x->k=true:=by
 obtain ⟨K⟩:=Γ
 have hK':K=X.K:=hK
 subst hK'
 have all:∀ (m:Nat),(∀ (d1 d2:D) (k:Bool) (x:V),eqD m S d1 d2=some k->Rep ⟨X.K⟩ ι H d1 x->Rep ⟨X.K⟩ ι H d2 x->k=true) ->
   ∀ (ds es:Yc) (xs:Ya) (r:Bool),az ⟨X.K⟩ ι H ds xs->az ⟨X.K⟩ ι H es xs->bR (eqD m S) ds es=some r->r=true:=by
  intro m ihm ds es xs r p1 p2 hr
  obtain ⟨e,he,hk2⟩:=gH hr
  have l1:=p1.length
  have l2:=p2.length
  rw [hk2,Xa]
  intro j hj
  rw [ZS] at hj
  have hj1:j < ds.length:=by omega
  have hj2:j < es.length:=by omega
  obtain ⟨y1,a1,a2⟩:=Paired.get p1 (Zc hj1)
  obtain ⟨y2,a3,a4⟩:=Paired.get p2 (Zc hj2)
  rw [a1] at a3; cases a3
  exact ihm _ _ _ y1 (he j _ _ (Zc hj1) (Zc hj2)) a2 a4
 intro m
 induction m with
 | zero=>intro d1 d2 k x h; simp [eqD] at h
 | succ m ihm =>
  intro d1 d2 k x h q1 q2
  have hall:=all m ihm
  have tl:∀ {es:Yc} {a:Addr} {d:D},(∃ xs,SqT X.K H a xs)->∀ {z},asL S d=some z->Rep ⟨X.K⟩ ι H d (.ref a)->False:=fun {es a d} ht {z} hz hr=>by
   obtain ⟨xs,ht⟩:=ht
   obtain ⟨b,ys,e,sb,_⟩:=hS.list hr hz
   cases e
   obtain ⟨its,_,pl,_⟩:=I.list sb
   obtain ⟨its2,_,pt,_⟩:=I.tuple ht
   exact absurd rfl (SeqAt.ne_of_list_tuple pl.isList pt)
  cases e1:d1.kd <;> cases e2:d2.kd <;> simp only [eqD,e1,e2] at h
  ·have e:=Rep.yI q1 q2 e1
   rw [<- e] at h
   exact C9 h
  ·rw [Rep.jT q1 q2 e1] at e2; cases e2
  ·rw [Rep.jT q1 q2 e1] at e2; cases e2
  ·cases h
  ·rw [Rep.jT q2 q1 e2] at e1; cases e1
  ·cases d1 <;> first|(cases e1; done)|skip
   cases d2 <;> first|(cases e2; done)|skip
   obtain ⟨a,xs,rfl,t1,p1⟩:=q1.cF
   obtain ⟨b,ys,eb,t2,p2⟩:=q2.cF
   cases eb
   have e:xs=ys:=I.kD t1 t2
   subst e
   simp only [ZD] at h
   obtain ⟨r,hr,hk⟩:=h
   have hl:(D.its (D.tup _)).length=(D.its (D.tup _)).length:=(p1.length).trans p2.length.symm
   rw [<- hk,hall _ _ xs r p1 p2 hr,hl]; simp
  ·simp only [ZD] at h
   obtain ⟨z,hz,_⟩:=h
   cases d1 <;> first|(cases e1; done)|skip
   obtain ⟨a,xs,rfl,t1,p1⟩:=q1.cF
   exact (tl (es:=[]) ⟨xs,t1⟩ hz q2).elim
  ·cases h
  ·rw [Rep.jT q2 q1 e2] at e1; cases e1
  ·simp only [ZD] at h
   obtain ⟨z,hz,_⟩:=h
   cases d2 <;> first|(cases e2; done)|skip
   obtain ⟨a,xs,rfl,t1,p1⟩:=q2.cF
   exact (tl (es:=[]) ⟨xs,t1⟩ hz q1).elim
  ·split at h
   ·rename_i ds es hd he
    obtain ⟨a,xs,rfl,s1,p1⟩:=hS.list q1 hd
    obtain ⟨b,ys,eb,s2,p2⟩:=hS.list q2 he
    cases eb
    have e:xs=ys:=I.kr s1 s2
    subst e
    rw [Zd (p1.length.trans p2.length.symm)] at h
    exact hall _ _ xs k p1 p2 h
   ·cases h
  ·cases h
  ·cases h
  ·cases h
  ·cases h
  ·cases h
theorem A2 {A:WY} {d1 d2:D} {k:Bool} {x1 x2:V} {u1 u2:W9} (h:bC d1 d2=some k) (r1:Rep Γ ι H d1 x1) (r2:Rep Γ ι H d2 x2) (v1:RelV x1 u1) (v2:RelV x2 u2) (e1:d1.kd=.flat) (e2:d2.kd=.flat):RcAt A s u1 u2 k/\EqAt A s u1 u2 k:=by
 cases r1 <;> first|(cases e1; done)|skip
 all_goals (cases r2 <;> first|(cases e2; done)|skip)
 ·cases v1; cases v2; simp [bC] at h; subst h; exact ⟨RcAt.none_none,EqAt.same _⟩
 ·cases v1; cases v2; simp [bC] at h; subst h; exact ⟨.none_bool _,.none_bool _⟩
 ·cases v1; obtain ⟨t,rfl⟩:=v2; simp [bC] at h; subst h; exact ⟨.none_int _ t,.none_int _ t⟩
 ·cases v1; obtain ⟨t,rfl⟩:=v2; simp [bC] at h; subst h; exact ⟨.none_str _ t,.none_str _ t⟩
 ·cases v1; cases v2; simp [bC] at h; subst h; exact ⟨.bool_none _,.bool_none _⟩
 ·cases v1; cases v2; simp [bC] at h; subst h; exact ⟨.bool_bool _ _,.bool_bool _ _⟩
 ·cases v1; obtain ⟨t,rfl⟩:=v2; simp [bC] at h; subst h; exact ⟨.bool_int _ _ t,.bool_int _ _ t⟩
 ·cases v1; obtain ⟨t,rfl⟩:=v2; simp [bC] at h; subst h; exact ⟨.bool_str _ _ t,.bool_str _ _ t⟩
 ·obtain ⟨ta,rfl⟩:=v1; cases v2; simp [bC] at h; subst h; exact ⟨.int_none _ ta,.int_none _ ta⟩
 ·obtain ⟨ta,rfl⟩:=v1; cases v2; simp [bC] at h; subst h; exact ⟨.int_bool _ ta _,.int_bool _ ta _⟩
 ·obtain ⟨ta,rfl⟩:=v1; obtain ⟨t,rfl⟩:=v2; simp [bC] at h; subst h; exact ⟨.int_int _ ta _ t,.int_int _ ta _ t⟩
 ·obtain ⟨ta,rfl⟩:=v1; obtain ⟨t,rfl⟩:=v2; simp [bC] at h; subst h; exact ⟨.int_str _ ta _ t,.int_str _ ta _ t⟩
 ·obtain ⟨ta,rfl⟩:=v1; cases v2; simp [bC] at h; subst h; exact ⟨.str_none _ ta,.str_none _ ta⟩
 ·obtain ⟨ta,rfl⟩:=v1; cases v2; simp [bC] at h; subst h; exact ⟨.str_bool _ ta _,.str_bool _ ta _⟩
 ·obtain ⟨ta,rfl⟩:=v1; obtain ⟨t,rfl⟩:=v2; simp [bC] at h; subst h; exact ⟨.str_int _ ta _ t,.str_int _ ta _ t⟩
 ·obtain ⟨ta,rfl⟩:=v1; obtain ⟨t,rfl⟩:=v2; simp [bC] at h; subst h; exact ⟨.str_str _ ta _ t,.str_str _ ta _ t⟩
theorem oz (hK:Γ.K=X.K) (I:Inv X pins σ H s) (hS:ao Γ ι H S):∀ (n:Nat) (A:WY) (d1 d2:D) (k:Bool) (x1 x2:V) (u1 u2:W9),eqD n S d1 d2=some k->Rep Γ ι H d1 x1->Rep Γ ι H d2 x2->RelV x1 u1->RelV x2 u2->A.units+n < cLine ->
  RcAt A s u1 u2 k/\EqAt A s u1 u2 k:=by
 have same:=CW hK I hS
 obtain ⟨K⟩:=Γ
 have hK':K=X.K:=hK
 subst hK'
 intro n
 induction n with
 | zero=>intro A d1 d2 k x1 x2 u1 u2 h; simp [eqD] at h
 | succ n ih =>
  intro A d1 d2 k x1 x2 u1 u2 h r1 r2 v1 v2 hu
  have hu0:A.units < cLine:=by omega
  have hu1:A.in1.units+n < cLine:=by show A.units+1+n < cLine; omega
  have h0:=h
  have each:∀ {ds es:Yc} {xs ys:Ya} {its1 its2:WM} {e:Nat->Bool},az ⟨X.K⟩ ι H ds xs->az ⟨X.K⟩ ι H es ys->Vals xs its1->Vals ys its2 ->
    (∀ (j:Nat) x y,ds[j]?=some x->es[j]?=some y->eqD n S x y=some (e j))->∀ (j:Nat) (h1:j < its1.toArray.size) (h2:j < its2.toArray.size),EqAt A.in1 s its1.toArray[j] its2.toArray[j] (e j):=by
   intro ds es xs ys its1 its2 e rp1 rp2 rv1 rv2 he j h1 h2
   rw [Zo] at h1 h2
   have l1:=rp1.length
   have l2:=rp2.length
   have l3:=rv1.length
   have l4:=rv2.length
   have j1:j < ds.length:=by omega
   have j2:j < es.length:=by omega
   obtain ⟨y1,a1,a2⟩:=Paired.get rp1 (Zc j1)
   obtain ⟨y2,a3,a4⟩:=Paired.get rp2 (Zc j2)
   obtain ⟨w1,z1,z2⟩:=rv1.get a1
   obtain ⟨w2,z3,z4⟩:=rv2.get a3
   have:=(ih A.in1 ds[j] es[j] (e j) y1 y2 w1 w2 (he j _ _ (Zc j1) (Zc j2)) a2 a4 z2 z4 hu1).2
   have q1:its1.toArray[j]'(by rw [Zo]; exact h1)=w1:=by
    have:its1[j]?=some its1[j]:=Zc h1
    rw [z1] at this; cases this; rfl
   have q2:its2.toArray[j]'(by rw [Zo]; exact h2)=w2:=by
    have:its2[j]?=some its2[j]:=Zc h2
    rw [z3] at this; cases this; rfl
   rw [q1,q2]; exact this
  have lst:∀ {d:D} {x:V} {u:W9} {zs:Yc},Rep ⟨X.K⟩ ι H d x->RelV x u->asL S d=some zs->∃ a xs its,x=.ref a/\u=.ref a/\az ⟨X.K⟩ ι H zs xs/\Vals xs its/\s.heap.IsList a its.toArray:=fun {d x u zs} r rv hz=>by
   obtain ⟨b,ys,e,sb,rp⟩:=hS.list r hz
   subst e
   cases rv
   obtain ⟨its,rv,p,_⟩:=I.list sb
   exact ⟨b,ys,its,rfl,rfl,rp,rv,p.isList⟩
  have tpl:∀ {ds:Yc} {x:V} {u:W9},Rep ⟨X.K⟩ ι H (.tup ds) x->RelV x u->∃ a xs its,x=.ref a/\u=.ref a/\az ⟨X.K⟩ ι H ds xs/\Vals xs its/\s.heap.IsTuple a its.toArray:=fun {ds x u} r rv=>by
   obtain ⟨a,xs,e,t,p⟩:=r.cF
   subst e
   cases rv
   obtain ⟨its,rv,p2,_⟩:=I.tuple t
   exact ⟨a,xs,its,rfl,rfl,p,rv,p2⟩
  cases e1:d1.kd <;> cases e2:d2.kd <;> simp only [eqD,e1,e2] at h
  ·exact A2 h r1 r2 v1 v2 e1 e2
  ·cases h
   cases d2 <;> first|(cases e2; done)|skip
   obtain ⟨a,xs,its,rfl,rfl,_,_,p⟩:=tpl r2 v2
   cases r1 <;> first|(cases e1; done)|skip
   ·cases v1; exact ⟨.none_tuple p hu0,.none_tuple p hu0⟩
   ·cases v1; exact ⟨.bool_tuple _ p hu0,.bool_tuple _ p hu0⟩
   ·obtain ⟨ta,rfl⟩:=v1; exact ⟨.int_tuple _ ta p hu0,.int_tuple _ ta p hu0⟩
   ·obtain ⟨ta,rfl⟩:=v1; exact ⟨.str_tuple _ ta p hu0,.str_tuple _ ta p hu0⟩
  ·simp only [ZD] at h
   obtain ⟨z,hz,rfl⟩:=h
   obtain ⟨a,xs,its,rfl,rfl,_,_,p⟩:=lst r2 v2 hz
   cases r1 <;> first|(cases e1; done)|skip
   ·cases v1; exact ⟨.none_list p hu0,.none_list p hu0⟩
   ·cases v1; exact ⟨.bool_list _ p hu0,.bool_list _ p hu0⟩
   ·obtain ⟨ta,rfl⟩:=v1; exact ⟨.int_list _ ta p hu0,.int_list _ ta p hu0⟩
   ·obtain ⟨ta,rfl⟩:=v1; exact ⟨.str_list _ ta p hu0,.str_list _ ta p hu0⟩
  ·cases h
  ·cases h
   cases d1 <;> first|(cases e1; done)|skip
   obtain ⟨a,xs,its,rfl,rfl,_,_,p⟩:=tpl r1 v1
   cases r2 <;> first|(cases e2; done)|skip
   ·cases v2; exact ⟨.tuple_none p hu0,.tuple_none p hu0⟩
   ·cases v2; exact ⟨.tuple_bool _ p hu0,.tuple_bool _ p hu0⟩
   ·obtain ⟨ta,rfl⟩:=v2; exact ⟨.tuple_int _ ta p hu0,.tuple_int _ ta p hu0⟩
   ·obtain ⟨ta,rfl⟩:=v2; exact ⟨.tuple_str _ ta p hu0,.tuple_str _ ta p hu0⟩
  ·cases d1 <;> first|(cases e1; done)|skip
   cases d2 <;> first|(cases e2; done)|skip
   obtain ⟨a,xs,its1,rfl,rfl,rp1,rv1,p1⟩:=tpl r1 v1
   obtain ⟨b,ys,its2,rfl,rfl,rp2,rv2,p2⟩:=tpl r2 v2
   simp only [ZD] at h
   obtain ⟨r,hr,hk⟩:=h
   obtain ⟨e,he,hk2⟩:=gH hr
   have rc:RcAt A s (.ref a) (.ref b) k:=by
    have:=RcAt.tuples (A:=A) (e:=e) p1 p2 hu0 (each rp1 rp2 rv1 rv2 he)
    rw [Zo,Zo,<- rv1.length,<- rv2.length,<- rp1.length,<- rp2.length] at this
    rw [<- hk,hk2]; exact this
   refine ⟨rc,?_⟩
   by_cases hab:a=b
   ·subst hab
    rw [same _ _ _ k _ h0 r1 r2]; exact EqAt.same _
   ·exact .of_refs hab rc
  ·simp only [ZD] at h
   obtain ⟨z,hz,rfl⟩:=h
   cases d1 <;> first|(cases e1; done)|skip
   obtain ⟨a,xs,its1,rfl,rfl,rp1,rv1,p1⟩:=tpl r1 v1
   obtain ⟨b,ys,its2,rfl,rfl,rp2,rv2,p2⟩:=lst r2 v2 hz
   exact ⟨.tuple_list p1 p2 hu0,.tuple_list p1 p2 hu0⟩
  ·cases h
  ·simp only [ZD] at h
   obtain ⟨z,hz,rfl⟩:=h
   obtain ⟨a,xs,its,rfl,rfl,_,_,p⟩:=lst r1 v1 hz
   cases r2 <;> first|(cases e2; done)|skip
   ·cases v2; exact ⟨.list_none p hu0,.list_none p hu0⟩
   ·cases v2; exact ⟨.list_bool _ p hu0,.list_bool _ p hu0⟩
   ·obtain ⟨ta,rfl⟩:=v2; exact ⟨.list_int _ ta p hu0,.list_int _ ta p hu0⟩
   ·obtain ⟨ta,rfl⟩:=v2; exact ⟨.list_str _ ta p hu0,.list_str _ ta p hu0⟩
  ·simp only [ZD] at h
   obtain ⟨z,hz,rfl⟩:=h
   cases d2 <;> first|(cases e2; done)|skip
   obtain ⟨a,xs,its1,rfl,rfl,rp1,rv1,p1⟩:=tpl r2 v2
   obtain ⟨b,ys,its2,rfl,rfl,rp2,rv2,p2⟩:=lst r1 v1 hz
   exact ⟨.list_tuple p2 p1 hu0,.list_tuple p2 p1 hu0⟩
  ·split at h
   ·rename_i ds es hd he
    obtain ⟨a,xs,its1,rfl,rfl,rp1,rv1,p1⟩:=lst r1 v1 hd
    obtain ⟨b,ys,its2,rfl,rfl,rp2,rv2,p2⟩:=lst r2 v2 he
    have e1:its1.toArray.size=ds.length:=by rw [Zo,<- rv1.length,<- rp1.length]
    have e2:its2.toArray.size=es.length:=by rw [Zo,<- rv2.length,<- rp2.length]
    have rc:RcAt A s (.ref a) (.ref b) k:=by
     by_cases hlen:ds.length=es.length
     ·rw [Zd hlen] at h
      obtain ⟨e,he',hk2⟩:=gH h
      have:=RcAt.lists (A:=A) (e:=e) p1 p2 (by omega) hu0 (each rp1 rp2 rv1 rv2 he')
      rw [e1] at this; rw [hk2,<- hlen,Nat.min_self]; exact this
     ·rw [Ze hlen] at h
      cases h
      exact RcAt.lists_lengths p1 p2 (by rw [e1,e2]; simpa using hlen) hu0
    refine ⟨rc,?_⟩
    by_cases hab:a=b
    ·subst hab
     rw [same _ _ _ k _ h0 r1 r2]; exact EqAt.same _
    ·exact .of_refs hab rc
   ·cases h
  ·cases h
  ·cases h
  ·cases h
  ·cases h
  ·cases h
end
end EV

namespace HT
open PySem PyProof.Rows
section
variable {prog:WP} {w:WS} {A:WY} {E:WH} {s:WN}
end
end HT
namespace EV
open PySem PySem.Spec PyProof.Rows L2
open PySem.SeqAt (EqAt RcAt)
section
variable {X:Cx} {Γ:Gx} {xw:XW} {pins:WI} {σ:L2.St} {H:Hp} {s:WN} {ι:WQ} {S:aa}
theorem ao.new (hS:ao Γ ι H S) {p:Addr} (hp:H p=none):p ∉ ι:=fun m=>by
 obtain ⟨l,e⟩:=ZO m
 have hl:l < S.length:=by rw [<- hS.len]; exact (Zg.mp e).1
 obtain ⟨a,ha,c⟩:=hS.cell l S[l] (Zc hl)
 rw [e] at ha; cases ha
 cases q:S[l] with
 | lst ds=>rw [q] at c; obtain ⟨xs,hx,_⟩:=c; rw [hp] at hx; cases hx
 | dct kvs=>rw [q] at c; obtain ⟨xs,hx,_⟩:=c; rw [hp] at hx; cases hx
 | fdc kvs=>rw [q] at c; obtain ⟨xs,⟨o,hx⟩,_⟩:=c; rw [hp] at hx; cases hx
theorem jQ.ext {ι1:WQ} {H1:Hp} (e:Ext ι ι1 H H1) {a:Addr} {c:Cell} (h:jQ Γ ι H a c) (hl:∀ o,H a=some o->H1 a=some o):jQ Γ ι1 H1 a c:=by
 cases c with
 | lst ds=>obtain ⟨xs,hx,r⟩:=h; exact ⟨xs,hl _ hx,az.ext e r⟩
 | dct kvs=>obtain ⟨xs,hx,r⟩:=h; exact ⟨xs,hl _ hx,Paired.imp (fun _ _ q=>⟨q.1,q.2.ext e⟩) r⟩
 | fdc kvs=>obtain ⟨xs,⟨o,hx⟩,r⟩:=h; exact ⟨xs,⟨o,hl _ hx⟩,Paired.imp (fun _ _ q=>⟨q.1,q.2.ext e⟩) r⟩
theorem ao.more (hS:ao Γ ι H S) {p:Addr} (hp:H p=none) {ds:Yc} {xs:Ya} (r:az Γ ι H ds xs):ao Γ (ι++[p]) (upd H p (.lst xs)) (S++[.lst ds]):=by
 have e:Ext ι (ι++[p]) H (upd H p (.lst xs)):=Ext.more hp
 refine ⟨by simp [hS.len],XX.mpr ⟨hS.nd,by simp,?_⟩,fun l c h=>?_⟩
 ·intro a ha b hb
  have:b=p:=by simpa using hb
  subst this
  exact fun z=>hS.new hp (z ▸ ha)
 ·by_cases hl:l < S.length
  ·rw [ZF hl] at h
   obtain ⟨a,ha,c1⟩:=hS.cell l c h
   exact ⟨a,fC e.pre ha,c1.ext e fun ys hy=>by rw [aE (bz hy hp)]; exact hy⟩
  ·rw [ZP (by omega)] at h
   have hl2:l - S.length=0:=by
    have:=(Zg.mp h).1
    simp at this; omega
   rw [hl2] at h
   have h':(Cell.lst ds)=c:=by simpa using h
   subst h'
   have e1:l=ι.length:=by rw [hS.len]; omega
   subst e1
   exact ⟨p,by simp,xs,cu,az.ext e r⟩
theorem ao.laid (hS:ao Γ ι H S) {p:Addr} (hp:H p=none) (o:HO):ao Γ ι (upd H p o) S :=
 ⟨hS.len,hS.nd,fun l c h=>let ⟨a,ha,c1⟩:=hS.cell l c h; ⟨a,ha,c1.ext (Ext.laid hp) fun ys hy=>by rw [aE (bz hy hp)]; exact hy⟩⟩
theorem Out.alloc {Q:VK} {ds:Yc} {xs:Ya} {p:Addr} (ho:Out Γ xw ι H (alloc (.lst ds) S) fun d _ ι' H'=>∀ v,Rep Γ ι' H' d v->Q v H') (hS:ao Γ ι H S) (hp:H p=none) (r:az Γ ι H ds xs):Q (.ref p) (upd H p (.lst xs)) :=
 ho (ι++[p]) _ (Ext.more hp) (hS.more hp r) _ (.loc (by rw [<- hS.len]; simp))
theorem Out.tup {Q:VK} {ds:Yc} {xs:Ya} {p:Addr} (ho:Out Γ xw ι H (.ok (.tup ds) S) fun d _ ι' H'=>∀ v,Rep Γ ι' H' d v->Q v H') (hS:ao Γ ι H S) (hp:H p=none) (r:az Γ ι H ds xs):Q (.ref p) (upd H p (.tup xs)) :=
 ho ι _ (Ext.laid hp) (hS.laid hp _) _ (.kU cu (az.ext (Ext.laid hp) r))
theorem Out.val {Q:VK} {d:D} {v:V} (ho:Out Γ xw ι H (.ok d S) fun d _ ι' H'=>∀ v,Rep Γ ι' H' d v->Q v H') (hS:ao Γ ι H S) (r:Rep Γ ι H d v):Q v H:=ho.here hS v r
theorem Out.guard {α:Type} {b:Bool} {m:M α} {k:α->aa->List Addr->Hp->Prop} (h:Out Γ xw ι H (EV.guard b m S) k):b=true/\Out Γ xw ι H (m S) k:=by
 cases b with
 | true=>exact ⟨rfl,h⟩
 | false=>exact h.elim
theorem jk {n:Nat} (h:fits n=true):n<=sizeLine:=Zn h
theorem ri {n:Nat} (h:e_ n=true):n < sizeLine:=Zn h
theorem Out.opt {α β:Type} {o:Option α} {f:α->M β} {k:β->aa->List Addr->Hp->Prop} (h:Out Γ xw ι H ((EV.opt o>>=f) S) k):∃ a,o=some a/\Out Γ xw ι H (f a S) k:=by
 cases o with
 | none=>exact h.elim
 | some a=>exact ⟨a,rfl,h⟩
theorem Out.bh {l:Nat} {f:List D->M D} {k:D->aa->List Addr->Hp->Prop} (h:Out Γ xw ι H (EV.bh l f S) k):∃ ds,S[l]?=some (.lst ds)/\Out Γ xw ι H (f ds S) k:=by
 have e:EV.bh l f S=match S[l]? with|some (.lst ds)=>f ds S|_=>.bad:=rfl
 rw [e] at h
 cases q:S[l]? with
 | none=>rw [q] at h; exact h.elim
 | some c =>
  rw [q] at h
  cases c with
  | lst ds=>exact ⟨ds,rfl,h⟩
  | dct kvs=>exact h.elim
  | fdc kvs=>exact h.elim
theorem G_ (hK:Γ.K=X.K):OpR X (binaryOp .Add) (a_ Γ xw (opD .add)):=by
 intro pins s σ H x y v u Q I rx ry h
 obtain ⟨ι,S,dx,dy,hS,r1,r2,ho⟩:=h
 cases dx with
 | int i =>
  cases dy with
  | int j=>cases r1; cases r2; exact ER pins s σ H _ _ v u Q I rx ry ⟨i,j,rfl,rfl,Out.val ho hS (.int _)⟩
  | _=>exact ho.elim
 | loc l =>
  cases dy with
  | loc m =>
   obtain ⟨ds,e1,ho⟩:=Out.bh ho
   obtain ⟨es,e2,ho⟩:=Out.bh ho
   obtain ⟨hz,ho⟩:=Out.guard ho
   obtain ⟨a,xs,ha,hx,p1⟩:=hS.lst e1
   obtain ⟨b,ys,hb,hy,p2⟩:=hS.lst e2
   cases r1 with
   | loc q1 =>
    cases r2 with
    | loc q2 =>
     rw [ha] at q1; cases q1
     rw [hb] at q2; cases q2
     exact yX pins s σ H _ _ v u Q I rx ry ⟨a,b,xs,ys,rfl,rfl,hx,hy,by rw [<- p1.length,<- p2.length]; exact jk hz,fun p hp=>Out.alloc ho hS hp (Paired.app p1 p2)⟩
  | _=>exact ho.elim
 | _=>exact ho.elim
theorem zV:OpR X (binaryOp .Sub) (a_ Γ xw (opD .sub)):=by
 intro pins s σ H x y v u Q I rx ry h
 obtain ⟨ι,S,dx,dy,hS,r1,r2,ho⟩:=h
 cases dx with
 | int i =>
  cases dy with
  | int j=>cases r1; cases r2; exact ye pins s σ H _ _ v u Q I rx ry ⟨i,j,rfl,rfl,Out.val ho hS (.int _)⟩
  | _=>exact ho.elim
 | _=>exact ho.elim
theorem Dd (hK:Γ.K=X.K):OpR X (binaryOp .Mult) (a_ Γ xw (opD .mul)):=by
 intro pins s σ H x y v u Q I rx ry h
 obtain ⟨ι,S,dx,dy,hS,r1,r2,ho⟩:=h
 cases dx with
 | int i =>
  cases dy with
  | int j =>
   cases r1; cases r2
   obtain ⟨hz,ho⟩:=Out.guard ho
   refine Gb pins s σ H _ _ v u Q I rx ry ⟨i,j,rfl,rfl,?_,Out.val ho hS (.int _)⟩
   rcases Bool.or_eq_true_iff.mp hz with hz|hz
   ·exact .inl (Zn hz)
   ·exact .inr (Zn hz)
  | _=>exact ho.elim
 | _=>exact ho.elim
theorem xj:OpR X (binaryOp .FloorDiv) (a_ Γ xw (opD .fdiv)):=by
 intro pins s σ H x y v u Q I rx ry h
 obtain ⟨ι,S,dx,dy,hS,r1,r2,ho⟩:=h
 cases dx with
 | int i =>
  cases dy with
  | int j =>
   cases r1; cases r2
   obtain ⟨hz,ho⟩:=Out.guard ho
   rw [Zu] at hz
   exact Fq pins s σ H _ _ v u Q I rx ry ⟨i,j,rfl,rfl,⟨Zn hz.1,Zn hz.2⟩,Out.val ho hS (.int _)⟩
  | _=>exact ho.elim
 | _=>exact ho.elim
theorem Au:OpR X (binaryOp .Mod) (a_ Γ xw (opD .mod)):=by
 intro pins s σ H x y v u Q I rx ry h
 obtain ⟨ι,S,dx,dy,hS,r1,r2,ho⟩:=h
 cases dx with
 | int i =>
  cases dy with
  | int j =>
   cases r1; cases r2
   obtain ⟨hz,ho⟩:=Out.guard ho
   exact EY pins s σ H _ _ v u Q I rx ry ⟨i,j,rfl,rfl,Zn hz,Out.val ho hS (.int _)⟩
  | _=>exact ho.elim
 | _=>exact ho.elim
theorem jW {op:CmpOp} {p:Int->Int->Bool} (h0:OpR X (compareOp op) (rI0 fun i j=>.bl (p i j))):OpR X (compareOp op) (a_ Γ xw (ie p)):=by
 intro pins s σ H x y v u Q I rx ry h
 obtain ⟨ι,S,dx,dy,hS,r1,r2,ho⟩:=h
 cases dx with
 | int i =>
  cases dy with
  | int j=>cases r1; cases r2; exact h0 pins s σ H _ _ v u Q I rx ry ⟨i,j,rfl,rfl,Out.val ho hS (.bl _)⟩
  | _=>exact ho.elim
 | _=>exact ho.elim
theorem F0:OpR X (compareOp .Lt) (a_ Γ xw (cmD .lt)):=jW Am
theorem CS:OpR X (compareOp .LtE) (a_ Γ xw (cmD .le)):=jW xx
theorem Cr:OpR X (compareOp .Gt) (a_ Γ xw (cmD .gt)):=jW Ax
theorem zR:OpR X (compareOp .GtE) (a_ Γ xw (cmD .ge)):=jW C5
theorem we {dx dy:D} {f:Bool->M D} {k:D->aa->List Addr->Hp->Prop} (ho:Out Γ xw ι H ((eqM dx dy>>=f) S) k):∃ b,eqD deep S dx dy=some b/\Out Γ xw ι H (f b S) k:=by
 rw [di] at ho
 unfold eqM at ho
 cases q:eqD deep S dx dy with
 | none=>rw [q] at ho; exact ho.elim
 | some b=>rw [q] at ho; exact ⟨b,rfl,ho⟩
theorem s_eq (hK:Γ.K=X.K) (hu:X.A.units+64 < cLine):OpR X (compareOp .Eq) (a_ Γ xw (cmD .eq)):=by
 intro pins s σ H x y v u Q I rx ry h
 obtain ⟨ι,S,dx,dy,hS,r1,r2,ho⟩:=h
 obtain ⟨k,q,ho⟩:=we ho
 have:=(oz hK I hS deep X.A dx dy k x y v u q r1 r2 rx ry (by unfold deep; omega)).1
 exact this X.prog X.w X.xe _ ⟨.bl k,H,I,rfl,Out.val ho hS (.bl _)⟩
end
end EV

namespace EV
open PySem PySem.Spec PyProof.Rows L2
open PySem.SeqAt (EqAt RcAt)
section
variable {X:Cx} {Γ:Gx} {xw:XW} {pins:WI} {σ:L2.St} {H:Hp} {s:WN} {ι:WQ} {S:aa}
theorem su (hK:Γ.K=X.K) (I:Inv X pins σ H s) (hS:ao Γ ι H S) {n:Nat} {A:WY} (hu:A.units+n < cLine) {ds es:Yc} {xs ys:Ya} {its1 its2:WM} {e:Nat->Bool} (rp1:az Γ ι H ds xs) (rp2:az Γ ι H es ys)
  (rv1:Vals xs its1) (rv2:Vals ys its2) (he:∀ (j:Nat) x y,ds[j]?=some x->es[j]?=some y->eqD n S x y=some (e j)) (j:Nat) (h1:j < its1.toArray.size) (h2:j < its2.toArray.size):EqAt A s its1.toArray[j] its2.toArray[j] (e j):=by
 rw [Zo] at h1 h2
 have l1:=rp1.length
 have l2:=rp2.length
 have l3:=rv1.length
 have l4:=rv2.length
 have j1:j < ds.length:=by omega
 have j2:j < es.length:=by omega
 obtain ⟨y1,a1,a2⟩:=Paired.get rp1 (Zc j1)
 obtain ⟨y2,a3,a4⟩:=Paired.get rp2 (Zc j2)
 obtain ⟨w1,z1,z2⟩:=rv1.get a1
 obtain ⟨w2,z3,z4⟩:=rv2.get a3
 have:=(oz hK I hS n A ds[j] es[j] (e j) y1 y2 w1 w2 (he j _ _ (Zc j1) (Zc j2)) a2 a4 z2 z4 hu).2
 have q1:its1.toArray[j]'(by rw [Zo]; exact h1)=w1:=by
  have:its1[j]?=some its1[j]:=Zc h1
  rw [z1] at this; cases this; rfl
 have q2:its2.toArray[j]'(by rw [Zo]; exact h2)=w2:=by
  have:its2[j]?=some its2[j]:=Zc h2
  rw [z3] at this; cases this; rfl
 rw [q1,q2]; exact this
theorem Cs (n:Nat) (S:aa) (xs ys:Yc):eqD (n+1) S (.tup xs) (.tup ys)=(bR (eqD n S) xs ys).map fun r=>r&&(xs.length==ys.length):=rfl
theorem E6 (n:Nat) (S:aa) (a b:D) (h1:a.kd=.list) (h2:b.kd=.list):eqD (n+1) S a b=match asL S a,asL S b with
  | some xs,some ys=>if xs.length=ys.length then bR (eqD n S) xs ys else some false
  | _,_=>none:=by simp only [eqD,h1,h2] <;> rfl
theorem Bw {a b:D} (h:eW a b=true):(a.kd=.flat/\b.kd=.flat)\/(a.kd=.tup/\b.kd=.tup)\/(a.kd=.list/\b.kd=.list)\/∃ xs y,a=.tup xs/\b=.str y:=by
 cases a <;> cases b <;> first|exact .inl ⟨rfl,rfl⟩|exact .inr (.inl ⟨rfl,rfl⟩)|exact .inr (.inr (.inl ⟨rfl,rfl⟩))|exact .inr (.inr (.inr ⟨_,_,rfl,rfl⟩))|cases h
theorem HV {S:aa} {a b:D} (e1:a.kd=.flat) (e2:b.kd=.flat):eqD deep S a b=bC a b:=by
 show eqD (11+1) S a b=_
 simp only [eqD,e1,e2]
theorem Ed {S:aa} {a b:D} {x y:V} {k:Bool} (hn:eW a b=true) (q:eqD deep S a b=some k) (r1:Rep Γ ι H a x) (r2:Rep Γ ι H b y) (e1:a.kd=.flat) (e2:b.kd=.flat):ud x y=true/\(decide (x=y))=k:=by
 rw [HV e1 e2] at q
 clear S
 cases r1 <;> first|(cases e1; done)|skip
 all_goals (cases r2 <;> first|(cases e2; done)|(cases hn; done)|skip)
 all_goals (refine ⟨rfl,?_⟩; simp [bC] at q; subst q; first|rfl|(rw [show (decide _:Bool)=_ from nj]; done)|(rw [show (decide _:Bool)=_ from nj])|rw [rQ]|rw [p6]|simp)
theorem Bq (hK:Γ.K=X.K) (hu:X.A.units+64 < cLine):OpR X (compareOp .NotEq) (a_ Γ xw (cmD .ne)):=by
 intro pins s σ H x y v u Q I rx ry h
 obtain ⟨ι,S,dx,dy,hS,r1,r2,ho⟩:=h
 obtain ⟨hn,ho⟩:=Out.guard ho
 obtain ⟨k,q,ho⟩:=we ho
 have fin:Q (.bl (!k)) H:=Out.val ho hS (.bl _)
 have hu0:X.A.units < cLine:=by omega
 have hd:deep=11+1:=rfl
 rcases Bw hn with ⟨e1,e2⟩|⟨e1,e2⟩|⟨e1,e2⟩|⟨xs0,y0,rfl,rfl⟩
 ·obtain ⟨z1,z2⟩:=Ed hn q r1 r2 e1 e2
  exact xE pins s σ H _ _ v u Q I rx ry ⟨z1,by rw [z2]; exact fin⟩
 ·-- tuples
  cases dx <;> first|(cases e1; done)|skip
  cases dy <;> first|(cases e2; done)|skip
  obtain ⟨a,xs,rfl,t1,p1⟩:=r1.cF
  obtain ⟨b,ys,rfl,t2,p2⟩:=r2.cF
  cases rx
  cases ry
  rw [hK] at t1 t2
  obtain ⟨its1,rv1,pt1,_⟩:=I.tuple t1
  obtain ⟨its2,rv2,pt2,_⟩:=I.tuple t2
  rw [hd,Cs,ZD] at q
  obtain ⟨r,hr,hk⟩:=q
  obtain ⟨e,he,hk2⟩:=gH hr
  refine NEQ.zd (same:=e) pt1 pt2 hu0 (su hK I hS (by show X.A.units+1+11 < _; omega) p1 p2 rv1 rv2 he) ?_
  rw [Zo,Zo,<- rv1.length,<- rv2.length,<- p1.length,<- p2.length,<- hk2,hk]
  exact ⟨.bl (!k),H,I,rfl,fin⟩
 ·-- lists
  rw [hd,E6 _ _ _ _ e1 e2] at q
  split at q
  ·rename_i ds es h1 h2
   obtain ⟨a,xs,rfl,s1,p1⟩:=hS.list r1 h1
   obtain ⟨b,ys,rfl,s2,p2⟩:=hS.list r2 h2
   cases rx
   cases ry
   rw [hK] at s1 s2
   obtain ⟨its1,rv1,pl1,_⟩:=I.list s1
   obtain ⟨its2,rv2,pl2,_⟩:=I.list s2
   have z1:its1.toArray.size=ds.length:=by rw [Zo,<- rv1.length,<- p1.length]
   have z2:its2.toArray.size=es.length:=by rw [Zo,<- rv2.length,<- p2.length]
   by_cases hlen:ds.length=es.length
   ·rw [Zd hlen] at q
    obtain ⟨e,he,hk2⟩:=gH q
    refine NEQ.xR (same:=e) pl1.isList pl2.isList (by omega) hu0 (su hK I hS (by show X.A.units+1+11 < _; omega) p1 p2 rv1 rv2 he) ?_
    rw [z1,show (List.range ds.length).all e=k by rw [hk2,<- hlen,Nat.min_self]]
    exact ⟨.bl (!k),H,I,rfl,fin⟩
   ·rw [Ze hlen] at q
    cases q
    exact NEQ.xG pl1.isList pl2.isList (by rw [z1,z2]; simpa using hlen) hu0 ⟨.bl true,H,I,rfl,fin⟩
  ·cases q
 ·-- a tuple and a text
  cases (show some false=some k from q)
  obtain ⟨a,xs,rfl,t1,p1⟩:=r1.cF
  cases r2
  cases rx
  obtain ⟨tk,rfl⟩:=(show ∃ tk,u=Value.str y0 tk from ry)
  rw [hK] at t1
  obtain ⟨its1,rv1,pt1,_⟩:=I.tuple t1
  exact PySem.SeqAt.RcNeAt.tuple_str y0 tk pt1 hu0 _ _ _ _ ⟨.bl true,H,I,rfl,fin⟩
theorem Rep.inj (hK:Γ.K=X.K) (I:Inv X pins σ H s) (hS:ao Γ ι H S) {d:D} {v:V} (r:Rep Γ ι H d v):∀ {d':D},Rep Γ ι H d' v->d=d':=by
 obtain ⟨K⟩:=Γ
 have hK':K=X.K:=hK
 subst hK'
 have tl:∀ {a:Addr} {xs ys:Ya},SqT X.K H a xs->SqL X.K H a ys->False:=fun {a xs ys} ht hl=>by
  obtain ⟨its,_,pl,_⟩:=I.list hl
  obtain ⟨its2,_,pt,_⟩:=I.tuple ht
  exact absurd rfl (SeqAt.ne_of_list_tuple pl.isList pt)
 have td:∀ {a:Addr} {xs:Ya} {kvs:Yb},SqT X.K H a xs->H a=some (.dT kvs)->False:=fun {a xs kvs} ht hd=>by
  obtain ⟨its2,_,⟨o,e1,_,n,e2⟩,_⟩:=I.tuple ht
  obtain ⟨_,_,_,_,o',es,ep,h1,_,h2,_⟩:=(show aW X.prog X.w H s.heap a (.dT kvs) from I.hok a _ hd)
  rw [e1] at h1; cases h1
  rw [e2] at h2; cases h2
 have tf:∀ {a:Addr} {xs:Ya} {o:Obj} {kvs:Yb},SqT X.K H a xs->H a=some (.frz o (.dT kvs))->False:=fun {a xs o kvs} ht hd=>by
  obtain ⟨its2,_,⟨o1,e1,_,n,e2⟩,_⟩:=I.tuple ht
  obtain ⟨g1,_,_,_,_,o',es,ep,h1,_,h2,_⟩:=(show s.heap.get? a=some o/\aW X.prog X.w H s.heap a (.dT kvs) from I.hok a _ hd)
  rw [e1] at h1; cases h1
  rw [e2] at h2; cases h2
 have tll:∀ {l:Nat} {a:Addr} {xs:Ya},SqT X.K H a xs->((∃ ys,H a=some (.lst ys))\/(∃ ys,H a=some (.dT ys))\/∃ o ys,H a=some (.frz o (.dT ys)))->False:=fun {l a xs} ht h=>by
  rcases h with ⟨ys,hy⟩|⟨ys,hy⟩|⟨o,ys,hy⟩
  ·exact tl ht (.of hy)
  ·exact td ht hy
  ·exact tf ht hy
 have ll:∀ {l:Nat} {a:Addr},ι[l]?=some a->(∃ xs,H a=some (.lst xs))\/(∃ xs,H a=some (.dT xs))\/∃ o xs,H a=some (.frz o (.dT xs)):=fun {l a} q=>by
  have hl:l < S.length:=by rw [<- hS.len]; exact (Zg.mp q).1
  obtain ⟨b,hb,c⟩:=hS.cell l S[l] (Zc hl)
  rw [q] at hb; cases hb
  cases e:S[l] with
  | lst ds=>rw [e] at c; obtain ⟨xs,hx,_⟩:=c; exact .inl ⟨xs,hx⟩
  | dct kvs=>rw [e] at c; obtain ⟨xs,hx,_⟩:=c; exact .inr (.inl ⟨xs,hx⟩)
  | fdc kvs=>rw [e] at c; obtain ⟨xs,⟨o,hx⟩,_⟩:=c; exact .inr (.inr ⟨o,xs,hx⟩)
 have fl:∀ {l:Nat} {a:Addr} {xs:Ya},Fro X.K H a xs->ι[l]?=some a->False:=fun {l a xs} hf q=>by
  obtain ⟨ob,hy,hno⟩:∃ ob,H a=some ob/\∀ o us,ob≠.frz o (.lst us):=by
   rcases ll q with ⟨ys,hy⟩|⟨ys,hy⟩|⟨o',ys,hy⟩
   ·exact ⟨_,hy,fun _ _ z=>by cases z⟩
   ·exact ⟨_,hy,fun _ _ z=>by cases z⟩
   ·exact ⟨_,hy,fun _ _ z=>by cases z⟩
  rcases hf with ⟨o,hf⟩|hf
  ·rw [hy] at hf; exact hno _ _ (Z0 hf)
  ·rcases hf (fun _=>none) with (z|⟨_,z⟩)|z
   ·cases z
   ·cases z
   ·obtain ⟨o,_,_,hk,_⟩:=z
    have hb:X.base.get? a=some o:=I.ok.mod.kin a o hk
    have:=(I.bs a o hb).2
    rw [hy] at this; cases this
 induction r with
 | non=>intro d' r'; cases r'; rfl
 | bl b=>intro d' r'; cases r'; rfl
 | int i=>intro d' r'; cases r'; rfl
 | str x=>intro d' r'; cases r'; rfl
 | @tup ds a xs t1 l1 p1 k1 ih =>
  intro d' r'
  cases r' with
  | @tup es _ ys t2 l2 p2 _ =>
   have e:xs=ys:=I.kD t1 t2
   subst e
   congr 1
   refine QE fun j=>?_
   by_cases hj:j < ds.length
   ·have h1:=Zc hj
    have h2:es[j]?=some es[j]:=Zc (by omega)
    have h3:xs[j]?=some xs[j]:=Zc (by omega)
    rw [h1,h2,ih j _ _ h1 h3 (p2 j _ _ h2 h3)]
   ·rw [Xz (by omega),Xz (by omega)]
  | fro f2 _ _=>exact (tl t1 f2.sq).elim
  | loc q=>exact (tll (l:=0) t1 (ll q)).elim
 | @fro ds a xs f1 l1 p1 ih =>
  intro d' r'
  cases r' with
  | tup t2 _ _ _=>exact (tl t2 f1.sq).elim
  | @fro es _ ys f2 l2 p2 =>
   have e:xs=ys:=I.kr f1.sq f2.sq
   subst e
   congr 1
   refine QE fun j=>?_
   by_cases hj:j < ds.length
   ·have h1:=Zc hj
    have h2:es[j]?=some es[j]:=Zc (by omega)
    have h3:xs[j]?=some xs[j]:=Zc (by omega)
    rw [h1,h2,ih j _ _ h1 h3 (p2 j _ _ h2 h3)]
   ·rw [Xz (by omega),Xz (by omega)]
  | loc q=>exact (fl f1 q).elim
 | @loc l a q =>
  intro d' r'
  cases r' with
  | tup t2 _ _ _=>exact (tll (l:=0) t2 (ll q)).elim
  | fro f2 _ _=>exact (fl f2 q).elim
  | loc q'=>rw [ic hS.nd q q']
theorem p9 {x:D}:∀ {ys:Yc} {k:Bool},inL S x ys=some k->(∀ y∈ys,eqD deep S y x=some ((eqD deep S y x).getD false))/\k=ys.any fun y=>(eqD deep S y x).getD false
 | [],k,h=>⟨fun y hy=>absurd hy (by simp),by cases h; rfl⟩
 | y::ys,k,h=>by
  simp only [inL] at h
  split at h
  ·rename_i a b e1 e2
   cases h
   obtain ⟨he,hk⟩:=p9 e2
   refine ⟨fun z hz=>?_,?_⟩
   ·rcases Zt.mp hz with rfl|hz
    ·simp [e1]
    ·exact he z hz
   ·rw [XZ,<- hk]; simp [e1]
  ·cases h
theorem kW (hK:Γ.K=X.K) (I:Inv X pins σ H s) (hS:ao Γ ι H S) {A:WY} (hu:A.units+deep < cLine) {dx:D} {x:V} {v:W9} (r1:Rep Γ ι H dx x) (rx:RelV x v) {ds:Yc} {xs:Ya} {its:WM} {k:Bool} (h:inL S dx ds=some k)
  (p:az Γ ι H ds xs) (rv:Vals xs its):∃ e:Value->Bool,(∀ y,y∈its.toArray->EqAt A s y v (e y))/\its.toArray.any e=k:=by
 classical
 obtain ⟨h1,h2⟩:=p9 h
 have key:∀ (d:D) (w:V) (u:W9),d∈ds->Rep Γ ι H d w->RelV w u->∀ (d':D) (w':V),Rep Γ ι H d' w'->RelV w' u->d'=d:=fun d w u _ r q d' w' r' q'=>by
  have e:w'=w:=q'.inj q
  subst e
  exact (Rep.inj hK I hS r' r)
 refine ⟨fun u=>decide (∃ d w,d∈ds/\Rep Γ ι H d w/\RelV w u/\(eqD deep S d dx).getD false=true),fun u hu'=>?_,?_⟩
 ·have hm:u∈its:=by simpa using hu'
  obtain ⟨j,hj⟩:=ZO hm
  obtain ⟨w,hw,q⟩:=Paired.get' rv hj
  obtain ⟨d,hd,r⟩:=Paired.get' p hw
  have hd':=ZA hd
  have e:=(oz hK I hS deep A d dx _ w x u v (h1 d hd') r r1 q rx hu).2
  have:decide (∃ d w,d∈ds/\Rep Γ ι H d w/\RelV w u/\(eqD deep S d dx).getD false=true)=(eqD deep S d dx).getD false:=by
   cases z:(eqD deep S d dx).getD false with
   | true=>exact Zj ⟨d,w,hd',r,q,z⟩
   | false =>
    refine Zq ?_
    rintro ⟨d',w',_,r',q',z'⟩
    rw [key d w u hd' r q d' w' r' q',z] at z'
    cases z'
  show EqAt A s u v (decide (∃ d w,d∈ds/\Rep Γ ι H d w/\RelV w u/\(eqD deep S d dx).getD false=true))
  rw [this]; exact e
 ·rw [h2]
  rw [Qs]
  simp only [Array.any_eq_true',List.any_eq_true,XV]
  constructor
  ·rintro ⟨u,hu',d,w,hd,r,q,z⟩
   exact ⟨d,hd,z⟩
  ·rintro ⟨d,hd,z⟩
   obtain ⟨j,hj⟩:=ZO hd
   obtain ⟨w,hw,r⟩:=Paired.get p hj
   obtain ⟨u,hu',q⟩:=rv.get hw
   exact ⟨u,by simpa using ZA hu',d,w,hd,r,q,z⟩
theorem i7 (d:D) (S:aa):(∃ ds,items d S=.ok ds S)\/items d S=.bad:=by
 cases d with
 | tup ds=>exact .inl ⟨ds,rfl⟩
 | fro ds=>exact .inl ⟨ds,rfl⟩
 | loc l =>
  rw [o8]
  cases listAt S l with
  | none=>exact .inr rfl
  | some ds=>exact .inl ⟨ds,rfl⟩
 | _=>exact .inr rfl
theorem Out.items {α:Type} {d:D} {f:List D->M α} {k:α->aa->List Addr->Hp->Prop} (ho:Out Γ xw ι H ((EV.items d>>=f) S) k):∃ ds,EV.items d S=.ok ds S/\Out Γ xw ι H (f ds S) k:=by
 rcases i7 d S with ⟨ds,e⟩|e
 ·rw [aj e] at ho; exact ⟨ds,e,ho⟩
 ·rw [aZ e] at ho; exact ho.elim
theorem Out.qM {α:Type} {o:Option α} {k:α->aa->List Addr->Hp->Prop} (ho:Out Γ xw ι H (EV.opt o S) k):∃ a,o=some a/\Out Γ xw ι H (.ok a S) k:=by
 cases o with
 | none=>exact ho.elim
 | some a=>exact ⟨a,rfl,ho⟩
theorem uH {neg:Bool} {a b:D} {k:D->aa->List Addr->Hp->Prop} (ho:Out Γ xw ι H (inM neg a b S) k):∃ ds c,items b S=.ok ds S/\inL S a ds=some c/\Out Γ xw ι H (.ok (.bl (c != neg)) S) k:=by
 obtain ⟨ds,e,ho⟩:=Out.items ho
 unfold inA at ho
 cases q:inL S a ds with
 | none=>rw [q] at ho; exact ho.elim
 | some c=>rw [q] at ho; exact ⟨ds,c,e,q,ho⟩
theorem cQ (hS:ao Γ ι H S) {d:D} {v:V} {ds:Yc} {S':aa} (r:Rep Γ ι H d v) (h:items d S=.ok ds S'):S'=S/\∃ a xs,v=.ref a/\(SqL Γ.K H a xs\/SqT Γ.K H a xs)/\az Γ ι H ds xs/\(∀ l,d=.loc l->SqL Γ.K H a xs):=by
 cases d with
 | tup es=>cases h; obtain ⟨a,xs,e,t,p⟩:=r.cF; exact ⟨rfl,a,xs,e,.inr t,p,fun l e=>by cases e⟩
 | fro es=>cases h; obtain ⟨a,xs,e,f,p⟩:=r.fG; exact ⟨rfl,a,xs,e,.inl f.sq,p,fun l e=>by cases e⟩
 | loc l =>
  have h':(match listAt S l with|some ds=>Res.ok ds S|none=>.bad)=.ok ds S':=h
  cases q:listAt S l with
  | none=>rw [q] at h'; cases h'
  | some es =>
   rw [q] at h'
   cases h'
   obtain ⟨a,xs,e,t,p⟩:=hS.list r (show asL S (.loc l)=some ds from q)
   exact ⟨rfl,a,xs,e,.inl t,p,fun _ _=>t⟩
 | _=>cases h
theorem HK (hK:Γ.K=X.K) (hu:X.A.units+64 < cLine):OpR X (compareOp .In) (a_ Γ xw (inM false)):=by
 intro pins s σ H x y v u Q I rx ry h
 obtain ⟨ι,S,dx,dy,hS,r1,r2,ho⟩:=h
 obtain ⟨ds,c,h1,h2,ho⟩:=uH ho
 have fin:Q (.bl c) H:=by have:=Out.val ho hS (.bl _); simpa using this
 obtain ⟨_,a,xs,rfl,sq,p,_⟩:=cQ hS r2 h1
 cases ry
 rw [hK] at sq
 rcases sq with sq|sq
 ·obtain ⟨its,rv,pl,_⟩:=I.list sq
  obtain ⟨e,he,hk⟩:=kW hK I hS (A:=X.A.in1) (by show X.A.units+1+12 < cLine; omega) r1 rx h2 p rv
  exact SeqAt.in_listAt e pl.isList he (by rw [hk]; exact ⟨.bl c,H,I,rfl,fin⟩)
 ·obtain ⟨its,rv,pl,_⟩:=I.tuple sq
  obtain ⟨e,he,hk⟩:=kW hK I hS (A:=X.A.in1) (by show X.A.units+1+12 < cLine; omega) r1 rx h2 p rv
  exact SeqAt.in_tupleAt e pl he (by rw [hk]; exact ⟨.bl c,H,I,rfl,fin⟩)
theorem Iq (hK:Γ.K=X.K) (hu:X.A.units+64 < cLine):OpR X (compareOp .NotIn) (a_ Γ xw (inM true)):=by
 intro pins s σ H x y v u Q I rx ry h
 obtain ⟨ι,S,dx,dy,hS,r1,r2,ho⟩:=h
 obtain ⟨ds,c,h1,h2,ho⟩:=uH ho
 have fin:Q (.bl (!c)) H:=by have:=Out.val ho hS (.bl _); simpa using this
 obtain ⟨_,a,xs,rfl,sq,p,_⟩:=cQ hS r2 h1
 cases ry
 rw [hK] at sq
 rcases sq with sq|sq
 ·obtain ⟨its,rv,pl,_⟩:=I.list sq
  obtain ⟨e,he,hk⟩:=kW hK I hS (A:=X.A.in1) (by show X.A.units+1+12 < cLine; omega) r1 rx h2 p rv
  exact SeqAt.notIn_listAt e pl.isList he (by rw [hk]; exact ⟨.bl (!c),H,I,rfl,fin⟩)
 ·obtain ⟨its,rv,pl,_⟩:=I.tuple sq
  obtain ⟨e,he,hk⟩:=kW hK I hS (A:=X.A.in1) (by show X.A.units+1+12 < cLine; omega) r1 rx h2 p rv
  exact SeqAt.notIn_tupleAt e pl he (by rw [hk]; exact ⟨.bl (!c),H,I,rfl,fin⟩)
theorem Ds (hK:Γ.K=X.K):rD X (fun x H Q=>∃ ι S d,ao Γ ι H S/\Rep Γ ι H d x/\Out Γ xw ι H (truth d S) fun b _ _ H'=>Q b H'):=by
 intro pins s σ H x v Q I rx h
 obtain ⟨ι,S,d,hS,r,ho⟩:=h
 refine Ff pins s σ H x v Q I rx ?_
 cases d with
 | bl b=>cases r; exact ⟨b,rfl,ho.here hS⟩
 | non=>cases r; exact ⟨false,rfl,ho.here hS⟩
 | int i=>cases r; exact ⟨_,rfl,ho.here hS⟩
 | tup ds =>
  obtain ⟨a,xs,rfl,t,p⟩:=r.cF
  rw [hK] at t
  refine ⟨!ds.isEmpty,.inr (.inl ⟨xs,t,?_⟩),ho.here hS⟩
  cases p <;> rfl
 | fro ds =>
  obtain ⟨a,xs,rfl,t,p⟩:=r.fG
  have t:=t.sq
  rw [hK] at t
  refine ⟨!ds.isEmpty,.inl ⟨xs,t,?_⟩,ho.here hS⟩
  cases p <;> rfl
 | loc l =>
  obtain ⟨ds,q,ho'⟩:=Out.items ho
  obtain ⟨_,a,xs,rfl,_,p,t⟩:=cQ hS r q
  ·have t:=t l rfl
   rw [hK] at t
   refine ⟨!ds.isEmpty,.inl ⟨xs,t,?_⟩,ho'.here hS⟩
   cases p <;> rfl
 | _=>exact ho.elim
theorem BP {ds:Yc} {xs:Ya} {i:Int} {d:D} (p:az Γ ι H ds xs) (h:EV.atI ds i=some d):∃ v,L2.atI xs i=some v/\Rep Γ ι H d v:=by
 unfold EV.atI at h
 cases e:EV.ixN ds.length i with
 | none=>rw [e] at h; cases h
 | some j =>
  rw [e] at h
  obtain ⟨v,hv,r⟩:=Paired.get p h
  refine ⟨v,?_,r⟩
  have e':L2.ixN xs.length i=some j:=by rw [<- p.length]; exact e
  unfold L2.atI
  rw [e']
  exact hv
theorem GB (hK:Γ.K=X.K):IxR X (a_ Γ xw ixD):=by
 intro value slice pins s σ H x y v u Q I rx ry h hsub
 obtain ⟨ι,S,dx,dy,hS,r1,r2,ho⟩:=h
 cases dy with
 | int j =>
  cases r2
  obtain ⟨ds,q,ho'⟩:=Out.items ho
  obtain ⟨d,q2,ho'⟩:=Out.qM ho'
  obtain ⟨_,a,xs,rfl,sq,p,_⟩:=cQ hS r1 q
  ·rw [hK] at sq
   ·obtain ⟨w,hw,rw'⟩:=BP p q2
    have fin:=Out.val ho' hS rw'
    rcases sq with sq|sq
    ·exact BJ value slice pins s σ H _ _ v u Q I rx ry ⟨a,xs,j,w,rfl,rfl,sq,hw,fin⟩ hsub
    ·exact Cg value slice pins s σ H _ _ v u Q I rx ry ⟨a,xs,j,w,rfl,rfl,sq,hw,fin⟩ hsub
 | _=>exact ho.elim
end
end EV

namespace EV
open PySem PySem.Spec PyProof.Rows L2
theorem ints_map:∀ {ds:Yc} {is:WJ},allInts ds=some is->ds=is.map D.int
 | [],is,h=>by cases h; rfl
 | d::r,is,h=>by
  cases d with
  | int i =>
   simp only [allInts,ZD] at h
   obtain ⟨js,e,rfl⟩:=h
   rw [ints_map e]; rfl
  | _=>cases h
theorem rW:∀ {ds:Yc} {is:List Bool},dP ds=some is->ds=is.map D.bl
 | [],is,h=>by cases h; rfl
 | d::r,is,h=>by
  cases d with
  | bl i =>
   simp only [dP,ZD] at h
   obtain ⟨js,e,rfl⟩:=h
   rw [rW e]; rfl
  | _=>cases h
theorem fR {Γ:Gx} {ι:WQ} {H:Hp}:∀ {is:WJ} {xs:Ya},az Γ ι H (is.map D.int) xs->xs=is.map V.int
 | [],_,.nil=>rfl
 | i::r,_,.cons (b:=y) h t=>by
  cases h
  rw [fR t]; rfl
theorem rS {Γ:Gx} {ι:WQ} {H:Hp}:∀ {is:List Bool} {xs:Ya},az Γ ι H (is.map D.bl) xs->xs=is.map V.bl
 | [],_,.nil=>rfl
 | i::r,_,.cons (b:=y) h t=>by
  cases h
  rw [rS t]; rfl
theorem gg {Γ:Gx} {ι:WQ} {H:Hp}:∀ (is:WJ),az Γ ι H (is.map D.int) (is.map V.int)
 | []=>.nil
 | i::r=>.cons (.int i) (gg r)
theorem tZ:∀ t:List Int,allInts (t.map D.int)=some t
 | []=>rfl
 | a::r=>by show (allInts (r.map D.int)).map (a :: ·)=_; rw [tZ r]; rfl
theorem Rep.trk {Γ:Gx} {ι:WQ} {H:Hp} {t:WJ} {v:V} (r:Rep Γ ι H (.tup (t.map D.int)) v):∃ c,v=.ref c/\H c=some (.tup (t.map V.int)):=by
 cases r with
 | tup h1 h2 h3 h4=>exact ⟨_,rfl,by rw [<- fR (Paired.of_get h2 h3)]; exact h4 t (tZ t)⟩
theorem tE (is:WJ):∀ k,preSum (fun i=>is.getD i 0) k=(is.take k).sum
 | 0=>by simp [preSum]
 | k+1=>by
  rw [preSum,tE is k,List.take_add_one,Wn]
  congr 1
  rw [ZJ]
  cases is[k]? <;> simp
theorem range_all (bs:List Bool):(List.range bs.length).all (fun i=>bs.getD i false)=bs.all id:=by
 rw [Qs,Xa,Xa]
 constructor
 ·intro h b hb
  obtain ⟨i,e⟩:=ZO hb
  have:=h i (by rw [ZS]; exact (Zg.mp e).1)
  rw [ZJ,e] at this
  exact this
 ·intro h i hi
  rw [ZS] at hi
  rw [ZJ,Zc hi]
  exact h _ (Xo hi)
theorem uY:∀ (r:WJ) (i:Int),i<=r.foldl max i/\∀ a∈r,a<=r.foldl max i
 | [],i=>⟨Qh _,fun a h=>absurd h (by simp)⟩
 | b::r,i=>by
  obtain ⟨h1,h2⟩:=uY r (max i b)
  simp only [List.foldl_cons]
  refine ⟨by omega,fun a ha=>?_⟩
  rcases Zt.mp ha with rfl|ha
  ·omega
  ·exact h2 a ha
theorem tY:∀ (r:WJ) (i:Int),r.foldl max i=i\/r.foldl max i∈r
 | [],i=>.inl rfl
 | b::r,i=>by
  simp only [List.foldl_cons]
  rcases tY r (max i b) with h|h
  ·rw [h]
   by_cases hb:b<=i
   ·exact .inl (by omega)
   ·exact .inr (by rw [show max i b=b by omega]; exact Zl)
  ·exact .inr (Zm _ h)
theorem nq (i:Int):∀ r:List Int,(ins i r).Perm (i::r)
 | []=>.refl _
 | j::r=>by
  simp only [ins]
  split
  ·exact .refl _
  ·exact ((nq i r).cons j).trans (.swap i j r)
theorem nh:∀ r:List Int,(g_ r).Perm r
 | []=>.refl _
 | i::r=>(nq i _).trans ((nh r).cons i)
theorem rL (i:Int):∀ {r:WJ},r.Pairwise (·<=·)->(ins i r).Pairwise (·<=·)
 | [],_=>by simp [ins]
 | j::r,h=>by
  simp only [ins]
  split
  ·rename_i hij
   refine XB.mpr ⟨fun a ha=>?_,h⟩
   rcases Zt.mp ha with rfl|ha
   ·exact hij
   ·exact Wo hij ((XB.mp h).1 a ha)
  ·rename_i hij
   refine XB.mpr ⟨fun a ha=>?_,rL i (XB.mp h).2⟩
   rcases Zt.mp ((nq i r).mem_iff.mp ha) with rfl|ha
   ·omega
   ·exact (XB.mp h).1 a ha
theorem t6:∀ r:List Int,(g_ r).Pairwise (·<=·)
 | []=>.nil
 | i::r=>rL i (t6 r)
section
variable {X:Cx} {Γ:Gx} {xw:XW} {pins:WI} {σ:L2.St} {H:Hp} {s:WN} {ι:WQ} {S:aa} {sub:Sub}
theorem ju {b:Bi} {xs:Ya} {Q:VK} (hb:b.isR=false) (hb2:∀ a c S,bi2 b a c S=.bad) (h:dm Γ xw (biD sub b) xs H Q) :
  ∃ ι S a x,xs=[x]/\ao Γ ι H S/\Rep Γ ι H a x/\Out Γ xw ι H (bi1 sub b a S) fun d _ ι' H'=>∀ v,Rep Γ ι' H' d v->Q v H':=by
 obtain ⟨ι,S,ds,hS,r,ho⟩:=h
 unfold biD at ho
 rw [hb] at ho
 match ds,r with
 | [],.nil=>exact ho.elim
 | [a],.cons (b:=x) ra .nil=>exact ⟨ι,S,a,x,rfl,hS,ra,ho⟩
 | [a,c],_ =>
  have ho':Out Γ xw ι H (bi2 b a c S) _:=ho
  rw [hb2] at ho'
  exact ho'.elim
 | _::_::_::_,_=>exact ho.elim
theorem oj (hK:Γ.K=X.K) (I:Inv X pins σ H s) {a:Addr} {xs:Ya} (sq:SqL Γ.K H a xs\/SqT Γ.K H a xs):∃ its:List Value,Vals xs its/\∀ (A:WY) (E:WH) (Q:WH),A.handled=none ->
  (∀ (I0:Addr) (fp:WQ) (St:Nat->Heap->Prop) (s2:WN),Walks X.prog X.w A I0 fp [I0] its.toArray.size (fun i v=>its.toArray[i]?=some v) St->St 0 s2.heap->(∀ b∈fp,b < s2.heap.objs.size) ->
   (∀ h' tk,(∀ b o,b ∉ [I0]->s2.heap.get? b=some o->h'.get? b=some o)->Inv X pins σ H { s2 with heap:=h',toks:=tk })->Q (.ref I0) s2)->wpAny (model X.prog X.w) A (pyIter (.ref a)) Q E s:=by
 rw [hK] at sq
 rcases sq with sq|sq
 ·obtain ⟨its,rv,pl,_⟩:=I.list sq
  refine ⟨its,rv,fun A E Q hh hQ=>wpAny_pyIter_list pl.isList ?_⟩
  obtain ⟨o,ho,_⟩:=id pl.isList
  have hlt:=Zv ho
  refine hQ s.heap.objs.size _ _ _ (Walks.list hh _ a (ZI hlt) its.toArray) ⟨⟨_,Zx _ rfl,rfl,rfl⟩,pl.isList.at fun o e=>Zh _ e⟩ (fun b hb=>?_) fun h' tk hk=>?_
  ·rw [Xq]
   rcases Zt.mp hb with rfl|hb
   ·exact XA _
   ·have:b=a:=by simpa using hb
    subst this; exact XY hlt
  ·exact I.kept fun b u e=>hk b u (by simpa using ZI (Zv e)) (Zh _ e)
 ·obtain ⟨its,rv,pl,_⟩:=I.tuple sq
  refine ⟨its,rv,fun A E Q hh hQ=>Qv (show s.heap.IsTuple a its.toArray from pl) ?_⟩
  obtain ⟨o,ho,hc,hd⟩:=id pl
  have hlt:=Zv ho
  refine hQ s.heap.objs.size _ _ _ (Walks.tuple hh _ a (ZI hlt) its.toArray) ⟨⟨_,Zx _ rfl,rfl,rfl⟩,⟨o,Zh _ ho,hc,hd⟩⟩ (fun b hb=>?_) fun h' tk hk=>?_
  ·rw [Xq]
   rcases Zt.mp hb with rfl|hb
   ·exact XA _
   ·have:b=a:=by simpa using hb
    subst this; exact XY hlt
  ·exact I.kept fun b u e=>hk b u (by simpa using ZI (Zv e)) (Zh _ e)
theorem lU {is:WJ} {its:WM} (rv:Vals (is.map V.int) its) {i:Nat} {v:W9} (h:its.toArray[i]?=some v):∃ t,v=.int (is.getD i 0) t:=by
 have h':its[i]?=some v:=by simpa using h
 obtain ⟨x,hx,r⟩:=Paired.get' rv h'
 rw [ZK,ZD] at hx
 obtain ⟨j,hj,rfl⟩:=hx
 obtain ⟨t,rfl⟩:=r
 exact ⟨t,by rw [ZJ,hj]; rfl⟩
theorem IK {is:List Bool} {its:WM} (rv:Vals (is.map V.bl) its) {i:Nat} {v:W9} (h:its.toArray[i]?=some v):v=.bool (is.getD i false):=by
 have h':its[i]?=some v:=by simpa using h
 obtain ⟨x,hx,r⟩:=Paired.get' rv h'
 rw [ZK,ZD] at hx
 obtain ⟨j,hj,rfl⟩:=hx
 cases r
 rw [ZJ,hj]; rfl
theorem xy (hK:Γ.K=X.K):cA X (.builtin "len") (dm Γ xw (biD sub .len)):=by
 intro pins s σ H xs us Q I rs h
 obtain ⟨ι,S,a,x,rfl,hS,r,ho⟩:=ju rfl (fun _ _ _=>rfl) h
 obtain ⟨ds,q,ho⟩:=Out.items ho
 obtain ⟨_,p,ys,rfl,sq,rp,_⟩:=cQ hS r q
 rw [hK] at sq
 refine FN pins s σ H _ us Q I rs ⟨p,ys,rfl,sq,?_⟩
 rw [<- rp.length]
 exact Out.val ho hS (.int _)
theorem BD (hK:Γ.K=X.K) (hc:X.calm=true):cA X (.builtin "all") (dm Γ xw (biD sub .all)):=by
 intro pins s σ H xs us Q I rs h
 obtain ⟨ι,S,a,x,rfl,hS,r,ho⟩:=ju rfl (fun _ _ _=>rfl) h
 obtain ⟨ds,q,ho⟩:=Out.items ho
 obtain ⟨bs,q2,ho⟩:=Out.opt ho
 obtain ⟨_,p,ys,rfl,sq,rp,_⟩:=cQ hS r q
 rw [rW q2] at rp
 have e:=rS rp
 subst e
 obtain ⟨u,rfl,ru⟩:=rs.one
 cases ru
 obtain ⟨its,rv,wk⟩:=oj hK I sq
 refine call_all_walk (wk X.A.in1 _ _ (I.ok.hd hc) fun I0 fp St s2 W st fl inv=>⟨I0,fp,[I0],_,_,St,fun i=>bs.getD i false,rfl,W,st,fun i v s' Q' E' hv hq=>?_,fun h' tk hk=>?_⟩)
 ·rw [IK rv hv]; exact Xk hq
 ·have hl:its.toArray.size=bs.length:=by rw [Zo,<- rv.length,Zb]
  rw [hl,range_all]
  exact ⟨.bl _,H,inv h' tk hk,rfl,Out.val ho hS (.bl _)⟩
theorem CF (hK:Γ.K=X.K) (hc:X.calm=true):cA X (.builtin "sum") (dm Γ xw (biD sub .sum)):=by
 intro pins s σ H xs us Q I rs h
 obtain ⟨ι,S,a,x,rfl,hS,r,ho⟩:=ju rfl (fun _ _ _=>rfl) h
 obtain ⟨ds,q,ho⟩:=Out.items ho
 obtain ⟨is,q2,ho⟩:=Out.opt ho
 obtain ⟨_,p,ys,rfl,sq,rp,_⟩:=cQ hS r q
 rw [ints_map q2] at rp
 have e:=fR rp
 subst e
 obtain ⟨u,rfl,ru⟩:=rs.one
 cases ru
 obtain ⟨its,rv,wk⟩:=oj hK I sq
 refine call_sum_walkG (wk X.A.in1 _ _ (I.ok.hd hc) fun I0 fp St s2 W st fl inv=>⟨I0,fp,[I0],_,_,St,fun i=>is.getD i 0,rfl,W,st,fl,fun i v hv=>lU rv hv,fun h' tk t' hk=>?_⟩)
 have hl:its.toArray.size=is.length:=by rw [Zo,<- rv.length,Zb]
 rw [hl,tE,Z4]
 exact ⟨.int _,H,inv h' tk hk,⟨_,rfl⟩,Out.val ho hS (.int _)⟩
end
end EV

namespace EV
open PySem PySem.Spec PyProof.Rows L2
section
variable {X:Cx} {Γ:Gx} {xw:XW} {pins:WI} {σ:L2.St} {H:Hp} {s:WN} {ι:WQ} {S:aa} {sub:Sub}
theorem D7 {b:Bi} {xs:Ya} {Q:VK} (hb:b.isR=false) (h:dm Γ xw (biD sub b) xs H Q) :
  (∃ ι S a x,xs=[x]/\ao Γ ι H S/\Rep Γ ι H a x/\Out Γ xw ι H (bi1 sub b a S) fun d _ ι' H'=>∀ v,Rep Γ ι' H' d v->Q v H') \/
  (∃ ι S a c x y,xs=[x,y]/\ao Γ ι H S/\Rep Γ ι H a x/\Rep Γ ι H c y/\Out Γ xw ι H (bi2 b a c S) fun d _ ι' H'=>∀ v,Rep Γ ι' H' d v->Q v H'):=by
 obtain ⟨ι,S,ds,hS,r,ho⟩:=h
 unfold biD at ho
 rw [hb] at ho
 have hl:ds.length=1\/ds.length=2\/ds=[]\/∃ a c e q,ds=a::c::e::q:=by
  rcases ds with _|⟨a,_|⟨c,_|⟨e,q⟩⟩⟩
  ·exact .inr (.inr (.inl rfl))
  ·exact .inl rfl
  ·exact .inr (.inl rfl)
  ·exact .inr (.inr (.inr ⟨_,_,_,_,rfl⟩))
 rcases hl with hl|hl|rfl|⟨_,_,_,_,rfl⟩
 ·obtain ⟨a,_,x,_,rfl,rfl,ra,r,hl⟩:=Paired.step r hl
  obtain ⟨rfl,rfl⟩:=Paired.last r hl
  exact .inl ⟨ι,S,a,x,rfl,hS,ra,ho⟩
 ·obtain ⟨a,_,x,_,rfl,rfl,ra,r,hl⟩:=Paired.step r hl
  obtain ⟨c,_,y,_,rfl,rfl,rc,r,hl⟩:=Paired.step r hl
  obtain ⟨rfl,rfl⟩:=Paired.last r hl
  exact .inr ⟨ι,S,a,c,x,y,rfl,hS,ra,rc,ho⟩
 ·exact ho.elim
 ·exact ho.elim
theorem IT {is:WJ} {i:Int} {r:WJ} (h:is=i::r) {M:Int} (hm:M∈is) (hle:∀ a∈is,a<=M):M=r.foldl max i:=by
 subst h
 obtain ⟨h1,h2⟩:=uY r i
 have e1:M<=r.foldl max i:=by
  rcases Zt.mp hm with rfl|hm
  ·exact h1
  ·exact h2 M hm
 have e2:r.foldl max i<=M:=by
  rcases tY r i with h|h
  ·rw [h]; exact hle i Zl
  ·exact hle _ (Zm _ h)
 omega
theorem getD_in {is:WJ} {j:Nat} (h:j < is.length):is.getD j 0∈is:=by
 rw [ZJ,Zc h]
 exact Xo h
theorem Hy (hK:Γ.K=X.K) (hc:X.calm=true):cA X (.builtin "max") (dm Γ xw (biD sub .max)):=by
 intro pins s σ H xs us Q I rs h
 rcases D7 rfl h with ⟨ι,S,a,x,rfl,hS,r,ho⟩|⟨ι,S,a,c,x,y,rfl,hS,r1,r2,ho⟩
 ·obtain ⟨ds,q,ho⟩:=Out.items ho
  obtain ⟨is,q2,ho⟩:=Out.opt ho
  obtain ⟨_,p,ys,rfl,sq,rp,_⟩:=cQ hS r q
  rw [ints_map q2] at rp
  have e:=fR rp
  subst e
  obtain ⟨u,rfl,ru⟩:=rs.one
  cases ru
  cases hi:is with
  | nil=>rw [hi] at ho; exact ho.elim
  | cons i0 r0 =>
   rw [hi] at ho
   have fin:Q (.int (r0.foldl max i0)) H:=Out.val ho hS (.int _)
   obtain ⟨its,rv,wk⟩:=oj hK I sq
   have hl:its.toArray.size=is.length:=by rw [Zo,<- rv.length,Zb]
   refine call_max_walk (wk X.A.in1 _ _ (I.ok.hd hc) fun I0 fp St s2 W st fl inv=>⟨I0,fp,[I0],_,_,St,fun i j=>decide (is.getD i 0 > is.getD j 0),rfl,W,st,fl,by rw [hl,hi]; simp,CmpOf.ints_gt (fun i=>is.getD i 0) fun i v hv=>lU rv hv,fun v h' tk hv hk=>?_⟩)
   obtain ⟨t,rfl⟩:=lU rv hv
   obtain ⟨h1,h2⟩:=argBest_gt (fun i=>is.getD i 0) (its.toArray.size - 1)
   have hpos:0 < is.length:=by rw [hi]; simp
   have e:is.getD (argBest (fun i j=>decide (is.getD i 0 > is.getD j 0)) (its.toArray.size - 1)) 0=r0.foldl max i0:=IT hi (getD_in (by omega)) fun b hb=>by
    obtain ⟨j,ej⟩:=ZO hb
    have hj:=(Zg.mp ej).1
    have:=h2 j (by omega)
    rw [show is.getD j 0=b by rw [ZJ,ej]; rfl] at this
    exact this
   rw [e]
   exact ⟨.int _,H,inv h' tk hk,⟨_,rfl⟩,fin⟩
 ·cases a with
  | int i =>
   cases c with
   | int j=>cases r1; cases r2; exact yi hc pins s σ H _ us Q I rs ⟨i,j,rfl,Out.val ho hS (.int _)⟩
   | _=>exact ho.elim
  | _=>exact ho.elim
theorem Eu (hS:ao Γ ι H S) {d:D} {v:V} {ds:Yc} {S':aa} (r:Rep Γ ι H d v) (h:c_ d S=.ok ds S'):S'=S/\∃ a xs,v=.ref a/\SqL Γ.K H a xs/\az Γ ι H ds xs:=by
 cases d with
 | fro es=>cases h; obtain ⟨a,xs,e,f,p⟩:=r.fG; exact ⟨rfl,a,xs,e,f.sq,p⟩
 | loc l=>obtain ⟨e,a,xs,e2,_,p,t⟩:=cQ hS r (show items (.loc l) S=.ok ds S' from h); exact ⟨e,a,xs,e2,t l rfl,p⟩
 | _=>cases h
theorem Ik (d:D) (S:aa):(∃ ds,c_ d S=.ok ds S)\/c_ d S=.bad:=by
 cases d with
 | fro ds=>exact .inl ⟨ds,rfl⟩
 | loc l=>exact i7 (.loc l) S
 | _=>exact .inr rfl
theorem Out.c_ {α:Type} {d:D} {f:List D->M α} {k:α->aa->List Addr->Hp->Prop} (ho:Out Γ xw ι H ((EV.c_ d>>=f) S) k):∃ ds,EV.c_ d S=.ok ds S/\Out Γ xw ι H (f ds S) k:=by
 rcases Ik d S with ⟨ds,e⟩|e
 ·rw [aj e] at ho; exact ⟨ds,e,ho⟩
 ·rw [aZ e] at ho; exact ho.elim
theorem qx:∀ {vs:WM} {ns:WJ},IntsAre vs ns->Vals (ns.map V.int) vs
 | _,_,.nil=>.nil
 | _,_,.cons n t h=>.cons ⟨t,rfl⟩ (qx h)
theorem Gw (hK:Γ.K=X.K):cA X (.type "tuple") (dm Γ xw (biD sub .tuple)):=by
 intro pins s σ H xs us Q I rs h
 obtain ⟨ι,S,a,x,rfl,hS,r,ho⟩:=ju rfl (fun _ _ _=>rfl) h
 obtain ⟨ds,q,ho2⟩:=Out.items ho
 have r0:=r
 obtain ⟨_,p,ys,rfl,sq,rp,hloc⟩:=cQ hS r q
 rw [hK] at sq
 cases a with
 | tup es =>
  cases q
  obtain ⟨b,xs,e,t,_⟩:=r0.cF
  cases e
  rw [hK] at t
  exact oB pins s σ H _ us Q I rs ⟨p,xs,rfl,.inr ⟨t,Out.val ho2 hS r0⟩⟩
 | fro es =>
  cases q
  obtain ⟨b,xs,e,t,rp2⟩:=r0.fG
  cases e
  have t:=t.sq
  rw [hK] at t
  exact oB pins s σ H _ us Q I rs ⟨p,xs,rfl,.inl ⟨t,fun l hl=>Out.tup ho2 hS hl rp2⟩⟩
 | loc l =>
  have t:=hloc l rfl
  rw [hK] at t
  exact oB pins s σ H _ us Q I rs ⟨p,ys,rfl,.inl ⟨t,fun l hl=>Out.tup ho2 hS hl rp⟩⟩
 | _=>cases q
noncomputable def Ty.name:Ty->Option String
 | .int=>some "int" | .bool=>some "bool" | .str=>some "str" | .list=>some "list" | .tuple=>some "tuple" | .dict=>some "dict" | .cls _=>none
theorem A6 (hK:Γ.K=X.K) (I:Inv X pins σ H s) (hS:ao Γ ι H S) {t:Ty} {T:String} (ht:t.name=some T) {d:D} {x:V} {v:W9} (r:Rep Γ ι H d x) (rx:RelV x v) {k:Bool} (h:gb sub S d t=some k) {A:WY} {E:WH} {Q:WH}
  (hq:∀ tk,Q (.bool k) { s with toks:=tk }):wpAny (model X.prog X.w) A (call (.builtin "isinstance") [v,.type T]) Q E s:=by
 have seqL:∀ {a:Addr} {xs:Ya},SqL X.K H a xs->∀ {b:Bool},PySem.W.kitOne X.K (.type "list") (.type T)=some b->(∀ tk,Q (.bool b) { s with toks:=tk })->wpAny (model X.prog X.w) A (call (.builtin "isinstance") [.ref a,.type T]) Q E s:=fun {a xs} sq {b} e hq=>by
  obtain ⟨its,_,pl,_⟩:=I.list sq
  obtain ⟨o,h1,h2,_⟩:=pl.isList
  exact Qy PySem.W.kitx_list I.kIn ⟨o,h1,h2⟩ e (fun z=>nomatch z) hq
 cases d with
 | non=>cases r; cases rx; cases t <;> cases ht <;> cases h <;> exact Qy PySem.W.kitx_none I.kIn True.intro (by rfl) (fun z=>nomatch z) hq
 | bl b=>cases r; cases rx; cases t <;> cases ht <;> cases h <;> exact Qy PySem.W.kitx_bool I.kIn True.intro (by rfl) (fun z=>nomatch z) hq
 | int b=>cases r; obtain ⟨tk,rfl⟩:=rx; cases t <;> cases ht <;> cases h <;> exact Qy PySem.W.kitx_int I.kIn True.intro (by rfl) (fun z=>nomatch z) hq
 | str b=>cases r; obtain ⟨tk,rfl⟩:=rx; cases t <;> cases ht <;> cases h <;> exact Qy PySem.W.kitx_str I.kIn True.intro (by rfl) (fun z=>nomatch z) hq
 | tup ds =>
  obtain ⟨a,xs,rfl,sq,_⟩:=r.cF
  cases rx
  rw [hK] at sq
  obtain ⟨its,_,pl,_⟩:=I.tuple sq
  obtain ⟨o,h1,h2,_⟩:=pl
  cases t <;> cases ht <;> cases h <;> exact Qy PySem.W.kitx_tuple I.kIn ⟨o,h1,h2⟩ (by rfl) (fun z=>nomatch z) hq
 | fro ds =>
  obtain ⟨a,xs,rfl,sq,_⟩:=r.fG
  cases rx
  have sq:=sq.sq
  rw [hK] at sq
  cases t <;> cases ht <;> cases h <;> exact seqL sq (by rfl) hq
 | loc l =>
  cases r with
  | loc ql =>
   cases rx
   simp only [gb] at h
   cases q:S[l]? with
   | none=>rw [q] at h; cases t <;> cases ht <;> cases h
   | some c =>
    rw [q] at h
    cases c with
    | lst ds =>
     obtain ⟨a,xs,ha,hx,_⟩:=hS.lst q
     rw [ql] at ha; cases ha
     cases t <;> cases ht <;> cases h <;> exact seqL (.of hx) (by rfl) hq
    | dct kvs=>cases t <;> cases ht <;> cases h
    | fdc kvs=>cases t <;> cases ht <;> cases h
 | exn c=>cases r
end
end EV

namespace EV
open PySem PySem.Spec PyProof.Rows L2
section
variable {X:Cx} {Γ:Gx} {xw:XW} {a b c:Expr} {ma mb mc:Sg->M D} {pos:Pos}
theorem zT {i:Nat} {x:Str} (hN:X.N[i]?=some x) (hv:Vis X.env.scope x) (hd:(x==("__debug__" : Str))=false) (hcd:(x==("__classdict__" : Str))=false):PE X (.Name x pos) (tM Γ xw fun σ=>br σ i) :=
 PE.imp (Dj hN hv hd hcd) fun σ H Q h=>by
  obtain ⟨σd,ι,S,he,hs,ho⟩:=h
  have ho:Out Γ xw ι H (br σd i S) fun d _ ι' H'=>∀ v,Rep Γ ι' H' d v->Q v H':=ho
  cases q:σd[i]? with
  | none=>rw [show br σd i S=.bad by unfold br; rw [q]; rfl] at ho; exact ho.elim
  | some o =>
   cases o with
   | none=>rw [show br σd i S=.bad by unfold br; rw [q]; rfl] at ho; exact ho.elim
   | some d =>
    rw [show br σd i S=.ok d S by unfold br; rw [q]; rfl] at ho
    obtain ⟨v,hv,r⟩:=he.var i d q
    exact ⟨v,hv,ho.here hs v r⟩
theorem jt {e:Expr} {d:D} {v:V} (h:PE X e (tC v)) (r:∀ ι H,Rep Γ ι H d v):PE X e (tM Γ xw fun _=>pure d) :=
 PE.imp h fun σ H Q h=>by
  obtain ⟨σd,ι,S,he,hs,ho⟩:=h
  exact ho.here hs v (r _ _)
theorem FH {op:Operator} {f:D->D->M D} (ho:OpR X (binaryOp op) (a_ Γ xw f)) (ha:PE X a (tM Γ xw ma)) (hb:PE X b (tM Γ xw mb)):PE X (.BinOp a op b pos) (tM Γ xw fun σ=>ma σ>>=fun x=>mb σ>>=fun y=>f x y) :=
 PE.imp (zk ho ha hb) fun _ _ _ h=>mY h
theorem C8 {op:CmpOp} {f:D->D->M D} (ho:OpR X (compareOp op) (a_ Γ xw f)) (ha:PE X a (tM Γ xw ma)) (hb:PE X b (tM Γ xw mb)) (hm:behindInMarks op b=false):PE X (.Compare a [op] [b] pos) (tM Γ xw fun σ=>ma σ>>=fun x=>mb σ>>=fun y=>f x y) :=
 PE.imp (AG ho ha hb hm) fun _ _ _ h=>mY h
theorem HD {rest:WX} (ha:PE X a (tM Γ xw ma)) (hb:PE X (.BoolOp .And (b::rest) pos) (tM Γ xw mb)):PE X (.BoolOp .And (a::b::rest) pos) (tM Γ xw fun σ=>ma σ>>=fun x=>match x with|.bl true=>mb σ|.bl false=>pure (.bl false)|_=>bad) :=
 PE.imp (xY ha hb) fun σ H Q h=>by
  obtain ⟨σd,ι,S,he,hs,ho⟩:=h
  refine ⟨σd,ι,S,he,hs,ho.bind.mono fun d S' ι' H' _ _ ⟨s',e',o'⟩ v r=>?_⟩
  cases d with
  | bl k =>
   cases r
   refine ⟨k,rfl,?_⟩
   cases k with
   | true=>rw [Zd rfl]; exact ⟨σd,ι',S',he.ext e',s',o'⟩
   | false=>rw [Ze Zz]; exact o'.here s' _ (.bl _)
  | _=>exact o'.elim
theorem Be {rest:WX} (ha:PE X a (tM Γ xw ma)) (hb:PE X (.BoolOp .Or (b::rest) pos) (tM Γ xw mb)):PE X (.BoolOp .Or (a::b::rest) pos) (tM Γ xw fun σ=>ma σ>>=fun x=>match x with|.bl true=>pure (.bl true)|.bl false=>mb σ|_=>bad) :=
 PE.imp (yY ha hb) fun σ H Q h=>by
  obtain ⟨σd,ι,S,he,hs,ho⟩:=h
  refine ⟨σd,ι,S,he,hs,ho.bind.mono fun d S' ι' H' _ _ ⟨s',e',o'⟩ v r=>?_⟩
  cases d with
  | bl k =>
   cases r
   refine ⟨k,rfl,?_⟩
   cases k with
   | false=>rw [Ze Zz]; exact ⟨σd,ι',S',he.ext e',s',o'⟩
   | true=>rw [Zd rfl]; exact o'.here s' _ (.bl _)
  | _=>exact o'.elim
theorem DW (ha:PE X a (tM Γ xw ma)):PE X (.UnaryOp .Not a pos) (tM Γ xw fun σ=>ma σ>>=fun x=>match x with|.bl b=>pure (.bl (!b))|_=>bad) :=
 PE.imp (AK ha) fun σ H Q h=>by
  obtain ⟨σd,ι,S,he,hs,ho⟩:=h
  refine ⟨σd,ι,S,he,hs,ho.bind.mono fun d S' ι' H' _ _ ⟨s',e',o'⟩ v r=>?_⟩
  cases d with
  | bl k=>cases r; exact ⟨k,rfl,o'.here s' _ (.bl _)⟩
  | _=>exact o'.elim
theorem Bc (ha:PE X a (tM Γ xw ma)):PE X (.UnaryOp .USub a pos) (tM Γ xw fun σ=>ma σ>>=fun x=>match x with|.int i=>pure (.int (-i))|_=>bad) :=
 PE.imp (GZ C4 ha) fun σ H Q h=>by
  obtain ⟨σd,ι,S,he,hs,ho⟩:=h
  refine ⟨σd,ι,S,he,hs,ho.bind.mono fun d S' ι' H' _ _ ⟨s',e',o'⟩ v r=>?_⟩
  cases d with
  | int k=>cases r; exact ⟨k,rfl,o'.here s' _ (.int _)⟩
  | _=>exact o'.elim
theorem jJ {ι:WQ} {H:Hp} {d:D} {v:V} (r:Rep Γ ι H d v):decide (v=.non)=decide (d=.non):=by
 cases r <;> simp
theorem E7 {j pos'} (ha:PE X a (tM Γ xw ma)):PE X (.Compare a [.Is] [.Constant .none j pos'] pos) (tM Γ xw fun σ=>ma σ>>=fun x=>pure (.bl (decide (x=.non)))) :=
 PE.imp (sZ (w_ ha)) fun σ H Q h=>by
  obtain ⟨σd,ι,S,he,hs,ho⟩:=h
  refine ⟨σd,ι,S,he,hs,ho.bind.mono fun d S' ι' H' _ _ ⟨s',e',o'⟩ v r=>?_⟩
  show Q (.bl (decide (v=.non))) H'
  rw [jJ r]; exact o'.here s' _ (.bl _)
theorem Eb {j pos'} (ha:PE X a (tM Γ xw ma)):PE X (.Compare a [.IsNot] [.Constant .none j pos'] pos) (tM Γ xw fun σ=>ma σ>>=fun x=>pure (.bl (!decide (x=.non)))) :=
 PE.imp (sZ (se ha)) fun σ H Q h=>by
  obtain ⟨σd,ι,S,he,hs,ho⟩:=h
  refine ⟨σd,ι,S,he,hs,ho.bind.mono fun d S' ι' H' _ _ ⟨s',e',o'⟩ v r=>?_⟩
  show Q (.bl (!decide (v=.non))) H'
  rw [jJ r]; exact o'.here s' _ (.bl _)
theorem xM {op op':CmpOp} {f f':D->D->M D} (ho:OpR X (compareOp op) (a_ Γ xw f)) (ho':OpR X (compareOp op') (a_ Γ xw f')) (ha:PE X a (tM Γ xw ma)) (hb:PE X b (tM Γ xw mb)) (hc:PE X c (tM Γ xw mc)) (hm:lastMarks [op,op'] [b,c]=false) :
  PE X (.Compare a [op,op'] [b,c] pos) (tM Γ xw fun σ=>ma σ>>=fun x=>mb σ>>=fun y=>f x y>>=fun r=>match r with|.bl true=>mc σ>>=fun z=>f' y z|.bl false=>pure (.bl false)|_=>bad) :=
 PE.imp (EB ho ho' ha hb hc hm) fun σ H Q h=>by
  obtain ⟨σd,ι,S,he,hs,ho⟩:=h
  refine ⟨σd,ι,S,he,hs,ho.bind.mono fun d S' ι' H' _ _ ⟨s',e',o'⟩ v r=>⟨σd,ι',S',he.ext e',s',o'.bind.mono fun d2 S2 ι2 H2 _ _ ⟨s2,e2,o2⟩ v2 r2=>⟨ι2,S2,d,d2,s2,r.ext e2,r2,o2.bind.mono fun d3 S3 ι3 H3 _ _ ⟨s3,e3,o3⟩ v3 r3=>?_⟩⟩⟩
  cases d3 with
  | bl k =>
   cases r3
   refine ⟨k,rfl,?_⟩
   cases k with
   | true =>
    rw [Zd rfl]
    exact ⟨σd,ι3,S3,(he.ext (e'.trans e2)).ext e3,s3,o3.bind.mono fun d4 S4 ι4 H4 _ _ ⟨s4,e4,o4⟩ v4 r4=>⟨ι4,S4,d2,d4,s4,(r2.ext e3).ext e4,r4,o4⟩⟩
   | false=>rw [Ze Zz]; exact o3.here s3 _ (.bl _)
  | _=>exact o3.elim
theorem Hh {e:Expr} {m:Sg->M D} (hK:Γ.K=X.K) (h:PE X e (tM Γ xw m)) (he:∀ whole,isTrue e X.env whole=(do let v <- whole; standAt e.pos; holding [v] (truthy v))):PT X e (tMT Γ xw fun σ=>m σ>>=truth):=by
 intro pins s σ H Q I hw
 obtain ⟨σd,ι,S,hE,hs,ho⟩:=hw
 refine isTrue_plain (thn (h pins s σ H (fun x H'=>∃ ι S d,ao Γ ι H' S/\Rep Γ ι H' d x/\Out Γ xw ι H' (truth d S) fun b _ _ H'=>Q b H') I ⟨σd,ι,S,hE,hs,ho.bind.mono fun d S' ι' H' _ _ ⟨s',e',o'⟩ v r=>⟨ι',S',d,s',r,o'⟩⟩) fun v s1 ⟨x,H1,I1,r1,q1⟩=>?_) (he _)
 exact Ds hK pins s1 σ H1 x v Q I1 r1 q1
theorem Hs {op:CmpOp} {f:D->D->M D} (hbl:∀ x y S d S',f x y S=.ok d S'->∃ k,d=.bl k) (ho:OpR X (compareOp op) (a_ Γ xw f)) (ha:PE X a (tM Γ xw ma)) (hb:PE X b (tM Γ xw mb)) (hm:behindInMarks op b=false) :
  PT X (.Compare a [op] [b] pos) (tMT Γ xw fun σ=>ma σ>>=fun x=>mb σ>>=fun y=>f x y>>=fun r=>truth r) :=
 PT.imp (Hf ho ha hb hm) fun σ H Q h=>by
  obtain ⟨σd,ι,S,he,hs,ho⟩:=h
  refine ⟨σd,ι,S,he,hs,ho.bind.mono fun d S' ι' H' _ _ ⟨s',e',o'⟩ v r=>⟨σd,ι',S',he.ext e',s',o'.bind.mono fun d2 S2 ι2 H2 _ _ ⟨s2,e2,o2⟩ v2 r2=>⟨ι2,S2,d,d2,s2,r.ext e2,r2,?_⟩⟩⟩
  cases q:f d d2 S2 with
  | bad=>rw [aZ q] at o2; exact o2.elim
  | exc c S3=>rw [cJ q] at o2; exact o2
  | ok d3 S3 =>
   rw [aj q] at o2
   obtain ⟨k,rfl⟩:=hbl _ _ _ _ _ q
   intro ι3 H3 e3 s3 v3 r3
   cases r3
   exact ⟨k,rfl,(o2.step e3).here s3⟩
theorem IE {op op':CmpOp} {f f':D->D->M D} (hbl:∀ x y S d S',f x y S=.ok d S'->∃ k,d=.bl k) (hbl':∀ x y S d S',f' x y S=.ok d S'->∃ k,d=.bl k) (ho:OpR X (compareOp op) (a_ Γ xw f)) (ho':OpR X (compareOp op') (a_ Γ xw f')) (ha:PE X a (tM Γ xw ma)) (hb:PE X b (tM Γ xw mb)) (hc:PE X c (tM Γ xw mc)) (hm:lastMarks [op,op'] [b,c]=false) :
  PT X (.Compare a [op,op'] [b,c] pos) (tMT Γ xw fun σ=>ma σ>>=fun x=>mb σ>>=fun y=>f x y>>=fun r=>truth r>>=fun k=>if k=true then mc σ>>=fun z=>f' y z>>=fun q=>truth q else pure false) :=
 PT.imp (Ih ho ho' ha hb hc hm) fun σ H Q h=>by
  obtain ⟨σd,ι,S,he,hs,ho⟩:=h
  refine ⟨σd,ι,S,he,hs,ho.bind.mono fun d S' ι' H' _ _ ⟨s',e',o'⟩ v r=>⟨σd,ι',S',he.ext e',s',o'.bind.mono fun d2 S2 ι2 H2 _ _ ⟨s2,e2,o2⟩ v2 r2=>⟨ι2,S2,d,d2,s2,r.ext e2,r2,?_⟩⟩⟩
  cases q:f d d2 S2 with
  | bad=>rw [aZ q] at o2; exact o2.elim
  | exc c S3=>rw [cJ q] at o2; exact o2
  | ok d3 S3 =>
   rw [aj q] at o2
   obtain ⟨k,rfl⟩:=hbl _ _ _ _ _ q
   intro ι3 H3 e3 s3 v3 r3
   cases r3
   refine ⟨k,rfl,?_⟩
   have o3:=o2.step e3
   cases k with
   | false=>rw [Ze Zz]; exact ⟨false,rfl,o3.here s3⟩
   | true =>
    rw [Zd rfl]
    have o3:Out Γ xw ι3 H3 ((mc σd>>=fun z=>f' d2 z>>=fun q=>truth q) S3) _:=o3
    refine ⟨σd,ι3,S3,(he.ext (e'.trans e2)).ext e3,s3,o3.bind.mono fun d4 S4 ι4 H4 _ _ ⟨s4,e4,o4⟩ v4 r4=>⟨ι4,S4,d2,d4,s4,(r2.ext e3).ext e4,r4,?_⟩⟩
    cases q4:f' d2 d4 S4 with
    | bad=>rw [aZ q4] at o4; exact o4.elim
    | exc c S5=>rw [cJ q4] at o4; exact o4
    | ok d5 S5 =>
     rw [aj q4] at o4
     obtain ⟨k5,rfl⟩:=hbl' _ _ _ _ _ q4
     intro ι5 H5 e5 s5 v5 r5
     cases r5
     exact ⟨k5,rfl,(o4.step e5).here s5⟩
theorem Hi {j pos'} (ha:PE X a (tM Γ xw ma)):PT X (.Compare a [.Is] [.Constant .none j pos'] pos) (tMT Γ xw fun σ=>ma σ>>=fun x=>pure (decide (x=.non))) :=
 PT.imp (pP (w_ ha)) fun σ H Q h=>by
  obtain ⟨σd,ι,S,he,hs,ho⟩:=h
  refine ⟨σd,ι,S,he,hs,ho.bind.mono fun d S' ι' H' _ _ ⟨s',e',o'⟩ v r=>⟨_,rfl,?_⟩⟩
  rw [jJ r]; exact o'.here s'
theorem iC {j pos'} (ha:PE X a (tM Γ xw ma)):PT X (.Compare a [.IsNot] [.Constant .none j pos'] pos) (tMT Γ xw fun σ=>ma σ>>=fun x=>pure (!decide (x=.non))) :=
 PT.imp (pP (se ha)) fun σ H Q h=>by
  obtain ⟨σd,ι,S,he,hs,ho⟩:=h
  refine ⟨σd,ι,S,he,hs,ho.bind.mono fun d S' ι' H' _ _ ⟨s',e',o'⟩ v r=>⟨_,rfl,?_⟩⟩
  rw [jJ r]; exact o'.here s'
variable {na nb:Sg->M Bool}
theorem qy {rest:WX} (ha:PT X a (tMT Γ xw na)) (hb:PW X (.BoolOp .And (b::rest) pos) (tMT Γ xw nb)):PW X (.BoolOp .And (a::b::rest) pos) (tMT Γ xw fun σ=>na σ>>=fun k=>if k=true then nb σ else pure false) :=
 PW.imp (Du ha hb) fun σ H Q h=>by
  obtain ⟨σd,ι,S,he,hs,ho⟩:=h
  refine ⟨σd,ι,S,he,hs,ho.bind.mono fun k S' ι' H' _ _ ⟨s',e',o'⟩=>?_⟩
  cases k with
  | true=>rw [Zd rfl]; exact ⟨σd,ι',S',he.ext e',s',o'⟩
  | false=>rw [Ze Zz]; exact o'.here s'
theorem vB {rest:WX} (ha:PT X a (tMT Γ xw na)) (hb:PW X (.BoolOp .Or (b::rest) pos) (tMT Γ xw nb)):PW X (.BoolOp .Or (a::b::rest) pos) (tMT Γ xw fun σ=>na σ>>=fun k=>if k=true then pure true else nb σ) :=
 PW.imp (E5 ha hb) fun σ H Q h=>by
  obtain ⟨σd,ι,S,he,hs,ho⟩:=h
  refine ⟨σd,ι,S,he,hs,ho.bind.mono fun k S' ι' H' _ _ ⟨s',e',o'⟩=>?_⟩
  cases k with
  | false=>rw [Ze Zz]; exact ⟨σd,ι',S',he.ext e',s',o'⟩
  | true=>rw [Zd rfl]; exact o'.here s'
theorem Cp (ha:PT X a (tMT Γ xw na)):PT X (.UnaryOp .Not a pos) (tMT Γ xw fun σ=>na σ>>=fun k=>pure (!k)) :=
 PT.imp (zZ ha) fun σ H Q h=>by
  obtain ⟨σd,ι,S,he,hs,ho⟩:=h
  exact ⟨σd,ι,S,he,hs,ho.bind.mono fun k S' ι' H' _ _ ⟨s',e',o'⟩=>o'.here s'⟩
theorem Ez (hc:PT X c (tMT Γ xw na)) (ha:PE X a (tM Γ xw ma)) (hb:PE X b (tM Γ xw mb)):PE X (.IfExp c a b pos) (tM Γ xw fun σ=>na σ>>=fun k=>if k=true then ma σ else mb σ) :=
 PE.imp (G3 hc ha hb) fun σ H Q h=>by
  obtain ⟨σd,ι,S,he,hs,ho⟩:=h
  refine ⟨σd,ι,S,he,hs,ho.bind.mono fun k S' ι' H' _ _ ⟨s',e',o'⟩=>?_⟩
  cases k with
  | true=>rw [Zd rfl]; exact ⟨σd,ι',S',he.ext e',s',o'⟩
  | false=>rw [Ze Zz]; exact ⟨σd,ι',S',he.ext e',s',o'⟩
theorem Hu:PA X [] (tMA Γ xw fun _=>pure []) :=
 PA.imp jy fun σ H Q h=>by
  obtain ⟨σd,ι,S,he,hs,ho⟩:=h
  exact ho.here hs [] .nil
theorem GF {es:WX} {m:Yf} (ha:PE X a (tM Γ xw ma)) (hr:PA X es (tMA Γ xw m)) (hs:starEach (a::es) X.env=(false,eval a X.env)::starEach es X.env):PA X (a::es) (tMA Γ xw fun σ=>ma σ>>=fun x=>m σ>>=fun xs=>pure (x::xs)) :=
 PA.imp (gA ha hr hs) fun σ H Q h=>by
  obtain ⟨σd,ι,S,he,hs,ho⟩:=h
  exact ⟨σd,ι,S,he,hs,ho.bind.mono fun d S' ι' H' _ _ ⟨s',e',o'⟩ v r=>⟨σd,ι',S',he.ext e',s',o'.bind.mono fun ds S2 ι2 H2 _ _ ⟨s2,e2,o2⟩ vs rs=>o2.here s2 _ (.cons (r.ext e2) rs)⟩⟩
theorem E9 {es:WX} {k:Nat} {m:Yf} (h:PA X es (tMA Γ xw m)):PE X (.Tuple es k pos) (tM Γ xw fun σ=>m σ>>=fun ds=>guard (fits ds.length) (pure (.tup ds))) :=
 PE.imp (zK h) fun σ H Q h=>by
  obtain ⟨σd,ι,S,he,hs,ho⟩:=h
  refine ⟨σd,ι,S,he,hs,ho.bind.mono fun ds S' ι' H' _ _ ⟨s',e',o'⟩ vs rs=>?_⟩
  obtain ⟨hz,o'⟩:=Out.guard o'
  exact ⟨by rw [<- rs.length]; exact jk hz,fun p hp=>Out.tup o' s' hp rs⟩
theorem yt {es:WX} {m:Yf} (h:PA X es (tMA Γ xw m)):PE X (.List es pos) (tM Γ xw fun σ=>m σ>>=fun ds=>guard (fits ds.length) (alloc (.lst ds))) :=
 PE.imp (Ak h) fun σ H Q h=>by
  obtain ⟨σd,ι,S,he,hs,ho⟩:=h
  refine ⟨σd,ι,S,he,hs,ho.bind.mono fun ds S' ι' H' _ _ ⟨s',e',o'⟩ vs rs=>?_⟩
  obtain ⟨hz,o'⟩:=Out.guard o'
  exact ⟨by rw [<- rs.length]; exact jk hz,fun p hp=>Out.alloc o' s' hp rs⟩
theorem Hz (hK:Γ.K=X.K) (ha:PE X a (tM Γ xw ma)) (hb:PE X b (tM Γ xw mb)) (hs:oZ b):PE X (.Subscript a b pos) (tM Γ xw fun σ=>ma σ>>=fun x=>mb σ>>=fun y=>ixD x y) :=
 PE.imp (GS (GB hK) ha hb hs) fun _ _ _ h=>mY h
theorem i6 {id:String} {x:Str} {p:Pos} {es:WX} {m:Yf} {f:List D->M D} (hc:cA X (.builtin id) (dm Γ xw f)) (hg:Gl X x) (hm:X.mg x=none) (hv:bootBuiltins x=some (.builtin id)) (ha:PA X (a::es) (tMA Γ xw m)) (hn:x≠"__name__") (hdb:(x==("__debug__" : Str))=false)
  (he:starEach (a::es) X.env=(false,eval a X.env)::starEach es X.env) (hpl:(backTo pos (starEach es X.env)).any (·.1)=false):PE X (.Call (.Name x p) (a::es) [] pos) (tM Γ xw fun σ=>m σ>>=f) :=
 PE.imp (wD hc hg hm hv ha hn hdb he hpl) fun _ _ _ h=>wj h
theorem CN {T:String} {x:Str} {p:Pos} {es:WX} {m:Yf} {f:List D->M D} (hc:cA X (.type T) (dm Γ xw f)) (hg:Gl X x) (hm:X.mg x=none) (hv:bootBuiltins x=some (.type T)) (ha:PA X (a::es) (tMA Γ xw m)) (hn:x≠"__name__") (hdb:(x==("__debug__" : Str))=false)
  (he:starEach (a::es) X.env=(false,eval a X.env)::starEach es X.env) (hpl:(backTo pos (starEach es X.env)).any (·.1)=false):PE X (.Call (.Name x p) (a::es) [] pos) (tM Γ xw fun σ=>m σ>>=f) :=
 PE.imp (pM hc hg hm hv ha hn hdb he hpl) fun _ _ _ h=>wj h
theorem AA {sub:Sub} {t:Ty} {T:String} {x y:Str} {p p':Pos} (hK:Γ.K=X.K) (ht:t.name=some T) (hg:Gl X x) (hm:X.mg x=none) (hv:bootBuiltins x=some (.builtin "isinstance")) (hg':Gl X y) (hm':X.mg y=none) (hv':bootBuiltins y=some (.type T)) (ha:PE X a (tM Γ xw ma))
  (hn:x≠"__name__") (hdb:(x==("__debug__" : Str))=false) (hn':y≠"__name__") (hdb':(y==("__debug__" : Str))=false) (hst:starEach [a,.Name y p'] X.env=(false,eval a X.env)::starEach [.Name y p'] X.env) :
  PE X (.Call (.Name x p) [a,.Name y p'] [] pos) (tM Γ xw fun σ=>ma σ>>=fun d=>iS sub t d):=by
 have hy:PE X (.Name y p') (tC (.ty T)):=Iv hg' hm' hv' rfl hn' hdb'
 have hc:cA X (.builtin "isinstance") (fun xs H Q=>∃ x,xs=[x,.ty T]/\uv Γ xw (iS sub t) x H Q):=by
  intro pins s σ H xs us Q I rs h
  obtain ⟨x,rfl,ι,S,d,hS,r,ho⟩:=h
  obtain ⟨u1,u2,rfl,r1,r2⟩:=rs.two
  cases r2
  unfold iS at ho
  cases q:gb sub S d t with
  | none=>rw [q] at ho; exact ho.elim
  | some k =>
   rw [q] at ho
   exact A6 hK I hS ht r r1 q fun tk=>⟨.bl k,H,I.tok _,rfl,Out.val ho hS (.bl _)⟩
 refine PE.imp (wD hc hg hm hv (gA ha (gA hy jy rfl) hst) hn hdb hst rfl) fun σ H Q h=>?_
 obtain ⟨σd,ι,S,he,hs,ho⟩:=h
 exact ⟨σd,ι,S,he,hs,ho.bind.mono fun d S' ι' H' _ _ ⟨s',e',o'⟩ v r=>⟨v,rfl,ι',S',d,s',r,o'⟩⟩
end
end EV

namespace EV
open PySem PySem.Spec PyProof.Rows L2
section
variable {X:Cx} {Γ:Gx} {xw:XW} {ι ι':WQ} {H H':Hp} {S:aa} {σ:L2.St}
theorem Rep.move (hp:ι <+: ι') (ht:∀ a xs,H a=some (.tup xs)->H' a=some (.tup xs)) (hf:∀ a o u,H a=some (.frz o u)->H' a=some (.frz o u)) {d:D} {v:V} (h:Rep Γ ι H d v):Rep Γ ι' H' d v:=by
 induction h with
 | non=>exact .non
 | bl b=>exact .bl b
 | int i=>exact .int i
 | str x=>exact .str x
 | tup h1 h2 h3 h4 ih =>
  refine .tup ?_ h2 ih fun k q=>ht _ _ (h4 k q)
  rcases h1 with (h|⟨o,h⟩)|h
  ·exact .inl (.inl (ht _ _ h))
  ·exact .inl (.inr ⟨o,hf _ _ _ h⟩)
  ·exact .inr h
 | fro h1 h2 h3 ih =>
  refine .fro ?_ h2 ih
  rcases h1 with ⟨o,h⟩|h
  ·exact .inl ⟨o,hf _ _ _ h⟩
  ·exact .inr h
 | loc h=>exact .loc (fC hp h)
theorem qX {a:Addr} {xs ys:Ya} (h:H a=some (.lst xs)):∀ b zs,H b=some (.tup zs)->upd H a (.lst ys) b=some (.tup zs):=fun b zs e=>by
 rw [aE (n6 e h (by intro z; cases z))]; exact e
theorem qY {a:Addr} {xs ys:Ya} (h:H a=some (.lst xs)):∀ b o u,H b=some (.frz o u)->upd H a (.lst ys) b=some (.frz o u):=fun b o u e=>by
 rw [aE (n6 e h (by intro z; cases z))]; exact e
theorem Rep.write {a:Addr} {xs ys:Ya} (h:H a=some (.lst xs)) {d:D} {v:V} (r:Rep Γ ι H d v):Rep Γ ι (upd H a (.lst ys)) d v:=r.move (Z2 _) (qX h) (qY h)
theorem az.write {a:Addr} {xs ys:Ya} (h:H a=some (.lst xs)) {ds:Yc} {vs:Ya} (r:az Γ ι H ds vs):az Γ ι (upd H a (.lst ys)) ds vs:=Paired.imp (fun _ _ r=>Rep.write h r) r
theorem aY.write {a:Addr} {xs ys:Ya} (h:H a=some (.lst xs)) {σd:Sg} (e:aY Γ ι H σ σd):aY Γ ι (upd H a (.lst ys)) σ σd:=⟨e.len,fun i d q=>let ⟨v,e1,r⟩:=e.var i d q; ⟨v,e1,r.write h⟩⟩
theorem Ext.write {a:Addr} {xs ys:Ya} (h:H a=some (.lst xs)) (hm:a∈ι):Ext ι ι H (upd H a (.lst ys)) :=
 ⟨Z2 _,qX h,qY h,fun b o e n=>by rw [aE (fun z=>n (by rw [z]; exact hm))]; exact e,fun _ h n=>absurd h n⟩
theorem ao.write (hS:ao Γ ι H S) {l:Nat} {a:Addr} {xs ys:Ya} {es ds:Yc} (hl:S[l]?=some (.lst es)) (ha:ι[l]?=some a) (h:H a=some (.lst xs)) (r:az Γ ι H ds ys):ao Γ ι (upd H a (.lst ys)) (S.set l (.lst ds)):=by
 refine ⟨by rw [XI]; exact hS.len,hS.nd,fun m c hm=>?_⟩
 by_cases e:m=l
 ·subst e
  rw [Xe (Zg.mp hl).1] at hm
  cases hm
  exact ⟨a,ha,ys,cu,az.write h r⟩
 ·rw [ZW (Ne.symm e)] at hm
  obtain ⟨b,hb,c1⟩:=hS.cell m c hm
  have hne:b≠a:=fun z=>e (ic hS.nd hb (z ▸ ha))
  refine ⟨b,hb,?_⟩
  cases c with
  | lst zs=>obtain ⟨ws,hw,rw'⟩:=c1; exact ⟨ws,by rw [aE hne]; exact hw,az.write h rw'⟩
  | dct kvs=>obtain ⟨ws,hw,rw'⟩:=c1; exact ⟨ws,by rw [aE hne]; exact hw,Paired.imp (fun _ _ q=>⟨q.1,Rep.write h q.2⟩) rw'⟩
  | fdc kvs=>obtain ⟨ws,⟨o,hw⟩,rw'⟩:=c1; exact ⟨ws,⟨o,by rw [aE hne]; exact hw⟩,Paired.imp (fun _ _ q=>⟨q.1,Rep.write h q.2⟩) rw'⟩
theorem ao.other (hS:ao Γ ι H S) {a:Addr} {xs ys:Ya} (h:H a=some (.lst xs)) (hn:a ∉ ι):ao Γ ι (upd H a (.lst ys)) S :=
 ⟨hS.len,hS.nd,fun m c hm=>by
  obtain ⟨b,hb,c1⟩:=hS.cell m c hm
  have hne:b≠a:=fun z=>hn (z ▸ ZA hb)
  refine ⟨b,hb,?_⟩
  cases c with
  | lst zs=>obtain ⟨ws,hw,rw'⟩:=c1; exact ⟨ws,by rw [aE hne]; exact hw,az.write h rw'⟩
  | dct kvs=>obtain ⟨ws,hw,rw'⟩:=c1; exact ⟨ws,by rw [aE hne]; exact hw,Paired.imp (fun _ _ q=>⟨q.1,Rep.write h q.2⟩) rw'⟩
  | fdc kvs=>obtain ⟨ws,⟨o,hw⟩,rw'⟩:=c1; exact ⟨ws,⟨o,by rw [aE hne]; exact hw⟩,Paired.imp (fun _ _ q=>⟨q.1,Rep.write h q.2⟩) rw'⟩⟩
theorem aY.set {σd:Sg} (e:aY Γ ι H σ σd) (i:Nat) {d:D} {v:V} (r:Rep Γ ι H d v):aY Γ ι H (σ.set i (some v)) (σd.set i (some d)):=by
 refine ⟨by rw [XI,XI]; exact e.len,fun j d' h=>?_⟩
 by_cases hij:j=i
 ·subst hij
  have hj:j < σd.length:=by
   have:=(Zg.mp h).1
   rw [XI] at this; exact this
  rw [Xe hj] at h
  cases h
  exact ⟨v,by rw [Xe (by rw [e.len]; exact hj)],r⟩
 ·rw [ZW (Ne.symm hij)] at h
  obtain ⟨w,hw,rw'⟩:=e.var j d' h
  exact ⟨w,by rw [ZW (Ne.symm hij)]; exact hw,rw'⟩
theorem aY.more {σd:Sg} (e:aY Γ ι H σ σd) (k:Nat):aY Γ ι H (σ++List.replicate k none) (σd++List.replicate k none):=by
 refine ⟨by simp [e.len],fun j d h=>?_⟩
 by_cases hj:j < σd.length
 ·rw [ZF hj] at h
  obtain ⟨w,hw,r⟩:=e.var j d h
  exact ⟨w,by rw [ZF (by rw [e.len]; exact hj)]; exact hw,r⟩
 ·rw [ZP (by omega),X2] at h
  split at h <;> cases h
theorem Dg:MtR X "list.append" (fun x xs H Q=>∃ ι S dx ds,ao Γ ι H S/\Rep Γ ι H dx x/\az Γ ι H ds xs/\Out Γ xw ι H (meD .append dx ds S) fun d _ ι' H'=>∀ v,Rep Γ ι' H' d v->Q v H'):=by
 intro pins s σ H x xs v us Q I rx rs h
 obtain ⟨ι,S,dx,ds,hS,r1,r2,ho⟩:=h
 match ds,r2 with
 | [],_=>exact ho.elim
 | _::_::_,_=>exact ho.elim
 | [d],.cons (b:=y) rd .nil =>
  cases dx with
  | loc l =>
   obtain ⟨es,e,ho⟩:=Out.bh ho
   obtain ⟨hz,ho⟩:=Out.guard ho
   obtain ⟨a,ws,ha,hx,p⟩:=hS.lst e
   cases r1 with
   | loc q =>
    rw [ha] at q; cases q
    refine tP pins s σ H _ _ v us Q I rx rs ⟨a,ws,y,rfl,rfl,hx,by rw [<- p.length]; exact ri hz,?_⟩
    exact ho ι _ (Ext.write hx (ZA ha)) (hS.write e ha hx (Paired.app p (.cons rd .nil))) _ .non
  | _=>exact ho.elim
theorem GA:MtR X "list.extend" (fun x xs H Q=>∃ ι S dx ds,ao Γ ι H S/\Rep Γ ι H dx x/\az Γ ι H ds xs/\Out Γ xw ι H (meD .extend dx ds S) fun d _ ι' H'=>∀ v,Rep Γ ι' H' d v->Q v H'):=by
 intro pins s σ H x xs v us Q I rx rs h
 obtain ⟨ι,S,dx,ds,hS,r1,r2,ho⟩:=h
 match ds,r2 with
 | [],_=>exact ho.elim
 | _::_::_,_=>exact ho.elim
 | [d],.cons (b:=y) rd .nil =>
  cases dx with
  | loc l =>
   cases d with
   | loc m =>
    obtain ⟨es,e,ho⟩:=Out.bh ho
    obtain ⟨fs,e2,ho⟩:=Out.bh ho
    obtain ⟨hz,ho⟩:=Out.guard ho
    obtain ⟨a,ws,ha,hx,p⟩:=hS.lst e
    obtain ⟨b,zs,hb,hy,p2⟩:=hS.lst e2
    cases r1 with
    | loc q =>
     cases rd with
     | loc q2 =>
      rw [ha] at q; cases q
      rw [hb] at q2; cases q2
      refine BZ pins s σ H _ _ v us Q I rx rs ⟨a,b,ws,zs,rfl,rfl,hx,hy,by rw [<- p.length,<- p2.length]; exact jk hz,?_⟩
      exact ho ι _ (Ext.write hx (ZA ha)) (hS.write e ha hx (Paired.app p p2)) _ .non
   | _=>exact ho.elim
  | _=>exact ho.elim
theorem sD {o a:Expr} {es:WX} {me:Me} {name:Str} {apos cpos:Pos} {id:String} {mo:Sg->M D} {m:Yf} (hK:Γ.K=X.K) (pa:PlainAttrs "list") (slot:Slot "list" name id) (hty:typeOf (.builtin id)=pure (.type "method_descriptor"))
  (hm:MtR X id (fun x xs H Q=>∃ ι S dx ds,ao Γ ι H S/\Rep Γ ι H dx x/\az Γ ι H ds xs/\Out Γ xw ι H (meD me dx ds S) fun d _ ι' H'=>∀ v,Rep Γ ι' H' d v->Q v H')) (ho:PE X o (tM Γ xw mo)) (ha:PA X (a::es) (tMA Γ xw m))
  (hbase:attributeBase o name X.env (eval o X.env)=eval o X.env)
  (hfew:((backTo cpos (starEach (a::es) X.env)).all (fun x=>!x.1)&&(backToKw cpos (keywordEach [] X.env)).all (fun x=>x.1.isSome)&&decide ((a::es).length+([]:List Keyword).length+(if ([]:List Keyword).isEmpty then 0 else 1) < 30))=true)
  (hline:(apos.endLine==cpos.line)=true) (hs:starEach (a::es) X.env=(false,eval a X.env)::starEach es X.env) (hplain:(backTo cpos (starEach es X.env)).any (·.1)=false) :
  PE X (.Call (.Attribute o name apos) (a::es) [] cpos) (tM Γ xw fun σ=>mo σ>>=fun x=>jN x (m σ>>=fun ds=>meD me x ds)) :=
 PE.imp (Fv pa slot hty hm ho ha hbase hfew hline hs hplain) fun σ H Q h=>by
  obtain ⟨σd,ι,S,he,hs,ho⟩:=h
  refine ⟨σd,ι,S,he,hs,ho.bind.mono fun d S' ι' H' _ _ ⟨s',e',o'⟩ v r=>?_⟩
  obtain ⟨hl,o'⟩:=Out.guard (b:=d.dD S') o'
  cases d with
  | loc l =>
   have r0:=r
   cases r with
   | loc q =>
    have hlt:l < S'.length:=by rw [<- s'.len]; exact (Zg.mp q).1
    obtain ⟨b,hb,c⟩:=s'.cell l S'[l] (Zc hlt)
    rw [q] at hb; cases hb
    cases e:S'[l] with
    | lst ds =>
     rw [e] at c
     obtain ⟨xs,hx,_⟩:=c
     refine ⟨.inl ⟨rfl,xs,.of hx⟩,σd,ι',S',he.ext e',s',o'.bind.mono fun ds S2 ι2 H2 _ _ ⟨s2,e2,o2⟩ vs rs=>⟨ι2,S2,.loc l,ds,s2,r0.ext e2,rs,o2⟩⟩
    | dct kvs =>
     have:S'[l]?=some (.dct kvs):=by rw [Zc hlt,e]
     have hl:(match S'[l]? with|some (.lst _)=>true|_=>false)=true:=hl
     rw [this] at hl; cases hl
    | fdc kvs =>
     have:S'[l]?=some (.fdc kvs):=by rw [Zc hlt,e]
     have hl:(match S'[l]? with|some (.lst _)=>true|_=>false)=true:=hl
     rw [this] at hl; cases hl
  | _=>exact absurd hl Zz
end
end EV

namespace EV
open PySem PySem.Spec PyProof.Rows L2
def j9 (Γ:Gx) (src:Src) (J:It) (ι0:WQ) (H0:Hp):Prop:=∀ ι H S,Ext ι0 ι H0 H->ao Γ ι H S->aH src S=.ok () S ->
 (∀ (i:Nat) d,src.its[i]?=some d->J.go i H/\∀ x H',J.yld i H x H'->Ext ι ι H H'/\ao Γ ι H' S/\Rep Γ ι H' d x)/\J.stop src.its.length H
def tMI (Γ:Gx) (xw:XW) (m:Sg->M Src):TI:=fun σ H R=>∃ σd ι S,aY Γ ι H σ σd/\ao Γ ι H S/\Out Γ xw ι H (m σd S) fun src _ ι' H'=>∀ J,j9 Γ src J ι' H'->R J H'
theorem j6 (src:Src) (S:aa):aH src S=.ok () S\/aH src S=.bad:=by
 unfold aH
 cases src.l with
 | none=>exact .inl rfl
 | some l =>
  dsimp only
  cases listAt S l with
  | none=>exact .inr rfl
  | some ds =>
   by_cases h:ds=src.raw
   ·exact .inl (by simp only [h,decide_true]; rfl)
   ·exact .inr (by simp only [h,decide_false]; rfl)
section
variable {X:Cx} {Γ:Gx} {xw:XW} {tg a:Expr} {ma:Sg->M D} {pos:Pos}
theorem PI.imp {iter:Expr} {t t':TI} (h:PI X tg iter t) (f:∀ σ H R,t' σ H R->t σ H R):PI X tg iter t':=fun pins s σ H R I q=>h pins s σ H R I (f σ H R q)
def iSq (K:WL) (tl:TE):TI:=fun σ H R=>tl σ H fun x H1=>∃ a,x=.ref a/\(((∃ xs,SqL K H1 a xs)/\R (Itl K a) H1)\/((∃ xs,SqT K H1 a xs)/\R (Itt K a) H1))
theorem Av {l:Expr} {tl:TE} (hl:PE X l tl):PI X tg l (iSq X.K tl):=by
 intro pins s σ H R I h
 refine thn (hl pins s σ H _ I h) fun v s1 ⟨x,H1,I1,r1,q1⟩=>?_
 obtain ⟨a,e,q1⟩:=q1
 subst e
 cases r1
 rcases q1 with ⟨⟨xs,hq⟩,q⟩|⟨⟨xs,hq⟩,q⟩
 ·have hc:PE X l (fun σ H Q=>True->True->tl σ H Q):=fun pins s σ H Q I h=>hl pins s σ H Q I (h trivial trivial)
  obtain ⟨its,rv,p,hz⟩:=I1.list hq
  refine wpAny_pyIter_list p.isList ?_
  refine ⟨s1.heap.objs.size,[s1.heap.objs.size],_,_,H1,rfl,I1.kept (t':=s1.toks) fun b o e=>Zh _ e,ym a _,⟨_,Zx _ rfl,rfl,rfl⟩,fun b hb=>?_,q⟩
  have e:b=s1.heap.objs.size:=by simpa using hb
  subst e
  exact I1.fU (Zk _) (I1.hok.fresh (Zk _))
 ·obtain ⟨its,rv,p,hz⟩:=I1.tuple hq
  refine Qv (show s1.heap.IsTuple a its.toArray from p) ?_
  refine ⟨s1.heap.objs.size,[s1.heap.objs.size],_,_,H1,rfl,I1.kept (t':=s1.toks) fun b o e=>Zh _ e,A8 a _,⟨_,Zx _ rfl,rfl,rfl⟩,fun b hb=>?_,q⟩
  have e:b=s1.heap.objs.size:=by simpa using hb
  subst e
  exact I1.fU (Zk _) (I1.hok.fresh (Zk _))
theorem wY {ι:WQ} {H:Hp} {S:aa} {d:D} {v:V} {src:Src} {S':aa} (hS:ao Γ ι H S) (r:Rep Γ ι H d v) (h:srcOf d S=.ok src S'):S'=S/\src.its=src.raw/\aH src S=.ok () S/\∃ a tup,v=.ref a/\(∃ xs,SqB Γ.K H tup a xs) /\
  ∀ ι1 H1 S1,Ext ι ι1 H H1->ao Γ ι1 H1 S1->aH src S1=.ok () S1->∃ xs,SqB Γ.K H1 tup a xs/\az Γ ι1 H1 src.raw xs:=by
 cases d with
 | tup ds =>
  cases h
  obtain ⟨a,xs,e,t,p⟩:=r.cF
  exact ⟨rfl,rfl,rfl,a,true,e,⟨xs,t⟩,fun ι1 H1 S1 e1 _ _=>⟨xs,e1.sqT t,az.ext e1 p⟩⟩
 | fro ds =>
  cases h
  obtain ⟨a,xs,e,t,p⟩:=r.fG
  exact ⟨rfl,rfl,rfl,a,false,e,⟨xs,t.sq⟩,fun ι1 H1 S1 e1 _ _=>⟨xs,(e1.fro t).sq,az.ext e1 p⟩⟩
 | loc l =>
  have h:(items (.loc l)>>=fun ds=>pure (⟨ds,some l,ds⟩:Src)) S=.ok src S':=h
  rcases i7 (.loc l) S with ⟨ds,e⟩|e
  ·rw [aj e] at h
   cases h
   obtain ⟨_,a,xs,e2,_,p,t⟩:=cQ hS r e
   subst e2
   have hl:listAt S l=some ds:=by
    rw [o8] at e
    cases q:listAt S l with
    | none=>rw [q] at e; cases e
    | some es=>rw [q] at e; cases e; rfl
   refine ⟨rfl,rfl,?_,a,false,rfl,⟨xs,t l rfl⟩,fun ι1 H1 S1 e1 s1 st=>?_⟩
   ·unfold aH; simp only [hl,decide_true]; rfl
   ·have hl1:listAt S1 l=some ds:=by
     unfold aH at st
     dsimp only at st
     cases q:listAt S1 l with
     | none=>rw [q] at st; cases st
     | some es =>
      rw [q] at st
      by_cases h:es=ds
      ·rw [h]
      ·simp only [h,decide_false] at st; cases st
    obtain ⟨b,ys,e3,sb,p1⟩:=s1.list (r.ext e1) (show asL S1 (.loc l)=some ds from hl1)
    cases e3
    exact ⟨ys,sb,p1⟩
  ·rw [aZ e] at h; cases h
 | _=>cases h
theorem uf (d:D) (S:aa):(∃ src,srcOf d S=.ok src S)\/srcOf d S=.bad:=by
 cases d with
 | tup ds=>exact .inl ⟨_,rfl⟩
 | fro ds=>exact .inl ⟨_,rfl⟩
 | loc l =>
  show (∃ src,(items (.loc l)>>=fun ds=>pure (⟨ds,some l,ds⟩:Src)) S=.ok src S)\/(items (.loc l)>>=fun ds=>pure (⟨ds,some l,ds⟩:Src)) S=.bad
  rcases i7 (.loc l) S with ⟨ds,e⟩|e
  ·rw [aj e]; exact .inl ⟨_,rfl⟩
  ·rw [aZ e]; exact .inr rfl
 | _=>exact .inr rfl
theorem Dt (hK:Γ.K=X.K) (ha:PE X a (tM Γ xw ma)):PI X tg a (tMI Γ xw fun σ=>ma σ>>=srcOf) :=
 PI.imp (Av ha) fun σ H R h=>by
  obtain ⟨σd,ι,S,he,hs,ho⟩:=h
  refine ⟨σd,ι,S,he,hs,ho.bind.mono fun d S' ι' H' _ _ ⟨s',e',o'⟩ v r=>?_⟩
  rcases uf d S' with ⟨src,q⟩|q
  ·rw [q] at o'
   obtain ⟨_,e1,st,a,tup,rfl,⟨xs,sq⟩,hall⟩:=wY s' r q
   refine ⟨a,rfl,?_⟩
   have fin:=o'.here s'
   cases tup with
   | true =>
    refine .inr ⟨⟨xs,by rw [<- hK]; exact sq⟩,fin _ fun ι1 H1 S1 e2 s1 st1=>?_⟩
    obtain ⟨ys,sq1,p1⟩:=hall ι1 H1 S1 e2 s1 st1
    have sq1:SqT X.K H1 a ys:=by rw [<- hK]; exact sq1
    rw [e1]
    refine ⟨fun i d hd=>?_,ys,sq1,by rw [p1.length]; exact Zk _⟩
    obtain ⟨y,hy,r1⟩:=Paired.get p1 hd
    exact ⟨⟨ys,y,sq1,hy⟩,fun x H' ⟨e3,hx⟩=>by
     subst e3
     have:=hx ys sq1
     rw [hy] at this; cases this
     exact ⟨.refl,s1,r1⟩⟩
   | false =>
    refine .inl ⟨⟨xs,by rw [<- hK]; exact sq⟩,fin _ fun ι1 H1 S1 e2 s1 st1=>?_⟩
    obtain ⟨ys,sq1,p1⟩:=hall ι1 H1 S1 e2 s1 st1
    have sq1:SqL X.K H1 a ys:=by rw [<- hK]; exact sq1
    rw [e1]
    refine ⟨fun i d hd=>?_,ys,sq1,by rw [p1.length]; exact Zk _⟩
    obtain ⟨y,hy,r1⟩:=Paired.get p1 hd
    exact ⟨⟨ys,y,sq1,hy⟩,fun x H' ⟨e3,hx⟩=>by
     subst e3
     have:=hx ys sq1
     rw [hy] at this; cases this
     exact ⟨.refl,s1,r1⟩⟩
  ·rw [q] at o'; exact o'.elim
theorem sj:∀ {ds:Yc} {k i:Nat} {d:D},(num k ds)[i]?=some d->∃ e,ds[i]?=some e/\d=.tup [.int ((k+i:Nat):Int),e]
 | [],k,i,d,h=>by simp [num] at h
 | x::r,k,0,d,h=>by simp [num] at h; exact ⟨x,rfl,by rw [<- h]; simp⟩
 | x::r,k,i+1,d,h=>by
  have h:(num (k+1) r)[i]?=some d:=by simpa [num] using h
  obtain ⟨e,h1,h2⟩:=sj h
  exact ⟨e,by simpa using h1,by rw [h2]; congr 3; omega⟩
theorem vN:∀ (ds:Yc) (k:Nat),(num k ds).length=ds.length
 | [],_=>rfl
 | _::r,k=>by simp [num,vN r]
theorem A4 {p:Pos} {elts:WX} {k1:Nat} {tp:Pos} (hK:Γ.K=X.K) (hg:Gl X "enumerate") (hm:X.mg "enumerate" = none) (hv:bootBuiltins "enumerate" = some (.type "enumerate")) (ha:PE X a (tM Γ xw ma)) (hs:starEach [a] X.env=[(false,eval a X.env)]) :
  PI X (.Tuple elts k1 tp) (.Call (.Name "enumerate" p) [a] [] pos) (tMI Γ xw fun σ=>ma σ>>=fun d=>srcOf d>>=fun s=>pure { s with its:=num 0 s.its }) :=
 PI.imp (FJ hg hm hv (gA ha jy (by rw [hs]; rfl)) hs) fun σ H R h=>by
  obtain ⟨σd,ι,S,he,hs,ho⟩:=h
  refine ⟨σd,ι,S,he,hs,ho.bind.mono fun d S' ι' H' _ _ ⟨s',e',o'⟩ v r=>?_⟩
  rcases uf d S' with ⟨src,q⟩|q
  ·rw [aj q] at o'
   obtain ⟨_,e1,st,a,tup,rfl,⟨xs,sq⟩,hall⟩:=wY s' r q
   have fin:=o'.here s'
   refine ⟨tup,a,rfl,⟨xs,by rw [<- hK]; exact sq⟩,fin _ fun ι1 H1 S1 e2 s1 st1=>?_⟩
   obtain ⟨ys,sq1,p1⟩:=hall ι1 H1 S1 e2 s1 st1
   have sq1:SqB X.K H1 tup a ys:=by rw [<- hK]; exact sq1
   refine ⟨fun i d hd=>?_,ys,sq1,by show ys.length<=(num 0 src.its).length; rw [vN,e1,p1.length]; exact Zk _⟩
   obtain ⟨e,he',rfl⟩:=sj hd
   rw [e1] at he'
   obtain ⟨y,hy,r1⟩:=Paired.get p1 he'
   refine ⟨⟨ys,y,sq1,hy⟩,?_⟩
   rintro x H' ⟨z,p,hz,hp,rfl,rfl⟩
   have hz:=hz ys sq1
   rw [hy] at hz; cases hz
   refine ⟨Ext.laid hp,s1.laid hp _,.kU cu (.cons ?_ (.cons (r1.ext (Ext.laid hp)) .nil))⟩
   rw [Xm]; exact .int _
  ·rw [aZ q] at o'; exact o'.elim
theorem mL (lo hi:Int):rng lo hi 1=(List.range (hi - lo).toNat).map fun (k:Nat)=>lo+k:=by
 unfold rng
 rw [Zd (by decide)]
 have:(hi - lo+1 - 1) / 1=hi - lo:=by rw [WE]; omega
 rw [this]
 simp
theorem GN (lo hi:Int):rng lo hi (-1)=(List.range (lo - hi).toNat).map fun (k:Nat)=>lo - k:=by
 unfold rng
 rw [Ze (by decide),Zd (by decide)]
 have:(lo - hi - -1 - 1) / -(-1)=lo - hi:=by rw [show (-(-1):Int)=1 from rfl,WE]; omega
 rw [this]
 refine Wq fun k _=>?_
 omega
theorem qT {n i k:Nat} (h:(List.range n)[i]?=some k):k=i/\i < n:=by
 obtain ⟨h1,h2⟩:=Zg.mp h
 rw [List.getElem_range] at h2
 rw [ZL] at h1
 exact ⟨h2.symm,h1⟩
theorem uL {ι:WQ} {H:Hp} (lo hi:Int):j9 Γ ⟨(rng lo hi 1).map .int,none,[]⟩ (Itr lo (hi - lo).toNat) ι H:=fun ι1 H1 S1 e s1 st=>by
 rw [mL,ZX]
 refine ⟨fun i d hd=>?_,by show (hi - lo).toNat<=_; simp⟩
 have hd:((List.range (hi - lo).toNat).map (D.int ∘ fun (k:Nat)=>lo+k))[i]?=some d:=hd
 rw [ZK,ZD] at hd
 obtain ⟨k,hk,rfl⟩:=hd
 obtain ⟨rfl,hlt⟩:=qT hk
 exact ⟨hlt,fun x H' ⟨e1,e2⟩=>by subst e1; subst e2; exact ⟨.refl,s1,.int _⟩⟩
theorem Hl {ι:WQ} {H:Hp} (lo hi:Int):j9 Γ ⟨(rng lo hi (-1)).map .int,none,[]⟩ (oO lo (lo - hi).toNat) ι H:=fun ι1 H1 S1 e s1 st=>by
 rw [GN,ZX]
 refine ⟨fun i d hd=>?_,by show (lo - hi).toNat<=_; simp⟩
 have hd:((List.range (lo - hi).toNat).map (D.int ∘ fun (k:Nat)=>lo - k))[i]?=some d:=hd
 rw [ZK,ZD] at hd
 obtain ⟨k,hk,rfl⟩:=hd
 obtain ⟨rfl,hlt⟩:=qT hk
 exact ⟨hlt,fun x H' ⟨e1,e2⟩=>by subst e1; subst e2; exact ⟨.refl,s1,.int _⟩⟩
theorem fO {i:Int} (h:near i=true):-(2 ^ 62)<=i/\i < 2 ^ 62:=Zn h
variable {b c:Expr} {m:Yf} {p:Pos}
theorem Out.monoE {α:Type} {r:Res α} {ι:WQ} {H:Hp} {k k':α->aa->List Addr->Hp->Prop} (h:Out Γ xw ι H r k) (f:∀ a S' ι' H',r=.ok a S'->Ext ι ι' H H'->ao Γ ι' H' S'->k a S' ι' H'->k' a S' ι' H'):Out Γ xw ι H r k':=by
 cases r with
 | ok a S'=>exact fun ι' H' e' s'=>f _ _ _ _ rfl e' s' (h ι' H' e' s')
 | exc c S'=>exact h
 | bad=>exact h
theorem IF (hg:Gl X "range") (hm:X.mg "range" = none) (ha:PA X [a] (tMA Γ xw m)) (hs:starEach [a] X.env=[(false,eval a X.env)]) (hlen:∀ σ S ds S',m σ S=.ok ds S'->ds.length=1) :
  PI X tg (.Call (.Name "range" p) [a] [] pos) (tMI Γ xw fun σ=>m σ>>=fun ds=>opt (bJ ds)>>=fun is=>pure ⟨is.map .int,none,[]⟩) :=
 PI.imp (xS hg hm ha hs) fun σ H R h=>by
  obtain ⟨σd,ι,S,he,hs,ho⟩:=h
  refine ⟨σd,ι,S,he,hs,Out.monoE ho.bind fun ds S' ι' H' eq _ _ ⟨s',e',o'⟩ vs rs=>?_⟩
  have hl:=hlen _ _ _ _ eq
  obtain ⟨is,q,o'⟩:=Out.opt o'
  have fin:=o'.here s'
  obtain ⟨d,_,_,_,rfl,rfl,r,rs,hl⟩:=Paired.step rs hl
  obtain ⟨rfl,rfl⟩:=Paired.last rs hl
  (
   cases r with
   | int j =>
    simp only [bJ] at q
    split at q
    ·rename_i hn
     cases q
     have hn:=fO hn
     refine ⟨j,rfl,hn.1,hn.2,fin _ ?_⟩
     have:=uL (Γ:=Γ) (ι:=ι') (H:=H') 0 j
     rw [Int.sub_zero] at this
     exact this
    ·cases q
   | _=>cases q)
theorem Gu (hg:Gl X "range") (hm:X.mg "range" = none) (ha:PA X [a,b] (tMA Γ xw m)) (hs:starEach [a,b] X.env=[(false,eval a X.env),(false,eval b X.env)]) (hs2:starEach [b] X.env=[(false,eval b X.env)]) (hlen:∀ σ S ds S',m σ S=.ok ds S'->ds.length=2) :
  PI X tg (.Call (.Name "range" p) [a,b] [] pos) (tMI Γ xw fun σ=>m σ>>=fun ds=>opt (bJ ds)>>=fun is=>pure ⟨is.map .int,none,[]⟩) :=
 PI.imp (FD hg hm ha hs hs2) fun σ H R h=>by
  obtain ⟨σd,ι,S,he,hs,ho⟩:=h
  refine ⟨σd,ι,S,he,hs,Out.monoE ho.bind fun ds S' ι' H' eq _ _ ⟨s',e',o'⟩ vs rs=>?_⟩
  have hl:=hlen _ _ _ _ eq
  obtain ⟨is,q,o'⟩:=Out.opt o'
  have fin:=o'.here s'
  obtain ⟨d,_,_,_,rfl,rfl,r,rs,hl⟩:=Paired.step rs hl
  obtain ⟨e,_,_,_,rfl,rfl,r2,rs,hl⟩:=Paired.step rs hl
  obtain ⟨rfl,rfl⟩:=Paired.last rs hl
  (
   cases r with
   | int i =>
    cases r2 with
    | int j =>
     simp only [bJ] at q
     split at q
     ·rename_i hn
      cases q
      rw [Zu] at hn
      have h1:=fO hn.1
      have h2:=fO hn.2
      exact ⟨i,j,rfl,⟨h1.1,h1.2,h2.1,h2.2⟩,fin _ (uL i j)⟩
     ·cases q
    | _=>cases q
   | _=>cases q)
theorem DE (hg:Gl X "range") (hm:X.mg "range" = none) (ha:PA X [a,b,c] (tMA Γ xw m)) (hs:starEach [a,b,c] X.env=[(false,eval a X.env),(false,eval b X.env),(false,eval c X.env)]) (hs2:starEach [b,c] X.env=[(false,eval b X.env),(false,eval c X.env)]) (hlen:∀ σ S ds S',m σ S=.ok ds S'->ds.length=3) :
  PI X tg (.Call (.Name "range" p) [a,b,c] [] pos) (tMI Γ xw fun σ=>m σ>>=fun ds=>opt (bJ ds)>>=fun is=>pure ⟨is.map .int,none,[]⟩) :=
 PI.imp (A9 hg hm ha hs hs2) fun σ H R h=>by
  obtain ⟨σd,ι,S,he,hs,ho⟩:=h
  refine ⟨σd,ι,S,he,hs,Out.monoE ho.bind fun ds S' ι' H' eq _ _ ⟨s',e',o'⟩ vs rs=>?_⟩
  have hl:=hlen _ _ _ _ eq
  obtain ⟨is,q,o'⟩:=Out.opt o'
  have fin:=o'.here s'
  obtain ⟨d,_,_,_,rfl,rfl,r,rs,hl⟩:=Paired.step rs hl
  obtain ⟨e,_,_,_,rfl,rfl,r2,rs,hl⟩:=Paired.step rs hl
  obtain ⟨f,_,_,_,rfl,rfl,r3,rs,hl⟩:=Paired.step rs hl
  obtain ⟨rfl,rfl⟩:=Paired.last rs hl
  (
   cases r with
   | int i =>
    cases r2 with
    | int j =>
     cases r3 with
     | int k =>
      simp only [bJ] at q
      split at q
      ·rename_i hn
       cases q
       rw [Zu,Zu] at hn
       have h1:=fO hn.1.1
       have h2:=fO hn.1.2
       have h3:k=-1:=Zn hn.2
       subst h3
       exact ⟨i,j,rfl,⟨h1.1,h1.2,h2.1,h2.2⟩,fin _ (Hl i j)⟩
      ·cases q
     | _=>cases q
    | _=>cases q
   | _=>cases q)
def tMG (Γ:Gx) (t:Tg):TG:=fun v σ H Q=>∃ σd ι S d σd',aY Γ ι H σ σd/\ao Γ ι H S/\Rep Γ ι H d v/\aS t d σd S=.ok σd' S/\∀ σ',aY Γ ι H σ' σd'->(∀ j,t.has j=false->σ'[j]?=σ[j]?)->Q σ' H
theorem PG.imp {target:Expr} {t t':TG} (h:PG X target t) (f:∀ v σ H Q,t' v σ H Q->t v σ H Q):PG X target t':=fun pins s σ H v u Q I r q=>h pins s σ H v u Q I r (f v σ H Q q)
theorem BO {i:Nat} {x:Str} (hN:X.N.Nodup) (hi:X.N[i]?=some x) (hx:Loc X.env.scope x) (hf:X.fn x=true\/X.env.scope.names.lookup x=some .local):PG X (.Name x pos) (tMG Γ (.one i)) :=
 PG.imp (sA hN hi hx hf) fun v σ H Q h=>by
  obtain ⟨σd,ι,S,d,σd',he,hs,r,hb,q⟩:=h
  cases hb
  exact q _ (he.set i r) fun j hj=>by rw [ZW (by intro z; subst z; simp [Tg.has] at hj)]
noncomputable def n5:List Nat->TGs
 | []=>vz
 | i::r=>t7 (i_ i) (n5 r)
noncomputable def k6 (X:Cx):List Expr->List Nat->Prop:=Paired fun e i=>∃ x p,e=.Name x p/\X.N[i]?=some x/\Loc X.env.scope x/\(X.fn x=true\/X.env.scope.names.lookup x=some .local)
theorem rG (hN:X.N.Nodup):∀ {es:WX} {is:W7},k6 X es is->PGs X es (n5 is)
 | _,_,.nil=>AU
 | _,_,.cons ⟨x,p,e,h1,h2,h3⟩ r=>by
  subst e
  exact BV (sA hN h1 h2 h3) (rG hN r) rfl
theorem mW:∀ {es:WX} {is:W7},k6 X es is->(assignEach es X.env).length=is.length/\(assignEach es X.env).findIdx? (·.1)=none
 | _,_,.nil=>⟨rfl,rfl⟩
 | _,_,.cons ⟨x,p,e,h1,h2,h3⟩ r=>by
  subst e
  obtain ⟨a,b⟩:=mW r
  refine ⟨Xn (· + 1) a,?_⟩
  show List.findIdx? (·.1) ((false,_)::assignEach _ X.env)=none
  rw [List.findIdx?_cons]
  simp only [Zw,ZU]
  rw [b]; rfl
theorem uC {ι:WQ} {H:Hp} {Q:L2.St->Hp->Prop}:∀ {is:W7} {ds:Yc} {xs:Ya} {σ:L2.St} {σd:Sg},ds.length=is.length->az Γ ι H ds xs->aY Γ ι H σ σd->(∀ σ',aY Γ ι H σ' (cz is ds σd)->(∀ j,is.contains j=false->σ'[j]?=σ[j]?)->Q σ' H)->n5 is xs σ H Q
 | [],[],_,σ,σd,_,.nil,he,q=>⟨rfl,q _ he fun _ _=>rfl⟩
 | i::is,d::ds,_,σ,σd,hl,.cons (b:=v) r rr,he,q=>⟨v,_,rfl,uC (by simpa using hl) rr (he.set i r) fun σ' h' hl'=>q σ' h' fun j hj=>by
   rw [List.contains_cons,Bool.or_eq_false_iff] at hj
   rw [hl' j hj.2,ZW (by intro z; subst z; simp at hj)]⟩
 | [],_::_,_,_,_,hl,_,_,_=>by simp at hl
 | _::_,[],_,_,_,hl,_,_,_=>by simp at hl
theorem G7 {es:WX} {is:W7} {k:Nat} (hK:Γ.K=X.K) (hc:X.calm=true) (hN:X.N.Nodup) (hn:k6 X es is):PG X (.Tuple es k pos) (tMG Γ (.many is)) :=
 PG.imp (Hq hc (rG hN hn) (mW hn).1 (mW hn).2) fun v σ H Q h=>by
  obtain ⟨σd,ι,S,d,σd',he,hs,r,hb,q⟩:=h
  cases d with
  | tup ds =>
   obtain ⟨a,xs,rfl,t,p⟩:=r.cF
   have hb:guard (decide (ds.length=is.length)) (pure (cz is ds σd):M Sg) S=.ok σd' S:=hb
   by_cases hl:ds.length=is.length
   ·rw [show decide (ds.length=is.length)=true from Zj hl] at hb
    cases hb
    exact ⟨a,xs,rfl,by rw [<- hK]; exact t,by rw [<- p.length]; exact hl,uC hl p he q⟩
   ·rw [show decide (ds.length=is.length)=false from Zq hl] at hb
    cases hb
  | _=>cases hb
theorem mC (t:Tg) (d:D) (σ:Sg) (S:aa):(∃ σ',aS t d σ S=.ok σ' S/\σ'.length=σ.length)\/aS t d σ S=.bad:=by
 have hlen:∀ (is:W7) (ds:Yc) (σ:Sg),(cz is ds σ).length=σ.length:=by
  intro is
  induction is with
  | nil=>intro ds σ; cases ds <;> rfl
  | cons i r ih=>intro ds σ; cases ds with
   | nil=>rfl
   | cons d ds=>show (cz r ds (σ.set i (some d))).length=_; rw [ih,XI]
 cases t with
 | one i=>exact .inl ⟨_,rfl,by rw [XI]⟩
 | many is =>
  cases d with
  | tup ds =>
   show (∃ σ',guard (decide (ds.length=is.length)) (pure (cz is ds σ):M Sg) S=.ok σ' S/\_)\/guard (decide (ds.length=is.length)) (pure (cz is ds σ):M Sg) S=.bad
   by_cases hl:ds.length=is.length
   ·rw [show decide (ds.length=is.length)=true from Zj hl]
    exact .inl ⟨_,rfl,hlen _ _ _⟩
   ·rw [show decide (ds.length=is.length)=false from Zq hl]
    exact .inr rfl
  | _=>exact .inr rfl
theorem Out.aS {α:Type} {t:Tg} {d:D} {σd:Sg} {ι:WQ} {H:Hp} {S:aa} {f:Sg->M α} {k:α->aa->List Addr->Hp->Prop} (ho:Out Γ xw ι H ((EV.aS t d σd>>=f) S) k):∃ σd',EV.aS t d σd S=.ok σd' S/\σd'.length=σd.length/\Out Γ xw ι H (f σd' S) k:=by
 rcases mC t d σd S with ⟨σ',e,l⟩|e
 ·rw [aj e] at ho; exact ⟨σ',e,l,ho⟩
 ·rw [aZ e] at ho; exact ho.elim
end
end EV

namespace EV
open PySem PySem.Spec PyProof.Rows L2
section
variable {X:Cx} {Γ:Gx} {xw:XW} {a b:Expr} {m:Yf} {pos:Pos}
end
end EV

namespace EV
open PySem PySem.Spec PyProof.Rows L2
def XF:XW:=fun _ _ _ _=>False
section
variable {Γ:Gx} {xw:XW} {ι ι':WQ} {H H':Hp} {S:aa} {σ:L2.St}
theorem ao.take (hS:ao Γ ι H S) {l:Addr} {xs:Ya} {ds:Yc} (hn:l ∉ ι) (h:H l=some (.lst xs)) (r:az Γ ι H ds xs):ao Γ (ι++[l]) H (S++[.lst ds]):=by
 have mv:∀ {d:D} {v:V},Rep Γ ι H d v->Rep Γ (ι++[l]) H d v:=fun r=>r.move (Zi _ _) (fun _ _ e=>e) fun _ _ _ e=>e
 refine ⟨by simp [hS.len],XX.mpr ⟨hS.nd,by simp,?_⟩,fun m c hm=>?_⟩
 ·intro a ha b hb
  have:b=l:=by simpa using hb
  subst this
  exact fun z=>hn (z ▸ ha)
 ·by_cases hl:m < S.length
  ·rw [ZF hl] at hm
   obtain ⟨a,ha,c1⟩:=hS.cell m c hm
   refine ⟨a,fC (Zi _ _) ha,?_⟩
   cases c with
   | lst zs=>obtain ⟨ws,hw,rw'⟩:=c1; exact ⟨ws,hw,Paired.imp (fun _ _ r=>mv r) rw'⟩
   | dct kvs=>obtain ⟨ws,hw,rw'⟩:=c1; exact ⟨ws,hw,Paired.imp (fun _ _ q=>⟨q.1,mv q.2⟩) rw'⟩
   | fdc kvs=>obtain ⟨ws,hw,rw'⟩:=c1; exact ⟨ws,hw,Paired.imp (fun _ _ q=>⟨q.1,mv q.2⟩) rw'⟩
  ·rw [ZP (by omega)] at hm
   have hl2:m - S.length=0:=by
    have:=(Zg.mp hm).1
    simp at this; omega
   rw [hl2] at hm
   have h':(Cell.lst ds)=c:=by simpa using hm
   subst h'
   have e1:m=ι.length:=by rw [hS.len]; omega
   subst e1
   exact ⟨l,by simp,xs,h,Paired.imp (fun _ _ r=>mv r) r⟩
theorem Ext.past (e:Ext ι ι' H H') {l:Addr} {ys:Ya} (hl:H l=none):Ext ι ι' H (upd H' l (.lst ys)) :=
 ⟨e.pre,fun a xs h=>by rw [aE (bz h hl)]; exact e.tup a xs h,fun a o u h=>by rw [aE (bz h hl)]; exact e.frz a o u h,fun a o h n=>by rw [aE (bz h hl)]; exact e.oth a o h n,e.fresh⟩
theorem Ext.bU (e:Ext ι ι' H H') {l:Addr} {o:HO} (h:H l=some o) (hn:l ∉ ι):H' l=some o/\l ∉ ι':=⟨e.oth l o h hn,fun m=>by have:=e.fresh l m hn; rw [h] at this; cases this⟩
theorem xW {src:Src} {f:D->M (Option D)} {post:Yc} {S2:aa} (h:bw src f [] S=.ok post S2):aH src S=.ok () S/\post=[]/\S2=S:=by
 have h:(aH src>>=fun _=>pure []) S=.ok post S2:=h
 rcases j6 src S with e|e
 ·rw [aj e] at h; cases h; exact ⟨e,rfl,rfl⟩
 ·rw [aZ e] at h; cases h
theorem CB {src:Src} {f:D->M (Option D)} {d:D} {rest post:Yc} {S2:aa} (h:bw src f (d::rest) S=.ok post S2) :
  aH src S=.ok () S/\∃ y S3 post',f d S=.ok y S3/\bw src f rest S3=.ok post' S2/\post=(match y with|some y=>y::post'|none=>post'):=by
 have h:(aH src>>=fun _=>f d>>=fun y=>bw src f rest>>=fun ys=>pure (match y with|some y=>y::ys|none=>ys)) S=.ok post S2:=h
 rcases j6 src S with e|e
 ·rw [aj e] at h
  cases q:f d S with
  | bad=>rw [aZ q] at h; cases h
  | exc c S3=>rw [cJ q] at h; cases h
  | ok y S3 =>
   rw [aj q] at h
   cases q2:bw src f rest S3 with
   | bad=>rw [aZ q2] at h; cases h
   | exc c S4=>rw [cJ q2] at h; cases h
   | ok ys S4=>rw [aj q2] at h; cases h; exact ⟨e,y,S3,ys,rfl,q2,rfl⟩
 ·rw [aZ e] at h; cases h
end
section
variable {X:Cx} {Γ:Gx} {xw:XW} {scope:Scope} {N':WU} {k:Nat} {elt iter tg:Expr} {ifs:WX} {pos:Pos} {mi:Sg->M Src} {t:Tg} {nt:Sg->M Bool} {me:Sg->M D}
noncomputable def jF (k:Nat) (mi:Sg->M Src) (t:Tg) (nt:Sg->M Bool) (me:Sg->M D):Sg->M D:=fun σ=>mi σ>>=fun s =>
 quiet (bw s (fun d=>aS t d (σ++List.replicate k none)>>=fun σ'=>nt σ'>>=fun b=>if b=true then me σ'>>=fun y=>pure (some y) else pure none) s.its)>>=fun ys=>guard (fits ys.length) (alloc (.lst ys))
theorem uO (hslot:∀ j,j < X.N.length->t.has j=false) {σ:L2.St} (hσ:σ.length=X.N.length) {H:Hp} {Q:VK} (h:tM Γ xw (jF k mi t nt me) σ H Q):lH k (tMI Γ xw mi) (tMG Γ t) (tMT Γ XF nt) (tM Γ XF me) σ H Q:=by
 obtain ⟨σd,ι,S,hE,hS,ho⟩:=h
 refine ⟨σd,ι,S,hE,hS,ho.bind.mono fun src S1 ι1 H1 _ _ ⟨s1,e1,o1⟩ J hJ l hl=>?_⟩
 generalize hf:(fun d=>aS t d (σd++List.replicate k none)>>=fun σ'=>nt σ'>>=fun b=>if b=true then me σ'>>=fun y=>pure (some y) else pure none)=f at o1
 cases q:bw src f src.its S1 with
 | bad=>rw [aZ (show quiet (bw src f src.its) S1=.bad by unfold quiet; rw [q])] at o1; exact o1.elim
 | exc c S2=>rw [aZ (show quiet (bw src f src.its) S1=.bad by unfold quiet; rw [q])] at o1; exact o1.elim
 | ok ys S2 =>
  rw [aj (show quiet (bw src f src.its) S1=.ok ys S2 by unfold quiet; rw [q])] at o1
  obtain ⟨hz,o1⟩:=Out.guard o1
  have hz:=jk hz
  refine ⟨fun i m H=>∃ ι' S' pre post xs,i<=src.its.length/\m=src.its.length - i/\Ext ι1 ι' H1 H/\ao Γ ι' H S'/\l ∉ ι'/\H l=some (.lst xs)/\az Γ ι' H pre xs/\bw src f (src.its.drop i) S'=.ok post S2/\ys=pre++post/\aY Γ ι' H σ σd,
   ⟨src.its.length,ι1,S1,[],ys,[],Xf _,rfl,Ext.laid hl,s1.laid hl _,s1.new hl,cu,.nil,q,rfl,(hE.ext e1).ext (Ext.laid hl)⟩,?_⟩
  rintro i m H ⟨ι',S',pre,post,xs,hi,rfl,eH,sH,ln,hH,rp,hc,hys,eE⟩
  by_cases hlt:i < src.its.length
  ·rw [Xp hlt] at hc
   obtain ⟨st,y,S3,post',hfd,hc',hpost⟩:=CB hc
   obtain ⟨jgo,jyld⟩:=(hJ ι' H S' eH sH st).1 i src.its[i] (Zc hlt)
   refine .inr ⟨jgo,fun x H' yl=>?_⟩
   obtain ⟨eX,sX,rX⟩:=jyld x H' yl
   obtain ⟨hH',_⟩:=eX.bU hH ln
   rw [<- hf] at hfd
   have hfd:(aS t src.its[i] (σd++List.replicate k none)>>=fun σ'=>nt σ'>>=fun b=>if b=true then me σ'>>=fun y=>pure (some y) else pure none) S'=.ok y S3:=hfd
   obtain ⟨σd',hb⟩:∃ σd',aS t src.its[i] (σd++List.replicate k none) S'=.ok σd' S':=by
    rcases mC t src.its[i] (σd++List.replicate k none) S' with ⟨σd',hb,_⟩|hb
    ·exact ⟨σd',hb⟩
    ·rw [aZ hb] at hfd; cases hfd
   rw [aj hb] at hfd
   refine ⟨σd++List.replicate k none,ι',S',src.its[i],σd',(eE.ext eX).more k,sX,rX,hb,fun σ' hE' hK=>⟨fun j v hj=>?_,?_⟩⟩
   ·rw [hK j (hslot j ?_)]; exact hj
    by_cases hjl:j < σ.length
    ·omega
    ·rw [ZP (by omega),X2] at hj
     split at hj <;> cases hj
   ·cases qn:nt σd' S' with
    | bad=>rw [aZ qn] at hfd; cases hfd
    | exc c S4=>rw [cJ qn] at hfd; cases hfd
    | ok b S4 =>
     rw [aj qn] at hfd
     refine ⟨σd',ι',S',hE',sX,?_⟩
     rw [qn]
     intro ι3 H3 e3 s3
     obtain ⟨hH3,ln3⟩:=e3.bU hH' ln
     have eA:Ext ι1 ι3 H1 H3:=(eH.trans eX).trans e3
     cases b with
     | false =>
      rw [Ze Zz] at hfd ⊢
      cases hfd
      exact ⟨src.its.length - (i+1),by omega,ι3,_,pre,post',xs,hlt,rfl,eA,s3,ln3,hH3,az.ext e3 (az.ext eX rp),hc',by rw [hys,hpost],(eE.ext eX).ext e3⟩
     | true =>
      rw [Zd rfl] at hfd ⊢
      refine ⟨σd',ι3,S4,hE'.ext e3,s3,?_⟩
      cases qe:me σd' S4 with
      | bad=>rw [aZ qe] at hfd; cases hfd
      | exc c S5=>rw [cJ qe] at hfd; cases hfd
      | ok yd S5 =>
       rw [aj qe] at hfd
       cases hfd
       intro ι4 H4 e4 s4 v rv
       obtain ⟨hH4,ln4⟩:=e4.bU hH3 ln3
       have rp4:az Γ ι4 H4 pre xs:=az.ext e4 (az.ext e3 (az.ext eX rp))
       refine ⟨xs,hH4,?_,src.its.length - (i+1),by omega,ι4,_,pre++[yd],post',xs++[v],hlt,rfl,(eA.trans e4).past hl,s4.other hH4 ln4,ln4,cu,az.write hH4 (Paired.app rp4 (.cons rv .nil)),hc',by rw [hys,hpost]; simp,(((eE.ext eX).ext e3).ext e4).write hH4⟩
       have:=rp4.length
       rw [hys,hpost,Zp,ZB] at hz
       omega
  ·have ei:i=src.its.length:=by omega
   subst ei
   rw [List.drop_length] at hc
   obtain ⟨st,rfl,rfl⟩:=xW hc
   refine .inl ⟨(hJ ι' H S2 eH sH st).2,?_⟩
   rw [Xl] at hys
   subst hys
   refine o1 (ι'++[l]) H ⟨eH.pre.trans (Zi _ _),eH.tup,eH.frz,eH.oth,fun a ha hn=>?_⟩ (sH.take ln hH rp) _ (.loc (by rw [<- sH.len]; simp))
   rcases ZE.mp ha with z|z
   ·exact eH.fresh a z hn
   ·have:a=l:=by simpa using z
    rw [this]; exact hl
theorem G5 (C:eV X scope N' k) (hc:X.calm=true) (hslot:∀ j,j < X.N.length->t.has j=false) (hi:PI X tg iter (tMI Γ xw mi)) (hg:∀ cl fp s3 H3,PG (aQ X scope cl N' fp s3 H3) tg (tMG Γ t)) (htt:∀ cl fp s3 H3,PF (aQ X scope cl N' fp s3 H3) ifs (tMT Γ XF nt)) (hte:∀ cl fp s3 H3,PE (aQ X scope cl N' fp s3 H3) elt (tM Γ XF me))
  (hs:∀ x,foldedSetIterable iter X.env x=pure x):PE X (.ListComp elt [⟨tg,iter,ifs,0⟩] scope pos) (tM Γ xw (jF k mi t nt me)):=by
 intro pins s σ H Q I h
 exact CD C hc hi hg htt hte hs pins s σ H Q I (uO hslot I.len h)
def FlK (Γ:Gx) (D:Ends):Fl->aa->List Addr->Hp->Prop
 | .nx σ',_,ι',H'=>∀ σv,aY Γ ι' H' σv σ'->D.nx σv H'
 | .rt d,_,ι',H'=>∀ v,Rep Γ ι' H' d v->D.rt v H'
 | .bk σ',_,ι',H'=>∀ σv,aY Γ ι' H' σv σ'->D.bk σv H'
 | .ct σ',_,ι',H'=>∀ σv,aY Γ ι' H' σv σ'->D.ct σv H'
def tMS (Γ:Gx) (xw:XW) (m:Sg->M Fl):TS:=fun D σ H=>∃ σd ι S,aY Γ ι H σ σd/\ao Γ ι H S/\Out Γ xw ι H (m σd S) (FlK Γ D)
variable {e:Expr} {ma:Sg->M D} {na:Sg->M Bool} {ms ms2:Sg->M Fl} {st:Stmt} {sts sts2:List Stmt}
theorem zQ (he:PE X e (tM Γ xw ma)):PS X (.Return (some e) pos) (tMS Γ xw fun σ=>ma σ>>=fun d=>pure (.rt d)) :=
 PS.imp (zF he) fun D σ H h=>by
  obtain ⟨σd,ι,S,hE,hs,ho⟩:=h
  exact ⟨σd,ι,S,hE,hs,ho.bind.mono fun d S' ι' H' _ _ ⟨s',e',o'⟩ v r=>o'.here s' v r⟩
theorem D3:PS X (.Return none pos) (tMS Γ xw fun _=>pure (.rt .non)) :=
 PS.imp zc fun D σ H h=>by
  obtain ⟨σd,ι,S,hE,hs,ho⟩:=h
  exact ho.here hs _ .non
theorem yT (he:PE X e (tM Γ xw ma)) (hs:swapsWith e none pos.line X.env=pure false):PS X (.Expr e pos) (tMS Γ xw fun σ=>ma σ>>=fun _=>pure (.nx σ)) :=
 PS.imp (Fd he hs) fun D σ H h=>by
  obtain ⟨σd,ι,S,hE,hs,ho⟩:=h
  exact ⟨σd,ι,S,hE,hs,ho.bind.mono fun d S' ι' H' _ _ ⟨s',e',o'⟩ v r=>o'.here s' _ (hE.ext e')⟩
theorem DS:PS X (.Pass pos) (tMS Γ xw fun σ=>pure (.nx σ)) :=
 PS.imp Gv fun D σ H h=>by
  obtain ⟨σd,ι,S,hE,hs,ho⟩:=h
  exact ho.here hs _ hE
theorem D6 {x j p2}:PS X (.Expr (.Constant (.str x) j p2) pos) (tMS Γ xw fun σ=>pure (.nx σ)) :=
 PS.imp A3 fun D σ H h=>by
  obtain ⟨σd,ι,S,hE,hs,ho⟩:=h
  exact ho.here hs _ hE
theorem Cc {D:Ends} {σ:L2.St} {H:Hp} (h:tMS Γ xw (fun σ=>ma σ>>=fun d=>aS t d σ>>=fun σ'=>pure (.nx σ')) D σ H):lJ (tM Γ xw ma) (tMG Γ t) D σ H:=by
 obtain ⟨σd,ι,S,hE,hs,ho⟩:=h
 refine ⟨σd,ι,S,hE,hs,ho.bind.mono fun d S' ι' H' _ _ ⟨s',e',o'⟩ v r=>?_⟩
 obtain ⟨σd',hb,_,o'⟩:=Out.aS o'
 exact ⟨σd,ι',S',d,σd',hE.ext e',s',r,hb,fun σ' hE' _=>o'.here s' _ hE'⟩
theorem lZ (he:PE X e (tM Γ xw ma)) (hg:PG X tg (tMG Γ t)) (hs:swapsWithSole [tg] e pos.line X.env=pure false) (hw:swappedStores [tg] e X.env=pure none) (h1:(assignEach [tg] X.env).map (·.2)=[assign tg X.env]) :
  PS X (.Assign [tg] e pos) (tMS Γ xw fun σ=>ma σ>>=fun d=>aS t d σ>>=fun σ'=>pure (.nx σ')):=PS.imp (Bp he hg hs hw h1) fun D σ H h=>Cc h
theorem CC {j:Nat} {y:Str} {py spos:Pos} (C:eV X scope N' k) (hc:X.calm=true) (hslot:∀ j,j < X.N.length->t.has j=false) (hi:PI X tg iter (tMI Γ xw mi)) (hg:∀ cl fp s3 H3,PG (aQ X scope cl N' fp s3 H3) tg (tMG Γ t)) (htt:∀ cl fp s3 H3,PF (aQ X scope cl N' fp s3 H3) ifs (tMT Γ XF nt)) (hte:∀ cl fp s3 H3,PE (aQ X scope cl N' fp s3 H3) elt (tM Γ XF me))
  (hN:X.N.Nodup) (hj:X.N[j]?=some y) (hy:X.env.scope.names.lookup y=some .local) (hsw:swapsWith (.ListComp elt [⟨tg,iter,ifs,0⟩] scope pos) (some (.Name y py)) spos.line X.env=pure true) (hs:∀ x,foldedSetIterable iter X.env x=pure x) :
  PS X (.Assign [.Name y py] (.ListComp elt [⟨tg,iter,ifs,0⟩] scope pos) spos) (tMS Γ xw fun σ=>jF k mi t nt me σ>>=fun d=>aS (.one j) d σ>>=fun σ'=>pure (.nx σ')):=by
 intro pins s σ H D I h
 refine zy C hc hi hg htt hte hN hj hy hsw hs pins s σ H D I ?_
 have h1:tM Γ xw (jF k mi t nt me) σ H (fun x H1=>i_ j x σ H1 D.nx):=by
  obtain ⟨σd,ι,S,hE,hS,ho⟩:=h
  refine ⟨σd,ι,S,hE,hS,ho.bind.mono fun d S' ι' H' _ _ ⟨s',e',o'⟩ v r=>?_⟩
  exact o'.here s' _ ((hE.ext e').set j r)
 exact uO hslot I.len h1
theorem AX {c:Expr} (hc:PT X c (tMT Γ xw na)) (ha:PSs X sts (tMS Γ xw ms)) (hb:PSs X sts2 (tMS Γ xw ms2)):PS X (.If c sts sts2 pos) (tMS Γ xw fun σ=>na σ>>=fun k=>if k=true then ms σ else ms2 σ) :=
 PS.imp (Ct hc ha hb) fun D σ H h=>by
  obtain ⟨σd,ι,S,hE,hs,ho⟩:=h
  refine ⟨σd,ι,S,hE,hs,ho.bind.mono fun k S' ι' H' _ _ ⟨s',e',o'⟩=>?_⟩
  cases k with
  | true=>rw [Zd rfl]; exact ⟨σd,ι',S',hE.ext e',s',o'⟩
  | false=>rw [Ze Zz]; exact ⟨σd,ι',S',hE.ext e',s',o'⟩
theorem x9:PSs X [] (tMS Γ xw fun σ=>pure (.nx σ)) :=
 PSs.imp xq fun D σ H h=>by
  obtain ⟨σd,ι,S,hE,hs,ho⟩:=h
  exact ho.here hs _ hE
theorem yb (h1:PS X st (tMS Γ xw ms)):PSs X [st] (tMS Γ xw ms):=GH h1
theorem xH (h1:PS X st (tMS Γ xw ms)) (h2:PSs X sts (tMS Γ xw ms2)):PSs X (st::sts) (tMS Γ xw fun σ=>ms σ>>=fun f=>match f with|.nx σ'=>ms2 σ'|f=>pure f) :=
 PSs.imp (BY h1 h2) fun D σ H h=>by
  obtain ⟨σd,ι,S,hE,hs,ho⟩:=h
  refine ⟨σd,ι,S,hE,hs,ho.bind.mono fun f S' ι' H' _ _ ⟨s',e',o'⟩=>?_⟩
  cases f with
  | nx σ'=>exact fun σv hv=>⟨σ',ι',S',hv,s',o'⟩
  | rt d=>exact fun v r=>o'.here s' v r
  | bk σ'=>exact fun σv hv=>o'.here s' σv hv
  | ct σ'=>exact fun σv hv=>o'.here s' σv hv
end
end EV

namespace EV
open PySem PySem.Spec PyProof.Rows L2
section
variable {X:Cx} {Γ:Gx} {xw:XW} {pins:WI} {σ:L2.St} {H:Hp} {s:WN} {ι:WQ} {S:aa}
theorem uq (k:WJ):(k.map V.int)=(k.map (Sum.inl:Int->Key)).map kV:=by
 rw [ZX]; rfl
theorem lF:∀ {a b:WJ},a.map (Sum.inl:Int->Key)=b.map Sum.inl->a=b
 | [],[],_=>rfl
 | [],_::_,h=>by cases h
 | _::_,[],h=>by cases h
 | a::r,b::q,h=>by
  obtain ⟨h1,h2⟩:=Qq h
  rw [Sum.inl.inj h1,lF h2]
theorem m9 (a b:WJ):decide (a.map (Sum.inl:Int->Key)=b.map Sum.inl)=decide (a=b):=by
 by_cases h:a=b
 ·rw [Zj h,Zj (by rw [h])]
 ·rw [Zq h,Zq fun e=>h (lF e)]
theorem aJ.get {k:WJ}:∀ {kvs:Yd} {xs:Yb} {d:D},aJ Γ ι H kvs xs->cg kvs k=some d->∃ v,b8 xs (k.map Sum.inl)=some v/\Rep Γ ι H d v
 | _,_,d,.nil,h=>by cases h
 | p::r,q::t,d,.cons e u,h=>by
  unfold cg at h
  unfold b8
  rw [ZT] at h ⊢
  rw [e.1,m9]
  cases c:decide (p.1=k) with
  | true =>
   rw [c] at h
   cases h
   exact ⟨q.2,rfl,e.2⟩
  | false =>
   rw [c] at h
   exact aJ.get u h
theorem aJ.any (k:WJ):∀ {kvs:Yd} {xs:Yb},aJ Γ ι H kvs xs->(xs.any fun kv=>decide (kv.1=k.map Sum.inl))=kvs.any fun kv=>decide (kv.1=k)
 | _,_,.nil=>rfl
 | p::r,q::t,.cons e u=>by
  rw [XZ,XZ,aJ.any k u,e.1,m9]
theorem aJ.repl (k:WJ) {d:D} {v:V} (rv:Rep Γ ι H d v):∀ {kvs:Yd} {xs:Yb},aJ Γ ι H kvs xs->aJ Γ ι H (kvs.map fun kv=>if kv.1=k then (kv.1,d) else kv) (xs.map fun kv=>if kv.1=k.map Sum.inl then (kv.1,v) else kv)
 | _,_,.nil=>.nil
 | p::r,q::t,.cons e u=>by
  rw [ZC,ZC]
  refine .cons ?_ (aJ.repl k rv u)
  by_cases h:p.1=k
  ·rw [Zd h,Zd (by rw [e.1,h])]
   exact ⟨e.1,rv⟩
  ·rw [Ze h,Ze fun z=>h (lF (by rw [<- e.1,z]))]
   exact e
theorem aJ.snoc {k:WJ} {d:D} {v:V} (rv:Rep Γ ι H d v):∀ {kvs:Yd} {xs:Yb},aJ Γ ι H kvs xs->aJ Γ ι H (kvs++[(k,d)]) (xs++[(k.map Sum.inl,v)])
 | _,_,.nil=>.cons ⟨rfl,rv⟩ .nil
 | _::_,_::_,.cons e u=>.cons e (aJ.snoc rv u)
theorem aJ.put {k:WJ} {d:D} {v:V} (rv:Rep Γ ι H d v) {kvs:Yd} {xs:Yb} (r:aJ Γ ι H kvs xs):aJ Γ ι H (iY kvs k d) (putK xs (k.map Sum.inl) v):=by
 unfold iY putK
 rw [aJ.any k r]
 split
 ·exact aJ.repl k rv r
 ·exact aJ.snoc rv r
theorem uI {a:Addr} {xs ys:Yb} (h:H a=some (.dT xs)):∀ b zs,H b=some (.tup zs)->upd H a (.dT ys) b=some (.tup zs):=fun b zs e=>by
 rw [aE]; exact e
 rintro rfl; rw [h] at e; cases e
theorem sW {a:Addr} {xs ys:Yb} (h:H a=some (.dT xs)):∀ b o u,H b=some (.frz o u)->upd H a (.dT ys) b=some (.frz o u):=fun b o u e=>by
 rw [aE]; exact e
 rintro rfl; rw [h] at e; cases e
theorem Rep.eK {a:Addr} {xs ys:Yb} (h:H a=some (.dT xs)) {d:D} {v:V} (r:Rep Γ ι H d v):Rep Γ ι (upd H a (.dT ys)) d v:=r.move (Z2 _) (uI h) (sW h)
theorem ao.dct (hS:ao Γ ι H S) {l:Nat} {kvs:Yd} (h:S[l]?=some (.dct kvs)):∃ a xs,ι[l]?=some a/\H a=some (.dT xs)/\aJ Γ ι H kvs xs:=by
 obtain ⟨a,ha,xs,hx,r⟩:=hS.cell l _ h
 exact ⟨a,xs,ha,hx,r⟩
theorem ao.eK (hS:ao Γ ι H S) {l:Nat} {a:Addr} {xs ys:Yb} {es kvs:Yd} (hl:S[l]?=some (.dct es)) (ha:ι[l]?=some a) (h:H a=some (.dT xs)) (r:aJ Γ ι H kvs ys):ao Γ ι (upd H a (.dT ys)) (S.set l (.dct kvs)):=by
 refine ⟨by rw [XI]; exact hS.len,hS.nd,fun m c hm=>?_⟩
 by_cases e:m=l
 ·subst e
  rw [Xe (Zg.mp hl).1] at hm
  cases hm
  exact ⟨a,ha,ys,cu,Paired.imp (fun _ _ q=>⟨q.1,Rep.eK h q.2⟩) r⟩
 ·rw [ZW (Ne.symm e)] at hm
  obtain ⟨b,hb,c1⟩:=hS.cell m c hm
  have hne:b≠a:=fun z=>e (ic hS.nd hb (z ▸ ha))
  refine ⟨b,hb,?_⟩
  cases c with
  | lst zs=>obtain ⟨ws,hw,rw'⟩:=c1; exact ⟨ws,by rw [aE hne]; exact hw,Paired.imp (fun _ _ q=>Rep.eK h q) rw'⟩
  | dct kvs=>obtain ⟨ws,hw,rw'⟩:=c1; exact ⟨ws,by rw [aE hne]; exact hw,Paired.imp (fun _ _ q=>⟨q.1,Rep.eK h q.2⟩) rw'⟩
  | fdc kvs=>obtain ⟨ws,⟨o,hw⟩,rw'⟩:=c1; exact ⟨ws,⟨o,by rw [aE hne]; exact hw⟩,Paired.imp (fun _ _ q=>⟨q.1,Rep.eK h q.2⟩) rw'⟩
theorem Ext.eK {a:Addr} {xs ys:Yb} (h:H a=some (.dT xs)) (hm:a∈ι):Ext ι ι H (upd H a (.dT ys)) :=
 ⟨Z2 _,uI h,sW h,fun b o e n=>by
  have hne:b≠a:=fun z=>n (by rw [z]; exact hm)
  rw [aE hne]; exact e,fun _ h n=>absurd h n⟩
theorem ao.Ie (hS:ao Γ ι H S) {p:Addr} (hp:H p=none):ao Γ (ι++[p]) (upd H p (.dT [])) (S++[.dct []]):=by
 have e:Ext ι (ι++[p]) H (upd H p (.dT [])):=Ext.more hp
 refine ⟨by simp [hS.len],XX.mpr ⟨hS.nd,by simp,?_⟩,fun l c h=>?_⟩
 ·intro a ha b hb
  have:b=p:=by simpa using hb
  subst this
  exact fun z=>hS.new hp (z ▸ ha)
 ·by_cases hl:l < S.length
  ·rw [ZF hl] at h
   obtain ⟨a,ha,c1⟩:=hS.cell l c h
   exact ⟨a,fC e.pre ha,c1.ext e fun ys hy=>by rw [aE (bz hy hp)]; exact hy⟩
  ·rw [ZP (by omega)] at h
   have hl2:l - S.length=0:=by
    have:=(Zg.mp h).1
    simp at this; omega
   rw [hl2] at h
   have h':(Cell.dct [])=c:=by simpa using h
   subst h'
   exact ⟨p,by rw [ZP (by rw [hS.len]; omega),hS.len,hl2]; rfl,[],cu,.nil⟩
theorem GJ {pos:Pos}:PE X (.Dict [] [] pos) (tM Γ xw fun _=>alloc (.dct [])) :=
 PE.imp EX fun σ H Q h=>by
  obtain ⟨σd,ι,S,he,hs,ho⟩:=h
  exact fun p hp=>ho (ι++[p]) _ (Ext.more hp) (hs.Ie hp) _ (.loc (by rw [<- hs.len]; simp))
theorem Out.eO {l:Nat} {f:List (List Int × D)->M D} {k:D->aa->List Addr->Hp->Prop} (h:Out Γ xw ι H (EV.eO l f S) k):∃ kvs,S[l]?=some (.dct kvs)/\Out Γ xw ι H (f kvs S) k:=by
 have e:EV.eO l f S=match S[l]? with|some (.dct kvs)=>f kvs S|_=>.bad:=rfl
 rw [e] at h
 cases q:S[l]? with
 | none=>rw [q] at h; exact h.elim
 | some c =>
  rw [q] at h
  cases c with
  | dct kvs=>exact ⟨kvs,rfl,h⟩
  | lst ds=>exact h.elim
  | fdc kvs=>exact h.elim
end
end EV

namespace EV
open PySem PySem.Spec PyProof.Rows L2 TB
theorem vm:∀ {t u:WJ},t≠u->lexLe t u=true->aC t u=true
 | [],[],h,_=>absurd rfl h
 | [],_::_,_,_=>rfl
 | _::_,[],_,e=>by cases e
 | a::r,b::q,h,e=>by
  unfold lexLe at e
  unfold aC
  by_cases ab:a=b
  ·subst ab
   rw [Ze (Int.lt_irrefl a),Zd rfl] at e
   rw [Zd rfl]
   exact vm (fun z=>h (by rw [z])) e
  ·rw [Ze ab]
   by_cases lt:a < b
   ·exact Zj lt
   ·rw [Ze lt,Ze ab] at e; cases e
theorem vf:∀ {t u:WJ},lexLe t u=false->aC u t=true
 | [],_,e=>by cases e
 | _::_,[],_=>rfl
 | a::r,b::q,e=>by
  unfold lexLe at e
  unfold aC
  by_cases ab:a=b
  ·subst ab
   rw [Ze (Int.lt_irrefl a),Zd rfl] at e
   rw [Zd rfl]
   exact vf e
  ·rw [Ze fun z=>ab z.symm]
   by_cases lt:a < b
   ·rw [Zd lt] at e; cases e
   ·exact Zj (by omega)
theorem gW (t x:WJ):∀ r,x∈bV t r ↔ x=t\/x∈r
 | []=>by unfold bV; simp
 | u::r=>by
  unfold bV
  by_cases e:t=u
  ·rw [Zd e]; subst e; simp
  ·rw [Ze e]
   by_cases l:lexLe t u=true
   ·rw [Zd l]; simp
   ·rw [Ze l,Zt,gW t x r,Zt]; constructor
    ·rintro (h|h|h)
     ·exact .inr (.inl h)
     ·exact .inl h
     ·exact .inr (.inr h)
    ·rintro (h|h|h)
     ·exact .inr (.inl h)
     ·exact .inl h
     ·exact .inr (.inr h)
theorem tD (t:WJ):∀ {r},r.Pairwise (fun a b=>aC a b=true)->(bV t r).Pairwise (fun a b=>aC a b=true)
 | [],_=>by unfold bV; exact List.pairwise_singleton _ _
 | u::r,h=>by
  unfold bV
  by_cases e:t=u
  ·rw [Zd e]; exact h
  ·rw [Ze e]
   obtain ⟨h1,h2⟩:=XB.mp h
   by_cases l:lexLe t u=true
   ·rw [Zd l]
    have tu:=vm e l
    refine XB.mpr ⟨fun x hx=>?_,h⟩
    rcases Zt.mp hx with z|z
    ·rw [z]; exact tu
    ·exact lex_trans _ _ _ tu (h1 x z)
   ·rw [Ze l]
    have ut:=vf (Bool.eq_false_iff.mpr l)
    refine XB.mpr ⟨fun x hx=>?_,tD t h2⟩
    rcases (gW t x r).mp hx with z|z
    ·rw [z]; exact ut
    ·exact h1 x z
theorem j5:∀ ts,(bf ts).Pairwise (fun a b=>aC a b=true)
 | []=>.nil
 | t::r=>tD t (j5 r)
theorem l8 (x:WJ):∀ ts,x∈bf ts ↔ x∈ts
 | []=>Iff.rfl
 | t::r=>by
  show x∈bV t (bf r) ↔ _
  rw [gW,l8 x r,Zt]
theorem qZ {l:WO} (h:l.Pairwise (fun a b=>aC a b=true)):l.Nodup:=h.imp fun {a b} e q=>by
 rw [q,lex_irrefl] at e; cases e
theorem lY {ts ks:WO} (h:ks.Pairwise (fun a b=>aC a b=true)) (m:∀ y,y∈ks ↔ y∈ts):ks=bf ts:=by
 have p:ks.Perm (bf ts):=(List.perm_ext_iff_of_nodup (qZ h) (qZ (j5 ts))).mpr fun y=>by rw [m,l8]
 refine p.eq_of_pairwise (fun x y _ _ h1 h2=>?_) h (j5 ts)
 have z:=lex_trans _ _ _ h1 h2
 rw [lex_irrefl] at z; cases z
theorem iV (t:WJ):∀ r,(bV t r).length<=r.length+1
 | []=>Zk _
 | u::r=>by
  unfold bV
  by_cases e:t=u
  ·rw [Zd e]; exact XL _
  ·rw [Ze e]
   by_cases l:lexLe t u=true
   ·rw [Zd l]; exact Zk _
   ·rw [Ze l]; exact Nat.succ_le_succ (iV t r)
theorem ja:∀ ts,(bf ts).length<=ts.length
 | []=>Zk _
 | t::r=>Z7 (iV t (bf r)) (Nat.succ_le_succ (ja r))
theorem oM:∀ {ds:Yc} {ts:WO},tups ds=some ts->ds=ts.map fun t=>.tup (t.map .int)
 | [],_,h=>by cases h; rfl
 | d::r,ts,h=>by
  cases d with
  | tup es =>
   unfold tups at h
   cases q1:allInts es with
   | none=>rw [q1] at h; cases h
   | some t =>
    cases q2:tups r with
    | none=>rw [q1,q2] at h; cases h
    | some q =>
     rw [q1,q2] at h; cases h
     rw [ZC,<- oM q2,<- ints_map q1]
  | _=>cases h
section
variable {X:Cx} {Γ:Gx} {xw:XW} {ι:WQ} {H:Hp}
theorem uu {P:WP} {w:WS}:∀ {ks:WJ} {its:WM},Vals (ks.map V.int) its->ItemsAre (intKind P w) ks its
 | [],_,.nil=>.nil
 | k::r,_,.cons h t=>by
  obtain ⟨u,rfl⟩:=h
  exact .cons (Z1 k) (uu t)
theorem gr {pins:WI} {σ:L2.St} {s:WN} {c:Addr} {ks:WJ} (I:Inv X pins σ H s) (h:H c=some (.tup (ks.map V.int))):TK X.prog X.w s.heap ks c:=by
 obtain ⟨its,r,⟨o,e1,e2,n,e3⟩,_⟩:=I.tuple (.of h)
 exact ⟨o,its.toArray,n,e1,e2,e3,uu r⟩
theorem nv:∀ {out:WM} {ks:WO},out.length=ks.length->(∀ (i:Nat) v k,out[i]?=some v->ks[i]?=some k->∃ c,v=.ref c/\H c=some (.tup (k.map V.int)))->∃ vs,Vals vs out/\az Γ ι H (ks.map fun t=>.tup (t.map .int)) vs
 | [],[],_,_=>⟨[],.nil,.nil⟩
 | [],_::_,hl,_=>by cases hl
 | _::_,[],hl,_=>by cases hl
 | v::o,k::r,hl,h=>by
  obtain ⟨c,rfl,e⟩:=h 0 v k rfl rfl
  obtain ⟨vs,h1,h2⟩:=nv (out:=o) (ks:=r) (Nat.succ.inj hl) fun i v' k' e1 e2=>h (i+1) v' k' e1 e2
  exact ⟨.ref c::vs,.cons rfl h1,.cons (.kU e (gg k)) h2⟩
theorem item_at:∀ {ts:WO} {xs:Ya} {its:WM} {i:Nat} {v:W9},az Γ ι H (ts.map fun t=>.tup (t.map .int)) xs->Vals xs its->its[i]?=some v->∃ c t,v=.ref c/\ts[i]?=some t/\H c=some (.tup (t.map V.int))
 | [],_,_,_,_,.nil,.nil,e=>by simp at e
 | t::r,_,_,0,_,.cons a p,.cons b q,e=>by
  cases e
  obtain ⟨c,rfl,sq⟩:=a.trk
  cases b
  exact ⟨c,t,rfl,rfl,sq⟩
 | t::r,_,_,i+1,_,.cons a p,.cons b q,e=>by
  obtain ⟨c,u,e1,e2,e3⟩:=item_at (ts:=r) (i:=i) p q e
  exact ⟨c,u,e1,e2,e3⟩
theorem AD {sub:Sub} {x y:Str} {p p' pos pos':Pos} {a:Expr} {ma:Sg->M D} (hK:Γ.K=X.K) (hc:X.calm=true) (hu:X.A.units+4 < cLine) (hg:Gl X x) (hm:X.mg x=none) (hv:bootBuiltins x=some (.builtin "sorted"))
  (hg':Gl X y) (hm':X.mg y=none) (hv':bootBuiltins y=some (.type "set")) (ha:PE X a (tM Γ xw ma)) (hn:x≠"__name__") (hdb:(x==("__debug__" : Str))=false) (hn':y≠"__name__") (hdb':(y==("__debug__" : Str))=false)
  (hs:starEach [a] X.env=(false,eval a X.env)::starEach [] X.env):PE X (.Call (.Name x p) [.Call (.Name y p') [a] [] pos'] [] pos) (tM Γ xw fun σ=>ma σ>>=fun d=>bi1 sub .sortedSet d):=by
 intro pins s σ H Q I h
 refine XO (cP I hg hm hv ?_ hn hdb)
 refine PyProof.Rows.callWith_builtin1 (e:=.Call (.Name y p') [a] [] pos') (rest:=[]) ?_ rfl rfl
 refine QV ?_
 refine XO (cP I hg' hm' hv' ?_ hn' hdb')
 refine Z3 (e:=a) (rest:=[]) ?_ hs rfl
 rw [hs]
 refine QV (thn (ha pins s σ H _ I (FI h)) fun u s1 ⟨v,H1,I1,r1,q1⟩=>Q8 ?_)
 obtain ⟨ι,S,d,hS,r,ho⟩:=q1
 obtain ⟨ds,q,ho⟩:=Out.c_ ho
 obtain ⟨ts,q2,ho⟩:=Out.opt ho
 obtain ⟨hz,ho⟩:=Out.guard ho
 obtain ⟨hz1,hz2⟩:=QO.mp hz
 have hz1:ts.length<=18:=Zn hz1
 obtain ⟨_,pa,xs,rfl,sq,rp⟩:=Eu hS r q
 rw [oM q2] at rp
 cases r1
 rw [hK] at sq
 obtain ⟨its,rv,pl,_⟩:=I1.list sq
 have hl:its.length=ts.length:=by rw [<- rv.length,<- rp.length,Zb]
 refine yG (val:=fun i=>ts.getD i []) hu (I1.ok.hd hc) pl.isList (fun i v e=>?_) (by rw [Zo]; omega) fun h' tk md=>?_
 ·obtain ⟨c,t,e1,e2,e3⟩:=item_at rp rv (by simpa using e)
  refine ⟨c,e1,?_⟩
  show TK X.prog X.w s1.heap (ts.getD i []) c
  rw [ZJ,e2]
  exact gr I1 e3
 ·obtain ⟨⟨L,tset,hL⟩,k1⟩:=md
  have hlt:s1.heap.objs.size < h'.objs.size:=by
   obtain ⟨o,_,_,_,e,_⟩:=tset
   exact Zv e
  have hmem:∀ y,y∈L ↔ y∈ts:=fun y=>by
   rw [hL]
   constructor
   ·rintro ⟨j,h1,rfl⟩
    rw [Zo,hl] at h1
    show ts.getD j []∈ts
    rw [ZJ,Zc h1]
    exact Xo h1
   ·intro hy
    obtain ⟨j,hj⟩:=ZO hy
    exact ⟨j,by rw [Zo,hl]; exact (Zg.mp hj).1,by show ts.getD j []=y; rw [ZJ,hj]; rfl⟩
  refine Q8 (BF (s:={ s1 with heap:=h',toks:=tk }) (I1.ok.hd hc) tset (fun ks hk e=>?_) fun h2 tk2 R ks hR hol so hm2 old=>?_)
  ·have:=Xa.mp hz2 ks ((hmem ks).mp hk)
   rw [e] at this; cases this
  ·obtain ⟨out,n,eo,el,ev⟩:=hol
   have kp:∀ b o,s1.heap.get? b=some o->h2.get? b=some o:=fun b o e=>old b o (QG (Zv e) hlt) (k1 b o (Zv e) e)
   have e:ks=bf ts:=lY so fun y=>by rw [hm2,hmem]
   subst e
   obtain ⟨vs,w1,w2⟩:=nv (Γ:=Γ) (ι:=ι) (H:=H1) el fun i v k e1 e2=>by
    obtain ⟨c,rfl,_,⟨_,hc2⟩,tk2⟩:=ev i v k e1 e2
    obtain ⟨j,hj⟩:=ZO hc2
    obtain ⟨c',t,e3,_,e4⟩:=item_at rp rv (by simpa using hj)
    cases e3
    have:=IsTupleKey.inj tk2 (fm (gr I1 e4) fun o e=>kp c o e)
    subst this
    exact ⟨c,rfl,e4⟩
   have hR2:s1.heap.objs.size<=R:=Z7 (Qj hlt) hR
   refine ⟨.ref R,_,I1.laid (h':=h2) (t':=tk2) (o:=.lst vs) kp hR2 ⟨?_,out,n,w1,eo⟩,rfl,Out.alloc ho hS (I1.hok.fresh hR2) w2⟩
   rw [w1.length,el,XC]
   have:(bf ts).length<=ts.length:=ja ts
   omega
theorem sR {xs:Ya} {its:WM} {ts:WO} (rp:az Γ ι H (ts.map fun t=>.tup (t.map .int)) xs) (rv:Vals xs its) {v:W9} (m:v∈its):∃ c t,v=.ref c/\t∈ts/\H c=some (.tup (t.map V.int)):=by
 obtain ⟨i,e⟩:=ZO m
 obtain ⟨c,t,e1,e2,e3⟩:=item_at rp rv e
 exact ⟨c,t,e1,ZA e2,e3⟩
theorem G6 (hK:Γ.K=X.K):cA X (.builtin "sorted") (dm Γ xw (biD sub .sorted)):=by
 intro pins s σ H xs us Q I rs h
 obtain ⟨ι,S,a,x,rfl,hS,r,ho⟩:=ju rfl (fun _ _ _=>rfl) h
 obtain ⟨ds,q,ho⟩:=Out.items ho
 obtain ⟨_,p,ys,rfl,sq,rp,_⟩:=cQ hS r q
 obtain ⟨u,rfl,ru⟩:=rs.one
 cases ru
 rw [hK] at sq
 obtain ⟨its,rv,x2⟩:∃ its,Vals ys its/\Sq2 s.heap p its:=by
  rcases sq with sq|sq
  ·obtain ⟨its,rv,pl,_⟩:=I.list sq
   obtain ⟨o,e1,e2,n,e3⟩:=pl.isList
   exact ⟨its,rv,"list",o,n,.inl rfl,e1,e2,e3⟩
  ·obtain ⟨its,rv,⟨o,e1,e2,n,e3⟩,_⟩:=I.tuple sq
   exact ⟨its,rv,"tuple",o,n,.inr rfl,e1,e2,e3⟩
 have hp:H (s.heap.objs.size+1)=none:=I.hok.fresh (XL _)
 have ho:Out Γ xw ι H (kR ds S) fun d _ ι' H'=>∀ v,Rep Γ ι' H' d v->Q v H':=ho
 unfold kR at ho
 cases q2:allInts ds with
 | some is =>
  rw [q2] at ho
  obtain ⟨hz,ho⟩:=Out.guard ho
  have hz:is.length < 64:=Zn hz
  rw [ints_map q2] at rp
  have e:=fR rp
  subst e
  have hl:its.length=is.length:=by rw [<- rv.length,Zb]
  refine yR (ns:=is) x2 (intsAre_of rv) (by omega) fun out ns' a1 a2 a3=>?_
  obtain ⟨ep,he⟩:=sortedAll_at s.heap its out.toArray
  have e:ns'=g_ is:=(a2.trans (nh is).symm).eq_of_pairwise (fun x y _ _ h1 h2=>Int.le_antisymm h1 h2) a3 (t6 is)
  subst e
  refine ⟨.ref (s.heap.objs.size+1),_,I.laid (t':=s.toks) (o:=.lst ((g_ is).map V.int)) (fun b o q=>sortedAll_old q) (XL _) ⟨?_,out,ep,qx a1,he⟩,rfl,Out.alloc ho hS hp (gg _)⟩
  rw [Zb,(nh is).length_eq,XC]; omega
 | none =>
  rw [q2] at ho
  have ho:Out Γ xw ι H (mP (tups ds) S) fun d _ ι' H'=>∀ v,Rep Γ ι' H' d v->Q v H':=ho
  cases q2:tups ds with
  | some ts =>
   rw [q2] at ho
   obtain ⟨hz,ho⟩:=Out.guard ho
   obtain ⟨hz1,hz3⟩:=QO.mp hz
   obtain ⟨hz1,hz2⟩:=QO.mp hz1
   have hz1:ts.length < 64:=Zn hz1
   have hz2:ts.Nodup:=Zn hz2
   rw [oM q2] at rp
   have hl:its.length=ts.length:=by rw [<- rv.length,<- rp.length,Zb]
   have hk:its.map (cI X.prog X.w s.heap)=ts:=by
    refine QE fun i=>?_
    rw [ZK]
    by_cases hi:i < its.length
    ·obtain ⟨c,t,e1,e2,e3⟩:=item_at rp rv (Zc hi)
     rw [Zc hi,e2,Option.map_some,e1,gz (gr I e3)]
    ·rw [Xz (by omega),Xz (by omega)]; rfl
   refine G0 (key:=cI X.prog X.w s.heap) x2 (fun v m=>?_) (by rw [hk]; exact hz2) (by omega) fun out a1 a2=>?_
   ·obtain ⟨c,t,e1,e2,e3⟩:=sR rp rv m
    refine ⟨c,e1,?_⟩
    rw [e1,gz (gr I e3)]
    refine ⟨gr I e3,fun e=>?_⟩
    have:=Xa.mp hz3 t e2
    rw [e] at this; cases this
   ·obtain ⟨ep,he⟩:=sortedAll_at s.heap its out.toArray
    have e:out.map (cI X.prog X.w s.heap)=bf ts:=lY a2 fun y=>by rw [(a1.map _).mem_iff,hk]
    obtain ⟨vs,w1,w2⟩:=nv (Γ:=Γ) (ι:=ι) (H:=H) (out:=out) (ks:=bf ts) (by rw [<- e,Zb]) fun i v k e1 e2=>by
     obtain ⟨c,t,e3,_,e4⟩:=sR rp rv (a1.mem_iff.mp (ZA e1))
     refine ⟨c,e3,?_⟩
     rw [<- e,ZK,e1,Option.map_some,e3,gz (gr I e4)] at e2
     cases e2
     exact e4
    refine ⟨.ref (s.heap.objs.size+1),_,I.laid (t':=s.toks) (o:=.lst vs) (fun b o q=>sortedAll_old q) (XL _) ⟨?_,out,ep,w1,he⟩,rfl,Out.alloc ho hS hp w2⟩
    rw [w1.length,a1.length_eq,hl,XC]; omega
  | none =>
   rw [q2] at ho
   exact ho.elim
end
end EV

namespace EV
open PySem PySem.Spec PyProof.Rows L2
section
variable {X:Cx} {Γ:Gx} {xw:XW} {iter tg c:Expr} {pos:Pos} {mi:Sg->M Src} {t:Tg} {mb:Sg->M Fl} {na:Sg->M Bool} {body:List Stmt}
theorem PS.nox {st:Stmt} {t:TS} (h:PS X.nox st t):PS X st t:=fun pins s σ H D I hw =>
 Xu (h pins s σ H D (I.dS _) hw) (fun f s' q=>q.ff) fun _ _ e=>e.elim
theorem CZ {D:Ends} {σ:L2.St} {H:Hp} (h:tMS Γ XF (fun σ=>mi σ>>=fun s=>forL s (fun d σ=>aS t d σ>>=fun σ'=>mb σ') s.its σ) D σ H):tW (tMI Γ XF mi) (tMG Γ t) (tMS Γ XF mb) D σ H:=by
 obtain ⟨σd,ι,S,hE,hS,ho⟩:=h
 refine ⟨σd,ι,S,hE,hS,ho.bind.mono fun src S1 ι1 H1 _ _ ⟨s1,e1,o1⟩ J hJ=>?_⟩
 generalize hf:(fun d σ=>aS t d σ>>=fun σ'=>mb σ')=f at o1
 generalize hR:forL src f src.its σd S1=R0 at o1
 refine ⟨fun i m σ H=>∃ ι' S' σd',i<=src.its.length/\m=src.its.length - i/\Ext ι1 ι' H1 H/\ao Γ ι' H S'/\aY Γ ι' H σ σd'/\forL src f (src.its.drop i) σd' S'=R0,
  ⟨src.its.length,ι1,S1,σd,Xf _,rfl,.refl,s1,hE.ext e1,hR⟩,?_⟩
 rintro i m σ H ⟨ι',S',σd',hi,rfl,eH,sH,eE,hc⟩
 by_cases hlt:i < src.its.length
 ·rw [Xp hlt] at hc
  have hc:(aH src>>=fun _=>f src.its[i] σd'>>=fun fl=>match fl with|.nx σ'=>forL src f (src.its.drop (i+1)) σ'|.ct σ'=>forL src f (src.its.drop (i+1)) σ'|.bk σ'=>pure (.nx σ')|.rt d=>pure (.rt d)) S'=R0:=hc
  rcases j6 src S' with st|st
  ·rw [aj st] at hc
   obtain ⟨jgo,jyld⟩:=(hJ ι' H S' eH sH st).1 i src.its[i] (Zc hlt)
   refine .inr ⟨jgo,fun σ' H'=>∃ m',m' < src.its.length - i/\∃ ι' S' σd',i+1<=src.its.length/\m'=src.its.length - (i+1)/\Ext ι1 ι' H1 H'/\ao Γ ι' H' S'/\aY Γ ι' H' σ' σd'/\forL src f (src.its.drop (i+1)) σd' S'=R0,fun σ' H' h=>h,fun x H' yl=>?_⟩
   obtain ⟨eX,sX,rX⟩:=jyld x H' yl
   have hfd:f src.its[i] σd' S'=(aS t src.its[i] σd'>>=fun σ'=>mb σ') S':=by rw [<- hf]
   rcases mC t src.its[i] σd' S' with ⟨σd2,hb,_⟩|hb
   ·rw [aj hb] at hfd
    refine ⟨σd',ι',S',src.its[i],σd2,eE.ext eX,sX,rX,hb,fun σ2 hE2 _=>⟨σd2,ι',S',hE2,sX,?_⟩⟩
    have eA:=eH.trans eX
    cases qb:mb σd2 S' with
    | bad=>rw [qb] at hfd; rw [aZ hfd] at hc; rw [<- hc] at o1; exact o1.elim
    | exc c S3=>rw [qb] at hfd; rw [cJ hfd] at hc; rw [<- hc] at o1; exact fun ι3 H3 e3 s3=>o1 ι3 H3 (eA.trans e3) s3
    | ok fl S3 =>
     rw [qb] at hfd
     rw [aj hfd] at hc
     intro ι3 H3 e3 s3
     cases fl with
     | nx σ'=>exact fun σv hv=>⟨src.its.length - (i+1),by omega,ι3,S3,σ',hlt,rfl,eA.trans e3,s3,hv,hc⟩
     | ct σ'=>exact fun σv hv=>⟨src.its.length - (i+1),by omega,ι3,S3,σ',hlt,rfl,eA.trans e3,s3,hv,hc⟩
     | bk σ'=>rw [<- hc] at o1; exact fun σv hv=>o1 ι3 H3 (eA.trans e3) s3 σv hv
     | rt d=>rw [<- hc] at o1; exact fun v r=>o1 ι3 H3 (eA.trans e3) s3 v r
   ·rw [aZ hb] at hfd; rw [aZ hfd] at hc; rw [<- hc] at o1; exact o1.elim
  ·rw [aZ st] at hc; rw [<- hc] at o1; exact o1.elim
 ·have ei:i=src.its.length:=by omega
  subst ei
  rw [List.drop_length] at hc
  have hc:(aH src>>=fun _=>pure (.nx σd')) S'=R0:=hc
  rcases j6 src S' with st|st
  ·rw [aj st] at hc
   rw [<- hc] at o1
   exact .inl ⟨(hJ ι' H S' eH sH st).2,o1 ι' H eH sH σ eE⟩
  ·rw [aZ st] at hc; rw [<- hc] at o1; exact o1.elim
theorem Eo (hcalm:X.calm=true) (hi:PI X.nox tg iter (tMI Γ XF mi)) (hg:PG X.nox tg (tMG Γ t)) (hb:PSs X.nox body (tMS Γ XF mb)) (hs:∀ x,foldedSetIterable iter X.env x=pure x) :
  PS X (.For tg iter body [] pos) (tMS Γ xw fun σ=>quiet (mi σ>>=fun s=>forL s (fun d σ=>aS t d σ>>=fun σ'=>mb σ') s.its σ)) :=
 PS.nox (PS.imp (GR (X:=X.nox) PassesOwn.never hcalm hi hg hb hs) fun D σ H h=>by
  obtain ⟨σd,ι,S,hE,hS,ho⟩:=h
  exact CZ ⟨σd,ι,S,hE,hS,Out.quiet ho XF⟩)
theorem Dl {D:Ends} {σ:L2.St} {H:Hp} (h:tMS Γ XF (fun σ=>bH na mb ig σ) D σ H):rP (tMT Γ XF na) (tMS Γ XF mb) D σ H:=by
 obtain ⟨σd,ι,S,hE,hS,ho⟩:=h
 have ho:Out Γ XF ι H (bH na mb ig σd S) (FlK Γ D):=ho
 generalize hR:bH na mb ig σd S=R0 at ho
 refine ⟨fun m σ H'=>∃ ι' S' σd',Ext ι ι' H H'/\ao Γ ι' H' S'/\aY Γ ι' H' σ σd'/\bH na mb m σd' S'=R0,⟨ig,ι,S,σd,.refl,hS,hE,hR⟩,?_⟩
 rintro m σ H' ⟨ι',S',σd',eH,sH,eE,hc⟩
 cases m with
 | zero =>
  have hc:(Res.bad:Res Fl)=R0:=hc
  rw [<- hc] at ho; exact ho.elim
 | succ n =>
  have hc:(na σd'>>=fun k=>if k=true then mb σd'>>=fun fl=>match fl with|.nx σ'=>bH na mb n σ'|.ct σ'=>bH na mb n σ'|.bk σ'=>pure (.nx σ')|.rt d=>pure (.rt d) else pure (.nx σd')) S'=R0:=hc
  refine ⟨σd',ι',S',eE,sH,?_⟩
  cases qn:na σd' S' with
  | bad=>rw [aZ qn] at hc; rw [<- hc] at ho; exact ho.elim
  | exc c S3=>rw [cJ qn] at hc; rw [<- hc] at ho; exact fun ι3 H3 e3 s3=>ho ι3 H3 (eH.trans e3) s3
  | ok k S3 =>
   rw [aj qn] at hc
   intro ι3 H3 e3 s3
   have eA:=eH.trans e3
   cases k with
   | false =>
    rw [Ze Zz] at hc
    rw [<- hc] at ho
    exact zM (ho ι3 H3 eA s3 σ (eE.ext e3))
   | true =>
    rw [Zd rfl] at hc
    refine G9 ⟨fun σ' H'=>∃ m',m' < n+1/\∃ ι' S' σd',Ext ι ι' H H'/\ao Γ ι' H' S'/\aY Γ ι' H' σ' σd'/\bH na mb m' σd' S'=R0,fun σ' H' h=>h,σd',ι3,S3,eE.ext e3,s3,?_⟩
    cases qb:mb σd' S3 with
    | bad=>rw [aZ qb] at hc; rw [<- hc] at ho; exact ho.elim
    | exc c S4=>rw [cJ qb] at hc; rw [<- hc] at ho; exact fun ι4 H4 e4 s4=>ho ι4 H4 (eA.trans e4) s4
    | ok fl S4 =>
     rw [aj qb] at hc
     intro ι4 H4 e4 s4
     cases fl with
     | nx σ'=>exact fun σv hv=>⟨n,XA _,ι4,S4,σ',eA.trans e4,s4,hv,hc⟩
     | ct σ'=>exact fun σv hv=>⟨n,XA _,ι4,S4,σ',eA.trans e4,s4,hv,hc⟩
     | bk σ'=>rw [<- hc] at ho; exact fun σv hv=>ho ι4 H4 (eA.trans e4) s4 σv hv
     | rt d=>rw [<- hc] at ho; exact fun v r=>ho ι4 H4 (eA.trans e4) s4 v r
theorem Iw (hc:PT X.nox c (tMT Γ XF na)) (hb:PSs X.nox body (tMS Γ XF mb)):PS X (.While c body [] pos) (tMS Γ xw fun σ=>quiet (bH na mb ig σ)) :=
 PS.nox (PS.imp (yf (X:=X.nox) PassesOwn.never hc hb) fun D σ H h=>by
  obtain ⟨σd,ι,S,hE,hS,ho⟩:=h
  exact Dl ⟨σd,ι,S,hE,hS,Out.quiet ho XF⟩)
end
section
variable {Γ:Gx} {ι ι':WQ} {H H':Hp} {S S':aa}
theorem fK:∀ {ds:Yc} {n:Nat},D.lows n ds=true ↔ ∀ (i:Nat) d,ds[i]?=some d->d.low n=true
 | [],n=>⟨fun _ i d h=>by simp at h,fun _=>rfl⟩
 | d::r,n=>by
  simp only [D.lows,Zu]
  constructor
  ·rintro ⟨h1,h2⟩ i e h
   cases i with
   | zero=>simp at h; subst h; exact h1
   | succ i=>exact fK.mp h2 i e (by simpa using h)
  ·intro h
   exact ⟨h 0 d rfl,fK.mpr fun i e q=>h (i+1) e (by simpa using q)⟩
theorem Rep.low {d:D} {v:V} (r:Rep Γ ι H d v):d.low ι.length=true:=by
 induction r with
 | tup h1 h2 h3 h4 ih =>
  show D.lows _ _=true
  refine fK.mpr fun i d e=>?_
  have hi:i < _:=(Zg.mp e).1
  exact ih i d _ e (Zc (by omega))
 | fro h1 h2 h3 ih =>
  show D.lows _ _=true
  refine fK.mpr fun i d e=>?_
  have hi:i < _:=(Zg.mp e).1
  exact ih i d _ e (Zc (by omega))
 | loc h=>exact Zj (Zg.mp h).1
 | _=>rfl
theorem Rep.cut (hp:ι <+: ι') {d:D} {v:V} (r:Rep Γ ι' H d v) (hl:d.low ι.length=true):Rep Γ ι H d v:=by
 induction r with
 | non=>exact .non
 | bl b=>exact .bl b
 | int i=>exact .int i
 | str x=>exact .str x
 | tup h1 h2 h3 h4 ih=>exact .tup h1 h2 (fun i d v e1 e2=>ih i d v e1 e2 (fK.mp hl i d e1)) h4
 | fro h1 h2 h3 ih=>exact .fro h1 h2 fun i d v e1 e2=>ih i d v e1 e2 (fK.mp hl i d e1)
 | @loc l a h =>
  have hlt:l < ι.length:=Zn hl
  obtain ⟨t,rfl⟩:=hp
  rw [ZF hlt] at h
  exact .loc h
theorem az.low {ds:Yc} {vs:Ya} (r:az Γ ι H ds vs):D.lows ι.length ds=true:=fK.mpr fun i d e=>let ⟨_,_,r'⟩:=Paired.get r e; r'.low
theorem az.cut (hp:ι <+: ι'):∀ {ds:Yc} {vs:Ya},az Γ ι' H ds vs->D.lows ι.length ds=true->az Γ ι H ds vs
 | _,_,.nil,_=>.nil
 | _,_,.cons r t,h=>by
  rw [D.lows,Zu] at h
  exact .cons (r.cut hp h.1) (az.cut hp t h.2)
theorem aJ.cut (hp:ι <+: ι'):∀ {kvs:Yd} {xs ys:Yb} {H0:Hp},aJ Γ ι' H kvs xs->aJ Γ ι H0 kvs ys->aJ Γ ι H kvs xs
 | _,_,_,_,.nil,_=>.nil
 | _,_,_,_,.cons r t,.cons r0 t0=>.cons ⟨r.1,r.2.cut hp r0.2.low⟩ (aJ.cut hp t t0)
theorem Ext.back (e:Ext ι ι' H H'):Ext ι ι H H':=⟨Z2 _,e.tup,e.frz,e.oth,fun _ h n=>absurd h n⟩
theorem ao.back (e:Ext ι ι' H H') (h0:ao Γ ι H S) (h1:ao Γ ι' H' S') (ht:S'.take S.length=S):ao Γ ι H' S:=by
 refine ⟨h0.len,h0.nd,fun l c hc=>?_⟩
 have hl:l < S.length:=(Zg.mp hc).1
 have hc':S'[l]?=some c:=by rw [<- ht,QW hl] at hc; exact hc
 obtain ⟨a,ha,c1⟩:=h1.cell l c hc'
 obtain ⟨b,hb,c0⟩:=h0.cell l c hc
 have:=fC e.pre hb
 rw [ha] at this; cases this
 refine ⟨a,hb,?_⟩
 cases c with
 | lst ds=>obtain ⟨xs,hx,r⟩:=c1; obtain ⟨ys,_,r0⟩:=c0; exact ⟨xs,hx,az.cut e.pre r r0.low⟩
 | dct kvs=>obtain ⟨xs,hx,r⟩:=c1; obtain ⟨ys,_,r0⟩:=c0; exact ⟨xs,hx,aJ.cut e.pre r r0⟩
 | fdc kvs=>obtain ⟨xs,hx,r⟩:=c1; obtain ⟨ys,_,r0⟩:=c0; exact ⟨xs,hx,aJ.cut e.pre r r0⟩
theorem tw {xw:XW} {d:D} {v:V} {Q:VK} (h0:ao Γ ι H S) (e:Ext ι ι' H H') (h1:ao Γ ι' H' S') (r:Rep Γ ι' H' d v) (ho:Out Γ xw ι H (leave S d S') fun d _ ι' H'=>∀ v,Rep Γ ι' H' d v->Q v H'):Q v H':=by
 unfold leave at ho
 by_cases ht:S'.take S.length=S
 ·rw [Zd ht] at ho
  by_cases hl:d.low S.length=true
  ·rw [Zd hl] at ho
   exact ho ι H' e.back (ao.back e h0 h1 ht) v (r.cut e.pre (by rw [h0.len]; exact hl))
  ·rw [Ze hl] at ho
   have dflt:Out Γ xw ι H (.ok d S') (fun d _ ι' H'=>∀ v,Rep Γ ι' H' d v->Q v H')->Q v H':=fun ho=>ho ι' H' e h1 v r
   cases d with
   | loc l =>
    dsimp only at ho
    cases q:S'[l]? with
    | none=>rw [q] at ho; exact dflt ho
    | some c =>
     rw [q] at ho
     dsimp only at ho
     by_cases hc:c.low S.length=true
     ·rw [Zd hc] at ho
      cases r with
      | @loc _ a hla =>
       have hge:¬ l < S.length:=fun z=>hl (Zj z)
       have hna:a ∉ ι:=fun z=>by
        obtain ⟨j,hj⟩:=ZO z
        have hj1:=(Zg.mp hj).1
        have:=ic h1.nd hla (fC e.pre hj)
        rw [h0.len] at hj1
        omega
       have hHa:H a=none:=e.fresh a (ZA hla) hna
       have pre2:ι <+: ι++[a]:=Zi _ _
       refine ho (ι++[a]) H' ⟨pre2,e.tup,e.frz,e.oth,fun b hb hn=>?_⟩ ?_ _ (.loc (by rw [<- h0.len]; simp))
       ·rcases ZE.mp hb with z|z
        ·exact absurd z hn
        ·have:b=a:=by simpa using z
         rw [this]; exact hHa
       ·have hb:=ao.back e h0 h1 ht
        obtain ⟨b,hb2,c1⟩:=h1.cell l c q
        rw [hla] at hb2; cases hb2
        cases c with
        | lst ds =>
         obtain ⟨xs,hx,rr⟩:=c1
         exact hb.take hna hx (az.cut e.pre rr (by rw [h0.len]; exact hc))
        | dct kvs=>cases hc
        | fdc kvs=>cases hc
     ·rw [Ze hc] at ho; exact dflt ho
   | _=>exact dflt ho
 ·rw [Ze ht] at ho
  exact ho ι' H' e h1 v r
end
end EV

namespace PySem
open Sem (wp)
open AutoSeq1 (wpAny_loadPart')
section
variable {prog:WP} {w:WS} {A:WY} {E:WH} {s:WN}
end
section
variable {prog:WP} {w:WS} {A:WY} {E:WH} {s:WN}
end
end PySem
namespace EV
open PySem PySem.Spec PyProof.Rows L2
section
variable {X:Cx} {Γ:Gx} {xw:XW} {sub:Sub} {a b:WW} {ta:TA} {p pos:Pos}
def iw (ta:TA):TE:=fun σ H Q=>ta σ H fun vs H1=>∃ lo hi:Int,((vs=[.int hi]/\lo=0)\/vs=[.int lo,.int hi])/\∀ p,H1 p=none->Q (.ref p) (upd H1 p (.rng lo hi))
theorem Cw (hg:Gl X "range") (hm:X.mg "range" = none) (ha:PA X [a] ta) (hs:starEach [a] X.env=[(false,eval a X.env)]) (hl:∀ σ H Q,ta σ H Q->ta σ H fun vs H1=>vs.length=1/\Q vs H1):PE X (.Call (.Name "range" p) [a] [] pos) (iw ta):=by
 intro pins s σ H Q I h
 refine Call_ (cP I hg hm boot_range (Z3 (thn (ha pos pins s σ H _ I (hl _ _ _ h)) fun us s1 ⟨vs,H1,I1,r1,hlen,q1⟩=>?_) hs rfl))
 obtain ⟨lo,hi,e,q⟩:=q1
 rcases e with ⟨e,rfl⟩|e
 ·subst e
  obtain ⟨u,rfl,t,rfl⟩:=vals1 r1
  exact call_range_1 ⟨.ref _,_,I1.laid (o:=.rng 0 hi) (fun b o e=>Zh _ e) (Zk _) (show ∃ t u v,_ from ⟨_,_,_,Zx _ rfl⟩),rfl,q _ (I1.hok.fresh (Zk _))⟩
 ·subst e; cases hlen
theorem DO (hg:Gl X "range") (hm:X.mg "range" = none) (ha:PA X [a,b] ta) (hs:starEach [a,b] X.env=[(false,eval a X.env),(false,eval b X.env)]) (hs2:starEach [b] X.env=[(false,eval b X.env)]) (hl:∀ σ H Q,ta σ H Q->ta σ H fun vs H1=>vs.length=2/\Q vs H1):PE X (.Call (.Name "range" p) [a,b] [] pos) (iw ta):=by
 intro pins s σ H Q I h
 refine Call_ (cP I hg hm boot_range (Z3 (thn (ha pos pins s σ H _ I (hl _ _ _ h)) fun us s1 ⟨vs,H1,I1,r1,hlen,q1⟩=>?_) (by rw [hs,hs2]) (by rw [hs2]; rfl)))
 obtain ⟨lo,hi,e,q⟩:=q1
 rcases e with ⟨e,rfl⟩|e
 ·subst e; cases hlen
 ·subst e
  obtain ⟨u,v,rfl,⟨t,rfl⟩,⟨t',rfl⟩⟩:=vals2 r1
  exact call_range_2 ⟨.ref _,_,I1.laid (o:=.rng lo hi) (fun b o e=>Zh _ e) (Zk _) (show ∃ t u v,_ from ⟨_,_,_,Zx _ rfl⟩),rfl,q _ (I1.hok.fresh (Zk _))⟩
theorem Il {lo:Int} {n:Nat} {acc:WV} (h:ItemsOf (fun i v=>∃ t,v=.int (lo+i * 1) t) acc n):Vals ((List.range n).map fun (k:Nat)=>V.int (lo+k)) acc.toList:=by
 obtain ⟨h1,h2⟩:=h
 refine Paired.of_get (by simp [h1]) fun i x y e1 e2=>?_
 rw [ZK] at e1
 have hi:i < n:=by
  have:=(Zg.mp e2).1
  simpa [h1] using this
 rw [List.getElem?_range hi] at e1
 cases e1
 have e3:acc[i]?=some y:=by rw [<- ZR]; exact e2
 obtain ⟨t,rfl⟩:=h2 i y e3
 exact ⟨t,by simp⟩
theorem EK {lo hi:Int}:Builtin.Range.rangeSize lo hi 1=((hi - lo).toNat:Nat):=by rw [rangeSize_one]; split <;> omega
theorem Fx (hc:X.calm=true):cA X (.type "list") (fun xs H Q=>∃ p lo hi,xs=[.ref p]/\H p=some (.rng lo hi)/\(near lo=true/\near hi=true)/\(hi - lo).toNat<=aG/\∀ l,H l=none->Q (.ref l) (upd H l (.lst ((List.range (hi - lo).toNat).map fun (k:Nat)=>V.int (lo+k))))):=by
 intro pins s σ H xs us Q I r h
 obtain ⟨p,lo,hi,rfl,hp,⟨n1,n2⟩,hz,q⟩:=h
 obtain ⟨u,rfl,rx⟩:=vals1 r
 cases rx
 obtain ⟨t,u,v,hr⟩:=I.hok p _ hp
 have n1:=fO n1
 have n2:=fO n2
 refine call_list_range (I.ok.hd hc) hr (small_one n1.1 n1.2 n2.1 n2.2) EK hz fun h' tk acc c' hk hS hacc=>?_
 have hv:=Il hacc
 have hl:((List.range (hi - lo).toNat).map fun (k:Nat)=>V.int (lo+k)).length<=sizeLine:=by rw [Zb,ZL]; exact hz
 exact ⟨.ref s.heap.objs.size,_,I.laid (t':=tk) hk (Zk _) (show aW X.prog X.w _ h' _ (.lst _) from ⟨hl,acc.toList,c',hv,by simpa using hS⟩),rfl,q _ (I.hok.fresh (Zk _))⟩
theorem xu {ds:Yc} {is:WJ} (h:bJ ds=some is) (hl:ds.length=1\/ds.length=2):∃ lo hi:Int,((ds=[.int hi]/\lo=0)\/ds=[.int lo,.int hi])/\near lo=true/\near hi=true/\is=(List.range (hi - lo).toNat).map fun (k:Nat)=>lo+k:=by
 match ds,h,hl with
 | [d],h,_ =>
  cases d with
  | int j =>
   simp only [bJ] at h
   split at h
   ·rename_i hn
    cases h
    exact ⟨0,j,.inl ⟨rfl,rfl⟩,by decide,hn,mL 0 j⟩
   ·cases h
  | _=>cases h
 | [d,e],h,_ =>
  cases d with
  | int i =>
   cases e with
   | int j =>
    simp only [bJ] at h
    split at h
    ·rename_i hn
     cases h
     rw [Zu] at hn
     exact ⟨i,j,.inr rfl,hn.1,hn.2,mL i j⟩
    ·cases h
   | _=>cases h
  | _=>cases h
 | [],_,hl=>rcases hl with hl|hl <;> cases hl
 | _::_::_::_,_,hl=>simp at hl
theorem Ic {m:Yf} {mk:List Int->M D} {mkV:List V->HO} {k:Nat} (hk:k=1\/k=2) (hlen:∀ σ S ds S',m σ S=.ok ds S'->ds.length=k)
  (hmk:∀ {ι H S} {Q:VK} {is:WJ} {p:Addr},Out Γ xw ι H (mk is S) (fun d _ ι' H'=>∀ v,Rep Γ ι' H' d v->Q v H')->ao Γ ι H S->H p=none->Q (.ref p) (upd H p (mkV (is.map .int))))
  {σ:L2.St} {H:Hp} {Q:VK} (h:tM Γ xw (fun σ=>m σ>>=fun ds=>opt (bJ ds)>>=fun is=>guard (fits is.length) (mk is)) σ H Q) :
  iw (tMA Γ xw m) σ H fun x H1=>∃ p lo hi,[x]=[V.ref p]/\H1 p=some (.rng lo hi)/\(near lo=true/\near hi=true)/\(hi - lo).toNat<=aG/\∀ l,H1 l=none->Q (.ref l) (upd H1 l (mkV ((List.range (hi - lo).toNat).map fun (k:Nat)=>V.int (lo+k)))):=by
 obtain ⟨σd,ι,S,he,hs,ho⟩:=h
 refine ⟨σd,ι,S,he,hs,Out.monoE ho.bind fun ds S' ι' H' eq _ _ ⟨s',e',o'⟩ vs rs=>?_⟩
 have hl:=hlen _ _ _ _ eq
 obtain ⟨is,q,o'⟩:=Out.opt o'
 obtain ⟨hz,o'⟩:=Out.guard o'
 obtain ⟨lo,hi,e,n1,n2,rfl⟩:=xu q (by rw [hl]; exact hk)
 refine ⟨lo,hi,?_,fun p hp=>⟨p,lo,hi,rfl,cu,⟨n1,n2⟩,by simpa using Zn hz,fun l hl=>?_⟩⟩
 ·rcases e with ⟨rfl,rfl⟩|rfl
  ·exact .inl ⟨fR (is:=[hi]) rs,rfl⟩
  ·exact .inr (fR (is:=[lo,hi]) rs)
 ·have:=hmk (Out.step o' (Ext.laid hp (o:=.rng lo hi))) (s'.laid hp _) hl
  rw [ZX] at this
  exact this
theorem sP {m:Yf} {k:Nat} (hlen:∀ σ S ds S',m σ S=.ok ds S'->ds.length=k):∀ σ H Q,tMA Γ xw m σ H Q->tMA Γ xw m σ H fun vs H1=>vs.length=k/\Q vs H1:=fun σ H Q h=>by
 obtain ⟨σd,ι,S,he,hs,ho⟩:=h
 exact ⟨σd,ι,S,he,hs,Out.monoE ho fun ds S' ι' H' eq _ _ q vs rs=>⟨by rw [<- rs.length]; exact hlen _ _ _ _ eq,q vs rs⟩⟩
theorem Az {e:WW} {m:Yf} {k:Nat} (hk:k=1\/k=2) (hc:X.calm=true) (hlen:∀ σ S ds S',m σ S=.ok ds S'->ds.length=k) (hr:PE X e (iw (tMA Γ xw m))) (hs:starEach [e] X.env=[(false,eval e X.env)]) (hg:Gl X "list") (hm:X.mg "list" = none) :
  PE X (.Call (.Name "list" p) [e] [] pos) (tM Γ xw fun σ=>m σ>>=biD sub .rangeL):=by
 refine PE.imp (pM (Fx hc) hg hm We (gA hr jy (by rw [hs]; rfl)) (by decide +kernel) (by decide +kernel) (by rw [hs]; rfl) rfl) fun σ H Q h=>?_
 exact Ic (mk:=fun is=>alloc (.lst (is.map .int))) (mkV:=.lst) hk hlen (fun ho hS hp=>Out.alloc ho hS hp (gg _)) h
end
end EV

namespace EV
open PySem PySem.Spec PyProof.Rows L2
section
variable {X:Cx} {Γ:Gx} {xw:XW} {pins:WI} {σ:L2.St} {H:Hp} {s:WN} {ι:WQ} {S:aa}
theorem ao.tab (hS:ao Γ ι H S) {l:Nat} {kvs:Yd} (h:S[l]?=some (.dct kvs)\/S[l]?=some (.fdc kvs)):∃ a xs,ι[l]?=some a/\(H a=some (.dT xs)\/∃ o,H a=some (.frz o (.dT xs)))/\aJ Γ ι H kvs xs:=by
 rcases h with h|h
 ·obtain ⟨a,ha,xs,hx,r⟩:=hS.cell l _ h
  exact ⟨a,xs,ha,.inl hx,r⟩
 ·obtain ⟨a,ha,xs,hx,r⟩:=hS.cell l _ h
  exact ⟨a,xs,ha,.inr hx,r⟩
theorem Out.bY {l:Nat} {f:List (List Int × D)->M D} {k:D->aa->List Addr->Hp->Prop} (h:Out Γ xw ι H (EV.bY l f S) k):∃ kvs,(S[l]?=some (.dct kvs)\/S[l]?=some (.fdc kvs))/\Out Γ xw ι H (f kvs S) k:=by
 have e:EV.bY l f S=match S[l]? with|some (.dct kvs)=>f kvs S|some (.fdc kvs)=>f kvs S|_=>.bad:=rfl
 rw [e] at h
 cases q:S[l]? with
 | none=>rw [q] at h; exact h.elim
 | some c =>
  rw [q] at h
  cases c with
  | dct kvs=>exact ⟨kvs,.inl rfl,h⟩
  | fdc kvs=>exact ⟨kvs,.inr rfl,h⟩
  | lst ds=>exact h.elim
theorem Rep.key {ds:Yc} {k:WJ} {v:V} (r:Rep Γ ι H (.tup ds) v) (q:allInts ds=some k):∃ b,v=.ref b/\H b=some (.tup ((k.map (Sum.inl:Int->Key)).map kV)):=by
 rw [ints_map q] at r
 obtain ⟨b,e,h⟩:=r.trk
 exact ⟨b,e,by rw [<- uq]; exact h⟩
theorem aJ.none {k:WJ}:∀ {kvs:Yd} {xs:Yb},aJ Γ ι H kvs xs->cg kvs k=none->b8 xs (k.map Sum.inl)=none
 | _,_,.nil,_=>rfl
 | p::r,q::t,.cons e u,h=>by
  unfold cg at h
  unfold b8
  rw [ZT] at h ⊢
  rw [e.1,m9]
  cases c:decide (p.1=k) with
  | true=>rw [c] at h; cases h
  | false=>rw [c] at h; exact aJ.none u h
theorem aJ.some (k:WJ) {kvs:Yd} {xs:Yb} (r:aJ Γ ι H kvs xs):(b8 xs (k.map Sum.inl)).isSome=(cg kvs k).isSome:=by
 cases q:cg kvs k with
 | none=>rw [aJ.none r q]; rfl
 | some d=>obtain ⟨v,e,_⟩:=aJ.get r q; rw [e]; rfl
theorem sN {a b:Addr} {xs:Yb} {k:List Key} (e:H a=some (.dT xs)\/∃ o,H a=some (.frz o (.dT xs))) (eb:H b=some (.tup (k.map kV))):fJ H a (.ref b) (b8 xs k):=.inr ⟨xs,k,b,e,rfl,eb,rfl⟩
theorem yC {o i:Expr} {pos:Pos} {mo mi:Sg->M D} (hu:X.A.units+1 < cLine) (ho:PE X o (tM Γ xw mo)) (hi:PE X i (tM Γ xw mi)) (hs:nU i):PE X (.Subscript o i pos) (tM Γ xw fun σ=>mo σ>>=fun x=>mi σ>>=fun y=>jj x y) :=
 PE.imp (zm hu ho hi hs) fun σ H Q h=>by
  obtain ⟨σd,ι,S,he,hs,ho⟩:=h
  refine ⟨σd,ι,S,he,hs,ho.bind.mono fun d S1 ι1 H1 _ _ ⟨s1,e1,o1⟩ x rx=>?_⟩
  refine ⟨σd,ι1,S1,he.ext e1,s1,o1.bind.mono fun d2 S2 ι2 H2 _ _ ⟨s2,e2,o2⟩ y ry=>?_⟩
  have rx:=rx.ext e2
  cases d with
  | loc l =>
   cases d2 with
   | tup ds =>
    obtain ⟨k,q,o2⟩:=Out.opt o2
    obtain ⟨kvs,q2,o2⟩:=Out.bY o2
    obtain ⟨d3,q3,o2⟩:=Out.qM o2
    obtain ⟨b,rfl,hb⟩:=ry.key q
    cases rx with
    | @loc _ a hl =>
     obtain ⟨a',xs,ha,hx,dr⟩:=s2.tab q2
     rw [hl] at ha; cases ha
     obtain ⟨v,hv,rv⟩:=aJ.get dr q3
     exact ⟨a,v,rfl,by rw [<- hv]; exact sN hx hb,o2.here s2 v rv⟩
   | _=>exact o2.elim
  | _=>exact o2.elim
theorem u6 {neg:Bool} {x y d:D} {S S':aa} (h:kN neg x y S=.ok d S'):∃ k,d=.bl k:=by
 cases x with
 | tup ds =>
  cases y with
  | loc l =>
   have h:(opt (allInts ds)>>=fun k=>bY l fun kvs=>pure (.bl ((cg kvs k).isSome != neg))) S=.ok d S':=h
   cases q:allInts ds with
   | none=>rw [q] at h; cases h
   | some k =>
    rw [q] at h
    have h:bY l (fun kvs=>pure (.bl ((cg kvs k).isSome != neg))) S=.ok d S':=h
    unfold bY at h
    cases q2:S[l]? with
    | none=>rw [q2] at h; cases h
    | some c =>
     rw [q2] at h
     cases c with
     | lst ds=>cases h
     | dct kvs=>cases h; exact ⟨_,rfl⟩
     | fdc kvs=>cases h; exact ⟨_,rfl⟩
  | _=>cases h
 | _=>cases h
theorem qU {neg:Bool} {dx dy:D} {x y:V} {Q:VK} (hS:ao Γ ι H S) (r1:Rep Γ ι H dx x) (r2:Rep Γ ι H dy y) (ho:Out Γ xw ι H (kN neg dx dy S) fun d _ ι' H'=>∀ v,Rep Γ ι' H' d v->Q v H') :
  ∃ a o,y=.ref a/\fJ H a x o/\Q (.bl (o.isSome != neg)) H:=by
 cases dx with
 | tup ds =>
  cases dy with
  | loc l =>
   obtain ⟨k,q,ho⟩:=Out.opt ho
   obtain ⟨kvs,q2,ho⟩:=Out.bY ho
   obtain ⟨b,rfl,hb⟩:=r1.key q
   cases r2 with
   | @loc _ a hl =>
    obtain ⟨a',xs,ha,hx,dr⟩:=hS.tab q2
    rw [hl] at ha; cases ha
    refine ⟨a,_,rfl,sN hx hb,?_⟩
    rw [aJ.some k dr]
    exact Out.val ho hS (.bl _)
  | _=>exact ho.elim
 | _=>exact ho.elim
theorem CG (hu:X.A.units+1 < cLine):OpR X (compareOp .In) (a_ Γ xw (cmD .din)):=by
 intro pins s σ H x y v u Q I rx ry h
 obtain ⟨ι,S,dx,dy,hS,r1,r2,ho⟩:=h
 obtain ⟨a,o,rfl,g,q⟩:=qU hS r1 r2 ho
 obtain rfl:u=Value.ref a:=ry
 refine B_ hu I g rx fun s3 I3=>⟨.bl o.isSome,H,I3,rfl,?_⟩
 cases o <;> exact q
theorem E0 (hu:X.A.units+1 < cLine):OpR X (compareOp .NotIn) (a_ Γ xw (cmD .dnin)):=by
 intro pins s σ H x y v u Q I rx ry h
 obtain ⟨ι,S,dx,dy,hS,r1,r2,ho⟩:=h
 obtain ⟨a,o,rfl,g,q⟩:=qU hS r1 r2 ho
 obtain rfl:u=Value.ref a:=ry
 refine Cn hu I g rx fun s3 I3=>⟨.bl (!o.isSome),H,I3,rfl,?_⟩
 cases o <;> exact q
theorem yk {o i e:Expr} {pos p:Pos} {mo mi me:Sg->M D} (hu:X.A.units+1 < cLine) (he:PE X e (tM Γ xw me)) (ho:PE X o (tM Γ xw mo)) (hi:PE X i (tM Γ xw mi))
  (hw:swapsWith e (some (.Subscript o i p)) pos.line X.env=pure false) :
  PS X (.Assign [.Subscript o i p] e pos) (tMS Γ xw fun σ=>me σ>>=fun d=>mo σ>>=fun a=>mi σ>>=fun k=>iM a k d>>=fun _=>pure (.nx σ)):=by
 refine PS.imp (G4 hu ho hi he hw) fun D σ H h=>?_
 obtain ⟨σd,ι,S,hE,hs,ho⟩:=h
 refine ⟨σd,ι,S,hE,hs,ho.bind.mono fun d S1 ι1 H1 _ _ ⟨s1,e1,o1⟩ v rv=>?_⟩
 refine ⟨σd,ι1,S1,hE.ext e1,s1,o1.bind.mono fun a S2 ι2 H2 _ _ ⟨s2,e2,o2⟩ ov ro=>?_⟩
 refine ⟨σd,ι2,S2,(hE.ext e1).ext e2,s2,o2.bind.mono fun ky S3 ι3 H3 _ _ ⟨s3,e3,o3⟩ kv rk=>?_⟩
 have o3:=o3.bind
 cases ky with
 | tup ds =>
  cases a with
  | loc l =>
   obtain ⟨k,q,o3⟩:=Out.opt o3
   obtain ⟨kvs,q2,o3⟩:=Out.eO o3
   obtain ⟨hz2,o3⟩:=Out.guard o3
   obtain ⟨b,rfl,hb⟩:=rk.key q
   have ro:=ro.ext e3
   cases ro with
   | @loc _ a hl =>
    obtain ⟨a',xs,ha,hx,dr⟩:=s3.dct q2
    rw [hl] at ha; cases ha
    have rv2:=(rv.ext e2).ext e3
    refine ⟨a,_,rfl,jr.t hx hb ?_,?_⟩
    ·have:kvs.length=xs.length:=dr.length
     rw [<- this]
     exact ri hz2
    ·have ew:=Ext.eK (ys:=putK xs (k.map Sum.inl) v) hx (ZA hl)
     obtain ⟨s5,e5,o5⟩:=o3 ι3 _ ew (s3.eK q2 hl hx (aJ.put rv2 dr))
     exact o5.here s5 _ ((((hE.ext e1).ext e2).ext e3).ext ew)
  | _=>exact o3.elim
 | _=>exact o3.elim
theorem wm {a b:Addr} {xs:Yb} {o:Obj} {u:HO} (h:H a=some (.dT xs)) (e:H b=some u) (hu:u≠.dT xs):upd H a (.frz o (.dT xs)) b=some u:=by
 rw [aE]
 ·exact e
 ·intro z
  rw [z,h] at e
  exact hu (Z0 e).symm
theorem Ext.gx {a:Addr} {xs:Yb} {o:Obj} (h:H a=some (.dT xs)) (hm:a∈ι):Ext ι ι H (upd H a (.frz o (.dT xs))) where
 pre:=Z2 _
 tup:=fun b zs e=>wm h e (fun z=>by cases z)
 frz:=fun b o u e=>wm h e (fun z=>by cases z)
 oth:=fun b o e n=>by rw [aE (fun z=>n (by rw [z]; exact hm))]; exact e
 fresh:=fun _ h n=>absurd h n
theorem ao.gx (hS:ao Γ ι H S) {l:Nat} {a:Addr} {xs:Yb} {kvs:Yd} {o:Obj} (hl:S[l]?=some (.dct kvs)) (ha:ι[l]?=some a) (h:H a=some (.dT xs)) (r:aJ Γ ι H kvs xs):ao Γ ι (upd H a (.frz o (.dT xs))) (S.set l (.fdc kvs)):=by
 have e:=Ext.gx (o:=o) h (ZA ha)
 refine ⟨by rw [XI]; exact hS.len,hS.nd,fun m c hm=>?_⟩
 by_cases em:m=l
 ·subst em
  rw [Xe (Zg.mp hl).1] at hm
  cases hm
  exact ⟨a,ha,xs,⟨o,cu⟩,Paired.imp (fun _ _ q=>⟨q.1,q.2.ext e⟩) r⟩
 ·rw [ZW (Ne.symm em)] at hm
  obtain ⟨b,hb,c1⟩:=hS.cell m c hm
  have hne:b≠a:=fun z=>em (ic hS.nd hb (z ▸ ha))
  exact ⟨b,hb,c1.ext e fun o ho=>by rw [aE hne]; exact ho⟩
theorem rZ {a:Addr} {xs:Yb} {kvs:Yd} {o:Obj} (h:H a=some (.frz o (.dT xs))) (r:aJ Γ ι H kvs xs):j9 Γ ⟨kvs.map fun kv=>.tup (kv.1.map .int),none,[]⟩ (Itd o a xs) ι H:=fun ι1 H1 S1 e s1 st=>by
 have h1:=e.frz _ _ _ h
 refine ⟨fun i d hd=>?_,by rw [Zb,r.length]; exact Zk _,h1⟩
 have hd:(kvs.map fun kv=>D.tup (kv.1.map .int))[i]?=some d:=hd
 rw [ZK,ZD] at hd
 obtain ⟨p,hp,rfl⟩:=hd
 obtain ⟨q,hq,e1,_⟩:=Paired.get r hp
 refine ⟨⟨(Zg.mp hq).1,h1⟩,?_⟩
 rintro x H' ⟨rfl,k,v,b,g1,rfl,g2⟩
 rw [hq] at g1; cases g1
 have e1:k=p.1.map Sum.inl:=e1
 rw [e1,<- uq] at g2
 exact ⟨.refl,s1,.kU g2 (gg _)⟩
theorem EO {tg a:Expr} {ma:Sg->M D} (ha:PE X a (tM Γ xw ma)):PI X tg a (tMI Γ xw fun σ=>ma σ>>=fun d=>iT d) :=
 PI.imp (Dq ha) fun σ H R h=>by
  obtain ⟨σd,ι,S,he,hs,ho⟩:=h
  refine ⟨σd,ι,S,he,hs,ho.bind.mono fun d S' ι' H' _ _ ⟨s',e',o'⟩ v r=>?_⟩
  cases d with
  | loc l =>
   have e:iT (.loc l) S'=match S'[l]? with
    | some (.dct kvs)=>.ok ⟨kvs.map fun kv=>.tup (kv.1.map .int),none,[]⟩ (S'.set l (.fdc kvs))
    | some (.fdc kvs)=>.ok ⟨kvs.map fun kv=>.tup (kv.1.map .int),none,[]⟩ S'
    | _=>.bad:=rfl
   rw [e] at o'
   cases r with
   | @loc _ a hl =>
    cases q:S'[l]? with
    | none=>rw [q] at o'; exact o'.elim
    | some c =>
     rw [q] at o'
     cases c with
     | lst ds=>exact o'.elim
     | dct kvs =>
      obtain ⟨a',xs,ha',hx,dr⟩:=s'.dct q
      rw [hl] at ha'; cases ha'
      refine ⟨a,xs,rfl,.inl ⟨hx,fun o=>?_⟩⟩
      have ek:=Ext.gx (o:=o) hx (ZA hl)
      exact o' ι' _ ek (s'.gx q hl hx dr) _ (rZ cu (Paired.imp (fun _ _ q=>⟨q.1,q.2.ext ek⟩) dr))
     | fdc kvs =>
      obtain ⟨a',ha',xs,⟨o,hx⟩,dr⟩:=s'.cell l _ q
      rw [hl] at ha'; cases ha'
      exact ⟨a,xs,rfl,.inr ⟨o,hx,o' ι' _ .refl s' _ (rZ hx dr)⟩⟩
  | _=>exact o'.elim
theorem aJ.vals:∀ {kvs:Yd} {xs:Yb},aJ Γ ι H kvs xs->az Γ ι H (kvs.map (·.2)) (xs.map (·.2))
 | _,_,.nil=>.nil
 | _::_,_::_,.cons e u=>.cons e.2 (aJ.vals u)
theorem yu {sub:Sub} {x:Str} {p pos cpos apos:Pos} {o:Expr} {mo:Sg->M D} (hc:X.calm=true) (hg:Gl X x) (hm:X.mg x=none) (hv:bootBuiltins x=some (.type "list")) (ho:PE X o (tM Γ xw mo)) (hnm:∃ y q,o=.Name y q) (hline:(apos.endLine==cpos.line)=true) (hn:x≠"__name__") (hdb:(x==("__debug__" : Str))=false) :
  PE X (.Call (.Name x p) [.Call (.Attribute o "values" apos) [] [] cpos] [] pos) (tM Γ xw fun σ=>mo σ>>=fun d=>bi1 sub .vals d) :=
 PE.imp (B7 hc hg hm hv ho hn hdb (by obtain ⟨y,q,rfl⟩:=hnm; rfl) hline) fun σ H Q h=>by
  obtain ⟨σd,ι,S,he,hs,ho⟩:=h
  refine ⟨σd,ι,S,he,hs,ho.bind.mono fun d S' ι' H' _ _ ⟨s',e',o'⟩ v r=>?_⟩
  have o':Out Γ xw ι' H' (sC d S') fun d _ ι' H'=>∀ v,Rep Γ ι' H' d v->Q v H':=o'
  cases d with
  | loc l =>
   obtain ⟨kvs,q,o'⟩:=Out.bY o'
   obtain ⟨hz,o'⟩:=Out.guard o'
   cases r with
   | @loc _ a hl =>
    obtain ⟨a',xs,ha',hx,dr⟩:=s'.tab q
    rw [hl] at ha'; cases ha'
    exact ⟨a,xs,rfl,hx,fun p hp=>Out.alloc o' s' hp (aJ.vals dr)⟩
  | _=>exact o'.elim
theorem zP {ds:Yc} {xs:Ya} (p:az Γ ι H ds xs):az Γ ι H ds.dropLast xs.dropLast:=by
 rw [List.dropLast_eq_take,List.dropLast_eq_take,p.length]
 exact Paired.tak _ p
theorem F6 {o:Expr} {apos cpos:Pos} {mo:Sg->M D} (ho:PE X o (tM Γ xw mo)) (hbase:attributeBase o "pop" X.env (eval o X.env)=eval o X.env) (hline:(apos.endLine==cpos.line)=true) :
  PE X (.Call (.Attribute o "pop" apos) [] [] cpos) (tM Γ xw fun σ=>mo σ>>=fun x=>jd x) :=
 PE.imp (Ac Q7 PySem.F.slot_list_pop PySem.F.type_list_pop Ej ho hbase hline) fun σ H Q h=>by
  obtain ⟨σd,ι,S,he,hs,ho⟩:=h
  refine ⟨σd,ι,S,he,hs,ho.bind.mono fun d S' ι' H' _ _ ⟨s',e',o'⟩ v r=>?_⟩
  cases d with
  | loc l =>
   obtain ⟨ds,e,o'⟩:=Out.bh o'
   obtain ⟨a,ws,ha,hx,p⟩:=s'.lst e
   cases r with
   | loc q =>
    rw [ha] at q; cases q
    cases g:ds.getLast? with
    | none=>rw [g] at o'; exact o'.elim
    | some y =>
     rw [g] at o'
     rw [List.getLast?_eq_getElem?] at g
     obtain ⟨w,hw,rw'⟩:=Paired.get p g
     refine ⟨.inl ⟨rfl,ws,.of hx⟩,a,ws,w,rfl,rfl,hx,by rw [<- p.length]; exact hw,?_⟩
     have ew:=Ext.write (ys:=ws.dropLast) hx (ZA ha)
     exact o' ι' _ ew (s'.write e ha hx (zP p)) _ (rw'.ext ew)
  | _=>exact o'.elim
end
end EV

namespace EV
open PySem
inductive GE where|fn|val (d:D)|cls
structure TC where
 sc:Scope
 N:List Str
 inF:Str->Bool
 top:Bool
 gt:List (Str × GE)
noncomputable def idx:List Str->Str->Option Nat
 | [],_=>none
 | y::r,x=>if y=x then some 0 else (idx r x).map (· + 1)
def fX (sc:Scope) (x:Str):Bool:=match sc.names.lookup x with
 | some .local=>true
 | some .cell=>true
 | some .free=>true
 | _=>false
def eF (c:TC) (x:Str):Bool:=match c.sc.names.lookup x with
 | some .local=>true
 | some .cell=>c.inF x
 | _=>false
def glB (c:TC) (x:Str):Bool:=decide (c.sc.names.lookup x=some .globalImplicit)
def d8 (x:Str):Bool:=!(x==("__debug__" : Str))&&!(x==("__classdict__" : Str))
noncomputable def op2:Operator->Option Op2
 | .Add=>some .add
 | .Sub=>some .sub
 | .Mult=>some .mul
 | .FloorDiv=>some .fdiv
 | .Mod=>some .mod
 | _=>none
noncomputable def cmO:CmpOp->Option Cm
 | .Lt=>some .lt
 | .LtE=>some .le
 | .Gt=>some .gt
 | .GtE=>some .ge
 | .Eq=>some .eq
 | .NotEq=>some .ne
 | .In=>some .isin
 | .NotIn=>some .bU
 | _=>none
noncomputable def gm:PySem.Expr->Bool
 | .Name x _=>decide (x = "kept")
 | _=>false
noncomputable def za:CmpOp->Option Cm
 | .In=>some .din
 | .NotIn=>some .dnin
 | _=>none
noncomputable def oV (op:CmpOp) (b:WW):Option Cm:=if gm b then za op else cmO op
noncomputable def qS:Const->Option E
 | .none=>some (.c .non)
 | .bool b=>some (.c (.bl b))
 | .int i=>some (.c (.int i))
 | .str s=>some (.c (.str s))
 | _=>none
noncomputable def mQ (c:TC) (x:Str):Option E :=
 if d8 x then
  if fX c.sc x then (idx c.N x).map .v
  else if glB c x then match c.gt.lookup x with
   | some (.val d)=>some (.c d)
   | _=>none
  else none
 else none
def e9 (c:TC) (x:Str):Bool:=glB c x&&(c.gt.lookup x).isNone
noncomputable def nM (x:Str):Option Bi :=
 if x = "len" then some .len else if x = "all" then some .all else if x = "sum" then some .sum
 else if x = "max" then some .max else if x = "sorted" then some .sorted else if x = "tuple" then some .tuple else none
noncomputable def nS (x:Str):Option Ty :=
 if x = "int" then some .int else if x = "bool" then some .bool else if x = "str" then some .str else if x = "list" then some .list else if x = "tuple" then some .tuple else if x = "dict" then some .dict else none
noncomputable def l5 (x:Str):Option Me:=if x = "append" then some .append else if x = "extend" then some .extend else none
noncomputable def b5 (f:PySem.Expr->Option E):List PySem.Expr->Option E
 | []=>some .nl
 | e::r=>match f e,b5 f r with
  | some a,some b=>some (.cs a b)
  | _,_=>none
noncomputable def trO (f:PySem.Expr->Option E):Option PySem.Expr->Option E
 | none=>some .nl
 | some e=>match f e with
  | some .nl=>none
  | o=>o
noncomputable def fV (c:TC):List PySem.Expr->Option (List Nat)
 | []=>some []
 | .Name x _::r=>if eF c x then match idx c.N x,fV c r with
   | some i,some is=>some (i::is)
   | _,_=>none
  else none
 | _=>none
noncomputable def iB (c:TC):PySem.Expr->Option Tg
 | .Name x _=>if eF c x then (idx c.N x).map .one else none
 | .Tuple es _ _=>(fV c es).map .many
 | _=>none
noncomputable def isTup:PySem.Expr->Bool
 | .Tuple _ _ _=>true
 | _=>false
def jv (c:TC) (x:Str):Bool:=e9 c x&&decide (x = "range")
def ly (c:TC) (x:Str):Bool:=e9 c x&&decide (x = "enumerate")
def Jf (c:TC) (x:Str):Bool:=e9 c x&&decide (x = "zip")
def pair (es:WX):Bool:=decide (es.length=2)
def few (es:WX):Bool:=decide (1<=es.length)&&decide (es.length<=3)
noncomputable def oX:PySem.Expr->Bool
 | .Set _ _ _=>false
 | _=>true
noncomputable def trI (f:PySem.Expr->Option E) (c:TC) (tg:WW) (e:WW):Option E :=
 if oX e then match e with
  | .Call (.Name x _) args [] _ =>
   if jv c x then (if few args then (b5 f args).map .iRng else none)
   else if ly c x then match isTup tg,args with
    | true,[a]=>(f a).map .iEnum
    | _,_=>none
   else (f e).map .iSeq
  | _=>if gm e then (f e).map .iDct else (f e).map .iSeq
 else none
noncomputable def mangle (x:Str):Str:=⟨#[0]++x.cps⟩
noncomputable def jg (scope sc:Scope):Scope :=
 { scope with names:=scope.names.map fun (n,k)=>if (k==.free&&sc.kind==.function&&sc.names.lookup n==some .cell) then (n,.cell) else (n,k) }
def isFree (scope:Scope) (x:Str):Bool:=scope.names.any fun y=>decide (y.1=x)&&decide (y.2=.free)
noncomputable def own (scope:Scope):List Str:=(scope.names.filter fun y=>decide (y.2=.local)||decide (y.2=.cell)).map (·.1)
noncomputable def gP (scope:Scope) (x:Str):Str:=if isFree scope x then x else mangle x
noncomputable def inComp (c:TC) (scope:Scope):TC:={ c with sc:=jg scope c.sc,N:=c.N.map (gP scope)++own scope,inF:=fun x=>decide (scope.names.lookup x=some .cell),top:=false }
noncomputable def gh:List Str->Bool
 | []=>true
 | x::r=>!(r.any fun y=>decide (y=x))&&gh r
def oS (c:TC) (scope:Scope):Bool :=
 scope.names.all (fun y=>!decide (y.2=.free)||(match c.sc.names.lookup y.1 with|some .cell=>true|some .free=>true|_=>false)) &&
 gh (scope.names.map (·.1))&&decide (scope.kind=.function) &&
 scope.names.all (fun y=>!decide (y.2=.local)||decide (scope.names.lookup y.1=some .local)) &&
 gh (c.N.map (gP scope)++own scope) &&
 c.N.all (fun x=>if isFree scope x then !decide ((jg scope c.sc).names.lookup x=some .local) else !fX (jg scope c.sc) (mangle x))
noncomputable def Tg.sJ (n:Nat):Tg->Bool
 | .one i=>decide (n<=i)
 | .many is=>is.all fun i=>decide (n<=i)
noncomputable def jX:PySem.Expr->Bool
 | .Call _ [] [] _=>false
 | _=>true
def two (es:WX):Bool:=decide (es.length=1)||decide (es.length=2)
def t8 (c:TC) (x:Str):Bool:=e9 c x&&decide (x = "set")
noncomputable def zx:List PySem.Expr->Bool
 | [_]=>true
 | _=>false
noncomputable def lT (c:TC) (x:Str):List PySem.Expr->Option (Bi × List PySem.Expr)
 | [.Call (.Name r _) ra [] _]=>if jv c r&&two ra then (if x = "list" then some (.rangeL,ra) else none) else if decide (x = "sorted")&&t8 c r&&zx ra then some (.sortedSet,ra) else none
 | [.Call (.Attribute o name apos) [] [] cpos]=>if decide (x = "list")&&gm o&&decide (name = "values")&&(apos.endLine==cpos.line) then some (.vals,[o]) else none
 | _=>none
noncomputable def mj:CmpOp->Option Bool
 | .Is=>some true
 | .IsNot=>some false
 | _=>none
noncomputable def pY:PySem.Expr->Bool
 | .Constant k _ _=>(match k with
  | .none=>true
  | _=>false)
 | _=>false
noncomputable def kF:PySem.Expr->Bool
 | .Constant k _ _=>(match k with
  | .str _=>true
  | _=>false)
 | _=>false
noncomputable def EI:List PySem.Expr->Bool
 | [e]=>kF e
 | _=>false
noncomputable def trE:Nat->TC->PySem.Expr->Option E
 | 0,_,_=>none
 | n+1,c,e=>match e with
  | .Name x _=>mQ c x
  | .Constant k _ _=>qS k
  | .BinOp a op b _=>match op2 op,trE n c a,trE n c b with
   | some o,some a',some b'=>some (.bin o a' b')
   | _,_,_=>none
  | .UnaryOp op a _=>match op,trE n c a with
   | .Not,some a'=>some (.not a')
   | .USub,some a'=>some (.neg a')
   | _,_=>none
  | .BoolOp op vs p=>match vs with
   | []=>none
   | [a]=>trE n c a
   | a::b::r=>match op,trE n c a,trE n c (.BoolOp op (b::r) p) with
    | .And,some a',some b'=>some (.and a' b')
    | .Or,some a',some b'=>some (.or a' b')
    | _,_,_=>none
  | .IfExp t a b _=>match trE n c t,trE n c a,trE n c b with
   | some t',some a',some b'=>some (.ite t' a' b')
   | _,_,_=>none
  | .Compare a ops cs _=>match ops,cs with
   | [op],[b]=>match mj op with
    | some k=>if pY b then (trE n c a).map (fun x=>bif k then .isN x else .notN x) else none
    | none=>match oV op b,trE n c a,trE n c b,behindInMarks op b with
     | some o,some a',some b',false=>some (.cmp o a' b')
     | _,_,_,_=>none
   | [op,op'],[b,d]=>match cmO op,cmO op',trE n c a,trE n c b,trE n c d,lastMarks [op,op'] [b,d] with
    | some o,some o',some a',some b',some d',false=>some (.chn o o' a' b' d')
    | _,_,_,_,_,_=>none
   | _,_=>none
  | .Tuple es _ _=>(b5 (trE n c) es).map .tup
  | .List es _=>(b5 (trE n c) es).map .lst
  | .Dict ks vs _=>match ks,vs with
   | [],[]=>some .dnew
   | _,_=>none
  | .Subscript a i _=>match i with
   | .Slice _ _ none _=>none
   | .Slice _ _ (some _) _=>none
   | .Tuple es _ _=>none
   | i=>match trE n c a,trE n c i with
    | some a',some i'=>if gm a then some (.dgv a' i') else some (.ix a' i')
    | _,_=>none
  | .Call f args kws cpos=>match f,kws with
   | .Name x _,[] =>
    if d8 x&&glB c x then match c.gt.lookup x with
     | some .fn=>(b5 (trE n c) args).map (.call x)
     | some _=>none
     | none =>
      if x = "isinstance" then match args with
       | [a,.Name y _]=>if d8 y&&e9 c y then match nS y,trE n c a with
         | some t,some a'=>some (.bi (.inst t) (.cs a' .nl))
         | _,_=>none
        else none
       | _=>none
      else match lT c x args with
       | some (b,ra)=>(b5 (trE n c) ra).map (.bi b)
       | none=>match args with
        | []=>none
        | a::r=>match nM x,b5 (trE n c) (a::r) with
         | some b,some es=>some (.bi b es)
         | _,_=>none
    else none
   | .Attribute o name apos,[]=>match args with
    | []=>if decide (name = "pop")&&jX o&&(apos.endLine==cpos.line) then (trE n c o).map .pop else none
    | a::r=>if jX o&&(apos.endLine==cpos.line)&&decide (args.length < 20) then match l5 name,trE n c o,b5 (trE n c) (a::r) with
      | some m,some o',some es=>some (.me m o' es)
      | _,_,_=>none
     else none
   | _,_=>none
  | .ListComp elt gens scope _=>match gens with
   | [⟨tg,iter,ifs,asy⟩]=>if asy=0&&oS c scope then
     match trI (trE n c) c tg iter,iB (inComp c scope) tg,trE n (inComp c scope) elt,(match ifs with|[]=>some .nl|[t]=>trO (trE n (inComp c scope)) (some t)|_=>none) with
     | some it,some t,some el,some tt=>if t.sJ c.N.length then some (.comp (own scope).length el t it tt) else none
     | _,_,_,_=>none
    else none
   | _=>none
  | _=>none
noncomputable def g9:PySem.Expr->Bool
 | .ListComp _ _ _ _=>false
 | .SetComp _ _ _ _=>false
 | .DictComp _ _ _ _ _=>false
 | _=>true
noncomputable def wX:PySem.Expr->PySem.Expr->Bool
 | .Name _ _,_=>true
 | .Tuple _ _ _,v=>!isTup v&&g9 v
 | _,_=>false
noncomputable def cN (f:Stmt->Option S):List Stmt->Option S
 | []=>some .skip
 | [s]=>f s
 | s::r=>match f s,cN f r with
  | some a,some b=>some (.seq a b)
  | _,_=>none
noncomputable def l9 (c:TC):PySem.Expr->Option S
 | .Call f args kws _=>match f,kws with
  | .Name x _,[]=>if EI args&&(d8 x&&glB c x) then match c.gt.lookup x with
    | some .cls=>some (.rais x)
    | _=>none
   else none
  | _,_=>none
 | _=>none
noncomputable def Ar:PySem.Expr->Bool
 | .Slice _ _ _ _=>false
 | .Tuple _ _ _=>false
 | _=>true
noncomputable def oU (f:PySem.Expr->Option E) (e:WW):PySem.Expr->Option S
 | .Subscript o (.Tuple es _ _) _=>none
 | .Subscript o i _=>if g9 e&&Ar i then match f o,f i,f e with
   | some a,some b,some d=>if gm o then some (.dsv a b d) else none
   | _,_,_=>none
  else none
 | _=>none
noncomputable def trS (m:Nat):Nat->TC->Stmt->Option S
 | 0,_,_=>none
 | n+1,c,s=>match s with
  | .Return none _=>some .retN
  | .Return (some e) _=>(trE m c e).map .ret
  | .Expr e _=>if kF e then some .skip else if g9 e then (trE m c e).map .ex else none
  | .Pass _=>some .skip
  | .Assign ts e _=>match ts with
   | [tg]=>if wX tg e then match iB c tg,trE m c e with
     | some t,some e'=>some (.set t e')
     | _,_=>none
    else oU (trE m c) e tg
   | _=>none
  | .If t a b _=>match trE m c t,cN (trS m n c) a,cN (trS m n c) b with
   | some t',some a',some b'=>some (.ite t' a' b')
   | _,_,_=>none
  | .For tg it body els _=>match els,iB c tg,trI (trE m c) c tg it,cN (trS m n c) body with
   | [],some t,some i,some b=>some (.forS t i b)
   | _,_,_,_=>none
  | .While t body els _=>match els,trE m c t,cN (trS m n c) body with
   | [],some t',some b=>some (.whl t' b)
   | _,_,_=>none
  | .Raise (some e) none _=>l9 c e
  | _=>none
def depth:Nat:=60
noncomputable def argNames (a:Arguments):List Str:=a.args.map (·.arg)
def j4 (a:Arguments):Bool:=a.posonlyargs.isEmpty&&a.vararg.isNone&&a.kwonlyargs.isEmpty&&a.kw_defaults.isEmpty&&a.kwarg.isNone&&a.defaults.isEmpty
noncomputable def namesOf (a:Arguments) (sc:Scope):List Str:=argNames a++(sc.names.filter fun y=>(decide (y.2=.local)||decide (y.2=.cell))&&!((argNames a).any fun x=>decide (x=y.1))).map (·.1)
noncomputable def fH (gt:List (Str × GE)) (a:Arguments) (sc:Scope):TC:=⟨sc,namesOf a sc,fun _=>true,true,gt⟩
def c7 (a:Arguments) (sc:Scope):Bool :=
 j4 a&&decide (sc.kind=.function)&&!sc.isCoroutine&&!sc.isGenerator&&gh (namesOf a sc)&&(argNames a).all (fun x=>match sc.names.lookup x with|some .local=>true|some .cell=>true|_=>false)&&sc.names.all fun y=>!decide (y.2=.free)
noncomputable def trF (gt:List (Str × GE)):Stmt->Option Fn
 | .FunctionDef _ a body _ _ _ sc _ _ _=>if c7 a sc then (cN (trS depth depth (fH gt a sc)) body).map fun b=>⟨(argNames a).length,(namesOf a sc).length,b⟩ else none
 | _=>none
end EV

namespace EV
open PySem PySem.Spec PyProof.Rows L2
theorem iP:∀ {l:WU} {x:Str} {i:Nat},idx l x=some i->l[i]?=some x
 | [],_,_,h=>by cases h
 | y::r,x,i,h=>by
  unfold idx at h
  by_cases e:y=x
  ·rw [Zd e] at h; cases h; subst e; rfl
  ·rw [Ze e] at h
   cases q:idx r x with
   | none=>rw [q] at h; cases h
   | some j=>rw [q] at h; cases h; show r[j]?=some x; exact iP q
theorem kJ:∀ {l:WU},gh l=true->l.Nodup
 | [],_=>QH
 | x::r,h=>by
  rw [gh,Zu] at h
  refine Xg.mpr ⟨fun m=>?_,kJ h.2⟩
  have:(r.any fun y=>decide (y=x))=true:=List.any_eq_true.mpr ⟨x,m,Zj rfl⟩
  rw [this] at h; exact absurd h.1 (by simp)
theorem EM {sc:Scope} {x:Str} (h:fX sc x=true):Vis sc x:=by
 unfold fX at h
 unfold Vis
 cases q:sc.names.lookup x with
 | none=>rw [q] at h; cases h
 | some k=>rw [q] at h; cases k <;> first|exact .inl rfl|exact .inr (.inl rfl)|exact .inr (.inr rfl)|cases h
theorem HP {sc:Scope} {x:Str} (h:Vis sc x):fX sc x=true:=by
 unfold fX
 rcases h with h|h|h <;> rw [h]
theorem oR {x:Str} (h:d8 x=true):(x==("__debug__" : Str))=false/\(x==("__classdict__" : Str))=false:=by
 unfold d8 at h
 rw [Zu] at h
 exact ⟨by simpa using h.1,by simpa using h.2⟩
structure Cok (c:TC) (X:Cx):Prop where
 sc:X.env.scope=c.sc
 N:X.N=c.N
 nd:X.N.Nodup
 kind:c.sc.kind=.function
 fn:∀ x,c.inF x=true->X.fn x=true
 stk:c.top=true->X.stack=X.env::X.outer/\X.env.frame=some X.env.locals
theorem Cok.gl {c:TC} {X:Cx} (C:Cok c X) {x:Str} (h:glB c x=true):Gl X x:=by
 show X.env.scope.names.lookup x=_
 rw [C.sc]; exact Zn h
theorem Cok.loc {c:TC} {X:Cx} (C:Cok c X) {x:Str} (h:eF c x=true):L2.Loc X.env.scope x/\(X.fn x=true\/X.env.scope.names.lookup x=some .local):=by
 unfold eF at h
 unfold L2.Loc
 rw [C.sc]
 cases q:c.sc.names.lookup x with
 | none=>rw [q] at h; cases h
 | some k =>
  rw [q] at h
  cases k with
  | «local»=>exact ⟨.inl rfl,.inr rfl⟩
  | cell=>exact ⟨.inr rfl,.inl (C.fn x h)⟩
  | _=>cases h
theorem zf {scope:Scope} {env:Env}:relabel scope env=jg scope env.scope:=rfl
noncomputable def d9:List Str:=["len","all","any","sum","min","max","sorted","abs","list","tuple","int","bool","str","dict","range","enumerate","isinstance","set","zip","ValueError"]
section
variable (Γ:Gx) (W:XW->Prop) (CX:CXT) (EW:XW->XK)
noncomputable def spF (g:List D->M D) (n:Nat):Sp:=fun vs H Q E=>vs.length=n/\∃ xw,W xw/\E=EW xw/\∃ ι S ds,ao Γ ι H S/\az Γ ι H ds vs/\Out Γ xw ι H (g ds S) fun d _ ι' H'=>∀ v,Rep Γ ι' H' d v->Q v H'
noncomputable def EWx (K:WL):XW->XK:=fun xw cls _ H'=>∃ c C,cls=.ref C/\PySem.W.nsIn K mainGlobals c=some (some (.ref C))/\∃ S ι,xw c S ι H'
theorem ewF {K:WL} {cls:W9} {o:W5} {H:Hp} (h:EWx K XF cls o H):False:=by
 obtain ⟨_,_,_,_,_,_,z⟩:=h
 exact z
def ClsAt (K:WL) (x:Str):Prop:=∃ C newId initId B bmB,PySem.W.nsIn K mainGlobals x=some (some (.ref C))/\PySem.W.excIn K C bmB newId=true/\ExcBaseFacts B newId initId bmB/\PySem.W.kitOne K (.ref C) (.type "ValueError")=some true /\
 (∃ L,PySem.W.nsIn K mainGlobals "LapError" = some (some (.ref L))/\PySem.W.kitOne K (.ref C) (.ref L)=some true) /\
 (x = "NoLoop"->∀ P,PySem.W.nsIn K mainGlobals "NoPlan" = some (some (.ref P))->DJ K C/\PySem.W.kitOne K (.ref C) (.ref P)=some false)
structure Fam (gt:List (Str × GE)) (cf:Ye) (X:Cx) (xw:XW):Prop where
 hK:Γ.K=X.K
 calm:X.calm=true
 un:X.A.units+64 < cLine
 blt:∀ x∈d9,gt.lookup x=none->X.mg x=none
 val:∀ x d,gt.lookup x=some (.val d)->∃ u v,X.mg x=some u/\RelV v u/\∀ ι H,Rep Γ ι H d v
 fn:∀ x,gt.lookup x=some .fn->∃ k f fd ps,dW X.prog X.w X.K X.mg X.base CX k f fd ps (spF Γ W EW (cf x) ps.length)/\bW k X.A/\X.mg x=some (.ref f)/\PySem.W.keepIn X.K (.ref f)=true/\Binds X.K fd ps []/\∀ ds S,ds.length≠ps.length->cf x ds S=.bad
 pass:Passes CX X (EW xw)
 rp:Passes (CXr X.prog X.w) X (EW xw)
 cls:∀ x,gt.lookup x=some .cls->ClsAt X.K x/\∀ C,PySem.W.nsIn X.K mainGlobals x=some (some (.ref C))->X.mg x=some (.ref C)
 cx:CX=CXe X.prog X.w
 ew:EW=EWx X.K
 wt:∀ xw,W xw
end
section
variable {Γ:Gx} {W:XW->Prop} {CX:CXT} {EW:XW->XK} {gt:List (Str × GE)} {cf:Ye} {X:Cx} {xw:XW}
theorem Fam.noR (F:Fam Γ W CX EW gt cf X xw) {st:Heap->Heap->Addr->Addr->Prop} {outer:List Env} {H:Hp} {s:WN} {e:W9} {s':WN} (h:CXg st X.prog X.w outer H s (EW XF) e s'):False:=by
 obtain ⟨_,_,_,_,_,_,_,_,_,_,_,_,z⟩:=h
 rw [F.ew] at z
 exact ewF z
theorem Fam.noF (F:Fam Γ W CX EW gt cf X xw) {outer:List Env} {H:Hp} {s:WN} {e:W9} {s':WN} (h:CX outer H s (EW XF) e s'):False:=by
 rw [F.cx] at h
 exact F.noR h
theorem Fam.ok (F:Fam Γ W CX EW gt cf X xw):W xw:=F.wt xw
theorem Fam.nox (F:Fam Γ W CX EW gt cf X xw):Fam Γ W CX EW gt cf X.nox XF :=
 ⟨F.hK,F.calm,F.un,F.blt,F.val,F.fn,fun _ _ _ _ _ _ _ h=>(F.noF h).elim,fun _ _ _ _ _ _ _ h=>(F.noR h).elim,F.cls,F.cx,F.ew,F.wt⟩
theorem Fam.comp (F:Fam Γ W CX EW gt cf X xw) (scope:Scope) (cl:WZ) (N':WU) (fp:WQ) (s3:WN) (H3:Hp):Fam Γ W CX EW gt cf (aQ X scope cl N' fp s3 H3) XF :=
 ⟨F.hK,F.calm,F.un,F.blt,F.val,F.fn,fun _ _ _ _ _ _ _ h=>(F.noF h).elim,fun _ _ _ _ _ _ _ h=>(F.noR h).elim,F.cls,F.cx,F.ew,F.wt⟩
theorem Cok.nox {c:TC} (C:Cok c X):Cok c X.nox:=⟨C.sc,C.N,C.nd,C.kind,C.fn,C.stk⟩
end
theorem Dn {scope:Scope} {x:Str} (h:isFree scope x=true):(x,NameKind.free)∈scope.names:=by
 obtain ⟨⟨n,k⟩,m,e⟩:=List.any_eq_true.mp h
 rw [Zu] at e
 obtain ⟨e1,e2⟩:=e
 have e1:n=x:=Zn e1
 have e2:k=.free:=Zn e2
 subst e1; subst e2; exact m
theorem tR {c:TC} {X:Cx} {scope:Scope} (C:Cok c X) (h:oS c scope=true):eV X scope (inComp c scope).N (own scope).length /\
  ∀ cl fp s3 H3,Cok (inComp c scope) (aQ X scope cl (inComp c scope).N fp s3 H3):=by
 unfold oS at h
 simp only [Zu] at h
 obtain ⟨⟨⟨⟨⟨h1,h2⟩,h3⟩,h4⟩,h5⟩,h6⟩:=h
 rw [Xa] at h1 h4 h6
 have hrel:relabel scope X.env=jg scope c.sc:=by rw [zf,C.sc]
 refine ⟨⟨fun y hy hf=>?_,kJ h2,Zn h3,fun y hy hl=>?_,?_,fun i x hi hx hv=>?_⟩,fun cl fp s3 H3=>⟨hrel,rfl,kJ h5,?_,fun _ h=>h,fun z=>by cases z⟩⟩
 ·have:=h1 y hy
  rw [Bool.or_eq_true] at this
  rcases this with z|z
  ·rw [hf] at z; simp at z
  ·show X.env.scope.names.lookup y.1=_\/X.env.scope.names.lookup y.1=_
   rw [C.sc]
   cases q:c.sc.names.lookup y.1 with
   | none=>rw [q] at z; cases z
   | some k=>rw [q] at z; cases k <;> first|exact .inl rfl|exact .inr rfl|cases z
 ·have:=h4 y hy
  rw [Bool.or_eq_true] at this
  rcases this with z|z
  ·rw [hl] at z; simp at z
  ·exact Zn z
 ·show (c.N.map (gP scope)++own scope).length=_
  rw [Zp,Zb,C.N]
 ·have hx:(c.N.map (gP scope)++own scope)[i]?=some x:=hx
  have hi':i < c.N.length:=by rw [<- C.N]; exact hi
  rw [ZF (by rw [Zb]; exact hi'),ZK,Zc hi'] at hx
  have hx:gP scope c.N[i]=x:=Z0 hx
  have hm:=h6 c.N[i] (Xo hi')
  rw [hrel] at hv ⊢
  unfold gP at hx
  by_cases hf:isFree scope c.N[i]=true
  ·rw [Zd hf] at hx hm
   subst hx
   refine ⟨by rw [C.N]; exact Zc hi',Dn hf,fun z=>?_⟩
   rw [z] at hm; simp at hm
  ·rw [Ze hf] at hx hm
   subst hx
   rw [HP hv] at hm; simp at hm
 ·exact Zn h3
end EV

namespace EV
open PySem PySem.Spec PyProof.Rows L2
theorem bF {n:Nat} {c:TC} {a:WW} {a':E} (h:trE n c a=some a'):∀ es env,starEach (a::es) env=(false,eval a env)::starEach es env:=by
 cases n with
 | zero=>cases h
 | succ n=>cases a <;> first|(intro _ _; rfl)|cases h
theorem bZ {f:PySem.Expr->Option E} {e:WW} {r:WX} {es:E} (h:b5 f (e::r)=some es):∃ a b,f e=some a/\b5 f r=some b/\es=.cs a b:=by
 unfold b5 at h
 cases q:f e with
 | none=>rw [q] at h; cases h
 | some a =>
  rw [q] at h
  cases q2:b5 f r with
  | none=>rw [q2] at h; cases h
  | some b=>rw [q2] at h; cases h; exact ⟨a,b,rfl,rfl,rfl⟩
theorem iX {n:Nat} {c:TC}:∀ {es:WX} {es':E},b5 (trE n c) es=some es'->∀ env pos,(backTo pos (starEach es env)).any (·.1)=false/\(backTo pos (starEach es env)).all (fun x=>!x.1)=true
 | [],_,_,_,_=>⟨rfl,rfl⟩
 | e::r,_,h,env,pos=>by
  obtain ⟨a,b,h1,h2,_⟩:=bZ h
  rw [bF h1]
  obtain ⟨z1,z2⟩:=iX h2 env pos
  constructor
  ·show (List.map _ ((false,eval e env)::starEach r env)).any _=false
   rw [ZC,XZ]
   have:(List.map (fun x:Bool × Sem Value=>(x.1,if x.1=true then do let v <- x.2; standAt pos; pure v else x.2)) (starEach r env)).any (·.1)=false:=z1
   simpa using this
  ·show (List.map _ ((false,eval e env)::starEach r env)).all _=true
   rw [ZC,Wy]
   have:(List.map (fun x:Bool × Sem Value=>(x.1,if x.1=true then do let v <- x.2; standAt pos; pure v else x.2)) (starEach r env)).all (fun x=>!x.1)=true:=z2
   simpa using this
section
variable {Γ:Gx} {W:XW->Prop} {CX:CXT} {EW:XW->XK} {gt:List (Str × GE)} {cf:Ye} {sub:Sub} {X:Cx} {xw:XW}
theorem G2 (hw:W xw) {ps:WU} {m:Yf} {i:Str} (hb:∀ ds S,ds.length≠ps.length->cf i ds S=.bad) {σ:L2.St} {H:Hp} {Q:VK} (h:tM Γ xw (fun σ=>m σ>>=cf i) σ H Q) :
  nZ (spF Γ W EW (cf i) ps.length) [] (EW xw) (tMA Γ xw m) σ H Q:=by
 obtain ⟨σd,ι,S,he,hs,ho⟩:=h
 refine ⟨σd,ι,S,he,hs,ho.bind.mono fun ds S' ι' H' _ _ ⟨s',e',o'⟩ vs rs=>?_⟩
 show spF Γ W EW (cf i) ps.length (vs++[]) H' Q (EW xw)
 rw [Xl]
 refine ⟨?_,xw,hw,rfl,ι',S',ds,s',rs,o'⟩
 by_cases hl:ds.length=ps.length
 ·rw [<- rs.length]; exact hl
 ·rw [hb ds S' hl] at o'; exact o'.elim
theorem yL (F:Fam Γ W CX EW gt cf X xw) {x:Str} (hx:gt.lookup x=some .fn) (hg:Gl X x) (hdb:(x==("__debug__" : Str))=false) {a:WW} {es:WX} {m:Yf} {p pos:Pos}
  (ha:PA X (a::es) (tMA Γ xw m)) (he:starEach (a::es) X.env=(false,eval a X.env)::starEach es X.env) (hpl:(backTo pos (starEach es X.env)).any (·.1)=false) :
  PE X (.Call (.Name x p) (a::es) [] pos) (tM Γ xw fun σ=>m σ>>=cf x):=by
 obtain ⟨k,f,fd,ps,hf,hr,hm,hk,hb,hl⟩:=F.fn x hx
 exact PE.imp (Fo hf hr hg hm hk hb .nil F.pass ha hdb he hpl) fun σ H Q h=>G2 F.ok hl h
theorem CQ (F:Fam Γ W CX EW gt cf X xw) {x:Str} (hx:gt.lookup x=some .fn) (hg:Gl X x) (hdb:(x==("__debug__" : Str))=false) {p pos:Pos} :
  PE X (.Call (.Name x p) [] [] pos) (tM Γ xw fun _=>cf x []):=by
 obtain ⟨k,f,fd,ps,hf,hr,hm,hk,hb,hl⟩:=F.fn x hx
 refine PE.imp (xN hf hr hg hm hk hb .nil F.pass hdb) fun σ H Q h=>?_
 obtain ⟨σd,ι,S,he,hs,ho⟩:=h
 have ho:Out Γ xw ι H (cf x [] S) fun d x ι' H'=>∀ (v:V),Rep Γ ι' H' d v->Q v H':=ho
 refine ⟨?_,xw,F.ok,rfl,ι,S,[],hs,.nil,ho⟩
 by_cases hz:([]:List D).length=ps.length
 ·exact hz
 ·rw [hl [] S hz] at ho; exact ho.elim
theorem vp (F:Fam Γ W CX EW gt cf X xw) {x:Str} (h:gt.lookup x=none) (hm:x∈d9):X.mg x=none:=F.blt x hm h
theorem Ef (F:Fam Γ W CX EW gt cf X xw) {x:Str} {b:Bi} (hb:nM x=some b) (hn:gt.lookup x=none) (hg:Gl X x) {a:WW} {es:WX} {m:Yf} {p pos:Pos}
  (ha:PA X (a::es) (tMA Γ xw m)) (he:starEach (a::es) X.env=(false,eval a X.env)::starEach es X.env) (hpl:(backTo pos (starEach es X.env)).any (·.1)=false) :
  PE X (.Call (.Name x p) (a::es) [] pos) (tM Γ xw fun σ=>m σ>>=biD sub b):=by
 have hm:x∈d9->X.mg x=none:=vp F hn
 unfold nM at hb
 by_cases e:x = "len"
 ·subst e; rw [Zd rfl] at hb; cases hb
  exact i6 (xy F.hK) hg (hm (by decide +kernel)) PySem.boot_len ha (by decide +kernel) (by decide +kernel) he hpl
 rw [Ze e] at hb; clear e
 by_cases e:x = "all"
 ·subst e; rw [Zd rfl] at hb; cases hb
  exact i6 (BD F.hK F.calm) hg (hm (by decide +kernel)) boot_all ha (by decide +kernel) (by decide +kernel) he hpl
 rw [Ze e] at hb; clear e
 by_cases e:x = "sum"
 ·subst e; rw [Zd rfl] at hb; cases hb
  exact i6 (CF F.hK F.calm) hg (hm (by decide +kernel)) boot_sum ha (by decide +kernel) (by decide +kernel) he hpl
 rw [Ze e] at hb; clear e
 by_cases e:x = "max"
 ·subst e; rw [Zd rfl] at hb; cases hb
  exact i6 (Hy F.hK F.calm) hg (hm (by decide +kernel)) boot_max ha (by decide +kernel) (by decide +kernel) he hpl
 rw [Ze e] at hb; clear e
 by_cases e:x = "sorted"
 ·subst e; rw [Zd rfl] at hb; cases hb
  exact i6 (G6 F.hK) hg (hm (by decide +kernel)) boot_sorted ha (by decide +kernel) (by decide +kernel) he hpl
 rw [Ze e] at hb; clear e
 by_cases e:x = "tuple"
 ·subst e; rw [Zd rfl] at hb; cases hb
  exact CN (Gw F.hK) hg (hm (by decide +kernel)) PyProof.Rows.boot_tuple ha (by decide +kernel) (by decide +kernel) he hpl
 rw [Ze e] at hb; clear e
 cases hb
theorem Ge (F:Fam Γ W CX EW gt cf X xw) {y:Str} {t:Ty} (hb:nS y=some t) (hn:gt.lookup y=none):∃ T,t.name=some T/\bootBuiltins y=some (.type T)/\X.mg y=none/\y≠"__name__"/\(y==("__debug__" : Str))=false:=by
 have hm:y∈d9->X.mg y=none:=vp F hn
 unfold nS at hb
 by_cases e:y = "int"
 ·subst e; rw [Zd rfl] at hb; cases hb
  exact ⟨_,rfl,PyProof.Rows.boot_int,hm (by decide +kernel),by decide +kernel,by decide +kernel⟩
 rw [Ze e] at hb; clear e
 by_cases e:y = "bool"
 ·subst e; rw [Zd rfl] at hb; cases hb
  exact ⟨_,rfl,PyProof.Rows.boot_bool,hm (by decide +kernel),by decide +kernel,by decide +kernel⟩
 rw [Ze e] at hb; clear e
 by_cases e:y = "str"
 ·subst e; rw [Zd rfl] at hb; cases hb
  exact ⟨_,rfl,PyProof.Rows.boot_str,hm (by decide +kernel),by decide +kernel,by decide +kernel⟩
 rw [Ze e] at hb; clear e
 by_cases e:y = "list"
 ·subst e; rw [Zd rfl] at hb; cases hb
  exact ⟨_,rfl,We,hm (by decide +kernel),by decide +kernel,by decide +kernel⟩
 rw [Ze e] at hb; clear e
 by_cases e:y = "tuple"
 ·subst e; rw [Zd rfl] at hb; cases hb
  exact ⟨_,rfl,PyProof.Rows.boot_tuple,hm (by decide +kernel),by decide +kernel,by decide +kernel⟩
 rw [Ze e] at hb; clear e
 by_cases e:y = "dict"
 ·subst e; rw [Zd rfl] at hb; cases hb
  exact ⟨_,rfl,PyProof.Rows.boot_dict,hm (by decide +kernel),by decide +kernel,by decide +kernel⟩
 rw [Ze e] at hb; cases hb
theorem zE {o:WW} {name:Str} {env:Env} (hc0:jX o=true):attributeBase o name env (eval o env)=eval o env:=by
 unfold attributeBase
 cases o with
 | Call f as ks p =>
  cases as with
  | cons _ _=>cases f <;> rfl
  | nil =>
   cases ks with
   | nil=>cases hc0
   | cons _ _=>cases f <;> rfl
 | _=>rfl
theorem C0 (F:Fam Γ W CX EW gt cf X xw) {name:Str} {me:Me} (hb:l5 name=some me) {o a:WW} {es:WX} {apos cpos:Pos} {mo:Sg->M D} {m:Yf}
  (ho:PE X o (tM Γ xw mo)) (ha:PA X (a::es) (tMA Γ xw m)) (hc0:jX o=true) (hlen:(a::es).length < 20) (hall:(backTo cpos (starEach (a::es) X.env)).all (fun x=>!x.1)=true)
  (hline:(apos.endLine==cpos.line)=true) (hs:starEach (a::es) X.env=(false,eval a X.env)::starEach es X.env) (hplain:(backTo cpos (starEach es X.env)).any (·.1)=false) :
  PE X (.Call (.Attribute o name apos) (a::es) [] cpos) (tM Γ xw fun σ=>mo σ>>=fun x=>jN x (m σ>>=fun ds=>meD me x ds)):=by
 have hbase:attributeBase o name X.env (eval o X.env)=eval o X.env:=by
  unfold attributeBase
  cases o with
  | Call f as ks p =>
   cases as with
   | cons _ _=>cases f <;> rfl
   | nil =>
    cases ks with
    | nil=>cases hc0
    | cons _ _=>cases f <;> rfl
  | _=>rfl
 have hfew:((backTo cpos (starEach (a::es) X.env)).all (fun x=>!x.1)&&(backToKw cpos (keywordEach [] X.env)).all (fun x=>x.1.isSome)&&decide ((a::es).length+([]:List Keyword).length+(if ([]:List Keyword).isEmpty then 0 else 1) < 30))=true:=by
  rw [hall]
  show (true&&true&&decide ((a::es).length+0+0 < 30))=true
  rw [Zj (show (a::es).length+0+0 < 30 by omega)]
  rfl
 unfold l5 at hb
 by_cases e:name = "append"
 ·subst e; rw [Zd rfl] at hb; cases hb
  exact sD F.hK Q7 PySem.F.slot_list_append PySem.F.type_list_append Dg ho ha hbase hfew hline hs hplain
 rw [Ze e] at hb; clear e
 by_cases e:name = "extend"
 ·subst e; rw [Zd rfl] at hb; cases hb
  exact sD F.hK Q7 PySem.F.slot_list_extend PySem.F.type_list_extend GA ho ha hbase hfew hline hs hplain
 rw [Ze e] at hb; cases hb
end
end EV

namespace EV
open PySem PySem.Spec PyProof.Rows L2
section
variable (Γ:Gx) (sub:Sub) (cf:Ye)
structure ClE (X:Cx) (xw:XW) (e:WW) (e':E):Prop where
 pe:PE X e (tM Γ xw (ev sub cf e'))
 pt:PT X e (tMT Γ xw (evT sub cf e'))
 pw:(∃ op vs p,e=.BoolOp op vs p)->PW X e (tMT Γ xw (evT sub cf e'))
end
section
variable {Γ:Gx} {W:XW->Prop} {CX:CXT} {EW:XW->XK} {gt:List (Str × GE)} {cf:Ye} {sub:Sub} {X:Cx} {xw:XW}
theorem sF {e:WW}:PT X e (tMT Γ xw fun _=>bad):=fun _ _ _ _ _ _ h=>by
 obtain ⟨_,_,_,_,_,ho⟩:=h
 exact ho.elim
theorem noBool {e:WW} (h:∀ op vs p,e≠.BoolOp op vs p) {P:Prop}:(∃ op vs p,e=.BoolOp op vs p)->P:=fun ⟨op,vs,p,q⟩=>(h op vs p q).elim
theorem bD {e:WW} {e':E} (hK:Γ.K=X.K) (h:PE X e (tM Γ xw (ev sub cf e'))) (he:∀ whole,isTrue e X.env whole=(do let v <- whole; standAt e.pos; holding [v] (truthy v)))
  (hb:(evT sub cf e'=fun σ=>ev sub cf e' σ>>=truth)\/evT sub cf e'=fun _=>bad) (hn:∀ op vs p,e≠.BoolOp op vs p):ClE Γ sub cf X xw e e':=by
 refine ⟨h,?_,noBool hn⟩
 rcases hb with q|q
 ·rw [q]; exact Hh hK h he
 ·rw [q]; exact sF
theorem Io {c:TC} {x:Str} {p:Pos} {e':E} (F:Fam Γ W CX EW c.gt cf X xw) (C:Cok c X) (h:mQ c x=some e'):ClE Γ sub cf X xw (.Name x p) e':=by
 unfold mQ at h
 by_cases h1:d8 x=true
 ·rw [Zd h1] at h
  obtain ⟨d1,d2⟩:=oR h1
  by_cases h2:fX c.sc x=true
  ·rw [Zd h2] at h
   cases q:idx c.N x with
   | none=>rw [q] at h; cases h
   | some i =>
    rw [q] at h; cases h
    exact bD F.hK (zT (by rw [C.N]; exact iP q) (by rw [C.sc]; exact EM h2) d1 d2) (fun _=>rfl) (.inl rfl) (fun _ _ _ z=>nomatch z)
  ·rw [Ze h2] at h
   by_cases h3:glB c x=true
   ·rw [Zd h3] at h
    cases q:c.gt.lookup x with
    | none=>rw [q] at h; cases h
    | some g =>
     rw [q] at h
     cases g with
     | val d =>
      cases h
      obtain ⟨u,v,hm,r,hv⟩:=F.val x d q
      exact bD F.hK (jt (GQ (C.gl h3) hm r d1) hv) (fun _=>rfl) (.inl rfl) (fun _ _ _ z=>nomatch z)
     | _=>cases h
   ·rw [Ze h3] at h; cases h
 ·rw [Ze h1] at h; cases h
theorem CV {k:Const} {j:Nat} {p:Pos} {e':E} (hK:Γ.K=X.K) (h:qS k=some e'):ClE Γ sub cf X xw (.Constant k j p) e':=by
 cases k <;> first|(cases h; done)|skip
 ·cases h; exact bD hK (jt Cq fun _ _=>.non) (fun _=>rfl) (.inl rfl) (fun _ _ _ z=>nomatch z)
 ·cases h; exact bD hK (jt xX fun _ _=>.bl _) (fun _=>rfl) (.inl rfl) (fun _ _ _ z=>nomatch z)
 ·cases h; exact bD hK (jt Ft fun _ _=>.int _) (fun _=>rfl) (.inl rfl) (fun _ _ _ z=>nomatch z)
 ·cases h; exact bD hK (jt rB fun _ _=>.str _) (fun _=>rfl) (.inl rfl) (fun _ _ _ z=>nomatch z)
theorem Bo (hK:Γ.K=X.K) {op:Operator} {o:Op2} (h:op2 op=some o):OpR X (binaryOp op) (a_ Γ xw (opD o)):=by
 cases op <;> cases h
 ·exact G_ hK
 ·exact zV
 ·exact Dd hK
 ·exact Au
 ·exact xj
theorem iW (F:Fam Γ W CX EW gt cf X xw) {op:CmpOp} {o:Cm} (h:cmO op=some o):OpR X (compareOp op) (a_ Γ xw (cmD o)):=by
 cases op <;> cases h
 ·exact s_eq F.hK F.un
 ·exact Bq F.hK F.un
 ·exact F0
 ·exact CS
 ·exact Cr
 ·exact zR
 ·exact HK F.hK F.un
 ·exact Iq F.hK F.un
theorem xg (F:Fam Γ W CX EW gt cf X xw) {op:CmpOp} {b:WW} {o:Cm} (h:oV op b=some o):OpR X (compareOp op) (a_ Γ xw (cmD o)):=by
 unfold oV at h
 split at h
 ·have hu:=F.un
  cases op <;> cases h
  ·exact CG (by omega)
  ·exact E0 (by omega)
 ·exact iW F h
theorem o6 {o:Cm}:∀ (x y:D) (S:aa) (d:D) (S':aa),cmD o x y S=.ok d S'->∃ k,d=.bl k:=by
 intro x y S d S' h
 have intc:∀ p:Int->Int->Bool,ie p x y S=.ok d S'->∃ k,d=.bl k:=fun p h=>by
  cases x <;> first|(cases h; done)|skip
  cases y <;> first|(cases h; done)|skip
  cases h; exact ⟨_,rfl⟩
 have inc:∀ neg,inM neg x y S=.ok d S'->∃ k,d=.bl k:=fun neg h=>by
  unfold inM at h
  rcases i7 y S with ⟨ds,e⟩|e
  ·rw [aj e] at h
   unfold inA at h
   cases q:inL S x ds with
   | none=>rw [q] at h; cases h
   | some k=>rw [q] at h; cases h; exact ⟨_,rfl⟩
  ·rw [aZ e] at h; cases h
 cases o with
 | lt=>exact intc _ h
 | le=>exact intc _ h
 | gt=>exact intc _ h
 | ge=>exact intc _ h
 | eq =>
  have h:(eqM x y>>=fun b=>pure (.bl b)) S=.ok d S':=h
  rw [di] at h
  unfold eqM at h
  cases q:eqD deep S x y with
  | none=>rw [q] at h; cases h
  | some k=>rw [q] at h; cases h; exact ⟨_,rfl⟩
 | ne =>
  have h:guard (eW x y) (eqM x y>>=fun b=>pure (.bl (!b))) S=.ok d S':=h
  cases q:eW x y with
  | false=>rw [q] at h; cases h
  | true =>
   rw [q] at h
   have h:(eqM x y>>=fun b=>pure (.bl (!b))) S=.ok d S':=h
   rw [di] at h
   unfold eqM at h
   cases q:eqD deep S x y with
   | none=>rw [q] at h; cases h
   | some k=>rw [q] at h; cases h; exact ⟨_,rfl⟩
 | isin=>exact inc _ h
 | bU=>exact inc _ h
 | din=>exact u6 h
 | dnin=>exact u6 h
theorem fB {c:TC} {n:Nat} (F:Fam Γ W CX EW c.gt cf X xw) (C:Cok c X) (ih:∀ e e',trE n c e=some e'->ClE Γ sub cf X xw e e'):∀ {es:WX} {es':E},b5 (trE n c) es=some es'->PA X es (tMA Γ xw (evs sub cf es'))
 | [],_,h=>by cases h; exact Hu
 | e::r,_,h=>by
  obtain ⟨a,b,h1,h2,rfl⟩:=bZ h
  exact GF (ih e a h1).pe (fB F C ih h2) (bF h1 r X.env)
theorem jK {c:TC} (hK:Γ.K=X.K) (hc:X.calm=true) (C:Cok c X) {tg:WW} {t:Tg} (h:iB c tg=some t):PG X tg (tMG Γ t):=by
 have names:∀ (es:WX) (is:W7),fV c es=some is->k6 X es is:=by
  intro es
  induction es with
  | nil=>intro is h; cases h; exact .nil
  | cons e r ih =>
   intro is h
   cases e with
   | Name x p =>
    unfold fV at h
    by_cases hl:eF c x=true
    ·rw [Zd hl] at h
     cases q:idx c.N x with
     | none=>rw [q] at h; cases h
     | some i =>
      rw [q] at h
      cases q2:fV c r with
      | none=>rw [q2] at h; cases h
      | some js =>
       rw [q2] at h; cases h
       exact .cons ⟨x,p,rfl,by rw [C.N]; exact iP q,(C.loc hl).1,(C.loc hl).2⟩ (ih js q2)
    ·rw [Ze hl] at h; cases h
   | _=>cases h
 cases tg with
 | Name x p =>
  have h:(if eF c x=true then (idx c.N x).map Tg.one else none)=some t:=h
  by_cases hl:eF c x=true
  ·rw [Zd hl] at h
   cases q:idx c.N x with
   | none=>rw [q] at h; cases h
   | some i =>
    rw [q] at h; cases h
    exact BO C.nd (by rw [C.N]; exact iP q) (C.loc hl).1 (C.loc hl).2
  ·rw [Ze hl] at h; cases h
 | Tuple es k p =>
  have h:(fV c es).map Tg.many=some t:=h
  cases q:fV c es with
  | none=>rw [q] at h; cases h
  | some is =>
   rw [q] at h; cases h
   exact G7 hK hc C.nd (names es is q)
 | _=>cases h
theorem DX {e:WW} (h:oX e=true) (env:Env):∀ x,foldedSetIterable e env x=pure x:=by
 intro x
 cases e <;> first|rfl|cases h
theorem iu {c:TC} (C:Cok c X) {x:Str} (h:e9 c x=true):Gl X x/\c.gt.lookup x=none:=by
 unfold e9 at h
 rw [Zu] at h
 exact ⟨C.gl h.1,by simpa using h.2⟩
theorem nI {f:PySem.Expr->Option E}:∀ {es:WX} {es':E},b5 f es=some es'->∀ (σ:Sg) (S:aa) (ds:Yc) (S':aa),evs sub cf es' σ S=.ok ds S'->ds.length=es.length
 | [],_,h,σ,S,ds,S',q=>by
  cases h
  have q:(Res.ok [] S:Res (List D))=.ok ds S':=q
  cases q; rfl
 | e::r,_,h,σ,S,ds,S',q=>by
  obtain ⟨a,b,h1,h2,rfl⟩:=bZ h
  have q:(ev sub cf a σ>>=fun x=>evs sub cf b σ>>=fun xs=>pure (x::xs)) S=.ok ds S':=q
  cases q1:ev sub cf a σ S with
  | ok d S1 =>
   rw [aj q1] at q
   cases q2:evs sub cf b σ S1 with
   | ok xs S2 =>
    rw [aj q2] at q
    cases q
    show xs.length+1=r.length+1
    rw [nI h2 σ S1 xs _ q2]
   | exc k S2=>rw [cJ q2] at q; cases q
   | bad=>rw [aZ q2] at q; cases q
  | exc k S2=>rw [cJ q1] at q; cases q
  | bad=>rw [aZ q1] at q; cases q
theorem mG {c:TC} {n:Nat} (F:Fam Γ W CX EW c.gt cf X xw) (C:Cok c X) (ih:∀ e e',trE n c e=some e'->ClE Γ sub cf X xw e e') {tg e:WW} {e':E} (h:trI (trE n c) c tg e=some e') :
  PI X tg e (tMI Γ xw (evI sub cf e'))/\∀ x,foldedSetIterable e X.env x=pure x:=by
 unfold trI at h
 by_cases hs:oX e=true
 ·rw [Zd hs] at h
  refine ⟨?_,DX hs X.env⟩
  have seq:(trE n c e).map E.iSeq=some e'->PI X tg e (tMI Γ xw (evI sub cf e')):=fun h=>by
   cases q:trE n c e with
   | none=>rw [q] at h; cases h
   | some a=>rw [q] at h; cases h; exact Dt F.hK (ih e a q).pe
  split at h
  ·rename_i x p args pos
   by_cases hr:jv c x=true
   ·rw [Zd hr] at h
    unfold jv at hr
    rw [Zu] at hr
    have hx:x = "range":=Zn hr.2
    subst hx
    obtain ⟨hg,hn⟩:=iu C hr.1
    have hm:X.mg "range" = none:=F.blt _ (by decide +kernel) hn
    by_cases hf:few args=true
    ·rw [Zd hf] at h
     cases q:b5 (trE n c) args with
     | none=>rw [q] at h; cases h
     | some es =>
      rw [q] at h; cases h
      have ha:=fB F C ih q
      have hl:=nI (sub:=sub) (cf:=cf) q
      match args,q,ha,hl,hf with
      | [],_,_,_,hf=>exact absurd hf (by decide)
      | [a],q,ha,hl,_ =>
       obtain ⟨a',b',q1,q2,_⟩:=bZ q
       exact IF hg hm ha (bF q1 [] X.env) hl
      | [a,b],q,ha,hl,_ =>
       obtain ⟨a',r',q1,q2,_⟩:=bZ q
       obtain ⟨b',r2,q3,q4,_⟩:=bZ q2
       exact Gu hg hm ha (by rw [bF q1,bF q3]; rfl) (bF q3 [] X.env) hl
      | [a,b,d],q,ha,hl,_ =>
       obtain ⟨a',r',q1,q2,_⟩:=bZ q
       obtain ⟨b',r2,q3,q4,_⟩:=bZ q2
       obtain ⟨d',r3,q5,q6,_⟩:=bZ q4
       exact DE hg hm ha (by rw [bF q1,bF q3,bF q5]; rfl) (by rw [bF q3,bF q5]; rfl) hl
      | _::_::_::_::r,_,_,_,hf =>
       unfold few at hf
       rw [Zu] at hf
       have:=Zn hf.2
       simp at this
    ·rw [Ze hf] at h; cases h
   ·rw [Ze hr] at h
    by_cases he:ly c x=true
    ·rw [Zd he] at h
     unfold ly at he
     rw [Zu] at he
     have hx:x = "enumerate":=Zn he.2
     subst hx
     obtain ⟨hg,hn⟩:=iu C he.1
     have hm:X.mg "enumerate" = none:=F.blt _ (by decide +kernel) hn
     cases tg with
     | Tuple es k tp =>
      match args,h with
      | [a],h =>
       have h:(trE n c a).map E.iEnum=some e':=h
       cases q:trE n c a with
       | none=>rw [q] at h; cases h
       | some a'=>rw [q] at h; cases h; exact A4 F.hK hg hm boot_enumerate (ih a a' q).pe (bF q [] X.env)
      | [],h=>cases h
      | _::_::_,h=>cases h
     | _=>cases h
    ·rw [Ze he] at h
     exact seq h
  ·split at h
   ·cases q:trE n c e with
    | none=>rw [q] at h; cases h
    | some a=>rw [q] at h; cases h; exact EO (ih e a q).pe
   ·exact seq h
 ·rw [Ze hs] at h; cases h
end
end EV

namespace EV
open PySem PySem.Spec PyProof.Rows L2
section
variable {Γ:Gx} {W:XW->Prop} {CX:CXT} {EW:XW->XK} {cf:Ye} {sub:Sub}
theorem Ce {α:Type} {m m':M α} (h:∀ S,m S=m' S):m=m':=funext h
theorem nG (m:M D) (f:List D->M D):((m>>=fun x=>(pure []:M (List D))>>=fun xs=>pure (x::xs))>>=f)=(m>>=fun x=>f [x]):=by
 refine Ce fun S=>?_
 rw [di,di,di]
 cases m S <;> rfl
theorem c9 {α β:Type} {o:Option α} {f:α->β} {d:β} (h:o.map f=some d):∃ a,o=some a/\d=f a:=by
 cases o with
 | none=>cases h
 | some a=>cases h; exact ⟨a,rfl,rfl⟩
theorem vW {t:Tg} {n:Nat} (h:t.sJ n=true):∀ j,j < n->t.has j=false:=by
 intro j hj
 cases t with
 | one i =>
  have:n<=i:=Zn h
  show (i==j)=false
  simp; omega
 | many is =>
  show is.contains j=false
  have h:(is.all fun i=>decide (n<=i))=true:=h
  rw [Xa] at h
  cases q:is.contains j with
  | false=>rfl
  | true =>
   have hm:j∈is:=List.contains_iff_mem.mp q
   have:=Zn (h j hm)
   omega
theorem GD {o:WW} (h:gm o=true):∃ x p,o=.Name x p:=by
 cases o with
 | Name x p=>exact ⟨x,p,rfl⟩
 | _=>cases h
theorem Hx {c:TC} {n:Nat} {X:Cx} {xw:XW} (F:Fam Γ W CX EW c.gt cf X xw) (C:Cok c X) (ih:∀ e e',trE n c e=some e'->ClE Γ sub cf X xw e e') {x:Str} {args ra:WX} {b:Bi} {es:E} {p pos:Pos} (hn:c.gt.lookup x=none) (hg:Gl X x)
  (h:lT c x args=some (b,ra)) (h1:b5 (trE n c) ra=some es):PE X (.Call (.Name x p) args [] pos) (tM Γ xw (ev sub cf (.bi b es))):=by
 unfold lT at h
 split at h
 ·rename_i r p1 ra' p2
  split at h
  ·rename_i hr
   rw [Zu] at hr
   obtain ⟨hr1,hr2⟩:=hr
   unfold jv at hr1
   rw [Zu] at hr1
   have hx:r = "range":=Zn hr1.2
   subst hx
   obtain ⟨hgr,hnr⟩:=iu C hr1.1
   have hmr:X.mg "range" = none:=F.blt _ (by decide +kernel) hnr
   have hra:ra'=ra:=by
    split at h
    ·cases h; rfl
    ·cases h
   subst hra
   have ha:=fB F C ih h1
   have hl:=nI (sub:=sub) (cf:=cf) h1
   have hk:ra'.length=1\/ra'.length=2:=by
    unfold two at hr2
    rcases Bool.or_eq_true_iff.mp hr2 with z|z
    ·exact .inl (Zn z)
    ·exact .inr (Zn z)
   have hr:PE X (.Call (.Name "range" p1) ra' [] p2) (iw (tMA Γ xw (evs sub cf es))):=by
    match ra',h1,ha,hl,hk with
    | [a],h1,ha,hl,_ =>
     obtain ⟨a',b',q1,q2,_⟩:=bZ h1
     exact Cw hgr hmr ha (bF q1 [] X.env) (sP hl)
    | [a,b],h1,ha,hl,_ =>
     obtain ⟨a',r',q1,q2,_⟩:=bZ h1
     obtain ⟨b',r2,q3,q4,_⟩:=bZ q2
     exact DO hgr hmr ha (by rw [bF q1,bF q3]; rfl) (bF q3 [] X.env) (sP hl)
    | [],_,_,_,hk=>rcases hk with hk|hk <;> cases hk
    | _::_::_::_,_,_,_,hk=>simp at hk
   by_cases e:x = "list"
   ·subst e; rw [Zd rfl] at h; cases h
    exact Az hk F.calm hl hr rfl hg (F.blt _ (by decide +kernel) hn)
   rw [Ze e] at h; cases h
  ·split at h
   ·rename_i hx
    simp only [Zu] at hx
    obtain ⟨⟨hx1,hx2⟩,hx3⟩:=hx
    have hx:x = "sorted":=Zn hx1
    subst hx
    unfold t8 at hx2
    rw [Zu] at hx2
    have hr:r = "set":=Zn hx2.2
    subst hr
    obtain ⟨hgr,hnr⟩:=iu C hx2.1
    cases h
    match ra,h1,hx3 with
    | [a],h1,_ =>
     obtain ⟨a',b',q1,q2,q3⟩:=bZ h1
     cases q2
     cases q3
     have key:(fun σ=>ev sub cf (.bi .sortedSet (.cs a' .nl)) σ)=fun σ=>ev sub cf a' σ>>=fun d=>bi1 sub .sortedSet d:=by
      funext σ
      exact nG (ev sub cf a' σ) (biD sub .sortedSet)
     show PE X _ (tM Γ xw (fun σ=>ev sub cf (.bi .sortedSet (.cs a' .nl)) σ))
     rw [key]
     have hu:=F.un
     exact AD F.hK F.calm (by omega) hg (F.blt _ (by decide +kernel) hn) boot_sorted hgr (F.blt _ (by decide +kernel) hnr) boot_set (ih a a' q1).pe (by decide +kernel) (by decide +kernel) (by decide +kernel) (by decide +kernel) (bF q1 [] X.env)
   ·cases h
 ·rename_i o name apos cpos
  split at h
  ·rename_i hx
   simp only [Zu] at hx
   obtain ⟨⟨⟨hx1,hx2⟩,hx3⟩,hx4⟩:=hx
   have hx:x = "list":=Zn hx1
   subst hx
   have hy:name = "values":=Zn hx3
   subst hy
   cases h
   obtain ⟨a',b',q1,q2,q3⟩:=bZ h1
   cases q2
   cases q3
   have key:(fun σ=>ev sub cf (.bi .vals (.cs a' .nl)) σ)=fun σ=>ev sub cf a' σ>>=fun d=>bi1 sub .vals d:=by
    funext σ
    exact nG (ev sub cf a' σ) (biD sub .vals)
   show PE X _ (tM Γ xw (fun σ=>ev sub cf (.bi .vals (.cs a' .nl)) σ))
   rw [key]
   exact yu F.calm hg (F.blt _ (by decide +kernel) hn) We (ih o a' q1).pe (GD hx2) hx4 (by decide +kernel) (by decide +kernel)
  ·cases h
 ·cases h
theorem FQ {b:WW} (h:pY b=true):∃ j p,b=.Constant .none j p:=by
 cases b with
 | Constant k j p=>cases k <;> first|exact ⟨_,_,rfl⟩|cases h
 | _=>cases h
theorem u_ {b:WW} (h:kF b=true):∃ x j p,b=.Constant (.str x) j p:=by
 cases b with
 | Constant k j p=>cases k <;> first|exact ⟨_,_,_,rfl⟩|cases h
 | _=>cases h
theorem GU {op:CmpOp} (h:mj op=some true):op=.Is:=by cases op <;> first|rfl|cases h
theorem zW {op:CmpOp} (h:mj op=some false):op=.IsNot:=by cases op <;> first|rfl|cases h
theorem gk:∀ (n:Nat) (c:TC) (e:WW) (e':E),trE n c e=some e'->∀ (X:Cx) (xw:XW),Fam Γ W CX EW c.gt cf X xw->Cok c X->ClE Γ sub cf X xw e e':=by
 intro n
 induction n with
 | zero=>intro c e e' h; cases h
 | succ n ihn =>
  intro c e e' h X xw F C
  have ih:∀ e e',trE n c e=some e'->ClE Γ sub cf X xw e e':=fun e e' h=>ihn c e e' h X xw F C
  cases e with
  | Name x p=>exact Io F C h
  | Constant k j p=>exact CV F.hK h
  | BinOp a op b p =>
   simp only [trE] at h
   split at h
   rotate_left
   ·cases h
   rename_i o a' b' h1 h2 h3
   cases h
   exact bD F.hK (FH (Bo F.hK h1) (ih a a' h2).pe (ih b b' h3).pe) (fun _=>rfl) (.inr rfl) (fun _ _ _ z=>nomatch z)
  | UnaryOp op a p =>
   cases op with
   | Not =>
    obtain ⟨a',h1,rfl⟩:∃ a',trE n c a=some a'/\e'=.not a':=by
     cases q:trE n c a with
     | none=>simp only [trE,q] at h; cases h
     | some a'=>simp only [trE,q] at h; cases h; exact ⟨a',rfl,rfl⟩
    exact ⟨DW (ih a a' h1).pe,Cp (ih a a' h1).pt,fun ⟨_,_,_,z⟩=>by cases z⟩
   | USub =>
    obtain ⟨a',h1,rfl⟩:∃ a',trE n c a=some a'/\e'=.neg a':=by
     cases q:trE n c a with
     | none=>simp only [trE,q] at h; cases h
     | some a'=>simp only [trE,q] at h; cases h; exact ⟨a',rfl,rfl⟩
    exact bD F.hK (Bc (ih a a' h1).pe) (fun _=>rfl) (.inr rfl) (fun _ _ _ z=>nomatch z)
   | _ =>
    exfalso
    cases q:trE n c a with
    | none=>simp only [trE,q] at h; cases h
    | some a'=>simp only [trE,q] at h; cases h
  | BoolOp op vs p =>
   match vs,h with
   | [],h=>cases h
   | [a],h =>
    have h:trE n c a=some e':=h
    have ca:=ih a e' h
    cases op with
    | And=>exact ⟨fun pins s σ H Q I hw=>tN ca.pe pins s σ H Q I hw,(vj ca.pt).pt,fun _=>vj ca.pt⟩
    | Or=>exact ⟨fun pins s σ H Q I hw=>tN ca.pe pins s σ H Q I hw,(vZ ca.pt).pt,fun _=>vZ ca.pt⟩
   | a::b::r,h =>
    cases op with
    | And =>
     obtain ⟨a',b',h1,h2,rfl⟩:∃ a' b',trE n c a=some a'/\trE n c (.BoolOp .And (b::r) p)=some b'/\e'=.and a' b':=by
      cases q:trE n c a with
      | none=>simp only [trE,q] at h; cases h
      | some a' =>
       cases q2:trE n c (.BoolOp .And (b::r) p) with
       | none=>simp only [trE,q,q2] at h; cases h
       | some b'=>simp only [trE,q,q2] at h; cases h; exact ⟨a',b',rfl,rfl,rfl⟩
     have ca:=ih _ _ h1
     have cb:=ih _ _ h2
     exact ⟨HD ca.pe cb.pe,(qy ca.pt (cb.pw ⟨_,_,_,rfl⟩)).pt,fun _=>qy ca.pt (cb.pw ⟨_,_,_,rfl⟩)⟩
    | Or =>
     obtain ⟨a',b',h1,h2,rfl⟩:∃ a' b',trE n c a=some a'/\trE n c (.BoolOp .Or (b::r) p)=some b'/\e'=.or a' b':=by
      cases q:trE n c a with
      | none=>simp only [trE,q] at h; cases h
      | some a' =>
       cases q2:trE n c (.BoolOp .Or (b::r) p) with
       | none=>simp only [trE,q,q2] at h; cases h
       | some b'=>simp only [trE,q,q2] at h; cases h; exact ⟨a',b',rfl,rfl,rfl⟩
     have ca:=ih _ _ h1
     have cb:=ih _ _ h2
     exact ⟨Be ca.pe cb.pe,(vB ca.pt (cb.pw ⟨_,_,_,rfl⟩)).pt,fun _=>vB ca.pt (cb.pw ⟨_,_,_,rfl⟩)⟩
  | IfExp t a b p =>
   simp only [trE] at h
   split at h
   rotate_left
   ·cases h
   rename_i t' a' b' h1 h2 h3
   cases h
   refine ⟨Ez (ih t t' h1).pt (ih a a' h2).pe (ih b b' h3).pe,sF,fun ⟨_,_,_,z⟩=>by cases z⟩
  | Tuple es k p =>
   obtain ⟨es',h1,rfl⟩:=c9 (f:=E.tup) h
   exact bD F.hK (E9 (fB F C ih h1)) (fun _=>rfl) (.inr rfl) (fun _ _ _ z=>nomatch z)
  | Dict ks vs p =>
   simp only [trE] at h
   split at h
   ·cases h
    exact bD F.hK GJ (fun _=>rfl) (.inr rfl) (fun _ _ _ z=>nomatch z)
   ·cases h
  | List es p =>
   obtain ⟨es',h1,rfl⟩:=c9 (f:=E.lst) h
   exact bD F.hK (yt (fB F C ih h1)) (fun _=>rfl) (.inr rfl) (fun _ _ _ z=>nomatch z)
  | Compare a ops cs p =>
   simp only [trE] at h
   split at h
   ·rename_i op b
    split at h
    ·rename_i k hk
     split at h
     ·rename_i hb
      obtain ⟨j,p',rfl⟩:=FQ hb
      obtain ⟨a',h1,rfl⟩:=c9 (f:=fun x=>bif k then E.isN x else E.notN x) h
      cases k with
      | true =>
       cases GU hk
       exact ⟨E7 (ih a a' h1).pe,Hi (ih a a' h1).pe,fun ⟨_,_,_,z⟩=>by cases z⟩
      | false =>
       cases zW hk
       exact ⟨Eb (ih a a' h1).pe,iC (ih a a' h1).pe,fun ⟨_,_,_,z⟩=>by cases z⟩
     ·cases h
    ·split at h
     ·rename_i o a' b' h1 h2 h3 h4
      cases h
      exact ⟨C8 (xg F h1) (ih a a' h2).pe (ih b b' h3).pe h4,Hs o6 (xg F h1) (ih a a' h2).pe (ih b b' h3).pe h4,fun ⟨_,_,_,z⟩=>by cases z⟩
     ·cases h
   ·rename_i op op' b d
    split at h
    ·rename_i o o' a' b' d' h1 h2 h3 h4 h5 h6
     cases h
     exact ⟨xM (iW F h1) (iW F h2) (ih a a' h3).pe (ih b b' h4).pe (ih d d' h5).pe h6,IE o6 o6 (iW F h1) (iW F h2) (ih a a' h3).pe (ih b b' h4).pe (ih d d' h5).pe h6,fun ⟨_,_,_,z⟩=>by cases z⟩
    ·cases h
   ·cases h
  | Subscript a i p =>
   simp only [trE] at h
   split at h
   ·cases h
   ·cases h
   ·cases h
   ·rename_i hs1 hs2 hs3
    split at h
    ·rename_i a' i' h1 h2
     have hp:oZ i:=by
      intro o j
      cases i with
      | Slice lo hi st p2 =>
       cases st with
       | none=>exact (hs1 lo hi p2 rfl).elim
       | some x=>exact (hs2 lo hi x p2 rfl).elim
      | _=>rfl
     split at h
     ·cases h
      exact bD F.hK (yC (by have:=F.un; omega) (ih a a' h1).pe (ih i i' h2).pe hp) (fun _=>rfl) (.inr rfl) (fun _ _ _ z=>nomatch z)
     ·cases h
      exact bD F.hK (Hz F.hK (ih a a' h1).pe (ih i i' h2).pe hp) (fun _=>rfl) (.inl rfl) (fun _ _ _ z=>nomatch z)
    ·cases h
  | Call f args kws cpos =>
   simp only [trE] at h
   split at h
   ·rename_i x p
    by_cases hx:(d8 x&&glB c x)=true
    ·rw [Zd hx] at h
     rw [Zu] at hx
     have hd:=(oR hx.1).1
     have hg:=C.gl hx.2
     split at h
     ·rename_i hi
      obtain ⟨es',h1,rfl⟩:=c9 (f:=E.call x) h
      cases args with
      | nil =>
       cases h1
       refine bD F.hK ?_ (fun _=>rfl) (.inl rfl) (fun _ _ _ z=>nomatch z)
       exact CQ F hi hg hd
      | cons a r =>
       obtain ⟨a',b',q1,q2,_⟩:=bZ h1
       exact bD F.hK (yL F hi hg hd (fB F C ih h1) (bF q1 r X.env) (iX q2 X.env cpos).1) (fun _=>rfl) (.inl rfl) (fun _ _ _ z=>nomatch z)
     ·cases h
     ·rename_i hn
      by_cases hi:x = "isinstance"
      ·rw [Zd hi] at h
       subst hi
       split at h
       ·rename_i a y p2
        by_cases hy:(d8 y&&e9 c y)=true
        ·rw [Zd hy] at h
         rw [Zu] at hy
         split at h
         ·rename_i t a' h1 h2
          cases h
          obtain ⟨hg2,hn2⟩:=iu C hy.2
          obtain ⟨T,t1,t2,t3,t4,t5⟩:=Ge F h1 hn2
          have hm:X.mg "isinstance" = none:=F.blt _ (by decide +kernel) hn
          have key:(fun σ=>ev sub cf (.bi (.inst t) (.cs a' .nl)) σ)=fun σ=>ev sub cf a' σ>>=fun d=>iS sub t d:=by
           funext σ
           exact nG (ev sub cf a' σ) (biD sub (.inst t))
          refine bD F.hK ?_ (fun _=>rfl) (.inl rfl) (fun _ _ _ z=>nomatch z)
          show PE X _ (tM Γ xw (fun σ=>ev sub cf (.bi (.inst t) (.cs a' .nl)) σ))
          rw [key]
          exact AA F.hK t1 hg hm boot_isinstance hg2 t3 t2 (ih a a' h2).pe (by decide +kernel) (by decide +kernel) t4 t5 (bF h2 _ X.env)
         ·cases h
        ·rw [Ze hy] at h; cases h
       ·cases h
      ·rw [Ze hi] at h
       split at h
       ·rename_i b ra hr
        obtain ⟨es,h1,rfl⟩:=c9 (f:=E.bi b) h
        exact bD F.hK (Hx F C ih hn hg hr h1) (fun _=>rfl) (.inl rfl) (fun _ _ _ z=>nomatch z)
       ·split at h
        ·cases h
        ·rename_i a r hrn
         split at h
         ·rename_i b es h1 h2
          cases h
          obtain ⟨a',b',q1,q2,_⟩:=bZ h2
          exact bD F.hK (Ef F h1 hn hg (fB F C ih h2) (bF q1 r X.env) (iX q2 X.env cpos).1) (fun _=>rfl) (.inl rfl) (fun _ _ _ z=>nomatch z)
         ·cases h
    ·rw [Ze hx] at h; cases h
   ·rename_i o name apos
    split at h
    ·split at h
     ·rename_i hx
      simp only [Zu] at hx
      obtain ⟨⟨x1,x2⟩,x3⟩:=hx
      have x1:name = "pop":=Zn x1
      subst x1
      obtain ⟨o',h1,rfl⟩:=c9 (f:=E.pop) h
      exact bD F.hK (F6 (ih o o' h1).pe (zE x2) x3) (fun _=>rfl) (.inr rfl) (fun _ _ _ z=>nomatch z)
     ·cases h
    ·rename_i a r
     split at h
     ·rename_i hx
      simp only [Zu] at hx
      obtain ⟨⟨x1,x2⟩,x3⟩:=hx
      split at h
      ·rename_i m o' es h1 h2 h3
       cases h
       obtain ⟨a',b',q1,q2,_⟩:=bZ h3
       exact bD F.hK (C0 F h1 (ih o o' h2).pe (fB F C ih h3) x1 (Zn x3) (iX h3 X.env cpos).2 x2 (bF q1 r X.env) (iX q2 X.env cpos).1) (fun _=>rfl) (.inr rfl) (fun _ _ _ z=>nomatch z)
      ·cases h
     ·cases h
   ·cases h
  | ListComp elt gens scope p =>
   simp only [trE] at h
   split at h
   ·rename_i tg iter ifs asy
    split at h
    ·rename_i hx
     rw [Zu] at hx
     have ha:asy=0:=Zn hx.1
     subst ha
     obtain ⟨CO,CK⟩:=tR C hx.2
     split at h
     ·rename_i it t el tt h1 h2 h3 h4
      split at h
      ·rename_i hge
       cases h
       obtain ⟨PI1,hs⟩:=mG F C ih h1
       have ihc:∀ cl fp s3 H3 e e',trE n (inComp c scope) e=some e'->ClE Γ sub cf (aQ X scope cl (inComp c scope).N fp s3 H3) XF e e' :=
        fun cl fp s3 H3 e e' h=>ihn (inComp c scope) e e' h _ XF (F.comp scope cl _ fp s3 H3) (CK cl fp s3 H3)
       have htt:∀ cl fp s3 H3,PF (aQ X scope cl (inComp c scope).N fp s3 H3) ifs (tMT Γ XF fun σ=>if tt.bq=true then pure true else evT sub cf tt σ):=fun cl fp s3 H3=>by
        match ifs,h4 with
        | [],h4 =>
         cases h4
         exact fun pins s σ H Q I h=>pK pins s σ H Q I (by
          obtain ⟨σd,ι,S,he,hs,ho⟩:=h
          exact ho.here hs)
        | [t0],h4 =>
         have h4:(match trE n (inComp c scope) t0 with|some .nl=>none|o=>o)=some tt:=h4
         cases q:trE n (inComp c scope) t0 with
         | none=>rw [q] at h4; cases h4
         | some f =>
          rw [q] at h4
          have hf:f=tt/\f.bq=false:=by
           cases f <;> first|(cases h4; done)|(cases h4; exact ⟨rfl,rfl⟩)
          obtain ⟨rfl,hn⟩:=hf
          rw [hn]
          simp only [Zw,ZU]
          exact qf (ihc cl fp s3 H3 t0 f q).pt
        | _::_::_,h4=>cases h4
       refine bD F.hK ?_ (fun _=>rfl) (.inr rfl) (fun _ _ _ z=>nomatch z)
       exact G5 CO F.calm (by rw [C.N]; exact vW hge) PI1 (fun cl fp s3 H3=>jK (X:=aQ X scope cl (inComp c scope).N fp s3 H3) F.hK F.calm (CK cl fp s3 H3) h2) htt (fun cl fp s3 H3=>(ihc cl fp s3 H3 elt el h3).pe) hs
      ·cases h
     ·cases h
    ·cases h
   ·cases h
  | _=>cases h
end
end EV

namespace EV
open PySem PySem.Spec PyProof.Rows L2
section
variable {Γ:Gx} {W:XW->Prop} {CX:CXT} {EW:XW->XK} {cf:Ye} {sub:Sub}
theorem HM {n:Nat} {c:TC} {elt:WW} {gens:List Comprehension} {scope:Scope} {p:Pos} {e':E} (h:trE n c (.ListComp elt gens scope p)=some e') {X:Cx} {xw:XW} (F:Fam Γ W CX EW c.gt cf X xw) (C:Cok c X) :
  ∃ tg iter ifs it t el tt,gens=[⟨tg,iter,ifs,0⟩]/\e'=.comp (own scope).length el t it tt/\eV X scope (inComp c scope).N (own scope).length/\(∀ j,j < X.N.length->t.has j=false)/\PI X tg iter (tMI Γ xw (evI sub cf it)) /\
   (∀ cl fp s3 H3,PG (aQ X scope cl (inComp c scope).N fp s3 H3) tg (tMG Γ t))/\(∀ cl fp s3 H3,PF (aQ X scope cl (inComp c scope).N fp s3 H3) ifs (tMT Γ XF fun σ=>if tt.bq=true then pure true else evT sub cf tt σ)) /\
   (∀ cl fp s3 H3,PE (aQ X scope cl (inComp c scope).N fp s3 H3) elt (tM Γ XF (ev sub cf el)))/\∀ x,foldedSetIterable iter X.env x=pure x:=by
 cases n with
 | zero=>cases h
 | succ n =>
  have ih:∀ e e',trE n c e=some e'->ClE Γ sub cf X xw e e':=fun e e' h=>gk n c e e' h X xw F C
  simp only [trE] at h
  split at h
  ·rename_i tg iter ifs asy
   split at h
   ·rename_i hx
    rw [Zu] at hx
    have ha:asy=0:=Zn hx.1
    subst ha
    obtain ⟨CO,CK⟩:=tR C hx.2
    split at h
    ·rename_i it t el tt h1 h2 h3 h4
     split at h
     ·rename_i hge
      cases h
      obtain ⟨PI1,hs⟩:=mG F C ih h1
      have ihc:∀ cl fp s3 H3 e e',trE n (inComp c scope) e=some e'->ClE Γ sub cf (aQ X scope cl (inComp c scope).N fp s3 H3) XF e e' :=
       fun cl fp s3 H3 e e' h=>gk n (inComp c scope) e e' h _ XF (F.comp scope cl _ fp s3 H3) (CK cl fp s3 H3)
      have htt:∀ cl fp s3 H3,PF (aQ X scope cl (inComp c scope).N fp s3 H3) ifs (tMT Γ XF fun σ=>if tt.bq=true then pure true else evT sub cf tt σ):=fun cl fp s3 H3=>by
       match ifs,h4 with
       | [],h4 =>
        cases h4
        exact fun pins s σ H Q I h=>pK pins s σ H Q I (by
         obtain ⟨σd,ι,S,he,hs,ho⟩:=h
         exact ho.here hs)
       | [t0],h4 =>
        have h4:(match trE n (inComp c scope) t0 with|some .nl=>none|o=>o)=some tt:=h4
        cases q:trE n (inComp c scope) t0 with
        | none=>rw [q] at h4; cases h4
        | some f =>
         rw [q] at h4
         have hf:f=tt/\f.bq=false:=by
          cases f <;> first|(cases h4; done)|(cases h4; exact ⟨rfl,rfl⟩)
         obtain ⟨rfl,hn⟩:=hf
         rw [hn]
         simp only [Zw,ZU]
         exact qf (ihc cl fp s3 H3 t0 f q).pt
       | _::_::_,h4=>cases h4
      exact ⟨tg,iter,ifs,it,t,el,tt,rfl,rfl,CO,by rw [C.N]; exact vW hge,PI1,fun cl fp s3 H3=>jK (X:=aQ X scope cl (inComp c scope).N fp s3 H3) F.hK F.calm (CK cl fp s3 H3) h2,htt,fun cl fp s3 H3=>(ihc cl fp s3 H3 elt el h3).pe,hs⟩
     ·cases h
    ·cases h
   ·cases h
  ·cases h
theorem k7 {e:WW} (h:g9 e=true) (t:Option PySem.Expr) (l:Nat) (env:Env):swapsWith e t l env=pure false:=by
 cases e <;> first|rfl|cases h
theorem EJ {m:Nat} {c:TC} {X:Cx} {xw:XW} (F:Fam Γ W CX EW c.gt cf X xw) (C:Cok c X) {tg e:WW} {t:Tg} {e':E} {pos:Pos} (ha:wX tg e=true) (h1:iB c tg=some t) (h2:trE m c e=some e') :
  PS X (.Assign [tg] e pos) (tMS Γ xw (exec sub cf (.set t e'))):=by
 have hg:PG X tg (tMG Γ t):=jK F.hK F.calm C h1
 have he:=(gk (sub:=sub) m c e e' h2 X xw F C).pe
 cases tg with
 | Name y py =>
  by_cases hc:g9 e=true
  ·exact lZ he hg (show swapsWithSole [.Name y py] e pos.line X.env=pure false from k7 hc (some (.Name y py)) pos.line X.env) rfl rfl
  ·cases e with
   | ListComp elt gens scope p =>
    obtain ⟨tg,iter,ifs,it,t2,el,tt,rfl,rfl,CO,hslot,PI1,PG1,PF1,PE1,hs⟩:=HM (sub:=sub) h2 F C
    have h1':(if eF c y=true then (idx c.N y).map Tg.one else none)=some t:=h1
    by_cases hl:eF c y=true
    ·rw [Zd hl] at h1'
     obtain ⟨j,hj,rfl⟩:=c9 h1'
     have sw:swapsWith (.ListComp elt [⟨tg,iter,ifs,0⟩] scope p) (some (.Name y py)) pos.line X.env=pure (X.env.blockKind==.function&&X.env.kindOf y==some .local&&py.line==p.line
      &&!(scope.names.any fun (n,k)=>n==y&&(k==.local||k==.cell))):=rfl
     cases q:(X.env.blockKind==.function&&X.env.kindOf y==some .local&&py.line==p.line&&!(scope.names.any fun (n,k)=>n==y&&(k==.local||k==.cell))) with
     | true =>
      rw [q] at sw
      simp only [Zu] at q
      have hy:X.env.scope.names.lookup y=some .local:=eq_of_beq q.1.1.2
      exact CC CO F.calm hslot PI1 PG1 PF1 PE1 C.nd (by rw [C.N]; exact iP hj) hy sw hs
     | false =>
      rw [q] at sw
      exact lZ he hg sw rfl rfl
    ·rw [Ze hl] at h1'; cases h1'
   | SetComp _ _ _ _=>cases m <;> cases h2
   | DictComp _ _ _ _ _=>cases m <;> cases h2
   | _=>exact absurd rfl hc
 | Tuple es k p =>
  have ha:(!isTup e&&g9 e)=true:=ha
  rw [Zu] at ha
  refine lZ he hg (show swapsWithSole [.Tuple es k p] e pos.line X.env=pure false from k7 ha.2 (some (.Tuple es k p)) pos.line X.env) ?_ rfl
  cases e <;> first|rfl|exact absurd ha.1 (by simp [isTup])
 | _=>cases ha
theorem CI {m:Nat} {c:TC} {X:Cx} {xw:XW} (F:Fam Γ W CX EW c.gt cf X xw) (C:Cok c X) {tg e:WW} {s':S} {pos:Pos} (h:oU (trE m c) e tg=some s'):PS X (.Assign [tg] e pos) (tMS Γ xw (exec sub cf s')):=by
 have ce:∀ {e e'},trE m c e=some e'->PE X e (tM Γ xw (ev sub cf e')):=fun {e e'} h=>(gk m c e e' h X xw F C).pe
 unfold oU at h
 split at h
 ·cases h
 ·rename_i o i p _
  split at h
  ·rename_i ha
   rw [Zu] at ha
   split at h
   ·rename_i a b d h1 h2 h3
    split at h
    ·cases h
     exact yk (by have:=F.un; omega) (ce h3) (ce h1) (ce h2) (k7 ha.1 (some (.Subscript o i p)) pos.line X.env)
    ·cases h
   ·cases h
  ·cases h
 ·cases h
theorem ir {f:Stmt->Option S} {X:Cx} {xw:XW} (ih:∀ s s',f s=some s'->PS X s (tMS Γ xw (exec sub cf s'))):∀ {ss:List Stmt} {s':S},cN f ss=some s'->PSs X ss (tMS Γ xw (exec sub cf s'))
 | [],_,h=>by cases h; exact x9
 | [s],_,h=>yb (ih _ _ h)
 | s::s2::r,s',h=>by
  have h:(match f s,cN f (s2::r) with|some a,some b=>some (.seq a b)|_,_=>none)=some s':=h
  split at h
  ·rename_i a b h1 h2
   cases h
   exact xH (ih s a h1) (ir ih h2)
  ·cases h
theorem Ex {c:TC} {X:Cx} {xw:XW} {e:WW} {s':S} {pos:Pos} (F:Fam Γ W CX EW c.gt cf X xw) (C:Cok c X) (h:l9 c e=some s'):PS X (.Raise (some e) none pos) (tMS Γ xw (exec sub cf s')):=by
 unfold l9 at h
 split at h
 case h_2=>cases h
 rename_i f args kws cpos
 split at h
 case h_2=>cases h
 rename_i x np
 split at h
 case isFalse=>cases h
 rename_i hc
 rw [Zu,Zu] at hc
 split at h
 case h_2=>cases h
 rename_i hl
 cases h
 match args,hc.1 with
 | [a],hd =>
  obtain ⟨v,j,q,rfl⟩:=u_ (show kF a=true from hd)
  obtain ⟨⟨C1,newId,initId,B,bmB,hns,hex,FB,_⟩,hmg⟩:=F.cls x hl
  refine PS.imp (Fz (E:=EW xw) FB hex (hmg C1 hns) (C.gl hc.2.2) F.calm (oR hc.2.1).1 rB rfl F.rp) fun D σ H h=>?_
  obtain ⟨σd,ι,S,hE,hs,ho⟩:=h
  have hx:xw x S ι H:=ho ι H .refl hs
  rw [F.ew]
  exact ⟨x,C1,rfl,hns,S,ι,hx⟩
theorem Ay (m:Nat):∀ (n:Nat) (c:TC) (s:Stmt) (s':S),trS m n c s=some s'->∀ (X:Cx) (xw:XW),Fam Γ W CX EW c.gt cf X xw->Cok c X->PS X s (tMS Γ xw (exec sub cf s')):=by
 intro n
 induction n with
 | zero=>intro c s s' h; cases h
 | succ n ihn =>
  intro c s s' h X xw F C
  have ih:∀ s s',trS m n c s=some s'->PS X s (tMS Γ xw (exec sub cf s')):=fun s s' h=>ihn c s s' h X xw F C
  have ihx:∀ s s',trS m n c s=some s'->PS X.nox s (tMS Γ XF (exec sub cf s')):=fun s s' h=>ihn c s s' h X.nox XF F.nox C.nox
  have ce:∀ {e e'},trE m c e=some e'->ClE Γ sub cf X xw e e':=fun {e e'} h=>gk m c e e' h X xw F C
  have cx:∀ {e e'},trE m c e=some e'->ClE Γ sub cf X.nox XF e e':=fun {e e'} h=>gk m c e e' h X.nox XF F.nox C.nox
  cases s with
  | Return v p =>
   cases v with
   | none=>cases h; exact D3
   | some e =>
    obtain ⟨e',h1,rfl⟩:=c9 (f:=S.ret) h
    exact zQ (ce h1).pe
  | Expr e p =>
   simp only [trS] at h
   split at h
   ·rename_i hd
    obtain ⟨x,j,q,rfl⟩:=u_ hd
    cases h; exact D6
   ·split at h
    ·rename_i hn
     obtain ⟨e',h1,rfl⟩:=c9 (f:=S.ex) h
     exact yT (ce h1).pe (k7 hn _ _ _)
    ·cases h
  | Pass p=>cases h; exact DS
  | Assign ts e p =>
   simp only [trS] at h
   split at h
   ·rename_i tg
    split at h
    ·rename_i ha
     split at h
     ·rename_i t e' h1 h2
      cases h
      exact EJ F C ha h1 h2
     ·cases h
    ·exact CI F C h
   ·cases h
  | If t a b p =>
   simp only [trS] at h
   split at h
   ·rename_i t' a' b' h1 h2 h3
    cases h
    exact AX (ce h1).pt (ir ih h2) (ir ih h3)
   ·cases h
  | For tg it body els p =>
   simp only [trS] at h
   split at h
   ·rename_i t i b h1 h2 h3
    cases h
    obtain ⟨PI1,hs⟩:=mG (X:=X.nox) (xw:=XF) F.nox C.nox (fun e e' h=>cx h) h2
    exact Eo F.calm PI1 (jK (X:=X.nox) F.hK F.calm C.nox h1) (ir ihx h3) hs
   ·cases h
  | While t body els p =>
   simp only [trS] at h
   split at h
   ·rename_i t' b h1 h2
    cases h
    exact Iw (cx h1).pt (ir ihx h2)
   ·cases h
  | Raise e cause p =>
   cases e with
   | none=>cases cause <;> cases h
   | some e =>
    cases cause with
    | none=>exact Ex F C h
    | some _=>cases h
  | _=>cases h
end
end EV

namespace EV
open PySem PySem.Spec PyProof.Rows L2
theorem oH:∀ {ns:WU} {us:WM} {i:Nat} {x:Str} {u:W9},ns.Nodup->ns[i]?=some x->us[i]?=some u->(ns.zip us).lookup x=some u
 | [],_,_,_,_,_,h,_=>by simp at h
 | _::_,[],_,_,_,_,_,h=>by simp at h
 | y::ns,v::us,0,x,u,_,h1,h2=>by
  simp at h1 h2; subst h1; subst h2
  simp [List.lookup]
 | y::ns,v::us,i+1,x,u,nd,h1,h2=>by
  have h1':ns[i]?=some x:=by simpa using h1
  have hne:¬ x=y:=fun e=>by
   subst e; exact (Xg.mp nd).1 (ZA h1')
  have hb:(x==y)=false:=by simpa using hne
  show List.lookup x ((y,v)::ns.zip us)=some u
  rw [Z8,hb]
  exact oH (Xg.mp nd).2 h1' (by simpa using h2)
theorem BW {ns:WU} {us:WM} (nd:ns.Nodup) (hl:us.length=ns.length):ns.filterMap (fun n=>((ns.zip us).lookup n).map (n,·))=ns.zip us:=by
 have all:∀ (ms:WU) (vs:WM),vs.length=ms.length->(∀ (i:Nat) x u,ms[i]?=some x->vs[i]?=some u->(ns.zip us).lookup x=some u)->ms.filterMap (fun n=>((ns.zip us).lookup n).map (n,·))=ms.zip vs:=by
  intro ms
  induction ms with
  | nil=>intro vs _ _; rfl
  | cons m ms ih =>
   intro vs hl h
   cases vs with
   | nil=>simp at hl
   | cons v vs =>
    rw [Xt,h 0 m v rfl rfl]
    show (m,v)::_=(m,v)::ms.zip vs
    rw [ih vs (by simpa using hl) fun i x u h1 h2=>h (i+1) x u (by simpa using h1) (by simpa using h2)]
 exact all ns us hl fun i x u h1 h2=>oH nd h1 h2
theorem pN {x qual:Str} {a:Arguments} {body:List Stmt} {sc:Scope} {kV doc pm cdv ct:W9} {an:W5} (hp:j4 a=true) (nd:(argNames a).Nodup) {us:WM} (hl:us.length=(argNames a).length) :
  bindArgs (PySem.W.fnOf x qual a body sc .none kV doc pm an cdv ct) ⟨us,[]⟩=pure ((argNames a).zip us):=by
 obtain ⟨po,as,va,ko,kd,kw,df⟩:=a
 unfold j4 at hp
 simp only [Zu,List.isEmpty_iff,Option.isNone_iff_eq_none] at hp
 obtain ⟨⟨⟨⟨⟨rfl,rfl⟩,rfl⟩,rfl⟩,rfl⟩,rfl⟩:=hp
 have nd:(as.map (·.arg)).Nodup:=nd
 have hl:us.length=(as.map (·.arg)).length:=hl
 show bindArgs _ _=pure ((as.map (·.arg)).zip us)
 unfold bindArgs
 simp only [PySem.W.fnOf,X7,Qb,Xl]
 generalize as.map (·.arg)=ns at nd hl
 have hnot:¬ us.length > ns.length:=by rw [hl]; exact XM _
 have hmiss:(List.take ns.length ns).filter (fun n=>((ns.zip us).lookup n).isNone)=[]:=by
  rw [QB]
  intro n hn
  obtain ⟨i,hi⟩:=ZO (QP hn)
  have hi':i < us.length:=by rw [hl]; exact (Zg.mp hi).1
  rw [oH nd hi (Zc hi')]
  simp
 have hb:=BW nd hl
 have hd:seqItems? .none=pure none:=rfl
 rw [hd]
 have hz:(#[]:Array Value).toList=[]:=rfl
 have hdec:decide (us.length > ns.length)=false:=Zq hnot
 simp only [List.forIn_nil,pure_bind,Option.getD_none,hz,XH,Nat.zero_sub,List.drop_nil,Nat.sub_zero,hmiss,hdec,Ws,Zw,ZU,List.isEmpty_nil,Qd,List.zip_nil_right,hb]
def nF (xw:XW):XW:=fun c _ _ H=>∃ S ι,xw c S ι H
structure Txt (K:WL) (mg:WR) (gt:List (Str × GE)) (defs:W4):Prop where
 fn:∀ x,gt.lookup x=some .fn->∃ st f fd,defs.lookup x=some st/\mg x=some (.ref f)/\Fun K x x st f fd
 blt:∀ x∈d9,gt.lookup x=none->mg x=none
 val:∀ x d,gt.lookup x=some (.val d)->∃ u v,mg x=some u/\RelV v u/\∀ ι H,Rep ⟨K⟩ ι H d v
 cls:∀ x,gt.lookup x=some .cls->ClsAt K x/\∀ C,PySem.W.nsIn K mainGlobals x=some (some (.ref C))->mg x=some (.ref C)
theorem xT {Γ:Gx} {ι:WQ} {H:Hp} {ds:Yc} {vs:Ya} (rs:az Γ ι H ds vs) (N:WU) {k:Nat} (hk:k=N.length):aY Γ ι H (L2.start N vs) (ds.map some++List.replicate (k - ds.length) none):=by
 have hl:=rs.length
 refine ⟨by unfold L2.start; simp [hl,hk],fun i d h=>?_⟩
 by_cases hi:i < ds.length
 ·rw [ZF (by simpa using hi),ZK] at h
  have h:ds[i]?=some d:=by
   rw [Zc hi] at h ⊢
   simpa using h
  obtain ⟨v,hv,r⟩:=Paired.get rs h
  refine ⟨v,?_,r⟩
  unfold L2.start
  rw [ZF (by rw [Zb,<- hl]; exact hi),ZK,hv]
  rfl
 ·rw [ZP (by simpa using hi),X2] at h
  split at h <;> cases h
theorem mF {a:Arguments} {sc:Scope} (h:c7 a sc=true):ow (namesOf a sc) (argNames a) sc/\j4 a=true:=by
 unfold c7 at h
 simp only [Zu] at h
 obtain ⟨⟨⟨⟨⟨⟨h1,h2⟩,h3⟩,h4⟩,h5⟩,h6⟩,h7⟩:=h
 rw [Xa] at h6 h7
 refine ⟨⟨Zn h2,by simpa using h3,by simpa using h4,kJ h5,?_,fun x hx=>?_,fun y hy hf=>?_⟩,h1⟩
 ·unfold namesOf; rw [List.take_append_of_le_length (Zk _),Z4]
 ·have:=h6 x hx
  cases q:sc.names.lookup x with
  | none=>rw [q] at this; cases this
  | some k=>rw [q] at this; cases k <;> first|exact .inl rfl|exact .inr rfl|cases this
 ·have:=h7 y hy
  rw [hf] at this; simp at this
theorem sY {CX:CXT} {P:WP} {w:WS} {K:WL} {mg:WR} {base:Heap} {N:WU} {qual:Str} {scope:Scope} {f:Addr} {cd:W9} {A:WY} {outer:List Env} {s:WN} {H:Hp} {E:XK} {pins:WI} {σ:L2.St} {H1:Hp} {s1:WN} (I:Inv (cV CX P w K mg base N qual scope f cd A outer s H E) pins σ H1 s1):A.frames=some outer:=by
 have z:A.frames.map (envOfC qual scope s.heap.objs.size f cd :: ·)=some (envOfC qual scope s.heap.objs.size f cd::outer):=I.ok.frames
 cases q:A.frames with
 | none=>rw [q] at z; cases z
 | some l=>rw [q] at z; cases z; rfl
section
variable {P:WP} {w:WS} {K:WL} {mg:WR} {base:Heap} {W:XW->Prop} {sub:Sub} {gt:List (Str × GE)} {defs:W4} {Pd:Prg}
theorem Gs (T:Txt K mg gt defs) (hW:∀ xw,W xw) (hP:∀ x st,defs.lookup x=some st->∃ F,trF gt st=some F/\Pd.lookup x=some F) :
  ∀ (n:Nat) (x:Str) (st:Stmt) (f:Addr) (fd:FuncData),defs.lookup x=some st->Fun K x x st f fd->dW P w K mg base (CXe P w) n f fd (argNames (dg st)) (spF ⟨K⟩ W (EWx K) (ah sub Pd n x) (argNames (dg st)).length):=by
 intro n
 induction n with
 | zero =>
  intro x st f fd _ _
  refine ⟨fun vs H Q E h=>h.1,fun A outer s H args us vs Q E _ _ _ _ h=>?_⟩
  obtain ⟨_,_,_,_,_,_,_,_,_,ho⟩:=h
  exact ho.elim
 | succ n ih =>
  intro x st f fd hst Fu
  obtain ⟨F,hF,hPi⟩:=hP x st hst
  cases st with
  | FunctionDef x0 a body d1 d2 d3 sc d4 d5 d6 =>
   have hF:(if c7 a sc=true then (cN (trS depth depth (fH gt a sc)) body).map fun b=>(⟨(argNames a).length,(namesOf a sc).length,b⟩:Fn) else none)=some F:=hF
   by_cases hs:c7 a sc=true
   ·rw [Zd hs] at hF
    obtain ⟨b,hb,rfl⟩:=c9 hF
    obtain ⟨SC,hpl⟩:=mF hs
    obtain ⟨oc,od,kV,doc,pm,an,cdv,ct,osl,rfl,lk,hcd⟩:=Fu.ex
    refine Hj (N:=namesOf a sc) lk hcd SC (fun vs H Q E h=>h.1) fun A outer s H vs Q E hr hsp=>?_
    obtain ⟨hl,xw,hw,rfl,ι,S,ds,hS,rs,ho⟩:=hsp
    have hew:∀ C H,EWx K (nF xw) (.ref C) none H->EWx K xw (.ref C) none H:=fun C H z=>by
     obtain ⟨c,C',z1,z2,_,_,S',ι',z3⟩:=z
     exact ⟨c,C',z1,z2,S',ι',z3⟩
    have FM:Fam ⟨K⟩ W (CXe P w) (EWx K) gt (ah sub Pd n) (cV (CXe P w) P w K mg base (namesOf a sc) x sc f cdv A outer s H (EWx K xw)) (nF xw):=by
     refine ⟨rfl,rfl,hr.units,T.blt,T.val,fun y hy=>?_,fun pins σ H1 s1 v s2 I hx=>vU (fun _ _ _ _ z=>.inr z) hew (sY I) I hx,fun pins σ H1 s1 v s2 I hx=>vU (fun _ _ _ _ z=>.inl z) hew (sY I) I hx,T.cls,rfl,rfl,hW⟩
     obtain ⟨st2,f2,fd2,h1,h2,h3⟩:=T.fn y hy
     obtain ⟨F2,hF2,hPj⟩:=hP y st2 h1
     have hb2:Binds K fd2 (argNames (dg st2)) []:=by
      cases st2 with
      | FunctionDef x1 a1 body1 e1 e2 e3 sc1 e4 e5 e6 =>
       have hF2:(if c7 a1 sc1=true then (cN (trS depth depth (fH gt a1 sc1)) body1).map fun b=>(⟨(argNames a1).length,(namesOf a1 sc1).length,b⟩:Fn) else none)=some F2:=hF2
       by_cases hs1:c7 a1 sc1=true
       ·obtain ⟨SC1,hpl1⟩:=mF hs1
        refine h3.binds fun _ _ _ _ _ _ us hl=>?_
        have nd1:(argNames a1).Nodup:=by rw [<- SC1.pre]; exact SC1.nd.sublist (WA _ _)
        exact pN hpl1 nd1 hl
       ·rw [Ze hs1] at hF2; cases hF2
      | _=>cases hF2
     refine ⟨n,f2,fd2,argNames (dg st2),ih y st2 f2 fd2 h1 h3,hr,h2,h3.kp,hb2,fun ds S hne=>?_⟩
     cases n with
     | zero=>rfl
     | succ n =>
      have hpar:F2.par=(argNames (dg st2)).length:=by
       cases st2 with
       | FunctionDef x1 a1 body1 e1 e2 e3 sc1 e4 e5 e6 =>
        have hF2:(if c7 a1 sc1=true then (cN (trS depth depth (fH gt a1 sc1)) body1).map fun b=>(⟨(argNames a1).length,(namesOf a1 sc1).length,b⟩:Fn) else none)=some F2:=hF2
        by_cases hs1:c7 a1 sc1=true
        ·rw [Zd hs1] at hF2
         obtain ⟨b1,_,rfl⟩:=c9 hF2
         rfl
        ·rw [Ze hs1] at hF2; cases hF2
       | _=>cases hF2
      exact BS hPj (by rw [hpar]; exact hne)
    have CK:Cok (fH gt a sc) (cV (CXe P w) P w K mg base (namesOf a sc) x sc f cdv A outer s H (EWx K xw)):=⟨rfl,rfl,SC.nd,SC.kind,fun _ _=>rfl,fun _=>⟨rfl,rfl⟩⟩
    refine ⟨tMS ⟨K⟩ (nF xw) (exec sub (ah sub Pd n) b),ir (fun s s' h=>Ay depth depth (fH gt a sc) s s' h _ _ FM CK) hb,?_⟩
    have hdl:ds.length=(argNames a).length:=rs.length.trans hl
    refine ⟨ds.map some++List.replicate ((namesOf a sc).length - ds.length) none,ι,S,xT rs _ rfl,hS,?_⟩
    have ho:Out ⟨K⟩ xw ι H (ah sub Pd (n+1) x ds S) _:=ho
    rw [vP hPi hdl] at ho
    unfold frame at ho
    cases q:exec sub (ah sub Pd n) b (ds.map some++List.replicate ((namesOf a sc).length - ds.length) none) S with
    | bad=>rw [q] at ho; exact ho.elim
    | exc k S' =>
     rw [q] at ho
     intro ι' H' e' s'
     have ho:Out ⟨K⟩ xw ι H (if S'.take S.length=S then .exc k S else .exc k S') _:=ho
     by_cases ht:S'.take S.length=S
     ·rw [Zd ht] at ho
      exact ⟨S,ι,ho ι H' e'.back (ao.back e' hS s' ht)⟩
     ·rw [Ze ht] at ho
      exact ⟨S',ι',ho ι' H' e' s'⟩
    | ok fl S' =>
     rw [q] at ho
     intro ι' H' e' s'
     cases fl with
     | nx σ'=>exact fun σv hv=>tw hS e' s' .non ho
     | rt d=>exact fun v r=>tw hS e' s' r ho
     | bk σ'=>exact ho.elim
     | ct σ'=>exact ho.elim
   ·rw [Ze hs] at hF; cases hF
  | _=>cases hF
end
end EV

namespace EV
open PySem PySem.Spec PyProof.Rows L2
inductive dH (K:WL):List (Str × Stmt)->Prop
 | nil:dH K []
 | cons {x:Str} {st:Stmt} {r:W4} {f:Addr} {oc:W9} {od an:W5} {osl:W0} {kV doc pm cdv ct:W9} :
   PySem.W.nsIn K mainGlobals x=some (some (.ref f)) ->
   K.lookup f=some ⟨oc,od,.func (PySem.W.fnOf x x (dg st) (iy st) (i8 st) .none kV doc pm an cdv ct),osl⟩ ->
   PySem.W.codeIn K cdv x=true->PySem.W.keepIn K (.ref f)=true->dH K r->dH K ((x,st)::r)
inductive fk:D->Value->Prop
 | non:fk .non .none
 | bl (b:Bool):fk (.bl b) (.bool b)
 | int (i:Int) (t:Tok):fk (.int i) (.int i t)
 | str (x:Str) (t:Tok):fk (.str x) (.str x t)
inductive fq:List D->List Value->Prop
 | nil:fq [] []
 | cons {d:D} {u:W9} {ds:Yc} {us:WM}:fk d u->fq ds us->fq (d::ds) (u::us)
inductive cE (K:WL):List (Str × D)->Prop
 | nil:cE K []
 | flat {x:Str} {d:D} {u:W9} {r:List (Str × D)}:PySem.W.nsIn K mainGlobals x=some (some u)->fk d u->cE K r->cE K ((x,d)::r)
 | tup {x:Str} {ds:Yc} {a:Addr} {od:W5} {us:WM} {n:Nat} {sl:W0} {r:List (Str × D)}:PySem.W.nsIn K mainGlobals x=some (some (.ref a)) ->
   K.lookup a=some ⟨.type "tuple",od,.seq us.toArray n,sl⟩->us.length<=1000->allInts ds=none->fq ds us->cE K r->cE K ((x,.tup ds)::r)
inductive d7 (K:WL):List Str->Prop
 | nil:d7 K []
 | cons {x:Str} {r:WU}:PySem.W.nsIn K mainGlobals x=some none->d7 K r->d7 K (x::r)
noncomputable def jO:D->V
 | .bl b=>.bl b
 | .int i=>.int i
 | .str x=>.str x
 | _=>.non
theorem fk.rel {d:D} {u:W9} (h:fk d u):RelV (jO d) u/\∀ Γ ι H,Rep Γ ι H d (jO d):=by
 cases h with
 | non=>exact ⟨rfl,fun _ _ _=>.non⟩
 | bl b=>exact ⟨rfl,fun _ _ _=>.bl b⟩
 | int i t=>exact ⟨⟨t,rfl⟩,fun _ _ _=>.int i⟩
 | str x t=>exact ⟨⟨t,rfl⟩,fun _ _ _=>.str x⟩
theorem fq.rel:∀ {ds:Yc} {us:WM},fq ds us->Vals (ds.map jO) us/\∀ Γ ι H,az Γ ι H ds (ds.map jO)
 | _,_,.nil=>⟨.nil,fun _ _ _=>.nil⟩
 | _,_,.cons h r=>⟨.cons h.rel.1 (fq.rel r).1,fun Γ ι H=>.cons (h.rel.2 Γ ι H) ((fq.rel r).2 Γ ι H)⟩
theorem dH.get {K:WL}:∀ {fns:W4} {x:Str} {st:Stmt},dH K fns->(x,st)∈fns->∃ f fd,PySem.W.nsIn K mainGlobals x=some (some (.ref f))/\Fun K x x st f fd
 | _,_,_,.nil,h=>by simp at h
 | _,_,_,.cons a l c k r,h=>by
  rcases Zt.mp h with e|h
  ·cases e; exact ⟨_,_,a,Fc l c k⟩
  ·exact dH.get r h
theorem cE.get {K:WL}:∀ {vals:List (Str × D)} {x:Str} {d:D},cE K vals->(x,d)∈vals->∃ u v,PySem.W.nsIn K mainGlobals x=some (some u)/\RelV v u/\∀ ι H,Rep ⟨K⟩ ι H d v
 | _,_,_,.nil,h=>by simp at h
 | _,x,d,.flat a f r,h=>by
  rcases Zt.mp h with e|h
  ·cases e; exact ⟨_,_,a,f.rel.1,fun ι H=>f.rel.2 _ ι H⟩
  ·exact cE.get r h
 | _,x,d,.tup a l z no f r,h=>by
  rcases Zt.mp h with e|h
  ·cases e
   refine ⟨_,.ref _,a,rfl,fun ι H=>?_⟩
   have hz:∀ {us:WM},us.length<=1000->us.toArray.size<=sizeLine:=fun {us} h=>by rw [Zo,XC]; omega
   exact .ue (.inr ⟨_,_,_,l,rfl,rfl,hz z,by simpa using f.rel.1⟩) (f.rel.2 _ ι H) fun k q=>by rw [no] at q; cases q
  ·exact cE.get r h
theorem d7.get {K:WL}:∀ {l:WU} {x:Str},d7 K l->x∈l->PySem.W.nsIn K mainGlobals x=some none
 | _,_,.nil,h=>by simp at h
 | _,_,.cons a r,h=>by
  rcases Zt.mp h with rfl|h
  ·exact a
  ·exact d7.get r h
inductive b6 (K:WL):List Str->Prop
 | nil:b6 K []
 | cons {x:Str} {r:WU} {C L:Addr} (a:PySem.W.nsIn K mainGlobals x=some (some (.ref C))) (b:PySem.W.excIn K C [.type "ValueError",.type "Exception",.type "BaseException",.type "object"] "ValueError.__new__" = true)
   (v:PySem.W.kitOne K (.ref C) (.type "ValueError")=some true) (l1:PySem.W.nsIn K mainGlobals "LapError" = some (some (.ref L))) (l2:PySem.W.kitOne K (.ref C) (.ref L)=some true) (n:x≠"NoLoop") (c:b6 K r):b6 K (x::r)
 | consN {r:WU} {C L:Addr} (a:PySem.W.nsIn K mainGlobals "NoLoop" = some (some (.ref C))) (b:PySem.W.excIn K C [.type "ValueError",.type "Exception",.type "BaseException",.type "object"] "ValueError.__new__" = true)
   (v:PySem.W.kitOne K (.ref C) (.type "ValueError")=some true) (l1:PySem.W.nsIn K mainGlobals "LapError" = some (some (.ref L))) (l2:PySem.W.kitOne K (.ref C) (.ref L)=some true) (n:PySem.W.nsIn K mainGlobals "NoPlan" = some none) (c:b6 K r):b6 K ("NoLoop" :: r)
 | consP {r:WU} {C L P:Addr} (a:PySem.W.nsIn K mainGlobals "NoLoop" = some (some (.ref C))) (b:PySem.W.excIn K C [.type "ValueError",.type "Exception",.type "BaseException",.type "object"] "ValueError.__new__" = true)
   (v:PySem.W.kitOne K (.ref C) (.type "ValueError")=some true) (l1:PySem.W.nsIn K mainGlobals "LapError" = some (some (.ref L))) (l2:PySem.W.kitOne K (.ref C) (.ref L)=some true)
   (n:PySem.W.nsIn K mainGlobals "NoPlan" = some (some (.ref P))) (p:PySem.W.kitOne K (.ref C) (.ref P)=some false)
   (e1:PySem.W.findIn K (.ref C) "__getattribute__" = some (some (.builtin "BaseException.__getattribute__")))
   (e2:PySem.W.findIn K (.ref C) "__getattr__" = some none)
   (e3:PySem.W.findIn K (.ref C) "__class__" = some (some (.builtin "object.__class__")))
   (e4:PySem.W.specialIn K (.builtin "object.__class__") "__get__" = some (some (.builtin "getset_descriptor.__get__")))
   (e5:PySem.W.takesIn K (.builtin "object.__class__")=some true)
   (e6:PySem.W.mroIn K C (.type "object")=some true)
   (e7:PySem.W.mroIn K C (.type "BaseException")=some true) (c:b6 K r):b6 K ("NoLoop" :: r)
theorem b6.get {K:WL}:∀ {l:WU} {x:Str},b6 K l->x∈l->ClsAt K x
 | _,_,.nil,h=>by cases h
 | _,_,.cons a b v l1 l2 n r,h=>by
  rcases Zt.mp h with rfl|h
  ·exact ⟨_,_,_,_,_,a,b,QS,v,⟨_,l1,l2⟩,fun z=>absurd z n⟩
  ·exact b6.get r h
 | _,_,.consN a b v l1 l2 n r,h=>by
  rcases Zt.mp h with rfl|h
  ·exact ⟨_,_,_,_,_,a,b,QS,v,⟨_,l1,l2⟩,fun _ P z=>by rw [n] at z; cases z⟩
  ·exact b6.get r h
 | _,_,.consP a b v l1 l2 n p e1 e2 e3 e4 e5 e6 e7 r,h=>by
  rcases Zt.mp h with rfl|h
  ·exact ⟨_,_,_,_,_,a,b,QS,v,⟨_,l1,l2⟩,fun _ P z=>by rw [n] at z; cases z; exact ⟨⟨e1,e2,e3,e4,e5,e6,e7,by obtain ⟨cd,q,_⟩:=Option.bind_eq_some_iff.mp e6; rw [q]; rfl⟩,p⟩⟩
  ·exact b6.get r h
noncomputable def d_ (fns:W4) (vals:List (Str × D)) (cls:WU):List (Str × GE):=(fns.map fun p=>(p.1,.fn))++(vals.map fun p=>(p.1,.val p.2))++cls.map fun x=>(x,.cls)
theorem l7 {α β γ:Type} {f:Str × α->Str × β} (hf:∀ p,(f p).1=p.1) {g:Str × α->γ}:∀ {l:List (Str × α)} {x:Str} {b:β},(l.map f).lookup x=some b->∃ p∈l,p.1=x/\(f p).2=b/\l.lookup x=some p.2
 | [],_,_,h=>by simp at h
 | p::r,x,b,h=>by
  have e:f p=(p.1,(f p).2):=by rw [<- hf p]
  rw [ZC,e,Z8] at h
  obtain ⟨y,a⟩:=p
  cases q:x==y with
  | true =>
   simp only [q] at h
   have e:x=y:=by simpa using q
   subst e
   exact ⟨(x,a),Zl,rfl,by simpa using h,by rw [Z8,q]⟩
  | false =>
   simp only [q] at h
   obtain ⟨p,h1,h2,h3,h4⟩:=l7 hf (g:=g) h
   exact ⟨p,Zm _ h1,h2,h3,by rw [Z8,q]; exact h4⟩
theorem mq {β:Type}:∀ {l m:List (Str × β)} {x:Str},(l++m).lookup x=(match l.lookup x with|some b=>some b|none=>m.lookup x)
 | [],m,x=>by simp
 | (y,a)::r,m,x=>by
  rw [XN,Z8,Z8]
  cases x==y with
  | true=>rfl
  | false=>exact mq
theorem iK {α:Type}:∀ {l:List (Str × α)} {x:Str} {a:α},l.lookup x=some a->(x,a)∈l
 | [],_,_,h=>by simp at h
 | (y,b)::r,x,a,h=>by
  rw [Z8] at h
  cases q:x==y with
  | true =>
   rw [q] at h
   have e:x=y:=by simpa using q
   subst e
   have e:b=a:=by simpa using h
   subst e
   exact Zl
  | false=>rw [q] at h; exact Zm _ (iK h)
theorem vD {K:WL} {h:Heap} {mg:WR} {fns:W4} {vals:List (Str × D)} {cls:WU} (X:K.In h) (G:h.Ns mainGlobals mg) (hd:dH K fns) (hv:cE K vals) (hc:∀ x∈cls,ClsAt K x)
  (hb:∀ x∈d9,(d_ fns vals cls).lookup x=none->PySem.W.nsIn K mainGlobals x=some none):Txt K mg (d_ fns vals cls) fns where
 fn:=fun x hx=>by
  unfold d_ at hx
  rw [mq,mq] at hx
  cases q:(fns.map fun p=>(p.1,GE.fn)).lookup x with
  | some b =>
   obtain ⟨p,h1,h2,_,h4⟩:=l7 (g:=fun _=>()) (f:=fun p=>(p.1,GE.fn)) (fun _=>rfl) q
   obtain ⟨y,st⟩:=p
   have h2:y=x:=h2
   subst h2
   obtain ⟨f,fd,a,F⟩:=hd.get h1
   exact ⟨st,f,fd,h4,Wz X G a,F⟩
  | none =>
   rw [q] at hx
   cases q2:(vals.map fun p=>(p.1,GE.val p.2)).lookup x with
   | some b =>
    rw [q2] at hx
    obtain ⟨p,h1,h2,h3,_⟩:=l7 (g:=fun _=>()) (f:=fun p=>(p.1,GE.val p.2)) (fun _=>rfl) q2
    have hx:b=.fn:=by simpa using hx
    rw [hx] at h3; cases h3
   | none =>
    rw [q2] at hx
    have hm:=iK hx
    obtain ⟨p,_,e⟩:=Zy.mp hm; cases e
 blt:=fun x hx hn=>PySem.W.mg_none_of X G (hb x hx hn)
 val:=fun x d hx=>by
  have hm:=iK hx
  unfold d_ at hm
  rcases ZE.mp hm with hm|hm
  ·rcases ZE.mp hm with hm|hm
   ·obtain ⟨p,hp,e⟩:=Zy.mp hm; cases e
   ·obtain ⟨p,hp,e⟩:=Zy.mp hm
    cases e
    obtain ⟨u,v,a,r,q⟩:=hv.get hp
    exact ⟨u,v,Wz X G a,r,q⟩
  ·obtain ⟨p,_,e⟩:=Zy.mp hm; cases e
 cls:=fun x hx=>by
  have hm:=iK hx
  unfold d_ at hm
  have hx:x∈cls:=by
   rcases ZE.mp hm with hm|hm
   ·rcases ZE.mp hm with hm|hm
    ·obtain ⟨p,_,e⟩:=Zy.mp hm; cases e
    ·obtain ⟨p,_,e⟩:=Zy.mp hm; cases e
   ·obtain ⟨p,hp,e⟩:=Zy.mp hm; cases e; exact hp
  exact ⟨hc x hx,fun C a=>Wz X G a⟩
theorem Gp {K:WL} {H:Hp} {a:Addr} {ns:WJ} (hO:iA H) (hS:SqL K H a (ns.map V.int)):ao ⟨K⟩ [] H []/\az ⟨K⟩ [] H [.fro (ns.map .int)] [.ref a]:=by
 refine ⟨⟨rfl,QH,fun l c h=>by simp at h⟩,.cons ?_ .nil⟩
 have hp:az ⟨K⟩ [] H (ns.map D.int) (ns.map V.int):=gg ns
 have hf:Fro K H a (ns.map V.int):=by
  rcases hS with (h|⟨o,h⟩)|h
  ·rcases hO a with z|⟨o,xs,z⟩
   ·rw [h] at z; cases z
   ·rw [h] at z; cases z
  ·exact .inl ⟨o,h⟩
  ·exact .inr fun H=>.inr h
 exact .fro hf (by simp) fun i d v e1 e2=>by
  obtain ⟨y,e,f⟩:=Paired.get hp e1
  rw [e2] at e; cases e; exact f
theorem Ho {fns:W4} {gt:List (Str × GE)} {Pd:Prg} (hP:fns.map (fun p=>(p.1,trF gt p.2))=Pd.map fun p=>(p.1,some p.2)):∀ x st,fns.lookup x=some st->∃ F,trF gt st=some F/\Pd.lookup x=some F:=by
 have all:∀ (fns:W4) (Pd:Prg),(fns.map (fun p=>(p.1,trF gt p.2))=Pd.map fun p=>(p.1,some p.2))->∀ x st,fns.lookup x=some st->∃ F,trF gt st=some F/\Pd.lookup x=some F:=by
  intro fns
  induction fns with
  | nil=>intro Pd _ x st h; simp at h
  | cons p r ih =>
   intro Pd hP x st h
   cases Pd with
   | nil=>simp at hP
   | cons F Pd =>
    obtain ⟨y,st0⟩:=p
    obtain ⟨y2,F⟩:=F
    rw [ZC,ZC] at hP
    injection hP with e1 e2
    have e1a:y=y2:=Xn Prod.fst e1
    have e1b:trF gt st0=some F:=Xn Prod.snd e1
    subst e1a
    rw [Z8] at h
    rw [Z8]
    cases q:x==y with
    | true =>
     rw [q] at h
     have h:st0=st:=by simpa using h
     subst h
     exact ⟨F,e1b,rfl⟩
    | false=>rw [q] at h; exact ih Pd e2 x st h
 exact all fns Pd hP
theorem B6 {l:PySem.W.OpenLaw} {q:WP} {loose:WU} {XP:(Str->Option Value)->Heap->Prop} {YP:World->Heap->Prop} {d:DefRec} {K:Params->PySem.W.Frag} {fns:W4} {vals:List (Str × D)} {cls:WU} {Pd:Prg} {sub:Sub} {n:Nat} {st:Stmt} {x:Str}
  (hn:l.most=some 63) (hdf:d.params.defaults=[]) (hr:bW n callerA) (hY:∀ (w:WS) (h:Heap),YP w h->(K w.params).In h)
  (hP:fns.map (fun p=>(p.1,trF (d_ fns vals cls) p.2))=Pd.map fun p=>(p.1,some p.2)) (hL:fns.lookup d.name=some st) (hx:argNames (dg st)=[x])
  (hT:∀ w:World,∀ h:Heap,(K w.params).In h->dH (K w.params) fns/\cE (K w.params) vals/\b6 (K w.params) cls/\∀ x∈d9,(d_ fns vals cls).lookup x=none->PySem.W.nsIn (K w.params) mainGlobals x=some none)
  (hmain:∀ ns:List Int,ns.length<=63->∃ S',ah sub Pd n d.name [.fro (ns.map .int)] []=.ok (.bl true) S') :
  PySem.W.WalkO q loose XP YP l.row.toRowW d [] (fun f vs=>PySem.call f vs):=by
 have hP':=Ho hP
 refine L2.uT (n:=63) (k:=n) (x:=x) (CX:=fun w=>CXe l.prog w) (sp:=fun w=>spF ⟨K w.params⟩ (fun _=>True) (EWx (K w.params)) (ah sub Pd n d.name) 1) hn (by decide) hdf hr hY (fun w mg fa h KX G hmg=>?_) (fun w H a ns hl hO hS=>?_) fun _ _ _ _ _ ⟨_,_,_,_,_,_,_,_,_,_,_,_,z⟩=>z
 ·obtain ⟨h1,h2,h4,h3⟩:=hT w h KX
  have T:=vD KX G h1 h2 (fun x hx=>h4.get hx) h3
  obtain ⟨f,fd,a,F⟩:=h1.get (iK hL)
  have e:=hmg.symm.trans (Wz KX G a)
  cases e
  refine ⟨fd,fun s u=>?_,fun base kb nb=>?_⟩
  ·obtain ⟨F2,hF2,_⟩:=hP' d.name st hL
   obtain ⟨oc,od,kV,doc,pm,an,cdv,ct,osl,rfl,lk,hcd⟩:=F.ex
   cases st with
   | FunctionDef x1 a1 body1 e1 e2 e3 sc1 e4 e5 e6 =>
    have hF2:(if c7 a1 sc1=true then (cN (trS depth depth (fH (d_ fns vals cls) a1 sc1)) body1).map fun b=>(⟨(argNames a1).length,(namesOf a1 sc1).length,b⟩:Fn) else none)=some F2:=hF2
    by_cases hs1:c7 a1 sc1=true
    ·obtain ⟨SC1,hpl1⟩:=mF hs1
     have nd1:(argNames a1).Nodup:=by rw [<- SC1.pre]; exact SC1.nd.sublist (WA _ _)
     have hx:argNames a1=[x]:=hx
     have:=pN (x:=d.name) (qual:=d.name) (body:=body1) (sc:=sc1) (kV:=kV) (doc:=doc) (pm:=pm) (cdv:=cdv) (ct:=ct) (an:=an) hpl1 nd1 (us:=[u]) (by rw [hx]; rfl)
     rw [hx] at this
     exact .of_eq this
    ·rw [Ze hs1] at hF2; cases hF2
   | _=>cases hF2
  ·have T':=vD kb nb h1 h2 (fun x hx=>h4.get hx) h3
   have:=Gs (sub:=sub) (P:=l.prog) (w:=w) (base:=base) T' (W:=fun _=>True) (fun _=>trivial) hP' n d.name st fa fd hL F
   rw [hx] at this
   exact this
 ·obtain ⟨hs,rs⟩:=Gp hO hS
  obtain ⟨S',hm⟩:=hmain ns hl
  refine ⟨rfl,XF,trivial,funext fun _=>funext fun _=>funext fun _=>propext ⟨fun z=>z.elim,fun z=>(ewF z).elim⟩,[],[],[.fro (ns.map .int)],hs,rs,?_⟩
  rw [hm]
  intro ι' H' _ _ v r
  cases r
  rfl
end EV

namespace EV
open PySem
variable {α β:Type}
noncomputable def Res.bind (r:Res α) (f:α->aa->Res β):Res β:=match r with
 | .ok a S=>f a S
 | .exc c S=>.exc c S
 | .bad=>.bad
@[simp] theorem Res.aj (a:α) (S:aa) (f:α->aa->Res β):(Res.ok a S).bind f=f a S:=id rfl
@[simp] theorem Res.cJ (c:Str) (S:aa) (f:α->aa->Res β):(Res.exc c S:Res α).bind f=.exc c S:=id rfl
@[simp] theorem Res.aZ (f:α->aa->Res β):(Res.bad:Res α).bind f=.bad:=id rfl
theorem ay (m:M α) (f:α->M β) (S:aa):(m>>=f) S=(m S).bind fun a S'=>f a S':=by
 rw [di]; cases m S <;> rfl
@[simp] theorem Ir (a:α) (S:aa):(pure a:M α) S=.ok a S:=id rfl
@[simp] theorem h_ (b:Bool) (m:M α) (S:aa):guard b m S=if b=true then m S else .bad:=by cases b <;> rfl
@[simp] theorem cW (a:α) (S:aa):opt (some a) S=.ok a S:=id rfl
@[simp] theorem l6 (c:Cell) (S:aa):alloc c S=.ok (.loc S.length) (S++[c]):=id rfl
theorem AB (m:M α) (S:aa):quiet m S=match m S with|.ok a S'=>.ok a S'|_=>.bad:=rfl
theorem dQ {m:M α} {S S':aa} {a:α} (h:m S=.ok a S'):quiet m S=.ok a S':=by rw [AB,h]
section
variable (sub:Sub) (cf:Ye) (σ:Sg) (S:aa)
@[simp] theorem HU (i:Nat):ev sub cf (.v i) σ S=br σ i S:=id rfl
@[simp] theorem Ig (o:Op2) (a b:E):ev sub cf (.bin o a b) σ S=(ev sub cf a σ S).bind fun x S1=>(ev sub cf b σ S1).bind fun y S2=>opD o x y S2:=by
 show (ev sub cf a σ>>=fun x=>ev sub cf b σ>>=fun y=>opD o x y) S=_
 simp only [ay]
@[simp] theorem qc (o:Cm) (a b:E):ev sub cf (.cmp o a b) σ S=(ev sub cf a σ S).bind fun x S1=>(ev sub cf b σ S1).bind fun y S2=>cmD o x y S2:=by
 show (ev sub cf a σ>>=fun x=>ev sub cf b σ>>=fun y=>cmD o x y) S=_
 simp only [ay]
@[simp] theorem Bt (o o':Cm) (a b c:E):ev sub cf (.chn o o' a b c) σ S=(ev sub cf a σ S).bind fun x S1=>(ev sub cf b σ S1).bind fun y S2=>(cmD o x y S2).bind fun r S3=>match r with
  | .bl true=>(ev sub cf c σ S3).bind fun z S4=>cmD o' y z S4
  | .bl false=>.ok (.bl false) S3
  | _=>.bad:=by
 show (ev sub cf a σ>>=fun x=>ev sub cf b σ>>=fun y=>cmD o x y>>=fun r=>match r with|.bl true=>ev sub cf c σ>>=fun z=>cmD o' y z|.bl false=>pure (D.bl false)|_=>bad) S=_
 simp only [ay]
 congr 1; funext x S1; congr 1; funext y S2; congr 1; funext r S3
 cases r <;> first|rfl|(rename_i b; cases b <;> simp [ay])
@[simp] theorem EC (a b:E):ev sub cf (.and a b) σ S=(ev sub cf a σ S).bind fun r S1=>match r with|.bl true=>ev sub cf b σ S1|.bl false=>.ok (.bl false) S1|_=>.bad:=by
 show (ev sub cf a σ>>=fun r=>match r with|.bl true=>ev sub cf b σ|.bl false=>pure (D.bl false)|_=>bad) S=_
 rw [ay]; congr 1; funext r S1
 cases r <;> first|rfl|(rename_i b; cases b <;> rfl)
@[simp] theorem Br (a:E):ev sub cf (.neg a) σ S=(ev sub cf a σ S).bind fun r S1=>match r with|.int i=>.ok (.int (-i)) S1|_=>.bad:=by
 show (ev sub cf a σ>>=fun r=>match r with|.int i=>pure (D.int (-i))|_=>bad) S=_
 rw [ay]; congr 1; funext r S1; cases r <;> rfl
@[simp] theorem tF (c a b:E):ev sub cf (.ite c a b) σ S=(evT sub cf c σ S).bind fun k S1=>if k=true then ev sub cf a σ S1 else ev sub cf b σ S1:=by
 show (evT sub cf c σ>>=fun k=>if k=true then ev sub cf a σ else ev sub cf b σ) S=_
 rw [ay]; congr 1; funext k S1; cases k <;> rfl
@[simp] theorem IQ:evs sub cf .nl σ S=.ok [] S:=id rfl
@[simp] theorem ur (a r:E):evs sub cf (.cs a r) σ S=(ev sub cf a σ S).bind fun x S1=>(evs sub cf r σ S1).bind fun xs S2=>.ok (x::xs) S2:=by
 show (ev sub cf a σ>>=fun x=>evs sub cf r σ>>=fun xs=>pure (x::xs)) S=_
 simp only [ay]; rfl
@[simp] theorem Cz (es:E):ev sub cf (.tup es) σ S=(evs sub cf es σ S).bind fun ds S1=>if fits ds.length=true then .ok (.tup ds) S1 else .bad:=by
 show (evs sub cf es σ>>=fun ds=>guard (fits ds.length) (pure (D.tup ds))) S=_
 rw [ay]; simp only [h_,Ir]
@[simp] theorem Df (es:E):ev sub cf (.lst es) σ S=(evs sub cf es σ S).bind fun ds S1=>if fits ds.length=true then .ok (.loc S1.length) (S1++[.lst ds]) else .bad:=by
 show (evs sub cf es σ>>=fun ds=>guard (fits ds.length) (alloc (.lst ds))) S=_
 rw [ay]; simp only [h_,l6]
@[simp] theorem FT (a i:E):ev sub cf (.ix a i) σ S=(ev sub cf a σ S).bind fun x S1=>(ev sub cf i σ S1).bind fun y S2=>ixD x y S2:=by
 show (ev sub cf a σ>>=fun x=>ev sub cf i σ>>=fun y=>ixD x y) S=_
 simp only [ay]
noncomputable def iR (e:E) (S:aa):Res (Option Int):=if e.bq=true then .ok none S else (ev sub cf e σ S).bind fun d S1=>iZ d S1
@[simp] theorem CA (a lo hi:E):ev sub cf (.sl a lo hi) σ S=(ev sub cf a σ S).bind fun x S1=>(iR sub cf σ lo S1).bind fun l S2=>(iR sub cf σ hi S2).bind fun h S3=>slD x l h S3:=by
 show (ev sub cf a σ>>=fun x=>(if lo.bq=true then pure none else ev sub cf lo σ>>=iZ)>>=fun l=>(if hi.bq=true then pure none else ev sub cf hi σ>>=iZ)>>=fun h=>slD x l h) S=_
 simp only [ay]
 congr 1; funext x S1
 unfold iR
 cases lo.bq <;> cases hi.bq <;> simp [ay]
@[simp] theorem DY (f:Str) (es:E):ev sub cf (.call f es) σ S=(evs sub cf es σ S).bind fun ds S1=>cf f ds S1:=by
 show (evs sub cf es σ>>=fun ds=>cf f ds) S=_
 rw [ay]
@[simp] theorem zu (b:Bi) (es:E):ev sub cf (.bi b es) σ S=(evs sub cf es σ S).bind fun ds S1=>biD sub b ds S1:=by
 show (evs sub cf es σ>>=fun ds=>biD sub b ds) S=_
 rw [ay]
@[simp] theorem vF (m:Me) (o es:E):ev sub cf (.me m o es) σ S=(ev sub cf o σ S).bind fun x S1=>if x.dD S1=true then (evs sub cf es σ S1).bind fun ds S2=>meD m x ds S2 else .bad:=by
 show (ev sub cf o σ>>=fun x=>jN x (evs sub cf es σ>>=fun ds=>meD m x ds)) S=_
 rw [ay]; congr 1; funext x S1
 show guard (x.dD S1) (evs sub cf es σ>>=fun ds=>meD m x ds) S1=_
 rw [h_,ay]
theorem dB (k:Nat) (el:E) (t:Tg) (it tt:E):ev sub cf (.comp k el t it tt) σ S=(evI sub cf it σ S).bind fun s S1=>(quiet (bw s (fun d=>aS t d (σ++List.replicate k none)>>=fun σ'=>(if tt.bq=true then pure true else evT sub cf tt σ')>>=fun b=>if b=true then ev sub cf el σ'>>=fun y=>pure (some y) else pure none) s.its) S1).bind fun ys S2=>if fits ys.length=true then .ok (.loc S2.length) (S2++[.lst ys]) else .bad:=by
 show (evI sub cf it σ>>=fun s=>quiet (bw s (fun d=>aS t d (σ++List.replicate k none)>>=fun σ'=>(if tt.bq=true then pure true else evT sub cf tt σ')>>=fun b=>if b=true then ev sub cf el σ'>>=fun y=>pure (some y) else pure none) s.its)>>=fun ys=>guard (fits ys.length) (alloc (.lst ys))) S=_
 simp only [ay,h_,l6]
@[simp] theorem qJ (a b:E):evT sub cf (.and a b) σ S=(evT sub cf a σ S).bind fun k S1=>if k=true then evT sub cf b σ S1 else .ok false S1:=by
 show (evT sub cf a σ>>=fun k=>if k=true then evT sub cf b σ else pure false) S=_
 rw [ay]; congr 1; funext k S1; cases k <;> rfl
@[simp] theorem qR (a b:E):evT sub cf (.or a b) σ S=(evT sub cf a σ S).bind fun k S1=>if k=true then .ok true S1 else evT sub cf b σ S1:=by
 show (evT sub cf a σ>>=fun k=>if k=true then pure true else evT sub cf b σ) S=_
 rw [ay]; congr 1; funext k S1; cases k <;> rfl
@[simp] theorem GW (a:E):evT sub cf (.not a) σ S=(evT sub cf a σ S).bind fun k S1=>.ok (!k) S1:=by
 show (evT sub cf a σ>>=fun k=>pure (!k)) S=_
 rw [ay]; rfl
@[simp] theorem Cj (o:Cm) (a b:E):evT sub cf (.cmp o a b) σ S=(ev sub cf a σ S).bind fun x S1=>(ev sub cf b σ S1).bind fun y S2=>(cmD o x y S2).bind fun r S3=>truth r S3:=by
 show (ev sub cf a σ>>=fun x=>ev sub cf b σ>>=fun y=>cmD o x y>>=fun r=>truth r) S=_
 simp only [ay]
@[simp] theorem IV (o o':Cm) (a b c:E):evT sub cf (.chn o o' a b c) σ S=(ev sub cf a σ S).bind fun x S1=>(ev sub cf b σ S1).bind fun y S2=>(cmD o x y S2).bind fun r S3=>(truth r S3).bind fun k S4=>if k=true then (ev sub cf c σ S4).bind fun z S5=>(cmD o' y z S5).bind fun r S6=>truth r S6 else .ok false S4:=by
 show (ev sub cf a σ>>=fun x=>ev sub cf b σ>>=fun y=>cmD o x y>>=fun r=>truth r>>=fun k=>if k=true then ev sub cf c σ>>=fun z=>cmD o' y z>>=fun r=>truth r else pure false) S=_
 simp only [ay]
 congr 1; funext x S1; congr 1; funext y S2; congr 1; funext r S3; congr 1; funext k S4
 cases k <;> simp [ay]
@[simp] theorem AO (a:E):evT sub cf (.notN a) σ S=(ev sub cf a σ S).bind fun r S1=>.ok (!decide (r=.non)) S1:=by
 show (ev sub cf a σ>>=fun r=>pure (!decide (r=.non))) S=_
 rw [ay]; rfl
@[simp] theorem DK (f:Str) (es:E):evT sub cf (.call f es) σ S=(ev sub cf (.call f es) σ S).bind fun d S1=>truth d S1:=by
 show (ev sub cf (.call f es) σ>>=truth) S=_
 rw [ay]
@[simp] theorem AS (b:Bi) (es:E):evT sub cf (.bi b es) σ S=(ev sub cf (.bi b es) σ S).bind fun d S1=>truth d S1:=by
 show (ev sub cf (.bi b es) σ>>=truth) S=_
 rw [ay]
@[simp] theorem Gy (a:E):evI sub cf (.iSeq a) σ S=(ev sub cf a σ S).bind fun d S1=>srcOf d S1:=by
 show (ev sub cf a σ>>=srcOf) S=_
 rw [ay]
@[simp] theorem oh (a:E):evI sub cf (.iEnum a) σ S=(ev sub cf a σ S).bind fun d S1=>(srcOf d S1).bind fun s S2=>.ok { s with its:=num 0 s.its } S2:=by
 show (ev sub cf a σ>>=fun d=>srcOf d>>=fun s=>pure { s with its:=num 0 s.its }) S=_
 simp only [ay]; rfl
@[simp] theorem HJ (es:E):evI sub cf (.iRng es) σ S=(evs sub cf es σ S).bind fun ds S1=>(opt (bJ ds) S1).bind fun is S2=>.ok ⟨is.map .int,none,[]⟩ S2:=by
 show (evs sub cf es σ>>=fun ds=>opt (bJ ds)>>=fun is=>pure (⟨is.map .int,none,[]⟩:Src)) S=_
 simp only [ay]; rfl
@[simp] theorem DF (e:E):exec sub cf (.ret e) σ S=(ev sub cf e σ S).bind fun d S1=>.ok (.rt d) S1:=by
 show (ev sub cf e σ>>=fun d=>pure (Fl.rt d)) S=_
 rw [ay]; rfl
@[simp] theorem vh (t:Tg) (e:E):exec sub cf (.set t e) σ S=(ev sub cf e σ S).bind fun d S1=>(aS t d σ S1).bind fun σ' S2=>.ok (.nx σ') S2:=by
 show (ev sub cf e σ>>=fun d=>aS t d σ>>=fun σ'=>pure (Fl.nx σ')) S=_
 simp only [ay]; rfl
@[simp] theorem pQ (e:E):exec sub cf (.ex e) σ S=(ev sub cf e σ S).bind fun _ S1=>.ok (.nx σ) S1:=by
 show (ev sub cf e σ>>=fun _=>pure (Fl.nx σ)) S=_
 rw [ay]; rfl
@[simp] theorem uZ (c:E) (a b:EV.S):exec sub cf (.ite c a b) σ S=(evT sub cf c σ S).bind fun k S1=>if k=true then exec sub cf a σ S1 else exec sub cf b σ S1:=by
 show (evT sub cf c σ>>=fun k=>if k=true then exec sub cf a σ else exec sub cf b σ) S=_
 rw [ay]; congr 1; funext k S1; cases k <;> rfl
theorem EA (t:Tg) (it:E) (b:EV.S):exec sub cf (.forS t it b) σ S=quiet (evI sub cf it σ>>=fun s=>forL s (fun d σ=>aS t d σ>>=fun σ'=>exec sub cf b σ') s.its σ) S:=rfl
noncomputable def jE (b:EV.S) (r:Res Fl):Res Fl:=r.bind fun f S1=>match f with|.nx σ'=>exec sub cf b σ' S1|f=>.ok f S1
@[simp] theorem Ga (b:EV.S) (σ':Sg) (S1:aa):jE sub cf b (.ok (.nx σ') S1)=exec sub cf b σ' S1:=id rfl
@[simp] theorem F9 (b:EV.S) (d:D) (S1:aa):jE sub cf b (.ok (.rt d) S1)=.ok (.rt d) S1:=id rfl
@[simp] theorem vL (a b:EV.S):exec sub cf (.seq a b) σ S=jE sub cf b (exec sub cf a σ S):=by
 show (exec sub cf a σ>>=fun f=>match f with|.nx σ'=>exec sub cf b σ'|f=>pure f) S=_
 rw [ay]; unfold jE; congr 1; funext f S1; cases f <;> rfl
end
theorem E1 {sub:Sub} {cf:Ye} {σ σ':Sg} {S S':aa} {a r:EV.S} (h:exec sub cf a σ S=.ok (.nx σ') S'):exec sub cf (.seq a r) σ S=exec sub cf r σ' S':=by
 rw [vL,h,Ga]
theorem Ae (σ:Sg) (i:Nat) (S:aa):br σ i S=match σ[i]? with|some (some d)=>.ok d S|_=>.bad:=by
 unfold br
 cases σ[i]? with
 | none=>rfl
 | some x=>cases x <;> rfl
@[simp] theorem Jc (d:D) (σ:Sg) (S:aa):br (some d::σ) 0 S=.ok d S:=id rfl
@[simp] theorem Jd (x:Option D) (σ:Sg) (i:Nat) (S:aa):br (x::σ) (i+1) S=br σ i S:=id rfl
@[simp] theorem gD (i:Nat) (d:D) (σ:Sg) (S:aa):aS (.one i) d σ S=.ok (σ.set i (some d)) S:=id rfl
@[simp] theorem mK (is:W7) (ds:Yc) (σ:Sg) (S:aa):aS (.many is) (.tup ds) σ S=if ds.length=is.length then .ok (cz is ds σ) S else .bad:=by
 show guard (decide (ds.length=is.length)) (pure (cz is ds σ)) S=_
 simp
@[simp] theorem jR (i j:Int) (S:aa):opD .add (.int i) (.int j) S=.ok (.int (i+j)) S:=id rfl
@[simp] theorem f_ (i j:Int) (S:aa):opD .sub (.int i) (.int j) S=.ok (.int (i - j)) S:=id rfl
@[simp] theorem Ci (i j:Int) (S:aa):opD .mul (.int i) (.int j) S=if (small i||small j)=true then .ok (.int (i * j)) S else .bad:=by
 show guard _ _ S=_
 simp
@[simp] theorem GK (i j:Int) (S:aa):opD .fdiv (.int i) (.int j) S=if (decide (0 < j)&&decide (j < 1073741824))=true then .ok (.int (i / j)) S else .bad:=by
 show guard _ _ S=_
 simp
theorem I_ (i j:Int) (S:aa):opD .pow (.int i) (.int j) S=if (decide (0<=j)&&decide (j<=1000)&&decide (i.natAbs < 2 ^ 64))=true then .ok (.int (i ^ j.toNat)) S else .bad:=by
 show guard _ _ S=_
 simp
@[simp] theorem CH (i j:Int) (S:aa):opD .mod (.int i) (.int j) S=if 0 < j then .ok (.int (i % j)) S else .bad:=by
 show guard _ _ S=_
 simp
@[simp] theorem vG {n:Nat} (h:n<=1000):fits n=true:=Zj (by unfold aG; omega)
@[simp] theorem lz (i j:Int) (S:aa):cmD .lt (.int i) (.int j) S=.ok (.bl (decide (i < j))) S:=id rfl
@[simp] theorem lE (i j:Int) (S:aa):cmD .le (.int i) (.int j) S=.ok (.bl (decide (i<=j))) S:=id rfl
@[simp] theorem gB (i j:Int) (S:aa):cmD .gt (.int i) (.int j) S=.ok (.bl (decide (j < i))) S:=id rfl
@[simp] theorem A5 (i j:Int) (S:aa):cmD .ge (.int i) (.int j) S=.ok (.bl (decide (j<=i))) S:=id rfl
theorem uh (x y:D) (S:aa):cmD .eq x y S=match eqD deep S x y with|some k=>.ok (.bl k) S|none=>.bad:=by
 show (eqM x y>>=fun b=>pure (D.bl b)) S=_
 rw [ay]
 unfold eqM
 cases eqD deep S x y <;> rfl
theorem yy (x y:D) (S:aa):cmD .ne x y S=if eW x y=true then (match eqD deep S x y with|some k=>.ok (.bl (!k)) S|none=>.bad) else .bad:=by
 show guard (eW x y) (eqM x y>>=fun b=>pure (D.bl (!b))) S=_
 rw [h_,ay]
 unfold eqM
 cases eqD deep S x y <;> rfl
@[simp] theorem dw (i j:Int) (S:aa):cmD .eq (.int i) (.int j) S=.ok (.bl (i==j)) S:=id rfl
@[simp] theorem nH (i j:Str) (S:aa):cmD .eq (.str i) (.str j) S=.ok (.bl (i==j)) S:=id rfl
@[simp] theorem n_ (i j:Int) (S:aa):cmD .ne (.int i) (.int j) S=.ok (.bl (!(i==j))) S:=id rfl
theorem c6 {l:Nat} {ds:Yc} {S:aa} (h:S[l]?=some (.lst ds)):items (.loc l) S=.ok ds S:=by
 show (match listAt S l with|some ds=>Res.ok ds S|none=>.bad)=_
 unfold listAt; rw [h]
theorem nk (a:D) (j:Int) (S:aa):ixD a (.int j) S=(items a S).bind fun xs S1=>opt (atI xs j) S1:=by
 show (items a>>=fun xs=>opt (atI xs j)) S=_
 rw [ay]
@[simp] theorem Eh (xs:Yc) (j:Int) (S:aa):ixD (.tup xs) (.int j) S=opt (atI xs j) S:=by rw [nk]; rfl
@[simp] theorem FF (xs:Yc) (j:Int) (S:aa):ixD (.fro xs) (.int j) S=opt (atI xs j) S:=by rw [nk]; rfl
theorem FG {l:Nat} {xs:Yc} {j:Int} {S:aa} (h:S[l]?=some (.lst xs)):ixD (.loc l) (.int j) S=opt (atI xs j) S:=by rw [nk,c6 h]; rfl
theorem nR {xs:Yc} {j:Nat}:atI xs (j:Int)=xs[j]?:=by
 unfold atI ixN
 rw [Zd (by omega)]
 by_cases h:j < xs.length
 ·rw [Zd (by omega)]; simp
 ·rw [Ze (by omega)]; rw [Xz (by omega)]; rfl
@[simp] theorem gf (xs:Yc):atI xs 0=xs[0]?:=nR (j:=0)
@[simp] theorem mT (sub:Sub) (d:D) (S:aa):biD sub .len [d] S=(items d S).bind fun ds S1=>.ok (.int ds.length) S1:=by
 show (items d>>=fun ds=>pure (D.int ds.length)) S=_
 rw [ay]; rfl
@[simp] theorem zh (sub:Sub) (t:Ty) (d:D) (S:aa):biD sub (.inst t) [d] S=match gb sub S d t with|some k=>.ok (.bl k) S|none=>.bad:=id rfl
@[simp] theorem DP (sub:Sub) (d:D) (S:aa):biD sub .tuple [d] S=(items d S).bind fun ds S1=>.ok (.tup ds) S1:=by
 show (items d>>=fun ds=>pure (D.tup ds)) S=_
 rw [ay]; rfl
theorem DQ (sub:Sub) (d:D) (S:aa):biD sub .all [d] S=(items d S).bind fun ds S1=>(opt (dP ds) S1).bind fun bs S2=>.ok (.bl (bs.all id)) S2:=by
 show (items d>>=fun ds=>opt (dP ds)>>=fun bs=>pure (D.bl (bs.all id))) S=_
 simp only [ay]; rfl
theorem AM (sub:Sub) (d:D) (S:aa):biD sub .sum [d] S=(items d S).bind fun ds S1=>(opt (allInts ds) S1).bind fun is S2=>.ok (.int is.sum) S2:=by
 show (items d>>=fun ds=>opt (allInts ds)>>=fun is=>pure (D.int is.sum)) S=_
 simp only [ay]; rfl
theorem DT (sub:Sub) (d:D) (S:aa):biD sub .max [d] S=(items d S).bind fun ds S1=>(opt (allInts ds) S1).bind fun is S2=>oF is S2:=by
 show (items d>>=fun ds=>opt (allInts ds)>>=fun is=>oF is) S=_
 simp only [ay]
theorem nW {l:Nat} {ds:Yc} {d:D} {S:aa} (h:S[l]?=some (.lst ds)) (hz:ds.length < aG):meD .append (.loc l) [d] S=.ok .non (S.set l (.lst (ds++[d]))):=by
 show bh l (fun ds=>guard (e_ ds.length) (put l (.lst (ds++[d])))) S=_
 unfold bh
 rw [h]
 simp [e_,hz,put]
theorem lM {l k:Nat} {ds es:Yc} {S:aa} (h:S[l]?=some (.lst ds)) (h2:S[k]?=some (.lst es)) (hz:ds.length+es.length<=aG):meD .extend (.loc l) [.loc k] S=.ok .non (S.set l (.lst (ds++es))):=by
 show bh l (fun ds=>bh k fun es=>guard (fits (ds.length+es.length)) (put l (.lst (ds++es)))) S=_
 unfold bh
 rw [h]
 simp only
 rw [h2]
 simp [fits,hz,put]
@[simp] theorem dZ (S T:aa) (c:Cell):(S++c::T)[S.length]?=some c:=by simp
@[simp] theorem Di (S T:aa) (k:Nat):(S++T)[S.length+k]?=T[k]?:=by
 rw [ZP (by omega)]; congr 1; omega
@[simp] theorem jo (S T:aa) (c d:Cell):(S++c::T).set S.length d=S++d::T:=by simp
@[simp] theorem cD (S T:aa):(S++T).take S.length=S:=by simp
theorem EE {S T:aa} {xs:Yc} {d:D} (h:xs.length<=1000000):meD .append (.loc S.length) [d] (S++.lst xs::T)=.ok .non (S++.lst (xs++[d])::T):=by
 rw [nW (ds:=xs) (dZ S T _) (by unfold aG; omega),jo]
theorem cK {s:Src} {S:aa} (h:s.l=none\/∃ l,s.l=some l/\S[l]?=some (.lst s.raw)):aH s S=.ok () S:=by
 unfold aH
 rcases h with h|⟨l,h,h2⟩
 ·rw [h]; rfl
 ·rw [h]; unfold listAt; simp [h2]
theorem j8 (s:Src) (f:D->Sg->M Fl) (σ:Sg) (S:aa):forL s f [] σ S=(aH s S).bind fun _ S1=>.ok (.nx σ) S1:=by
 show (aH s>>=fun _=>pure (Fl.nx σ)) S=_
 rw [ay]; rfl
theorem jh (s:Src) (f:D->Sg->M Fl) (d:D) (ds:Yc) (σ:Sg) (S:aa):forL s f (d::ds) σ S=(aH s S).bind fun _ S1=>(f d σ S1).bind fun fl S2=>match fl with
  | .nx σ'=>forL s f ds σ' S2|.ct σ'=>forL s f ds σ' S2|.bk σ'=>.ok (.nx σ') S2|.rt d=>.ok (.rt d) S2:=by
 show (aH s>>=fun _=>f d σ>>=fun fl=>match fl with|.nx σ'=>forL s f ds σ'|.ct σ'=>forL s f ds σ'|.bk σ'=>pure (Fl.nx σ')|.rt d=>pure (Fl.rt d)) S=_
 simp only [ay]
 congr 1; funext _ S1; congr 1; funext fl S2; cases fl <;> rfl
theorem jA (s:Src) (f:D->M (Option D)) (S:aa):bw s f [] S=(aH s S).bind fun _ S1=>.ok [] S1:=by
 show (aH s>>=fun _=>pure []) S=_
 rw [ay]; rfl
theorem i9 (s:Src) (f:D->M (Option D)) (d:D) (ds:Yc) (S:aa):bw s f (d::ds) S=(aH s S).bind fun _ S1=>(f d S1).bind fun y S2=>(bw s f ds S2).bind fun ys S3=>.ok (match y with|some y=>y::ys|none=>ys) S3:=by
 show (aH s>>=fun _=>f d>>=fun y=>bw s f ds>>=fun ys=>pure (match y with|some y=>y::ys|none=>ys)) S=_
 simp only [ay]; rfl
theorem nu {s:Src} {f:D->M (Option D)} {g:D->Option D} {S:aa} (hs:aH s S=.ok () S):∀ {its:Yc},(∀ d∈its,f d S=.ok (g d) S)->bw s f its S=.ok (its.filterMap g) S
 | [],_=>by rw [jA,hs]; rfl
 | d::ds,h=>by
  rw [i9,hs]
  simp only [Res.aj]
  rw [h d Zl]
  simp only [Res.aj]
  rw [nu hs fun e he=>h e (Zm _ he)]
  simp only [Res.aj,Xt]
  cases g d <;> rfl
theorem Bf (S S':aa) (d:D):iO S (.ok (.rt d) S')=leave S d S':=rfl
mutual
theorem vV:∀ {d:D} {n m:Nat},n<=m->d.low n=true->d.low m=true
 | .tup ds,n,m,h,q=>iJ h q
 | .fro ds,n,m,h,q=>iJ h q
 | .loc l,n,m,h,q=>Zj (ZN (Zn q) h)
 | .non,_,_,_,_=>rfl
 | .bl _,_,_,_,_=>rfl
 | .int _,_,_,_,_=>rfl
 | .str _,_,_,_,_=>rfl
 | .exn _,_,_,_,_=>rfl
theorem iJ:∀ {ds:Yc} {n m:Nat},n<=m->D.lows n ds=true->D.lows m ds=true
 | [],_,_,_,_=>rfl
 | d::r,n,m,h,q=>by
  rw [D.lows,Zu] at q ⊢
  exact ⟨vV h q.1,iJ h q.2⟩
end
abbrev D.cl (d:D):Prop:=d.low 0=true
theorem b7 {S S':aa} {d:D} (h:d.cl) (ht:S'.take S.length=S):leave S d S'=.ok d S:=by
 unfold leave
 rw [Zd ht,Zd (vV (Xf _) h)]
theorem leave_new {S T:aa} {ds:Yc} {k:Nat} (h:T[k]?=some (.lst ds)) (hc:D.lows 0 ds=true):leave S (.loc (S.length+k)) (S++T)=.ok (.loc S.length) (S++[.lst ds]):=by
 unfold leave
 rw [Zd (by simp)]
 rw [Ze (by show ¬ decide (S.length+k < S.length)=true; simp)]
 simp only
 rw [Di,h]
 simp only
 rw [Zd (show Cell.low S.length (.lst ds)=true from iJ (Xf _) hc)]
theorem oA {n:Nat}:∀ {ds:Yc},D.lows n ds=true ↔ ∀ d∈ds,d.low n=true
 | []=>by simp [D.lows]
 | d::r=>by rw [D.lows,Zu,oA]; simp
theorem GG {n:Nat} (is:WJ):D.lows n (is.map .int)=true:=oA.mpr fun d h=>by
 obtain ⟨i,_,rfl⟩:=Zy.mp h; rfl
theorem kO {α:Type} {n:Nat} {f:α->D} (hf:∀ a,(f a).low n=true) (l:List α):D.lows n (l.map f)=true:=oA.mpr fun d h=>by
 obtain ⟨i,_,rfl⟩:=Zy.mp h; exact hf i
theorem AN (is:List Bool):dP (is.map .bl)=some is:=by
 induction is with
 | nil=>rfl
 | cons i r ih=>simp [dP,ih]
section
variable {sub:Sub} {cf:Ye} {σ:Sg} {S S1:aa} {k i:Nat} {el it tt:E} {s:Src}
theorem HN {g:D->D} {p:D->Bool} (hn:tt.bq=false) (hi:evI sub cf it σ S=.ok s S1) (hs:aH s S1=.ok () S1) (hp:∀ d∈s.its,evT sub cf tt ((σ++List.replicate k none).set i (some d)) S1=.ok (p d) S1)
  (hg:∀ d∈s.its,p d=true->ev sub cf el ((σ++List.replicate k none).set i (some d)) S1=.ok (g d) S1) (hz:s.its.length<=aG) :
  ev sub cf (.comp k el (.one i) it tt) σ S=.ok (.loc S1.length) (S1++[.lst ((s.its.filter p).map g)]):=by
 rw [dB,hi]
 simp only [Res.aj]
 have:=nu (s:=s) (f:=fun d=>aS (.one i) d (σ++List.replicate k none)>>=fun σ'=>(if tt.bq=true then pure true else evT sub cf tt σ')>>=fun b=>if b=true then ev sub cf el σ'>>=fun y=>pure (some y) else pure none) (g:=fun d=>if p d=true then some (g d) else none) (S:=S1) hs (its:=s.its) (fun d hd=>by
  simp only [ay,gD,Res.aj,hn,Zw,ZU]
  rw [hp d hd]
  cases q:p d with
  | false=>simp
  | true=>simp [ay,hg d hd q])
 rw [dQ this]
 have e:s.its.filterMap (fun d=>if p d=true then some (g d) else none)=(s.its.filter p).map g:=by
  induction s.its with
  | nil=>rfl
  | cons a r ih=>cases q:p a <;> simp [q,ih]
 rw [e]
 have hz':((s.its.filter p).map g).length<=aG:=by
  rw [Zb]; exact Z7 (Xr _ _) hz
 simp only [Res.aj]
 rw [Zd (show fits ((s.its.filter p).map g).length=true from Zj hz')]
theorem rC {is:W7} {g:D->D} (hi:evI sub cf it σ S=.ok s S1) (hs:aH s S1=.ok () S1) (hg:∀ d∈s.its,∃ ds,d=.tup ds/\ds.length=is.length/\ev sub cf el (cz is ds (σ++List.replicate k none)) S1=.ok (g d) S1) (hz:s.its.length<=aG) :
  ev sub cf (.comp k el (.many is) it .nl) σ S=.ok (.loc S1.length) (S1++[.lst (s.its.map g)]):=by
 rw [dB,hi]
 simp only [Res.aj]
 have:=nu (s:=s) (f:=fun d=>aS (.many is) d (σ++List.replicate k none)>>=fun σ'=>(if E.bq .nl=true then pure true else evT sub cf .nl σ')>>=fun b=>if b=true then ev sub cf el σ'>>=fun y=>pure (some y) else pure none) (g:=fun d=>some (g d)) (S:=S1) hs (its:=s.its) (fun d hd=>by
  obtain ⟨ds,rfl,hl,hd⟩:=hg d hd
  simp only [ay,mK,hl,XJ,Res.aj]
  show (ev sub cf el (cz is ds (σ++List.replicate k none))>>=fun y=>pure (some y)) S1=_
  rw [ay,hd]; rfl)
 rw [dQ this]
 have e:s.its.filterMap (fun d=>some (g d))=s.its.map g:=by rw [<- List.filterMap_eq_map]; rfl
 rw [e]
 simp [fits,hz]
end
@[simp] theorem Je (ds:Yc) (S:aa):srcOf (.tup ds) S=.ok ⟨ds,none,ds⟩ S:=id rfl
theorem bX {l:Nat} {ds:Yc} {S:aa} (h:S[l]?=some (.lst ds)):srcOf (.loc l) S=.ok ⟨ds,some l,ds⟩ S:=by
 show (items (.loc l)>>=fun ds=>pure (⟨ds,some l,ds⟩:Src)) S=_
 rw [ay,c6 h]; rfl
theorem uz {sub:Sub} {S:aa} {α:Type} (l:List α) (g:α->Bool):biD sub .all [.loc S.length] (S++[.lst (l.map fun a=>.bl (g a))])=.ok (.bl (l.all g)) (S++[.lst (l.map fun a=>.bl (g a))]):=by
 rw [DQ,c6 (ds:=l.map fun a=>D.bl (g a)) (dZ S [] _)]
 simp only [Res.aj]
 rw [show dP (l.map fun a=>D.bl (g a))=some (l.map g) from by rw [<- AN,ZX]; rfl]
 simp [List.all_map]
section
variable {sub:Sub} {cf:Ye} {σ:Sg} {S S1 S2:aa} {t:Tg} {it:E} {b:EV.S} {s:Src} {fl:Fl}
noncomputable def bA (sub:Sub) (cf:Ye) (t:Tg) (b:EV.S):D->Sg->M Fl:=fun d σ=>aS t d σ>>=fun σ'=>exec sub cf b σ'
theorem lI (i:Nat) (b:EV.S) (d:D) (σ:Sg) (S:aa):bA sub cf (.one i) b d σ S=exec sub cf b (σ.set i (some d)) S:=by
 unfold bA; rw [ay]; rfl
theorem FL (is:W7) (b:EV.S) (ds:Yc) (σ:Sg) (S:aa) (h:ds.length=is.length):bA sub cf (.many is) b (.tup ds) σ S=exec sub cf b (cz is ds σ) S:=by
 unfold bA; rw [ay,mK,Zd h]; rfl
theorem dX (hi:evI sub cf it σ S=.ok s S1) (hf:forL s (bA sub cf t b) s.its σ S1=.ok fl S2):exec sub cf (.forS t it b) σ S=.ok fl S2:=by
 rw [EA]
 apply dQ
 rw [ay,hi]
 exact hf
end
section
variable {sub:Sub} {cf:Ye} {s:Src} {i j l:Nat} {e:E} {g:D->D}
noncomputable def fZ (i:Nat) (its:Yc) (σ:Sg):Sg:=match its.getLast? with
 | some d=>σ.set i (some d)
 | none=>σ
@[simp] theorem Jg (i:Nat) (σ:Sg):fZ i [] σ=σ:=id rfl
theorem F_ (i:Nat) (d:D) (its:Yc) (σ:Sg):fZ i (d::its) σ=fZ i its (σ.set i (some d)):=by
 unfold fZ
 rw [List.getLast?_cons]
 cases q:its.getLast? with
 | none=>rfl
 | some e=>simp [Wp]
theorem jq {α:Type} {S:List α} {l:Nat} {c:α} (h:S[l]?=some c):S.set l c=S:=by
 apply QE
 intro k
 rw [List.getElem?_set]
 split
 ·rename_i e; subst e
  split
  ·exact h.symm
  ·rename_i h2; exact absurd (Zg.mp h).1 h2
 ·rfl
theorem get_set {α:Type} {S:List α} {l:Nat} {c d:α} (h:S[l]?=some c):(S.set l d)[l]?=some d:=by
 rw [Xe (Zg.mp h).1]
theorem BN {σ:Sg} {S:aa} {xs:Yc} {d:D} (hj:σ[j]?=some (some (.loc l))) (hS:S[l]?=some (.lst xs)) (he:ev sub cf e σ S=.ok d S) (hz:xs.length < aG) :
  exec sub cf (.ex (.me .append (.v j) (.cs e .nl))) σ S=.ok (.nx σ) (S.set l (.lst (xs++[d]))):=by
 have hv:br σ j S=.ok (.loc l) S:=by rw [Ae,hj]
 have hL:(D.loc l).dD S=true:=by show (match S[l]? with|some (.lst _)=>true|_=>false)=true; rw [hS]
 simp only [pQ,vF,HU,hv,Res.aj,hL,XJ,ur,he,IQ,nW hS hz]
theorem rA {α:Type} {f g:α->D} (hij:i≠j):∀ {ks:List α} {σ:Sg} {S:aa} {xs:Yc},σ[j]?=some (some (.loc l))->S[l]?=some (.lst xs)->(∀ ys,aH s (S.set l (.lst ys))=.ok () (S.set l (.lst ys))) ->
  (∀ a∈ks,∀ ys,ev sub cf e (σ.set i (some (f a))) (S.set l (.lst ys))=.ok (g a) (S.set l (.lst ys)))->xs.length+ks.length<=aG ->
  forL s (bA sub cf (.one i) (.ex (.me .append (.v j) (.cs e .nl)))) (ks.map f) σ S=.ok (.nx (fZ i (ks.map f) σ)) (S.set l (.lst (xs++ks.map g)))
 | [],σ,S,xs,h1,h2,h3,h4,h5=>by
  have:=h3 xs
  rw [jq h2] at this
  rw [X7,j8,this]
  simp [jq h2]
 | d::ks,σ,S,xs,h1,h2,h3,h4,h5=>by
  have hst:=h3 xs
  rw [jq h2] at hst
  rw [ZC,jh,hst]
  simp only [Res.aj,lI]
  have h1':(σ.set i (some (f d)))[j]?=some (some (.loc l)):=by rw [ZW hij]; exact h1
  have hd:=h4 d Zl xs
  rw [jq h2] at hd
  rw [BN h1' h2 hd (by simp at h5; omega)]
  simp only [Res.aj]
  rw [rA hij (xs:=xs++[g d]) h1' (get_set h2) (fun ys=>by rw [Wp]; exact h3 ys)
   (fun a ha ys=>by rw [Wp,Wp]; exact h4 a (Zm _ ha) ys) (by simp at h5 ⊢; omega)]
  rw [F_,Wp,ZC,Zs]
  rfl
end
theorem Ht {i:Nat} {its:Yc} {σ:Sg} (h:i < σ.length):∃ x,fZ i its σ=σ.set i x:=by
 unfold fZ
 cases its.getLast? with
 | some d=>exact ⟨_,rfl⟩
 | none=>exact ⟨σ[i],(jq (Zc h)).symm⟩
theorem z0 {i:Int} (h1:-1000000000<=i) (h2:i<=1000000000):near i=true:=Zj ⟨by omega,by omega⟩
theorem DZ (j:Int):rng 0 j 1=(List.range j.toNat).map fun (k:Nat)=>(k:Int):=by
 unfold rng
 rw [Zd (by decide)]
 have:(j - 0+1 - 1) / 1=j:=by rw [WE]; omega
 rw [this]
 simp
theorem uU {j:Int} (h1:-1000000000<=j) (h2:j<=1000000000):bJ [.int j]=some ((List.range j.toNat).map fun (k:Nat)=>(k:Int)):=by
 show (if near j=true then some (rng 0 j 1) else none)=_
 rw [Zd (z0 h1 h2),DZ]
theorem ng {sub:Sub} {cf:Ye} {i j l:Nat} {it e:E} {σ:Sg} {S S1:aa} {xs:Yc} {α:Type} {ks:List α} {f g:α->D} {o:Option Nat} {raw:Yc}
  (hit:evI sub cf it σ S=.ok ⟨ks.map f,o,raw⟩ S1) (hj:σ[j]?=some (some (.loc l))) (hS:S1[l]?=some (.lst xs)) (hij:i≠j) (hi:i < σ.length) (hst:∀ ys,aH ⟨ks.map f,o,raw⟩ (S1.set l (.lst ys))=.ok () (S1.set l (.lst ys)))
  (he:∀ a∈ks,∀ ys,ev sub cf e (σ.set i (some (f a))) (S1.set l (.lst ys))=.ok (g a) (S1.set l (.lst ys))) (hz:xs.length+ks.length<=aG) :
  ∃ x,exec sub cf (.forS (.one i) it (.ex (.me .append (.v j) (.cs e .nl)))) σ S=.ok (.nx (σ.set i x)) (S1.set l (.lst (xs++ks.map g))):=by
 obtain ⟨x,hx⟩:=Ht (i:=i) (its:=ks.map f) (σ:=σ) hi
 refine ⟨x,?_⟩
 rw [<- hx]
 exact dX hit (rA hij hj hS hst he hz)
theorem Ew {S:aa} {a b:Nat} {xs ys:Yc} (ha:S[a]?=some (.lst xs)) (hb:S[b]?=some (.lst ys)):eqD deep S (.loc a) (.loc b)=if xs.length=ys.length then bR (eqD 11 S) xs ys else some false:=by
 have e1:listAt S a=some xs:=by unfold listAt; rw [ha]
 have e2:listAt S b=some ys:=by unfold listAt; rw [hb]
 show (match listAt S a,listAt S b with|some xs,some ys=>if xs.length=ys.length then bR (eqD 11 S) xs ys else some false|_,_=>none)=_
 rw [e1,e2]
theorem k_ {S:aa} {a b:Nat} {xs:Yc} (ha:S[a]?=some (.lst xs)) (hb:S[b]?=some (.lst [])):cmD .eq (.loc a) (.loc b) S=.ok (.bl xs.isEmpty) S:=by
 rw [uh,Ew ha hb]
 cases xs <;> simp [bR]
theorem qE {s:Src} {f:D->Sg->M Fl}:∀ {its:Yc} (I:Nat->Sg->aa->Prop) {σ:Sg} {S:aa},I 0 σ S->(∀ i σ T,I i σ T->aH s T=.ok () T) ->
  (∀ i (h:i < its.length) σ T,I i σ T->∃ σ' T',f its[i] σ T=.ok (.nx σ') T'/\I (i+1) σ' T')->∃ σ' T',forL s f its σ S=.ok (.nx σ') T'/\I its.length σ' T'
 | [],I,σ,S,h0,h1,_=>⟨σ,S,by rw [j8,h1 0 σ S h0]; rfl,h0⟩
 | d::ds,I,σ,S,h0,h1,h2=>by
  obtain ⟨σ1,T1,e1,i1⟩:=h2 0 (by simp) σ S h0
  obtain ⟨σ2,T2,e2,i2⟩:=qE (its:=ds) (fun i=>I (i+1)) i1 (fun i=>h1 (i+1)) fun i hi=>h2 (i+1) (by simpa using hi)
  refine ⟨σ2,T2,?_,i2⟩
  rw [jh,h1 0 σ S h0]
  simp only [Res.aj]
  rw [show f d σ S=.ok (.nx σ1) T1 from e1]
  exact e2
theorem jw {sub:Sub} {cf:Ye} {t:Tg} {it:E} {b:EV.S} {σ:Sg} {S S1:aa} {s:Src} (I:Nat->Sg->aa->Prop) (hi:evI sub cf it σ S=.ok s S1) (h0:I 0 σ S1) (h1:∀ i σ T,I i σ T->aH s T=.ok () T)
  (h2:∀ i (h:i < s.its.length) σ T,I i σ T->∃ σ' T',bA sub cf t b s.its[i] σ T=.ok (.nx σ') T'/\I (i+1) σ' T'):∃ σ' T',exec sub cf (.forS t it b) σ S=.ok (.nx σ') T'/\I s.its.length σ' T':=by
 obtain ⟨σ',T',e,i⟩:=qE I h0 h1 h2
 exact ⟨σ',T',dX hi e,i⟩
theorem mh {α:Type} {s:Src} {fn:D->M (Option D)} {f:α->D} {g:α->Option D} {S:aa} (hs:aH s S=.ok () S):∀ {ks:List α},(∀ a∈ks,fn (f a) S=.ok (g a) S)->bw s fn (ks.map f) S=.ok (ks.filterMap g) S
 | [],_=>by rw [X7,jA,hs]; rfl
 | d::ds,h=>by
  rw [ZC,i9,hs]
  simp only [Res.aj]
  rw [h d Zl]
  simp only [Res.aj]
  rw [mh hs fun e he=>h e (Zm _ he)]
  simp only [Res.aj,Xt]
  cases g d <;> rfl
theorem fT {sub:Sub} {cf:Ye} {σ:Sg} {S S1:aa} {k i:Nat} {el it:E} {α:Type} {ks:List α} {f g:α->D} {o:Option Nat} {raw:Yc} (hi:evI sub cf it σ S=.ok ⟨ks.map f,o,raw⟩ S1) (hs:aH ⟨ks.map f,o,raw⟩ S1=.ok () S1)
  (hg:∀ a∈ks,ev sub cf el ((σ++List.replicate k none).set i (some (f a))) S1=.ok (g a) S1) (hz:ks.length<=aG) :
  ev sub cf (.comp k el (.one i) it .nl) σ S=.ok (.loc S1.length) (S1++[.lst (ks.map g)]):=by
 rw [dB,hi]
 simp only [Res.aj]
 have:=mh (s:=⟨ks.map f,o,raw⟩) (f:=f) (fn:=fun d=>aS (.one i) d (σ++List.replicate k none)>>=fun σ'=>(if E.bq .nl=true then pure true else evT sub cf .nl σ')>>=fun b=>if b=true then ev sub cf el σ'>>=fun y=>pure (some y) else pure none) (g:=fun a=>some (g a)) (S:=S1) hs (ks:=ks) (fun d hd=>by
  simp only [ay,gD,Res.aj]
  show (ev sub cf el ((σ++List.replicate k none).set i (some (f d)))>>=fun y=>pure (some y)) S1=_
  rw [ay,hg d hd]; rfl)
 rw [dQ this]
 have e:ks.filterMap (fun d=>some (g d))=ks.map g:=by rw [<- List.filterMap_eq_map]; rfl
 rw [e]
 simp only [Res.aj]
 rw [Zd (show fits (ks.map g).length=true from Zj (by rw [Zb]; exact hz))]
section
variable {sub:Sub} {cf:Ye} {σ:Sg} {S:aa}
end
theorem jB (ds:Yc):∀ (k i:Nat) (h:i < (num k ds).length),(num k ds)[i]=.tup [.int ((k+i:Nat):Int),ds[i]'(by have:(num k ds).length=ds.length:=(by clear h; induction ds generalizing k with|nil=>rfl|cons _ _ ih=>simp [num,ih]); omega)]:=by
 induction ds with
 | nil=>intro k i h; simp [num] at h
 | cons d r ih =>
  intro k i h
  cases i with
  | zero=>simp [num]
  | succ i =>
   simp only [num,List.getElem_cons_succ]
   rw [ih (k+1) i (by simpa [num] using h)]
   congr 3
   omega
theorem f6:∀ (ds:Yc) (k:Nat),(num k ds).length=ds.length
 | [],_=>rfl
 | _::r,k=>by simp [num,f6 r]
end EV

namespace GO
open PySem EV
theorem gZ {S:aa} {l:Nat} {ds:Yc} (h:S[l]?=some (.lst ds)):(D.loc l).dD S=true:=by show (match S[l]? with|some (.lst _)=>true|_=>false)=true; rw [h]
theorem BC (T:aa) (ds:Yc):(D.loc T.length).dD (T++[.lst ds])=true:=gZ (ds:=ds) (by simp)
theorem qk (T:aa) (ds:Yc) (G:aa):(D.loc T.length).dD (T++.lst ds::G)=true:=gZ (ds:=ds) (by simp)
theorem IY (T:aa) (ds:Yc) (G U:aa):(D.loc T.length).dD ((T++.lst ds::G)++U)=true:=by rw [Zs,XN]; exact qk _ _ _
section
variable {sub:Sub} {cf:Ye} {σ σ1:Sg} {S S1 S2 S3:aa} {R:Res D} {RF:Res Fl} {x y z d:D} {ds:Yc} {a b c r es:E} {u v w:EV.S}
theorem r_v {i:Nat} (h:br σ i S=.ok d S):ev sub cf (.v i) σ S=.ok d S:=h
theorem r_c:ev sub cf (.c d) σ S=.ok d S:=id rfl
theorem bB {o:Op2} (ha:ev sub cf a σ S=.ok x S1) (hb:ev sub cf b σ S1=.ok y S2) (h:opD o x y S2=R):ev sub cf (.bin o a b) σ S=R:=by rw [Ig,ha,Res.aj,hb,Res.aj,h]
theorem aP {o:Cm} (ha:ev sub cf a σ S=.ok x S1) (hb:ev sub cf b σ S1=.ok y S2) (h:cmD o x y S2=R):ev sub cf (.cmp o a b) σ S=R:=by rw [qc,ha,Res.aj,hb,Res.aj,h]
theorem fE (ha:ev sub cf a σ S=.ok (.bl true) S1) (hb:ev sub cf b σ S1=R):ev sub cf (.and a b) σ S=R:=by rw [EC,ha]; exact hb
theorem fL {i:Int} (ha:ev sub cf a σ S=.ok (.int i) S1):ev sub cf (.neg a) σ S=.ok (.int (-i)) S1:=by rw [Br,ha]; rfl
theorem AR (hc:evT sub cf c σ S=.ok true S1) (ha:ev sub cf a σ S1=R):ev sub cf (.ite c a b) σ S=R:=by rw [tF,hc,Res.aj,Zd rfl,ha]
theorem DM (hc:evT sub cf c σ S=.ok false S1) (hb:ev sub cf b σ S1=R):ev sub cf (.ite c a b) σ S=R:=by rw [tF,hc,Res.aj,Ze (by decide),hb]
theorem ai:evs sub cf .nl σ S=.ok [] S:=id rfl
theorem af (ha:ev sub cf a σ S=.ok x S1) (hr:evs sub cf r σ S1=.ok ds S2):evs sub cf (.cs a r) σ S=.ok (x::ds) S2:=by rw [ur,ha,Res.aj,hr,Res.aj]
theorem eG (hs:evs sub cf es σ S=.ok ds S1) (hz:fits ds.length=true):ev sub cf (.tup es) σ S=.ok (.tup ds) S1:=by rw [Cz,hs,Res.aj,Zd hz]
theorem bO (hs:evs sub cf es σ S=.ok ds S1) (hz:fits ds.length=true):ev sub cf (.lst es) σ S=.ok (.loc S1.length) (S1++[.lst ds]):=by rw [Df,hs,Res.aj,Zd hz]
theorem aq (ha:ev sub cf a σ S=.ok x S1) (hb:ev sub cf b σ S1=.ok y S2) (h:ixD x y S2=R):ev sub cf (.ix a b) σ S=R:=by rw [FT,ha,Res.aj,hb,Res.aj,h]
theorem Jb {lo hi:E} {p q:Option Int} (ha:ev sub cf a σ S=.ok x S1) (hl:iR sub cf σ lo S1=.ok p S2) (hh:iR sub cf σ hi S2=.ok q S3) (h:slD x p q S3=R):ev sub cf (.sl a lo hi) σ S=R:=by
 rw [CA,ha,Res.aj,hl,Res.aj,hh,Res.aj,h]
theorem aA {f:Str} (hs:evs sub cf es σ S=.ok ds S1) (h:cf f ds S1=R):ev sub cf (.call f es) σ S=R:=by rw [DY,hs,Res.aj,h]
theorem aT {o:Bi} (hs:evs sub cf es σ S=.ok ds S1) (h:biD sub o ds S1=R):ev sub cf (.bi o es) σ S=R:=by rw [zu,hs,Res.aj,h]
theorem gK {m:Me} {l:Nat} (ha:ev sub cf a σ S=.ok (.loc l) S1) (hs:evs sub cf es σ S1=.ok ds S2) (h:meD m (.loc l) ds S2=R) (hL:(D.loc l).dD S1=true:=by first|assumption|exact BC _ _|exact qk _ _ _|exact gZ (by assumption)):ev sub cf (.me m a es) σ S=R:=by
 rw [vF,ha,Res.aj,Zd hL,hs,Res.aj,h]
theorem mE {k:Bool} (h:ev sub cf a σ S=.ok (.bl k) S1) (ht:evT sub cf a σ S=(ev sub cf a σ S).bind fun d S1=>truth d S1):evT sub cf a σ S=.ok k S1:=by rw [ht,h]; rfl
theorem bM {f:Str} {k:Bool} (h:ev sub cf (.call f es) σ S=.ok (.bl k) S1):evT sub cf (.call f es) σ S=.ok k S1:=mE h (DK _ _ _ _ _ _)
theorem iE {o:Bi} {k:Bool} (h:ev sub cf (.bi o es) σ S=.ok (.bl k) S1):evT sub cf (.bi o es) σ S=.ok k S1:=mE h (AS _ _ _ _ _ _)
theorem aO {o:Cm} {k:Bool} (h:ev sub cf (.cmp o a b) σ S=.ok (.bl k) S1):evT sub cf (.cmp o a b) σ S=.ok k S1:=mE h (by
 rw [Cj,qc]; cases ev sub cf a σ S <;> simp [Res.bind]; rename_i q Q; cases ev sub cf b σ Q <;> simp [Res.bind])
theorem fj {k:Bool} (ha:evT sub cf a σ S=.ok true S1) (hb:evT sub cf b σ S1=.ok k S2):evT sub cf (.and a b) σ S=.ok k S2:=by rw [qJ,ha,Res.aj,Zd rfl,hb]
theorem gJ (ha:evT sub cf a σ S=.ok false S1):evT sub cf (.and a b) σ S=.ok false S1:=by rw [qJ,ha,Res.aj,Ze (by decide)]
theorem qH (ha:evT sub cf a σ S=.ok true S1):evT sub cf (.or a b) σ S=.ok true S1:=by rw [qR,ha,Res.aj,Zd rfl]
theorem c8 {k:Bool} (ha:evT sub cf a σ S=.ok false S1) (hb:evT sub cf b σ S1=.ok k S2):evT sub cf (.or a b) σ S=.ok k S2:=by rw [qR,ha,Res.aj,Ze (by decide),hb]
theorem bQ {k:Bool} (ha:evT sub cf a σ S=.ok k S1):evT sub cf (.not a) σ S=.ok (!k) S1:=by rw [GW,ha,Res.aj]
theorem t_k {k k':Bool} (h:evT sub cf a σ S=.ok k' S1) (e:k'=k):evT sub cf a σ S=.ok k S1:=by rw [h,e]
theorem zJ (h:Nat.ble ds.length 1000=true):fits ds.length=true:=vG (Nat.le_of_ble_eq_true h)
theorem lQ {i j:Int} (h:0 < j):opD .mod (.int i) (.int j) S=.ok (.int (i % j)) S:=by rw [CH,Zd h]
theorem wR {i j:Int} (h:(small i||small j)=true):opD .mul (.int i) (.int j) S=.ok (.int (i * j)) S:=by rw [Ci,Zd h]
theorem rR {i:Int} (h:-1000000000000 < i/\i < 1000000000000):small i=true:=Zj ⟨by omega,by omega⟩
theorem f7 {i j:Int} (h:-1000000000000 < i/\i < 1000000000000):opD .mul (.int i) (.int j) S=.ok (.int (i * j)) S:=wR (by rw [rR h,Bool.true_or])
theorem rM {i j:Int} (h:-1000000000000 < j/\j < 1000000000000):opD .mul (.int i) (.int j) S=.ok (.int (i * j)) S:=wR (by rw [rR h,Bool.or_true])
theorem tS {i j:Int} (h:0 < j/\j < 1073741824):opD .fdiv (.int i) (.int j) S=.ok (.int (i / j)) S:=by rw [GK,Zd (by rw [Zj h.1,Zj h.2]; rfl)]
theorem aB {xs:Yc} {j:Int} (h:atI xs j=some d):ixD (.tup xs) (.int j) S=.ok d S:=by rw [Eh,h,cW]
theorem wz {xs:Yc} {j:Int} (h:atI xs j=some d):ixD (.fro xs) (.int j) S=.ok d S:=by rw [FF,h,cW]
theorem fF {xs:Yc} {j:Int} {l:Nat} (hl:S[l]?=some (.lst xs)) (h:atI xs j=some d):ixD (.loc l) (.int j) S=.ok d S:=by rw [FG hl,h,cW]
theorem eZ {xs:Yc}:biD sub .len [.tup xs] S=.ok (.int xs.length) S:=by rw [mT]; rfl
theorem t_ {xs:Yc}:biD sub .len [.fro xs] S=.ok (.int xs.length) S:=by rw [mT]; rfl
theorem uE {xs:Yc} {l:Nat} (hl:S[l]?=some (.lst xs)):biD sub .len [.loc l] S=.ok (.int xs.length) S:=by rw [mT,c6 hl]; rfl
theorem fz {xs:Yc} {l:Nat} (hl:S[l]?=some (.lst xs)):biD sub .tuple [.loc l] S=.ok (.tup xs) S:=by rw [DP,c6 hl]; rfl
theorem iQ {t:Ty} {k:Bool} (h:gb sub S x t=some k):biD sub (.inst t) [x] S=.ok (.bl k) S:=by rw [zh,h]
theorem aD {α:Type} (T:List α) (c:α):(T++[c])[T.length]?=some c:=by simp
theorem jG {T:aa} {xs:Yc} {j:Int} (h:atI xs j=some d):ixD (.loc T.length) (.int j) (T++[.lst xs])=.ok d (T++[.lst xs]):=fF (aD T _) h
theorem qO {T:aa} {xs:Yc}:biD sub .tuple [.loc T.length] (T++[.lst xs])=.ok (.tup xs) (T++[.lst xs]):=fz (aD T _)
theorem mH {T:aa} {xs:Yc}:biD sub .len [.loc T.length] (T++[.lst xs])=.ok (.int xs.length) (T++[.lst xs]):=uE (aD T _)
theorem bu {s:Src} (ha:ev sub cf a σ S=.ok x S1) (h:srcOf x S1=.ok s S2):evI sub cf (.iSeq a) σ S=.ok s S2:=by rw [Gy,ha,Res.aj,h]
theorem sI {is:WJ} (hs:evs sub cf es σ S=.ok ds S1) (h:bJ ds=some is):evI sub cf (.iRng es) σ S=.ok ⟨is.map .int,none,[]⟩ S1:=by rw [HJ,hs,Res.aj,h,cW,Res.aj]
theorem iH {j:Int} {k:Nat} {f:Nat->D} (hs:evs sub cf es σ S=.ok [.int j] S1) (hj:j=(k:Int)) (hk:k<=1000000) (hf:∀ i:Nat,f i=.int (i:Int)):evI sub cf (.iRng es) σ S=.ok ⟨(List.range k).map f,none,[]⟩ S1:=by
 subst hj
 rw [sI hs (uU (by omega) (by omega)),Z9,ZX,show (D.int ∘ fun k:Nat=>(k:Int))=f from funext fun i=>(hf i).symm]
theorem aL {i:Nat} (h:ev sub cf a σ S=.ok d S1):exec sub cf (.set (.one i) a) σ S=.ok (.nx (σ.set i (some d))) S1:=by rw [vh,h,Res.aj,gD,Res.aj]
theorem pH {is:W7} (h:ev sub cf a σ S=.ok (.tup ds) S1) (hl:ds.length=is.length):exec sub cf (.set (.many is) a) σ S=.ok (.nx (cz is ds σ)) S1:=by rw [vh,h,Res.aj,mK,Zd hl,Res.aj]
theorem eY (h:ev sub cf a σ S=.ok d S1):exec sub cf (.ex a) σ S=.ok (.nx σ) S1:=by rw [pQ,h,Res.aj]
theorem aK (h:ev sub cf a σ S=.ok d S1):exec sub cf (.ret a) σ S=.ok (.rt d) S1:=by rw [DF,h,Res.aj]
theorem cC (hc:evT sub cf c σ S=.ok true S1) (h:exec sub cf u σ S1=RF):exec sub cf (.ite c u v) σ S=RF:=by rw [uZ,hc,Res.aj,Zd rfl,h]
theorem aN (hc:evT sub cf c σ S=.ok false S1) (h:exec sub cf v σ S1=RF):exec sub cf (.ite c u v) σ S=RF:=by rw [uZ,hc,Res.aj,Ze (by decide),h]
theorem ak (hu:exec sub cf u σ S=.ok (.nx σ1) S1) (h:exec sub cf v σ1 S1=RF):exec sub cf (.seq u v) σ S=RF:=(E1 hu).trans h
theorem dN (hu:exec sub cf u σ S=.ok (.rt d) S1):exec sub cf (.seq u v) σ S=.ok (.rt d) S1:=by rw [vL,hu,F9]
theorem aR:exec sub cf .skip σ S=.ok (.nx σ) S:=id rfl
theorem x_call {P:Prg} {n:Nat} {f:Str} {F:Fn} (hP:P.lookup f=some F) (hl:ds.length=F.par) (hb:exec sub (ah sub P n) F.body (frame F ds) S=.ok (.rt d) S1) (h:leave S d S1=R):ah sub P (n+1) f ds S=R:=by
 rw [vP hP hl,hb,Bf,h]
theorem g8 {s:Src} {f:D->Sg->M Fl} {ds:Yc} (hs:aH s S=.ok () S) (hb:f d σ S=.ok (.nx σ1) S1) (h:forL s f ds σ1 S1=RF):forL s f (d::ds) σ S=RF:=by
 rw [jh,hs,Res.aj,hb]; exact h
theorem eU {i:Nat} (h:exec sub cf u (σ.set i (some d)) S=RF):bA sub cf (.one i) u d σ S=RF:=(lI i u d σ S).trans h
theorem jM {is:W7} (hl:ds.length=is.length) (h:exec sub cf u (cz is ds σ) S=RF):bA sub cf (.many is) u (.tup ds) σ S=RF:=(FL is u ds σ S hl).trans h
theorem CT {P:Prg} {n:Nat} {f:Str} {F:Fn} (hP:P.lookup f=some F) (hl:ds.length=F.par) (hb:exec sub (ah sub P n) F.body (frame F ds) S=RF) (h:∃ S',RF=.ok (.rt d) S'/\S'.take S.length=S) (hc:d.cl):ah sub P (n+1) f ds S=.ok d S:=by
 obtain ⟨S',e,ht⟩:=h
 exact x_call hP hl (hb.trans e) (b7 hc ht)
end
end GO

namespace RL
open PySem EV GO
noncomputable def l_:Fn:=⟨3,3,(.seq (.ite (.or (.not (.bi (.inst .int) (.cs (.v 0) .nl))) (.bi (.inst .bool) (.cs (.v 0) .nl)))
  (.ret (.c (.bl false)))
  .skip)
 (.ret (.chn .le .le (.v 1) (.v 0) (.v 2))))⟩
noncomputable def uR:Fn:=⟨1,1,(.ret (.call "is_whole" (.cs (.v 0) (.cs (.c (.int 0)) (.cs (.bin .sub (.c (.int 9973)) (.c (.int 1))) .nl)))))⟩
noncomputable def kq:Fn:=⟨3,3,(.ret (.and (.bi (.inst .tuple) (.cs (.v 0) .nl)) (.chn .le .le (.v 1) (.bi .len (.cs (.v 0) .nl)) (.v 2))))⟩
noncomputable def rq:Fn:=⟨1,1,(.ret (.and (.call "is_row" (.cs (.v 0) (.cs (.c (.int 2)) (.cs (.c (.int 2)) .nl)))) (.and (.call "is_whole" (.cs (.ix (.v 0) (.c (.int 0))) (.cs (.c (.int 1)) (.cs (.c (.int 3)) .nl)))) (.call "is_whole" (.cs (.ix (.v 0) (.c (.int 1))) (.cs (.c (.int 1)) (.cs (.c (.int 4)) .nl)))))))⟩
noncomputable def wU:Fn:=⟨1,1,(.ret (.and (.call "is_row" (.cs (.v 0) (.cs (.c (.int 1)) (.cs (.c (.int 3)) .nl)))) (.bi .all (.cs (.comp 2 (.call "is_crew" (.cs (.v 2) .nl)) (.one 2) (.iSeq (.v 0)) .nl) .nl))))⟩
noncomputable def pq:Fn:=⟨3,4,(.seq (.ite (.or (.not (.call "is_row" (.cs (.v 0) (.cs (.c (.int 3)) (.cs (.c (.int 3)) .nl))))) (.not (.call "is_whole" (.cs (.ix (.v 0) (.c (.int 2))) (.cs (.c (.int 0)) (.cs (.c (.int 3)) .nl))))))
  (.ret (.c (.bl false)))
  .skip)
 (.seq (.set (.one 3) (.ite (.cmp .eq (.ix (.v 0) (.c (.int 2))) (.c (.int 0))) (.v 1) (.v 2)))
 (.ret (.call "is_whole" (.cs (.ix (.v 0) (.c (.int 1))) (.cs (.c (.int 0)) (.cs (.bin .sub (.v 3) (.c (.int 1))) .nl)))))))⟩
noncomputable def sS:Fn:=⟨4,4,(.seq (.ite (.or (.not (.call "is_row" (.cs (.v 0) (.cs (.c (.int 2)) (.cs (.c (.int 3)) .nl))))) (.not (.bi (.inst .str) (.cs (.ix (.v 0) (.c (.int 0))) .nl))))
  (.ret (.c (.bl false)))
  .skip)
 (.seq (.ite (.cmp .eq (.ix (.v 0) (.c (.int 0))) (.c (.str "work")))
  (.ret (.call "is_work_source" (.cs (.v 0) (.cs (.v 1) (.cs (.v 2) .nl)))))
  .skip)
 (.seq (.ite (.cmp .ne (.bi .len (.cs (.v 0) .nl)) (.c (.int 2)))
  (.ret (.c (.bl false)))
  .skip)
 (.seq (.ite (.cmp .eq (.ix (.v 0) (.c (.int 0))) (.c (.str "input")))
  (.ret (.call "is_whole" (.cs (.ix (.v 0) (.c (.int 1))) (.cs (.c (.int 0)) (.cs (.bin .sub (.v 3) (.c (.int 1))) .nl)))))
  .skip)
 (.ret (.and (.cmp .eq (.ix (.v 0) (.c (.int 0))) (.c (.str "value"))) (.call "is_value" (.cs (.ix (.v 0) (.c (.int 1))) .nl))))))))⟩
noncomputable def uK:Fn:=⟨1,1,(.ret (.and (.call "is_row" (.cs (.v 0) (.cs (.c (.int 3)) (.cs (.c (.int 3)) .nl)))) (.bi .all (.cs (.comp 2 (.call "is_value" (.cs (.v 2) .nl)) (.one 2) (.iSeq (.v 0)) .nl) .nl))))⟩
noncomputable def uM:Fn:=⟨5,6,(.seq (.ite (.not (.call "is_row" (.cs (.v 0) (.cs (.c (.int 5)) (.cs (.c (.int 5)) .nl)))))
  (.ret (.c (.bl false)))
  .skip)
 (.seq (.ite (.or (.not (.call "is_whole" (.cs (.ix (.v 0) (.c (.int 0))) (.cs (.c (.int 0)) (.cs (.bin .sub (.v 4) (.c (.int 1))) .nl))))) (.not (.call "is_whole" (.cs (.ix (.v 0) (.c (.int 1))) (.cs (.c (.int 1)) (.cs (.c (.int 8)) .nl))))))
  (.ret (.c (.bl false)))
  .skip)
 (.seq (.ite (.or (.not (.bi (.inst .str) (.cs (.ix (.v 0) (.c (.int 2))) .nl))) (.cmp .bU (.ix (.v 0) (.c (.int 2))) (.c (.tup [(.str "plus"),(.str "less"),(.str "times"),(.str "least"),(.str "greatest")]))))
  (.ret (.c (.bl false)))
  .skip)
 (.seq (.set (.one 5) (.ix (.v 0) (.c (.int 3))))
 (.seq (.ite (.or (.not (.call "is_row" (.cs (.v 5) (.cs (.c (.int 1)) (.cs (.c (.int 3)) .nl))))) (.not (.call "are_starts" (.cs (.ix (.v 0) (.c (.int 4))) .nl))))
  (.ret (.c (.bl false)))
  .skip)
 (.ret (.bi .all (.cs (.comp 2 (.call "is_source" (.cs (.v 7) (.cs (.v 1) (.cs (.v 2) (.cs (.v 3) .nl))))) (.one 7) (.iSeq (.v 5)) .nl) .nl))))))))⟩
noncomputable def qp:Fn:=⟨3,4,(.seq (.ite (.not (.call "is_row" (.cs (.v 0) (.cs (.c (.int 1)) (.cs (.c (.int 8)) .nl)))))
  (.ret (.c (.bl false)))
  .skip)
 (.seq (.set (.one 3) (.bi .len (.cs (.v 0) .nl)))
 (.ret (.bi .all (.cs (.comp 3 (.call "is_work" (.cs (.v 6) (.cs (.v 5) (.cs (.v 3) (.cs (.v 1) (.cs (.v 2) .nl)))))) (.many [5,6]) (.iEnum (.v 0)) .nl) .nl)))))⟩
noncomputable def wI:Fn:=⟨2,4,(.seq (.ite (.not (.call "is_row" (.cs (.v 0) (.cs (.c (.int 1)) (.cs (.v 1) .nl)))))
  (.ret (.c (.bl false)))
  .skip)
 (.seq (.set (.one 2) (.c (.int 0)))
 (.seq (.forS (.one 3) (.iSeq (.v 0))
  (.seq (.ite (.not (.call "is_whole" (.cs (.v 3) (.cs (.v 2) (.cs (.bin .sub (.v 1) (.c (.int 1))) .nl)))))
  (.ret (.c (.bl false)))
  .skip)
 (.set (.one 2) (.bin .add (.v 3) (.c (.int 1))))))
 (.ret (.c (.bl true))))))⟩
noncomputable def pV:Fn:=⟨1,1,(.seq (.ite (.not (.call "is_row" (.cs (.v 0) (.cs (.c (.int 4)) (.cs (.c (.int 4)) .nl)))))
  (.ret (.c (.bl false)))
  .skip)
 (.seq (.ite (.or (.not (.call "is_whole" (.cs (.ix (.v 0) (.c (.int 0))) (.cs (.c (.int 0)) (.cs (.c (.int 6)) .nl))))) (.not (.call "are_crews" (.cs (.ix (.v 0) (.c (.int 1))) .nl))))
  (.ret (.c (.bl false)))
  .skip)
 (.ret (.and (.call "are_works" (.cs (.ix (.v 0) (.c (.int 2))) (.cs (.ix (.v 0) (.c (.int 0))) (.cs (.bi .len (.cs (.ix (.v 0) (.c (.int 1))) .nl)) .nl)))) (.call "are_outs" (.cs (.ix (.v 0) (.c (.int 3))) (.cs (.bi .len (.cs (.ix (.v 0) (.c (.int 2))) .nl)) .nl)))))))⟩
noncomputable def qI:Fn:=⟨1,1,(.seq (.ite (.not (.call "is_loop" (.cs (.v 0) .nl)))
  (.rais "NoLoop")
  .skip)
 (.ret (.v 0)))⟩
noncomputable def dF:List Str:=["plus","less","times","least","greatest"]
def IW (S:aa):Prop:=∀ (l:Nat) c,S[l]?=some c->∃ ds,c=.lst ds
def Has (P:Prg) (x:String) (F:Fn):Prop:=P.lookup (Str.ofString x)=some F
inductive Srs where|val (v:Int)|inp (k:Nat)|wrk (w b:Nat)
noncomputable def Srs.toD:Srs->D
 | .val v=>.tup [.str "value",.int v]
 | .inp k=>.tup [.str "input",.int k]
 | .wrk w b=>.tup [.str "work",.int w,.int b]
structure Wk where
 crew:Nat
 long:Nat
 doing:Str
 srcs:List Srs
 starts:List Int
noncomputable def Wk.toD (w:Wk):D:=.tup [.int w.crew,.int w.long,.str w.doing,.tup (w.srcs.map Srs.toD),.tup (w.starts.map .int)]
structure Lp where
 streams:Nat
 crews:List (Nat × Nat)
 works:List Wk
 outs:List Nat
noncomputable def aU (c:W6):D:=.tup [.int c.1,.int c.2]
noncomputable def bG (k:Nat):D:=.int k
noncomputable def Lp.toD (l:Lp):D:=.tup [.int l.streams,.tup (l.crews.map aU),.tup (l.works.map Wk.toD),.tup (l.outs.map bG)]
def Srs.WF (own many streams:Nat):Srs->Prop
 | .val v=>0<=v/\v<=9972
 | .inp k=>k < streams
 | .wrk w b=>b<=3/\w < (if b=0 then own else many)
structure Wk.WF (own many streams ncrews:Nat) (w:Wk):Prop where
 crew:w.crew < ncrews
 long:1<=w.long/\w.long<=8
 doing:w.doing∈dF
 some:1<=w.srcs.length/\w.srcs.length<=3
 srcs:∀ s∈w.srcs,s.WF own many streams
 three:w.starts.length=3
 starts:∀ v∈w.starts,0<=v/\v<=9972
def ee:Nat->Nat->List Nat->Prop
 | _,_,[]=>True
 | many,least,k::r=>least<=k/\k < many/\ee many (k+1) r
structure Lp.WF (l:Lp):Prop where
 streams:l.streams<=6
 ncrews:1<=l.crews.length/\l.crews.length<=3
 crews:∀ c∈l.crews,(1<=c.1/\c.1<=3)/\(1<=c.2/\c.2<=4)
 nworks:1<=l.works.length/\l.works.length<=8
 works:∀ (i:Nat) w,l.works[i]?=some w->w.WF i l.works.length l.streams l.crews.length
 nouts:1<=l.outs.length
 outs:ee l.works.length 0 l.outs
structure HB (P:Prg):Prop where
 whole:Has P "is_whole" l_
 value:Has P "is_value" uR
 row:Has P "is_row" kq
 crew:Has P "is_crew" rq
 crews:Has P "are_crews" wU
 worksource:Has P "is_work_source" pq
 source:Has P "is_source" sS
 starts:Has P "are_starts" uK
 work:Has P "is_work" uM
 works:Has P "are_works" qp
 outs:Has P "are_outs" wI
 loop:Has P "is_loop" pV
 checked:Has P "checked" qI
variable {sub:Sub} {P:Prg} {n:Nat} {S:aa}
@[simp] theorem iz (S T:aa) (b:Bool):leave S (.bl b) (S++T)=.ok (.bl b) S:=b7 rfl (cD _ _)
@[simp] theorem dJ (S:aa) (b:Bool):leave S (.bl b) S=.ok (.bl b) S:=b7 rfl (Z4)
@[simp] theorem gp (S T:aa) (b:Int):leave S (.int b) (S++T)=.ok (.int b) S:=b7 rfl (cD _ _)
@[simp] theorem gF (S:aa) (b:Int):leave S (.int b) S=.ok (.int b) S:=b7 rfl (Z4)
theorem short {ds:Yc} {k:Int} (h:(ds.length:Int)<=k) (hk:k<=1000):ds.length<=aG:=by unfold aG; omega
theorem sG {σ:Sg} {cf:Ye} {a b c:E} {i j k:Int} (ha:ev sub cf a σ S=.ok (.int i) S) (hb:ev sub cf b σ S=.ok (.int j) S) (hc:ev sub cf c σ S=.ok (.int k) S) (h1:i<=j) (h2:j<=k) :
  ev sub cf (.chn .le .le a b c) σ S=.ok (.bl true) S:=by
 rw [Bt,ha,Res.aj,hb,Res.aj,lE,Res.aj,Zj h1]
 show (ev sub cf c σ S).bind _=_
 rw [hc,Res.aj,lE,Zj h2]
theorem dc (h:Has P "is_whole" l_) {i lo hi:Int} (h1:lo<=i) (h2:i<=hi):ah sub P (n+1) "is_whole" [.int i,.int lo,.int hi] S=.ok (.bl true) S :=
 x_call h rfl (ak (aN (c8 (bQ (k:=true) (iE (aT (af (r_v rfl) ai) (iQ rfl)))) (k:=false) (iE (aT (af (r_v rfl) ai) (iQ rfl)))) aR) (aK (sG (r_v rfl) (r_v rfl) (r_v rfl) h1 h2))) (dJ _ _)
theorem rK (h:HB P) {v:Int} (h1:0<=v) (h2:v<=9972):ah sub P (n+2) "is_value" [.int v] S=.ok (.bl true) S :=
 x_call h.value rfl (aK (aA (af (r_v rfl) (af r_c (af (bB r_c r_c (f_ _ _ _)) ai))) (dc h.whole h1 h2))) (dJ _ _)
theorem ia (h:Has P "is_row" kq) {ds:Yc} {lo hi:Int} (h1:lo<=(ds.length:Int)) (h2:(ds.length:Int)<=hi):ah sub P (n+1) "is_row" [.tup ds,.int lo,.int hi] S=.ok (.bl true) S :=
 x_call h rfl (aK (fE (aT (af (r_v rfl) ai) (iQ rfl)) (sG (r_v rfl) (aT (af (r_v rfl) ai) eZ) (r_v rfl) h1 h2))) (dJ _ _)
theorem jl (h:Has P "is_row" kq) {ds:Yc} {lo hi:Int} (m:Nat) (hm:ds.length=m) (h1:lo<=(m:Int)) (h2:(m:Int)<=hi):ah sub P (n+1) "is_row" [.tup ds,.int lo,.int hi] S=.ok (.bl true) S :=
 ia h (by rw [hm]; exact h1) (by rw [hm]; exact h2)
theorem Cd (h:HB P) {c:W6} (hc:(1<=c.1/\c.1<=3)/\(1<=c.2/\c.2<=4)):ah sub P (n+2) "is_crew" [aU c] S=.ok (.bl true) S :=
 x_call h.crew rfl (aK (fE (aA (af (r_v rfl) (af r_c (af r_c ai))) (jl h.row 2 rfl (by decide) (by decide)))
  (fE (aA (af (aq (r_v rfl) r_c (aB rfl)) (af r_c (af r_c ai))) (dc h.whole (XU.mpr hc.1.1) (XU.mpr hc.1.2)))
   (aA (af (aq (r_v rfl) r_c (aB rfl)) (af r_c (af r_c ai))) (dc h.whole (XU.mpr hc.2.1) (XU.mpr hc.2.2)))))) (dJ _ _)
theorem lG {cf:Ye} {σ:Sg} {i k:Nat} {el a:E} {α:Type} {l:List α} {f:α->D} (ha:ev sub cf a σ S=.ok (.tup (l.map f)) S) (hn:l.length<=1000) (h:∀ x∈l,ev sub cf el ((σ++List.replicate k none).set i (some (f x))) S=.ok (.bl true) S) :
  ∃ T,ev sub cf (.bi .all (.cs (.comp k el (.one i) (.iSeq a) .nl) .nl)) σ S=.ok (.bl true) (S++T):=by
 have hc:=fT (sub:=sub) (cf:=cf) (k:=k) (i:=i) (el:=el) (it:=.iSeq a) (σ:=σ) (S:=S) (S1:=S) (ks:=l) (f:=f) (g:=fun _=>.bl true) (o:=none) (raw:=l.map f) (bu ha rfl) rfl h (by unfold aG; omega)
 refine ⟨[.lst (l.map fun _=>.bl true)],aT (R:=.ok (.bl true) _) (af hc ai) ((uz l fun _=>true).trans ?_)⟩
 rw [Xa.mpr fun _ _=>rfl]
theorem BR (h:HB P) {cs:List (Nat × Nat)} (h1:1<=cs.length) (h2:cs.length<=3) (hc:∀ c∈cs,(1<=c.1/\c.1<=3)/\(1<=c.2/\c.2<=4)):ah sub P (n+3) "are_crews" [.tup (cs.map aU)] S=.ok (.bl true) S:=by
 obtain ⟨T,e⟩:=lG (sub:=sub) (cf:=ah sub P (n+2)) (σ:=[some (.tup (cs.map aU))]) (S:=S) (i:=2) (k:=2) (el:=.call "is_crew" (.cs (.v 2) .nl)) (a:=.v 0) (l:=cs) (f:=aU) (r_v rfl) (by omega) (fun c hm=>aA (af (r_v rfl) ai) (Cd h (hc c hm)))
 exact x_call h.crews rfl (aK (fE (aA (af (r_v rfl) (af r_c (af r_c ai))) (ia h.row (by rw [Zb]; omega) (by rw [Zb]; omega))) e)) (iz _ _ _)
theorem yP (h:HB P) {vs:WJ} (h1:vs.length=3) (hv:∀ v∈vs,0<=v/\v<=9972):ah sub P (n+3) "are_starts" [.tup (vs.map .int)] S=.ok (.bl true) S:=by
 obtain ⟨T,e⟩:=lG (sub:=sub) (cf:=ah sub P (n+2)) (σ:=[some (.tup (vs.map .int))]) (S:=S) (i:=2) (k:=2) (el:=.call "is_value" (.cs (.v 2) .nl)) (a:=.v 0) (l:=vs) (f:=.int) (r_v rfl) (by omega) (fun c hm=>aA (af (r_v rfl) ai) (rK h (hv c hm).1 (hv c hm).2))
 exact x_call h.starts rfl (aK (fE (aA (af (r_v rfl) (af r_c (af r_c ai))) (ia h.row (by rw [Zb,h1]; decide) (by rw [Zb,h1]; decide))) e)) (iz _ _ _)
theorem C3 (h:HB P) {x:D} {w b own many:Nat} (hb:b<=3) (hw:w < (if b=0 then own else many)):ah sub P (n+2) "is_work_source" [.tup [x,.int w,.int b],.int own,.int many] S=.ok (.bl true) S:=by
 have h0:∀ k:Nat,(0:Int)<=(k:Int):=fun k=>Qz k
 refine x_call h.worksource rfl (ak (aN (c8 (bQ (k:=true) (bM (aA (af (r_v rfl) (af r_c (af r_c ai))) (jl h.row 3 rfl (by decide) (by decide)))))
  (k:=false) (bQ (k:=true) (bM (aA (af (aq (r_v rfl) r_c (aB rfl)) (af r_c (af r_c ai))) (dc h.whole (h0 b) (XU.mpr hb)))))) aR)
  (ak (aL (d:=.int ((if b=0 then own else many:Nat):Int)) (S1:=S) ?_) (aK (aA (af (aq (r_v rfl) r_c (aB rfl)) (af r_c (af (bB (r_v rfl) r_c (f_ _ _ _)) ai))) (dc h.whole (h0 w) (by omega)))))) (dJ _ _)
 by_cases z:b=0
 ·rw [Zd z]; subst z
  exact AR (S1:=S) (aO (aP (aq (r_v rfl) r_c (aB rfl)) r_c (dw _ _ _))) (r_v rfl)
 ·rw [Ze z]
  exact DM (S1:=S) (t_k (aO (aP (aq (r_v rfl) r_c (aB rfl)) r_c (dw _ _ _))) (Qx (by omega))) (r_v rfl)
theorem yE (h:HB P) {s:Srs} {own many streams:Nat} (hs:s.WF own many streams):ah sub P (n+3) "is_source" [s.toD,.int own,.int many,.int streams] S=.ok (.bl true) S:=by
 have first:∀ {x:Str} {r:Yc} {σ:Sg} (e:br σ 0 S=.ok (.tup (.str x::r)) S) (m:Nat) (hm:(D.str x::r).length=m) (h1:2<=(m:Int)) (h2:(m:Int)<=3),evT sub (ah sub P (n+2)) (.or (.not (.call "is_row" (.cs (.v 0) (.cs (.c (.int 2)) (.cs (.c (.int 3)) .nl))))) (.not (.bi (.inst .str) (.cs (.ix (.v 0) (.c (.int 0))) .nl)))) σ S=.ok false S:=fun {x r σ} e m hm h1 h2 =>
  c8 (bQ (k:=true) (bM (aA (af (r_v e) (af r_c (af r_c ai))) (jl h.row m hm h1 h2)))) (k:=false) (bQ (k:=true) (iE (aT (af (aq (r_v e) r_c (aB (d:=.str x) (gf _))) ai) (iQ rfl))))
 have word:∀ {x:Str} {r:Yc} {σ:Sg} (y:Str) {k:Bool} (e:br σ 0 S=.ok (.tup (.str x::r)) S) (hk:(x==y)=k),ev sub (ah sub P (n+2)) (.cmp .eq (.ix (.v 0) (.c (.int 0))) (.c (.str y))) σ S=.ok (.bl k) S:=fun y k e hk=>by
  rw [<- hk]; exact aP (aq (r_v e) r_c (aB (gf _))) r_c (nH _ _ _)
 have two:∀ {x y:D} {σ:Sg} (e:br σ 0 S=.ok (.tup [x,y]) S),evT sub (ah sub P (n+2)) (.cmp .ne (.bi .len (.cs (.v 0) .nl)) (.c (.int 2))) σ S=.ok false S:=fun e =>
  aO (aP (aT (af (r_v e) ai) eZ) r_c (n_ _ _ _))
 cases s with
 | val v =>
  exact x_call h.source rfl (ak (aN (first (x:="value") rfl 2 rfl (by decide) (by decide)) aR) (ak (aN (aO (word "work" (x:="value") rfl (by decide +kernel))) aR) (ak (aN (two rfl) aR) (ak (aN (aO (word "input" (x:="value") rfl (by decide +kernel))) aR)
   (aK (fE (word "value" (x:="value") rfl (by decide +kernel)) (aA (af (aq (r_v rfl) r_c (aB rfl)) ai) (rK h hs.1 hs.2)))))))) (dJ _ _)
 | inp k =>
  have hk:k < streams:=hs
  exact x_call h.source rfl (ak (aN (first (x:="input") rfl 2 rfl (by decide) (by decide)) aR) (ak (aN (aO (word "work" (x:="input") rfl (by decide +kernel))) aR) (ak (aN (two rfl) aR) (dN (cC (aO (word "input" (x:="input") rfl (by decide +kernel)))
   (aK (aA (af (aq (r_v rfl) r_c (aB rfl)) (af r_c (af (bB (r_v rfl) r_c (f_ _ _ _)) ai))) (dc h.whole (Qz k) (by omega))))))))) (dJ _ _)
 | wrk w b =>
  exact x_call h.source rfl (ak (aN (first (x:="work") rfl 3 rfl (by decide) (by decide)) aR) (dN (cC (aO (word "work" (x:="work") rfl (by decide +kernel))) (aK (aA (af (r_v rfl) (af (r_v rfl) (af (r_v rfl) ai))) (C3 h hs.1 hs.2)))))) (dJ _ _)
theorem Ei {x:Str} (h:x∈dF):cmD .bU (.str x) (.tup [(.str "plus"),(.str "less"),(.str "times"),(.str "least"),(.str "greatest")]) S=.ok (.bl false) S:=by
 have h:x = "plus"\/x = "less"\/x = "times"\/x = "least"\/x = "greatest":=by simpa [dF] using h
 rcases h with rfl|rfl|rfl|rfl|rfl <;> rfl
theorem Gq (h:HB P) {w:Wk} {own many streams ncrews:Nat} (hw:w.WF own many streams ncrews):ah sub P (n+4) "is_work" [w.toD,.int own,.int many,.int streams,.int ncrews] S=.ok (.bl true) S:=by
 have hc:=hw.crew
 obtain ⟨T,e⟩:=lG (sub:=sub) (cf:=ah sub P (n+3)) (σ:=[some w.toD,some (.int own),some (.int many),some (.int streams),some (.int ncrews),some (.tup (w.srcs.map Srs.toD))]) (S:=S) (i:=7) (k:=2) (el:=.call "is_source" (.cs (.v 7) (.cs (.v 1) (.cs (.v 2) (.cs (.v 3) .nl))))) (a:=.v 5) (l:=w.srcs) (f:=Srs.toD) (r_v rfl) (by have:=hw.some; omega) (fun s hm=>aA (af (r_v rfl) (af (r_v rfl) (af (r_v rfl) (af (r_v rfl) ai)))) (yE h (hw.srcs s hm)))
 refine x_call h.work rfl (ak (aN (bQ (k:=true) (bM (aA (af (r_v rfl) (af r_c (af r_c ai))) (jl h.row 5 rfl (by decide) (by decide))))) aR)
  (ak (aN (c8 (bQ (k:=true) (bM (aA (af (aq (r_v rfl) r_c (aB rfl)) (af r_c (af (bB (r_v rfl) r_c (f_ _ _ _)) ai))) (dc h.whole (Qz _) (by omega))))) (k:=false)
   (bQ (k:=true) (bM (aA (af (aq (r_v rfl) r_c (aB rfl)) (af r_c (af r_c ai))) (dc h.whole (XU.mpr hw.long.1) (XU.mpr hw.long.2)))))) aR)
  (ak (aN (c8 (bQ (k:=true) (iE (aT (af (aq (r_v rfl) r_c (aB rfl)) ai) (iQ rfl)))) (aO (aP (aq (r_v rfl) r_c (aB rfl)) r_c (Ei hw.doing)))) aR)
  (ak (aL (aq (r_v rfl) r_c (aB rfl)))
  (ak (aN (c8 (bQ (k:=true) (bM (aA (af (r_v rfl) (af r_c (af r_c ai))) (ia h.row (ds:=w.srcs.map Srs.toD) ?_ ?_)))) (k:=false) (bQ (k:=true) (bM (aA (af (aq (r_v rfl) r_c (aB rfl)) ai) (yP h hw.three hw.starts))))) aR)
  (aK e)))))) (iz _ _ _)
 ·rw [Zb]; have:=hw.some; omega
 ·rw [Zb]; have:=hw.some; omega
theorem xV (h:HB P) {ws:List Wk} {streams ncrews:Nat} (h1:1<=ws.length) (h2:ws.length<=8) (hw:∀ (i:Nat) w,ws[i]?=some w->w.WF i ws.length streams ncrews):ah sub P (n+5) "are_works" [.tup (ws.map Wk.toD),.int streams,.int ncrews] S=.ok (.bl true) S:=by
 have hc:=rC (sub:=sub) (cf:=ah sub P (n+4)) (k:=3) (is:=[5,6]) (el:=.call "is_work" (.cs (.v 6) (.cs (.v 5) (.cs (.v 3) (.cs (.v 1) (.cs (.v 2) .nl)))))) (it:=.iEnum (.v 0))
  (σ:=[some (.tup (ws.map Wk.toD)),some (.int streams),some (.int ncrews),some (.int ws.length)]) (S:=S) (S1:=S) (s:=⟨num 0 (ws.map Wk.toD),none,ws.map Wk.toD⟩) (g:=fun _=>.bl true) rfl rfl (fun d hd=>by
   obtain ⟨i,hi,rfl⟩:=List.mem_iff_getElem.mp hd
   have hi':i < ws.length:=by rw [f6,Zb] at hi; exact hi
   refine ⟨_,jB _ 0 i hi,rfl,?_⟩
   rw [Qm,Xm]
   exact aA (af (r_v rfl) (af (r_v rfl) (af (r_v rfl) (af (r_v rfl) (af (r_v rfl) ai))))) (Gq h (hw i _ (Zc hi')))) (by unfold aG; rw [f6,Zb]; omega)
 have ha:ev sub (ah sub P (n+4)) (.bi .all (.cs (.comp 3 (.call "is_work" (.cs (.v 6) (.cs (.v 5) (.cs (.v 3) (.cs (.v 1) (.cs (.v 2) .nl)))))) (.many [5,6]) (.iEnum (.v 0)) .nl) .nl)) [some (.tup (ws.map Wk.toD)),some (.int streams),some (.int ncrews),some (.int ws.length)] S=.ok (.bl true) (S++[.lst ((num 0 (ws.map Wk.toD)).map fun _=>.bl true)]) :=
  aT (af hc ai) ((uz _ fun _=>true).trans (by rw [Xa.mpr fun _ _=>rfl]))
 refine x_call h.works rfl (ak (aN (bQ (k:=true) (bM (aA (af (r_v rfl) (af r_c (af r_c ai))) (ia h.row (ds:=ws.map Wk.toD) ?_ ?_)))) aR)
  (ak (aL (d:=.int ws.length) (S1:=S) ?_) (aK ha))) (iz _ _ _)
 ·rw [Zb]; omega
 ·rw [Zb]; omega
 ·have:=eZ (sub:=sub) (S:=S) (xs:=ws.map Wk.toD)
  rw [Zb] at this
  exact aT (af (r_v rfl) ai) this
theorem wc (h:HB P) {d0:D} {many:Nat} {s:Src} (hs:∀ T,aH s T=.ok () T):∀ (l:W7) (least:Nat) (x:Option D),ee many least l->∃ σ',forL s (bA sub (ah sub P (n+1)) (.one 3) (.seq (.ite (.not (.call "is_whole" (.cs (.v 3) (.cs (.v 2) (.cs (.bin .sub (.v 1) (.c (.int 1))) .nl))))) (.ret (.c (.bl false))) .skip) (.set (.one 2) (.bin .add (.v 3) (.c (.int 1))))))
   (l.map bG) [some d0,some (.int many),some (.int least),x] S=.ok (.nx σ') S
 | [],least,x,_=>⟨_,by rw [X7,j8,hs,Res.aj]⟩
 | k::r,least,x,⟨h1,h2,h3⟩=>by
  obtain ⟨σ',e⟩:=wc h hs r (k+1) (some (bG k)) h3
  refine ⟨σ',?_⟩
  rw [ZC,jh,hs,Res.aj,lI,ak (aN (bQ (k:=true) (bM (aA (af (r_v rfl) (af (r_v rfl) (af (bB (r_v rfl) r_c (f_ _ _ _)) ai))) (dc h.whole (XU.mpr h1) (by omega))))) aR) (aL (bB (r_v rfl) r_c (jR _ _ _)))]
  exact e
theorem tH {many:Nat}:∀ {l:W7} {least:Nat},ee many least l->least<=many->l.length+least<=many
 | [],_,_,h=>by simpa using h
 | k::r,least,⟨h1,h2,h3⟩,_=>by
  have:=tH h3 (by omega)
  simp only [ZB]; omega
theorem xr (h:HB P) {os:W7} {many:Nat} (h1:1<=os.length) (hr:ee many 0 os):ah sub P (n+2) "are_outs" [.tup (os.map bG),.int many] S=.ok (.bl true) S:=by
 have hl:=tH hr (Xf _)
 obtain ⟨σ',e⟩:=wc (sub:=sub) (n:=n) (S:=S) (d0:=.tup (os.map bG)) (s:=⟨os.map bG,none,os.map bG⟩) h (fun _=>rfl) os 0 none hr
 exact x_call h.outs rfl (ak (aN (bQ (k:=true) (bM (aA (af (r_v rfl) (af r_c (af (r_v rfl) ai))) (ia h.row (ds:=os.map bG) (by rw [Zb]; omega) (by rw [Zb]; omega))))) aR)
  (ak (aL r_c) (ak (dX (bu (r_v rfl) rfl) e) (aK r_c)))) (dJ _ _)
theorem Gk (h:HB P) {l:Lp} (hl:l.WF):ah sub P (n+6) "is_loop" [l.toD] S=.ok (.bl true) S:=by
 have e1:=eZ (sub:=sub) (S:=S) (xs:=l.crews.map aU)
 have e2:=eZ (sub:=sub) (S:=S) (xs:=l.works.map Wk.toD)
 rw [Zb] at e1 e2
 exact x_call h.loop rfl (ak (aN (bQ (k:=true) (bM (aA (af (r_v rfl) (af r_c (af r_c ai))) (jl h.row 4 rfl (by decide) (by decide))))) aR)
  (ak (aN (c8 (bQ (k:=true) (bM (aA (af (aq (r_v rfl) r_c (aB rfl)) (af r_c (af r_c ai))) (dc h.whole (Qz _) (XU.mpr hl.streams))))) (k:=false)
   (bQ (k:=true) (bM (aA (af (aq (r_v rfl) r_c (aB rfl)) ai) (BR h hl.ncrews.1 hl.ncrews.2 hl.crews))))) aR)
  (aK (fE (aA (af (aq (r_v rfl) r_c (aB rfl)) (af (aq (r_v rfl) r_c (aB rfl)) (af (aT (af (aq (r_v rfl) r_c (aB rfl)) ai) e1) ai))) (xV h hl.nworks.1 hl.nworks.2 hl.works))
   (aA (af (aq (r_v rfl) r_c (aB rfl)) (af (aT (af (aq (r_v rfl) r_c (aB rfl)) ai) e2) ai)) (xr h hl.nouts hl.outs)))))) (dJ _ _)
end RL

namespace RL
open PySem EV GO
section
local macro_rules|`(tactic| done)=>`(tactic| (first|with_reducible exact r_c|((with_reducible apply r_v); exact rfl)|with_reducible apply bB|with_reducible apply aP|with_reducible apply aq|with_reducible apply aA|with_reducible exact ai|with_reducible apply af|with_reducible apply aT|with_reducible apply gK|with_reducible apply eG|with_reducible apply bO|((with_reducible apply zJ); exact rfl)|with_reducible apply fL|with_reducible apply bM|with_reducible apply iE|with_reducible apply aO|with_reducible exact jR _ _ _|with_reducible exact f_ _ _ _|((with_reducible apply lQ); first|decide|assumption|omega)|((with_reducible apply f7); first|decide|omega)|((with_reducible apply rM); first|decide|omega)|((with_reducible apply tS); decide)|with_reducible exact lz _ _ _|with_reducible exact lE _ _ _|with_reducible exact gB _ _ _|with_reducible exact A5 _ _ _|with_reducible exact dw _ _ _|with_reducible exact nH _ _ _|((with_reducible apply jG); assumption)|with_reducible exact qO|with_reducible exact mH|with_reducible exact eZ|with_reducible exact t_|((with_reducible apply aB); exact rfl)|with_reducible assumption|((apply lQ); first|decide|assumption)|apply dw|apply nH))
noncomputable def uA:Fn:=⟨2,2,(.seq (.ite (.cmp .lt (.v 1) (.bi .len (.cs (.v 0) .nl)))
  (.ret (.ix (.v 0) (.v 1)))
  .skip)
 (.seq (.ite (.cmp .eq (.v 0) (.lst .nl))
  (.ret (.c (.int 0)))
  .skip)
 (.ret (.bin .add (.bin .mul (.ix (.v 0) (.bin .mod (.v 1) (.bi .len (.cs (.v 0) .nl)))) (.c (.int 31))) (.v 1)))))⟩
noncomputable def tU:Fn:=⟨3,4,(.seq (.set (.one 3) (.bin .mod (.bin .mul (.bin .add (.bin .add (.call "_law_cell_at" (.cs (.v 0) (.cs (.v 1) .nl))) (.bin .mul (.c (.int 7919)) (.v 1))) (.c (.int 1))) (.c (.int 48271))) (.c (.int 2147483647))))
 (.ret (.bin .mod (.bin .mod (.bin .add (.bin .add (.bin .mul (.v 3) (.v 3)) (.bin .mul (.c (.int 7)) (.v 3))) (.v 1)) (.c (.int 2147483629))) (.v 2))))⟩
noncomputable def rg:Fn:=⟨5,7,(.seq (.set (.one 5) (.call "_law_mixed" (.cs (.v 0) (.cs (.v 1) (.cs (.c (.int 7)) .nl)))))
 (.seq (.ite (.or (.cmp .eq (.v 5) (.c (.int 0))) (.and (.cmp .eq (.v 5) (.c (.int 1))) (.cmp .eq (.v 2) (.c (.int 0)))))
  (.ret (.tup (.cs (.c (.str "value")) (.cs (.call "_law_mixed" (.cs (.v 0) (.cs (.bin .add (.v 1) (.c (.int 1))) (.cs (.c (.int 9973)) .nl)))) .nl))))
  .skip)
 (.seq (.ite (.cmp .eq (.v 5) (.c (.int 1)))
  (.ret (.tup (.cs (.c (.str "input")) (.cs (.call "_law_mixed" (.cs (.v 0) (.cs (.bin .add (.v 1) (.c (.int 1))) (.cs (.v 2) .nl)))) .nl))))
  .skip)
 (.seq (.set (.one 6) (.call "_law_mixed" (.cs (.v 0) (.cs (.bin .add (.v 1) (.c (.int 1))) (.cs (.v 3) .nl)))))
 (.seq (.ite (.and (.cmp .lt (.v 6) (.v 4)) (.cmp .lt (.v 5) (.c (.int 5))))
  (.ret (.tup (.cs (.c (.str "work")) (.cs (.v 6) (.cs (.c (.int 0)) .nl)))))
  .skip)
 (.ret (.tup (.cs (.c (.str "work")) (.cs (.v 6) (.cs (.bin .add (.c (.int 1)) (.call "_law_mixed" (.cs (.v 0) (.cs (.bin .add (.v 1) (.c (.int 2))) (.cs (.c (.int 3)) .nl))))) .nl))))))))))⟩
noncomputable def r_:Fn:=⟨4,12,(.seq (.set (.many [4,5,6]) (.v 2))
 (.seq (.set (.one 7) (.lst .nl))
 (.seq (.forS (.one 8) (.iRng (.cs (.bin .add (.c (.int 1)) (.call "_law_mixed" (.cs (.v 0) (.cs (.bin .add (.v 1) (.c (.int 2))) (.cs (.c (.int 2)) .nl))))) .nl))
  (.ex (.me .append (.v 7) (.cs (.call "_law_source" (.cs (.v 0) (.cs (.bin .add (.bin .add (.v 1) (.c (.int 3))) (.bin .mul (.c (.int 3)) (.v 8))) (.cs (.v 4) (.cs (.v 6) (.cs (.v 3) .nl)))))) .nl))))
 (.seq (.set (.one 9) (.ix (.lst (.cs (.c (.str "plus")) (.cs (.c (.str "less")) (.cs (.c (.str "times")) (.cs (.c (.str "least")) (.cs (.c (.str "greatest")) .nl)))))) (.call "_law_mixed" (.cs (.v 0) (.cs (.v 1) (.cs (.c (.int 5)) .nl))))))
 (.seq (.set (.one 10) (.bin .add (.c (.int 1)) (.call "_law_mixed" (.cs (.v 0) (.cs (.bin .add (.v 1) (.c (.int 1))) (.cs (.ix (.lst (.cs (.c (.int 2)) (.cs (.c (.int 5)) .nl))) (.call "_law_mixed" (.cs (.v 0) (.cs (.bin .add (.v 1) (.c (.int 2))) (.cs (.c (.int 2)) .nl))))) .nl))))))
 (.seq (.set (.one 11) (.bi .tuple (.cs (.comp 2 (.call "_law_mixed" (.cs (.v 0) (.cs (.bin .add (.v 1) (.v 13)) (.cs (.c (.int 9973)) .nl)))) (.one 13) (.iSeq (.tup (.cs (.c (.int 0)) (.cs (.c (.int 5)) (.cs (.c (.int 6)) .nl))))) .nl) .nl)))
 (.ret (.tup (.cs (.call "_law_mixed" (.cs (.v 0) (.cs (.bin .add (.v 1) (.c (.int 7))) (.cs (.v 5) .nl)))) (.cs (.v 10) (.cs (.v 9) (.cs (.bi .tuple (.cs (.v 7) .nl)) (.cs (.v 11) .nl)))))))))))))⟩
noncomputable def tO:Fn:=⟨3,9,(.seq (.set (.one 3) (.call "_law_mixed" (.cs (.v 0) (.cs (.v 1) (.cs (.c (.int 3)) .nl)))))
 (.seq (.set (.one 4) (.bin .add (.c (.int 1)) (.call "_law_mixed" (.cs (.v 0) (.cs (.bin .add (.v 1) (.c (.int 1))) (.cs (.v 2) .nl))))))
 (.seq (.set (.one 5) (.lst .nl))
 (.seq (.forS (.one 6) (.iRng (.cs (.bin .add (.c (.int 1)) (.call "_law_mixed" (.cs (.v 0) (.cs (.bin .add (.v 1) (.c (.int 2))) (.cs (.c (.int 2)) .nl))))) .nl))
  (.ex (.me .append (.v 5) (.cs (.tup (.cs (.bin .add (.c (.int 1)) (.call "_law_mixed" (.cs (.v 0) (.cs (.bin .add (.bin .add (.v 1) (.c (.int 3))) (.v 6)) (.cs (.c (.int 2)) .nl))))) (.cs (.bin .add (.c (.int 1)) (.bin .fdiv (.call "_law_mixed" (.cs (.v 0) (.cs (.bin .add (.bin .add (.v 1) (.c (.int 5))) (.v 6)) (.cs (.c (.int 5)) .nl)))) (.c (.int 2)))) .nl))) .nl))))
 (.seq (.set (.one 7) (.lst .nl))
 (.seq (.forS (.one 6) (.iRng (.cs (.v 4) .nl))
  (.ex (.me .append (.v 7) (.cs (.call "_law_work" (.cs (.v 0) (.cs (.bin .add (.bin .add (.v 1) (.c (.int 7))) (.bin .mul (.c (.int 9)) (.v 6))) (.cs (.tup (.cs (.v 3) (.cs (.bi .len (.cs (.v 5) .nl)) (.cs (.v 4) .nl)))) (.cs (.v 6) .nl))))) .nl))))
 (.seq (.set (.one 8) (.comp 2 (.v 10) (.one 10) (.iRng (.cs (.v 4) .nl)) (.cmp .gt (.call "_law_mixed" (.cs (.v 0) (.cs (.bin .add (.bin .add (.v 1) (.c (.int 7))) (.v 10)) (.cs (.c (.int 3)) .nl)))) (.c (.int 0)))))
 (.seq (.ite (.cmp .eq (.v 8) (.lst .nl))
  (.set (.one 8) (.lst (.cs (.bin .sub (.v 4) (.c (.int 1))) .nl)))
  .skip)
 (.ret (.tup (.cs (.v 3) (.cs (.bi .tuple (.cs (.v 5) .nl)) (.cs (.bi .tuple (.cs (.v 7) .nl)) (.cs (.bi .tuple (.cs (.v 8) .nl)) .nl))))))))))))))⟩
theorem Srs.cl (s:Srs):s.toD.cl:=by cases s <;> rfl
theorem Wk.cl (w:Wk):w.toD.cl:=by
 show (true&&(true&&(true&&(D.lows 0 (w.srcs.map Srs.toD)&&(D.lows 0 (w.starts.map .int)&&true)))))=true
 rw [kO Srs.cl,GG]; rfl
theorem Lp.cl (l:Lp):l.toD.cl:=by
 show (true&&(D.lows 0 (l.crews.map aU)&&(D.lows 0 (l.works.map Wk.toD)&&(D.lows 0 (l.outs.map bG)&&true))))=true
 rw [kO (f:=aU) fun _=>rfl,kO Wk.cl,kO (f:=bG) fun _=>rfl]; rfl
theorem j7 {sub:Sub} {P:Prg} {n:Nat} {S:aa} (h:HB P) {l:Lp} (hw:l.WF):ah sub P (n+7) "checked" [l.toD] S=.ok l.toD S :=
 x_call h.checked rfl (ak (aN (bQ (k:=true) (bM (aA (af (r_v rfl) ai) (Gk h hw)))) aR) (aK (r_v rfl))) (b7 l.cl Z4)
def cellAt (ns:WJ) (k:Int):Int:=if k < ns.length then ns.getD k.toNat 0 else if ns.length=0 then 0 else ns.getD (k % (ns.length:Int)).toNat 0 * 31+k
def drawn (ns:WJ) (k:Int):Int:=(cellAt ns k+7919 * k+1) * 48271 % 2147483647
def mixed (ns:WJ) (k m:Int):Int:=(drawn ns k * drawn ns k+7 * drawn ns k+k) % 2147483629 % m
theorem BH (ns:WJ) (k:Int) {m:Int} (h:0 < m):0<=mixed ns k m/\mixed ns k m < m:=⟨QU _ (by omega),Qw _ h⟩
structure HG (P:Prg):Prop where
 cell:Has P "_law_cell_at" uA
 mix:Has P "_law_mixed" tU
 source:Has P "_law_source" rg
 work:Has P "_law_work" r_
 loop:Has P "_law_loop" tO
variable {sub:Sub} {P:Prg} {n:Nat} {S:aa}
theorem wM {ns:WJ} {k:Int} (h0:0<=k) (h:k < ns.length):atI (ns.map D.int) k=some (.int (ns.getD k.toNat 0)):=by
 obtain ⟨j,rfl⟩:=Int.eq_ofNat_of_zero_le h0
 rw [nR]
 have hj:j < ns.length:=by omega
 simp [hj]
theorem eq_empty (ns:WJ) (S:aa):cmD .eq (.fro (ns.map .int)) (.loc S.length) (S++[.lst []])=.ok (.bl (decide (ns.length=0))) (S++[.lst []]):=by
 rw [uh]
 have:eqD deep (S++[.lst []]) (.fro (ns.map .int)) (.loc S.length)=some (decide (ns.length=0)):=by
  show (match some (ns.map D.int),listAt (S++[.lst []]) S.length with|some xs,some ys=>if xs.length=ys.length then bR _ xs ys else some false|_,_=>none)=_
  have e:listAt (S++[.lst []]) S.length=some []:=by unfold listAt; simp
  rw [e]
  cases ns <;> simp [bR]
 rw [this]
theorem z8 (h:HG P) (ns:WJ) {k:Int} (hk:0<=k):ah sub P (n+1) "_law_cell_at" [.fro (ns.map .int),.int k] S=.ok (.int (cellAt ns k)) S:=by
 have hl:∀ S:aa,biD sub .len [.fro (ns.map .int)] S=.ok (.int ns.length) S:=fun S=>by
  have:=t_ (sub:=sub) (S:=S) (xs:=ns.map .int)
  rw [Zb] at this
  exact this
 have e1:∀ {b:Bool},decide (k < (ns.length:Int))=b->evT sub (ah sub P n) (.cmp .lt (.v 1) (.bi .len (.cs (.v 0) .nl))) [some (.fro (ns.map .int)),some (.int k)] S=.ok b S:=fun e=>t_k (aO (aP (r_v rfl) (aT (af (r_v rfl) ai) (hl _)) (lz _ _ _))) e
 have e2:∀ {b:Bool},decide (ns.length=0)=b->evT sub (ah sub P n) (.cmp .eq (.v 0) (.lst .nl)) [some (.fro (ns.map .int)),some (.int k)] S=.ok b (S++[.lst []]):=fun e=>t_k (aO (aP (r_v rfl) (bO ai rfl) (eq_empty ns S))) e
 unfold cellAt
 by_cases h1:k < ns.length
 ·rw [Zd h1]
  exact x_call h.cell rfl (dN (cC (e1 (Zj h1)) (aK (aq (r_v rfl) (r_v rfl) (wz (wM hk h1)))))) (gF _ _)
 rw [Ze h1]
 by_cases h2:ns.length=0
 ·rw [Zd h2]
  exact x_call h.cell rfl (ak (aN (e1 (Zq h1)) aR) (dN (cC (e2 (Zj h2)) (aK r_c)))) (gp _ _ _)
 ·rw [Ze h2]
  have h3:0 < (ns.length:Int):=by omega
  exact x_call h.cell rfl (ak (aN (e1 (Zq h1)) aR) (ak (aN (e2 (Zq h2)) aR) (aK (bB (bB (aq (r_v rfl) (bB (r_v rfl) (aT (af (r_v rfl) ai) (hl _)) (lQ h3)) (wz (wM (QU k (by omega)) (Qw k h3)))) r_c (rM (by decide))) (r_v rfl) (jR _ _ _))))) (gp _ _ _)
theorem IJ (h:HG P) (ns:WJ) {k m:Int} (hk:0<=k) (hm:0 < m):ah sub P (n+2) "_law_mixed" [.fro (ns.map .int),.int k,.int m] S=.ok (.int (mixed ns k m)) S:=by
 have hc:=z8 (sub:=sub) (n:=n) (S:=S) h ns hk
 have h1:0<=drawn ns k:=QU _ (by decide)
 have h2:drawn ns k < 2147483647:=Qw _ (by decide)
 refine x_call h.mix rfl (ak (aL (d:=.int (drawn ns k)) (S1:=S) ?_) (aK (d:=.int (mixed ns k m)) (S1:=S) ?_)) (b7 rfl (by simp)) <;> (repeat' done)
structure Mix (P:Prg) (mx:List Int->Int->Int->Int):Prop where
 ok:∀ {sub:Sub} {n:Nat} {S:aa} (ns:WJ) {k m:Int},0<=k->0 < m->ah sub P (n+2) "_law_mixed" [.fro (ns.map .int),.int k,.int m] S=.ok (.int (mx ns k m)) S
 rng:∀ (ns:WJ) (k:Int) {m:Int},0 < m->0<=mx ns k m/\mx ns k m < m
theorem Gz (h:HG P):∃ mx,Mix P mx:=⟨mixed,fun ns _ _ hk hm=>IJ h ns hk hm,fun ns k _ h=>BH ns k h⟩
variable {mx:List Int->Int->Int->Int}
noncomputable def ez (mx:List Int->Int->Int->Int) (ns:WJ) (at':Int) (streams many own:Nat):Srs :=
 if mx ns at' 7=0\/(mx ns at' 7=1/\streams=0) then .val (mx ns (at' + 1) 9973)
 else if mx ns at' 7=1 then .inp (mx ns (at' + 1) streams).toNat
 else if (mx ns (at' + 1) many).toNat < own/\mx ns at' 7 < 5 then .wrk (mx ns (at' + 1) many).toNat 0
 else .wrk (mx ns (at' + 1) many).toNat (1+mx ns (at' + 2) 3).toNat
theorem yz (S:aa) (s:Srs):leave S s.toD S=.ok s.toD S:=b7 s.cl (by simp)
theorem toNat_cast {i:Int} (h:0<=i):((i.toNat:Nat):Int)=i:=Wr h
theorem EH (h:HG P) (M:Mix P mx) (ns:WJ) {at':Int} {streams many own:Nat} (hat:0<=at') (hm:0 < many):ah sub P (n+3) "_law_source" [.fro (ns.map .int),.int at',.int streams,.int many,.int own] S=.ok (ez mx ns at' streams many own).toD S:=by
 have hm':(0:Int) < many:=by omega
 have a1:0<=at' + 1:=by omega
 have a2:0<=at' + 2:=by omega
 have m0:=M.ok (sub:=sub) (n:=n) (S:=S) ns (k:=at') (m:=7) hat (by decide)
 have r3:=M.rng ns (at' + 1) hm'
 have m1:=M.ok (sub:=sub) (n:=n) (S:=S) ns (k:=at' + 1) (m:=9973) a1 (by decide)
 have m3:=M.ok (sub:=sub) (n:=n) (S:=S) ns (k:=at' + 1) (m:=many) a1 hm'
 have m4:=M.ok (sub:=sub) (n:=n) (S:=S) ns (k:=at' + 2) (m:=3) a2 (by decide)
 have r4:=M.rng ns (at' + 2) (show (0:Int) < 3 by decide)
 unfold ez
 generalize hw:mx ns at' 7=w at m0
 refine x_call (S1:=S) h.source rfl (ak (aL (d:=.int w) (S1:=S) (by (repeat' done))) ?_) (yz S _)
 by_cases w0:w=0\/(w=1/\streams=0)
 ·rw [Zd w0]
  refine dN (cC (S1:=S) ?_ (show _=Res.ok (Fl.rt (.tup [.str "value",.int _])) S from aK (by (repeat' done))))
  rcases w0 with rfl|⟨rfl,rfl⟩
  ·exact qH (t_k (by (repeat' done)) rfl)
  ·exact c8 (t_k (S1:=S) (by (repeat' done)) rfl) (fj (t_k (S1:=S) (by (repeat' done)) rfl) (t_k (by (repeat' done)) rfl))
 ·rw [Ze w0]
  refine ak (aN (S1:=S) ?_ aR) ?_
  ·by_cases z:w=0
   ·exact (w0 (.inl z)).elim
   ·by_cases z1:w=1
    ·have hs2:¬ (streams=0):=fun q=>w0 (.inr ⟨z1,q⟩)
     exact c8 (t_k (S1:=S) (by (repeat' done)) (Qx z)) (fj (t_k (S1:=S) (by (repeat' done)) (Qt.mpr z1)) (t_k (by (repeat' done)) (by simp [hs2])))
    ·exact c8 (t_k (S1:=S) (by (repeat' done)) (Qx z)) (gJ (t_k (by (repeat' done)) (Qx z1)))
  ·by_cases w1:w=1
   ·have hs':(0:Int) < streams:=by have:¬ streams=0:=fun q=>w0 (.inr ⟨w1,q⟩); omega
    have m2:=M.ok (sub:=sub) (n:=n) (S:=S) ns (k:=at' + 1) (m:=streams) a1 hs'
    have r2:=toNat_cast (M.rng ns (at' + 1) hs').1
    rw [Zd w1]
    refine dN (cC (S1:=S) (t_k (by (repeat' done)) (Qt.mpr w1)) ?_)
    show _=Res.ok (Fl.rt (.tup [.str "input",.int _])) S
    rw [r2]
    exact aK (by (repeat' done))
   ·rw [Ze w1]
    have t3:=toNat_cast r3.1
    generalize hv:mx ns (at' + 1) many=v at m3 r3 t3
    refine ak (aN (S1:=S) (t_k (by (repeat' done)) (Qx w1)) aR) (ak (aL (d:=.int v) (S1:=S) (by (repeat' done))) ?_)
    by_cases w2:v.toNat < own/\w < 5
    ·rw [Zd w2]
     refine dN (cC (S1:=S) (fj (t_k (S1:=S) (by (repeat' done)) (Zj (by omega))) (t_k (by (repeat' done)) (Zj w2.2))) ?_)
     show _=Res.ok (Fl.rt (.tup [.str "work",.int _,.int 0])) S
     rw [t3]
     exact aK (by (repeat' done))
    ·rw [Ze w2]
     refine ak (aN (S1:=S) ?_ aR) ?_
     ·by_cases w3:v < own
      ·exact fj (t_k (S1:=S) (by (repeat' done)) (Zj w3)) (t_k (by (repeat' done)) (Zq fun z=>w2 ⟨by omega,z⟩))
      ·exact gJ (t_k (by (repeat' done)) (Zq w3))
     ·show _=Res.ok (Fl.rt (.tup [.str "work",.int _,.int _])) S
      rw [t3,toNat_cast (show 0<=1+mx ns (at' + 2) 3 by omega)]
      exact aK (by (repeat' done))
theorem D8 (M:Mix P mx) (ns:WJ) (at':Int) {streams many own:Nat} (hm:0 < many):(ez mx ns at' streams many own).WF own many streams:=by
 have r1:=M.rng ns (at' + 1) (show (0:Int) < 9973 by decide)
 have r3:=M.rng ns (at' + 1) (show (0:Int) < many by omega)
 have r4:=M.rng ns (at' + 2) (show (0:Int) < 3 by decide)
 unfold ez
 by_cases w0:mx ns at' 7=0\/(mx ns at' 7=1/\streams=0)
 ·rw [Zd w0]; exact ⟨r1.1,by omega⟩
 ·rw [Ze w0]
  by_cases w1:mx ns at' 7=1
  ·rw [Zd w1]
   have hs:streams≠0:=fun z=>w0 (.inr ⟨w1,z⟩)
   have r2:=M.rng ns (at' + 1) (show (0:Int) < streams by omega)
   show _ < streams
   omega
  ·rw [Ze w1]
   split
   ·rename_i h; exact ⟨by omega,by simpa using h.1⟩
   ·refine ⟨by omega,?_⟩
    rw [Ze (by omega)]
    omega
def cR (i:Int):Int:=if i=0 then 2 else 5
noncomputable def dO (mx:List Int->Int->Int->Int) (ns:WJ) (at':Int) (streams ncrews many own:Nat):Wk where
 crew:=(mx ns (at' + 7) ncrews).toNat
 long:=(1+mx ns (at' + 1) (cR (mx ns (at' + 2) 2))).toNat
 doing:=dF.getD (mx ns at' 5).toNat "plus"
 srcs:=(List.range (1+mx ns (at' + 2) 2).toNat).map fun (k:Nat)=>ez mx ns (at' + 3+3 * (k:Int)) streams many own
 starts:=[mx ns (at' + 0) 9973,mx ns (at' + 5) 9973,mx ns (at' + 6) 9973]
theorem eB (k:Nat):bG k=.int (k:Int):=rfl
theorem DV {i:Int} (h:0<=i/\i < 2):atI [D.int 2,D.int 5] i=some (.int (cR i)):=by
 rcases (show i=0\/i=1 by omega) with rfl|rfl <;> rfl
theorem yM {i:Int} (h:0<=i/\i < 5):atI [D.str "plus",D.str "less",D.str "times",D.str "least",D.str "greatest"] i=some (.str (dF.getD i.toNat "plus")):=by
 obtain ⟨k,rfl⟩:=Int.eq_ofNat_of_zero_le h.1
 rw [nR]
 have hk:k < 5:=by omega
 exact (by decide:∀ k:Fin 5,[D.str "plus",D.str "less",D.str "times",D.str "least",D.str "greatest"][k.1]?=some (.str (dF.getD ((k.1:Nat):Int).toNat "plus"))) ⟨k,hk⟩
theorem F7 (h:HG P) (M:Mix P mx) (ns:WJ) {at':Int} {streams ncrews many own:Nat} (hat:0<=at') (hm:0 < many) (hc:0 < ncrews) :
  ah sub P (n+4) "_law_work" [.fro (ns.map .int),.int at',.tup [.int streams,.int ncrews,.int many],.int own] S=.ok (dO mx ns at' streams ncrews many own).toD S:=by
 have r2:=M.rng ns (at' + 2) (show (0:Int) < 2 by decide)
 have rl:0 < cR (mx ns (at' + 2) 2):=by unfold cR; split <;> decide
 have hn:(0:Int) < ncrews:=by omega
 have m (k m:Int) (hk:0<=k) (hm:0 < m) (S:aa):ah sub P (n+3) "_law_mixed" [.fro (ns.map .int),.int k,.int m] S=.ok (.int (mx ns k m)) S:=M.ok ns hk hm
 have m2:=m (at' + 2) 2 (by omega) (by decide)
 have m0:=m at' 5 hat (by decide)
 have m7:=m (at' + 7) ncrews (by omega) hn
 have m1:=m (at' + 1) (cR (mx ns (at' + 2) 2)) (by omega) rl
 have hw:=yM (M.rng ns at' (show (0:Int) < 5 by decide))
 have h25:=DV r2
 have val:(dO mx ns at' streams ncrews many own).toD=.tup [.int (mx ns (at' + 7) ncrews),.int (1+mx ns (at' + 1) (cR (mx ns (at' + 2) 2))),.str (dF.getD (mx ns at' 5).toNat "plus"),
   .tup ((List.range (1+mx ns (at' + 2) 2).toNat).map fun (k:Nat)=>(ez mx ns (at' + 3+3 * (k:Int)) streams many own).toD),.tup [.int (mx ns (at' + 0) 9973),.int (mx ns (at' + 5) 9973),.int (mx ns (at' + 6) 9973)]]:=by
  have e1:=toNat_cast (M.rng ns (at' + 7) hn).1
  have e2:=toNat_cast (i:=1+mx ns (at' + 1) (cR (mx ns (at' + 2) 2))) (by have:=M.rng ns (at' + 1) rl; omega)
  unfold dO Wk.toD
  rw [e1,e2,ZX]; rfl
 have hcl:=(dO mx ns at' streams ncrews many own).cl
 rw [val] at hcl ⊢
 generalize hq:(1+mx ns (at' + 2) 2).toNat=q at hcl
 have hq':(1+mx ns (at' + 2) 2)=(q:Int):=by omega
 obtain ⟨x,loop⟩:=ng (sub:=sub) (cf:=ah sub P (n+3)) (i:=8) (j:=7) (l:=S.length)
   (it:=.iRng (.cs (.bin .add (.c (.int 1)) (.call "_law_mixed" (.cs (.v 0) (.cs (.bin .add (.v 1) (.c (.int 2))) (.cs (.c (.int 2)) .nl))))) .nl))
   (e:=.call "_law_source" (.cs (.v 0) (.cs (.bin .add (.bin .add (.v 1) (.c (.int 3))) (.bin .mul (.c (.int 3)) (.v 8))) (.cs (.v 4) (.cs (.v 6) (.cs (.v 3) .nl))))))
   (σ:=[some (.fro (ns.map .int)),some (.int at'),some (.tup [.int streams,.int ncrews,.int many]),some (.int own),some (.int streams),some (.int ncrews),some (.int many),some (.loc S.length),none,none,none,none])
   (S:=S++[.lst []]) (S1:=S++[.lst []]) (xs:=[]) (ks:=List.range q) (f:=bG) (g:=fun (k:Nat)=>(ez mx ns (at' + 3+3 * (k:Int)) streams many own).toD) (o:=none) (raw:=[])
   (iH (by (repeat' (first|done|with_reducible exact m2 _))) hq' (by omega) eB) rfl (aD _ _) (by decide) (WD (by exact Ql 3)) (fun _=>rfl)
   (fun k _ ys=>by
    have:=EH (sub:=sub) (n:=n) (S:=List.set (S++[.lst []]) S.length (.lst ys)) h M ns (at':=at' + 3+3 * (k:Int)) (streams:=streams) (many:=many) (own:=own) (by omega) hm
    rw [eB]
    (repeat' done)) (by unfold aG; rw [ZL,XH]; omega)
 rw [jo,Qb] at loop
 have comp:∀ (y:Option D) (d1 d2:D) (T:aa),ev sub (ah sub P (n+3)) (.comp 2 (.call "_law_mixed" (.cs (.v 0) (.cs (.bin .add (.v 1) (.v 13)) (.cs (.c (.int 9973)) .nl)))) (.one 13) (.iSeq (.tup (.cs (.c (.int 0)) (.cs (.c (.int 5)) (.cs (.c (.int 6)) .nl))))) .nl)
   [some (.fro (ns.map .int)),some (.int at'),some (.tup [.int streams,.int ncrews,.int many]),some (.int own),some (.int streams),some (.int ncrews),some (.int many),some (.loc S.length),y,some d1,some d2,none] T =
   .ok (.loc T.length) (T++[.lst [.int (mx ns (at' + 0) 9973),.int (mx ns (at' + 5) 9973),.int (mx ns (at' + 6) 9973)]]):=fun y d1 d2 T =>
  fT (ks:=[0,5,6]) (f:=D.int) (g:=fun k=>.int (mx ns (at' + k) 9973)) (bu (x:=.tup [.int 0,.int 5,.int 6]) (by (repeat' done)) rfl) rfl (fun k hk=>by
   have hk:0<=k:=by
    have:k=0\/k=5\/k=6:=by simpa using hk
    omega
   have:=m (at' + k) 9973 (by omega) (by decide) T
   (repeat' done)) (by decide)
 have go:∀ (T:aa),(S++.lst ((List.range q).map fun (k:Nat)=>(ez mx ns (at' + 3+3 * (k:Int)) streams many own).toD)::T)[S.length]?=some (.lst ((List.range q).map fun (k:Nat)=>(ez mx ns (at' + 3+3 * (k:Int)) streams many own).toD)):=fun T=>dZ S T _
 refine x_call h.work rfl (ak (pH (ds:=[.int streams,.int ncrews,.int many]) (r_v rfl) rfl) (ak (aL (bO ai rfl)) (ak loop (ak (aL (by (repeat' (first|done|with_reducible exact m0 _))))
  (ak (aL (by (repeat' (first|done|with_reducible exact m2 _|with_reducible exact m1 _)))) (ak (aL (aT (af (comp _ _ _ _) ai) qO)) (aK (eG (af (by (repeat' (first|done|with_reducible exact m7 _))) (af (r_v rfl) (af (r_v rfl) (af (aT (af (r_v rfl) ai) (fz (by rw [Zs,Zs,Zs]; exact go _))) (af (r_v rfl) ai))))) rfl)))))))) (b7 hcl (by rw [Zs,Zs,Zs]; exact cD _ _))
theorem C6 (M:Mix P mx) (ns:WJ) (at':Int) {streams ncrews many own:Nat} (hm:0 < many) (hc:0 < ncrews):(dO mx ns at' streams ncrews many own).WF own many streams ncrews:=by
 have r2:=M.rng ns (at' + 2) (show (0:Int) < 2 by decide)
 have r5:=M.rng ns at' (show (0:Int) < 5 by decide)
 have rl:0 < cR (mx ns (at' + 2) 2)/\cR (mx ns (at' + 2) 2)<=5:=by unfold cR; split <;> decide
 have r1:=M.rng ns (at' + 1) rl.1
 have r7:=M.rng ns (at' + 7) (show (0:Int) < ncrews by omega)
 refine ⟨?_,⟨?_,?_⟩,?_,⟨?_,?_⟩,fun s hs=>?_,rfl,fun v hv=>?_⟩
 ·show (mx ns (at' + 7) ncrews).toNat < ncrews; omega
 ·show 1<=(1+mx ns (at' + 1) (cR (mx ns (at' + 2) 2))).toNat; omega
 ·show (1+mx ns (at' + 1) (cR (mx ns (at' + 2) 2))).toNat<=8; omega
 ·show dF.getD (mx ns at' 5).toNat "plus"∈dF
  rw [ZJ,Zc (show (mx ns at' 5).toNat < dF.length by show _ < 5; omega)]
  exact Xo _
 ·show 1<=((List.range (1+mx ns (at' + 2) 2).toNat).map _).length
  rw [Zb,ZL]; omega
 ·show ((List.range (1+mx ns (at' + 2) 2).toNat).map _).length<=3
  rw [Zb,ZL]; omega
 ·obtain ⟨k,_,rfl⟩:=Zy.mp hs
  exact D8 M ns _ hm
 ·have:∀ k,0<=mx ns k 9973/\mx ns k 9973<=9972:=fun k=>by have:=M.rng ns k (show (0:Int) < 9973 by decide); omega
  have hv:v∈[mx ns (at' + 0) 9973,mx ns (at' + 5) 9973,mx ns (at' + 6) 9973]:=hv
  simp at hv
  rcases hv with rfl|rfl|rfl <;> exact this _
noncomputable def gG (mx:List Int->Int->Int->Int) (ns:WJ) (at':Int) (k:Nat):Nat × Nat:=((1+mx ns (at' + 3+(k:Int)) 2).toNat,(1+mx ns (at' + 5+(k:Int)) 5 / 2).toNat)
noncomputable def cM (mx:List Int->Int->Int->Int) (ns:WJ) (at':Int) (many:Nat):List Nat:=(List.range many).filter fun k=>decide (0 < mx ns (at' + 7+(k:Int)) 3)
noncomputable def cX (mx:List Int->Int->Int->Int) (ns:WJ) (at' most:Int):Lp where
 streams:=(mx ns at' 3).toNat
 crews:=(List.range (1+mx ns (at' + 2) 2).toNat).map (gG mx ns at')
 works:=(List.range (1+mx ns (at' + 1) most).toNat).map fun (k:Nat)=>dO mx ns (at' + 7+9 * (k:Int)) (mx ns at' 3).toNat (1+mx ns (at' + 2) 2).toNat (1+mx ns (at' + 1) most).toNat k
 outs:=if cM mx ns at' (1+mx ns (at' + 1) most).toNat=[] then [(1+mx ns (at' + 1) most).toNat - 1] else cM mx ns at' (1+mx ns (at' + 1) most).toNat
theorem DB (M:Mix P mx) (ns:WJ) {at' most:Int} {nc many:Nat} {os:W7} (hq:(1+mx ns (at' + 2) 2).toNat=nc) (hw:(1+mx ns (at' + 1) most).toNat=many) (ho:(if cM mx ns at' many=[] then [many - 1] else cM mx ns at' many)=os):(cX mx ns at' most).toD =
  .tup [.int (mx ns at' 3),.tup ((List.range nc).map fun (k:Nat)=>aU (gG mx ns at' k)),.tup ((List.range many).map fun (k:Nat)=>(dO mx ns (at' + 7+9 * (k:Int)) (mx ns at' 3).toNat nc many k).toD),.tup (os.map bG)]:=by
 have e0:=toNat_cast (M.rng ns at' (show (0:Int) < 3 by decide)).1
 unfold cX Lp.toD
 simp only [hq,hw,ho,e0,ZX]
 rfl
theorem Gj (h:HG P) (M:Mix P mx) (ns:WJ) {at' most:Int} (hat:0<=at') (hmo:0 < most) (hmo2:most<=8) :
  ah sub P (n+5) "_law_loop" [.fro (ns.map .int),.int at',.int most] S=.ok (cX mx ns at' most).toD S:=by
 have r1:=M.rng ns (at' + 1) hmo
 have r2:=M.rng ns (at' + 2) (show (0:Int) < 2 by decide)
 have m (k m:Int) (hk:0<=k) (hm:0 < m) (S:aa):ah sub P (n+4) "_law_mixed" [.fro (ns.map .int),.int k,.int m] S=.ok (.int (mx ns k m)) S:=M.ok ns hk hm
 have m0:=m at' 3 hat (by decide)
 have m1:=m (at' + 1) most (by omega) hmo
 have m2:=m (at' + 2) 2 (by omega) (by decide)
 have e0:=toNat_cast (M.rng ns at' (show (0:Int) < 3 by decide)).1
 generalize hq:(1+mx ns (at' + 2) 2).toNat=nc
 generalize hw:(1+mx ns (at' + 1) most).toNat=many
 have hq':(1+mx ns (at' + 2) 2)=(nc:Int):=by omega
 have hw':(1+mx ns (at' + 1) most)=(many:Int):=by omega
 have hcl:=(cX mx ns at' most).cl
 generalize ho:(if cM mx ns at' many=[] then [many - 1] else cM mx ns at' many)=os
 rw [DB M ns hq hw ho] at hcl ⊢
 generalize hs:(mx ns at' 3).toNat=streams at e0 hcl ⊢
 obtain ⟨x,loop1⟩:=ng (sub:=sub) (cf:=ah sub P (n+4)) (i:=6) (j:=5) (l:=S.length) (it:=.iRng (.cs (.bin .add (.c (.int 1)) (.call "_law_mixed" (.cs (.v 0) (.cs (.bin .add (.v 1) (.c (.int 2))) (.cs (.c (.int 2)) .nl))))) .nl))
   (e:=.tup (.cs (.bin .add (.c (.int 1)) (.call "_law_mixed" (.cs (.v 0) (.cs (.bin .add (.bin .add (.v 1) (.c (.int 3))) (.v 6)) (.cs (.c (.int 2)) .nl))))) (.cs (.bin .add (.c (.int 1)) (.bin .fdiv (.call "_law_mixed" (.cs (.v 0) (.cs (.bin .add (.bin .add (.v 1) (.c (.int 5))) (.v 6)) (.cs (.c (.int 5)) .nl)))) (.c (.int 2)))) .nl)))
   (σ:=[some (.fro (ns.map .int)),some (.int at'),some (.int most),some (.int (mx ns at' 3)),some (.int (1+mx ns (at' + 1) most)),some (.loc S.length),none,none,none])
   (S:=S++[.lst []]) (S1:=S++[.lst []]) (xs:=[]) (ks:=List.range nc) (f:=bG) (g:=fun (k:Nat)=>aU (gG mx ns at' k)) (o:=none) (raw:=[])
   (iH (by (repeat' (first|done|with_reducible exact m2 _))) hq' (by omega) eB) rfl (aD _ _) (by decide) (WD (by exact Ql 2)) (fun _=>rfl)
   (fun k _ ys=>by
    have q1:=m (at' + 3+(k:Int)) 2 (by omega) (by decide)
    have q2:=m (at' + 5+(k:Int)) 5 (by omega) (by decide)
    have g1:=M.rng ns (at' + 3+(k:Int)) (show (0:Int) < 2 by decide)
    have g2:=M.rng ns (at' + 5+(k:Int)) (show (0:Int) < 5 by decide)
    have t1:=toNat_cast (i:=1+mx ns (at' + 3+(k:Int)) 2) (by omega)
    have t2:=toNat_cast (i:=1+mx ns (at' + 5+(k:Int)) 5 / 2) (by omega)
    rw [eB]
    unfold aU gG
    rw [t1,t2]
    (repeat' (first|done|with_reducible exact q1 _|with_reducible exact q2 _))) (by unfold aG; rw [ZL,XH]; omega)
 rw [jo,Qb] at loop1
 generalize hcr:((List.range nc).map fun (k:Nat)=>aU (gG mx ns at' k))=cr at loop1 hcl ⊢
 have hcrl:cr.length=nc:=by rw [<- hcr,Zb,ZL]
 obtain ⟨y,loop2⟩:=ng (sub:=sub) (cf:=ah sub P (n+4)) (i:=6) (j:=7) (l:=(S++[Cell.lst cr]).length) (it:=.iRng (.cs (.v 4) .nl))
   (e:=.call "_law_work" (.cs (.v 0) (.cs (.bin .add (.bin .add (.v 1) (.c (.int 7))) (.bin .mul (.c (.int 9)) (.v 6))) (.cs (.tup (.cs (.v 3) (.cs (.bi .len (.cs (.v 5) .nl)) (.cs (.v 4) .nl)))) (.cs (.v 6) .nl)))))
   (σ:=[some (.fro (ns.map .int)),some (.int at'),some (.int most),some (.int (mx ns at' 3)),some (.int (1+mx ns (at' + 1) most)),some (.loc S.length),x,some (.loc (S++[Cell.lst cr]).length),none])
   (S:=(S++[.lst cr])++[.lst []]) (S1:=(S++[.lst cr])++[.lst []]) (xs:=[]) (ks:=List.range many) (f:=bG)
   (g:=fun (k:Nat)=>(dO mx ns (at' + 7+9 * (k:Int)) streams nc many k).toD) (o:=none) (raw:=[])
   (iH (by (repeat' done)) hw' (by omega) eB) rfl (aD _ _) (by decide) (WD (by exact Ql 2)) (fun _=>rfl)
   (fun k _ ys=>by
    rw [jo,eB]
    have hd:=F7 (sub:=sub) (n:=n) (S:=(S++[.lst cr])++[.lst ys]) h M ns (at':=at' + 7+9 * (k:Int)) (streams:=streams) (ncrews:=nc) (many:=many) (own:=k) (by omega) (by omega) (by omega)
    rw [e0,<- hw'] at hd
    have hl:biD sub .len [.loc S.length] ((S++[.lst cr])++[.lst ys])=.ok (.int (nc:Int)) ((S++[.lst cr])++[.lst ys]):=by
     rw [<- hcrl]; exact uE (by rw [Zs]; exact dZ _ _ _)
    (repeat' done)) (by unfold aG; rw [ZL,XH]; omega)
 rw [jo,Qb] at loop2
 generalize hwk:((List.range many).map fun (k:Nat)=>(dO mx ns (at' + 7+9 * (k:Int)) streams nc many k).toD)=wk at loop2 hcl ⊢
 generalize hT:(S++[Cell.lst cr])++[Cell.lst wk]=T at loop2
 have gc:∀ U:aa,(T++U)[S.length]?=some (.lst cr):=fun U=>by rw [<- hT,Zs,Zs]; exact dZ _ _ _
 have gw:∀ U:aa,(T++U)[(S++[Cell.lst cr]).length]?=some (.lst wk):=fun U=>by rw [<- hT,Zs]; exact dZ _ _ _
 have tk:∀ U:aa,(T++U).take S.length=S:=fun U=>by rw [<- hT,Zs,Zs]; exact cD _ _
 have comp:=HN (sub:=sub) (cf:=ah sub P (n+4)) (k:=2) (i:=10) (el:=.v 10) (it:=.iRng (.cs (.v 4) .nl)) (tt:=.cmp .gt (.call "_law_mixed" (.cs (.v 0) (.cs (.bin .add (.bin .add (.v 1) (.c (.int 7))) (.v 10)) (.cs (.c (.int 3)) .nl)))) (.c (.int 0)))
   (σ:=[some (.fro (ns.map .int)),some (.int at'),some (.int most),some (.int (mx ns at' 3)),some (.int (1+mx ns (at' + 1) most)),some (.loc S.length),y,some (.loc (S++[Cell.lst cr]).length),none]) (S:=T) (S1:=T) (s:=⟨(List.range many).map bG,none,[]⟩) (g:=id) (p:=fun d=>match d with|.int k=>decide (0 < mx ns (at' + 7+k) 3)|_=>false) rfl
   (iH (by (repeat' done)) hw' (by omega) eB) rfl
   (fun d hd=>by
    obtain ⟨k,_,rfl⟩:=Zy.mp hd
    have:=m (at' + 7+(k:Int)) 3 (by omega) (by decide) T
    rw [eB]
    (repeat' done))
   (fun d hd _=>r_v rfl) (by unfold aG; rw [Zb,ZL]; omega)
 rw [List.map_id,List.filter_map,show List.filter ((fun d=>match d with|.int k=>decide (0 < mx ns (at' + 7+k) 3)|_=>false) ∘ bG) (List.range many)=cM mx ns at' many from rfl] at comp
 refine CT h.loop rfl (ak (aL (by (repeat' (first|done|with_reducible exact m0 _)))) (ak (aL (by (repeat' (first|done|with_reducible exact m1 _)))) (ak (aL (bO ai rfl)) (ak loop1 (ak (aL (bO ai rfl)) (ak loop2 (ak (aL comp) rfl))))))) ?_ hcl
 cases hu:cM mx ns at' many with
 | nil =>
  rw [hu,Zd rfl] at ho
  subst ho
  have t3:((many - 1:Nat):Int)=1+mx ns (at' + 1) most - 1:=by omega
  have hE:cmD .eq (.loc T.length) (.loc (T++[Cell.lst []]).length) ((T++[.lst []])++[.lst []])=.ok (.bl true) ((T++[.lst []])++[.lst []]):=k_ (xs:=[]) (by rw [Zs]; exact dZ _ _ _) (aD _ _)
  refine ⟨_,ak (cC (aO (aP (r_v rfl) (bO ai rfl) hE)) (aL (by (repeat' done)))) (aK (eG (af (r_v rfl) (af (aT (af (r_v rfl) ai) (fz ?_)) (af (aT (af (r_v rfl) ai) (fz ?_)) (af (aT (af (r_v rfl) ai) (fz ?_)) ai)))) rfl)),?_⟩
  ·rw [Zs,Zs]; exact gc _
  ·rw [Zs,Zs]; exact gw _
  ·rw [ZC,eB,t3]; exact aD _ _
  ·rw [Zs,Zs]; exact tk _
 | cons a r =>
  rw [hu,Ze (by intro z; cases z)] at ho
  subst ho
  have hE:cmD .eq (.loc T.length) (.loc (T++[Cell.lst ((a::r).map bG)]).length) ((T++[.lst ((a::r).map bG)])++[.lst []])=.ok (.bl false) ((T++[.lst ((a::r).map bG)])++[.lst []]):=k_ (xs:=(a::r).map bG) (by rw [Zs]; exact dZ _ _ _) (aD _ _)
  refine ⟨_,ak (aN (aO (aP (r_v rfl) (bO ai rfl) hE)) aR) (aK (eG (af (r_v rfl) (af (aT (af (r_v rfl) ai) (fz ?_)) (af (aT (af (r_v rfl) ai) (fz ?_)) (af (aT (af (r_v rfl) ai) (fz ?_)) ai)))) rfl)),?_⟩
  ·rw [Zs]; exact gc _
  ·rw [Zs]; exact gw _
  ·rw [Zs]; exact dZ _ _ _
  ·rw [Zs]; exact tk _
theorem wQ (p:Nat->Bool) (many:Nat):∀ (k c:Nat),k+c<=many->ee many k ((List.range' k c).filter p)
 | k,0,_=>trivial
 | k,c+1,h=>by
  rw [List.range'_succ,List.filter_cons]
  have:=wQ p many (k+1) c (by omega)
  split
  ·exact ⟨Zk _,by omega,this⟩
  ·have low:∀ (l:W7) (a b:Nat),a<=b->ee many b l->ee many a l:=by
    intro l
    cases l with
    | nil=>intros; trivial
    | cons x r=>intro a b hab ⟨h1,h2,h3⟩; exact ⟨by omega,h2,h3⟩
   exact low _ _ _ (XL _) this
theorem BA (M:Mix P mx) (ns:WJ) {at' most:Int} (hmo:0 < most) (hmo2:most<=8):(cX mx ns at' most).WF:=by
 have r0:=M.rng ns at' (show (0:Int) < 3 by decide)
 have r1:=M.rng ns (at' + 1) hmo
 have r2:=M.rng ns (at' + 2) (show (0:Int) < 2 by decide)
 have hw:(cX mx ns at' most).works.length=(1+mx ns (at' + 1) most).toNat:=by simp [cX]
 have hc:(cX mx ns at' most).crews.length=(1+mx ns (at' + 2) 2).toNat:=by simp [cX]
 refine ⟨?_,?_,fun c hcm=>?_,?_,fun i w hi=>?_,?_,?_⟩
 ·show (mx ns at' 3).toNat<=6; omega
 ·rw [hc]; omega
 ·obtain ⟨k,_,rfl⟩:=Zy.mp hcm
  have q1:=M.rng ns (at' + 3+(k:Int)) (show (0:Int) < 2 by decide)
  have q2:=M.rng ns (at' + 5+(k:Int)) (show (0:Int) < 5 by decide)
  simp only [gG]
  omega
 ·rw [hw]; omega
 ·rw [hw,hc]
  have hi':i < (1+mx ns (at' + 1) most).toNat:=by rw [<- hw]; exact (Zg.mp hi).1
  have hi:((List.range (1+mx ns (at' + 1) most).toNat).map fun (k:Nat)=>dO mx ns (at' + 7+9 * (k:Int)) (mx ns at' 3).toNat (1+mx ns (at' + 2) 2).toNat (1+mx ns (at' + 1) most).toNat k)[i]?=some w:=hi
  rw [ZK,List.getElem?_range hi'] at hi
  cases hi
  exact C6 M ns _ (by omega) (by omega)
 ·show 1<=(if cM mx ns at' (1+mx ns (at' + 1) most).toNat=[] then [(1+mx ns (at' + 1) most).toNat - 1] else cM mx ns at' (1+mx ns (at' + 1) most).toNat).length
  split
  ·simp
  ·rename_i h; exact List.length_pos_iff.mpr h
 ·rw [hw]
  show ee _ 0 (if cM mx ns at' (1+mx ns (at' + 1) most).toNat=[] then [(1+mx ns (at' + 1) most).toNat - 1] else cM mx ns at' (1+mx ns (at' + 1) most).toNat)
  split
  ·exact ⟨Xf _,by omega,trivial⟩
  ·unfold cM
   rw [List.range_eq_range']
   exact wQ _ _ 0 _ (by omega)
end
end RL

namespace RL
open PySem EV GO
noncomputable def jP:Fn:=⟨1,5,(.seq (.set (.one 1) (.ix (.call "checked" (.cs (.v 0) .nl)) (.c (.int 2))))
 (.seq (.set (.one 2) (.lst .nl))
 (.seq (.forS (.many [3,4]) (.iEnum (.v 1))
  (.ex (.me .extend (.v 2) (.cs (.comp 2 (.tup (.cs (.ix (.v 6) (.c (.int 1))) (.cs (.v 3) (.cs (.ix (.v 6) (.c (.int 2))) .nl)))) (.one 6) (.iSeq (.ix (.v 4) (.c (.int 3)))) (.cmp .eq (.ix (.v 6) (.c (.int 0))) (.c (.str "work")))) .nl))))
 (.ret (.bi .sortedSet (.cs (.v 2) .nl))))))⟩
noncomputable def tupI (t:WJ):D:=.tup (t.map .int)
noncomputable def cj (behind:Nat):Srs->Option (List Int)
 | .wrk w b=>some [(w:Int),(behind:Int),(b:Int)]
 | _=>none
noncomputable def bx:Nat->List Wk->List (List Int)
 | _,[]=>[]
 | k,w::r=>w.srcs.filterMap (cj k)++bx (k+1) r
theorem iF {sub:Sub} {cf:Ye} {σ:Sg} {S S1:aa} {k i:Nat} {el it tt:E} {α:Type} {ks:List α} {f:α->D} {g:α->Option D} {o:Option Nat} {raw:Yc} (hn:tt.bq=false) (hi:evI sub cf it σ S=.ok ⟨ks.map f,o,raw⟩ S1) (hs:aH ⟨ks.map f,o,raw⟩ S1=.ok () S1)
  (hp:∀ a∈ks,evT sub cf tt ((σ++List.replicate k none).set i (some (f a))) S1=.ok (g a).isSome S1) (hg:∀ a∈ks,∀ d,g a=some d->ev sub cf el ((σ++List.replicate k none).set i (some (f a))) S1=.ok d S1) (hz:ks.length<=aG) :
  ev sub cf (.comp k el (.one i) it tt) σ S=.ok (.loc S1.length) (S1++[.lst (ks.filterMap g)]):=by
 rw [dB,hi]
 simp only [Res.aj]
 have:=mh (s:=⟨ks.map f,o,raw⟩) (f:=f) (fn:=fun d=>aS (.one i) d (σ++List.replicate k none)>>=fun σ'=>(if tt.bq=true then pure true else evT sub cf tt σ')>>=fun b=>if b=true then ev sub cf el σ'>>=fun y=>pure (some y) else pure none) (g:=g) (S:=S1) hs (ks:=ks) (fun d hd=>by
  simp only [ay,gD,Res.aj,hn,Zw,ZU]
  rw [hp d hd]
  cases q:g d with
  | none=>rfl
  | some y=>simp [ay,hg d hd y q])
 rw [dQ this]
 simp only [Res.aj]
 rw [Zd (show fits (ks.filterMap g).length=true from Zj (Z7 (Q3 _ _) hz))]
theorem kE:∀ (ws:List Wk) (k i:Nat) (h:i < ws.length),bx k (ws.take (i+1))=bx k (ws.take i)++(ws[i]).srcs.filterMap (cj (k+i))
 | w::r,k,0,_=>by simp [bx]
 | w::r,k,i+1,h=>by
  have:=kE r (k+1) i (by simpa using h)
  simp only [List.take_succ_cons,bx,List.getElem_cons_succ]
  rw [this,Zs,show k+1+i=k+(i+1) by omega]
theorem k9:∀ (ws:List Wk) (k:Nat),(∀ w∈ws,w.srcs.length<=3)->(bx k ws).length<=3 * ws.length
 | [],_,_=>Zk _
 | w::r,k,h=>by
  have h1:=k9 r (k+1) fun v hv=>h v (Zm _ hv)
  have h2:=h w Zl
  have h3:(w.srcs.filterMap (cj k)).length<=w.srcs.length:=Q3 _ _
  simp only [bx,Zp,ZB]
  omega
theorem jL:∀ {ws:List Wk} {k:Nat} {t:WJ},t∈bx k ws->∃ i w b x,ws[i]?=some w/\Srs.wrk x b∈w.srcs/\t=[(x:Int),((k+i:Nat):Int),(b:Int)]
 | w::r,k,t,h=>by
  rcases ZE.mp h with h|h
  ·obtain ⟨s,hs,e⟩:=Qr.mp h
   cases s with
   | wrk x b=>cases e; exact ⟨0,w,b,x,rfl,hs,rfl⟩
   | _=>cases e
  ·obtain ⟨i,v,b,x,h1,h2,h3⟩:=jL h
   exact ⟨i+1,v,b,x,h1,h2,by rw [h3,show k+1+i=k+(i+1) by omega]⟩
theorem allI (t:WJ):allInts (t.map .int)=some t:=by
 induction t with
 | nil=>rfl
 | cons a r ih=>show (allInts (r.map .int)).map (a :: ·)=_; rw [ih]; rfl
theorem oG:∀ ts:List (List Int),tups (ts.map tupI)=some ts
 | []=>rfl
 | t::r=>by
  show (match allInts (t.map .int),tups (r.map tupI) with|some t,some q=>some (t::q)|_,_=>none)=_
  rw [allI,oG r]
theorem yq (t:WJ):D.lows 0 (t.map .int)=true:=by
 induction t with
 | nil=>rfl
 | cons a r ih=>show (D.low 0 (.int a)&&D.lows 0 (r.map .int))=true; rw [ih]; rfl
theorem nQ (ts:WO):D.lows 0 (ts.map tupI)=true:=by
 induction ts with
 | nil=>rfl
 | cons t r ih=>show (D.lows 0 (t.map .int)&&D.lows 0 (r.map tupI))=true; rw [yq,ih]; rfl
section
variable {sub:Sub} {P:Prg} {n:Nat} {S:aa}
theorem DN {cf:Ye} {x0 x1 x2:Option D} {i:Nat} {w:Wk} {T:aa} (hw:w.srcs.length<=3) :
  ev sub cf (.comp 2 (.tup (.cs (.ix (.v 6) (.c (.int 1))) (.cs (.v 3) (.cs (.ix (.v 6) (.c (.int 2))) .nl)))) (.one 6) (.iSeq (.ix (.v 4) (.c (.int 3)))) (.cmp .eq (.ix (.v 6) (.c (.int 0))) (.c (.str "work"))))
   [x0,x1,x2,some (.int (i:Int)),some w.toD] T=.ok (.loc T.length) (T++[.lst ((w.srcs.filterMap (cj i)).map tupI)]):=by
 have h:=iF (sub:=sub) (cf:=cf) (k:=2) (i:=6) (el:=.tup (.cs (.ix (.v 6) (.c (.int 1))) (.cs (.v 3) (.cs (.ix (.v 6) (.c (.int 2))) .nl)))) (it:=.iSeq (.ix (.v 4) (.c (.int 3)))) (tt:=.cmp .eq (.ix (.v 6) (.c (.int 0))) (.c (.str "work")))
  (σ:=[x0,x1,x2,some (.int (i:Int)),some w.toD]) (S:=T) (S1:=T) (ks:=w.srcs) (f:=Srs.toD) (g:=fun s=>(cj i s).map tupI) (o:=none) (raw:=w.srcs.map Srs.toD) rfl (bu (aq (r_v rfl) r_c (aB rfl)) rfl) rfl
  (fun s _=>by
   cases s with
   | val v=>exact aO (aP (aq (r_v rfl) r_c (aB rfl)) r_c rfl)
   | inp k=>exact aO (aP (aq (r_v rfl) r_c (aB rfl)) r_c rfl)
   | wrk x b=>exact aO (aP (aq (r_v rfl) r_c (aB rfl)) r_c rfl))
  (fun s _ d hd=>by
   cases s with
   | val v=>cases hd
   | inp k=>cases hd
   | wrk x b =>
    cases hd
    exact eG (af (aq (r_v rfl) r_c (aB rfl)) (af (r_v rfl) (af (aq (r_v rfl) r_c (aB rfl)) ai))) rfl)
  (by unfold aG; omega)
 rw [h,List.map_filterMap]
theorem vX {T:aa} {a b:Cell} {G:aa}:(T++a::G).set T.length b=T++b::G:=by
 rw [List.set_append_right _ _ (Zk _),Wm]; rfl
theorem gO {T:aa} {a:Cell} {G:aa}:(T++a::G)[T.length]?=some a:=by
 rw [ZP (Zk _),Wm]; rfl
theorem xo {T:aa} {k:Nat} {ts:WO} (hk:T[k]?=some (.lst (ts.map tupI))) (h1:ts.length<=18) (h2:(ts.all fun t=>!t.isEmpty)=true):biD sub .sortedSet [.loc k] T=.ok (.loc T.length) (T++[.lst ((bf ts).map tupI)]):=by
 show (c_ (.loc k)>>=fun ds=>opt (tups ds)>>=fun ts=>guard (decide (ts.length<=18)&&ts.all fun t=>!t.isEmpty) (alloc (.lst ((bf ts).map fun t=>.tup (t.map .int))))) T=_
 have e:c_ (.loc k) T=.ok (ts.map tupI) T:=c6 hk
 rw [ay,e]
 simp only [Res.aj]
 rw [ay,oG]
 simp only [cW,Res.aj]
 rw [h2,Zj h1]
 rfl
theorem iN {T:aa} {ds:Yc} {m:Nat} (hm:S.length<=m) (ht:T.take S.length=S) (h:T[m]?=some (.lst ds)) (hc:D.lows 0 ds=true):leave S (.loc m) T=.ok (.loc S.length) (S++[.lst ds]):=by
 unfold leave
 rw [Zd ht,Ze (by show ¬ decide (m < S.length)=true; simp; omega)]
 simp only [h]
 rw [Zd (show Cell.low S.length (.lst ds)=true from iJ (Xf _) hc)]
theorem Gi (h:HB P) (hn:Has P "needs" jP) {l:Lp} (hl:l.WF) (h6:l.works.length<=6):ah sub P (n+8) "needs" [l.toD] S=.ok (.loc S.length) (S++[.lst ((bf (bx 0 l.works)).map tupI)]):=by
 have h3:∀ w∈l.works,w.srcs.length<=3:=fun w hw=>by
  obtain ⟨i,hi⟩:=ZO hw
  exact (hl.works i w hi).some.2
 have hnl:∀ i,(bx 0 (l.works.take i)).length<=18:=fun i=>by
  have:=k9 (l.works.take i) 0 fun w hw=>h3 w (QP hw)
  rw [X4] at this
  omega
 have hnum:(num 0 (l.works.map Wk.toD)).length=l.works.length:=by rw [f6,Zb]
 obtain ⟨σ',T',e,x3,x4,G,rfl,rfl⟩:=jw (sub:=sub) (cf:=ah sub P (n+7)) (t:=.many [3,4]) (it:=.iEnum (.v 1)) (b:=.ex (.me .extend (.v 2) (.cs (.comp 2 (.tup (.cs (.ix (.v 6) (.c (.int 1))) (.cs (.v 3) (.cs (.ix (.v 6) (.c (.int 2))) .nl)))) (.one 6) (.iSeq (.ix (.v 4) (.c (.int 3)))) (.cmp .eq (.ix (.v 6) (.c (.int 0))) (.c (.str "work")))) .nl)))
  (σ:=[some l.toD,some (.tup (l.works.map Wk.toD)),some (.loc S.length),none,none]) (S:=S++[.lst []]) (S1:=S++[.lst []]) (s:=⟨num 0 (l.works.map Wk.toD),none,l.works.map Wk.toD⟩)
  (fun i σ T=>∃ x3 x4 G,σ=[some l.toD,some (.tup (l.works.map Wk.toD)),some (.loc S.length),x3,x4]/\T=S++.lst ((bx 0 (l.works.take i)).map tupI)::G)
  (by simp) ⟨none,none,[],rfl,rfl⟩ (fun _ _ _ _=>rfl) (fun i hi σ T ⟨x3,x4,G,hσ,hT⟩=>by
   subst hσ; subst hT
   have hi':i < l.works.length:=by rw [<- hnum]; exact hi
   have hit:(num 0 (l.works.map Wk.toD))[i]=.tup [.int (i:Int),(l.works[i]).toD]:=by
    rw [jB]; simp
   show ∃ σ' T',bA sub (ah sub P (n+7)) _ _ (num 0 (l.works.map Wk.toD))[i] _ _=_/\_
   rw [hit]
   refine ⟨_,_,jM rfl (eY (gK (r_v rfl) (af (DN (h3 _ (Xo hi'))) ai) (lM (l:=S.length) (ds:=(bx 0 (l.works.take i)).map tupI) (k:=(S++.lst ((bx 0 (l.works.take i)).map tupI)::G).length) ?_ (aD _ _) ?_))),some (.int (i:Int)),some (l.works[i]).toD,G++[.lst (((l.works[i]).srcs.filterMap (cj i)).map tupI)],rfl,?_⟩
   ·exact (ZF (by simp)).trans gO
   ·have h1:=hnl (i+1)
    rw [kE _ _ _ hi',Zp,Xm] at h1
    rw [Zb,Zb]
    unfold aG; omega
   ·rw [Zs,XN,vX,<- ZM,kE _ _ _ hi',Xm])
 rw [hnum,Z4] at e
 have ne:((bx 0 l.works).all fun t=>!t.isEmpty)=true:=Xa.mpr fun t ht=>by
  obtain ⟨i,w,b,x,_,_,rfl⟩:=jL ht
  rfl
 have hl18:=hnl l.works.length
 rw [Z4] at hl18
 refine x_call (ds:=[l.toD]) hn rfl (ak (aL (aq (aA (af (r_v rfl) ai) (j7 h hl)) r_c (aB rfl))) (ak (aL (bO ai rfl)) (ak e (aK (aT (af (r_v rfl) ai) (xo gO hl18 ne)))))) (iN (by simp) ?_ (aD _ _) (nQ _))
 rw [Zs,cD]
end
end RL

namespace RL
open PySem EV GO
noncomputable def gY:Fn:=⟨1,5,(.seq (.set (.one 1) (.lst .nl))
 (.seq (.forS (.many [2,3]) (.iEnum (.ix (.v 0) (.c (.int 2))))
  (.forS (.one 4) (.iSeq (.ix (.v 3) (.c (.int 3))))
  (.ite (.and (.cmp .eq (.ix (.v 4) (.c (.int 0))) (.c (.str "work"))) (.cmp .bU (.tup (.cs (.ix (.v 4) (.c (.int 1))) (.cs (.v 2) (.cs (.ix (.v 4) (.c (.int 2))) .nl)))) (.v 1)))
  (.ex (.me .append (.v 1) (.cs (.tup (.cs (.ix (.v 4) (.c (.int 1))) (.cs (.v 2) (.cs (.ix (.v 4) (.c (.int 2))) .nl)))) .nl)))
  .skip)))
 (.ret (.bi .sorted (.cs (.v 1) .nl)))))⟩
noncomputable def cG (acc:WO) (t:WJ):List (List Int):=if t∈acc then acc else acc++[t]
noncomputable def uniq (acc ts:WO):List (List Int):=ts.foldl cG acc
theorem DG (acc:WO) (t x:WJ):x∈cG acc t ↔ x∈acc\/x=t:=by
 unfold cG
 split
 ·rename_i h
  exact ⟨.inl,fun q=>q.elim id fun e=>e ▸ h⟩
 ·simp
theorem F3 {acc:WO} (t:WJ) (h:acc.Nodup):(cG acc t).Nodup:=by
 unfold cG
 split
 ·exact h
 ·rename_i q
  refine XX.mpr ⟨h,by simp,fun a ha b hb e=>?_⟩
  rw [ZH.mp hb] at e
  exact q (e ▸ ha)
theorem B9 (acc:WO) (t:WJ):(cG acc t).length<=acc.length+1:=by
 unfold cG
 split
 ·omega
 ·simp
theorem nE (x:WJ):∀ (ts acc:WO),x∈uniq acc ts ↔ x∈acc\/x∈ts
 | [],acc=>by unfold uniq; simp
 | t::r,acc=>by
  show x∈uniq (cG acc t) r ↔ _
  rw [nE x r,DG,Zt,or_assoc]
theorem wW:∀ (ts acc:WO),acc.Nodup->(uniq acc ts).Nodup
 | [],_,h=>h
 | t::r,_,h=>wW r _ (F3 t h)
theorem n8:∀ (ts acc:WO),(uniq acc ts).length<=acc.length+ts.length
 | [],acc=>by unfold uniq; simp
 | t::r,acc=>by
  have h1:=n8 r (cG acc t)
  have h2:=B9 acc t
  show (uniq (cG acc t) r).length<=_
  rw [ZB]
  omega
theorem wC (acc xs ys:WO):uniq acc (xs++ys)=uniq (uniq acc xs) ys:=List.foldl_append
theorem EU (ts:WO):bf (uniq [] ts)=bf ts:=lY (j5 _) fun y=>by
 rw [l8,nE]; simp
noncomputable def jC:List Int->List Int->Bool
 | a::r,b::q=>(a==b)&&jC r q
 | _,_=>true
theorem rH:∀ u t:List Int,(jC u t&&(u.length==t.length))=decide (u=t)
 | [],[]=>rfl
 | [],_::_=>rfl
 | _::_,[]=>rfl
 | a::r,b::q=>by
  have ih:=rH r q
  have e1:((a::r).length==(b::q).length)=(r.length==q.length):=by
   rw [ZB,ZB]
   by_cases h:r.length=q.length
   ·rw [h,Z1,Z1]
   ·rw [ZQ.mpr h,ZQ.mpr (by omega)]
  show ((a==b)&&jC r q&&((a::r).length==(b::q).length))=_
  rw [e1,Bool.and_assoc,ih]
  by_cases h:a=b
  ·subst h
   rw [Z1,Wg]
   by_cases h:r=q
   ·subst h; rw [Zj rfl,Zj rfl]
   ·rw [Zq h,Zq fun e=>h (Qq e).2]
  ·rw [ZQ.mpr h,Ws,Zq fun e=>h (Qq e).1]
theorem uF {S:aa} (n:Nat):∀ u t:List Int,bR (eqD (n+1) S) (u.map .int) (t.map .int)=some (jC u t)
 | [],[]=>rfl
 | [],_::_=>rfl
 | _::_,[]=>rfl
 | a::r,b::q=>by
  show (match eqD (n+1) S (.int a) (.int b),bR (eqD (n+1) S) (r.map .int) (q.map .int) with|some a,some b=>some (a&&b)|_,_=>none)=_
  rw [uF n r q]; rfl
theorem ID {S:aa} (u t:WJ):eqD deep S (tupI u) (tupI t)=some (decide (u=t)):=by
 show (bR (eqD 11 S) (u.map .int) (t.map .int)).map (fun r=>r&&((u.map D.int).length==(t.map D.int).length))=_
 rw [uF 10,Zb,Zb,<- rH]; rfl
theorem o9 {S:aa} (t:WJ):∀ ts:List (List Int),inL S (tupI t) (ts.map tupI)=some (decide (t∈ts))
 | []=>by simp [inL]
 | u::r=>by
  show (match eqD deep S (tupI u) (tupI t),inL S (tupI t) (r.map tupI) with|some a,some b=>some (a||b)|_,_=>none)=_
  rw [ID,o9 t r]
  show some (decide (u=t)||decide (t∈r))=_
  congr 1
  by_cases h:u=t
  ·subst h; simp
  ·rw [Zq h,Bool.false_or]
   by_cases q:t∈r
   ·rw [Zj q,Zj (Zm _ q)]
   ·rw [Zq q,Zq]
    intro z
    rcases Zt.mp z with z|z
    ·exact h z.symm
    ·exact q z
section
variable {sub:Sub} {P:Prg} {n:Nat} {S:aa}
theorem D5 {T:aa} {k:Nat} {ts:WO} {t:WJ} (hk:T[k]?=some (.lst (ts.map tupI))):cmD .bU (tupI t) (.loc k) T=.ok (.bl (!decide (t∈ts))) T:=by
 show (items (.loc k)>>=fun ys=>inA true (tupI t) ys) T=_
 rw [ay,c6 hk]
 simp only [Res.aj]
 unfold inA
 rw [o9]
 show Res.ok (D.bl (decide (t∈ts) != true)) T=_
 cases decide (t∈ts) <;> rfl
theorem Ib {T:aa} {k:Nat} {ts:WO} (hk:T[k]?=some (.lst (ts.map tupI))) (h1:ts.length < 64) (h2:ts.Nodup) (h3:(ts.all fun t=>!t.isEmpty)=true):biD sub .sorted [.loc k] T=.ok (.loc T.length) (T++[.lst ((bf ts).map tupI)]):=by
 show (items (.loc k)>>=fun ds=>kR ds) T=_
 rw [ay,c6 hk]
 simp only [Res.aj]
 cases ts with
 | nil=>rfl
 | cons t r =>
  show mP (tups ((t::r).map tupI)) T=_
  rw [oG]
  show guard (decide ((t::r).length < 64)&&decide (t::r).Nodup&&(t::r).all fun t=>!t.isEmpty) (alloc (.lst ((bf (t::r)).map tupI))) T=_
  rw [h3,Zj h1,Zj h2]; rfl
noncomputable def iU:EV.S:=.ite (.and (.cmp .eq (.ix (.v 4) (.c (.int 0))) (.c (.str "work"))) (.cmp .bU (.tup (.cs (.ix (.v 4) (.c (.int 1))) (.cs (.v 2) (.cs (.ix (.v 4) (.c (.int 2))) .nl)))) (.v 1)))
  (.ex (.me .append (.v 1) (.cs (.tup (.cs (.ix (.v 4) (.c (.int 1))) (.cs (.v 2) (.cs (.ix (.v 4) (.c (.int 2))) .nl)))) .nl)))
  .skip
theorem need_one {cf:Ye} {l0:D} {i:Nat} {w:D} {s:Srs} {acc:WO} (hz:acc.length<=1000) :
  exec sub cf iU [some l0,some (.loc S.length),some (.int (i:Int)),some w,some s.toD] (S++[.lst (acc.map tupI)])=.ok (.nx [some l0,some (.loc S.length),some (.int (i:Int)),some w,some s.toD]) (S++[.lst ((match cj i s with|some t=>cG acc t|none=>acc).map tupI)]):=by
 cases s with
 | val v=>exact aN (gJ (aO (aP (aq (r_v rfl) r_c (aB rfl)) r_c rfl))) aR
 | inp k=>exact aN (gJ (aO (aP (aq (r_v rfl) r_c (aB rfl)) r_c rfl))) aR
 | wrk x b =>
  have hn:=D5 (t:=[(x:Int),(i:Int),(b:Int)]) (aD S (.lst (acc.map tupI)))
  have ht:evT sub cf (.and (.cmp .eq (.ix (.v 4) (.c (.int 0))) (.c (.str "work"))) (.cmp .bU (.tup (.cs (.ix (.v 4) (.c (.int 1))) (.cs (.v 2) (.cs (.ix (.v 4) (.c (.int 2))) .nl)))) (.v 1)))
    [some l0,some (.loc S.length),some (.int (i:Int)),some w,some (Srs.wrk x b).toD] (S++[.lst (acc.map tupI)])=.ok (!decide ([(x:Int),(i:Int),(b:Int)]∈acc)) (S++[.lst (acc.map tupI)]) :=
   fj (aO (aP (aq (r_v rfl) r_c (aB rfl)) r_c rfl)) (aO (aP (eG (af (aq (r_v rfl) r_c (aB rfl)) (af (r_v rfl) (af (aq (r_v rfl) r_c (aB rfl)) ai))) rfl) (r_v rfl) hn))
  show _=Res.ok (Fl.nx _) (S++[.lst ((cG acc [(x:Int),(i:Int),(b:Int)]).map tupI)])
  unfold cG
  by_cases h:[(x:Int),(i:Int),(b:Int)]∈acc
  ·rw [Zd h]
   rw [Zj h] at ht
   exact aN ht aR
  ·rw [Ze h]
   rw [Zq h] at ht
   rw [ZM]
   exact cC ht (eY (gK (r_v rfl) (af (eG (af (aq (r_v rfl) r_c (aB rfl)) (af (r_v rfl) (af (aq (r_v rfl) r_c (aB rfl)) ai))) rfl) ai) (EE (by rw [Zb]; omega))))
theorem IB (i:Nat) (s:Srs) (acc:WO) (ss:List Srs):uniq acc ((ss++[s]).filterMap (cj i))=match cj i s with|some t=>cG (uniq acc (ss.filterMap (cj i))) t|none=>uniq acc (ss.filterMap (cj i)):=by
 rw [List.filterMap_append,wC]
 cases h:cj i s with
 | none=>rw [Q4 h]; rfl
 | some t=>rw [Q5 h]; rfl
theorem FZ {cf:Ye} {l0:D} {i:Nat} {w:Wk} {acc:WO} {x4:Option D} (hz:acc.length<=100) (hw:w.srcs.length<=3) :
  ∃ x4',exec sub cf (.forS (.one 4) (.iSeq (.ix (.v 3) (.c (.int 3)))) iU) [some l0,some (.loc S.length),some (.int (i:Int)),some w.toD,x4] (S++[.lst (acc.map tupI)]) =
   .ok (.nx [some l0,some (.loc S.length),some (.int (i:Int)),some w.toD,x4']) (S++[.lst ((uniq acc (w.srcs.filterMap (cj i))).map tupI)]):=by
 obtain ⟨σ',T',e,x4',rfl,rfl⟩:=jw (sub:=sub) (cf:=cf) (t:=.one 4) (it:=.iSeq (.ix (.v 3) (.c (.int 3)))) (b:=iU) (σ:=[some l0,some (.loc S.length),some (.int (i:Int)),some w.toD,x4]) (S:=S++[.lst (acc.map tupI)]) (S1:=S++[.lst (acc.map tupI)]) (s:=⟨w.srcs.map Srs.toD,none,w.srcs.map Srs.toD⟩)
  (fun j σ T=>∃ x4,σ=[some l0,some (.loc S.length),some (.int (i:Int)),some w.toD,x4]/\T=S++[.lst ((uniq acc ((w.srcs.take j).filterMap (cj i))).map tupI)])
  (bu (aq (r_v rfl) r_c (aB rfl)) rfl) ⟨x4,rfl,rfl⟩ (fun _ _ _ _=>rfl) (fun j hj σ T ⟨x4,hσ,hT⟩=>by
   subst hσ; subst hT
   have hj':j < w.srcs.length:=by simpa using hj
   have hit:(w.srcs.map Srs.toD)[j]'hj=(w.srcs[j]).toD:=Qm _
   show ∃ σ' T',bA sub cf (.one 4) iU ((w.srcs.map Srs.toD)[j]'hj) _ _=_/\_
   rw [hit]
   have h1:=n8 ((w.srcs.take j).filterMap (cj i)) acc
   have h2:((w.srcs.take j).filterMap (cj i)).length<=(w.srcs.take j).length:=Q3 _ _
   rw [X4] at h2
   refine ⟨_,_,eU (need_one (by omega)),some (w.srcs[j]).toD,rfl,?_⟩
   rw [Qn hj',IB])
 rw [Zb,Z4] at e
 exact ⟨x4',e⟩
theorem vv (hn:Has P "_law_needs" gY) {l:Lp} (hl:l.WF) (h6:l.works.length<=6):ah sub P (n+1) "_law_needs" [l.toD] S=.ok (.loc S.length) (S++[.lst ((bf (bx 0 l.works)).map tupI)]):=by
 have h3:∀ w∈l.works,w.srcs.length<=3:=fun w hw=>by
  obtain ⟨i,hi⟩:=ZO hw
  exact (hl.works i w hi).some.2
 have hnl:∀ i,(uniq [] (bx 0 (l.works.take i))).length<=18:=fun i=>by
  have h1:=k9 (l.works.take i) 0 fun w hw=>h3 w (QP hw)
  have h2:=n8 (bx 0 (l.works.take i)) []
  rw [X4] at h1
  rw [XH] at h2
  omega
 have hnum:(num 0 (l.works.map Wk.toD)).length=l.works.length:=by rw [f6,Zb]
 obtain ⟨σ',T',e,x2,x3,x4,rfl,rfl⟩:=jw (sub:=sub) (cf:=ah sub P n) (t:=.many [2,3]) (it:=.iEnum (.ix (.v 0) (.c (.int 2)))) (b:=.forS (.one 4) (.iSeq (.ix (.v 3) (.c (.int 3)))) iU)
  (σ:=[some l.toD,some (.loc S.length),none,none,none]) (S:=S++[.lst []]) (S1:=S++[.lst []]) (s:=⟨num 0 (l.works.map Wk.toD),none,l.works.map Wk.toD⟩)
  (fun i σ T=>∃ x2 x3 x4,σ=[some l.toD,some (.loc S.length),x2,x3,x4]/\T=S++[.lst ((uniq [] (bx 0 (l.works.take i))).map tupI)])
  (by rw [oh,aq (r_v rfl) r_c (aB rfl),Res.aj]; rfl) ⟨none,none,none,rfl,rfl⟩ (fun _ _ _ _=>rfl) (fun i hi σ T ⟨x2,x3,x4,hσ,hT⟩=>by
   subst hσ; subst hT
   have hi':i < l.works.length:=by rw [<- hnum]; exact hi
   have hit:(num 0 (l.works.map Wk.toD))[i]=.tup [.int (i:Int),(l.works[i]).toD]:=by
    rw [jB]; simp
   show ∃ σ' T',bA sub (ah sub P n) _ _ (num 0 (l.works.map Wk.toD))[i] _ _=_/\_
   rw [hit]
   have h1:=hnl i
   obtain ⟨x4',e⟩:=FZ (sub:=sub) (cf:=ah sub P n) (S:=S) (l0:=l.toD) (i:=i) (w:=l.works[i]) (acc:=uniq [] (bx 0 (l.works.take i))) (x4:=x4) (by omega) (h3 _ (Xo hi'))
   refine ⟨_,_,jM rfl e,some (.int (i:Int)),some (l.works[i]).toD,x4',rfl,?_⟩
   rw [kE _ _ _ hi',Xm,wC])
 rw [hnum,Z4] at e
 have ne:((uniq [] (bx 0 l.works)).all fun t=>!t.isEmpty)=true:=Xa.mpr fun t ht=>by
  obtain ⟨i,w,b,x,_,_,rfl⟩:=jL (((nE t _ _).mp ht).elim (fun z=>by cases z) id)
  rfl
 have hl18:=hnl l.works.length
 rw [Z4] at hl18
 rw [<- EU]
 refine x_call (ds:=[l.toD]) hn rfl (ak (aL (bO ai rfl)) (ak e (aK (aT (af (r_v rfl) ai) (Ib (aD _ _) (by omega) (wW _ _ QH) ne))))) (iN (by simp) ?_ (aD _ _) (nQ _))
 rw [Zs,cD]
end
end RL

namespace RL
open PySem EV GO
noncomputable def ua:Fn:=⟨1,1,(.seq (.ite (.not (.call "is_whole" (.cs (.v 0) (.cs (.c (.int 1)) (.cs (.c (.int 200)) .nl)))))
  (.rais "NoGap")
  .skip)
 (.ret (.v 0)))⟩
section
variable {sub:Sub} {P:Prg} {n:Nat} {S:aa}
theorem pJ {xs:Yc} {k:Nat} {d:D} (h:xs[k]?=some d):atI xs (k:Int)=some d:=by
 unfold atI ixN
 have hk:=(Zg.mp h).1
 rw [Zd (Qz k),Zd (Int.ofNat_lt.mpr hk),Z9]
 exact h
theorem ya {l:Lp} {i:Nat} (h:i < l.works.length):atI (l.works.map Wk.toD) (i:Int)=some (l.works.getD i ⟨0,0,"",[],[]⟩).toD:=pJ (by rw [ZK,ZJ,Zc h]; rfl)
theorem p_ {l:Lp} {k:Nat} {c:W6} (h:l.crews[k]?=some c):atI (l.crews.map aU) (k:Int)=some (aU c):=pJ (by rw [ZK,h]; rfl)
theorem mR {s:Src} {f:D->Sg->M Fl} {d y:D} {ds:Yc} {σ:Sg} {S1:aa} (hs:aH s S=.ok () S) (hb:f d σ S=.ok (.rt y) S1):forL s f (d::ds) σ S=.ok (.rt y) S1:=by
 rw [jh,hs,Res.aj,hb]; rfl
theorem lX {s:Src} {f:D->Sg->M Fl} {σ:Sg} (hs:aH s S=.ok () S):forL s f [] σ S=.ok (.nx σ) S:=by
 rw [j8,hs]; rfl
theorem iC {cf:Ye} {σ:Sg} {a:E} {x:D} {S1:aa} (h:ev sub cf a σ S=.ok x S1):evT sub cf (.notN a) σ S=.ok (!decide (x=.non)) S1:=by
 rw [AO,h]; rfl
theorem D0 {l:Lp} (hl:l.WF) {i:Nat} {w:Wk} (h:l.works[i]?=some w):l.crews[w.crew]?=some (l.crews.getD w.crew (0,0)):=by
 have:=(hl.works i w h).crew
 rw [ZJ,Zc this]; rfl
end
end RL

namespace WK
abbrev Nd:=List Int
abbrev Wlk:=List Nd
abbrev Yh:=List Wlk
abbrev Yg:=List (Wlk × Nat)
def nA (t:Nd):Int:=t.getD 0 0
def nB (t:Nd):Int:=t.getD 1 0
def nC (t:Nd):Int:=t.getD 2 0
def fst (w:Wlk):Int:=match w with|t::_=>nA t|[]=>0
noncomputable def lst:Wlk->Int
 | []=>0
 | [t]=>nB t
 | _::r=>lst r
def Chn:Wlk->Prop
 | []=>True
 | [_]=>True
 | t::u::r=>nB t=nA u/\Chn (u::r)
noncomputable def ends (w:Wlk):List Int:=[fst w,lst w]
theorem F8 (t u:Nd) (r:Wlk):lst (t::u::r)=lst (u::r):=rfl
theorem gE:∀ {p r:Wlk},p≠[]->fst (p++r)=fst p
 | [],_,h=>absurd rfl h
 | _::_,_,_=>rfl
theorem e8:∀ (p:Wlk) {r:Wlk},r≠[]->lst (p++r)=lst r
 | [],_,_=>rfl
 | [t],u::r,_=>rfl
 | [t],[],h=>absurd rfl h
 | t::u::p,r,h=>by
  show lst (t::((u::p)++r))=_
  rw [XN,F8,<- XN]
  exact e8 (u::p) h
theorem dh:∀ {p r:Wlk},p≠[]->r≠[]->(Chn (p++r) ↔ Chn p/\lst p=fst r/\Chn r)
 | [],_,h,_=>absurd rfl h
 | [t],[],_,h=>absurd rfl h
 | [t],u::r,_,_=>⟨fun h=>⟨trivial,h.1,h.2⟩,fun h=>⟨h.2.1,h.2.2⟩⟩
 | t::u::p,r,_,h=>by
  have ih:=dh (p:=u::p) (r:=r) (by simp) h
  show (nB t=nA u/\Chn ((u::p)++r)) ↔ (nB t=nA u/\Chn (u::p))/\lst (u::p)=fst r/\Chn r
  rw [ih,and_assoc]
theorem twice:∀ {w:Wlk},¬ (w.map nA).Nodup->∃ p t q u r,w=p++(t::q)++(u::r)/\nA t=nA u
 | [],h=>absurd QH h
 | t::r,h=>by
  by_cases hm:nA t∈r.map nA
  ·obtain ⟨u,hu,e⟩:=Zy.mp hm
   obtain ⟨a,b,rfl⟩:=List.append_of_mem hu
   exact ⟨[],t,a,u,b,rfl,e.symm⟩
  ·have h':¬ (r.map nA).Nodup:=fun z=>h (by rw [ZC,Xg]; exact ⟨hm,z⟩)
   obtain ⟨p,a,q,u,b,rfl,e⟩:=twice h'
   exact ⟨t::p,a,q,u,b,rfl,e⟩
section
variable (lg:Int->Int) (g:Int)
def bN (w:Wlk):Int:=(w.map fun t=>lg (nA t)).sum
def bg (w:Wlk):Int:=(w.map nC).sum
def wt (w:Wlk):Int:=bN lg w - g * bg w
theorem xm (a b:Wlk):bN lg (a++b)=bN lg a+bN lg b:=by unfold bN; rw [ZM,Wn]
theorem yJ (a b:Wlk):bg (a++b)=bg a+bg b:=by unfold bg; rw [ZM,Wn]
theorem f9 (a b:Wlk):wt lg g (a++b)=wt lg g a+wt lg g b:=by
 unfold wt; rw [xm,yJ,Int.mul_add]; omega
structure Walk (st:List Nd) (w:Wlk):Prop where
 ne:w≠[]
 mem:∀ t∈w,t∈st
 chn:Chn w
variable {lg g} {st:List Nd}
theorem Walk.one {t:Nd} (h:t∈st):Walk st [t]:=⟨by simp,fun u hu=>by rw [ZH.mp hu]; exact h,trivial⟩
theorem Walk.snoc {w:Wlk} {t:Nd} (h:Walk st w) (ht:t∈st) (e:nA t=lst w):Walk st (w++[t]) :=
 ⟨by simp,fun u hu=>by
  rcases ZE.mp hu with z|z
  ·exact h.mem u z
  ·rw [ZH.mp z]; exact ht,(dh h.ne (by simp)).mpr ⟨h.chn,e.symm,trivial⟩⟩
theorem Walk.Ia {w:Wlk} {t:Nd} (hw:w≠[]) (h:Walk st (w++[t])):Walk st w/\t∈st/\nA t=lst w:=by
 obtain ⟨h1,h2,_⟩:=(dh hw (by simp)).mp h.chn
 exact ⟨⟨hw,fun u hu=>h.mem u (Xd _ hu),h1⟩,h.mem t (by simp),h2.symm⟩
def bE (w:Wlk):Prop:=fst w=lst w
def fP (lg:Int->Int) (g:Int) (st:List Nd) (m:Nat):Prop:=∀ w,Walk st w->w.length=m->bE w->wt lg g w<=0
theorem qQ {w:Wlk} (h:Walk st w) (hc:bE w) (hp:0 < wt lg g w) (hf:∀ m,0 < m->m < w.length->fP lg g st m):(w.map nA).Nodup:=by
 refine Xw fun hn=>?_
 obtain ⟨p,t,q,u,r,rfl,e⟩:=twice hn
 have c1:=(dh (p:=p++(t::q)) (r:=u::r) (by simp) (by simp)).mp h.chn
 have hq:Chn (t::q):=by
  by_cases hp0:p=[]
  ·subst hp0; exact c1.1
  ·exact ((dh hp0 (by simp)).mp c1.1).2.2
 have lq:lst (t::q)=nA u:=by
  have:=c1.2.1
  rw [e8 p (by simp)] at this
  exact this
 have hmem:∀ x,x∈p\/x∈t::q\/x∈u::r->x∈st:=fun x hx=>h.mem x (by
  simp only [ZE]
  rcases hx with z|z|z
  ·exact .inl (.inl z)
  ·exact .inl (.inr z)
  ·exact .inr z)
 have wq:Walk st (t::q):=⟨by simp,fun x hx=>hmem x (.inr (.inl hx)),hq⟩
 have wpr:Walk st (p++(u::r)):=⟨by simp,fun x hx=>by
  rcases ZE.mp hx with z|z
  ·exact hmem x (.inl z)
  ·exact hmem x (.inr (.inr z)),by
  by_cases hp0:p=[]
  ·subst hp0; exact c1.2.2
  ·have:=(dh hp0 (by simp)).mp c1.1
   exact (dh hp0 (by simp)).mpr ⟨this.1,by rw [this.2.1]; exact e,c1.2.2⟩⟩
 have cq:bE (t::q):=by show nA t=lst (t::q); rw [lq,e]
 have cpr:bE (p++(u::r)):=by
  have hc:fst (p++(t::q)++(u::r))=lst (p++(t::q)++(u::r)):=hc
  rw [e8 _ (by simp)] at hc
  show fst (p++(u::r))=lst (p++(u::r))
  rw [e8 _ (by simp),<- hc]
  by_cases hp0:p=[]
  ·subst hp0; show nA u=nA t; exact e.symm
  ·rw [gE hp0,Zs,gE hp0]
 have f1:=hf (t::q).length (by rw [ZB]; omega) (by simp only [Zp,ZB]; omega) _ wq rfl cq
 have f2:=hf (p++(u::r)).length (by simp only [Zp,ZB]; omega) (by simp only [Zp,ZB]; omega) _ wpr rfl cpr
 have e1:wt lg g (p++(t::q)++(u::r))=wt lg g p+wt lg g (t::q)+wt lg g (u::r):=by rw [f9,f9]
 have e2:wt lg g (p++(u::r))=wt lg g p+wt lg g (u::r):=by rw [f9]
 omega
end
section
variable {α:Type}
noncomputable def aM (K:List (List Int × α)) (k:WJ):Option α:=(K.find? fun e=>decide (e.1=k)).map (·.2)
noncomputable def bT (K:List (List Int × α)) (k:WJ) (d:α):List (List Int × α) :=
 if (K.any fun e=>decide (e.1=k))=true then K.map (fun e=>if e.1=k then (e.1,d) else e) else K++[(k,d)]
theorem fh:∀ {K:List (List Int × α)} {k:WJ} {a:α},aM K k=some a->(k,a)∈K
 | [],_,_,h=>by cases h
 | e::r,k,a,h=>by
  unfold aM at h
  rw [ZT] at h
  by_cases q:e.1=k
  ·rw [Zj q] at h
   cases h
   subst q
   exact Zl
  ·rw [Zq q] at h
   exact Zm _ (fh h)
theorem v9 {k:WJ} {x:α} {Y:List (List Int × α)}:∀ {K:List (List Int × α)},aM K k=some x->aM (K++Y) k=some x
 | [],h=>by cases h
 | e::r,h=>by
  unfold aM at h ⊢
  rw [XN,ZT]
  rw [ZT] at h
  by_cases q:e.1=k
  ·rw [Zj q] at h ⊢; exact h
  ·rw [Zq q] at h ⊢; exact v9 h
theorem wN {k:WJ}:∀ {K:List (List Int × α)},aM K k=none->(K.any fun e=>decide (e.1=k))=false
 | [],_=>rfl
 | e::r,h=>by
  unfold aM at h
  rw [ZT] at h
  rw [XZ]
  by_cases q:e.1=k
  ·rw [Zj q] at h; cases h
  ·rw [Zq q] at h ⊢; exact wN h
theorem sE {k:WJ} {a:α}:∀ {K:List (List Int × α)},aM K k=some a->(K.any fun e=>decide (e.1=k))=true
 | [],h=>by cases h
 | e::r,h=>by
  unfold aM at h
  rw [ZT] at h
  rw [XZ]
  by_cases q:e.1=k
  ·rw [Zj q]; rfl
  ·rw [Zq q] at h ⊢; exact sE h
theorem vJ {k:WJ} {a:α}:∀ {K:List (List Int × α)},aM K k=none->aM (K++[(k,a)]) k=some a
 | [],_=>by unfold aM; rw [Qb,ZT,Zj rfl]; rfl
 | e::r,h=>by
  unfold aM at h ⊢
  rw [XN,ZT]
  rw [ZT] at h
  by_cases q:e.1=k
  ·rw [Zj q] at h; cases h
  ·rw [Zq q] at h ⊢; exact vJ h
theorem lW {k:WJ} {a x:α} {j:WJ}:∀ {K:List (List Int × α)},aM K j=some x->aM (K.map fun e=>if e.1=k then (e.1,a) else e) j=some (if j=k then a else x)
 | [],h=>by cases h
 | e::r,h=>by
  unfold aM at h ⊢
  rw [ZC,ZT]
  rw [ZT] at h
  have e1:(if e.1=k then (e.1,a) else e).1=e.1:=by split <;> rfl
  rw [e1]
  by_cases q:e.1=j
  ·rw [Zj q] at h ⊢
   cases h
   by_cases z:e.1=k
   ·rw [Zd z,Zd (by rw [<- q]; exact z)]; rfl
   ·rw [Ze z,Ze (by rw [<- q]; exact z)]; rfl
  ·rw [Zq q] at h ⊢
   exact lW h
theorem pZ {K:List (List Int × α)} {k:WJ} {a:α}:aM (bT K k a) k=some a:=by
 unfold bT
 cases q:aM K k with
 | none=>rw [wN q,Ze (by decide)]; exact vJ q
 | some x=>rw [sE q,Zd rfl,lW q,Zd rfl]
theorem Gh {K:List (List Int × α)} {k j:WJ} {a x:α} (h:aM K j=some x) (hj:j≠k):aM (bT K k a) j=some x:=by
 unfold bT
 split
 ·rw [lW h,Ze hj]
 ·exact v9 h
theorem AL {K:List (List Int × α)} {k:WJ} {a:α} {e:List Int × α} (h:e∈bT K k a):e∈K\/e=(k,a):=by
 unfold bT at h
 split at h
 ·obtain ⟨x,hx,rfl⟩:=Zy.mp h
  by_cases q:x.1=k
  ·rw [Zd q,q]; exact .inr rfl
  ·rw [Ze q]; exact .inl hx
 ·rcases ZE.mp h with z|z
  ·exact .inl z
  ·exact .inr (ZH.mp z)
theorem Af (K:List (List Int × α)) (k:WJ) (a:α):(bT K k a).length<=K.length+1:=by
 unfold bT
 split
 ·rw [Zb]; omega
 ·rw [Zp]; exact Zk _
theorem get_map {β:Type} (f:α->β) (k:WJ):∀ K:List (List Int × α),aM (K.map fun e=>(e.1,f e.2)) k=(aM K k).map f
 | []=>rfl
 | e::r=>by
  have ih:=get_map f k r
  unfold aM at ih ⊢
  rw [ZC,ZT,ZT]
  cases q:decide (e.1=k) with
  | true=>rfl
  | false=>exact ih
theorem yo {β:Type} (f:α->β) (k:WJ) (a:α) (K:List (List Int × α)):bT (K.map fun e=>(e.1,f e.2)) k (f a)=(bT K k a).map fun e=>(e.1,f e.2):=by
 unfold bT
 rw [List.any_map]
 have e1:((fun e:List Int × β=>decide (e.1=k)) ∘ fun e:List Int × α=>(e.1,f e.2))=fun e=>decide (e.1=k):=rfl
 rw [e1]
 split
 ·rw [ZX,ZX]
  refine Wq fun e _=>?_
  show (if e.1=k then (e.1,f a) else (e.1,f e.2))=_
  by_cases q:e.1=k
  ·rw [Zd q]; show _=((if e.1=k then (e.1,a) else e).1,f (if e.1=k then (e.1,a) else e).2); rw [Zd q]
  ·rw [Ze q]; show _=((if e.1=k then (e.1,a) else e).1,f (if e.1=k then (e.1,a) else e).2); rw [Ze q]
 ·rw [ZM]; rfl
noncomputable def c5 (en:α->List Int) (wf:α->Int) (K:List (List Int × α)) (q:α):List (List Int × α):=match aM K (en q) with
 | none=>bT K (en q) q
 | some x=>if wf x < wf q then bT K (en q) q else K
structure KOk (en:α->List Int) (wf:α->Int) (Q:List α) (K:List (List Int × α)):Prop where
 mem:∀ e∈K,e.2∈Q/\e.1=en e.2
 all:∀ q∈Q,∃ x,aM K (en q)=some x/\wf q<=wf x
 len:K.length<=Q.length
variable {en:α->List Int} {wf:α->Int}
theorem KOk.nil:KOk en wf [] []:=⟨fun _ h=>(by cases h),fun _ h=>(by cases h),Zk _⟩
theorem KOk.step {Q:List α} {K:List (List Int × α)} (h:KOk en wf Q K) (q:α):KOk en wf (Q++[q]) (c5 en wf K q):=by
 have put:(∀ x,aM K (en q)=some x->wf x<=wf q)->KOk en wf (Q++[q]) (bT K (en q) q):=fun hx=>by
  refine ⟨fun e he=>?_,fun p hp=>?_,?_⟩
  ·rcases AL he with z|z
   ·exact ⟨Xd _ (h.mem e z).1,(h.mem e z).2⟩
   ·subst z; exact ⟨by simp,rfl⟩
  ·rcases ZE.mp hp with z|z
   ·obtain ⟨x,h1,h2⟩:=h.all p z
    by_cases e:en p=en q
    ·rw [e] at h1 ⊢
     exact ⟨q,pZ,Wo h2 (hx x h1)⟩
    ·exact ⟨x,Gh h1 e,h2⟩
   ·rw [ZH.mp z]
    exact ⟨q,pZ,Qh _⟩
  ·have:=Af K (en q) q
   have:=h.len
   rw [Zp]; simp; omega
 unfold c5
 cases e:aM K (en q) with
 | none=>exact put fun x hx=>by rw [e] at hx; cases hx
 | some x =>
  simp only
  split
  ·rename_i hlt
   exact put fun y hy=>by rw [e] at hy; cases hy; omega
  ·rename_i hlt
   refine ⟨fun e he=>⟨Xd _ (h.mem e he).1,(h.mem e he).2⟩,fun p hp=>?_,?_⟩
   ·rcases ZE.mp hp with z|z
    ·exact h.all p z
    ·rw [ZH.mp z]
     exact ⟨x,e,by omega⟩
   ·have:=h.len
    rw [Zp]; omega
theorem KOk.fold:∀ (R Q:List α) (K:List (List Int × α)),KOk en wf Q K->KOk en wf (Q++R) (R.foldl (c5 en wf) K)
 | [],Q,K,h=>by rw [Xl]; exact h
 | q::R,Q,K,h=>by
  have:=KOk.fold R (Q++[q]) _ (h.step q)
  rw [Zs] at this
  exact this
theorem KOk.of (Q:List α):KOk en wf Q (Q.foldl (c5 en wf) []):=KOk.fold Q [] [] .nil
end
section
variable {lg:Int->Int} {g:Int} {st:List Nd}
structure fN (lg:Int->Int) (g:Int) (st:List Nd) (m:Nat) (Q:Yh):Prop where
 mem:∀ w∈Q,Walk st w/\w.length=m
 all:∀ w,Walk st w->w.length=m->∃ x∈Q,ends x=ends w/\wt lg g w<=wt lg g x
theorem fN.one:fN lg g st 1 (st.map fun t=>[t]):=⟨fun w hw=>by
  obtain ⟨t,ht,rfl⟩:=Zy.mp hw
  exact ⟨.one ht,rfl⟩,fun w hw hl=>by
  match w,hl with
  | [t],_=>exact ⟨[t],Zy.mpr ⟨t,hw.mem t (by simp),rfl⟩,rfl,Qh _⟩⟩
theorem vI {w:Wlk} (hw:w≠[]) (t:Nd):ends (w++[t])=[fst w,nB t]:=by unfold ends; rw [gE hw,e8 _ (by simp)]; rfl
theorem uN {w x:Wlk} (h:ends w=ends x):fst w=fst x/\lst w=lst x:=by
 unfold ends at h
 obtain ⟨h1,h2⟩:=Qq h
 exact ⟨h1,(Qq h2).1⟩
theorem fN.next {m:Nat} {V:Yh} (hm:0 < m) (h1:∀ w∈V,Walk st w/\w.length=m) (h2:∀ w,Walk st w->w.length=m->∃ x∈V,ends x=ends w/\wt lg g w<=wt lg g x) {Q:Yh}
  (hQ:∀ w,w∈Q ↔ ∃ v∈V,∃ t∈st,nA t=lst v/\w=v++[t]):fN lg g st (m+1) Q:=by
 refine ⟨fun w hw=>?_,fun w hw hl=>?_⟩
 ·obtain ⟨v,hv,t,ht,e,rfl⟩:=(hQ w).mp hw
  obtain ⟨a,b⟩:=h1 v hv
  exact ⟨a.snoc ht e,by rw [Zp,b]; rfl⟩
 ·obtain ⟨v,t,rfl⟩:∃ v t,w=v++[t]:=⟨w.dropLast,w.getLast hw.ne,(List.dropLast_concat_getLast hw.ne).symm⟩
  have hl':v.length=m:=by rw [Zp] at hl; simpa using hl
  have hv:v≠[]:=fun z=>by subst z; simp at hl'; omega
  obtain ⟨a,b,c⟩:=hw.Ia hv
  obtain ⟨x,hx,e,le⟩:=h2 v a hl'
  obtain ⟨e1,e2⟩:=uN e
  refine ⟨x++[t],(hQ _).mpr ⟨x,hx,t,b,by rw [e2]; exact c,rfl⟩,?_,?_⟩
  ·rw [vI hv,vI (h1 x hx).1.ne,e1]
  ·rw [f9,f9]; omega
end
end WK

namespace WK
section
variable {lg:Int->Int} {g:Int} {st:List Nd}
structure Ring (st:List Nd) (w:Wlk):Prop where
 walk:Walk st w
 closed:bE w
 nodup:(w.map nA).Nodup
theorem vM:∀ (n:Nat) (w:Wlk),w.length<=n->Walk st w->bE w->0 < wt lg g w->∃ r,Ring st r/\0 < wt lg g r
 | 0,w,hn,hw,_,_=>absurd (Q6.mp (Nat.le_zero.mp hn)) hw.ne
 | n+1,w,hn,hw,hc,hp=>by
  by_cases hd:(w.map nA).Nodup
  ·exact ⟨w,⟨hw,hc,hd⟩,hp⟩
  ·by_cases hf:∀ m,0 < m->m < w.length->fP lg g st m
   ·exact absurd (qQ hw hc hp hf) hd
   ·obtain ⟨m,hm⟩:=QM.mp hf
    obtain ⟨m0,hm⟩:=QF.mp hm
    obtain ⟨m1,hm⟩:=QF.mp hm
    obtain ⟨v,hv⟩:=QM.mp hm
    obtain ⟨v1,hv⟩:=QF.mp hv
    obtain ⟨v2,hv⟩:=QF.mp hv
    obtain ⟨v3,hv⟩:=QF.mp hv
    exact vM n v (by omega) v1 v3 (by omega)
theorem FU (a b:Wlk):wt lg g (a++b)=wt lg g (b++a):=by rw [f9,f9]; omega
theorem pC:∀ {w:Wlk},w≠[]->∃ p t r,w=p++t::r/\∀ u∈w,nA t<=nA u
 | [],h=>absurd rfl h
 | [t],_=>⟨[],t,[],rfl,fun u hu=>by rw [ZH.mp hu]; exact Qh _⟩
 | t::u::r,_=>by
  obtain ⟨p,x,q,e,h⟩:=pC (w:=u::r) (by simp)
  by_cases hx:nA t<=nA x
  ·refine ⟨[],t,u::r,rfl,fun y hy=>?_⟩
   rcases Zt.mp hy with rfl|hy
   ·exact Qh _
   ·exact Wo hx (h y hy)
  ·refine ⟨t::p,x,q,by rw [e]; rfl,fun y hy=>?_⟩
   rcases Zt.mp hy with rfl|hy
   ·omega
   ·exact h y hy
theorem zo {r:Wlk} (hr:Ring st r):∃ w,Ring st w/\(∀ t∈w,fst w<=nA t)/\wt lg g w=wt lg g r:=by
 obtain ⟨p,t,q,rfl,h⟩:=pC hr.walk.ne
 have hmem:∀ x,x∈(t::q)++p ↔ x∈p++t::q:=fun x=>by rw [ZE,ZE]; exact Or.comm
 refine ⟨(t::q)++p,⟨⟨by simp,fun x hx=>hr.walk.mem x ((hmem x).mp hx),?_⟩,?_,?_⟩,fun x hx=>h x ((hmem x).mp hx),FU _ _⟩
 ·by_cases hp:p=[]
  ·subst hp; rw [Xl]; exact hr.walk.chn
  ·obtain ⟨c1,c2,c3⟩:=(dh hp (by simp)).mp hr.walk.chn
   refine (dh (by simp) hp).mpr ⟨c3,?_,c1⟩
   have hc:fst (p++t::q)=lst (p++t::q):=hr.closed
   rw [gE hp,e8 p (by simp)] at hc
   exact hc.symm
 ·by_cases hp:p=[]
  ·subst hp; rw [Xl]; exact hr.closed
  ·obtain ⟨c1,c2,c3⟩:=(dh hp (by simp)).mp hr.walk.chn
   show fst ((t::q)++p)=lst ((t::q)++p)
   rw [e8 _ hp,c2]; rfl
 ·have:((t::q)++p).map nA=(t::q).map nA++p.map nA:=ZM
  rw [this]
  have h2:=hr.nodup
  rw [ZM] at h2
  exact (List.perm_append_comm.nodup_iff).mp h2
structure Row (st:List Nd) (w:Wlk):Prop where
 walk:Walk st w
 nodup:(w.map nA).Nodup
 least:∀ t∈w,fst w<=nA t
def dI (v:Wlk):Bool:=decide (fst v < lst v)&&!decide (lst v∈v.map nA)
theorem Row.one {t:Nd} (h:t∈st):Row st [t]:=⟨.one h,by simp,fun u hu=>by rw [ZH.mp hu]; exact Qh _⟩
theorem Row.next {v:Wlk} {t:Nd} (hv:Row st v) (hg:dI v=true) (ht:t∈st) (e:nA t=lst v):Row st (v++[t]):=by
 obtain ⟨g1,g2⟩:=QO.mp hg
 have g1:=Zn g1
 have g2:lst v ∉ v.map nA:=by
  intro z
  rw [Zj z] at g2; cases g2
 refine ⟨hv.walk.snoc ht e,?_,fun u hu=>?_⟩
 ·rw [ZM]
  refine XX.mpr ⟨hv.nodup,by simp,fun a ha b hb z=>?_⟩
  have hb:b=nA t:=by simpa using hb
  rw [z,hb,e] at ha
  exact g2 ha
 ·rw [gE hv.walk.ne]
  rcases ZE.mp hu with hu|hu
  ·exact hv.least u hu
  ·rw [ZH.mp hu,e]; omega
structure eg (st:List Nd) (Q R:Yh):Prop where
 rows:∀ v∈Q,Row st v
 found:∀ w∈R,Ring st w
 all:∀ w,Ring st w->(∀ t∈w,fst w<=nA t)->w∈R\/∃ v∈Q,v <+: w
theorem eg.start:eg st (st.map fun t=>[t]) []:=⟨fun v hv=>by
  obtain ⟨t,ht,rfl⟩:=Zy.mp hv
  exact .one ht,fun _ h=>(by cases h),fun w hw _=>by
  cases w with
  | nil=>exact absurd rfl hw.walk.ne
  | cons t r=>exact .inr ⟨[t],Zy.mpr ⟨t,hw.walk.mem t Zl,rfl⟩,⟨r,rfl⟩⟩⟩
theorem om {v w:Wlk} (hv:v≠[]) (hw:Ring st w) (hl:∀ t∈w,fst w<=nA t) (hp:v <+: w):v=w/\bE v\/∃ t,t∈st/\nA t=lst v/\v++[t] <+: w/\dI v=true/\¬ bE v:=by
 obtain ⟨r,rfl⟩:=hp
 cases r with
 | nil =>
  rw [Xl] at hw ⊢
  exact .inl ⟨rfl,hw.closed⟩
 | cons t r =>
  have c:=(dh hv (by simp)).mp hw.walk.chn
  have ht:nA t=lst v:=c.2.1.symm
  have hn:=hw.nodup
  rw [ZM] at hn
  obtain ⟨_,_,hd⟩:=XX.mp hn
  have hnot:lst v ∉ v.map nA:=fun z=>by
   rw [<- ht] at z
   exact hd (nA t) z (nA t) Zl rfl
  have hf:fst v∈v.map nA:=by
   cases v with
   | nil=>exact absurd rfl hv
   | cons u q=>exact Zl
  have hne:fst v≠lst v:=fun z=>hnot (z ▸ hf)
  have hle:fst v<=lst v:=by
   have:=hl t (ZY _ Zl)
   rw [gE hv,ht] at this
   exact this
  refine .inr ⟨t,hw.walk.mem t (ZY _ Zl),ht,⟨r,by rw [Zs]; rfl⟩,?_,hne⟩
  unfold dI
  rw [Zj (show fst v < lst v by omega),Zq hnot]; rfl
theorem eg.step {Q R:Yh} {v:Wlk} (h:eg st (Q++[v]) R) :
  (bE v->eg st Q (R++[v]))/\(¬ bE v->dI v=true->∀ X:List Wlk,(∀ w,w∈X ↔ ∃ t∈st,nA t=lst v/\w=v++[t])->eg st (Q++X) R)/\(¬ bE v->dI v=false->eg st Q R):=by
 have hv:=h.rows v (by simp)
 have split:∀ w,Ring st w->(∀ t∈w,fst w<=nA t)->w∈R\/(∃ u∈Q,u <+: w)\/v <+: w:=fun w hw hl=>by
  rcases h.all w hw hl with z|⟨u,hu,z⟩
  ·exact .inl z
  ·rcases ZE.mp hu with hu|hu
   ·exact .inr (.inl ⟨u,hu,z⟩)
   ·rw [ZH.mp hu] at z; exact .inr (.inr z)
 refine ⟨fun hc=>⟨fun u hu=>h.rows u (Xd _ hu),fun w hw=>?_,fun w hw hl=>?_⟩,fun hc hg X hX=>⟨fun u hu=>?_,h.found,fun w hw hl=>?_⟩,fun hc hg=>⟨fun u hu=>h.rows u (Xd _ hu),h.found,fun w hw hl=>?_⟩⟩
 ·rcases ZE.mp hw with hw|hw
  ·exact h.found w hw
  ·rw [ZH.mp hw]; exact ⟨hv.walk,hc,hv.nodup⟩
 ·rcases split w hw hl with z|z|z
  ·exact .inl (Xd _ z)
  ·exact .inr z
  ·rcases om hv.walk.ne hw hl z with ⟨e,_⟩|⟨_,_,_,_,_,e⟩
   ·rw [<- e]; exact .inl (by simp)
   ·exact absurd hc e
 ·rcases ZE.mp hu with hu|hu
  ·exact h.rows u (Xd _ hu)
  ·obtain ⟨t,ht,e,rfl⟩:=(hX u).mp hu
   exact hv.next hg ht e
 ·rcases split w hw hl with z|⟨u,hu,z⟩|z
  ·exact .inl z
  ·exact .inr ⟨u,Xd _ hu,z⟩
  ·rcases om hv.walk.ne hw hl z with ⟨_,e⟩|⟨t,ht,e,hp,_,_⟩
   ·exact absurd e hc
   ·exact .inr ⟨v++[t],ZY _ ((hX _).mpr ⟨t,ht,e,rfl⟩),hp⟩
 ·rcases split w hw hl with z|z|z
  ·exact .inl z
  ·exact .inr z
  ·rcases om hv.walk.ne hw hl z with ⟨_,e⟩|⟨_,_,_,_,e,_⟩
   ·exact absurd e hc
   ·rw [hg] at e; cases e
theorem o_:∀ {xs ys:WJ},xs.Nodup->(∀ x∈xs,x∈ys)->xs.length<=ys.length
 | [],_,_,_=>Xf _
 | x::r,ys,h,hs=>by
  obtain ⟨h1,h2⟩:=Xg.mp h
  have hx:=hs x Zl
  have:=o_ (xs:=r) (ys:=ys.erase x) h2 fun y hy=>(List.mem_erase_of_ne (fun (e:y=x)=>h1 (by rw [<- e]; exact hy))).mpr (hs y (Zm _ hy))
  rw [List.length_erase_of_mem hx] at this
  have:=List.length_pos_of_mem hx
  rw [ZB]; omega
theorem short {n:Nat} {xs:WJ} (h:xs.Nodup) (hs:∀ x∈xs,0<=x/\x.toNat < n):xs.length<=n:=by
 have:=o_ (ys:=(List.range n).map fun (i:Nat)=>(i:Int)) h fun x hx=>Zy.mpr ⟨x.toNat,ZS.mpr (hs x hx).2,Wr (hs x hx).1⟩
 rw [Zb,ZL] at this
 exact this
def cost (Q:Yh):Nat:=(Q.map fun v=>13 ^ (5 - v.length)).sum
theorem u9 (a b:Yh):cost (a++b)=cost a+cost b:=by unfold cost; rw [ZM,Wn]
theorem o7 {k c:Nat}:∀ {X:Yh},X.length<=k->(∀ v∈X,13 ^ (5 - v.length)<=c)->cost X<=k * c
 | [],_,_=>Xf _
 | v::r,hk,h=>by
  obtain ⟨k',rfl⟩:∃ k',k=k' + 1:=⟨k - 1,by rw [ZB] at hk; omega⟩
  have h1:=h v Zl
  have h2:=o7 (k:=k') (c:=c) (X:=r) (by rw [ZB] at hk; omega) fun u hu=>h u (Zm _ hu)
  show 13 ^ (5 - v.length)+cost r<=_
  rw [Nat.add_mul,Nat.one_mul]; omega
theorem xh {v:Wlk}:cost [v]=13 ^ (5 - v.length):=by show 13 ^ (5 - v.length)+0=_; omega
theorem A1 {v:Wlk} {X:Yh} (h4:v.length<=4) (hk:X.length<=12) (hX:∀ u∈X,u.length=v.length+1):cost X < cost [v]:=by
 have h1:=o7 (c:=13 ^ (4 - v.length)) hk fun u hu=>by rw [hX u hu,show 5 - (v.length+1)=4 - v.length by omega]; exact Zk _
 rw [xh,show 5 - v.length=(4 - v.length)+1 by omega,WG]
 have:0 < 13 ^ (4 - v.length):=Nat.pow_pos (by decide)
 omega
end
end WK

namespace RL
open PySem EV GO WK
noncomputable def wH:Fn:=⟨2,2,(.ret (.bi .sum (.cs (.comp 2 (.ix (.ix (.ix (.v 0) (.c (.int 2))) (.ix (.v 3) (.c (.int 0)))) (.c (.int 1))) (.one 3) (.iSeq (.v 1)) .nl) .nl)))⟩
noncomputable def pL:Fn:=⟨1,1,(.ret (.bi .sum (.cs (.comp 2 (.ix (.v 2) (.c (.int 2))) (.one 2) (.iSeq (.v 0)) .nl) .nl)))⟩
noncomputable def uw:Fn:=⟨3,3,(.ret (.bin .sub (.call "longs_of" (.cs (.v 0) (.cs (.v 2) .nl))) (.bin .mul (.v 1) (.call "backs_of" (.cs (.v 2) .nl)))))⟩
noncomputable def t9:Fn:=⟨3,6,(.seq (.set (.one 3) .dnew)
 (.seq (.forS (.one 4) (.iSeq (.v 2))
  (.seq (.set (.one 5) (.tup (.cs (.ix (.ix (.v 4) (.c (.int 0))) (.c (.int 0))) (.cs (.ix (.ix (.v 4) (.neg (.c (.int 1)))) (.c (.int 1))) .nl))))
 (.ite (.or (.cmp .dnin (.v 5) (.v 3)) (.cmp .lt (.call "surplus" (.cs (.v 0) (.cs (.v 1) (.cs (.dgv (.v 3) (.v 5)) .nl)))) (.call "surplus" (.cs (.v 0) (.cs (.v 1) (.cs (.v 4) .nl))))))
  (.dsv (.v 3) (.v 5) (.v 4))
  .skip)))
 (.ret (.v 3))))⟩
noncomputable def j3:Fn:=⟨2,4,(.seq (.set (.one 2) (.lst .nl))
 (.seq (.forS (.one 3) (.iSeq (.v 0))
  (.ex (.me .extend (.v 2) (.cs (.comp 2 (.bin .add (.v 3) (.lst (.cs (.v 5) .nl))) (.one 5) (.iSeq (.v 1)) (.cmp .eq (.ix (.v 5) (.c (.int 0))) (.ix (.ix (.v 3) (.neg (.c (.int 1)))) (.c (.int 1))))) .nl))))
 (.ret (.v 2))))⟩
structure HW (P:Prg):Prop where
 bN:Has P "longs_of" wH
 bg:Has P "backs_of" pL
 surplus:Has P "surplus" uw
 longest:Has P "longest_walks" t9
 lengthened:Has P "lengthened" j3
def aF (l:Lp) (x:Int):Int:=((l.works.getD x.toNat ⟨0,0,"",[],[]⟩).long:Int)
def cH (l:Lp) (t:Nd):Prop:=∃ x i b:Nat,t=[(x:Int),(i:Int),(b:Int)]/\x < l.works.length/\i < l.works.length/\b<=3/\(b=0->x < i)
theorem zD {l:Lp} (hl:l.WF) {t:Nd} (h:t∈bx 0 l.works):cH l t:=by
 obtain ⟨i,w,b,x,h1,h2,h3⟩:=jL h
 have hi:i < l.works.length:=(Zg.mp h1).1
 have hs:=(hl.works i w h1).srcs _ h2
 obtain ⟨hb,hx⟩:b<=3/\x < (if b=0 then i else l.works.length):=hs
 refine ⟨x,i,b,by rw [h3,Xm],?_,hi,hb,fun e=>by rw [Zd e] at hx; exact hx⟩
 split at hx <;> omega
def AtW (T:aa) (q:Wlk × Nat):Prop:=T[q.2]?=some (.lst (q.1.map tupI))
theorem aV {T T':aa} (h:T <+: T') {i:Nat} {c:Cell} (e:T[i]?=some c):T'[i]?=some c:=by
 obtain ⟨t,rfl⟩:=h
 rw [ZF (Zg.mp e).1]; exact e
theorem AtW.pre {T T':aa} {q:Wlk × Nat} (h:AtW T q) (p:T <+: T'):AtW T' q:=aV p h
section
variable {sub:Sub} {P:Prg} {n:Nat} {S T:aa} {l:Lp}
theorem jZ {c:Nat} {is:WJ} (h:S[c]?=some (.lst (is.map .int))):biD sub .sum [.loc c] S=.ok (.int is.sum) S:=by
 rw [AM,c6 h,Res.aj,allI,cW,Res.aj]
theorem fY {t:Nd} (h:cH l t):(∃ r,t.map D.int=.int (nA t)::.int (nB t)::.int (nC t)::r)/\0<=nA t/\(nA t).toNat < l.works.length/\0<=nB t/\(nB t).toNat < l.works.length/\0<=nC t/\nC t<=3/\(nC t=0->nA t < nB t):=by
 obtain ⟨x,i,b,rfl,h1,h2,h3,h4⟩:=h
 refine ⟨⟨[],rfl⟩,?_⟩
 show 0<=(x:Int)/\(x:Int).toNat < _/\0<=(i:Int)/\(i:Int).toNat < _/\0<=(b:Int)/\(b:Int)<=3/\((b:Int)=0->(x:Int) < (i:Int))
 omega
theorem fQ {t:Nd} (h:cH l t):ixD (tupI t) (.int 0) T=.ok (.int (nA t)) T:=by
 obtain ⟨x,i,b,rfl,_⟩:=h; exact aB rfl
theorem jU {t:Nd} (h:cH l t):ixD (tupI t) (.int 1) T=.ok (.int (nB t)) T:=by
 obtain ⟨x,i,b,rfl,_⟩:=h; exact aB rfl
theorem uV {t:Nd} (h:cH l t):ixD (tupI t) (.int 2) T=.ok (.int (nC t)) T:=by
 obtain ⟨x,i,b,rfl,_⟩:=h; exact aB rfl
theorem wV {x:Int} (h0:0<=x) (h:x.toNat < l.works.length):atI (l.works.map Wk.toD) x=some (l.works.getD x.toNat ⟨0,0,"",[],[]⟩).toD:=by
 have:=ya h
 rw [Wr h0] at this
 exact this
theorem vS (hw:HW P) {w:Wlk} {k:Nat} (h:AtW S (w,k)) (hn:∀ t∈w,cH l t) (hz:w.length<=1000):ah sub P (n+1) "longs_of" [l.toD,.loc k] S=.ok (.int (bN (aF l) w)) S:=by
 have h:S[k]?=some (.lst (w.map tupI)):=h
 have e:ev sub (ah sub P n) (.comp 2 (.ix (.ix (.ix (.v 0) (.c (.int 2))) (.ix (.v 3) (.c (.int 0)))) (.c (.int 1))) (.one 3) (.iSeq (.v 1)) .nl) [some l.toD,some (.loc k)] S=.ok (.loc S.length) (S++[.lst (w.map fun t=>.int (aF l (nA t)))]) :=
  fT (ks:=w) (f:=tupI) (g:=fun t=>.int (aF l (nA t))) (o:=some k) (raw:=w.map tupI) (bu (r_v rfl) (bX h)) (cK (.inr ⟨k,rfl,h⟩)) (fun t ht=>by
   obtain ⟨_,h0,h1,_⟩:=fY (hn t ht)
   exact aq (aq (aq (r_v rfl) r_c (aB rfl)) (aq (r_v rfl) r_c (fQ (hn t ht))) (aB (wV h0 h1))) r_c (aB rfl)) (by unfold aG; omega)
 have e2:(w.map fun t=>D.int (aF l (nA t)))=(w.map fun t=>aF l (nA t)).map .int:=by rw [ZX]; rfl
 rw [e2] at e
 exact x_call (ds:=[l.toD,.loc k]) hw.bN rfl (aK (aT (af e ai) (jZ (aD _ _)))) (gp _ _ _)
theorem wo (hw:HW P) {w:Wlk} {k:Nat} (h:AtW S (w,k)) (hn:∀ t∈w,cH l t) (hz:w.length<=1000):ah sub P (n+1) "backs_of" [.loc k] S=.ok (.int (bg w)) S:=by
 have h:S[k]?=some (.lst (w.map tupI)):=h
 have e:ev sub (ah sub P n) (.comp 2 (.ix (.v 2) (.c (.int 2))) (.one 2) (.iSeq (.v 0)) .nl) [some (.loc k)] S=.ok (.loc S.length) (S++[.lst (w.map fun t=>.int (nC t))]) :=
  fT (ks:=w) (f:=tupI) (g:=fun t=>.int (nC t)) (o:=some k) (raw:=w.map tupI) (bu (r_v rfl) (bX h)) (cK (.inr ⟨k,rfl,h⟩)) (fun t ht=>aq (r_v rfl) r_c (uV (hn t ht))) (by unfold aG; omega)
 have e2:(w.map fun t=>D.int (nC t))=(w.map nC).map .int:=by rw [ZX]; rfl
 rw [e2] at e
 exact x_call (ds:=[.loc k]) hw.bg rfl (aK (aT (af e ai) (jZ (aD _ _)))) (gp _ _ _)
theorem lK (hw:HW P) {w:Wlk} {k:Nat} {g:Int} (hg:0<=g/\g<=1000) (h:AtW S (w,k)) (hn:∀ t∈w,cH l t) (hz:w.length<=1000):ah sub P (n+2) "surplus" [l.toD,.int g,.loc k] S=.ok (.int (wt (aF l) g w)) S :=
 x_call (ds:=[l.toD,.int g,.loc k]) hw.surplus rfl (aK (bB (aA (af (r_v rfl) (af (r_v rfl) ai)) (vS hw h hn hz)) (bB (r_v rfl) (aA (af (r_v rfl) ai) (wo hw h hn hz)) (f7 (by omega))) (f_ _ _ _))) (gF _ _)
def TabAt (T:aa) (l:Nat) (kvs:Yd):Prop:=T[l]?=some (.dct kvs)\/T[l]?=some (.fdc kvs)
theorem n9 {T:aa} {l:Nat} {kvs:Yd} (h:TabAt T l kvs) (f:List (List Int × D)->M D):bY l f T=f kvs T:=by
 unfold bY
 rcases h with h|h <;> rw [h]
theorem v_ {l:Nat} {kvs:Yd} {k:WJ} {d:D} (h:TabAt T l kvs) (e:aM kvs k=some d):jj (.loc l) (tupI k) T=.ok d T:=by
 show (opt (allInts (k.map .int))>>=fun k=>bY l fun kvs=>opt (cg kvs k)) T=_
 rw [ay,allI,cW,Res.aj,n9 h,show cg kvs k=some d from e,cW]
theorem xZ {l:Nat} {kvs:Yd} {k:WJ} (h:TabAt T l kvs):cmD .dnin (tupI k) (.loc l) T=.ok (.bl (!(aM kvs k).isSome)) T:=by
 show (opt (allInts (k.map .int))>>=fun k=>bY l fun kvs=>pure (.bl ((cg kvs k).isSome != true))) T=_
 rw [ay,allI,cW,Res.aj,n9 h]
 show Res.ok (D.bl ((cg kvs k).isSome != true)) T=_
 rw [show cg kvs k=aM kvs k from rfl]
 cases (aM kvs k).isSome <;> rfl
theorem x8 {l:Nat} {kvs:Yd} {k:WJ} {d:D} (h:T[l]?=some (.dct kvs)) (hz:kvs.length<=1000000):iM (.loc l) (tupI k) d T=.ok .non (T.set l (.dct (bT kvs k d))):=by
 show (opt (allInts (k.map .int))>>=fun k=>eO l fun kvs=>guard (e_ kvs.length) (put l (.dct (iY kvs k d)))) T=_
 rw [ay,allI,cW,Res.aj]
 unfold eO
 rw [h]
 show guard (e_ kvs.length) (put l (.dct (iY kvs k d))) T=_
 rw [show e_ kvs.length=true from Zj (by unfold aG; omega)]
 rfl
theorem nY {cf:Ye} {σ:Sg} {a b:E} {x y:D} {S1 S2:aa} {R:Res D} (ha:ev sub cf a σ S=.ok x S1) (hb:ev sub cf b σ S1=.ok y S2) (h:jj x y S2=R):ev sub cf (.dgv a b) σ S=R:=by
 show (ev sub cf a σ>>=fun x=>ev sub cf b σ>>=fun y=>jj x y) S=R
 rw [ay,ha,Res.aj,ay,hb,Res.aj,h]
theorem E_ {cf:Ye} {σ:Sg} {a b e:E} {x y d r:D} {S1 S2 S3 S4:aa} (he:ev sub cf e σ S=.ok d S1) (ha:ev sub cf a σ S1=.ok x S2) (hb:ev sub cf b σ S2=.ok y S3) (h:iM x y d S3=.ok r S4):exec sub cf (.dsv a b e) σ S=.ok (.nx σ) S4:=by
 show (ev sub cf e σ>>=fun d=>ev sub cf a σ>>=fun x=>ev sub cf b σ>>=fun y=>iM x y d>>=fun _=>pure (Fl.nx σ)) S=_
 rw [ay,he,Res.aj,ay,ha,Res.aj,ay,hb,Res.aj,ay,h,Res.aj]; rfl
theorem DA {cf:Ye} {σ:Sg}:ev sub cf .dnew σ S=.ok (.loc S.length) (S++[.dct []]):=id rfl
noncomputable def kv (e:List Int × (Wlk × Nat)):List Int × D:=(e.1,.loc e.2.2)
def wfQ (l:Lp) (g:Int) (q:Wlk × Nat):Int:=wt (aF l) g q.1
noncomputable def enQ (q:Wlk × Nat):List Int:=ends q.1
theorem oQ {w:Wlk} (h:w≠[]):∃ t,w.getLast?=some t/\t∈w/\lst w=nB t/\atI (w.map tupI) (-1)=some (tupI t):=by
 obtain ⟨v,t,rfl⟩:∃ v t,w=v++[t]:=⟨w.dropLast,w.getLast h,(List.dropLast_concat_getLast h).symm⟩
 refine ⟨t,by simp,by simp,by rw [e8 _ (by simp)]; rfl,?_⟩
 unfold atI ixN
 rw [Ze (by decide),Zd (by rw [Zb,Zp]; simp; omega)]
 have e:(-1+((List.map tupI (v++[t])).length:Int)).toNat=v.length:=by rw [Zb,Zp]; simp; omega
 rw [e]
 show (List.map tupI (v++[t]))[v.length]?=_
 simp
theorem qw {w:Wlk} (h:w≠[]):∃ t,t∈w/\fst w=nA t/\atI (w.map tupI) 0=some (tupI t):=by
 cases w with
 | nil=>exact absurd rfl h
 | cons t r=>exact ⟨t,by simp,rfl,by rw [gf]; rfl⟩
theorem uo {T:aa} {a b:Cell}:(T++[a]).set T.length b=T++[b]:=by rw [List.set_append_right _ _ (Zk _),Wm]; rfl
noncomputable def m5:EV.S:=.seq (.set (.one 5) (.tup (.cs (.ix (.ix (.v 4) (.c (.int 0))) (.c (.int 0))) (.cs (.ix (.ix (.v 4) (.neg (.c (.int 1)))) (.c (.int 1))) .nl))))
 (.ite (.or (.cmp .dnin (.v 5) (.v 3)) (.cmp .lt (.call "surplus" (.cs (.v 0) (.cs (.v 1) (.cs (.dgv (.v 3) (.v 5)) .nl)))) (.call "surplus" (.cs (.v 0) (.cs (.v 1) (.cs (.v 4) .nl))))))
  (.dsv (.v 3) (.v 5) (.v 4))
  .skip)
structure cy (l:Lp) (T:aa) (q:Wlk × Nat):Prop where
 at':AtW T q
 ne:q.1≠[]
 nd:∀ t∈q.1,cH l t
 len:q.1.length<=1000
theorem cy.pre {q:Wlk × Nat} {T':aa} (h:cy l T q) (p:T <+: T'):cy l T' q:=⟨h.at'.pre p,h.ne,h.nd,h.len⟩
theorem zv (hw:HW P) {g:Int} (hg:0<=g/\g<=1000) {K:List (List Int × (Wlk × Nat))} {q:Wlk × Nat} {x2 x5:Option D} (hq:cy l S q) (hK:∀ e∈K,cy l S e.2) (hz:K.length<=1000000) :
  exec sub (ah sub P (n+2)) m5 [some l.toD,some (.int g),x2,some (.loc S.length),some (.loc q.2),x5] (S++[.dct (K.map kv)]) =
   .ok (.nx [some l.toD,some (.int g),x2,some (.loc S.length),some (.loc q.2),some (tupI (enQ q))]) (S++[.dct ((c5 enQ (wfQ l g) K q).map kv)]):=by
 have pre:S <+: S++[.dct (K.map kv)]:=Zi _ _
 have hq':=hq.pre pre
 obtain ⟨t,ht,e1,a1⟩:=qw hq.ne
 obtain ⟨u,_,hu,e2,a2⟩:=oQ hq.ne
 have hL:(S++[Cell.dct (K.map kv)])[q.2]?=some (.lst (q.1.map tupI)):=hq'.at'
 have s1:exec sub (ah sub P (n+2)) (.set (.one 5) (.tup (.cs (.ix (.ix (.v 4) (.c (.int 0))) (.c (.int 0))) (.cs (.ix (.ix (.v 4) (.neg (.c (.int 1)))) (.c (.int 1))) .nl))))
   [some l.toD,some (.int g),x2,some (.loc S.length),some (.loc q.2),x5] (S++[.dct (K.map kv)])=.ok (.nx [some l.toD,some (.int g),x2,some (.loc S.length),some (.loc q.2),some (tupI (enQ q))]) (S++[.dct (K.map kv)]):=by
  have:=aL (sub:=sub) (cf:=ah sub P (n+2)) (σ:=[some l.toD,some (.int g),x2,some (.loc S.length),some (.loc q.2),x5]) (S:=S++[.dct (K.map kv)]) (i:=5) (eG (af (aq (aq (r_v (i:=4) rfl) r_c (fF hL a1)) r_c (fQ (hq.nd t ht))) (af (aq (aq (r_v (i:=4) rfl) (fL r_c) (fF hL a2)) r_c (jU (hq.nd u hu))) ai)) rfl)
  rw [<- e1,<- e2] at this
  exact this
 have hT:TabAt (S++[.dct (K.map kv)]) S.length (K.map kv):=.inl (aD _ _)
 have hg2:aM (K.map kv) (enQ q)=(aM K (enQ q)).map fun q=>D.loc q.2:=get_map (fun q:Wlk × Nat=>D.loc q.2) (enQ q) K
 have s2:=lK (sub:=sub) (n:=n) hw hg hq'.at' hq.nd hq.len
 have hin:=xZ (k:=enQ q) hT
 rw [hg2,Q9] at hin
 have put:exec sub (ah sub P (n+2)) (.dsv (.v 3) (.v 5) (.v 4)) [some l.toD,some (.int g),x2,some (.loc S.length),some (.loc q.2),some (tupI (enQ q))] (S++[.dct (K.map kv)]) =
   .ok (.nx [some l.toD,some (.int g),x2,some (.loc S.length),some (.loc q.2),some (tupI (enQ q))]) (S++[.dct ((bT K (enQ q) q).map kv)]):=by
  have:=E_ (sub:=sub) (cf:=ah sub P (n+2)) (σ:=[some l.toD,some (.int g),x2,some (.loc S.length),some (.loc q.2),some (tupI (enQ q))]) (r_v (i:=4) rfl) (r_v (i:=3) rfl) (r_v (i:=5) rfl) (x8 (k:=enQ q) (d:=.loc q.2) (aD S (.dct (K.map kv))) (by rw [Zb]; exact hz))
  rw [uo,show bT (K.map kv) (enQ q) (.loc q.2)=(bT K (enQ q) q).map kv from yo (fun q:Wlk × Nat=>D.loc q.2) (enQ q) q K] at this
  exact this
 refine ak s1 ?_
 unfold c5
 cases e:aM K (enQ q) with
 | none =>
  rw [e] at hin
  exact cC (qH (aO (aP (r_v rfl) (r_v rfl) hin))) put
 | some y =>
  rw [e] at hin hg2
  have hy:=(hK _ (fh e)).pre pre
  have s3:=lK (sub:=sub) (n:=n) hw hg hy.at' hy.nd hy.len
  have ht:evT sub (ah sub P (n+2)) (.or (.cmp .dnin (.v 5) (.v 3)) (.cmp .lt (.call "surplus" (.cs (.v 0) (.cs (.v 1) (.cs (.dgv (.v 3) (.v 5)) .nl)))) (.call "surplus" (.cs (.v 0) (.cs (.v 1) (.cs (.v 4) .nl))))))
    [some l.toD,some (.int g),x2,some (.loc S.length),some (.loc q.2),some (tupI (enQ q))] (S++[.dct (K.map kv)])=.ok (decide (wfQ l g y < wfQ l g q)) (S++[.dct (K.map kv)]) :=
   c8 (aO (aP (r_v rfl) (r_v rfl) hin)) (aO (aP (aA (af (r_v rfl) (af (r_v rfl) (af (nY (r_v rfl) (r_v rfl) (v_ hT hg2)) ai))) s3) (aA (af (r_v rfl) (af (r_v rfl) (af (r_v rfl) ai))) s2) (lz _ _ _)))
  simp only
  by_cases hlt:wfQ l g y < wfQ l g q
  ·rw [Zd hlt]
   rw [Zj hlt] at ht
   exact cC ht put
  ·rw [Ze hlt]
   rw [Zq hlt] at ht
   exact aN ht aR
theorem FE {α:Type} {en:α->List Int} {wf:α->Int} {Q:List α} {e:List Int × α} (h:e∈Q.foldl (c5 en wf) []):e.2∈Q:=((KOk.of (en:=en) (wf:=wf) Q).mem e h).1
theorem D4 (hw:HW P) {g:Int} (hg:0<=g/\g<=1000) {Q:Yg} {k:Nat} (hk:S[k]?=some (.lst (Q.map fun q=>.loc q.2))) (hQ:∀ q∈Q,cy l S q) (hz:Q.length<=1000000) :
  ah sub P (n+3) "longest_walks" [l.toD,.int g,.loc k] S=.ok (.loc S.length) (S++[.dct ((Q.foldl (c5 enQ (wfQ l g)) []).map kv)]):=by
 have hkl:k < S.length:=(Zg.mp hk).1
 obtain ⟨σ',T',e,x4,x5,rfl,rfl⟩:=jw (sub:=sub) (cf:=ah sub P (n+2)) (t:=.one 4) (it:=.iSeq (.v 2)) (b:=m5) (σ:=[some l.toD,some (.int g),some (.loc k),some (.loc S.length),none,none]) (S:=S++[.dct []]) (S1:=S++[.dct []]) (s:=⟨Q.map fun q=>.loc q.2,some k,Q.map fun q=>.loc q.2⟩)
  (fun i σ T=>∃ x4 x5,σ=[some l.toD,some (.int g),some (.loc k),some (.loc S.length),x4,x5]/\T=S++[.dct (((Q.take i).foldl (c5 enQ (wfQ l g)) []).map kv)])
  (bu (r_v rfl) (bX (by rw [ZF hkl]; exact hk))) ⟨none,none,rfl,rfl⟩
  (fun i σ T ⟨_,_,_,hT⟩=>by subst hT; exact cK (.inr ⟨k,rfl,by rw [ZF hkl]; exact hk⟩))
  (fun i hi σ T ⟨x4,x5,hσ,hT⟩=>by
   subst hσ; subst hT
   have hi':i < Q.length:=by simpa using hi
   have hit:(Q.map fun q=>D.loc q.2)[i]'hi=.loc (Q[i]).2:=Qm _
   show ∃ σ' T',bA sub (ah sub P (n+2)) (.one 4) m5 ((Q.map fun q=>D.loc q.2)[i]'hi) _ _=_/\_
   rw [hit]
   have hl:=(KOk.of (en:=enQ) (wf:=wfQ l g) (Q.take i)).len
   rw [X4] at hl
   refine ⟨_,_,eU (zv hw hg (x2:=some (.loc k)) (hQ _ (Xo hi')) (fun e he=>hQ _ (QP (FE he))) (by omega)),some (.loc (Q[i]).2),some (tupI (enQ Q[i])),rfl,?_⟩
   rw [Qn hi',List.foldl_append]; rfl)
 rw [Zb,Z4] at e
 refine x_call (ds:=[l.toD,.int g,.loc k]) hw.longest rfl (ak (aL DA) (ak e (aK (r_v rfl)))) ?_
 unfold leave
 rw [Zd (cD _ _),Ze (by show ¬ decide (S.length < S.length)=true; simp)]
 simp only [aD]
 rw [Ze (by show ¬ Cell.low S.length (.dct _)=true; exact Zz)]
end
end RL

namespace RL
open PySem EV GO WK
section
variable {sub:Sub} {P:Prg} {n:Nat} {S T:aa} {l:Lp}
theorem lP {α:Type} {s:Src} {fn:D->M (Option D)} {f:α->D} {p:α->Bool} {h:α->Wlk} {S0:aa} (hs:∀ T,S0 <+: T->aH s T=.ok () T):∀ (ks:List α) (T:aa),S0 <+: T ->
  (∀ a∈ks,∀ T,S0 <+: T->(p a=false->fn (f a) T=.ok none T)/\(p a=true->∃ T' l,fn (f a) T=.ok (some (.loc l)) T'/\T <+: T'/\S0.length<=l/\AtW T' (h a,l))) ->
  ∃ (T':aa) (Q:Yg),bw s fn (ks.map f) T=.ok (Q.map fun q=>.loc q.2) T'/\T <+: T'/\Q.map (·.1)=(ks.filter p).map h/\∀ q∈Q,AtW T' q/\S0.length<=q.2
 | [],T,hT,_=>⟨T,[],by rw [X7,jA,hs T hT]; rfl,Z2 _,rfl,fun _ h=>by cases h⟩
 | a::r,T,hT,H=>by
  obtain ⟨h1,h2⟩:=H a Zl T hT
  cases q:p a with
  | false =>
   obtain ⟨T',Q,e,t1,t2,t3⟩:=lP hs r T hT fun b hb=>H b (Zm _ hb)
   refine ⟨T',Q,?_,t1,by rw [Qp (by rw [q]; decide)]; exact t2,t3⟩
   rw [ZC,i9,hs T hT,Res.aj,h1 q,Res.aj,e]; rfl
  | true =>
   obtain ⟨T1,m,e1,p1,lm,a1⟩:=h2 q
   obtain ⟨T',Q,e,t1,t2,t3⟩:=lP hs r T1 (hT.trans p1) fun b hb=>H b (Zm _ hb)
   refine ⟨T',(h a,m)::Q,?_,p1.trans t1,?_,fun x hx=>?_⟩
   ·rw [ZC,i9,hs T hT,Res.aj,e1,Res.aj,e]; rfl
   ·rw [X3 q,ZC,ZC,t2]
   ·rcases Zt.mp hx with rfl|hx
    ·exact ⟨a1.pre t1,lm⟩
    ·exact t3 x hx
theorem kQ {cf:Ye} {σ:Sg} {k i:Nat} {el it tt:E} {α:Type} {ks:List α} {f:α->D} {p:α->Bool} {h:α->Wlk} {o:Option Nat} {raw:Yc} (hi:evI sub cf it σ S=.ok ⟨ks.map f,o,raw⟩ S) (hs:∀ T,S <+: T->aH ⟨ks.map f,o,raw⟩ T=.ok () T)
  (hp:∀ a∈ks,∀ T,S <+: T->(if tt.bq=true then (pure true:M Bool) else evT sub cf tt ((σ++List.replicate k none).set i (some (f a)))) T=.ok (p a) T)
  (hg:∀ a∈ks,p a=true->∀ T,S <+: T->∃ T' l,ev sub cf el ((σ++List.replicate k none).set i (some (f a))) T=.ok (.loc l) T'/\T <+: T'/\S.length<=l/\AtW T' (h a,l)) (hz:ks.length<=aG) :
  ∃ (T':aa) (Q:Yg),ev sub cf (.comp k el (.one i) it tt) σ S=.ok (.loc T'.length) (T'++[.lst (Q.map fun q=>.loc q.2)])/\S <+: T'/\Q.map (·.1)=(ks.filter p).map h/\∀ q∈Q,AtW T' q/\S.length<=q.2:=by
 obtain ⟨T',Q,e,t1,t2,t3⟩:=lP (s:=⟨ks.map f,o,raw⟩) (fn:=fun d=>aS (.one i) d (σ++List.replicate k none)>>=fun σ'=>(if tt.bq=true then pure true else evT sub cf tt σ')>>=fun b=>if b=true then ev sub cf el σ'>>=fun y=>pure (some y) else pure none) (f:=f) (p:=p) (h:=h) (S0:=S) hs ks S (Z2 _) (fun a ha T hT=>by
  have e0:=hp a ha T hT
  have key:∀ b,p a=b->(aS (.one i) (f a) (σ++List.replicate k none)>>=fun σ'=>(if tt.bq=true then pure true else evT sub cf tt σ')>>=fun b=>if b=true then ev sub cf el σ'>>=fun y=>pure (some y) else pure none) T=(if b=true then ev sub cf el ((σ++List.replicate k none).set i (some (f a)))>>=fun y=>pure (some y) else (pure none:M (Option D))) T:=fun b hb=>by
   rw [ay,gD,Res.aj,ay,e0,Res.aj,hb]
  refine ⟨fun q=>?_,fun q=>?_⟩
  ·rw [key false q]; rfl
  ·obtain ⟨T',l,e1,p1,lm,a1⟩:=hg a ha q T hT
   refine ⟨T',l,?_,p1,lm,a1⟩
   rw [key true q,Zd rfl,ay,e1,Res.aj]; rfl)
 have hl:Q.length<=aG:=by
  have:=Xn List.length t2
  rw [Zb,Zb] at this
  rw [this]
  exact Z7 (Xr _ _) hz
 refine ⟨T',Q,?_,t1,t2,t3⟩
 rw [dB,hi]
 simp only [Res.aj]
 rw [dQ e]
 simp only [Res.aj]
 rw [Zd (show fits _=true from Zj (by rw [Zb]; exact hl))]
def dz (v:Wlk) (t:Nd):Bool:=nA t==lst v
noncomputable def longer (st:List Nd) (V:Yh):List Wlk:=V.flatMap fun v=>(st.filter (dz v)).map fun t=>v++[t]
theorem Hg {st:List Nd} {V:Yh} (w:Wlk):w∈longer st V ↔ ∃ v∈V,∃ t∈st,nA t=lst v/\w=v++[t]:=by
 unfold longer dz
 rw [List.mem_flatMap]
 constructor
 ·rintro ⟨v,hv,h⟩
  obtain ⟨t,ht,rfl⟩:=Zy.mp h
  obtain ⟨h1,h2⟩:=XG.mp ht
  exact ⟨v,hv,t,h1,eq_of_beq h2,rfl⟩
 ·rintro ⟨v,hv,t,ht,e,rfl⟩
  exact ⟨v,hv,Zy.mpr ⟨t,XG.mpr ⟨ht,Qt.mpr e⟩,rfl⟩⟩
theorem mV (st:List Nd):∀ V:List Wlk,(longer st V).length<=V.length * st.length
 | []=>by unfold longer; simp
 | v::r=>by
  have ih:=mV st r
  unfold longer at ih ⊢
  rw [List.flatMap_cons,Zp,Zb,ZB,Nat.add_mul,Nat.one_mul]
  have:=Xr (dz v) st
  omega
noncomputable def qL:E:=.comp 2 (.bin .add (.v 3) (.lst (.cs (.v 5) .nl))) (.one 5) (.iSeq (.v 1)) (.cmp .eq (.ix (.v 5) (.c (.int 0))) (.ix (.ix (.v 3) (.neg (.c (.int 1)))) (.c (.int 1))))
theorem lC {a b:Nat} {xs ys:Yc} (ha:T[a]?=some (.lst xs)) (hb:T[b]?=some (.lst ys)) (hz:xs.length+ys.length<=1000000):opD .add (.loc a) (.loc b) T=.ok (.loc T.length) (T++[.lst (xs++ys)]):=by
 show bh a (fun xs=>bh b fun ys=>guard (fits (xs.length+ys.length)) (alloc (.lst (xs++ys)))) T=_
 unfold bh
 rw [ha]
 show (match T[b]? with|some (.lst ds)=>_|_=>Res.bad)=_
 rw [hb]
 show guard (fits (xs.length+ys.length)) (alloc (.lst (xs++ys))) T=_
 rw [show fits (xs.length+ys.length)=true from Zj (by unfold aG; omega)]; rfl
theorem xC {cf:Ye} {st:List Nd} {k:Nat} (hk:T[k]?=some (.lst (st.map tupI))) (hst:∀ t∈st,cH l t) (hz:st.length<=1000) {v:Wlk × Nat} (hv:cy l T v) {x0 x2:Option D} :
  ∃ (T':aa) (Q:Yg),ev sub cf qL [x0,some (.loc k),x2,some (.loc v.2)] T=.ok (.loc T'.length) (T'++[.lst (Q.map fun q=>.loc q.2)])/\T <+: T'/\Q.map (·.1)=(st.filter (dz v.1)).map (fun t=>v.1++[t])/\∀ q∈Q,AtW T' q/\T.length<=q.2:=by
 obtain ⟨u,_,hu,e2,a2⟩:=oQ hv.ne
 refine kQ (ks:=st) (f:=tupI) (p:=dz v.1) (h:=fun t=>v.1++[t]) (o:=some k) (raw:=st.map tupI) (bu (r_v rfl) (bX hk)) (fun T' hT=>cK (.inr ⟨k,rfl,aV hT hk⟩)) (fun t ht T' hT=>?_) (fun t ht _ T' hT=>?_) (by unfold aG; omega)
 ·have hv':T'[v.2]?=some (.lst (v.1.map tupI)):=hv.at'.pre hT
  show evT sub cf _ _ T'=_
  have:=aO (sub:=sub) (cf:=cf) (aP (o:=.eq) (σ:=[x0,some (.loc k),x2,some (.loc v.2),none,some (tupI t)]) (S:=T') (aq (r_v (i:=5) rfl) r_c (fQ (hst t ht))) (aq (aq (r_v (i:=3) rfl) (fL (r_c (d:=.int 1))) (fF hv' a2)) (r_c (d:=.int 1)) (jU (hv.nd u hu))) (dw _ _ _))
  unfold dz
  rw [e2]
  exact this
 ·have hv':T'[v.2]?=some (.lst (v.1.map tupI)):=hv.at'.pre hT
  have hv2:(T'++[Cell.lst [tupI t]])[v.2]?=some (.lst (v.1.map tupI)):=aV (Zi _ _) hv'
  have hlen:=hv.len
  have:=bB (sub:=sub) (cf:=cf) (o:=.add) (σ:=[x0,some (.loc k),x2,some (.loc v.2),none,some (tupI t)]) (S:=T') (r_v (i:=3) rfl) (bO (af (r_v (i:=5) rfl) ai) rfl) (lC hv2 (aD _ _) (by rw [Zb]; simp; omega))
  refine ⟨_,_,this,(Zi _ _).trans (Zi _ _),?_,?_⟩
  ·rw [Zp]
   have:=hT.length_le
   omega
  ·show _[_]?=some (Cell.lst ((v.1++[t]).map tupI))
   rw [aD,ZM]; rfl
theorem gy {T:aa} {k:Nat} {q:Wlk × Nat} {c:Cell} (h:AtW T q) (hk:k≠q.2):AtW (T.set k c) q:=by
 show (T.set k c)[q.2]?=_
 rw [ZW hk]; exact h
theorem BE (hw:HW P) {st:List Nd} {k m:Nat} {V:Yg} (hk:S[k]?=some (.lst (st.map tupI))) (hst:∀ t∈st,cH l t) (hm:S[m]?=some (.lst (V.map fun q=>.loc q.2))) (hV:∀ q∈V,cy l S q) (hz:st.length<=1000) (hz2:V.length * st.length<=1000000) :
  ∃ (T:aa) (Q:Yg),ah sub P (n+1) "lengthened" [.loc m,.loc k] S=.ok (.loc S.length) T/\S <+: T/\T[S.length]?=some (.lst (Q.map fun q=>.loc q.2))/\Q.map (·.1)=longer st (V.map (·.1))/\∀ q∈Q,AtW T q/\S.length < q.2:=by
 have hml:m < S.length:=(Zg.mp hm).1
 obtain ⟨σ',T',e,x3,Q,G,rfl,rfl,hQ,hA⟩:=jw (sub:=sub) (cf:=ah sub P n) (t:=.one 3) (it:=.iSeq (.v 0)) (b:=.ex (.me .extend (.v 2) (.cs qL .nl))) (σ:=[some (.loc m),some (.loc k),some (.loc S.length),none]) (S:=S++[.lst []]) (S1:=S++[.lst []]) (s:=⟨V.map fun q=>.loc q.2,some m,V.map fun q=>.loc q.2⟩)
  (fun i σ T=>∃ (x3:Option D) (Q:Yg) (G:aa),σ=[some (.loc m),some (.loc k),some (.loc S.length),x3]/\T=S++.lst (Q.map fun q=>.loc q.2)::G/\Q.map (·.1)=longer st ((V.take i).map (·.1))/\∀ q∈Q,AtW T q/\S.length < q.2)
  (bu (r_v rfl) (bX (aV (Zi _ _) hm))) ⟨none,[],[],rfl,rfl,rfl,fun _ h=>by cases h⟩
  (fun i σ T ⟨_,_,_,_,hT,_⟩=>by subst hT; exact cK (.inr ⟨m,rfl,aV (Zi _ _) hm⟩))
  (fun i hi σ T ⟨x3,Q,G,hσ,hT,hQ,hA⟩=>by
   subst hσ
   have hi':i < V.length:=by simpa using hi
   have hit:(V.map fun q=>D.loc q.2)[i]'hi=.loc (V[i]).2:=Qm _
   show ∃ σ' T',bA sub (ah sub P n) (.one 3) _ ((V.map fun q=>D.loc q.2)[i]'hi) _ _=_/\_
   rw [hit]
   have hpre:S <+: T:=by subst hT; exact Zi _ _
   obtain ⟨T1,Q1,e1,p1,q1,a1⟩:=xC (sub:=sub) (cf:=ah sub P n) (l:=l) (x0:=some (.loc m)) (x2:=some (.loc S.length)) (aV hpre hk) hst hz ((hV _ (Xo hi')).pre hpre)
   obtain ⟨G1,rfl⟩:=p1
   have hTl:S.length < T.length:=by subst hT; rw [Zp,ZB]; omega
   have hlst:T[S.length]?=some (.lst (Q.map fun q=>.loc q.2)):=by subst hT; exact gO
   have hlst2:(T++G1++[Cell.lst (Q1.map fun q=>.loc q.2)])[S.length]?=some (.lst (Q.map fun q=>.loc q.2)):=aV ((Zi _ _).trans (Zi _ _)) hlst
   have n1:Q.length<=V.length * st.length:=by
    have h1:=Xn List.length hQ
    rw [Zb] at h1
    have h2:=mV st ((V.take i).map (·.1))
    rw [Zb,X4] at h2
    have h3:min i V.length * st.length<=V.length * st.length:=Nat.mul_le_mul_right _ (Nat.min_le_right _ _)
    omega
   have n2:Q1.length<=st.length:=by
    have h1:=Xn List.length q1
    rw [Zb,Zb] at h1
    have:=Xr (dz (V[i]).1) st
    omega
   have ex:=lM (S:=T++G1++[Cell.lst (Q1.map fun q=>.loc q.2)]) hlst2 (aD _ _) (by rw [Zb,Zb]; unfold aG; omega)
   refine ⟨_,_,eU (eY (gK (l:=S.length) (r_v rfl) (af e1 ai) ex (gZ hlst))),some (.loc (V[i]).2),Q++Q1,(G++G1)++[Cell.lst (Q1.map fun q=>.loc q.2)],rfl,?_,?_,?_⟩
   ·subst hT
    rw [Zs,Zs,XN,vX,ZM,Zs]
   ·rw [ZM,hQ,q1,Qn hi',ZM]
    unfold longer
    rw [List.flatMap_append]
    simp
   ·intro q hq
    rcases ZE.mp hq with hq|hq
    ·obtain ⟨b1,b2⟩:=hA q hq
     exact ⟨gy (b1.pre ((Zi _ _).trans (Zi _ _))) (by omega),b2⟩
    ·obtain ⟨b1,b2⟩:=a1 q hq
     exact ⟨gy (b1.pre (Zi _ _)) (by omega),by omega⟩)
 rw [Zb,Z4] at hQ
 have body:exec sub (ah sub P n) j3.body (frame j3 [.loc m,.loc k]) S=.ok (.rt (.loc S.length)) (S++.lst (Q.map fun q=>.loc q.2)::G):=ak (aL (bO ai rfl)) (ak e (aK (r_v rfl)))
 by_cases hQ0:Q=[]
 ·subst hQ0
  refine ⟨S++[.lst []],[],x_call (ds:=[.loc m,.loc k]) hw.lengthened rfl body ?_,Zi _ _,aD _ _,hQ,fun _ h=>by cases h⟩
  exact iN (Zk _) (cD _ _) gO rfl
 ·refine ⟨_,Q,x_call (ds:=[.loc m,.loc k]) hw.lengthened rfl body ?_,Zi _ _,gO,hQ,hA⟩
  unfold leave
  rw [Zd (cD _ _),Ze (by show ¬ decide (S.length < S.length)=true; simp)]
  simp only [gO]
  rw [Ze]
  intro z
  obtain ⟨q,r,rfl⟩:=Qe hQ0
  have z:(decide (q.2 < S.length)&&D.lows S.length (r.map fun q=>.loc q.2))=true:=z
  rw [Zu] at z
  have:=Zn z.1
  have:=(hA q Zl).2
  omega
end
end RL

namespace RL
open PySem EV GO WK
noncomputable def oq:Fn:=⟨2,7,(.seq (.set (.one 2) (.call "needs" (.cs (.v 0) .nl)))
 (.seq (.set (.one 3) (.comp 2 (.lst (.cs (.v 8) .nl)) (.one 8) (.iSeq (.v 2)) .nl))
 (.seq (.forS (.one 4) (.iRng (.cs (.bi .len (.cs (.ix (.v 0) (.c (.int 2))) .nl)) .nl))
  (.seq (.set (.one 5) (.call "longest_walks" (.cs (.v 0) (.cs (.v 1) (.cs (.v 3) .nl)))))
 (.seq (.forS (.one 6) (.iDct (.v 5))
  (.ite (.and (.cmp .eq (.ix (.v 6) (.c (.int 0))) (.ix (.v 6) (.c (.int 1)))) (.cmp .gt (.call "surplus" (.cs (.v 0) (.cs (.v 1) (.cs (.dgv (.v 5) (.v 6)) .nl)))) (.c (.int 0))))
  (.ret (.dgv (.v 5) (.v 6)))
  .skip))
 (.set (.one 3) (.call "lengthened" (.cs (.bi .vals (.cs (.v 5) .nl)) (.cs (.v 2) .nl)))))))
 (.ret (.c .non)))))⟩
noncomputable def jD:EV.S:=.ite (.and (.cmp .eq (.ix (.v 6) (.c (.int 0))) (.ix (.v 6) (.c (.int 1)))) (.cmp .gt (.call "surplus" (.cs (.v 0) (.cs (.v 1) (.cs (.dgv (.v 5) (.v 6)) .nl)))) (.c (.int 0))))
  (.ret (.dgv (.v 5) (.v 6)))
  .skip
noncomputable def kH:EV.S:=.seq (.set (.one 5) (.call "longest_walks" (.cs (.v 0) (.cs (.v 1) (.cs (.v 3) .nl)))))
 (.seq (.forS (.one 6) (.iDct (.v 5)) jD)
 (.set (.one 3) (.call "lengthened" (.cs (.bi .vals (.cs (.v 5) .nl)) (.cs (.v 2) .nl)))))
theorem iV (t:WJ):∀ ts:List (List Int),(bV t ts).length<=ts.length+1
 | []=>Zk _
 | u::r=>by
  unfold bV
  split
  ·exact XL _
  ·split
   ·exact Zk _
   ·have:=iV t r
    rw [ZB,ZB]; omega
theorem ja:∀ ts:List (List Int),(bf ts).length<=ts.length
 | []=>Zk _
 | t::r=>by
  have h1:=iV t (bf r)
  have h2:=ja r
  show (bV t (bf r)).length<=r.length+1
  omega
theorem gW (t x:WJ):∀ ts:List (List Int),x∈bV t ts ↔ x=t\/x∈ts
 | []=>by unfold bV; simp
 | u::r=>by
  unfold bV
  split
  ·rename_i h
   subst h
   constructor
   ·exact .inr
   ·rintro (rfl|h)
    ·exact Zl
    ·exact h
  ·split
   ·exact Zt
   ·rw [Zt,Zt,gW t x r]
    constructor
    ·rintro (h|h|h)
     ·exact .inr (.inl h)
     ·exact .inl h
     ·exact .inr (.inr h)
    ·rintro (h|h|h)
     ·exact .inr (.inl h)
     ·exact .inl h
     ·exact .inr (.inr h)
theorem qd (x:WJ):∀ ts:List (List Int),x∈bf ts ↔ x∈ts
 | []=>Iff.rfl
 | t::r=>by
  show x∈bV t (bf r) ↔ _
  rw [gW,qd x r,Zt]
noncomputable def aI (l:Lp):List Nd:=bf (bx 0 l.works)
theorem cU {l:Lp} (hl:l.WF):∀ t∈aI l,cH l t:=fun t ht=>zD hl ((qd t _).mp ht)
theorem jH {l:Lp} (hl:l.WF) (h4:l.works.length<=4):(aI l).length<=12:=by
 have h1:=ja (bx 0 l.works)
 have h2:=k9 l.works 0 fun w hw=>by
  obtain ⟨i,hi⟩:=ZO hw
  exact (hl.works i w hi).some.2
 unfold aI
 omega
section
variable {sub:Sub} {P:Prg} {n:Nat} {S T:aa} {l:Lp}
theorem IL {α:Type} {en:α->List Int} {wf:α->Int} {Q:List α} {K:List (List Int × α)} (h:KOk en wf Q K):∀ e∈K,∃ x,aM K e.1=some x/\en x=e.1:=fun e he=>by
 obtain ⟨h1,h2⟩:=h.mem e he
 obtain ⟨x,hx,_⟩:=h.all _ h1
 rw [<- h2] at hx
 exact ⟨x,hx,((h.mem _ (fh hx)).2).symm⟩
theorem wZ (hw:HW P) {g:Int} (hg:0<=g/\g<=1000) {Q:Yg} {K:List (List Int × (Wlk × Nat))} {k:Nat} {x2 x3 x4:Option D} (hT:TabAt T k (K.map kv)) (hK:KOk enQ (wfQ l g) Q K) (hQ:∀ q∈Q,cy l T q) {s:Src} (hs:aH s T=.ok () T) :
  ∀ (E:List (List Int × (Wlk × Nat))) (x6:Option D),(∀ e∈E,e∈K) ->
   (∃ q∈Q,forL s (bA sub (ah sub P (n+2)) (.one 6) jD) (E.map fun e=>tupI e.1) [some l.toD,some (.int g),x2,x3,x4,some (.loc k),x6] T=.ok (.rt (.loc q.2)) T/\bE q.1/\0 < wfQ l g q) \/
   (∃ x6',forL s (bA sub (ah sub P (n+2)) (.one 6) jD) (E.map fun e=>tupI e.1) [some l.toD,some (.int g),x2,x3,x4,some (.loc k),x6] T=.ok (.nx [some l.toD,some (.int g),x2,x3,x4,some (.loc k),x6']) T/\∀ e∈E,∀ q,aM K e.1=some q->bE q.1->wfQ l g q<=0)
 | [],x6,_=>.inr ⟨x6,lX hs,fun _ h=>by cases h⟩
 | e::E,x6,hE=>by
  obtain ⟨q,hq,he⟩:=IL hK e (hE e Zl)
  have hqQ:=(hK.mem _ (fh hq)).1
  have gq:=hQ q hqQ
  have he:e.1=[fst q.1,lst q.1]:=he.symm
  have hget:aM (K.map kv) e.1=some (.loc q.2):=by
   rw [show aM (K.map kv) e.1=(aM K e.1).map fun q=>D.loc q.2 from get_map (fun q:Wlk × Nat=>D.loc q.2) e.1 K,hq]; rfl
  have d1:=v_ hT hget
  have s1:=lK (sub:=sub) (n:=n) hw hg gq.at' gq.nd gq.len
  have i0:ixD (tupI e.1) (.int 0) T=.ok (.int (fst q.1)) T:=by rw [he]; exact aB rfl
  have i1:ixD (tupI e.1) (.int 1) T=.ok (.int (lst q.1)) T:=by rw [he]; exact aB rfl
  have t1:evT sub (ah sub P (n+2)) (.cmp .eq (.ix (.v 6) (.c (.int 0))) (.ix (.v 6) (.c (.int 1)))) [some l.toD,some (.int g),x2,x3,x4,some (.loc k),some (tupI e.1)] T=.ok (fst q.1==lst q.1) T:=aO (aP (aq (r_v rfl) r_c i0) (aq (r_v rfl) r_c i1) (dw _ _ _))
  have t2:evT sub (ah sub P (n+2)) (.cmp .gt (.call "surplus" (.cs (.v 0) (.cs (.v 1) (.cs (.dgv (.v 5) (.v 6)) .nl)))) (.c (.int 0))) [some l.toD,some (.int g),x2,x3,x4,some (.loc k),some (tupI e.1)] T=.ok (decide (0 < wfQ l g q)) T:=aO (aP (aA (af (r_v rfl) (af (r_v rfl) (af (nY (r_v rfl) (r_v rfl) d1) ai))) s1) r_c (gB _ _ _))
  have go:((fst q.1==lst q.1)&&decide (0 < wfQ l g q))=false->bA sub (ah sub P (n+2)) (.one 6) jD (tupI e.1) [some l.toD,some (.int g),x2,x3,x4,some (.loc k),x6] T=.ok (.nx [some l.toD,some (.int g),x2,x3,x4,some (.loc k),some (tupI e.1)]) T:=fun hb=>by
   refine eU (aN ?_ aR)
   cases c:(fst q.1==lst q.1) with
   | false=>rw [c] at t1; exact gJ t1
   | true =>
    rw [c] at t1 hb
    rw [Wg] at hb
    rw [hb] at t2
    exact fj t1 t2
  by_cases hb:((fst q.1==lst q.1)&&decide (0 < wfQ l g q))=true
  ·rw [Zu] at hb
   rw [hb.1] at t1
   rw [hb.2] at t2
   refine .inl ⟨q,hqQ,?_,eq_of_beq hb.1,Zn hb.2⟩
   exact mR hs (eU (cC (fj t1 t2) (aK (nY (r_v rfl) (r_v rfl) d1))))
  ·have hb:((fst q.1==lst q.1)&&decide (0 < wfQ l g q))=false:=by cases c:((fst q.1==lst q.1)&&decide (0 < wfQ l g q)) with|true=>exact absurd c hb|false=>rfl
   rcases wZ hw hg hT hK hQ hs E (some (tupI e.1)) fun a ha=>hE a (Zm _ ha) with ⟨y,hy,e1,e2,e3⟩|⟨x6',e1,e2⟩
   ·exact .inl ⟨y,hy,g8 hs (go hb) e1,e2,e3⟩
   ·refine .inr ⟨x6',g8 hs (go hb) e1,fun a ha y hy hc=>?_⟩
    rcases Zt.mp ha with rfl|ha
    ·rw [hq] at hy; cases hy
     have hc:(fst q.1==lst q.1)=true:=Qt.mpr hc
     rw [hc,Wg] at hb
     have:=Wx hb
     omega
    ·exact e2 a ha y hy hc
theorem yS {k:Nat} {K:List (List Int × (Wlk × Nat))} (hT:TabAt T k (K.map kv)) (hz:K.length<=1000000):biD sub .vals [.loc k] T=.ok (.loc T.length) (T++[.lst ((K.map (·.2)).map fun q=>.loc q.2)]):=by
 show bY k (fun kvs=>guard (fits kvs.length) (alloc (.lst (kvs.map (·.2))))) T=_
 rw [n9 hT]
 rw [show fits (K.map kv).length=true from Zj (by rw [Zb]; unfold aG; omega)]
 show Res.ok (D.loc T.length) (T++[.lst ((K.map kv).map (·.2))])=_
 rw [ZX,ZX]; rfl
theorem Ep {cf:Ye} {σ:Sg} {a:E} {k:Nat} {K:List (List Int × (Wlk × Nat))} (ha:ev sub cf a σ (T++[.dct (K.map kv)])=.ok (.loc T.length) (T++[.dct (K.map kv)])):evI sub cf (.iDct a) σ (T++[.dct (K.map kv)])=.ok ⟨K.map fun e=>tupI e.1,none,[]⟩ (T++[.fdc (K.map kv)]):=by
 show (ev sub cf a σ>>=fun d=>iT d) (T++[.dct (K.map kv)])=_
 rw [ay,ha,Res.aj]
 unfold iT
 simp only [aD]
 rw [uo,ZX]; rfl
structure RSt (l:Lp) (g:Int) (S0 T:aa) (m:Nat) (Q:Yg):Prop where
 best:fN (aF l) g (aI l) m (Q.map (·.1))
 at':∀ q∈Q,AtW T q/\S0.length<=q.2
 len:Q.length<=12 ^ m
theorem RSt.good {S0:aa} {g:Int} {m:Nat} {Q:Yg} (hl:l.WF) (h:RSt l g S0 T m Q) (hm:m<=1000):∀ q∈Q,cy l T q:=fun q hq=>by
 obtain ⟨h1,h2⟩:=h.best.mem q.1 (Zy.mpr ⟨q,hq,rfl⟩)
 exact ⟨(h.at' q hq).1,h1.ne,fun t ht=>cU hl t (h1.mem t ht),by omega⟩
theorem uW {m:Nat} (h:m<=5):12 ^ m<=248832:=Z7 (Nat.pow_le_pow_right (by decide) h) (by decide)
theorem EZ (hw:HW P) (hl:l.WF) (h4:l.works.length<=4) {g:Int} (hg:0<=g/\g<=1000) {S0:aa} {m k:Nat} {Q:Yg} {x4 x5 x6:Option D} (hm:1<=m/\m<=4) (hR:RSt l g S0 T m Q) (hk:T[k]?=some (.lst (Q.map fun q=>.loc q.2))) (h0:S0.length < T.length) (hp:S0 <+: T) (hs:T[S0.length]?=some (.lst ((aI l).map tupI))) :
  (∃ q T',exec sub (ah sub P (n+3)) kH [some l.toD,some (.int g),some (.loc S0.length),some (.loc k),x4,x5,x6] T=.ok (.rt (.loc q.2)) T'/\S0 <+: T'/\AtW T' q/\S0.length<=q.2/\Walk (aI l) q.1/\q.1.length=m/\bE q.1/\0 < wt (aF l) g q.1) \/
  (fP (aF l) g (aI l) m/\∃ T' k' Q' x5' x6',exec sub (ah sub P (n+3)) kH [some l.toD,some (.int g),some (.loc S0.length),some (.loc k),x4,x5,x6] T=.ok (.nx [some l.toD,some (.int g),some (.loc S0.length),some (.loc k'),x4,x5',x6']) T'/\T <+: T'/\RSt l g S0 T' (m+1) Q'/\T'[k']?=some (.lst (Q'.map fun q=>.loc q.2))):=by
 have gQ:=hR.good hl (by omega)
 have hQz:Q.length<=248832:=Z7 hR.len (uW (by omega))
 have hst:=jH hl h4
 have e1:=D4 (sub:=sub) (n:=n) hw hg hk gQ (by omega)
 have hK:KOk enQ (wfQ l g) Q (Q.foldl (c5 enQ (wfQ l g)) []):=KOk.of Q
 generalize hKe:Q.foldl (c5 enQ (wfQ l g)) []=K at e1 hK
 have hKz:=hK.len
 have pre:T <+: T++[.fdc (K.map kv)]:=Zi _ _
 have hT:TabAt (T++[.fdc (K.map kv)]) T.length (K.map kv):=.inr (aD _ _)
 have a1:=aL (sub:=sub) (cf:=ah sub P (n+3)) (σ:=[some l.toD,some (.int g),some (.loc S0.length),some (.loc k),x4,x5,x6]) (i:=5) (S:=T) (aA (af (r_v (i:=0) rfl) (af (r_v (i:=1) rfl) (af (r_v (i:=3) rfl) ai))) e1)
 have it:=Ep (sub:=sub) (cf:=ah sub P (n+3)) (σ:=[some l.toD,some (.int g),some (.loc S0.length),some (.loc k),x4,some (.loc T.length),x6]) (T:=T) (K:=K) (k:=0) (r_v (i:=5) rfl)
 rcases wZ (sub:=sub) (n:=n+1) (x2:=some (.loc S0.length)) (x3:=some (.loc k)) (x4:=x4) hw hg hT hK (fun q hq=>(gQ q hq).pre pre) (s:=⟨K.map fun e=>tupI e.1,none,[]⟩) rfl K x6 (fun _ h=>h) with ⟨q,hq,e2,c1,c2⟩|⟨x6',e2,c1⟩
 ·obtain ⟨w1,w2⟩:=hR.best.mem q.1 (Zy.mpr ⟨q,hq,rfl⟩)
  exact .inl ⟨q,_,ak a1 (dN (dX it e2)),hp.trans pre,(hR.at' q hq).1.pre pre,(hR.at' q hq).2,w1,w2,c1,c2⟩
 ·refine .inr ⟨fun w hw' hlw hc=>?_,?_⟩
  ·obtain ⟨v,hv,he,hle⟩:=hR.best.all w hw' hlw
   obtain ⟨q,hq,rfl⟩:=Zy.mp hv
   obtain ⟨x,hx,hle2⟩:=hK.all q hq
   have hxe:enQ x=enQ q:=((hK.mem _ (fh hx)).2).symm
   have hxc:bE x.1:=by
    obtain ⟨z1,z2⟩:=uN (hxe.trans he)
    show fst x.1=lst x.1
    rw [z1,z2]; exact hc
   have:=c1 _ (fh hx) x hx hxc
   have h5:wt (aF l) g q.1<=wt (aF l) g x.1:=hle2
   have h6:wt (aF l) g x.1<=0:=this
   omega
  ·have gV:∀ q∈K.map (·.2),cy l (T++[.fdc (K.map kv)]++[.lst ((K.map (·.2)).map fun q=>.loc q.2)]) q:=fun q hq=>by
    obtain ⟨e,he,rfl⟩:=Zy.mp hq
    exact ((gQ _ (hK.mem e he).1).pre pre).pre (Zi _ _)
   obtain ⟨T',Q',e3,p3,g3,m3,a3⟩:=BE (sub:=sub) (P:=P) (n:=n+2) (S:=T++[.fdc (K.map kv)]++[.lst ((K.map (·.2)).map fun q=>.loc q.2)]) (l:=l) (st:=aI l) (k:=S0.length) (m:=(T++[Cell.fdc (K.map kv)]).length) (V:=K.map (·.2)) hw
    (aV (pre.trans (Zi _ _)) hs) (cU hl) (aD _ _) gV (by omega) (by
     rw [Zb]
     have:K.length * (aI l).length<=12 ^ m * 12:=Nat.mul_le_mul (Z7 hKz hR.len) hst
     have h2:12 ^ m * 12<=248832:=by rw [<- WG]; exact uW (by omega)
     omega)
   have hv:=yS (sub:=sub) (T:=T++[.fdc (K.map kv)]) (k:=T.length) (K:=K) hT (by omega)
   have a2:=aL (sub:=sub) (cf:=ah sub P (n+3)) (σ:=[some l.toD,some (.int g),some (.loc S0.length),some (.loc k),x4,some (.loc T.length),x6']) (i:=3) (S:=T++[.fdc (K.map kv)]) (aA (af (aT (af (r_v (i:=5) rfl) ai) hv) (af (r_v (i:=2) rfl) ai)) e3)
   refine ⟨T',_,Q',_,_,ak a1 (ak (dX it e2) a2),(pre.trans (Zi _ _)).trans p3,⟨?_,?_,?_⟩,g3⟩
   ·refine fN.next (V:=(K.map (·.2)).map (·.1)) (by omega) (fun w hw'=>?_) (fun w hw' hlw=>?_) (fun w=>by rw [m3]; exact Hg w)
    ·obtain ⟨q,hq,rfl⟩:=Zy.mp hw'
     obtain ⟨e,he,rfl⟩:=Zy.mp hq
     exact hR.best.mem _ (Zy.mpr ⟨_,(hK.mem e he).1,rfl⟩)
    ·obtain ⟨v,hv,he,hle⟩:=hR.best.all w hw' hlw
     obtain ⟨q,hq,rfl⟩:=Zy.mp hv
     obtain ⟨x,hx,hle2⟩:=hK.all q hq
     have hxe:enQ x=enQ q:=((hK.mem _ (fh hx)).2).symm
     refine ⟨x.1,Zy.mpr ⟨x,Zy.mpr ⟨_,fh hx,rfl⟩,rfl⟩,hxe.trans he,?_⟩
     have h5:wt (aF l) g q.1<=wt (aF l) g x.1:=hle2
     omega
   ·intro q hq
    obtain ⟨b1,b2⟩:=a3 q hq
    refine ⟨b1,?_⟩
    rw [Zp,Zp] at b2
    omega
   ·have h1:=Xn List.length m3
    rw [Zb] at h1
    have h2:=mV (aI l) ((K.map (·.2)).map (·.1))
    rw [Zb,Zb] at h2
    have:K.length * (aI l).length<=12 ^ m * 12:=Nat.mul_le_mul (Z7 hKz hR.len) hst
    rw [WG]
    omega
theorem rF (hw:HW P) (hl:l.WF) (h4:l.works.length<=4) {g:Int} (hg:0<=g/\g<=1000) {S0:aa} {raw:Yc} {its0:Yc}:∀ (its:Yc) (T:aa) (m k:Nat) (Q:Yg) (x4 x5 x6:Option D),1<=m->m+its.length<=5->RSt l g S0 T m Q->T[k]?=some (.lst (Q.map fun q=>.loc q.2))->S0.length < T.length->S0 <+: T->T[S0.length]?=some (.lst ((aI l).map tupI))->(∀ j,0 < j->j < m->fP (aF l) g (aI l) j) ->
  (∃ q T',forL ⟨its0,none,raw⟩ (bA sub (ah sub P (n+3)) (.one 4) kH) its [some l.toD,some (.int g),some (.loc S0.length),some (.loc k),x4,x5,x6] T=.ok (.rt (.loc q.2)) T'/\S0 <+: T'/\AtW T' q/\S0.length<=q.2/\Walk (aI l) q.1/\q.1.length < m+its.length/\bE q.1/\0 < wt (aF l) g q.1/\(q.1.map nA).Nodup) \/
  (∃ σ' T',forL ⟨its0,none,raw⟩ (bA sub (ah sub P (n+3)) (.one 4) kH) its [some l.toD,some (.int g),some (.loc S0.length),some (.loc k),x4,x5,x6] T=.ok (.nx σ') T'/\S0 <+: T'/\∀ j,0 < j->j < m+its.length->fP (aF l) g (aI l) j)
 | [],T,m,k,Q,x4,x5,x6,h1,h2,hR,hk,h0,hp,hs,hf=>.inr ⟨_,T,lX rfl,hp,hf⟩
 | d::its,T,m,k,Q,x4,x5,x6,h1,h2,hR,hk,h0,hp,hs,hf=>by
  rw [ZB] at h2
  rcases EZ (sub:=sub) (n:=n) (x4:=some d) (x5:=x5) (x6:=x6) hw hl h4 hg ⟨h1,by omega⟩ hR hk h0 hp hs with ⟨q,T',e,p,a,b,w,wl,c,pos⟩|⟨fr,T',k',Q',x5',x6',e,p,hR',hk'⟩
  ·refine .inl ⟨q,T',mR rfl (eU e),p,a,b,w,by rw [ZB]; omega,c,pos,qQ w c pos fun j j1 j2=>hf j j1 (by omega)⟩
  ·have:=rF hw hl h4 hg (raw:=raw) (its0:=its0) its T' (m+1) k' Q' (some d) x5' x6' (by omega) (by omega) hR' hk' (ZN h0 p.length_le) (hp.trans p) (aV p hs) (fun j j1 j2=>by
    by_cases hj:j=m
    ·rw [hj]; exact fr
    ·exact hf j j1 (by omega))
   rw [ZB]
   rcases this with ⟨q,T2,e2,r⟩|⟨σ2,T2,e2,r1,r2⟩
   ·refine .inl ⟨q,T2,g8 rfl (eU e) e2,?_⟩
    rw [show m+(its.length+1)=m+1+its.length by omega]; exact r
   ·refine .inr ⟨σ2,T2,g8 rfl (eU e) e2,r1,?_⟩
    rw [show m+(its.length+1)=m+1+its.length by omega]; exact r2
structure nN (l:Lp) (g:Int) (w:Wlk):Prop where
 walk:Walk (aI l) w
 len:w.length<=l.works.length
 closed:bE w
 pos:0 < wt (aF l) g w
 nodup:(w.map nA).Nodup
theorem uB (h:HB P) (hn:Has P "needs" jP) (hr:Has P "barring_ring" oq) (hw:HW P) (hl:l.WF) (h4:l.works.length<=4) {g:Int} (hg:0<=g/\g<=1000) :
  (∃ w,ah sub P (n+9) "barring_ring" [l.toD,.int g] S=.ok (.loc S.length) (S++[.lst (w.map tupI)])/\nN l g w) \/
  (ah sub P (n+9) "barring_ring" [l.toD,.int g] S=.ok .non S/\∀ j,0 < j->j<=l.works.length->fP (aF l) g (aI l) j):=by
 have e1:=Gi (sub:=sub) (n:=n) (S:=S) h hn hl (by omega)
 have hst:=jH hl h4
 obtain ⟨T',Q,e2,p2,m2,a2⟩:=kQ (sub:=sub) (cf:=ah sub P (n+8)) (σ:=[some l.toD,some (.int g),some (.loc S.length),none,none,none,none]) (S:=S++[.lst ((aI l).map tupI)]) (k:=2) (i:=8) (el:=.lst (.cs (.v 8) .nl)) (it:=.iSeq (.v 2)) (tt:=.nl) (ks:=aI l) (f:=tupI) (p:=fun _=>true) (h:=fun t=>[t]) (o:=some S.length) (raw:=(aI l).map tupI)
  (bu (r_v rfl) (bX (aD _ _))) (fun T hT=>cK (.inr ⟨_,rfl,aV hT (aD _ _)⟩)) (fun t ht T hT=>rfl) (fun t ht _ T hT=>⟨_,_,bO (af (r_v rfl) ai) rfl,Zi _ _,hT.length_le,aD _ _⟩) (by unfold aG; omega)
 have hp:S <+: T':=(Zi _ _).trans p2
 have hlen:S.length < T'.length:=by
  have:=p2.length_le
  rw [Zp] at this
  simp at this
  omega
 have hf:(aI l).filter (fun _=>true)=aI l:=List.filter_eq_self.mpr fun _ _=>rfl
 rw [hf] at m2
 have hR:RSt l g S (T'++[.lst (Q.map fun q=>.loc q.2)]) 1 Q:=⟨by rw [m2]; exact fN.one,fun q hq=>⟨(a2 q hq).1.pre (Zi _ _),by
   have:=(a2 q hq).2
   rw [Zp] at this
   omega⟩,by
   have:=Xn List.length m2
   rw [Zb,Zb] at this
   omega⟩
 have hs:(T'++[Cell.lst (Q.map fun q=>.loc q.2)])[S.length]?=some (.lst ((aI l).map tupI)):=aV (p2.trans (Zi _ _)) (aD _ _)
 have hit:evI sub (ah sub P (n+8)) (.iRng (.cs (.bi .len (.cs (.ix (.v 0) (.c (.int 2))) .nl)) .nl)) [some l.toD,some (.int g),some (.loc S.length),some (.loc T'.length),none,none,none] (T'++[.lst (Q.map fun q=>.loc q.2)])=.ok ⟨(List.range l.works.length).map fun (i:Nat)=>.int (i:Int),none,[]⟩ (T'++[.lst (Q.map fun q=>.loc q.2)]) :=
  iH (af (aT (af (aq (r_v rfl) r_c (aB rfl)) ai) eZ) ai) (by rw [Zb]) (by omega) (fun _=>rfl)
 rcases rF (sub:=sub) (n:=n+5) (raw:=[]) (its0:=(List.range l.works.length).map fun (i:Nat)=>.int (i:Int)) hw hl h4 hg ((List.range l.works.length).map fun (i:Nat)=>.int (i:Int)) (T'++[.lst (Q.map fun q=>.loc q.2)]) 1 T'.length Q none none none (by omega) (by rw [Zb,ZL]; omega) hR (aD _ _) (by rw [Zp]; omega) (hp.trans (Zi _ _)) hs (fun j j1 j2=>by omega) with ⟨q,T2,e3,r1,r2,r3,r4,r5,r6,r7,r8⟩|⟨σ2,T2,e3,r1,r2⟩
 ·rw [Zb,ZL] at r5
  refine .inl ⟨q.1,x_call (ds:=[l.toD,.int g]) hr rfl (ak (aL (aA (af (r_v rfl) ai) e1)) (ak (aL e2) (dN (dX hit e3)))) (iN r3 ?_ r2 (nQ _)),r4,by omega,r6,r7,r8⟩
  obtain ⟨G,rfl⟩:=r1
  exact cD _ _
 ·rw [Zb,ZL] at r2
  refine .inr ⟨x_call (ds:=[l.toD,.int g]) hr rfl (ak (aL (aA (af (r_v rfl) ai) e1)) (ak (aL e2) (ak (dX hit e3) (aK r_c)))) (b7 rfl ?_),fun j j1 j2=>r2 j j1 (by omega)⟩
  obtain ⟨G,rfl⟩:=r1
  exact cD _ _
end
end RL

namespace WK
theorem mZ:∀ {xs:WJ},(∀ x∈xs,0<=x)->0<=xs.sum
 | [],_=>Qh _
 | x::r,h=>by
  have h1:=h x Zl
  have h2:=mZ fun y hy=>h y (Zm _ hy)
  rw [List.sum_cons]; omega
theorem wK:∀ {xs:WJ},(∀ x∈xs,0<=x)->xs.sum=0->∀ x∈xs,x=0
 | [],_,_,x,hx=>by cases hx
 | y::r,h,e,x,hx=>by
  have h1:=h y Zl
  have h2:=mZ fun z hz=>h z (Zm _ hz)
  rw [List.sum_cons] at e
  rcases Zt.mp hx with rfl|hx
  ·omega
  ·exact wK (fun z hz=>h z (Zm _ hz)) (by omega) x hx
theorem up:∀ {w:Wlk},w≠[]->Chn w->(∀ t∈w,nA t < nB t)->fst w < lst w
 | [],h,_,_=>absurd rfl h
 | [t],_,_,h=>h t Zl
 | t::u::r,_,c,h=>by
  have h1:=h t Zl
  have h2:=up (w:=u::r) (by simp) c.2 fun x hx=>h x (Zm _ hx)
  have h3:nA u < lst (u::r):=h2
  have h4:=c.1
  show nA t < lst (u::r)
  omega
theorem y_ {w:Wlk} (hn:w≠[]) (hc:Chn w) (hcl:bE w) (h:∀ t∈w,0<=nC t/\(nC t=0->nA t < nB t)):1<=bg w:=by
 have h0:0<=bg w:=mZ fun x hx=>by
  obtain ⟨t,ht,rfl⟩:=Zy.mp hx
  exact (h t ht).1
 refine Xw fun z=>?_
 have hz:bg w=0:=by omega
 have:=up hn hc fun t ht=>(h t ht).2 (wK (fun x hx=>by
  obtain ⟨t,ht,rfl⟩:=Zy.mp hx
  exact (h t ht).1) hz _ (Zy.mpr ⟨t,ht,rfl⟩))
 have hcl:fst w=lst w:=hcl
 omega
theorem mD {c:Int}:∀ {xs:WJ},(∀ x∈xs,x<=c)->xs.sum<=c * (xs.length:Int)
 | [],_=>by simp
 | x::r,h=>by
  have h1:=h x Zl
  have h2:=mD fun y hy=>h y (Zm _ hy)
  rw [List.sum_cons,ZB,Int.natCast_add,Int.mul_add]; simp; omega
theorem rY {lg:Int->Int} {g h:Int} {w:Wlk} (hb:0<=bg w) (hg:h<=g):wt lg g w<=wt lg h w:=by
 unfold wt
 have:h * bg w<=g * bg w:=Xx hg hb
 omega
end WK
namespace RL
open PySem EV GO WK
structure HR0 (P:Prg):Prop where
 needs:Has P "needs" jP
 gap:Has P "checked_gap" ua
 eS:Has P "barring_ring" oq
 walks:HW P
structure HR (P:Prg):Prop extends HR0 P where
 ring:Has P "ring" f_ring
 isneed:Has P "is_need" f_is_need
 isring:Has P "is_ring" f_is_ring
 isbar:Has P "is_bar" f_is_bar
section
variable {sub:Sub} {P:Prg} {n:Nat} {S T:aa} {l:Lp}
theorem Ad (h:HB P) (hr:HR0 P) {g:Int} (h1:1<=g) (h2:g<=200):ah sub P (n+2) "checked_gap" [.int g] S=.ok (.int g) S :=
 x_call (ds:=[.int g]) hr.gap rfl (ak (aN (bQ (bM (aA (af (r_v rfl) (af r_c (af r_c ai))) (dc h.whole h1 h2)))) aR) (aK (r_v rfl))) (gF _ _)
theorem kh (hl:l.WF) {w:Wlk} (hw:Walk (aI l) w) (hc:bE w):1<=bg w:=y_ hw.ne hw.chn hc fun t ht=>by
 obtain ⟨_,_,_,_,_,h1,_,h2⟩:=fY (cU hl t (hw.mem t ht))
 exact ⟨h1,h2⟩
end
end RL

namespace RL
open PySem EV GO WK
noncomputable def wA:Fn:=⟨2,2,(.ret (.neg (.bin .fdiv (.neg (.v 0)) (.v 1))))⟩
noncomputable def vQ:Fn:=⟨1,3,(.seq (.ex (.call "checked" (.cs (.v 0) .nl)))
 (.seq (.set (.one 1) (.c (.int 1)))
 (.seq (.set (.one 2) (.call "barring_ring" (.cs (.v 0) (.cs (.v 1) .nl))))
 (.seq (.whl (.notN (.v 2))
  (.seq (.set (.one 1) (.call "rounded_up" (.cs (.call "longs_of" (.cs (.v 0) (.cs (.v 2) .nl))) (.cs (.call "backs_of" (.cs (.v 2) .nl)) .nl))))
 (.set (.one 2) (.call "barring_ring" (.cs (.v 0) (.cs (.v 1) .nl))))))
 (.ret (.v 1))))))⟩
noncomputable def s_:Fn:=⟨2,2,(.ret (.bin .mul (.ix (.ix (.ix (.v 0) (.c (.int 1))) (.v 1)) (.c (.int 1))) (.bi .len (.cs (.comp 2 (.v 3) (.one 3) (.iSeq (.ix (.v 0) (.c (.int 2)))) (.cmp .eq (.ix (.v 3) (.c (.int 0))) (.v 1))) .nl))))⟩
noncomputable def v8:Fn:=⟨2,4,(.seq (.forS (.many [2,3]) (.iEnum (.ix (.v 0) (.c (.int 1))))
  (.ite (.cmp .gt (.call "crew_times" (.cs (.v 0) (.cs (.v 2) .nl))) (.bin .mul (.v 1) (.ix (.v 3) (.c (.int 0)))))
  (.ret (.v 2))
  .skip))
 (.ret (.c .non)))⟩
noncomputable def pF:Fn:=⟨2,2,(.seq (.ex (.call "checked" (.cs (.v 0) .nl)))
 (.ret (.call "barring_crew" (.cs (.v 0) (.cs (.call "checked_gap" (.cs (.v 1) .nl)) .nl)))))⟩
noncomputable def qW:Fn:=⟨1,1,(.seq (.ex (.call "checked" (.cs (.v 0) .nl)))
 (.ret (.bi .max (.cs (.comp 3 (.call "rounded_up" (.cs (.call "crew_times" (.cs (.v 0) (.cs (.v 2) .nl))) (.cs (.ix (.v 3) (.c (.int 0))) .nl))) (.many [2,3]) (.iEnum (.ix (.v 0) (.c (.int 1)))) .nl) .nl))))⟩
structure HC (P:Prg):Prop where
 up:Has P "rounded_up" wA
 ringgap:Has P "ring_gap" vQ
 times:Has P "crew_times" s_
 eS:Has P "barring_crew" v8
 crowd:Has P "crowd" pF
 crewgap:Has P "crew_gap" qW
section
variable {c:Sg->M Bool} {f:Sg->M Fl} {n:Nat} {σ σ':Sg} {S S1 S2:aa}
theorem nP (hc:c σ S=.ok true S1) (hf:f σ S1=.ok (.nx σ') S2):bH c f (n+1) σ S=bH c f n σ' S2:=by
 show (c σ>>=fun k=>if k=true then f σ>>=fun fl=>match fl with|.nx σ'=>bH c f n σ'|.ct σ'=>bH c f n σ'|.bk σ'=>pure (.nx σ')|.rt d=>pure (.rt d) else pure (.nx σ)) S=_
 rw [ay,hc,Res.aj,Zd rfl,ay,hf,Res.aj]
theorem nT (hc:c σ S=.ok false S1):bH c f (n+1) σ S=.ok (.nx σ) S1:=by
 show (c σ>>=fun k=>if k=true then f σ>>=fun fl=>match fl with|.nx σ'=>bH c f n σ'|.ct σ'=>bH c f n σ'|.bk σ'=>pure (.nx σ')|.rt d=>pure (.rt d) else pure (.nx σ)) S=_
 rw [ay,hc,Res.aj,Ze (by decide)]; rfl
end
def ceil (a b:Int):Int:=-(-a / b)
theorem k8 {a b:Int} (hb:0 < b):(ceil a b - 1) * b < a/\a<=ceil a b * b:=by
 unfold ceil
 have h1:=Int.emod_add_mul_ediv (-a) b
 have h2:=QU (-a) (Int.ne_of_gt hb)
 have h3:=Qw (-a) hb
 rw [Int.mul_comm] at h1
 generalize (-a) / b=q at h1
 rw [Int.sub_mul,Int.neg_mul,Int.one_mul]
 omega
section
variable {sub:Sub} {P:Prg} {n:Nat} {S T:aa} {l:Lp}
theorem sd (hc:HC P) {a b:Int} (hb:0 < b/\b < 1000000):ah sub P (n+1) "rounded_up" [.int a,.int b] S=.ok (.int (ceil a b)) S :=
 x_call (ds:=[.int a,.int b]) hc.up rfl (aK (fL (bB (fL (r_v rfl)) (r_v rfl) (tS ⟨hb.1,by omega⟩)))) (gF _ _)
def oY (l:Lp) (g:Int):Prop:=∀ j,0 < j->j<=l.works.length->fP (aF l) g (aI l) j
def fD (l:Lp) (g:Int):Prop:=∃ w,Walk (aI l) w/\w.length<=l.works.length/\bE w/\0 < wt (aF l) g w
theorem AW {g h:Int} (hl:l.WF) (hf:oY l g) (hg:g<=h):¬ fD l h:=fun ⟨w,h1,h2,h3,h4⟩=>by
 have h5:=hf w.length (by cases w with|nil=>exact absurd rfl h1.ne|cons t r=>rw [ZB]; omega) h2 w h1 rfl h3
 have h6:=rY (lg:=aF l) (w:=w) (by have:=kh hl h1 h3; omega) hg
 omega
theorem Dh (hl:l.WF) {w:Wlk} (hw:∀ t∈w,cH l t):bN (aF l) w<=8 * (w.length:Int):=by
 have:=mD (c:=8) (xs:=w.map fun t=>aF l (nA t)) fun x hx=>by
  obtain ⟨t,ht,rfl⟩:=Zy.mp hx
  obtain ⟨_,h0,h1,_⟩:=fY (hw t ht)
  unfold aF
  rw [ZJ,Zc h1]
  exact XU.mpr (hl.works _ _ (Zc h1)).long.2
 rw [Zb] at this
 exact this
theorem BG {w:Wlk} (hw:∀ t∈w,cH l t):bg w<=3 * (w.length:Int):=by
 have:=mD (c:=3) (xs:=w.map nC) fun x hx=>by
  obtain ⟨t,ht,rfl⟩:=Zy.mp hx
  obtain ⟨_,_,_,_,_,_,h1,_⟩:=fY (hw t ht)
  exact h1
 rw [Zb] at this
 exact this
noncomputable def wO:EV.S:=.seq (.set (.one 1) (.call "rounded_up" (.cs (.call "longs_of" (.cs (.v 0) (.cs (.v 2) .nl))) (.cs (.call "backs_of" (.cs (.v 2) .nl)) .nl))))
 (.set (.one 2) (.call "barring_ring" (.cs (.v 0) (.cs (.v 1) .nl))))
theorem xA (hl:l.WF) (h4:l.works.length<=4) {g:Int} {w:Wlk} (hb:nN l g w) (hg:1<=g):g < ceil (bN (aF l) w) (bg w)/\ceil (bN (aF l) w) (bg w)<=32/\0 < wt (aF l) (ceil (bN (aF l) w) (bg w) - 1) w:=by
 have h1:=kh hl hb.walk hb.closed
 obtain ⟨c1,c2⟩:=k8 (a:=bN (aF l) w) (b:=bg w) (by omega)
 have h2:=Dh hl fun t ht=>cU hl t (hb.walk.mem t ht)
 have h3:=hb.len
 have h5:bN (aF l) w<=32:=by omega
 have hp:0 < bN (aF l) w - g * bg w:=hb.pos
 refine ⟨?_,?_,?_⟩
 ·refine Xw fun z=>?_
  have:ceil (bN (aF l) w) (bg w) * bg w<=g * bg w:=Xx (by omega) (by omega)
  omega
 ·refine Xw fun z=>?_
  have:32 * 1<=(ceil (bN (aF l) w) (bg w) - 1) * bg w:=Wv (by omega) h1 (by omega) (by omega)
  omega
 ·unfold wt; omega
theorem tQ (h:HB P) (hr:HR0 P) (hc:HC P) (hl:l.WF) (h4:l.works.length<=4):∀ (k N:Nat) (g:Int) (m:Nat) (w:Wlk) (T:aa),1<=g->33 - g<=(k:Int)->k < N->nN l g w->AtW T (w,m)->S <+: T ->
  ∃ g' T',bH (evT sub (ah sub P (n+9)) (.notN (.v 2))) (exec sub (ah sub P (n+9)) wO) (N+1) [some l.toD,some (.int g),some (.loc m)] T=.ok (.nx [some l.toD,some (.int g'),some .non]) T'/\S <+: T'/\g < g'/\g'<=32/\oY l g'/\fD l (g' - 1)
 | k,N,g,m,w,T,hg,hk,hN,hb,hm,hp=>by
  obtain ⟨n1,n2,n3⟩:=xA hl h4 hb hg
  have hn:=fun t ht=>cU hl t (hb.walk.mem t ht)
  have hwl:=hb.len
  have e1:=vS (sub:=sub) (n:=n+8) hr.walks hm hn (by omega)
  have e2:=wo (sub:=sub) (n:=n+8) hr.walks hm hn (by omega)
  have hbk:=kh hl hb.walk hb.closed
  have hbl:=BG hn
  have e3:=sd (sub:=sub) (n:=n+8) (S:=T) hc (a:=bN (aF l) w) (b:=bg w) ⟨by omega,by omega⟩
  generalize ceil (bN (aF l) w) (bg w)=g1 at *
  have s1:=aL (sub:=sub) (cf:=ah sub P (n+9)) (σ:=[some l.toD,some (.int g),some (.loc m)]) (i:=1) (S:=T) (aA (af (aA (af (r_v (i:=0) rfl) (af (r_v (i:=2) rfl) ai)) e1) (af (aA (af (r_v (i:=2) rfl) ai) e2) ai)) e3)
  have t1:evT sub (ah sub P (n+9)) (.notN (.v 2)) [some l.toD,some (.int g),some (.loc m)] T=.ok true T:=t_k (iC (x:=.loc m) (r_v rfl)) rfl
  have sb:fD l (g1 - 1):=⟨w,hb.walk,hb.len,hb.closed,n3⟩
  rcases uB (sub:=sub) (n:=n) (S:=T) h hr.needs hr.eS hr.walks hl h4 (g:=g1) ⟨by omega,by omega⟩ with ⟨v,e4,hv⟩|⟨e4,hf⟩
  ·have s2:=aL (sub:=sub) (cf:=ah sub P (n+9)) (σ:=[some l.toD,some (.int g1),some (.loc m)]) (i:=2) (S:=T) (aA (af (r_v (i:=0) rfl) (af (r_v (i:=1) rfl) ai)) e4)
   obtain ⟨k',rfl⟩:∃ k',k=k' + 1:=⟨k - 1,by omega⟩
   obtain ⟨N',rfl⟩:∃ N',N=N' + 1:=⟨N - 1,by omega⟩
   obtain ⟨g',T',e5,p5,b1,b2,b3,b4⟩:=tQ h hr hc hl h4 k' N' g1 T.length v (T++[Cell.lst (v.map tupI)]) (by omega) (by omega) (by omega) hv (show AtW (T++[Cell.lst (v.map tupI)]) (v,T.length) from aD _ _) (hp.trans (Zi _ _))
   exact ⟨g',T',(nP t1 (ak s1 s2)).trans e5,p5,by omega,b2,b3,b4⟩
  ·have s2:=aL (sub:=sub) (cf:=ah sub P (n+9)) (σ:=[some l.toD,some (.int g1),some (.loc m)]) (i:=2) (S:=T) (aA (af (r_v (i:=0) rfl) (af (r_v (i:=1) rfl) ai)) e4)
   obtain ⟨N',rfl⟩:∃ N',N=N' + 1:=⟨N - 1,by omega⟩
   refine ⟨g1,T,(nP t1 (ak s1 s2)).trans (nT (t_k (iC (r_v rfl)) rfl)),hp,n1,n2,hf,sb⟩
theorem Fb (h:HB P) (hr:HR0 P) (hc:HC P) (hl:l.WF) (h4:l.works.length<=4) :
  ∃ g,ah sub P (n+10) "ring_gap" [l.toD] S=.ok (.int g) S/\1<=g/\g<=32/\oY l g/\(1 < g->fD l (g - 1)):=by
 have b1:=eY (sub:=sub) (cf:=ah sub P (n+9)) (σ:=[some l.toD,none,none]) (S:=S) (aA (af (r_v (i:=0) rfl) ai) (j7 (n:=n+2) h hl))
 rcases uB (sub:=sub) (n:=n) (S:=S) h hr.needs hr.eS hr.walks hl h4 (g:=1) ⟨by omega,by omega⟩ with ⟨v,e4,hv⟩|⟨e4,hf⟩
 ·have s2:=aL (sub:=sub) (cf:=ah sub P (n+9)) (σ:=[some l.toD,some (.int 1),none]) (i:=2) (S:=S) (aA (af (r_v (i:=0) rfl) (af (r_v (i:=1) rfl) ai)) e4)
  obtain ⟨g',T',e5,p5,c1,c2,c3,c4⟩:=tQ (sub:=sub) (n:=n) (S:=S) h hr hc hl h4 100 999999 1 S.length v (S++[Cell.lst (v.map tupI)]) (by omega) (by omega) (by omega) hv (show AtW (S++[Cell.lst (v.map tupI)]) (v,S.length) from aD _ _) (Zi _ _)
  refine ⟨g',x_call (ds:=[l.toD]) hc.ringgap rfl (ak b1 (ak (aL r_c) (ak s2 (ak (dQ e5) (aK (r_v rfl)))))) (b7 rfl ?_),by omega,c2,c3,fun _=>c4⟩
  obtain ⟨G,rfl⟩:=p5
  exact cD _ _
 ·have s2:=aL (sub:=sub) (cf:=ah sub P (n+9)) (σ:=[some l.toD,some (.int 1),none]) (i:=2) (S:=S) (aA (af (r_v (i:=0) rfl) (af (r_v (i:=1) rfl) ai)) e4)
  have e5:bH (evT sub (ah sub P (n+9)) (.notN (.v 2))) (exec sub (ah sub P (n+9)) wO) (999999+1) [some l.toD,some (.int 1),some .non] S=.ok (.nx [some l.toD,some (.int 1),some .non]) S:=nT (t_k (iC (r_v rfl)) rfl)
  exact ⟨1,x_call (ds:=[l.toD]) hc.ringgap rfl (ak b1 (ak (aL r_c) (ak s2 (ak (dQ e5) (aK (r_v rfl)))))) (b7 rfl Z4),by omega,by omega,hf,fun z=>by omega⟩
end
end RL

namespace RL
open PySem EV GO WK
def gu (l:Lp) (k:Nat):Nat:=(l.works.filter fun w=>w.crew==k).length
def cS (l:Lp) (k:Nat) (c:W6):Int:=(c.2:Int) * (gu l k:Int)
def bS (l:Lp) (g:Int) (k:Nat) (c:W6):Bool:=decide (g * (c.1:Int) < cS l k c)
noncomputable def b9 (l:Lp) (g:Int):Nat->List (Nat × Nat)->Option Nat
 | _,[]=>none
 | k,c::r=>if bS l g k c then some k else b9 l g (k+1) r
noncomputable def crD:Option Nat->D
 | some k=>.int (k:Int)
 | none=>.non
theorem tG {l:Lp} {g:Int}:∀ {cs:List (Nat × Nat)} {k:Nat},b9 l g k cs=none->∀ (i:Nat) c,cs[i]?=some c->bS l g (k+i) c=false
 | [],_,_,i,c,h=>by simp at h
 | d::r,k,e,i,c,h=>by
  unfold b9 at e
  cases q:bS l g k d with
  | true=>rw [q] at e; cases e
  | false =>
   rw [q] at e
   cases i with
   | zero=>simp at h; subst h; exact q
   | succ i =>
    have:=tG (k:=k+1) e i c (by simpa using h)
    rw [show k+(i+1)=k+1+i by omega]; exact this
theorem p8 {l:Lp} {g:Int}:∀ {cs:List (Nat × Nat)} {k j:Nat},b9 l g k cs=some j->∃ i c,j=k+i/\cs[i]?=some c/\bS l g j c=true
 | [],_,_,e=>by cases e
 | d::r,k,j,e=>by
  unfold b9 at e
  cases q:bS l g k d with
  | true=>rw [q] at e; cases e; exact ⟨0,d,rfl,rfl,q⟩
  | false =>
   rw [q] at e
   obtain ⟨i,c,h1,h2,h3⟩:=p8 (k:=k+1) e
   exact ⟨i+1,c,by omega,by simpa using h2,h3⟩
theorem tL (l:Lp) (k:Nat):(l.works.filterMap fun w=>if (w.crew==k)=true then some w.toD else none).length=gu l k:=by
 unfold gu
 generalize l.works=ws
 induction ws with
 | nil=>rfl
 | cons w r ih =>
  by_cases z:(w.crew==k)=true
  ·rw [Q5 (b:=w.toD) (by rw [Zd z]),X3 (p:=fun w:Wk=>w.crew==k) z,ZB,ZB,ih]
  ·rw [Q4 (by rw [Ze z]),Qp (p:=fun w:Wk=>w.crew==k) z,ih]
section
variable {sub:Sub} {P:Prg} {n:Nat} {S T:aa} {l:Lp}
theorem vo (hc:HC P) (hl:l.WF) {k:Nat} {c:W6} (hk:l.crews[k]?=some c):ah sub P (n+1) "crew_times" [l.toD,.int (k:Int)] S=.ok (.int (cS l k c)) S:=by
 have h8:=hl.nworks.2
 have hm:=hl.crews c (ZA hk)
 have e:ev sub (ah sub P n) (.comp 2 (.v 3) (.one 3) (.iSeq (.ix (.v 0) (.c (.int 2)))) (.cmp .eq (.ix (.v 3) (.c (.int 0))) (.v 1))) [some l.toD,some (.int (k:Int))] S=.ok (.loc S.length) (S++[.lst (l.works.filterMap fun w=>if w.crew==k then some w.toD else none)]) :=
  iF (ks:=l.works) (f:=Wk.toD) (g:=fun w=>if w.crew==k then some w.toD else none) (o:=none) (raw:=l.works.map Wk.toD) rfl (bu (aq (r_v rfl) r_c (aB rfl)) rfl) rfl (fun w hw=>by
   have:=aO (sub:=sub) (cf:=ah sub P n) (aP (o:=.eq) (σ:=[some l.toD,some (.int (k:Int)),none,some w.toD]) (S:=S) (aq (r_v (i:=3) rfl) (r_c (d:=.int 0)) (aB (d:=.int (w.crew:Int)) rfl)) (r_v (i:=1) rfl) (dw _ _ _))
   refine Eq.trans this ?_
   by_cases z:w.crew=k
   ·rw [z,Z1,Z1]; rfl
   ·rw [ZQ.mpr (show ((w.crew:Nat):Int)≠(k:Int) by omega),ZQ.mpr z]; rfl) (fun w hw d hd=>by
   by_cases z:(w.crew==k)=true
   ·rw [Zd z] at hd; cases hd; exact r_v rfl
   ·rw [Ze z] at hd; cases hd) (by unfold aG; omega)
 have e2:=tL l k
 have e3:=mH (sub:=sub) (T:=S) (xs:=l.works.filterMap fun w=>if w.crew==k then some w.toD else none)
 rw [e2] at e3
 exact x_call (ds:=[l.toD,.int (k:Int)]) hc.times rfl (aK (bB (aq (aq (aq (r_v rfl) r_c (aB rfl)) (r_v rfl) (aB (p_ hk))) r_c (aB rfl)) (aT (af e ai) e3) (f7 (by omega)))) (gp _ _ _)
noncomputable def m8:EV.S:=.ite (.cmp .gt (.call "crew_times" (.cs (.v 0) (.cs (.v 2) .nl))) (.bin .mul (.v 1) (.ix (.v 3) (.c (.int 0)))))
  (.ret (.v 2))
  .skip
theorem r9 (hc:HC P) (hl:l.WF) {g:Int} (hg:0<=g/\g<=1000) {s:Src} (hs:aH s S=.ok () S):∀ (cs:List (Nat × Nat)) (k:Nat) (x2 x3:Option D),(∀ (i:Nat) c,cs[i]?=some c->l.crews[k+i]?=some c) ->
  (∃ j,b9 l g k cs=some j/\forL s (bA sub (ah sub P (n+1)) (.many [2,3]) m8) (num k (cs.map aU)) [some l.toD,some (.int g),x2,x3] S=.ok (.rt (.int (j:Int))) S) \/
  (b9 l g k cs=none/\∃ σ',forL s (bA sub (ah sub P (n+1)) (.many [2,3]) m8) (num k (cs.map aU)) [some l.toD,some (.int g),x2,x3] S=.ok (.nx σ') S)
 | [],k,x2,x3,_=>.inr ⟨rfl,_,lX hs⟩
 | c::r,k,x2,x3,h=>by
  have hk:l.crews[k]?=some c:=h 0 c rfl
  have e1:=vo (sub:=sub) (n:=n) (S:=S) hc hl hk
  have t1:evT sub (ah sub P (n+1)) (.cmp .gt (.call "crew_times" (.cs (.v 0) (.cs (.v 2) .nl))) (.bin .mul (.v 1) (.ix (.v 3) (.c (.int 0))))) [some l.toD,some (.int g),some (.int (k:Int)),some (aU c)] S=.ok (bS l g k c) S :=
   aO (aP (aA (af (r_v rfl) (af (r_v rfl) ai)) e1) (bB (r_v rfl) (aq (r_v rfl) r_c (aB rfl)) (f7 (by omega))) (gB _ _ _))
  show (∃ j,(if bS l g k c then some k else b9 l g (k+1) r)=some j/\forL s _ (.tup [.int (k:Int),aU c]::num (k+1) (r.map aU)) _ S=_)\/((if bS l g k c then some k else b9 l g (k+1) r)=none/\∃ σ',forL s _ (.tup [.int (k:Int),aU c]::num (k+1) (r.map aU)) _ S=_)
  cases q:bS l g k c with
  | true =>
   rw [q] at t1
   exact .inl ⟨k,rfl,mR hs (jM rfl (cC t1 (aK (r_v rfl))))⟩
  | false =>
   rw [q] at t1
   have go:=jM (sub:=sub) (cf:=ah sub P (n+1)) (is:=[2,3]) (u:=m8) (ds:=[.int (k:Int),aU c]) (σ:=[some l.toD,some (.int g),x2,x3]) (S:=S) rfl (aN t1 aR)
   rcases r9 hc hl hg hs r (k+1) (some (.int (k:Int))) (some (aU c)) (fun i d hd=>by rw [show k+1+i=k+(i+1) by omega]; exact h (i+1) d (by simpa using hd)) with ⟨j,h1,h2⟩|⟨h1,σ',h2⟩
   ·exact .inl ⟨j,h1,g8 hs go h2⟩
   ·exact .inr ⟨h1,σ',g8 hs go h2⟩
theorem GC (h:HB P) (hr:HR0 P) (hc:HC P) (hl:l.WF) {g:Int} (h1:1<=g) (h2:g<=200):ah sub P (n+8) "crowd" [l.toD,.int g] S=.ok (crD (b9 l g 0 l.crews)) S:=by
 have hit:evI sub (ah sub P (n+6)) (.iEnum (.ix (.v 0) (.c (.int 1)))) [some l.toD,some (.int g),none,none] S=.ok ⟨num 0 (l.crews.map aU),none,l.crews.map aU⟩ S:=by
  rw [oh,aq (r_v rfl) r_c (aB rfl),Res.aj]; rfl
 have bc:ah sub P (n+7) "barring_crew" [l.toD,.int g] S=.ok (crD (b9 l g 0 l.crews)) S:=by
  rcases r9 (sub:=sub) (n:=n+5) (S:=S) hc hl (g:=g) ⟨by omega,by omega⟩ (s:=⟨num 0 (l.crews.map aU),none,l.crews.map aU⟩) rfl l.crews 0 none none (fun i c e=>by rw [Xm]; exact e) with ⟨j,e1,e2⟩|⟨e1,σ',e2⟩
  ·rw [e1]
   exact x_call (ds:=[l.toD,.int g]) hc.eS rfl (dN (dX hit e2)) (gF _ _)
  ·rw [e1]
   exact x_call (ds:=[l.toD,.int g]) hc.eS rfl (ak (dX hit e2) (aK r_c)) (b7 rfl Z4)
 refine x_call (ds:=[l.toD,.int g]) hc.crowd rfl (ak (eY (aA (af (r_v rfl) ai) (j7 (n:=n) h hl))) (aK (aA (af (r_v rfl) (af (aA (af (r_v rfl) ai) (Ad (n:=n+5) h hr h1 h2)) ai)) bc))) ?_
 cases b9 l g 0 l.crews with
 | none=>exact b7 rfl Z4
 | some k=>exact gF _ _
noncomputable def gC (l:Lp):D->D
 | .tup [.int k,.tup [.int m,.int b]]=>.int (ceil (b * (gu l k.toNat:Int)) m)
 | d=>d
theorem u5:∀ (r:WJ) (v:Int),(v<=r.foldl max v/\∀ x∈r,x<=r.foldl max v)/\(r.foldl max v=v\/r.foldl max v∈r)
 | [],v=>⟨⟨Qh _,fun _ h=>by cases h⟩,.inl rfl⟩
 | y::r,v=>by
  obtain ⟨⟨h1,h2⟩,h3⟩:=u5 r (max v y)
  have a:v<=max v y:=by omega
  have b:y<=max v y:=by omega
  refine ⟨⟨Wo a h1,fun x hx=>?_⟩,?_⟩
  ·rcases Zt.mp hx with rfl|hx
   ·exact Wo b h1
   ·exact h2 x hx
  ·show r.foldl max (max v y)=v\/r.foldl max (max v y)∈y::r
   rcases h3 with h3|h3
   ·rw [h3]
    by_cases z:v<=y
    ·exact .inr (by rw [show max v y=y by omega]; exact Zl)
    ·exact .inl (by omega)
   ·exact .inr (Zm _ h3)
def cO (l:Lp) (k:Nat) (c:W6):Int:=ceil (cS l k c) (c.1:Int)
theorem rJ (l:Lp):∀ (cs:List (Nat × Nat)) (k:Nat),(num k (cs.map aU)).map (gC l)=(cs.zipIdx k).map fun p=>.int (cO l p.2 p.1)
 | [],_=>rfl
 | c::r,k=>by
  show gC l (.tup [.int (k:Int),aU c])::(num (k+1) (r.map aU)).map (gC l)=_
  rw [rJ l r (k+1)]; rfl
theorem As (h:HB P) (hc:HC P) (hl:l.WF):∃ g,ah sub P (n+8) "crew_gap" [l.toD] S=.ok (.int g) S/\(∀ (k:Nat) c,l.crews[k]?=some c->cO l k c<=g)/\∃ k c,l.crews[k]?=some c/\g=cO l k c:=by
 have h3:=hl.ncrews
 have hit:evI sub (ah sub P (n+7)) (.iEnum (.ix (.v 0) (.c (.int 1)))) [some l.toD] S=.ok ⟨num 0 (l.crews.map aU),none,l.crews.map aU⟩ S:=by
  rw [oh,aq (r_v rfl) r_c (aB rfl),Res.aj]; rfl
 have e1:=rC (sub:=sub) (cf:=ah sub P (n+7)) (k:=3) (el:=.call "rounded_up" (.cs (.call "crew_times" (.cs (.v 0) (.cs (.v 2) .nl))) (.cs (.ix (.v 3) (.c (.int 0))) .nl))) (is:=[2,3]) (it:=.iEnum (.ix (.v 0) (.c (.int 1)))) (σ:=[some l.toD]) (g:=gC l) hit rfl (fun d hd=>by
  obtain ⟨i,hi⟩:=ZO hd
  obtain ⟨hi1,hi2⟩:=Zg.mp hi
  have hi3:i < l.crews.length:=by rw [f6,Zb] at hi1; exact hi1
  have hck:l.crews[i]?=some l.crews[i]:=Zc hi3
  have hd2:d=.tup [.int (i:Int),aU l.crews[i]]:=by
   rw [<- hi2]
   show (num 0 (l.crews.map aU))[i]=_
   rw [jB]; simp
  subst hd2
  have hm:=hl.crews _ (Xo hi3)
  refine ⟨_,rfl,rfl,aA (af (aA (af (r_v rfl) (af (r_v rfl) ai)) (vo (n:=n+6) hc hl hck)) (af (aq (r_v rfl) r_c (aB rfl)) ai)) ?_⟩
  exact sd (n:=n+6) hc ⟨by omega,by omega⟩) (by rw [f6,Zb]; unfold aG; omega)
 have e1:ev sub (ah sub P (n+7)) (.comp 3 (.call "rounded_up" (.cs (.call "crew_times" (.cs (.v 0) (.cs (.v 2) .nl))) (.cs (.ix (.v 3) (.c (.int 0))) .nl))) (.many [2,3]) (.iEnum (.ix (.v 0) (.c (.int 1)))) .nl) [some l.toD] S=.ok (.loc S.length) (S++[.lst ((num 0 (l.crews.map aU)).map (gC l))]):=e1
 rw [rJ] at e1
 obtain ⟨v,r,hvr⟩:∃ v r,(l.crews.zipIdx 0).map (fun p=>cO l p.2 p.1)=v::r:=Qe (by
  intro z
  have:=Xn List.length z
  rw [Zb,List.length_zipIdx] at this
  simp at this
  rw [this] at h3
  simp at h3)
 have e2:((l.crews.zipIdx 0).map fun p=>D.int (cO l p.2 p.1))=(v::r).map D.int:=by rw [<- hvr,ZX]; rfl
 rw [e2] at e1
 have e3:biD sub .max [.loc S.length] (S++[.lst ((v::r).map .int)])=.ok (.int (r.foldl max v)) (S++[.lst ((v::r).map .int)]):=by
  rw [DT,c6 (aD _ _),Res.aj,allI,cW,Res.aj]; rfl
 obtain ⟨⟨m1,m2⟩,m3⟩:=u5 r v
 refine ⟨r.foldl max v,x_call (ds:=[l.toD]) hc.crewgap rfl (ak (eY (aA (af (r_v rfl) ai) (j7 (n:=n) h hl))) (aK (aT (af e1 ai) e3))) (gp _ _ _),fun k c hk=>?_,?_⟩
 ·have hm:cO l k c∈v::r:=by
   rw [<- hvr]
   exact Zy.mpr ⟨(c,k),List.mem_zipIdx_iff_getElem?.mpr hk,rfl⟩
  rcases Zt.mp hm with z|z
  ·rw [z]; exact m1
  ·exact m2 _ z
 ·have hm:r.foldl max v∈v::r:=by
   rcases m3 with z|z
   ·rw [z]; exact Zl
   ·exact Zm _ z
  rw [<- hvr] at hm
  obtain ⟨p,hp,e⟩:=Zy.mp hm
  exact ⟨p.2,p.1,List.mem_zipIdx_iff_getElem?.mp hp,e.symm⟩
theorem uS {g:Int} {k:Nat} {c:W6} (hc:1<=c.1):bS l g k c=decide (g < cO l k c):=by
 obtain ⟨c1,c2⟩:=k8 (a:=cS l k c) (b:=(c.1:Int)) (by omega)
 unfold bS cO
 have hpos:(0:Int) < (c.1:Int):=by omega
 generalize cS l k c=a at *
 generalize ceil a (c.1:Int)=q at *
 by_cases h:g < q
 ·rw [Zj h]
  refine Zj ?_
  have:g * (c.1:Int)<=(q - 1) * (c.1:Int):=Xx (by omega) (by omega)
  omega
 ·rw [Zq h]
  refine Zq ?_
  have:q * (c.1:Int)<=g * (c.1:Int):=Xx (by omega) (by omega)
  omega
theorem zb (hl:l.WF) {k:Nat} {c:W6} (hk:l.crews[k]?=some c):cO l k c<=32:=by
 have hm:=hl.crews c (ZA hk)
 have h8:=hl.nworks.2
 obtain ⟨c1,_⟩:=k8 (a:=cS l k c) (b:=(c.1:Int)) (by omega)
 have hh:gu l k<=8:=Z7 (Xr _ _) h8
 have ha:cS l k c<=4 * 8:=Wv (by omega) (by omega) (by omega) (by omega)
 unfold cO
 refine Xw fun z=>?_
 have:32 * 1<=(ceil (cS l k c) (c.1:Int) - 1) * (c.1:Int):=Wv (by omega) (by omega) (by omega) (by omega)
 omega
theorem Gr {l:Lp} (hl:l.WF) {b:Int} (hcap:∀ (k:Nat) c,l.crews[k]?=some c->cO l k c<=b):1<=b:=by
 have h1:=hl.nworks.1
 have hw:=hl.works 0 _ (Zc h1)
 have hc:=D0 hl (Zc h1)
 generalize hcc:l.crews.getD (l.works[0]).crew (0,0)=c at hc
 have hm:=hl.crews c (ZA hc)
 obtain ⟨_,c2⟩:=k8 (a:=cS l (l.works[0]).crew c) (b:=(c.1:Int)) (by omega)
 have hh:1<=gu l (l.works[0]).crew:=by
  have:l.works[0]∈l.works.filter fun w=>w.crew==(l.works[0]).crew:=XG.mpr ⟨Xo h1,Z1 _⟩
  exact List.length_pos_of_mem this
 have ha:1 * 1<=cS l (l.works[0]).crew c:=Wv (by omega) (by omega) (by omega) (by omega)
 have:=hcap _ c hc
 unfold cO at this
 refine Xw fun z=>?_
 have h0:ceil (cS l (l.works[0]).crew c) (c.1:Int)<=0:=by omega
 have:ceil (cS l (l.works[0]).crew c) (c.1:Int) * (c.1:Int)<=0 * (c.1:Int):=Xx h0 (by omega)
 omega
end
end RL

namespace RL
open PySem EV GO WK
noncomputable def iG:Fn:=⟨1,4,(.seq (.set (.one 1) (.lst .nl))
 (.seq (.set (.one 2) (.comp 2 (.lst (.cs (.v 5) .nl)) (.one 5) (.iSeq (.call "_law_needs" (.cs (.v 0) .nl))) .nl))
 (.seq (.whl (.cmp .ne (.v 2) (.lst .nl))
  (.seq (.set (.one 3) (.pop (.v 2)))
 (.ite (.cmp .eq (.ix (.ix (.v 3) (.neg (.c (.int 1)))) (.c (.int 1))) (.ix (.ix (.v 3) (.c (.int 0))) (.c (.int 0))))
  (.ex (.me .append (.v 1) (.cs (.v 3) .nl)))
  (.ite (.and (.cmp .gt (.ix (.ix (.v 3) (.neg (.c (.int 1)))) (.c (.int 1))) (.ix (.ix (.v 3) (.c (.int 0))) (.c (.int 0)))) (.cmp .bU (.ix (.ix (.v 3) (.neg (.c (.int 1)))) (.c (.int 1))) (.comp 2 (.ix (.v 5) (.c (.int 0))) (.one 5) (.iSeq (.v 3)) .nl)))
  (.ex (.me .extend (.v 2) (.cs (.comp 2 (.bin .add (.v 3) (.lst (.cs (.v 5) .nl))) (.one 5) (.iSeq (.call "_law_needs" (.cs (.v 0) .nl))) (.cmp .eq (.ix (.v 5) (.c (.int 0))) (.ix (.ix (.v 3) (.neg (.c (.int 1)))) (.c (.int 1))))) .nl)))
  .skip))))
 (.ret (.v 1)))))⟩
noncomputable def cT:E:=.ix (.ix (.v 3) (.neg (.c (.int 1)))) (.c (.int 1))
noncomputable def fM:E:=.ix (.ix (.v 3) (.c (.int 0))) (.c (.int 0))
noncomputable def jS:E:=.comp 2 (.ix (.v 5) (.c (.int 0))) (.one 5) (.iSeq (.v 3)) .nl
noncomputable def uX:E:=.comp 2 (.bin .add (.v 3) (.lst (.cs (.v 5) .nl))) (.one 5) (.iSeq (.call "_law_needs" (.cs (.v 0) .nl))) (.cmp .eq (.ix (.v 5) (.c (.int 0))) cT)
noncomputable def mw:EV.S:=.seq (.set (.one 3) (.pop (.v 2)))
 (.ite (.cmp .eq cT fM)
  (.ex (.me .append (.v 1) (.cs (.v 3) .nl)))
  (.ite (.and (.cmp .gt cT fM) (.cmp .bU cT jS))
  (.ex (.me .extend (.v 2) (.cs uX .nl)))
  .skip))
theorem pD {S:aa} (x:Int):∀ xs:List Int,inL S (.int x) (xs.map .int)=some (decide (x∈xs))
 | []=>by simp [inL]
 | y::r=>by
  show (match eqD deep S (.int y) (.int x),inL S (.int x) (r.map .int) with|some a,some b=>some (a||b)|_,_=>none)=_
  rw [pD x r]
  show some ((y==x)||decide (x∈r))=_
  congr 1
  by_cases h:y=x
  ·subst h; simp
  ·rw [ZQ.mpr h,Bool.false_or]
   by_cases q:x∈r
   ·rw [Zj q,Zj (Zm _ q)]
   ·rw [Zq q,Zq]
    intro z
    rcases Zt.mp z with z|z
    ·exact h z.symm
    ·exact q z
section
variable {sub:Sub} {P:Prg} {n:Nat} {S T:aa} {l:Lp}
theorem IP {k:Nat} {xs:WJ} {x:Int} (hk:T[k]?=some (.lst (xs.map .int))):cmD .bU (.int x) (.loc k) T=.ok (.bl (!decide (x∈xs))) T:=by
 show (items (.loc k)>>=fun ys=>inA true (.int x) ys) T=_
 rw [ay,c6 hk]
 simp only [Res.aj]
 unfold inA
 rw [pD]
 show Res.ok (D.bl (decide (x∈xs) != true)) T=_
 cases decide (x∈xs) <;> rfl
theorem B8 {a b:Nat} {xs:Yc} (ha:T[a]?=some (.lst xs)) (hb:T[b]?=some (.lst [])):cmD .ne (.loc a) (.loc b) T=.ok (.bl (!xs.isEmpty)) T:=by
 rw [yy,Zd (show eW (.loc a) (.loc b)=true from rfl)]
 have e:eqD deep T (.loc a) (.loc b)=some xs.isEmpty:=by
  show (match listAt T a,listAt T b with|some xs,some ys=>if xs.length=ys.length then bR (eqD 11 T) xs ys else some false|_,_=>none)=_
  unfold listAt
  rw [ha,hb]
  cases xs with
  | nil=>rfl
  | cons x r=>rfl
 rw [e]
theorem AY {k:Nat} {xs:Yc} {d:D} (h:T[k]?=some (.lst (xs++[d]))):jd (.loc k) T=.ok d (T.set k (.lst xs)):=by
 show bh k (fun ds=>match ds.getLast? with|some d=>fun S=>.ok d (S.set k (.lst ds.dropLast))|none=>bad) T=_
 unfold bh
 rw [h]
 simp
theorem Co {cf:Ye} {σ:Sg} {a:E} {x:D} {S1:aa} {R:Res D} (ha:ev sub cf a σ S=.ok x S1) (h:jd x S1=R):ev sub cf (.pop a) σ S=R:=by
 show (ev sub cf a σ>>=fun x=>jd x) S=R
 rw [ay,ha,Res.aj,h]
abbrev sg (l:Lp) (S:aa) (W k:Nat):Sg:=[some l.toD,some (.loc S.length),some (.loc W),some (.loc k)]
structure fS (l:Lp) (S T:aa) (W:Nat) (Q R:Yg):Prop where
 keep:T.take S.length=S
 w:T[W]?=some (.lst (Q.map fun q=>.loc q.2))
 f:T[S.length]?=some (.lst (R.map fun q=>.loc q.2))
 wf:S.length < W
 at':∀ q∈Q++R,AtW T q/\S.length < q.2/\q.2≠W
 seek:eg (aI l) (Q.map (·.1)) (R.map (·.1))
theorem HZ (hl:l.WF) {q:Wlk × Nat} (hr:Row (aI l) q.1) (h:AtW T q):cy l T q/\q.1.length<=l.works.length:=by
 have hn:=fun t ht=>cU hl t (hr.walk.mem t ht)
 have hlen:q.1.length<=l.works.length:=by
  have:=WK.short (n:=l.works.length) hr.nodup fun x hx=>by
   obtain ⟨t,ht,rfl⟩:=Zy.mp hx
   obtain ⟨_,h0,h1,_⟩:=fY (hn t ht)
   exact ⟨h0,h1⟩
  rw [Zb] at this
  exact this
 exact ⟨⟨h,hr.walk.ne,hn,by have:=hl.nworks.2; omega⟩,hlen⟩
theorem take_set {T:aa} {k:Nat} {c:Cell} (h:T.take S.length=S) (hk:S.length<=k):(T.set k c).take S.length=S:=by
 rw [List.take_set_of_le hk]; exact h
theorem kK {T T':aa} (h:T.take S.length=S) (hl:S.length<=T.length) (p:T <+: T'):T'.take S.length=S:=by
 obtain ⟨G,rfl⟩:=p
 rw [List.take_append_of_le_length hl]; exact h
theorem get_set {T:aa} {k:Nat} {c c0:Cell} (h:T[k]?=some c0):(T.set k c)[k]?=some c:=Xe (Zg.mp h).1
theorem Iz (hd:Has P "_law_needs" gY) (hl:l.WF) (h4:l.works.length<=4) {W:Nat} {Q R:Yg} {v:Wlk × Nat} {x3:Option D} (h:fS l S T W (Q++[v]) R) (hz:(Q++[v]).length<=1000000) (hz2:R.length<=1000000) :
  ∃ T' Q' R',exec sub (ah sub P (n+1)) mw [some l.toD,some (.loc S.length),some (.loc W),x3] T=.ok (.nx (sg l S W v.2)) T'/\fS l S T' W Q' R'/\cost (Q'.map (·.1)) < cost ((Q++[v]).map (·.1))/\R'.length<=R.length+1:=by
 obtain ⟨keep,hw,hf,wf,hat,sk⟩:=h
 rw [ZM] at hw sk
 obtain ⟨av,bv,cv⟩:=hat v (by simp)
 have hrow:Row (aI l) v.1:=sk.rows v.1 (by simp)
 have hSl:S.length<=T.length:=by have:=(Zg.mp hf).1; omega
 have pop:=Co (sub:=sub) (cf:=ah sub P (n+1)) (σ:=[some l.toD,some (.loc S.length),some (.loc W),x3]) (a:=.v 2) (S:=T) (r_v rfl) (AY hw)
 have s1:=aL (i:=3) pop
 generalize hT1:T.set W (.lst (Q.map fun q=>.loc q.2))=T1 at s1
 have hw1:T1[W]?=some (.lst (Q.map fun q=>.loc q.2)):=by rw [<- hT1]; exact get_set hw
 have hf1:T1[S.length]?=some (.lst (R.map fun q=>.loc q.2)):=by rw [<- hT1,ZW (by omega)]; exact hf
 have k1:T1.take S.length=S:=by rw [<- hT1]; exact take_set keep (by omega)
 have hl1:T1.length=T.length:=by rw [<- hT1,XI]
 have at1:∀ q∈(Q++[v])++R,AtW T1 q/\S.length < q.2/\q.2≠W:=fun q hq=>by
  obtain ⟨a,b,c⟩:=hat q hq
  rw [<- hT1]
  exact ⟨gy a (Ne.symm c),b,c⟩
 obtain ⟨gv,hlen⟩:=HZ hl hrow (at1 v (by simp)).1
 have hvL:T1[v.2]?=some (.lst (v.1.map tupI)):=gv.at'
 obtain ⟨t0,ht0,e0,a0⟩:=qw gv.ne
 obtain ⟨u0,_,hu0,eu,au⟩:=oQ gv.ne
 have σl:∀ {U:aa},T1 <+: U->ev sub (ah sub P (n+1)) cT (sg l S W v.2) U=.ok (.int (lst v.1)) U:=fun {U} p=>by
  rw [eu]; exact aq (aq (r_v rfl) (fL r_c) (fF (aV p hvL) au)) r_c (jU (gv.nd u0 hu0))
 have σf:ev sub (ah sub P (n+1)) fM (sg l S W v.2) T1=.ok (.int (fst v.1)) T1:=by
  rw [e0]; exact aq (aq (r_v rfl) r_c (fF hvL a0)) r_c (fQ (gv.nd t0 ht0))
 have t1:evT sub (ah sub P (n+1)) (.cmp .eq cT fM) (sg l S W v.2) T1=.ok (lst v.1==fst v.1) T1:=aO (aP (σl (Z2 _)) σf (dw _ _ _))
 have cst:cost ((Q++[v]).map (·.1))=cost (Q.map (·.1))+cost [v.1]:=by rw [ZM,u9]; rfl
 have cpos:0 < cost [v.1]:=by rw [xh]; exact Nat.pow_pos (by decide)
 obtain ⟨st1,st2,st3⟩:=sk.step
 by_cases hc:bE v.1
 ·have hb:(lst v.1==fst v.1)=true:=Qt.mpr (show lst v.1=fst v.1 from hc.symm)
  rw [hb] at t1
  have ap:=nW (l:=S.length) (d:=.loc v.2) hf1 (by rw [Zb]; unfold aG; omega)
  refine ⟨_,Q,R++[v],ak s1 (cC t1 (eY (gK (l:=S.length) (r_v rfl) (af (r_v rfl) ai) ap (gZ hf1)))),⟨take_set k1 (Zk _),?_,?_,wf,fun q hq=>?_,?_⟩,by rw [cst]; omega,by rw [Zp]; exact Zk _⟩
  ·rw [ZW (by omega)]; exact hw1
  ·rw [ZM]; exact get_set hf1
  ·have hq':q∈(Q++[v])++R:=by
    simp only [ZE,ZH] at hq ⊢
    rcases hq with z|z|z
    ·exact .inl (.inl z)
    ·exact .inr z
    ·exact .inl (.inr z)
   obtain ⟨a,b,c⟩:=at1 q hq'
   exact ⟨gy a (by omega),b,c⟩
  ·rw [ZM]; exact st1 hc
 ·have hb:(lst v.1==fst v.1)=false:=ZQ.mpr fun e=>hc (show fst v.1=lst v.1 from e.symm)
  rw [hb] at t1
  have t2:evT sub (ah sub P (n+1)) (.cmp .gt cT fM) (sg l S W v.2) T1=.ok (decide (fst v.1 < lst v.1)) T1:=aO (aP (σl (Z2 _)) σf (gB _ _ _))
  have skip:∀ {T2:aa},T1 <+: T2->dI v.1=false->evT sub (ah sub P (n+1)) (.and (.cmp .gt cT fM) (.cmp .bU cT jS)) (sg l S W v.2) T1=.ok false T2 ->
    ∃ T' Q' R',exec sub (ah sub P (n+1)) mw [some l.toD,some (.loc S.length),some (.loc W),x3] T=.ok (.nx (sg l S W v.2)) T'/\fS l S T' W Q' R'/\cost (Q'.map (·.1)) < cost ((Q++[v]).map (·.1))/\R'.length<=R.length+1:=fun {T2} p hg ht =>
   ⟨T2,Q,R,ak s1 (aN t1 (aN ht aR)),⟨kK k1 (by omega) p,aV p hw1,aV p hf1,wf,fun q hq=>by
    have hq':q∈(Q++[v])++R:=by
     simp only [ZE,ZH] at hq ⊢
     rcases hq with z|z
     ·exact .inl (.inl z)
     ·exact .inr z
    obtain ⟨a,b,c⟩:=at1 q hq'
    exact ⟨a.pre p,b,c⟩,st3 hc hg⟩,by rw [cst]; omega,XL _⟩
  by_cases hlt:fst v.1 < lst v.1
  ·rw [Zj hlt] at t2
   have eA:ev sub (ah sub P (n+1)) jS (sg l S W v.2) T1=.ok (.loc T1.length) (T1++[.lst ((v.1.map nA).map .int)]):=by
    have:=fT (sub:=sub) (cf:=ah sub P (n+1)) (k:=2) (i:=5) (el:=.ix (.v 5) (.c (.int 0))) (it:=.iSeq (.v 3)) (σ:=(sg l S W v.2)) (S:=T1) (S1:=T1) (ks:=v.1) (f:=tupI) (g:=fun t=>.int (nA t)) (o:=some v.2) (raw:=v.1.map tupI) (bu (r_v rfl) (bX hvL)) (cK (.inr ⟨v.2,rfl,hvL⟩)) (fun t ht=>aq (r_v rfl) r_c (fQ (gv.nd t ht))) (by have:=gv.len; unfold aG; omega)
    rw [ZX]
    exact this
   have pA:T1 <+: T1++[Cell.lst ((v.1.map nA).map .int)]:=Zi _ _
   have t3:evT sub (ah sub P (n+1)) (.and (.cmp .gt cT fM) (.cmp .bU cT jS)) (sg l S W v.2) T1=.ok (!decide (lst v.1∈v.1.map nA)) (T1++[Cell.lst ((v.1.map nA).map .int)]) :=
    fj t2 (aO (aP (σl (Z2 _)) eA (IP (aD _ _))))
   have hgo:dI v.1=!decide (lst v.1∈v.1.map nA):=by unfold dI; rw [Zj hlt,Wg]
   cases hg:dI v.1 with
   | false =>
    rw [<- hgo,hg] at t3
    exact skip pA hg t3
   | true =>
    rw [<- hgo,hg] at t3
    generalize hT2:T1++[Cell.lst ((v.1.map nA).map .int)]=T2 at t3 pA
    have gv2:=gv.pre pA
    have eN:=vv (sub:=sub) (n:=n) (S:=T2) hd hl (by omega)
    have hst:=jH hl h4
    have p3:T2 <+: T2++[.lst ((aI l).map tupI)]:=Zi _ _
    have eX:∃ (T':aa) (X:Yg),ev sub (ah sub P (n+1)) uX (sg l S W v.2) T2=.ok (.loc T'.length) (T'++[.lst (X.map fun q=>.loc q.2)])/\(T2++[.lst ((aI l).map tupI)]) <+: T'/\X.map (·.1)=((aI l).filter (dz v.1)).map (fun t=>v.1++[t])/\∀ q∈X,AtW T' q/\(T2++[Cell.lst ((aI l).map tupI)]).length<=q.2:=by
     have key:=kQ (sub:=sub) (cf:=ah sub P (n+1)) (σ:=(sg l S W v.2)) (S:=T2++[.lst ((aI l).map tupI)]) (k:=2) (i:=5) (el:=.bin .add (.v 3) (.lst (.cs (.v 5) .nl))) (it:=.iSeq (.c (.loc T2.length))) (tt:=.cmp .eq (.ix (.v 5) (.c (.int 0))) cT) (ks:=aI l) (f:=tupI) (p:=dz v.1) (h:=fun t=>v.1++[t]) (o:=some T2.length) (raw:=(aI l).map tupI)
      (bu r_c (bX (aD _ _))) (fun U hU=>cK (.inr ⟨_,rfl,aV hU (aD _ _)⟩)) (fun t ht U hU=>by
       show evT sub _ _ _ U=_
       have hv':U[v.2]?=some (.lst (v.1.map tupI)):=aV (p3.trans hU) gv2.at'
       have:=aO (sub:=sub) (cf:=ah sub P (n+1)) (aP (o:=.eq) (σ:=[some l.toD,some (.loc S.length),some (.loc W),some (.loc v.2),none,some (tupI t)]) (S:=U) (aq (r_v (i:=5) rfl) r_c (fQ (cU hl t ht))) (aq (aq (r_v (i:=3) rfl) (fL (r_c (d:=.int 1))) (fF hv' au)) (r_c (d:=.int 1)) (jU (gv.nd u0 hu0))) (dw _ _ _))
       unfold dz
       rw [eu]
       exact this) (fun t ht _ U hU=>by
       have hv':U[v.2]?=some (.lst (v.1.map tupI)):=aV (p3.trans hU) gv2.at'
       have hv2:(U++[Cell.lst [tupI t]])[v.2]?=some (.lst (v.1.map tupI)):=aV (Zi _ _) hv'
       have hlen:=gv.len
       have:=bB (sub:=sub) (cf:=ah sub P (n+1)) (o:=.add) (σ:=[some l.toD,some (.loc S.length),some (.loc W),some (.loc v.2),none,some (tupI t)]) (S:=U) (r_v (i:=3) rfl) (bO (af (r_v (i:=5) rfl) ai) rfl) (lC hv2 (aD _ _) (by rw [Zb]; simp; omega))
       refine ⟨_,_,this,(Zi _ _).trans (Zi _ _),?_,?_⟩
       ·exact Z7 hU.length_le (Zi _ _).length_le
       ·show _[_]?=some (Cell.lst ((v.1++[t]).map tupI))
        rw [aD,ZM]; rfl) (by unfold aG; omega)
     obtain ⟨T',X,e,r⟩:=key
     refine ⟨T',X,?_,r⟩
     rw [dB,bu r_c (bX (aD _ _))] at e
     show ev sub _ (.comp 2 _ (.one 5) (.iSeq (.call "_law_needs" (.cs (.v 0) .nl))) _) _ T2=_
     rw [dB,bu (aA (af (r_v rfl) ai) eN) (bX (aD _ _))]
     exact e
    obtain ⟨T',X,eX,pX,mX,aX⟩:=eX
    have p13:T1 <+: T':=pA.trans (p3.trans pX)
    have hwE:(T'++[Cell.lst (X.map fun q=>.loc q.2)])[W]?=some (.lst (Q.map fun q=>.loc q.2)):=aV (p13.trans (Zi _ _)) hw1
    have xl:X.length<=12:=by
     have h1:=Xn List.length mX
     rw [Zb,Zb] at h1
     have:=Xr (dz v.1) (aI l)
     omega
    have ql:Q.length<=1000000:=by rw [Zp] at hz; simp at hz; omega
    have ex:=lM (S:=T'++[Cell.lst (X.map fun q=>.loc q.2)]) hwE (aD _ _) (by rw [Zb,Zb]; unfold aG; omega)
    have T1len:=p13.length_le
    have mem:∀ w,w∈X.map (·.1) ↔ ∃ t∈aI l,nA t=lst v.1/\w=v.1++[t]:=fun w=>by
     rw [mX,Zy]
     constructor
     ·rintro ⟨t,ht,rfl⟩
      obtain ⟨h1,h2⟩:=XG.mp ht
      exact ⟨t,h1,eq_of_beq h2,rfl⟩
     ·rintro ⟨t,ht,e,rfl⟩
      exact ⟨t,XG.mpr ⟨ht,Qt.mpr e⟩,rfl⟩
    refine ⟨_,Q++X,R,ak s1 (aN t1 (cC t3 (eY (gK (l:=W) (r_v rfl) (af eX ai) ex (gZ (aV pA hw1)))))),⟨take_set (kK k1 (by omega) (p13.trans (Zi _ _))) (by omega),?_,?_,wf,fun q hq=>?_,?_⟩,?_,XL _⟩
    ·rw [get_set hwE,ZM]
    ·rw [ZW (by omega)]; exact aV (p13.trans (Zi _ _)) hf1
    ·have old:q∈Q\/q∈R->AtW ((T'++[Cell.lst (X.map fun q=>.loc q.2)]).set W (.lst (Q.map (fun q=>.loc q.2)++X.map fun q=>.loc q.2))) q/\S.length < q.2/\q.2≠W:=fun hq=>by
      obtain ⟨a,b,c⟩:=at1 q (by
       simp only [ZE,ZH]
       rcases hq with z|z
       ·exact .inl (.inl z)
       ·exact .inr z)
      exact ⟨gy (a.pre (p13.trans (Zi _ _))) (Ne.symm c),b,c⟩
     rcases ZE.mp hq with hq|hq
     ·rcases ZE.mp hq with hq|hq
      ·exact old (.inl hq)
      ·obtain ⟨a,b⟩:=aX q hq
       have hW:W < T1.length:=(Zg.mp hw1).1
       have h2:=pA.length_le
       have h3:=p3.length_le
       exact ⟨gy (a.pre (Zi _ _)) (by omega),by omega,by omega⟩
     ·exact old (.inr hq)
    ·rw [ZM]; exact st2 hc hg _ mem
    ·rw [ZM,u9,cst]
     have:=A1 (v:=v.1) (X:=X.map (·.1)) (by omega) (by rw [Zb]; exact xl) fun u hu=>by
      obtain ⟨t,_,_,rfl⟩:=(mem u).mp hu
      rw [Zp]; rfl
     omega
  ·rw [Zq hlt] at t2
   exact skip (Z2 _) (by unfold dI; rw [Zq hlt]; rfl) (gJ t2)
end
end RL

namespace RL
open PySem EV GO WK
section
variable {sub:Sub} {P:Prg} {n:Nat} {S T:aa} {l:Lp}
theorem tV:∀ Q:List Wlk,Q.length<=cost Q
 | []=>Zk _
 | v::r=>by
  have h1:=tV r
  have h2:0 < 13 ^ (5 - v.length):=Nat.pow_pos (by decide)
  show r.length+1<=13 ^ (5 - v.length)+cost r
  omega
theorem vq (hd:Has P "_law_needs" gY) (hl:l.WF) (h4:l.works.length<=4) {W:Nat}:∀ (k N:Nat) (Q R:Yg) (T:aa) (x3:Option D),cost (Q.map (·.1))<=k->k < N->R.length+k<=500000->fS l S T W Q R ->
  ∃ T' R' x3',bH (evT sub (ah sub P (n+1)) (.cmp .ne (.v 2) (.lst .nl))) (exec sub (ah sub P (n+1)) mw) N [some l.toD,some (.loc S.length),some (.loc W),x3] T=.ok (.nx [some l.toD,some (.loc S.length),some (.loc W),x3']) T'/\fS l S T' W [] R'/\R'.length<=500000
 | k,0,Q,R,T,x3,_,hN,_,_=>absurd hN (by omega)
 | k,N+1,Q,R,T,x3,hk,hN,hr,h=>by
  have pre:T <+: T++[.lst []]:=Zi _ _
  have hSl:S.length<=T.length:=by have:=(Zg.mp h.f).1; omega
  have t1:evT sub (ah sub P (n+1)) (.cmp .ne (.v 2) (.lst .nl)) [some l.toD,some (.loc S.length),some (.loc W),x3] T=.ok (!(Q.map fun q=>D.loc q.2).isEmpty) (T++[.lst []]) :=
   aO (aP (r_v rfl) (bO ai rfl) (B8 (aV pre h.w) (aD _ _)))
  have h':fS l S (T++[.lst []]) W Q R:=⟨kK h.keep hSl pre,aV pre h.w,aV pre h.f,h.wf,fun q hq=>⟨(h.at' q hq).1.pre pre,(h.at' q hq).2⟩,h.seek⟩
  rcases List.eq_nil_or_concat Q with e|⟨Q0,v,e⟩
  ·subst e
   exact ⟨_,R,x3,nT t1,h',by omega⟩
  ·rw [List.concat_eq_append] at e
   subst e
   have hc:=tV ((Q0++[v]).map (·.1))
   rw [Zb] at hc
   obtain ⟨T',Q',R',e1,s1,c1,r1⟩:=Iz (sub:=sub) (P:=P) (n:=n) (x3:=x3) hd hl h4 h' (by omega) (by omega)
   have t1':evT sub (ah sub P (n+1)) (.cmp .ne (.v 2) (.lst .nl)) [some l.toD,some (.loc S.length),some (.loc W),x3] T=.ok true (T++[.lst []]):=t_k t1 (by rw [ZM]; cases Q0 <;> rfl)
   obtain ⟨T2,R2,x3',e2,s2⟩:=vq hd hl h4 (k - 1) N Q' R' T' (some (.loc v.2)) (by omega) (by omega) (by omega) s1
   exact ⟨T2,R2,x3',(nP t1' e1).trans e2,s2⟩
theorem HH (hd:Has P "_law_needs" gY) (hr:Has P "_law_rings" iG) (hl:l.WF) (h4:l.works.length<=4) :
  ∃ (T:aa) (R:Yg),ah sub P (n+2) "_law_rings" [l.toD] S=.ok (.loc S.length) T/\S <+: T/\T[S.length]?=some (.lst (R.map fun q=>.loc q.2))/\(∀ q∈R,AtW T q)/\R.length<=500000/\(∀ q∈R,Ring (aI l) q.1)/\∀ w,Ring (aI l) w->(∀ t∈w,fst w<=nA t)->∃ q∈R,q.1=w:=by
 have hst:=jH hl h4
 have eN:=vv (sub:=sub) (n:=n) (S:=S++[.lst []]) hd hl (by omega)
 obtain ⟨T',Q,e2,p2,m2,a2⟩:=kQ (sub:=sub) (cf:=ah sub P (n+1)) (σ:=[some l.toD,some (.loc S.length),none,none]) (S:=(S++[.lst []])++[.lst ((aI l).map tupI)]) (k:=2) (i:=5) (el:=.lst (.cs (.v 5) .nl)) (it:=.iSeq (.c (.loc (S++[Cell.lst []]).length))) (tt:=.nl) (ks:=aI l) (f:=tupI) (p:=fun _=>true) (h:=fun t=>[t]) (o:=some (S++[Cell.lst []]).length) (raw:=(aI l).map tupI)
  (bu r_c (bX (aD _ _))) (fun T hT=>cK (.inr ⟨_,rfl,aV hT (aD _ _)⟩)) (fun t ht T hT=>rfl) (fun t ht _ T hT=>⟨_,_,bO (af (r_v rfl) ai) rfl,Zi _ _,hT.length_le,aD _ _⟩) (by unfold aG; omega)
 have e2:ev sub (ah sub P (n+1)) (.comp 2 (.lst (.cs (.v 5) .nl)) (.one 5) (.iSeq (.call "_law_needs" (.cs (.v 0) .nl))) .nl) [some l.toD,some (.loc S.length),none,none] (S++[.lst []])=.ok (.loc T'.length) (T'++[.lst (Q.map fun q=>.loc q.2)]):=by
  rw [dB,bu r_c (bX (aD _ _))] at e2
  rw [dB,bu (aA (af (r_v rfl) ai) eN) (bX (aD _ _))]
  exact e2
 have hf:(aI l).filter (fun _=>true)=aI l:=List.filter_eq_self.mpr fun _ _=>rfl
 rw [hf] at m2
 have pS:S++[.lst []] <+: T':=(Zi _ _).trans p2
 have hSl:S.length < T'.length:=by
  have:=pS.length_le
  rw [Zp] at this
  simp at this
  omega
 have sk:fS l S (T'++[.lst (Q.map fun q=>.loc q.2)]) T'.length Q []:=⟨kK (T:=S++[.lst []]) (cD _ _) (by rw [Zp]; omega) (pS.trans (Zi _ _)),aD _ _,aV (pS.trans (Zi _ _)) (aD _ _),hSl,fun q hq=>by
   rw [Xl] at hq
   obtain ⟨a,b⟩:=a2 q hq
   have hq1:=(Zg.mp (show T'[q.2]?=some _ from a)).1
   rw [Zp,Zp] at b
   simp at b
   exact ⟨a.pre (Zi _ _),by omega,by omega⟩,by rw [m2]; exact eg.start⟩
 have hcost:cost (Q.map (·.1))<=12 * 13 ^ 4:=o7 (by
  have:=Xn List.length m2
  rw [Zb,Zb] at this
  rw [Zb]; omega) fun v hv=>by
   rw [m2] at hv
   obtain ⟨t,_,rfl⟩:=Zy.mp hv
   exact Zk _
 obtain ⟨T2,R,x3',e3,s2,hR5⟩:=vq (sub:=sub) (P:=P) (n:=n) hd hl h4 (12 * 13 ^ 4) 1000000 Q [] _ none hcost (by decide) (by decide) sk
 have body:exec sub (ah sub P (n+1)) iG.body (frame iG [l.toD]) S=.ok (.rt (.loc S.length)) T2:=ak (aL (bO ai rfl)) (ak (aL e2) (ak (dQ e3) (aK (r_v rfl))))
 have hall:∀ w,Ring (aI l) w->(∀ t∈w,fst w<=nA t)->∃ q∈R,q.1=w:=fun w hw hl=>by
  rcases s2.seek.all w hw hl with z|⟨v,hv,_⟩
  ·obtain ⟨q,hq,e⟩:=Zy.mp z
   exact ⟨q,hq,e⟩
  ·cases hv
 have hrg:∀ q∈R,Ring (aI l) q.1:=fun q hq=>s2.seek.found q.1 (Zy.mpr ⟨q,hq,rfl⟩)
 have hpre:S <+: T2:=⟨T2.drop S.length,by
  have:=List.take_append_drop S.length T2
  rw [s2.keep] at this
  exact this⟩
 by_cases hR:R=[]
 ·subst hR
  refine ⟨S++[.lst []],[],x_call (ds:=[l.toD]) hr rfl body (iN (Zk _) s2.keep s2.f rfl),Zi _ _,aD _ _,fun _ h=>(by cases h),by decide,fun _ h=>(by cases h),hall⟩
 ·refine ⟨T2,R,x_call (ds:=[l.toD]) hr rfl body ?_,hpre,s2.f,fun q hq=>(s2.at' q (by simpa using hq)).1,hR5,hrg,hall⟩
  unfold leave
  rw [Zd s2.keep,Ze (by show ¬ decide (S.length < S.length)=true; simp)]
  simp only [s2.f]
  rw [Ze]
  intro z
  obtain ⟨q,r,rfl⟩:=Qe hR
  have z:(decide (q.2 < S.length)&&D.lows S.length (r.map fun q=>.loc q.2))=true:=z
  rw [Zu] at z
  have:=Zn z.1
  have:=(s2.at' q (by simp)).2.1
  omega
end
end RL

namespace K08
open PySem EV RL GO WK
noncomputable def sr:Fn:=⟨3,3,(.ret (.cmp .gt (.bi .sum (.cs (.comp 2 (.ix (.ix (.ix (.v 0) (.c (.int 2))) (.ix (.v 4) (.c (.int 0)))) (.c (.int 1))) (.one 4) (.iSeq (.v 2)) .nl) .nl)) (.bin .mul (.v 1) (.bi .sum (.cs (.comp 2 (.ix (.v 4) (.c (.int 2))) (.one 4) (.iSeq (.v 2)) .nl) .nl)))))⟩
noncomputable def vA:Fn:=⟨3,5,(.seq (.set (.many [3,4]) (.ix (.ix (.v 0) (.c (.int 1))) (.v 2)))
 (.ret (.cmp .gt (.bin .mul (.v 4) (.bi .len (.cs (.comp 2 (.v 6) (.one 6) (.iSeq (.ix (.v 0) (.c (.int 2)))) (.cmp .eq (.ix (.v 6) (.c (.int 0))) (.v 2))) .nl))) (.bin .mul (.v 1) (.v 3)))))⟩
noncomputable def sU:Fn:=⟨1,7,(.seq (.set (.one 1) (.call "_law_loop" (.cs (.v 0) (.cs (.c (.int 4)) (.cs (.c (.int 4)) .nl)))))
 (.seq (.set (.one 2) (.call "_law_rings" (.cs (.v 1) .nl)))
 (.seq (.set (.one 4) (.comp 2 (.v 8) (.one 8) (.iRng (.cs (.c (.int 1)) (.cs (.c (.int 50)) .nl))) (.cmp .eq (.comp 2 (.v 10) (.one 10) (.iSeq (.v 2)) (.call "_law_ring_bars" (.cs (.v 1) (.cs (.v 8) (.cs (.v 10) .nl))))) (.lst .nl))))
 (.seq (.ite (.cmp .ne (.call "ring_gap" (.cs (.v 1) .nl)) (.ix (.v 4) (.c (.int 0))))
  (.ret (.c (.bl false)))
  .skip)
 (.seq (.set (.one 5) (.bi .rangeL (.cs (.bi .len (.cs (.ix (.v 1) (.c (.int 1))) .nl)) .nl)))
 (.seq (.set (.one 6) (.comp 2 (.v 8) (.one 8) (.iRng (.cs (.c (.int 1)) (.cs (.c (.int 50)) .nl))) (.cmp .eq (.comp 2 (.v 10) (.one 10) (.iSeq (.v 5)) (.call "_law_crew_bars" (.cs (.v 1) (.cs (.v 8) (.cs (.v 10) .nl))))) (.lst .nl))))
 (.seq (.ite (.cmp .ne (.call "crew_gap" (.cs (.v 1) .nl)) (.ix (.v 6) (.c (.int 0))))
  (.ret (.c (.bl false)))
  .skip)
 (.seq (.set (.one 3) (.bin .add (.c (.int 1)) (.call "_law_mixed" (.cs (.v 0) (.cs (.c (.int 0)) (.cs (.c (.int 12)) .nl))))))
 (.ret (.cmp .eq (.call "crowd" (.cs (.v 1) (.cs (.v 3) .nl))) (.ix (.bin .add (.comp 2 (.v 8) (.one 8) (.iSeq (.v 5)) (.call "_law_crew_bars" (.cs (.v 1) (.cs (.v 3) (.cs (.v 8) .nl))))) (.lst (.cs (.c .non) .nl))) (.c (.int 0)))))))))))))⟩
noncomputable def Pd:Prg:=[(("is_whole" : Str),l_),(("is_value" : Str),uR),(("is_row" : Str),kq),(("is_crew" : Str),rq),(("are_crews" : Str),wU),(("is_work_source" : Str),pq),(("is_source" : Str),sS),(("are_starts" : Str),uK),(("is_work" : Str),uM),(("are_works" : Str),qp),(("are_outs" : Str),wI),(("is_loop" : Str),pV),(("checked" : Str),qI),(("needs" : Str),jP),(("checked_gap" : Str),ua),(("longs_of" : Str),wH),(("backs_of" : Str),pL),(("surplus" : Str),uw),(("longest_walks" : Str),t9),(("lengthened" : Str),j3),(("barring_ring" : Str),oq),(("crew_times" : Str),s_),(("barring_crew" : Str),v8),(("crowd" : Str),pF),(("rounded_up" : Str),wA),(("ring_gap" : Str),vQ),(("crew_gap" : Str),qW),(("_law_cell_at" : Str),uA),(("_law_mixed" : Str),tU),(("_law_source" : Str),rg),(("_law_work" : Str),r_),(("_law_loop" : Str),tO),(("_law_needs" : Str),gY),(("_law_rings" : Str),iG),(("_law_ring_bars" : Str),sr),(("_law_crew_bars" : Str),vA),(("law" : Str),sU)]
theorem hB:HB Pd:=⟨rfl,rfl,rfl,rfl,rfl,rfl,rfl,rfl,rfl,rfl,rfl,rfl,rfl⟩
theorem hG:HG Pd:=⟨rfl,rfl,rfl,rfl,rfl⟩
theorem hW:HW Pd:=⟨rfl,rfl,rfl,rfl,rfl⟩
theorem hR0:HR0 Pd:=⟨rfl,rfl,rfl,hW⟩
theorem hC:HC Pd:=⟨rfl,rfl,rfl,rfl,rfl,rfl⟩
theorem hN:Has Pd "_law_needs" gY:=rfl
theorem hS:Has Pd "_law_rings" iG:=rfl
abbrev sb:Sub:=fun _ _=>false
variable {sub:Sub} {n:Nat} {S T:aa} {l:Lp}
theorem pG {α:Type} {s:Src} {fn:D->M (Option D)} {f g:α->D} {p:α->Bool} {S0:aa} (hs:∀ T,S0 <+: T->aH s T=.ok () T):∀ (ks:List α) (T:aa),S0 <+: T->(∀ a∈ks,∀ T,S0 <+: T->∃ T',fn (f a) T=.ok (if p a=true then some (g a) else none) T'/\T <+: T') ->
  ∃ T',bw s fn (ks.map f) T=.ok ((ks.filter p).map g) T'/\T <+: T'
 | [],T,hT,_=>⟨T,by rw [X7,jA,hs T hT]; rfl,Z2 _⟩
 | a::r,T,hT,H=>by
  obtain ⟨T1,e1,p1⟩:=H a Zl T hT
  obtain ⟨T',e,p2⟩:=pG hs r T1 (hT.trans p1) fun b hb=>H b (Zm _ hb)
  refine ⟨T',?_,p1.trans p2⟩
  rw [ZC,i9,hs T hT,Res.aj,e1,Res.aj,e]
  cases q:p a with
  | true=>rw [X3 q]; rfl
  | false=>rw [Qp (by rw [q]; decide)]; rfl
theorem wJ {cf:Ye} {σ:Sg} {k i:Nat} {el it tt:E} {α:Type} {ks:List α} {f g:α->D} {p:α->Bool} {o:Option Nat} {raw:Yc} (hn:tt.bq=false) (hi:evI sub cf it σ S=.ok ⟨ks.map f,o,raw⟩ S) (hs:∀ T,S <+: T->aH ⟨ks.map f,o,raw⟩ T=.ok () T)
  (hp:∀ a∈ks,∀ T,S <+: T->∃ T',evT sub cf tt ((σ++List.replicate k none).set i (some (f a))) T=.ok (p a) T'/\T <+: T')
  (hg:∀ a∈ks,∀ T,ev sub cf el ((σ++List.replicate k none).set i (some (f a))) T=.ok (g a) T) (hz:ks.length<=aG) :
  ∃ T',ev sub cf (.comp k el (.one i) it tt) σ S=.ok (.loc T'.length) (T'++[.lst ((ks.filter p).map g)])/\S <+: T':=by
 obtain ⟨T',e,p1⟩:=pG (s:=⟨ks.map f,o,raw⟩) (fn:=fun d=>aS (.one i) d (σ++List.replicate k none)>>=fun σ'=>(if tt.bq=true then pure true else evT sub cf tt σ')>>=fun b=>if b=true then ev sub cf el σ'>>=fun y=>pure (some y) else pure none) (f:=f) (g:=g) (p:=p) (S0:=S) hs ks S (Z2 _) (fun a ha T hT=>by
  obtain ⟨T',e0,p0⟩:=hp a ha T hT
  refine ⟨T',?_,p0⟩
  rw [ay,gD,Res.aj,ay,hn,Ze Zz,e0,Res.aj]
  cases q:p a with
  | true=>rw [Zd rfl,Zd rfl,ay,hg a ha T',Res.aj]; rfl
  | false=>rw [Ze Zz,Ze Zz]; rfl)
 have hl:((ks.filter p).map g).length<=aG:=by rw [Zb]; exact Z7 (Xr _ _) hz
 refine ⟨T',?_,p1⟩
 rw [dB,hi]
 simp only [Res.aj]
 rw [dQ e]
 simp only [Res.aj]
 rw [Zd (show fits _=true from Zj hl)]
theorem oE {p:Nat->Bool} {k m:Nat} (hk:k < m) (h0:∀ i,i < k->p i=false) (h1:p k=true):∃ r,(List.range m).filter p=k::r:=by
 obtain ⟨d,rfl⟩:∃ d,m=k+(d+1):=⟨m - k - 1,by omega⟩
 rw [List.range_add,List.filter_append,QB.mpr fun i hi=>by rw [h0 i (ZS.mp hi)]; decide,Qb,List.range_succ_eq_map,ZC]
 exact ⟨_,X3 (by simpa using h1)⟩
theorem DL:bJ [.int 1,.int 50]=some ((List.range 49).map fun (k:Nat)=>((k+1:Nat):Int)):=by
 have e0:bJ [.int 1,.int 50]=some (rng 1 50 1):=id rfl
 rw [e0]
 have e4:rng 1 50 1=(List.range 49).map fun (k:Nat)=>(1:Int)+(k:Int) * 1:=by
  unfold rng
  exact Zd (by decide)
 rw [e4]
 exact Xn some (Wq fun k _=>by rw [Int.mul_one]; omega)
theorem g50 {cf:Ye} {σ:Sg}:evI sub cf (.iRng (.cs (.c (.int 1)) (.cs (.c (.int 50)) .nl))) σ T=.ok ⟨(List.range 49).map fun (k:Nat)=>D.int ((k+1:Nat):Int),none,[]⟩ T:=by
 rw [sI (af r_c (af r_c ai)) DL,ZX]; rfl
theorem Dm (hl:l.WF) {g:Int} (hg:0<=g/\g<=1000) {q:Wlk × Nat} (hq:cy l S q):ah sub Pd (n+1) "_law_ring_bars" [l.toD,.int g,.loc q.2] S=.ok (.bl (decide (0 < wt (aF l) g q.1))) S:=by
 have h:S[q.2]?=some (.lst (q.1.map tupI)):=hq.at'
 have hz:=hq.len
 have e:ev sub (ah sub Pd n) (.comp 2 (.ix (.ix (.ix (.v 0) (.c (.int 2))) (.ix (.v 4) (.c (.int 0)))) (.c (.int 1))) (.one 4) (.iSeq (.v 2)) .nl) [some l.toD,some (.int g),some (.loc q.2)] S=.ok (.loc S.length) (S++[.lst (q.1.map fun t=>.int (aF l (nA t)))]) :=
  fT (ks:=q.1) (f:=tupI) (g:=fun t=>.int (aF l (nA t))) (o:=some q.2) (raw:=q.1.map tupI) (bu (r_v rfl) (bX h)) (cK (.inr ⟨q.2,rfl,h⟩)) (fun t ht=>by
   obtain ⟨_,h0,h1,_⟩:=fY (hq.nd t ht)
   exact aq (aq (aq (r_v rfl) r_c (aB rfl)) (aq (r_v rfl) r_c (fQ (hq.nd t ht))) (aB (wV h0 h1))) r_c (aB rfl)) (by unfold aG; omega)
 rw [show (q.1.map fun t=>D.int (aF l (nA t)))=(q.1.map fun t=>aF l (nA t)).map .int by rw [ZX]; rfl] at e
 have s1:=aT (af e ai) (jZ (sub:=sub) (aD _ _))
 generalize hT:S++[.lst ((q.1.map fun t=>aF l (nA t)).map .int)]=T at s1
 have pT:S <+: T:=by rw [<- hT]; exact Zi _ _
 have h2:=aV pT h
 have e2:ev sub (ah sub Pd n) (.comp 2 (.ix (.v 4) (.c (.int 2))) (.one 4) (.iSeq (.v 2)) .nl) [some l.toD,some (.int g),some (.loc q.2)] T=.ok (.loc T.length) (T++[.lst (q.1.map fun t=>.int (nC t))]) :=
  fT (ks:=q.1) (f:=tupI) (g:=fun t=>.int (nC t)) (o:=some q.2) (raw:=q.1.map tupI) (bu (r_v rfl) (bX h2)) (cK (.inr ⟨q.2,rfl,h2⟩)) (fun t ht=>aq (r_v rfl) r_c (uV (hq.nd t ht))) (by unfold aG; omega)
 rw [show (q.1.map fun t=>D.int (nC t))=(q.1.map nC).map .int by rw [ZX]; rfl] at e2
 have s2:=aT (af e2 ai) (jZ (sub:=sub) (aD _ _))
 have hd:decide (g * (q.1.map nC).sum < (q.1.map fun t=>aF l (nA t)).sum)=decide (0 < wt (aF l) g q.1):=by
  have:wt (aF l) g q.1=(q.1.map fun t=>aF l (nA t)).sum - g * (q.1.map nC).sum:=rfl
  rw [this]
  by_cases z:g * (q.1.map nC).sum < (q.1.map fun t=>aF l (nA t)).sum
  ·rw [Zj z,Zj (by omega)]
  ·rw [Zq z,Zq (by omega)]
 rw [<- hd]
 refine x_call (ds:=[l.toD,.int g,.loc q.2]) (show Has Pd "_law_ring_bars" sr from rfl) rfl (aK (aP s1 (bB (r_v rfl) s2 (f7 (by omega))) (gB _ _ _))) (b7 rfl ?_)
 obtain ⟨G,rfl⟩:=pT
 rw [Zs]; exact cD _ _
def dM (l:Lp) (R:Yg) (k:Nat):Bool:=(R.filterMap fun q=>if 0 < wt (aF l) ((k+1:Nat):Int) q.1 then some (D.loc q.2) else none).isEmpty
theorem HQ {R:Yg} {k:Nat}:dM l R k=true ↔ ∀ q∈R,¬ 0 < wt (aF l) ((k+1:Nat):Int) q.1:=by
 unfold dM
 rw [List.isEmpty_iff,List.filterMap_eq_nil_iff]
 constructor
 ·intro h q hq z
  have:=h q hq
  rw [Zd z] at this; cases this
 ·intro h q hq
  rw [Ze (h q hq)]
theorem II (hl:l.WF) {R:Yg} {c:Nat} {x0 x3 x4 x5 x6:Option D} (hc:S[c]?=some (.lst (R.map fun q=>.loc q.2))) (hR:∀ q∈R,cy l S q) (hz:R.length<=500000) :
  ∃ T',ev sub (ah sub Pd (n+1)) (.comp 2 (.v 8) (.one 8) (.iRng (.cs (.c (.int 1)) (.cs (.c (.int 50)) .nl))) (.cmp .eq (.comp 2 (.v 10) (.one 10) (.iSeq (.v 2)) (.call "_law_ring_bars" (.cs (.v 1) (.cs (.v 8) (.cs (.v 10) .nl))))) (.lst .nl)))
   [x0,some l.toD,some (.loc c),x3,x4,x5,x6] S=.ok (.loc T'.length) (T'++[.lst (((List.range 49).filter (dM l R)).map fun (k:Nat)=>.int ((k+1:Nat):Int))])/\S <+: T':=by
 refine wJ (ks:=List.range 49) (f:=fun (k:Nat)=>D.int ((k+1:Nat):Int)) (g:=fun (k:Nat)=>D.int ((k+1:Nat):Int)) (p:=dM l R) (o:=none) (raw:=[]) rfl g50 (fun _ _=>rfl) (fun k hk T hT=>?_) (fun k hk T=>r_v rfl) (by unfold aG; simp)
 have hk:=ZS.mp hk
 have hcT:=aV hT hc
 have e:=iF (sub:=sub) (cf:=ah sub Pd (n+1)) (σ:=[x0,some l.toD,some (.loc c),x3,x4,x5,x6,none,some (.int ((k+1:Nat):Int))]) (S:=T) (S1:=T) (k:=2) (i:=10) (el:=.v 10) (it:=.iSeq (.v 2)) (tt:=.call "_law_ring_bars" (.cs (.v 1) (.cs (.v 8) (.cs (.v 10) .nl)))) (ks:=R) (f:=fun q=>D.loc q.2) (g:=fun q=>if 0 < wt (aF l) ((k+1:Nat):Int) q.1 then some (D.loc q.2) else none) (o:=some c) (raw:=R.map fun q=>D.loc q.2) rfl (bu (r_v rfl) (bX hcT)) (cK (.inr ⟨c,rfl,hcT⟩)) (fun q hq=>by
   refine t_k (bM (aA (af (r_v rfl) (af (r_v rfl) (af (r_v rfl) ai))) (Dm hl (g:=((k+1:Nat):Int)) ⟨by omega,by omega⟩ ((hR q hq).pre hT)))) ?_
   by_cases z:0 < wt (aF l) ((k+1:Nat):Int) q.1
   ·rw [Zd z,Zj z]; rfl
   ·rw [Ze z,Zq z]; rfl) (fun q hq d hd=>by
   by_cases z:0 < wt (aF l) ((k+1:Nat):Int) q.1
   ·rw [Zd z] at hd; cases hd; exact r_v rfl
   ·rw [Ze z] at hd; cases hd) (by unfold aG; omega)
 exact ⟨_,aO (aP e (bO ai rfl) (k_ (aV (Zi _ _) (aD _ _)) (aD _ _))),(Zi _ _).trans (Zi _ _)⟩
theorem C2 (hl:l.WF) {g:Int} (hg:0<=g/\g<=1000) {k:Nat} {c:W6} (hk:l.crews[k]?=some c):ah sub Pd (n+1) "_law_crew_bars" [l.toD,.int g,.int (k:Int)] S=.ok (.bl (bS l g k c)) S:=by
 have h8:=hl.nworks.2
 have hm:=hl.crews c (ZA hk)
 have e:ev sub (ah sub Pd n) (.comp 2 (.v 6) (.one 6) (.iSeq (.ix (.v 0) (.c (.int 2)))) (.cmp .eq (.ix (.v 6) (.c (.int 0))) (.v 2))) [some l.toD,some (.int g),some (.int (k:Int)),some (.int (c.1:Int)),some (.int (c.2:Int))] S=.ok (.loc S.length) (S++[.lst (l.works.filterMap fun w=>if w.crew==k then some w.toD else none)]) :=
  iF (ks:=l.works) (f:=Wk.toD) (g:=fun w=>if w.crew==k then some w.toD else none) (o:=none) (raw:=l.works.map Wk.toD) rfl (bu (aq (r_v rfl) r_c (aB rfl)) rfl) rfl (fun w hw=>by
   have:=aO (sub:=sub) (cf:=ah sub Pd n) (aP (o:=.eq) (σ:=[some l.toD,some (.int g),some (.int (k:Int)),some (.int (c.1:Int)),some (.int (c.2:Int)),none,some w.toD]) (S:=S) (aq (r_v (i:=6) rfl) (r_c (d:=.int 0)) (aB (d:=.int (w.crew:Int)) rfl)) (r_v (i:=2) rfl) (dw _ _ _))
   refine Eq.trans this ?_
   by_cases z:w.crew=k
   ·rw [z,Z1,Z1]; rfl
   ·rw [ZQ.mpr (show ((w.crew:Nat):Int)≠(k:Int) by omega),ZQ.mpr z]; rfl) (fun w hw d hd=>by
   by_cases z:(w.crew==k)=true
   ·rw [Zd z] at hd; cases hd; exact r_v rfl
   ·rw [Ze z] at hd; cases hd) (by unfold aG; omega)
 have e3:=mH (sub:=sub) (T:=S) (xs:=l.works.filterMap fun w=>if w.crew==k then some w.toD else none)
 rw [tL l k] at e3
 exact x_call (ds:=[l.toD,.int g,.int (k:Int)]) (show Has Pd "_law_crew_bars" vA from rfl) rfl (ak (pH (aq (aq (r_v rfl) r_c (aB rfl)) (r_v rfl) (aB (p_ hk))) rfl) (aK (aP (bB (r_v rfl) (aT (af e ai) e3) (f7 (by omega))) (bB (r_v rfl) (r_v rfl) (f7 (by omega))) (gB _ _ _)))) (iz _ _ _)
def bP (l:Lp) (g:Int) (k:Nat):Bool:=bS l g k (l.crews.getD k (0,0))
theorem gX {k:Nat} (h:k < l.crews.length):l.crews[k]?=some (l.crews.getD k (0,0)):=by rw [ZJ,Zc h]; rfl
theorem eS {g:Int} (hg:0<=g/\g<=1000) (hl:l.WF) {σ:Sg} {vg vc i j k c:Nat} (hc:T[c]?=some (.lst ((List.range l.crews.length).map fun (k:Nat)=>D.int (k:Int)))) (hv:br σ vc T=.ok (.loc c) T)
  (hσ:∀ d T,br ((σ++List.replicate k none).set i (some d)) i T=.ok d T/\br ((σ++List.replicate k none).set i (some d)) 1 T=.ok l.toD T/\br ((σ++List.replicate k none).set i (some d)) vg T=.ok (.int g) T) :
  ev sub (ah sub Pd (n+1)) (.comp k (.v i) (.one i) (.iSeq (.v vc)) (.call "_law_crew_bars" (.cs (.v 1) (.cs (.v vg) (.cs (.v i) .nl))))) σ T=.ok (.loc T.length) (T++[.lst (((List.range l.crews.length).filter (bP l g)).map fun (k:Nat)=>D.int (k:Int))]):=by
 have h3:=hl.ncrews.2
 have e:=iF (sub:=sub) (cf:=ah sub Pd (n+1)) (σ:=σ) (S:=T) (S1:=T) (k:=k) (i:=i) (el:=.v i) (it:=.iSeq (.v vc)) (tt:=.call "_law_crew_bars" (.cs (.v 1) (.cs (.v vg) (.cs (.v i) .nl)))) (ks:=List.range l.crews.length) (f:=fun (k:Nat)=>D.int (k:Int)) (g:=fun k=>if bP l g k then some (D.int (k:Int)) else none) (o:=some c) (raw:=(List.range l.crews.length).map fun (k:Nat)=>D.int (k:Int)) rfl (bu (r_v hv) (bX hc)) (cK (.inr ⟨c,rfl,hc⟩)) (fun a ha=>by
   have ha:=ZS.mp ha
   obtain ⟨s1,s2,s3⟩:=hσ (.int (a:Int)) T
   refine t_k (bM (aA (af (r_v s2) (af (r_v s3) (af (r_v s1) ai))) (C2 hl hg (gX ha)))) ?_
   show bP l g a=_
   cases bP l g a <;> rfl) (fun a ha d hd=>by
   cases z:bP l g a with
   | true=>rw [Zd z] at hd; cases hd; exact r_v (hσ _ T).1
   | false=>rw [Ze (by rw [z]; decide)] at hd; cases hd) (by unfold aG; rw [ZL]; omega)
 have e2:∀ ks:List Nat,(ks.filterMap fun k=>if bP l g k then some (D.int (k:Int)) else none)=(ks.filter (bP l g)).map fun (k:Nat)=>D.int (k:Int):=fun ks=>by
  induction ks with
  | nil=>rfl
  | cons a r ih =>
   cases z:bP l g a with
   | true=>rw [Q5 (b:=D.int (a:Int)) (by rw [Zd z]),X3 z,ih]; rfl
   | false=>rw [Q4 (by rw [Ze (by rw [z]; decide)]),Qp (by rw [z]; decide),ih]
 rw [e2] at e
 exact e
def dU (l:Lp) (k:Nat):Bool:=((List.range l.crews.length).filter (bP l ((k+1:Nat):Int))).isEmpty
theorem BQ (hl:l.WF) {c:Nat} {x0 x2 x3 x4 x6:Option D} (hc:S[c]?=some (.lst ((List.range l.crews.length).map fun (k:Nat)=>D.int (k:Int)))) :
  ∃ T',ev sub (ah sub Pd (n+1)) (.comp 2 (.v 8) (.one 8) (.iRng (.cs (.c (.int 1)) (.cs (.c (.int 50)) .nl))) (.cmp .eq (.comp 2 (.v 10) (.one 10) (.iSeq (.v 5)) (.call "_law_crew_bars" (.cs (.v 1) (.cs (.v 8) (.cs (.v 10) .nl))))) (.lst .nl)))
   [x0,some l.toD,x2,x3,x4,some (.loc c),x6] S=.ok (.loc T'.length) (T'++[.lst (((List.range 49).filter (dU l)).map fun (k:Nat)=>.int ((k+1:Nat):Int))])/\S <+: T':=by
 refine wJ (ks:=List.range 49) (f:=fun (k:Nat)=>D.int ((k+1:Nat):Int)) (g:=fun (k:Nat)=>D.int ((k+1:Nat):Int)) (p:=dU l) (o:=none) (raw:=[]) rfl g50 (fun _ _=>rfl) (fun k hk T hT=>?_) (fun k hk T=>r_v rfl) (by unfold aG; simp)
 have hk:=ZS.mp hk
 have e:=eS (sub:=sub) (n:=n) (T:=T) (l:=l) (g:=((k+1:Nat):Int)) ⟨by omega,by omega⟩ hl (σ:=[x0,some l.toD,x2,x3,x4,some (.loc c),x6,none,some (.int ((k+1:Nat):Int))]) (vg:=8) (vc:=5) (i:=10) (j:=0) (k:=2) (aV hT hc) rfl (fun _ _=>⟨rfl,rfl,rfl⟩)
 refine ⟨_,t_k (aO (aP e (bO ai rfl) (k_ (aV (Zi _ _) (aD _ _)) (aD _ _)))) ?_,(Zi _ _).trans (Zi _ _)⟩
 unfold dU
 cases (List.range l.crews.length).filter (bP l ((k+1:Nat):Int)) <;> rfl
theorem wF {g:Int}:∀ {cs:List (Nat × Nat)} {k j:Nat},b9 l g k cs=some j->∀ (i:Nat) c,cs[i]?=some c->k+i < j->bS l g (k+i) c=false
 | [],_,_,_,i,c,h,_=>by simp at h
 | d::r,k,j,e,i,c,h,hj=>by
  unfold b9 at e
  cases q:bS l g k d with
  | true=>rw [q] at e; cases e; omega
  | false =>
   rw [q] at e
   cases i with
   | zero=>simp at h; subst h; exact q
   | succ i =>
    have:=wF (k:=k+1) e i c (by simpa using h) (by omega)
    rw [show k+(i+1)=k+1+i by omega]; exact this
theorem GL (g:Int):(((List.range l.crews.length).filter (bP l g)).map (fun (k:Nat)=>D.int (k:Int))++[D.non])[0]?=some (crD (b9 l g 0 l.crews)):=by
 cases q:b9 l g 0 l.crews with
 | none =>
  rw [QB.mpr fun k hk=>by
   have hk:=ZS.mp hk
   have:=tG q k _ (gX hk)
   rw [Xm] at this
   show ¬ bS l g k _=true
   rw [this]; decide]
  rfl
 | some j =>
  obtain ⟨i,c,e1,e2,e3⟩:=p8 q
  rw [Xm] at e1
  subst e1
  have hj:j < l.crews.length:=(Zg.mp e2).1
  obtain ⟨r,hr⟩:=oE (p:=bP l g) hj (fun i hi=>by
   have:=wF q i _ (gX (by omega)) (by omega)
   rw [Xm] at this
   exact this) (by
   rw [gX hj] at e2
   show bS l g j _=true
   rw [Z0 e2]; exact e3)
  rw [hr]; rfl
theorem wg (hl:l.WF) (h4:l.works.length<=4) {q:Wlk × Nat} (hr:Ring (aI l) q.1) (h:AtW T q):cy l T q/\q.1.length<=l.works.length:=by
 have hn:=fun t ht=>cU hl t (hr.walk.mem t ht)
 have hlen:q.1.length<=l.works.length:=by
  have:=WK.short (n:=l.works.length) hr.nodup fun x hx=>by
   obtain ⟨t,ht,rfl⟩:=Zy.mp hx
   obtain ⟨_,h0,h1,_⟩:=fY (hn t ht)
   exact ⟨h0,h1⟩
  rw [Zb] at this
  exact this
 exact ⟨⟨h,hr.walk.ne,hn,by omega⟩,hlen⟩
theorem sQ (hl:l.WF) (h4:l.works.length<=4) {R:Yg} (h1:∀ q∈R,Ring (aI l) q.1) (h2:∀ w,Ring (aI l) w->(∀ t∈w,fst w<=nA t)->∃ q∈R,q.1=w) (k:Nat):dM l R k=true ↔ ¬ fD l ((k+1:Nat):Int):=by
 rw [HQ]
 constructor
 ·rintro h ⟨w,w1,w2,w3,w4⟩
  obtain ⟨r,r1,r2⟩:=vM w.length w (Zk _) w1 w3 w4
  obtain ⟨v,v1,v2,v3⟩:=zo (lg:=aF l) (g:=((k+1:Nat):Int)) r1
  obtain ⟨q,hq,e⟩:=h2 v v1 v2
  refine h q hq ?_
  rw [e,v3]; exact r2
 ·intro h q hq z
  exact h ⟨q.1,(h1 q hq).walk,(wg (T:=[Cell.lst (q.1.map tupI)]) hl h4 (q:=(q.1,0)) (h1 q hq) rfl).2,(h1 q hq).closed,z⟩
theorem ze (hl:l.WF) {g h:Int} (hs:fD l h) (hg:g<=h):fD l g:=by
 obtain ⟨w,w1,w2,w3,w4⟩:=hs
 have:=rY (lg:=aF l) (w:=w) (by have:=kh hl w1 w3; omega) hg
 exact ⟨w,w1,w2,w3,by omega⟩
theorem Em {m:Nat} (hm:m<=1000):biD sub .rangeL [.int (m:Int)] T=.ok (.loc T.length) (T++[.lst ((List.range m).map fun (k:Nat)=>D.int (k:Int))]):=by
 have e:biD sub .rangeL [.int (m:Int)]=(opt (bJ [.int (m:Int)])>>=fun is=>guard (fits is.length) (alloc (.lst (is.map .int)))):=rfl
 rw [e,ay,uU (by omega) (by omega)]
 have:fits ((List.range m).map fun (i:Nat)=>(i:Int)).length=true:=vG (by simp; omega)
 simp only [cW,Res.aj,h_,Z9]
 rw [Zd this,l6,ZX]
 rfl
theorem zC (o:Option Nat):cmD .eq (crD o) (crD o) T=.ok (.bl true) T:=by
 cases o with
 | none=>rfl
 | some k=>show cmD .eq (.int (k:Int)) (.int (k:Int)) T=_; rw [dw,Z1]
abbrev fu:=ah sb Pd 29
abbrev crL (l:Lp):List D:=(List.range l.crews.length).map fun (k:Nat)=>D.int (k:Int)
theorem main (ns:WJ) (h:ns.length<=63):∃ S',ah (fun _ _=>false) Pd 30 "law" [.fro (ns.map .int)] []=.ok (.bl true) S':=by
 obtain ⟨mx,M⟩:=Gz hG
 have hl:=BA M ns (at':=4) (most:=4) (by decide) (by decide)
 have ed:=Gj (sub:=sb) (n:=24) (S:=[]) hG M ns (at':=4) (most:=4) (by decide) (by decide) (by decide)
 have h4:(cX mx ns 4 4).works.length<=4:=by
  have:=M.rng ns (4+1) (show (0:Int) < 4 by decide)
  simp only [cX,Zb,ZL]
  omega
 generalize cX mx ns 4 4=l at hl ed h4
 have hx:=M.rng ns 0 (show (0:Int) < 12 by decide)
 obtain ⟨g,hg⟩:∃ g:Nat,(g:Int)=1+mx ns 0 12:=⟨(1+mx ns 0 12).toNat,by omega⟩
 obtain ⟨T1,R,e1,_,c1,a1,z1,r1,r2⟩:=HH (sub:=sb) (P:=Pd) (n:=27) (S:=[]) hN hS hl h4
 obtain ⟨T2,e2,p2⟩:=II (sub:=sb) (n:=28) hl (c:=0) (x0:=some (.fro (ns.map .int))) (x3:=none) (x4:=none) (x5:=none) (x6:=none) c1 (fun q hq=>(wg hl h4 (r1 q hq) (a1 q hq)).1) z1
 obtain ⟨a,ea,b1,b2,b3,b4⟩:=Fb (sub:=sb) (n:=19) (S:=T2++[.lst (((List.range 49).filter (dM l R)).map fun (k:Nat)=>.int ((k+1:Nat):Int))]) hB hR0 hC hl h4
 obtain ⟨q,hq⟩:=oE (p:=dM l R) (k:=a.toNat - 1) (m:=49) (by omega) (fun i hi=>by
  cases z:dM l R i with
  | false=>rfl
  | true=>exact absurd (ze hl (b4 (by omega)) (show ((i+1:Nat):Int)<=a - 1 by omega)) ((sQ hl h4 r1 r2 i).mp z)) ((sQ hl h4 r1 r2 _).mpr (by
  rw [show ((a.toNat - 1+1:Nat):Int)=a by omega]
  exact AW hl b3 (Qh _)))
 have i2:atI (((List.range 49).filter (dM l R)).map fun (k:Nat)=>D.int ((k+1:Nat):Int)) 0=some (.int a):=by
  rw [gf,hq,ZC]
  show some (D.int ((a.toNat - 1+1:Nat):Int))=_
  rw [show ((a.toNat - 1+1:Nat):Int)=a by omega]
 have i2:=jG (T:=T2) i2
 generalize hU2:T2++[Cell.lst (((List.range 49).filter (dM l R)).map fun (k:Nat)=>.int ((k+1:Nat):Int))]=U2 at e2 ea i2
 have tr:evT sb (fu) (.cmp .ne (.call "ring_gap" (.cs (.v 1) .nl)) (.ix (.v 4) (.c (.int 0)))) [some (.fro (ns.map .int)),some l.toD,some (.loc 0),none,some (.loc T2.length),none,none] U2=.ok false U2:=by
  have:=aO (sub:=sb) (cf:=fu) (aP (o:=.ne) (σ:=[some (.fro (ns.map .int)),some l.toD,some (.loc 0),none,some (.loc T2.length),none,none]) (aA (af (r_v (i:=1) rfl) ai) ea) (aq (r_v (i:=4) rfl) r_c i2) (n_ _ _ _))
  rw [Z1] at this
  exact this
 have h3:=hl.ncrews
 have e3:ev sb (fu) (.bi .rangeL (.cs (.bi .len (.cs (.ix (.v 1) (.c (.int 1))) .nl)) .nl)) [some (.fro (ns.map .int)),some l.toD,some (.loc 0),none,some (.loc T2.length),none,none] U2=.ok (.loc U2.length) (U2++[.lst (crL l)]):=by
  have eL:ev sb (fu) (.bi .len (.cs (.ix (.v 1) (.c (.int 1))) .nl)) [some (.fro (ns.map .int)),some l.toD,some (.loc 0),none,some (.loc T2.length),none,none] U2=.ok (.int (l.crews.length:Int)) U2:=by
   have:=aT (sub:=sb) (cf:=fu) (σ:=[some (.fro (ns.map .int)),some l.toD,some (.loc 0),none,some (.loc T2.length),none,none]) (S:=U2) (af (aq (r_v (i:=1) rfl) (r_c (d:=.int 1)) (aB (d:=.tup (l.crews.map aU)) rfl)) ai) eZ
   rw [Zb] at this
   exact this
  exact aT (af eL ai) (Em (by omega))
 have c3:(U2++[Cell.lst (crL l)])[U2.length]?=some (.lst (crL l)):=aD _ _
 generalize hU3:U2++[Cell.lst (crL l)]=U3 at e3 c3
 obtain ⟨T4,e4,p4⟩:=BQ (sub:=sb) (n:=28) hl (c:=U2.length) (x0:=some (.fro (ns.map .int))) (x2:=some (.loc 0)) (x3:=none) (x4:=some (.loc T2.length)) (x6:=none) c3
 obtain ⟨b,eb,d1,kb,cb,d2,d3⟩:=As (sub:=sb) (n:=21) (S:=T4++[.lst (((List.range 49).filter (dU l)).map fun (k:Nat)=>.int ((k+1:Nat):Int))]) hB hC hl
 have bp:=Gr hl d1
 have bl:b<=32:=by rw [d3]; exact zb hl d2
 have ncI:∀ k,dU l k=decide (b<=((k+1:Nat):Int)):=fun k=>by
  unfold dU
  by_cases z:b<=((k+1:Nat):Int)
  ·rw [Zj z,QB.mpr fun j hj=>by
    have hj:=ZS.mp hj
    show ¬ bS l _ j _=true
    have hc:=gX (l:=l) hj
    rw [uS (hl.crews _ (ZA hc)).1.1,Zq (by have:=d1 j _ hc; omega)]
    decide]
   rfl
  ·rw [Zq z]
   have hkb:kb < l.crews.length:=(Zg.mp d2).1
   have hm:kb∈(List.range l.crews.length).filter (bP l ((k+1:Nat):Int)):=XG.mpr ⟨ZS.mpr hkb,by
    have hc:=gX (l:=l) hkb
    rw [d2] at hc
    show bS l _ kb _=true
    rw [<- Z0 hc,uS (hl.crews cb (ZA d2)).1.1,<- d3]
    exact Zj (by omega)⟩
   cases q:(List.range l.crews.length).filter (bP l ((k+1:Nat):Int)) with
   | nil=>rw [q] at hm; cases hm
   | cons _ _=>rfl
 obtain ⟨q4,hq4⟩:=oE (p:=dU l) (k:=b.toNat - 1) (m:=49) (by omega) (fun i hi=>by rw [ncI]; exact Zq (by omega)) (by rw [ncI]; exact Zj (by omega))
 have i4:atI (((List.range 49).filter (dU l)).map fun (k:Nat)=>D.int ((k+1:Nat):Int)) 0=some (.int b):=by
  rw [gf,hq4,ZC]
  show some (D.int ((b.toNat - 1+1:Nat):Int))=_
  rw [show ((b.toNat - 1+1:Nat):Int)=b by omega]
 have i4:=jG (T:=T4) i4
 have c4:(T4++[Cell.lst (((List.range 49).filter (dU l)).map fun (k:Nat)=>.int ((k+1:Nat):Int))])[U2.length]?=some (.lst (crL l)):=aV (p4.trans (Zi _ _)) c3
 generalize hU4:T4++[Cell.lst (((List.range 49).filter (dU l)).map fun (k:Nat)=>.int ((k+1:Nat):Int))]=U4 at e4 eb i4 c4
 have tc:evT sb (fu) (.cmp .ne (.call "crew_gap" (.cs (.v 1) .nl)) (.ix (.v 6) (.c (.int 0)))) [some (.fro (ns.map .int)),some l.toD,some (.loc 0),none,some (.loc T2.length),some (.loc U2.length),some (.loc T4.length)] U4=.ok false U4:=by
  have:=aO (sub:=sb) (cf:=fu) (aP (o:=.ne) (σ:=[some (.fro (ns.map .int)),some l.toD,some (.loc 0),none,some (.loc T2.length),some (.loc U2.length),some (.loc T4.length)]) (aA (af (r_v (i:=1) rfl) ai) eb) (aq (r_v (i:=6) rfl) r_c i4) (n_ _ _ _))
  rw [Z1] at this
  exact this
 have em:ev sb (fu) (.bin .add (.c (.int 1)) (.call "_law_mixed" (.cs (.v 0) (.cs (.c (.int 0)) (.cs (.c (.int 12)) .nl))))) [some (.fro (ns.map .int)),some l.toD,some (.loc 0),none,some (.loc T2.length),some (.loc U2.length),some (.loc T4.length)] U4=.ok (.int (g:Int)) U4:=by
  rw [hg]
  exact bB r_c (aA (af (r_v rfl) (af r_c (af r_c ai))) (M.ok ns (by decide) (by decide))) (jR _ _ _)
 have ec:=GC (sub:=sb) (n:=21) (S:=U4) hB hR0 hC hl (g:=(g:Int)) (by omega) (by omega)
 have ef:=eS (sub:=sb) (n:=28) (T:=U4) (l:=l) (g:=(g:Int)) ⟨by omega,by omega⟩ hl (σ:=[some (.fro (ns.map .int)),some l.toD,some (.loc 0),some (.int (g:Int)),some (.loc T2.length),some (.loc U2.length),some (.loc T4.length)]) (vg:=3) (vc:=5) (i:=8) (j:=0) (k:=2) c4 rfl (fun _ _=>⟨rfl,rfl,rfl⟩)
 have hfl:(((List.range l.crews.length).filter (bP l (g:Int))).map fun (k:Nat)=>D.int (k:Int)).length<=1000:=by
  rw [Zb]
  have:=Xr (bP l (g:Int)) (List.range l.crews.length)
  rw [ZL] at this
  omega
 have gU5:(U4++[Cell.lst (((List.range l.crews.length).filter (bP l (g:Int))).map fun (k:Nat)=>D.int (k:Int))])[U4.length]?=some (.lst (((List.range l.crews.length).filter (bP l (g:Int))).map fun (k:Nat)=>D.int (k:Int))):=aD _ _
 generalize hU5:U4++[Cell.lst (((List.range l.crews.length).filter (bP l (g:Int))).map fun (k:Nat)=>D.int (k:Int))]=U5 at ef gU5
 have ct:=lC (T:=U5++[.lst [.non]]) (aV (Zi _ _) gU5) (aD _ _) (by rw [Xy]; omega)
 have i5:=jG (T:=U5++[.lst [.non]]) (by rw [gf]; exact GL (l:=l) (g:Int))
 refine ⟨[],x_call (ds:=[.fro (ns.map .int)]) (show Has Pd "law" sU from rfl) rfl (ak (aL (aA (af (r_v rfl) (af r_c (af r_c ai))) ed)) (ak (aL (aA (af (r_v rfl) ai) e1)) (ak (aL e2) (ak (aN tr aR) (ak (aL e3) (ak (aL e4) (ak (aN tc aR) (ak (aL em)
  (aK (aP (aA (af (r_v rfl) (af (r_v rfl) ai)) ec) (aq (bB ef (bO (af r_c ai) rfl) ct) r_c i5) (zC _))))))))))) (b7 rfl rfl)⟩
end K08

namespace K08
open PySem EV RL
noncomputable def top (i:Nat):Stmt:=PySem.Challenge.pw_roundlap_k08_gaps.main.body.getD i (.Pass ⟨0,0,0,0⟩)
noncomputable def fns:List (Str × Stmt):=[(("is_whole" : Str),top 15),(("is_value" : Str),top 16),(("is_row" : Str),top 17),(("is_crew" : Str),top 18),(("are_crews" : Str),top 19),(("is_work_source" : Str),top 20),(("is_source" : Str),top 21),(("are_starts" : Str),top 22),(("is_work" : Str),top 23),(("are_works" : Str),top 24),(("are_outs" : Str),top 25),(("is_loop" : Str),top 26),(("checked" : Str),top 27),(("needs" : Str),top 28),(("checked_gap" : Str),top 31),(("longs_of" : Str),top 33),(("backs_of" : Str),top 34),(("surplus" : Str),top 35),(("longest_walks" : Str),top 36),(("lengthened" : Str),top 37),(("barring_ring" : Str),top 38),(("crew_times" : Str),top 39),(("barring_crew" : Str),top 40),(("crowd" : Str),top 41),(("rounded_up" : Str),top 42),(("ring_gap" : Str),top 43),(("crew_gap" : Str),top 44),(("_law_cell_at" : Str),top 46),(("_law_mixed" : Str),top 47),(("_law_source" : Str),top 48),(("_law_work" : Str),top 49),(("_law_loop" : Str),top 50),(("_law_needs" : Str),top 51),(("_law_rings" : Str),top 52),(("_law_ring_bars" : Str),top 53),(("_law_crew_bars" : Str),top 54),(("law" : Str),top 55)]
noncomputable def vals:List (Str × D):=[("REST",(.int 9973)),("MOST_STREAMS",(.int 6)),("MOST_CREWS",(.int 3)),("MOST_MACHINES",(.int 3)),("MOST_BUSY",(.int 4)),("MOST_WORKS",(.int 8)),("MOST_LONG",(.int 8)),("MOST_SOURCES",(.int 3)),("MOST_BACK",(.int 3)),("WORDS",(.tup [(.str "plus"),(.str "less"),(.str "times"),(.str "least"),(.str "greatest")])),("MOST_GAP",(.int 200))]
noncomputable def cls:List Str:=["LapError","NoLoop","NoGap"]
set_option maxRecDepth 100000 in
set_option maxHeartbeats 0 in
theorem hP:fns.map (fun p=>(p.1,trF (d_ fns vals cls) p.2))=Pd.map fun p=>(p.1,some p.2):=by kernel_rfl
end K08
namespace PySem.W.Fast
theorem tw14422675408231126192:0=0:=rfl
theorem tw11177735621025511353:0=0:=rfl
theorem tw4134763545496663996:0=0:=rfl
theorem tw16969060145933757819:0=0:=rfl
theorem tw6559663279210080861:0=0:=rfl
theorem tw6659736792723412432:0=0:=rfl
theorem tw1424016592525120682:0=0:=rfl
theorem tw6045296575161310204:0=0:=rfl
theorem tw16140121057038612197:0=0:=rfl
theorem tw642131917409160696:0=0:=rfl
theorem tw15469425623417620688:0=0:=rfl
theorem tw6794364087313336280:0=0:=rfl
theorem tw14322753736565301329:0=0:=rfl
theorem tw11371503982016079861:0=0:=rfl
theorem tw5088740672207066754:0=0:=rfl
theorem tw4270512516741130046:0=0:=rfl
theorem tw8446929348133744684:0=0:=rfl
theorem tw13793121833249545347:0=0:=rfl
theorem tw10764513653931886241:0=0:=rfl
theorem tw3898773892727499813:0=0:=rfl
theorem tw10410912993733484307:0=0:=rfl
theorem tw12912112623424503022:0=0:=rfl
theorem tw8043415840770115379:0=0:=rfl
theorem tw7532023720565192309:0=0:=rfl
theorem tw24434134170721438:0=0:=rfl
theorem tw10063953847065832406:0=0:=rfl
theorem tw1293888697268878300:0=0:=rfl
theorem tw5705119644438095434:0=0:=rfl
theorem tw9822907673723784514:0=0:=rfl
theorem tw8428330527601757711:0=0:=rfl
theorem tw11333055751998451223:0=0:=rfl
theorem tw1661439974675549679:0=0:=rfl
theorem tw1133986760817314926:0=0:=rfl
theorem tw13610491667171681295:0=0:=rfl
theorem tw13113227399413508018:0=0:=rfl
theorem tw9371791237193222381:0=0:=rfl
theorem tw14475387106386841396:0=0:=rfl
theorem tw13276332229794835161:0=0:=rfl
theorem tw10395078013735865754:0=0:=rfl
theorem tw2244983562546961507:0=0:=rfl
theorem tw234368679498394900:0=0:=rfl
theorem tw13196357628061987051:0=0:=rfl
theorem tw11954107856204415584:0=0:=rfl
theorem tw2127576865847898636:0=0:=rfl
theorem tw12441526306947907002:0=0:=rfl
theorem tw13056443888384479620:0=0:=rfl
theorem tw11062447154034753819:0=0:=rfl
theorem tw18383949987345494733:0=0:=rfl
theorem tw8459695401057741942:0=0:=rfl
theorem tw13762514138700327605:0=0:=rfl
theorem tw14366344595328384875:0=0:=rfl
theorem tw203046061353424031:0=0:=rfl
theorem tw489112068212485579:0=0:=rfl
theorem tw5823773242337691689:0=0:=rfl
theorem tw17817620045844222082:0=0:=rfl
theorem tw12187071737226813513:0=0:=rfl
theorem tw17454736630842797417:0=0:=rfl
theorem tw485848037370249332:0=0:=rfl
theorem tw18264539385248064034:0=0:=rfl
theorem tw14980781379115092785:0=0:=rfl
theorem tw354510496687399123:0=0:=rfl
theorem tw6639709400625107685:0=0:=rfl
theorem tw914884301074786330:0=0:=rfl
theorem tw13033917402816483472:0=0:=rfl
theorem tw7826962904132886649:0=0:=rfl
theorem tw12189787241877711620:0=0:=rfl
theorem tw14696344666218530190:0=0:=rfl
theorem tw13363966149907100882:0=0:=rfl
theorem tw2571337643435144147:0=0:=rfl
theorem tw14454910817753252728:0=0:=rfl
theorem tw8997186573982044292:0=0:=rfl
theorem tw14710511072537410148:0=0:=rfl
theorem tw2903690615776983294:0=0:=rfl
theorem tw1638747370470772831:0=0:=rfl
theorem tw1687688100425068142:0=0:=rfl
theorem tw16447756952069254793:0=0:=rfl
theorem tw15232200287355616229:0=0:=rfl
theorem tw12330237802078297118:0=0:=rfl
theorem tw2634034669879589435:0=0:=rfl
theorem tw2976446653034301369:0=0:=rfl
theorem tw2361689888305097329:0=0:=rfl
theorem tw7183629041664322182:0=0:=rfl
theorem tw16455331990194577336:0=0:=rfl
theorem tw15105897515691383125:0=0:=rfl
theorem tw6763853725052342300:0=0:=rfl
theorem tw898984184372335011:0=0:=rfl
theorem tw5931541364002111145:0=0:=rfl
theorem tw17980729058678638723:0=0:=rfl
theorem tw9743867232049588913:0=0:=rfl
theorem tw10529421890317973644:0=0:=rfl
theorem tw11717238251907589567:0=0:=rfl
theorem tw15758580161725946958:0=0:=rfl
theorem tw2808942252500371994:0=0:=rfl
theorem tw17655029620132138540:0=0:=rfl
theorem tw8095663077226240989:0=0:=rfl
theorem tw2012208537000323800:0=0:=rfl
theorem tw7214906625766057563:0=0:=rfl
theorem tw17617762887216429537:0=0:=rfl
theorem tw814348238170249745:0=0:=rfl
theorem tw13773181482731447983:0=0:=rfl
theorem tw17597464265164159932:0=0:=rfl
theorem tw12478602855030993526:0=0:=rfl
theorem tw15210018569520213739:0=0:=rfl
theorem tw14987738811014398537:0=0:=rfl
theorem tw18153882361374445308:0=0:=rfl
theorem tw11721511191184718805:0=0:=rfl
theorem tw984383581131623676:0=0:=rfl
theorem tw12397694458662235081:0=0:=rfl
theorem tw15246969174345128584:0=0:=rfl
theorem tw13612333196496410508:0=0:=rfl
theorem tw12055822328827494731:0=0:=rfl
theorem tw7533396213630850203:0=0:=rfl
theorem tw1615006892797982405:0=0:=rfl
theorem tw15338955489279723456:0=0:=rfl
theorem tw1024900827362718110:0=0:=rfl
theorem tw974955707750188526:0=0:=rfl
theorem tw243654401093951955:0=0:=rfl
theorem tw4769655131730381818:0=0:=rfl
theorem tw17575266949248512272:0=0:=rfl
theorem tw2244991520120046063:0=0:=rfl
theorem tw274743107774776291:0=0:=rfl
theorem tw8787794403013691066:0=0:=rfl
theorem tw15520643988828558384:0=0:=rfl
theorem tw6861019707579629104:0=0:=rfl
theorem tw3867828000717481679:0=0:=rfl
theorem tw7576357742304078117:0=0:=rfl
theorem tw16919383181051876094:0=0:=rfl
theorem tw9475508451110500225:0=0:=rfl
theorem tw9882373758065436585:0=0:=rfl
theorem tw4056021381262149675:0=0:=rfl
theorem tw6340402078594370525:0=0:=rfl
theorem tw11675245860466790474:0=0:=rfl
theorem tw12760006460503954626:0=0:=rfl
theorem tw291397252689661810:0=0:=rfl
theorem tw7859248526681354070:0=0:=rfl
theorem tw15640807522721766163:0=0:=rfl
theorem tw6946837634561408766:0=0:=rfl
theorem tw1467710499038244369:0=0:=rfl
theorem tw15651034812187958448:0=0:=rfl
theorem tw10639716755902086474:0=0:=rfl
theorem tw2760974435104509512:0=0:=rfl
theorem tw9421338423874184195:0=0:=rfl
theorem tw3602155550114145947:0=0:=rfl
theorem tw3599687644807533122:0=0:=rfl
theorem tw2529304805829379329:0=0:=rfl
theorem tw17563113578563885059:0=0:=rfl
theorem tw16214861999761140915:0=0:=rfl
theorem tw12083579487204164262:0=0:=rfl
theorem tw13810442433718705304:0=0:=rfl
theorem tw4067726737726605748:0=0:=rfl
theorem tw10335473687370723003:0=0:=rfl
theorem tw5540623045930289966:0=0:=rfl
theorem tw17554608897636601298:0=0:=rfl
theorem tw10485335116983789629:0=0:=rfl
theorem tw7199964525613528570:0=0:=rfl
theorem tw14530976616077829446:0=0:=rfl
theorem tw16140487390989247989:0=0:=rfl
theorem tw427419951603863303:0=0:=rfl
theorem tw10480634756882747362:0=0:=rfl
theorem tw4463632026717043188:0=0:=rfl
theorem tw17364662140211110955:0=0:=rfl
theorem tw8403963366068949436:0=0:=rfl
theorem tw10734629813076779248:0=0:=rfl
theorem tw17752556781766803195:0=0:=rfl
theorem tw13020821886739315313:0=0:=rfl
theorem tw567745855205460162:0=0:=rfl
theorem tw4111560002793031501:0=0:=rfl
theorem tw5022571728914176266:0=0:=rfl
theorem tw9293099575997592314:0=0:=rfl
theorem tw5328032128962381917:0=0:=rfl
theorem tw14404592891511715935:0=0:=rfl
theorem tw3779606396097579779:0=0:=rfl
theorem tw7781137578075737300:0=0:=rfl
theorem tw526592998539146290:0=0:=rfl
theorem tw1325467953211833465:0=0:=rfl
theorem tw3537966311352706861:0=0:=rfl
theorem tw17178295907791809200:0=0:=rfl
theorem tw6931355928922380149:0=0:=rfl
theorem tw10321783294798385488:0=0:=rfl
theorem tw15189533581747087805:0=0:=rfl
theorem tw3379008227328650619:0=0:=rfl
theorem tw11605914847807841816:0=0:=rfl
theorem tw4950347450847973813:0=0:=rfl
theorem tw1968694593664128239:0=0:=rfl
theorem tw14917994169648758590:0=0:=rfl
theorem tw6981710786750556578:0=0:=rfl
theorem tw11728054427629974222:0=0:=rfl
theorem tw16708651076144752390:0=0:=rfl
theorem tw4392382597004264536:0=0:=rfl
theorem tw17362048312931689397:0=0:=rfl
theorem tw11272737448173832382:0=0:=rfl
theorem tw13548519171533520442:0=0:=rfl
theorem tw2084523012123628580:0=0:=rfl
theorem tw6589840486132960374:0=0:=rfl
theorem tw803146614769965738:0=0:=rfl
theorem tw11964348197049795285:0=0:=rfl
theorem tw11286842225597995055:0=0:=rfl
theorem tw13807264708961860166:0=0:=rfl
theorem tw7324433775959973639:0=0:=rfl
theorem tw3265610759751340697:0=0:=rfl
theorem tw8067257059255544483:0=0:=rfl
theorem tw12690632509471591074:0=0:=rfl
theorem tw14605380169870579426:0=0:=rfl
theorem tw15852466176866489021:0=0:=rfl
theorem tw5606004837983820310:0=0:=rfl
theorem tw15658547097955302239:0=0:=rfl
theorem tw10660987350272048944:0=0:=rfl
theorem tw5350722336010252389:0=0:=rfl
theorem tw18095150112041140052:0=0:=rfl
theorem tw6634840093733236399:0=0:=rfl
theorem tw17467577222913726646:0=0:=rfl
theorem tw4444984666195947983:0=0:=rfl
theorem tw5248922033106535558:0=0:=rfl
theorem tw601889813652041891:0=0:=rfl
theorem tw11907858883020222534:0=0:=rfl
theorem tw2355202757890333027:0=0:=rfl
theorem tw5265851239986315043:0=0:=rfl
theorem tw18423581417492275797:0=0:=rfl
theorem tw11352670923057890787:0=0:=rfl
theorem tw2562287323571235882:0=0:=rfl
theorem tw1739634658908257742:0=0:=rfl
theorem tw7317605352210339480:0=0:=rfl
theorem tw7212332356699352919:0=0:=rfl
theorem tw2527101618169518234:0=0:=rfl
theorem tw10156469303567351076:0=0:=rfl
theorem tw7837022129697725632:0=0:=rfl
theorem tw7979594905970103971:0=0:=rfl
theorem tw11567814800988877573:0=0:=rfl
theorem tw17179006456899989234:0=0:=rfl
theorem tw11442250550704801602:0=0:=rfl
theorem tw11260475565916385131:0=0:=rfl
theorem tw6530373626150296998:0=0:=rfl
theorem tw5376173982138084463:0=0:=rfl
theorem tw2731935871064277195:0=0:=rfl
theorem tw16159188434982655687:0=0:=rfl
theorem tw4188776011953664821:0=0:=rfl
theorem tw17677638479884068187:0=0:=rfl
theorem tw16049010138644559528:0=0:=rfl
theorem tw14385275822028457681:0=0:=rfl
theorem tw13244110829623089538:0=0:=rfl
theorem tw2080039401613539468:0=0:=rfl
theorem tw11320961238730487425:0=0:=rfl
theorem tw12922519725543107651:0=0:=rfl
theorem tw7929722393413240559:0=0:=rfl
theorem tw6302563211562015614:0=0:=rfl
theorem tw1963273323008616775:0=0:=rfl
theorem tw16360277125682670859:0=0:=rfl
theorem tw14891649879819824224:0=0:=rfl
theorem tw13625352107051784018:0=0:=rfl
theorem tw1483020177905888706:0=0:=rfl
theorem tw5696328948451978578:0=0:=rfl
theorem tw13566368024108411377:0=0:=rfl
theorem tw6039298708377421088:0=0:=rfl
end PySem.W.Fast
open PySem PySem.W PyProof.Rows
set_option maxRecDepth 100000 in
set_option maxHeartbeats 0 in
theorem PySem.Challenge.cw_roundlap_k08_gaps_holds : PySem.Challenge.rw_roundlap_k08_gaps.Holds := by
 w_on; o_law; k_head; (case hw=>w_witness2)
 k_fill
 refine EV.B6 (l:=PySem.Challenge.rw_roundlap_k08_gaps) (fns:=K08.fns) (vals:=K08.vals) (cls:=K08.cls) (Pd:=K08.Pd) (sub:=fun _ _=>false) (n:=30) (st:=K08.top 55) (x:="_law_script") rfl rfl ⟨rfl,by decide,by decide⟩ (fun w h Y=>PySem.W.kIn_of Y) K08.hP rfl rfl ?T K08.main
 case T =>
  intro w h KX
  refine ⟨?_,?_,?_,?_⟩
  ·unfold K08.fns
   repeat (apply EV.dH.cons; k_is; k_is; k_is; k_is)
   exact EV.dH.nil
  ·unfold K08.vals
   repeat first
    | (apply EV.cE.flat; k_is; constructor)
    | (apply EV.cE.tup; k_is; k_is; decide; rfl; (focus (repeat' constructor)))
   exact EV.cE.nil
  ·unfold K08.cls
   repeat first
    | (apply EV.b6.cons; k_is; k_exc; kit_is; k_is; kit_is; decide +kernel)
    | (apply EV.b6.consN; k_is; k_exc; kit_is; k_is; kit_is; k_is)
    | (apply EV.b6.consP; k_is; k_exc; kit_is; k_is; kit_is; k_is; kit_is; k_is; k_is; k_is; k_is; k_is; k_is; k_is)
   exact EV.b6.nil
  ·refine fun x hx _=>EV.d7.get (l:=EV.d9) ?hNone0 hx
   unfold EV.d9
   repeat (apply EV.d7.cons; k_is)
   exact EV.d7.nil
end
