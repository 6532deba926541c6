import PyProof.Rows.All
import Wide.All
import OpenK.AllK
import Wide.FinOn
import Lean
import PyProof.EqAt
import PyProof.EqKinds
import PyProof.TupleCall
import PyProof.ListRange
import PyProof.TupleOfSeq
import OpenK.KRaise
import OpenK.KOwn
import PyProof.NsDelKeeps
import PyProof.StrOps2
import PyProof.ExcAttrAll.ValueError
import PySem.SetTable
import PyProof.SetScanFacts
import PyProof.TupleKey
import PyProof.SetKind
import PyProof.IsRules
import PyProof.DictKinds
import PyProof.InstSpecial
import PyProof.Rows.SetFrom
import PyProof.WalksS
import PyProof.Walks
import PyProof.Seq
import PyProof.FactsAll.set_1
import PyProof.Comp
import PyProof.CollectWalk
import PyProof.SetNew
import PyProof.FactsAll.set_2
import PyProof.Rows.SortShellK
import PyProof.Rows.SortWalk
import PyProof.ZipIter
import PyProof.DictWalks
import KE.KDictList
import PyProof.DictValues
import PyProof.SetRoads
import PySem.Str
import PyProof.NeKinds
import PySem.Eval
import PyProof.ExcBaseAll.ValueError
import PySem.Challenge.RW_roundlap_k30_whole_sooner
set_option genSizeOfSpec false
set_option bootstrap.genMatcherCode false
noncomputable section
noncomputable abbrev Za:=@PySem.wpAny_bind
noncomputable abbrev Zb:=@List.getElem?_eq_getElem
noncomputable abbrev Zc:=@PySem.wpAny_pure
noncomputable abbrev Zd:=@List.length_map
noncomputable abbrev Ze:=@if_pos
noncomputable abbrev Zf:=@if_neg
noncomputable abbrev Zg:=@PySem.Heap.get?_push_of_some
noncomputable abbrev Zh:=@List.getElem?_eq_some_iff
noncomputable abbrev Zi:=@List.size_toArray
noncomputable abbrev Zj:=@decide_eq_true
noncomputable abbrev Zk:=@Nat.le_refl
noncomputable abbrev Zl:=@List.prefix_append
noncomputable abbrev Zm:=@List.mem_cons_of_mem
noncomputable abbrev Zn:=@List.mem_cons_self
noncomputable abbrev Zo:=@of_decide_eq_true
noncomputable abbrev Zp:=@Array.getElem?_eq_getElem
noncomputable abbrev Zq:=@Bool.and_eq_true
noncomputable abbrev Zr:=@List.append_assoc
noncomputable abbrev Zs:=@PySem.Heap.lt_size
noncomputable abbrev Zt:=@List.mem_cons
noncomputable abbrev Zu:=@Bool.false_eq_true
noncomputable abbrev Zv:=@List.length_append
noncomputable abbrev Zw:=@PySem.Heap.get?_push_size
noncomputable abbrev Zx:=@Bool.false_ne_true
noncomputable abbrev Zy:=@List.mem_of_getElem?
noncomputable abbrev Zz:=@decide_eq_false
noncomputable abbrev ZA:=@List.mem_map
noncomputable abbrev ZB:=@List.length_cons
noncomputable abbrev ZC:=@Option.map_eq_some_iff
noncomputable abbrev ZD:=@Array.length_toList
noncomputable abbrev ZE:=@List.getElem?_append_left
noncomputable abbrev ZF:=@List.map_cons
noncomputable abbrev ZG:=@List.getD_eq_getElem?_getD
noncomputable abbrev ZH:=@Nat.ne_of_lt
noncomputable abbrev ZI:=@Nat.lt_of_lt_of_le
noncomputable abbrev ZJ:=@List.getElem?_append_right
noncomputable abbrev ZK:=@if_false
noncomputable abbrev ZL:=@List.getElem?_of_mem
noncomputable abbrev ZM:=@List.getElem?_map
noncomputable abbrev ZN:=@List.find?_cons
noncomputable abbrev ZO:=@List.length_range
noncomputable abbrev ZP:=@PySem.wpAny_call_entry
noncomputable abbrev ZQ:=@Array.getElem?_eq_some_iff
noncomputable abbrev ZR:=@List.mem_append
noncomputable abbrev ZS:=@PySem.wpAny_callSpecial?_slot
noncomputable abbrev ZT:=@Array.getElem?_toList
noncomputable abbrev ZU:=@PySem.wpAny_newObj_type
noncomputable abbrev ZV:=@List.mem_singleton
noncomputable abbrev ZW:=@Option.some.inj
noncomputable abbrev ZX:=@PyProof.Rows.wpS_bind
noncomputable abbrev ZY:=@Nat.le_trans
noncomputable abbrev ZZ:=@List.lookup_cons
noncomputable abbrev Z0:=@List.getElem?_set_ne
noncomputable abbrev Z1:=@PyProof.Rows.callWith_type1
noncomputable abbrev Z2:=@List.map_map
noncomputable abbrev Z3:=@List.mem_append_right
noncomputable abbrev Z4:=@List.take_length
noncomputable abbrev Z5:=@Int.toNat_natCast
noncomputable abbrev Z6:=@List.mem_range
noncomputable abbrev Z7:=@beq_self_eq_true
noncomputable abbrev Z8:=@List.all_eq_true
noncomputable abbrev Z9:=@beq_eq_false_iff_ne
noncomputable abbrev Xa:=@PySem.Heap.SameBut.update
noncomputable abbrev Xb:=@PySem.Heap.get?_update_self
noncomputable abbrev Xd:=@Array.getD_eq_getD_getElem?
noncomputable abbrev Xe:=@PySem.wpAny_truthy_bool
noncomputable abbrev Xf:=@List.nodup_cons
noncomputable abbrev Xg:=@Int.mul_le_mul_of_nonneg_right
noncomputable abbrev Xh:=@List.getElem?_set_self
noncomputable abbrev Xi:=@List.drop_eq_getElem_cons
noncomputable abbrev Xj:=@if_true
noncomputable abbrev Xk:=@PySem.Heap.size_push
noncomputable abbrev Xl:=@PySem.wpAny_Call_Name_kw
noncomputable abbrev Xm:=@congrArg
noncomputable abbrev Xn:=@PyProof.Rows.wpS_pure
noncomputable abbrev Xo:=@List.prefix_refl
noncomputable abbrev Xp:=@List.getElem_mem
noncomputable abbrev Xq:=@Nat.zero_add
noncomputable abbrev Xr:=@PySem.wpAny_field
noncomputable abbrev Xs:=@Nat.zero_le
noncomputable abbrev Xt:=@List.filterMap_cons
noncomputable abbrev Xu:=@PySem.wpAny_mono
noncomputable abbrev Xv:=@Classical.byContradiction
noncomputable abbrev Xw:=@Nat.lt_succ_self
noncomputable abbrev Xx:=@PySem.Around.under_plainId
noncomputable abbrev Xy:=@PySem.wpAny_setState_of
noncomputable abbrev Xz:=@List.append_nil
noncomputable abbrev XA:=@List.map_append
noncomputable abbrev XB:=@Nat.lt_irrefl
noncomputable abbrev XC:=@PySem.wpAny_holding
noncomputable abbrev XD:=@List.length_take
noncomputable abbrev XE:=@List.cons_append
noncomputable abbrev XG:=@List.length_singleton
noncomputable abbrev XH:=@PySem.Obj.data_mapFields
noncomputable abbrev XI:=@PyProof.Rows.slot_tuple_getitem
noncomputable abbrev XJ:=@PySem.codeAny_builtin
noncomputable abbrev XL:=@Array.getElem_toList
noncomputable abbrev XM:=@PySem.F.slot_dict_valueiterator_next
noncomputable abbrev XN:=@List.length_set
noncomputable abbrev XO:=@Int.ofNat_le
noncomputable abbrev XQ:=@decide_eq_true_eq
noncomputable abbrev XR:=@Nat.lt_succ_of_lt
noncomputable abbrev XS:=@List.any_cons
noncomputable abbrev XT:=@PySem.wpAny_attempt
noncomputable abbrev XU:=@List.getElem?_replicate
noncomputable abbrev XV:=@PySem.F.slot_dict_keyiterator_next
noncomputable abbrev XX:=@Array.getElem?_eq_none
noncomputable abbrev XY:=@PySem.Calls.spliced_cons
noncomputable abbrev XZ:=@PyProof.Rows.F.plain_set_update_loop
noncomputable abbrev X0:=@PySem.wpAny_passesOwn
noncomputable abbrev X1:=@Bool.eq_iff_iff
noncomputable abbrev X2:=@List.length_nil
noncomputable abbrev X3:=@List.lookup_cons_self
noncomputable abbrev X4:=@List.getElem?_eq_none
noncomputable abbrev X5:=@List.length_filter_le
noncomputable abbrev X6:=@PySem.F.slot_tuple_iterator_next
noncomputable abbrev X7:=@Bool.not_true
noncomputable abbrev X8:=@PySem.Calls.spliced_nil
noncomputable abbrev X9:=@List.mem_append_left
noncomputable abbrev Qa:=@List.pairwise_iff_getElem
noncomputable abbrev Qb:=@PySem.sizeLine_eq
noncomputable abbrev Qc:=@PySem.wpAny_of_eq
noncomputable abbrev Qd:=@PySem.wpAny_setField
noncomputable abbrev Qe:=@Nat.le_of_lt
noncomputable abbrev Qf:=@Nat.ne_of_gt
noncomputable abbrev Qg:=@Nat.succ_pos
noncomputable abbrev Qh:=@PySem.mem_of_lookup
noncomputable abbrev Qi:=@List.length_eq_zero_iff
noncomputable abbrev Qj:=@List.mem_filter
noncomputable abbrev Qk:=@List.mem_filterMap
noncomputable abbrev Ql:=@PyProof.Rows.callWith_builtin1
noncomputable abbrev Qm:=@PySem.wpAny_setField_rec
noncomputable abbrev Qn:=@PySem.wpAny_pyIter_tuple
noncomputable abbrev Qo:=@Int.emod_lt_of_pos
noncomputable abbrev Qp:=@List.foldl_cons
noncomputable abbrev Qq:=@List.nil_append
noncomputable abbrev Qr:=@beq_false_of_ne
noncomputable abbrev Qs:=@PySem.W.kia_one
noncomputable abbrev Qt:=@Int.natCast_nonneg
noncomputable abbrev Qu:=@PySem.Heap.get?_update_other
noncomputable abbrev Qv:=@PySem.Value.isInt_shape
noncomputable abbrev Qw:=@List.nodup_append
noncomputable abbrev Qx:=@bne_self_eq_false
noncomputable abbrev Qy:=@Int.ediv_one
noncomputable abbrev Qz:=@List.map_nil
noncomputable abbrev QA:=@Nat.lt_trans
noncomputable abbrev QB:=@PySem.Obj.isFreed_of_fields
noncomputable abbrev QC:=@PySem.F.slot_enumerate_next
noncomputable abbrev QD:=@PySem.wpAny_forIn_list
noncomputable abbrev QE:=@PySem.wpAny_isInstance
noncomputable abbrev QF:=@PySem.wpAny_askSetting
noncomputable abbrev QG:=@List.getElem_map
noncomputable abbrev QH:=@PySem.plainId_quiet
noncomputable abbrev QI:=@List.exists_cons_of_ne_nil
noncomputable abbrev QJ:=@Array.perm_iff_toList_perm
noncomputable abbrev QK:=@PySem.F.excBase_ValueError
noncomputable abbrev QL:=@Nat.le_succ
noncomputable abbrev QM:=@Int.le_refl
noncomputable abbrev QN:=@Nat.lt_succ_iff
noncomputable abbrev QO:=@Int.emod_nonneg
noncomputable abbrev QP:=@List.getElem?_take_of_lt
noncomputable abbrev QQ:=@PySem.F.args_tuple_add_2
noncomputable abbrev QR:=@PySem.tupleKind_room_in1
noncomputable abbrev QS:=@PyProof.Rows.F.entry_set_update_loop
noncomputable abbrev QT:=@PyProof.Rows.wpS_forRange
noncomputable abbrev QU:=@List.nodup_nil
noncomputable abbrev QV:=@beq_iff_eq
noncomputable abbrev QW:=@PySem.wpAny_rule
noncomputable abbrev QX:=@PySem.F.entry_tuple_add
noncomputable abbrev QY:=@Option.isSome_map
noncomputable abbrev QZ:=@PySem.Obj.cls_mapFields
noncomputable abbrev Q0:=@PySem.wpAny_pyIter_slot
noncomputable abbrev Q2:=@List.ext_getElem?
noncomputable abbrev Q3:=@PySem.F.slot_tuple_add
noncomputable abbrev Q4:=@PySem.richCompare_meets_room
noncomputable abbrev Q5:=@PySem.Paired.length
noncomputable abbrev Q6:=@List.cons.inj
noncomputable abbrev Q7:=@List.any_eq_true
noncomputable abbrev Q8:=@List.take_succ_eq_append_getElem
noncomputable abbrev Q9:=@List.contains_iff_mem
noncomputable abbrev Wa:=@PySem.wpAny_execs_nil
noncomputable abbrev Wb:=@PySem.codeAny_mono
noncomputable abbrev Wc:=@PySem.wpAny_typeOf
noncomputable abbrev Wd:=@Nat.mod_lt
noncomputable abbrev We:=@Nat.sub_self
noncomputable abbrev Wf:=@List.mem_of_mem_take
noncomputable abbrev Wg:=@List.set_set
noncomputable abbrev Wh:=@List.map_congr_left
noncomputable abbrev Wi:=@PySem.wpAny_seqItems
noncomputable abbrev Wj:=@PySem.isSubtype_stop
noncomputable abbrev Wl:=@Int.mul_le_mul
noncomputable abbrev Wm:=@PySem.W.of_hideAll
noncomputable abbrev Wn:=@of_decide_eq_false
noncomputable abbrev Wo:=@List.pairwise_cons
noncomputable abbrev Wp:=@List.all_cons
noncomputable abbrev Wq:=@PySem.W.mg_of
noncomputable abbrev Wr:=@List.take_sublist
noncomputable abbrev Ws:=@Nat.lt_trichotomy
noncomputable abbrev Wt:=@List.pairwise_map
noncomputable abbrev Wu:=@Nat.lt_of_sub_pos
noncomputable abbrev Wv:=@List.all_map
set_option Elab.async false
set_option linter.all false
set_option maxRecDepth 100000
namespace L2
open PySem PySem.Spec PyProof.Rows
abbrev Key:=Sum Int Str
noncomputable def gu:Key->Value->Bool
 | .inl k,v=>Value.isInt k v
 | .inr x,v=>Value.isStrOf x v
noncomputable def CW (w:World):Key->Int
 | .inl k=>hashInt k
 | .inr x=>hashStr w x
theorem dF:∀ {k:Key} {v:Value},gu k v=true->(∃ i t,k=Sum.inl i/\v=Value.int i t)\/(∃ x t,k=Sum.inr x/\v=Value.str x t)
 | .inl i,v,h=>by
  obtain ⟨t,e⟩:=Qv (k:=i) (v:=v) h
  exact .inl ⟨i,t,rfl,e⟩
 | .inr x,v,h=>by
  obtain ⟨t,e⟩:=Value.isStrOf_shape (x:=x) (v:=v) h
  exact .inr ⟨x,t,rfl,e⟩
theorem CQ (i:Int) (t:Tok):gu (.inl i) (.int i t)=true:=by simp [gu,Value.isInt]
theorem AA (x:Str) (t:Tok):gu (.inr x) (.str x t)=true:=by simp [gu,Value.isStrOf]
theorem za (a b:Int):decide ((Sum.inl a:Key)=Sum.inl b)=(a==b):=by
 by_cases e:a=b
 ·subst e; simp
 ·have h:¬ (Sum.inl a:Key)=Sum.inl b:=fun q=>e (Sum.inl.inj q)
  rw [Zz h]
  exact (Z9.mpr e).symm
theorem Bq (a b:Str):decide ((Sum.inr a:Key)=Sum.inr b)=decide (a=b):=by
 by_cases e:a=b
 ·subst e; simp
 ·have h:¬ (Sum.inr a:Key)=Sum.inr b:=fun q=>e (Sum.inr.inj q)
  rw [Zz h,Zz e]
theorem BB (a:Int) (b:Str):decide ((Sum.inl a:Key)=Sum.inr b)=false:=Zz (fun q=>nomatch q)
theorem AU (a:Str) (b:Int):decide ((Sum.inr a:Key)=Sum.inl b)=false:=Zz (fun q=>nomatch q)
noncomputable def bF (prog:Program) (w:World):PySem.KeyKind prog w Key where
 is:=gu
 hash:=CW w
 inj:=fun v a b ha hb=>by
  rcases dF ha with ⟨i,t,rfl,rfl⟩|⟨x,t,rfl,rfl⟩
  ·rcases dF hb with ⟨j,u,rfl,e⟩|⟨y,u,rfl,e⟩
   ·injection e with e1 _; rw [e1]
   ·exact nomatch e
  ·rcases dF hb with ⟨j,u,rfl,e⟩|⟨y,u,rfl,e⟩
   ·exact nomatch e
   ·injection e with e1 _; rw [e1]
 byValue:=fun k v h=>by
  rcases dF h with ⟨i,t,rfl,rfl⟩|⟨x,t,rfl,rfl⟩ <;> rfl
 pyHash:=fun hv h=>by
  rcases dF hv with ⟨i,t,rfl,rfl⟩|⟨x,t,rfl,rfl⟩
  ·exact wpAny_pyHash_int h
  ·exact wpAny_pyHash_str h
 eqBool:=fun hu hv h=>by
  rcases dF hu with ⟨i,t,rfl,rfl⟩|⟨x,t,rfl,rfl⟩
  ·rcases dF hv with ⟨j,u,rfl,rfl⟩|⟨y,u,rfl,rfl⟩
   ·rw [za] at h; exact wpAny_eqBool_int h
   ·rw [BB] at h; exact SeqAt.EqAt.int_str i t y u _ _ _ _ h
  ·rcases dF hv with ⟨j,u,rfl,rfl⟩|⟨y,u,rfl,rfl⟩
   ·rw [AU] at h; exact SeqAt.EqAt.str_int x t j u _ _ _ _ h
   ·rw [Bq] at h; exact wpAny_eqBool_str h
 «strs»:=fun k x t v h=>by
  rcases dF h with ⟨i,u,rfl,e⟩|⟨y,u,rfl,e⟩
  ·exact nomatch e
  ·injection e with e1 _
   subst e1
   cases v <;> rfl
theorem y_ (prog:Program) (w:World) (i:Int) (t:Tok):(bF prog w).is (.inl i) (.int i t)=true:=CQ i t
theorem x_ (prog:Program) (w:World) (x:Str) (t:Tok):(bF prog w).is (.inr x) (.str x t)=true:=AA x t
end L2
namespace L2
open PySem PySem.Spec PyProof.Rows
inductive V where
 | non|bl (b:Bool)|int (i:Int)|str (x:Str)|byt (b:Array UInt8)|flt (b:UInt64)|ref (a:Addr)|ty (n:String)
 deriving DecidableEq
noncomputable def RelV:V->Value->Prop
 | .non,u=>u=Value.none
 | .bl b,u=>u=Value.bool b
 | .int i,u=>∃ t,u=Value.int i t
 | .str x,u=>∃ t,u=Value.str x t
 | .byt b,u=>∃ t,u=Value.bytes b t
 | .flt b,u=>∃ t,u=Value.float b t
 | .ref a,u=>u=Value.ref a
 | .ty n,u=>u=Value.type n
abbrev Vals:List V->List Value->Prop:=Paired RelV
theorem Vals.length {xs:List V} {us:List Value} (r:Vals xs us):xs.length=us.length:=Q5 r
theorem Vals.get:∀ {xs:List V} {us:List Value} {i:Nat} {x:V},Vals xs us->xs[i]?=some x->∃ u,us[i]?=some u/\RelV x u
 | _,_,_,_,.nil,e=>by simp at e
 | _,_,0,_,.cons r _,e=>by simp at e; subst e; exact ⟨_,rfl,r⟩
 | _,_,i+1,x,.cons _ t,e=>by
  obtain ⟨u,h1,h2⟩:=Vals.get (i:=i) (x:=x) t (by simpa using e)
  exact ⟨u,by simpa using h1,h2⟩
theorem Vals.append:∀ {xs ys:List V} {us ws:List Value},Vals xs us->Vals ys ws->Vals (xs++ys) (us++ws)
 | _,_,_,_,.nil,s=>s
 | _,_,_,_,.cons r t,s=>.cons r (Vals.append t s)
theorem Vals.take:∀ {xs:List V} {us:List Value} (n:Nat),Vals xs us->Vals (xs.take n) (us.take n)
 | _,_,0,_=>.nil
 | _,_,_+1,.nil=>.nil
 | _,_,n+1,.cons r t=>.cons r (Vals.take n t)
theorem Vals.drop:∀ {xs:List V} {us:List Value} (n:Nat),Vals xs us->Vals (xs.drop n) (us.drop n)
 | _,_,0,r=>r
 | _,_,_+1,.nil=>.nil
 | _,_,n+1,.cons _ t=>Vals.drop n t
noncomputable def dc:Option V->Option Value->Prop
 | some v,some u=>RelV v u
 | none,none=>True
 | _,_=>False
noncomputable def KV {κ:Type}:List (κ × V)->List (κ × Value)->Prop:=Paired fun (p:κ × V) (q:κ × Value)=>p.1=q.1/\RelV p.2 q.2
noncomputable def kV:Key->V
 | .inl i=>.int i
 | .inr x=>.str x
inductive HO where
 /-- a list -/
 | lst (xs:List V)
 /-- a tuple (never changes) -/
 | tup (xs:List V)
 /-- a dict whose keys are ints and texts; one whose keys are tuples of ints and texts (the empty one is both) -/
 | dK (kvs:List (Key × V))|dT (kvs:List (List Key × V))
 /-- a set of ints: its members,its size -/
 | set (S:Int->Bool) (n:Nat)
 /-- an instance of the class at C,its dict at dx,its attributes -/
 | ins (C dx:Addr) (fs:List (Str × V))
 /-- the dict of the instance at x -/
 | own (x:Addr)
 /-- the dict of an exception -/
 | xd (fs:List (Str × V))
 /-- a bound method,f of x -/
 | met (f x:Addr)
 /-- a range object lo,lo+1,.. below hi -/
 | rng (lo hi:Int)
 /-- a thing that is known to the object (the script; a dict while a loop walks it): read,never written while it is so -/
 | frz (o:Obj) (u:HO)
 /-- a code object's table -/
 | tbl (ps:Array Value)
 /-- any other thing,by what is true of its one object (a def of one's own: SetO a S n:=HO.ext fun h=>..) -/
 | ext (φ:Heap->Prop)
abbrev Hp:=Addr->Option HO
noncomputable def upd (H:Hp) (a:Addr) (o:HO):Hp:=fun b=>if b=a then some o else H b
theorem cg {H:Hp} {a:Addr} {o:HO}:upd H a o a=some o:=by unfold upd; rw [Ze rfl]
theorem aA {H:Hp} {a b:Addr} {o:HO} (h:b≠a):upd H a o b=H b:=by unfold upd; rw [Zf h]
theorem kH {H:Hp} {a b:Addr} {o u:HO} (h:H a=some o) (h':H b=some u) (d:o≠u):a≠b:=by
 intro e; subst e; rw [h] at h'; exact d (ZW h')
theorem bu {H:Hp} {a b:Addr} {o:HO} (h:H a=some o) (h':H b=none):a≠b:=by
 intro e; subst e; rw [h] at h'; cases h'
section
variable (P:Program) (w:World)
noncomputable def aS (H:Hp) (h:Heap) (a:Addr):HO->Prop
 | .lst xs=>xs.length<=sizeLine/\∃ (its:List Value) (n:Nat),Vals xs its/\h.get? a=some { cls:=.type "list",data:=.seq its.toArray n }
 | .tup xs=>xs.length<=sizeLine/\∃ its:List Value,Vals xs its/\IsTup h a its.toArray
 | .dK kvs=>kvs.length<=sizeLine/\(a==sysModules)=false/\∃ vs,KV kvs vs/\h.DictOf (bF P w) a vs
 | .dT kvs=>kvs.length<=sizeLine/\(a==sysModules)=false/\∃ xs:List (List Key × Addr × Value),
   Paired (fun (p:List Key × V) (q:List Key × Addr × Value)=>p.1=q.1/\H q.2.1=some (.tup (p.1.map kV))/\RelV p.2 q.2.2) kvs xs /\
   ∃ o es ep,h.get? a=some o/\o.ExactDict/\o.data=.dict es ep/\es.toList=xs.map (entryOfKey (tupleKind (bF P w)))/\(xs.map (·.1)).Nodup
 | .set S n=>h.SetOf (intKind P w) a S n
 | .ins C dx fs=>H dx=some (.own a)/\fs.length<=1000/\dx≠a/\h.get? a=some (PySem.W.instObj C dx) /\
   ∃ mA,h.Ns1 dx mA/\(∀ f,dc (fs.lookup f) (mA f))/\PySem.Within mA (fs.map (·.1))
 | .own _=>∃ o,h.get? a=some o
 | .xd fs=>∃ mA,h.Ns1 a mA/\∀ f,dc (fs.lookup f) (mA f)
 | .rng lo hi=>∃ t u v,h.get? a=some { cls:=.type "range",data:=.fields #[.int lo t,.int hi u,.int 1 v] }
 | .frz o u=>h.get? a=some o/\aS H h a u
 | .tbl ps=>h.get? a=some { cls:=.none,data:=.fields ps }
 | .met f x=>h.get? a=some (PySem.W.methodObj (.ref f) (.ref x))
 | .ext φ=>φ h/\(∃ o,h.get? a=some o)/\∀ h1 h2:Heap,φ h1->(∀ o,h1.get? a=some o->h2.get? a=some o)->φ h2
noncomputable def HOk (H:Hp) (h:Heap):Prop:=∀ a o,H a=some o->aS P w H h a o
end
section
variable {P:Program} {w:World} {H H':Hp} {h h':Heap} {a:Addr} {o:HO}
theorem aS.lt (x:aS P w H h a o):a < h.objs.size:=by
 cases o with
 | lst xs=>obtain ⟨_,_,_,_,e⟩:=x; exact Zs e
 | tup xs=>obtain ⟨_,_,_,p⟩:=x; exact p.lt
 | dK kvs=>obtain ⟨_,_,_,_,o,_,_,e,_⟩:=x; exact Zs e
 | dT kvs=>obtain ⟨_,_,_,_,o,_,_,e,_⟩:=x; exact Zs e
 | set S n=>obtain ⟨o,_,_,_,e,_⟩:=x; exact Zs e
 | ins C dx fs=>obtain ⟨_,_,_,e,_⟩:=x; exact Zs e
 | own y=>obtain ⟨_,e⟩:=x; exact Zs e
 | xd fs=>obtain ⟨_,⟨_,_,_,e,_⟩,_⟩:=x; exact Zs e
 | rng lo hi=>obtain ⟨_,_,_,e⟩:=x; exact Zs e
 | frz ob u=>obtain ⟨e,_⟩:=x; exact Zs e
 | tbl ps=>exact Zs (show h.get? a=some _ from x)
 | met f y=>exact Zs (show h.get? a=some _ from x)
 | ext φ=>obtain ⟨_,⟨_,e⟩,_⟩:=x; exact Zs e
theorem Paired.mJ {α β:Type} {F G:α->β->Prop}:∀ {l₁:List α} {l₂:List β},Paired F l₁ l₂->(∀ a b,F a b->G a b)->Paired G l₁ l₂
 | _,_,.nil,_=>.nil
 | _,_,.cons r t,f=>.cons (f _ _ r) (Paired.mJ t f)
theorem aS.stay (x:aS P w H h a o) (k:∀ b u,(b=a\/H b=some (.own a))->h.get? b=some u->h'.get? b=some u)
  (ho:∀ b,H b=some (.own a)->H' b=some (.own a)) (ht:∀ b xs,H b=some (.tup xs)->H' b=some (.tup xs)):aS P w H' h' a o:=by
 induction o with
 | lst xs=>obtain ⟨z,its,n,r,e⟩:=x; exact ⟨z,its,n,r,k _ _ (.inl rfl) e⟩
 | tup xs=>obtain ⟨z,its,r,ob,e,c⟩:=x; exact ⟨z,its,r,ob,k _ _ (.inl rfl) e,c⟩
 | dK kvs=>obtain ⟨z,y,vs,r,ob,es,ep,e,c⟩:=x; exact ⟨z,y,vs,r,ob,es,ep,k _ _ (.inl rfl) e,c⟩
 | dT kvs =>
  obtain ⟨z,y,xs,r,ob,es,ep,e,c⟩:=x
  exact ⟨z,y,xs,Paired.mJ r fun p q z=>⟨z.1,ht _ _ z.2.1,z.2.2⟩,ob,es,ep,k _ _ (.inl rfl) e,c⟩
 | set S n=>obtain ⟨ob,es,ep,t,e,c⟩:=x; exact ⟨ob,es,ep,t,k _ _ (.inl rfl) e,c⟩
 | ins C dx fs =>
  obtain ⟨d,z,ne,e,mA,⟨od,es,ep,e2,c⟩,r⟩:=x
  exact ⟨ho _ d,z,ne,k _ _ (.inl rfl) e,mA,⟨od,es,ep,k _ _ (.inr d) e2,c⟩,r⟩
 | own y=>obtain ⟨ob,e⟩:=x; exact ⟨ob,k _ _ (.inl rfl) e⟩
 | xd fs=>obtain ⟨mA,⟨od,es,ep,e,c⟩,r⟩:=x; exact ⟨mA,⟨od,es,ep,k _ _ (.inl rfl) e,c⟩,r⟩
 | rng lo hi=>obtain ⟨t,u,v,e⟩:=x; exact ⟨t,u,v,k _ _ (.inl rfl) e⟩
 | frz ob u ih=>obtain ⟨e,q⟩:=x; exact ⟨k _ _ (.inl rfl) e,ih q⟩
 | tbl ps =>
  have e:h.get? a=some { cls:=.none,data:=.fields ps }:=x
  show h'.get? a=some { cls:=.none,data:=.fields ps }
  exact k a _ (.inl rfl) e
 | met f y =>
  have e:h.get? a=some (PySem.W.methodObj (.ref f) (.ref y)):=x
  show h'.get? a=some (PySem.W.methodObj (.ref f) (.ref y))
  exact k a _ (.inl rfl) e
 | ext φ=>obtain ⟨p,⟨o,e⟩,st⟩:=x; exact ⟨st _ _ p fun o q=>k _ _ (.inl rfl) q,⟨o,k _ _ (.inl rfl) e⟩,st⟩
theorem HOk.lt (x:HOk P w H h) (e:H a=some o):a < h.objs.size:=(x a o e).lt
theorem HOk.fresh (x:HOk P w H h) (e:h.objs.size<=a):H a=none:=by
 cases q:H a with
 | none=>rfl
 | some u=>exact absurd (ZI (x.lt q) e) (XB _)
theorem HOk.kept (x:HOk P w H h) (k:∀ b u,h.get? b=some u->h'.get? b=some u):HOk P w H h':=fun a o e =>
 (x a o e).stay (fun b u _ q=>k b u q) (fun _ q=>q) fun _ _ q=>q
theorem HOk.laid (x:HOk P w H h) (k:∀ b u,h.get? b=some u->h'.get? b=some u) (hp:h.objs.size<=a) (new:aS P w (upd H a o) h' a o):HOk P w (upd H a o) h':=fun b u e=>by
 have hn:=x.fresh hp
 by_cases hb:b=a
 ·subst hb; rw [cg] at e; cases e; exact new
 ·rw [aA hb] at e
  exact (x b u e).stay (fun c v _ q=>k c v q) (fun c q=>by rw [aA (bu q hn)]; exact q) fun c xs q=>by rw [aA (bu q hn)]; exact q
end
noncomputable def Rd (H:Hp) (a:Addr) (u:HO):Prop:=H a=some u\/∃ o,H a=some (.frz o u)
theorem Rd.ok {P:Program} {w:World} {H:Hp} {h:Heap} {a:Addr} {u:HO} (r:Rd H a u) (x:HOk P w H h):aS P w H h a u:=by
 rcases r with r|⟨o,r⟩
 ·exact x a u r
 ·obtain ⟨_,q⟩:=x a _ r
  exact q
noncomputable def Mut:Option HO->Prop
 | some (.lst _)=>True
 | some (.dK _)=>True
 | some (.dT _)=>True
 | some (.set _ _)=>True
 | some (.ins _ _ _)=>True
 | some (.ext _)=>True
 | _=>False
section
variable {P:Program} {w:World} {H:Hp} {h h':Heap} {x e:Addr} {o':HO}
theorem HOk.write (ok:HOk P w H h) (mu:Mut (H x)) (he:e=x\/H e=some (.own x)) (k:∀ b u,b≠e->h.get? b=some u->h'.get? b=some u) (heo:∃ u,h'.get? e=some u)
  (new:aS P w (upd H x o') h' x o'):HOk P w (upd H x o') h':=fun b u q=>by
 have nown:∀ c y,H c=some (.own y)->c≠x:=fun c y r z=>by subst z; rw [r] at mu; exact mu
 have ntup:∀ c xs,H c=some (.tup xs)->c≠x:=fun c xs r z=>by subst z; rw [r] at mu; exact mu
 by_cases hb:b=x
 ·subst hb; rw [cg] at q; cases q; exact new
 ·rw [aA hb] at q
  by_cases hbe:b=e
  ·have q':H b=some (.own x):=by
    rcases he with z|z
    ·exact absurd (hbe.trans z) hb
    ·rw [hbe]; exact z
   rw [q] at q'; cases q'
   obtain ⟨v,hv⟩:=heo
   exact ⟨v,by rw [hbe]; exact hv⟩
  ·refine (ok b u q).stay (fun c v hc r=>k c v ?_ r) (fun c r=>by rw [aA (nown c b r)]; exact r) fun c xs r=>by rw [aA (ntup c xs r)]; exact r
   rcases hc with rfl|hc
   ·exact hbe
   ·rintro rfl
    rcases he with z|z
    ·exact nown c b hc z
    ·rw [hc] at z; cases z; exact hb rfl
end
structure Un (fs ex:List Addr) (H H':Hp) (h h':Heap):Prop where
 keep:∀ b o,h.get? b=some o->H b=none->b ∉ fs->b ∉ ex->h'.get? b=some o
 slot:∀ b o,h.get? b=some o->H b=none->b∈fs->b ∉ ex->∃ sl,h'.get? b=some { o with slots:=sl }
 free:∀ b o,h.get? b=some o->H b=none->b ∉ ex->H' b=none
 there:∀ b o,h.get? b=some o->b ∉ ex->∃ o',h'.get? b=some o'
 tups:∀ b xs,H b=some (.tup xs)->H' b=some (.tup xs)
 frzs:∀ b o u,H b=some (.frz o u)->H' b=some (.frz o u)
 tbls:∀ b ps,H b=some (.tbl ps)->∃ more,H' b=some (.tbl (ps++more))
section
variable {fs fs' ex ex':List Addr} {H H1 H2:Hp} {h h1 h2 h':Heap} {a x e:Addr} {o:HO}
theorem Un.any (u:Un fs ex H H1 h h1) {b:Addr} {ob:Obj} (q:h.get? b=some ob) (n:H b=none) (hx:b ∉ ex):∃ sl,h1.get? b=some { ob with slots:=sl }:=by
 by_cases hb:b∈fs
 ·exact u.slot b ob q n hb hx
 ·exact ⟨ob.slots,u.keep b ob q n hb hx⟩
theorem Un.kept (k:∀ b u,h.get? b=some u->h'.get? b=some u):Un fs ex H H h h' :=
 ⟨fun b ob q _ _ _=>k b ob q,fun b ob q _ _ _=>⟨ob.slots,k b ob q⟩,fun _ _ _ n _=>n,fun b ob q _=>⟨ob,k b ob q⟩,fun _ _ q=>q,fun _ _ _ q=>q,fun _ ps q=>⟨#[],by rw [q]; simp⟩⟩
theorem Un.refl:Un fs ex H H h h:=Un.kept fun _ _ q=>q
theorem Un.laid (k:∀ b u,h.get? b=some u->h'.get? b=some u) (hp:h.objs.size<=a) (hn:H a=none):Un fs ex H (upd H a o) h h' where
 keep:=fun b u q _ _ _=>k b u q
 slot:=fun b u q _ _ _=>⟨u.slots,k b u q⟩
 free:=fun b u q n _=>by rw [aA (ZH (ZI (Zs q) hp))]; exact n
 there:=fun b u q _=>⟨u,k b u q⟩
 tups:=fun b xs q=>by rw [aA (bu q hn)]; exact q
 frzs:=fun b u xs q=>by rw [aA (bu q hn)]; exact q
 tbls:=fun b ps q=>⟨#[],by rw [aA (bu q hn),q]; simp⟩
theorem Un.write (mu:Mut (H x)) (he:e=x\/H e=some (.own x)) (k:∀ b u,b≠e->h.get? b=some u->h'.get? b=some u) (heo:∃ u,h'.get? e=some u):Un fs ex H (upd H x o) h h':=by
 have hx:∀ b,H b=none->b≠x:=fun b n z=>by subst z; rw [n] at mu; exact mu
 have hb:∀ b,H b=none->b≠e:=fun b n z=>by
  subst z
  rcases he with r|r
  ·exact hx b n r
  ·rw [n] at r; cases r
 have hm:∀ b u,H b=some u->¬ Mut (some u)->b≠x:=fun b u q nm z=>by subst z; rw [q] at mu; exact nm mu
 refine ⟨fun b u q n _ _=>k b u (hb b n) q,fun b u q n _ _=>⟨u.slots,k b u (hb b n) q⟩,fun b u q n _=>by rw [aA (hx b n)]; exact n,fun b u q _=>?_,
  fun b xs q=>by rw [aA (hm b _ q fun z=>z)]; exact q,fun b u xs q=>by rw [aA (hm b _ q fun z=>z)]; exact q,fun b ps q=>⟨#[],by rw [aA (hm b _ q fun z=>z),q]; simp⟩⟩
 by_cases hbe:b=e
 ·subst hbe; exact heo
 ·exact ⟨u,k b u hbe q⟩
end
noncomputable def trk (h:Heap) (H:Hp):List Addr:=(List.range h.objs.size).filter fun a=>(H a).isSome
noncomputable def dJ (h:Heap) (H:Hp):Heap:=PySem.W.hideAll h (trk h H)
theorem CM (h:Heap) (H:Hp):(dJ h H).objs.size=h.objs.size:=PySem.W.hideAll_size _ _
theorem yG {h:Heap} {H:Hp} {b:Addr} {o:Obj} (e:h.get? b=some o) (n:H b=none):(dJ h H).get? b=some o :=
 PySem.W.hideAll_get _ e fun hm=>by
  have q:(H b).isSome=true:=(Qj.mp hm).2
  rw [n] at q; simp at q
theorem FJ {h:Heap} {H:Hp} {b:Addr} {o:Obj} (e:(dJ h H).get? b=some o):h.get? b=some o/\H b=none:=by
 have e':h.get? b=some o:=Wm (trk h H) e
 refine ⟨e',?_⟩
 cases q:H b with
 | none=>rfl
 | some x =>
  have hm:b∈trk h H:=Qj.mpr ⟨Z6.mpr (Zs e'),by simp [q]⟩
  have z:(dJ h H).get? b=none:=PySem.W.hideAll_none (trk h H) hm
  rw [z] at e; cases e
end L2
namespace L2
open PySem PySem.Spec PyProof.Rows
structure Mod (K:PySem.W.Frag) (mg:Str->Option Value) (base:Heap):Prop where
 kin:K.In base
 glob:base.Ns mainGlobals mg
 blt:∃ mb,base.Ns builtinsNs mb/\∀ x:Str,x≠"__name__"->mb x=bootBuiltins x
 nolimit:base.NoLimit
structure Cx where
 prog:Program
 w:World
 K:PySem.W.Frag
 mg:Str->Option Value
 base:Heap
 A:Around
 N:List Str
 s₀:Shared
 H₀:Hp
 env:Env
 outer:List Env
 stack:List Env
 ex:List Addr
 fn:Str->Bool
 calm:Bool
 pn:List (Addr × Obj)
 xe:Value->Shared->Prop
noncomputable def frs (l:List Env):List Addr:=l.filterMap (·.frame)
abbrev Cx.fs (X:Cx):List Addr:=frs X.outer
noncomputable def Vis (sc:Scope) (x:Str):Prop:=sc.names.lookup x=some .local\/sc.names.lookup x=some .cell\/sc.names.lookup x=some .free
noncomputable def Loc (sc:Scope) (x:Str):Prop:=sc.names.lookup x=some .local\/sc.names.lookup x=some .cell
noncomputable def Look (env:Env) (h:Heap) (m:Str->Option Value) (x:Str) (u:Value):Prop :=
 (env.kindOf x=some .local/\m x=some u)\/((env.kindOf x=some .cell\/env.kindOf x=some .free)/\∃ c,env.cells.lookup x=some c/\h.IsCell c (some u))
structure Cx.Ok (X:Cx):Prop where
 mod:Mod X.K X.mg X.base
 kind:X.env.scope.kind=.function
 glob:X.env.globals=mainGlobals
 blt:X.env.builtins=builtinsNs
 above:X.s₀.heap.objs.size<=X.env.locals
 inj:∀ x y c,X.env.cells.lookup x=some c->X.env.cells.lookup y=some c->x=y
 has:∀ x,(X.env.kindOf x=some .cell\/X.env.kindOf x=some .free)->∃ c,X.env.cells.lookup x=some c
 cab:∀ x c,X.fn x=true->X.env.cells.lookup x=some c->X.s₀.heap.objs.size<=c
 hd:X.calm=true->X.A.handled=none
 frames:X.A.frames=some X.stack
 stk:X.stack=X.outer\/(X.stack=X.env::X.outer/\X.env.frame=some X.env.locals)
 exf:∀ b∈X.ex,b≠X.env.locals/\∀ x c,X.env.cells.lookup x=some c->c≠b
 bs:∀ b o,X.base.get? b=some o->X.s₀.heap.get? b=some o/\X.H₀ b=none
 bsz:X.base.objs.size<=X.s₀.heap.objs.size
 noex:∀ b o,X.base.get? b=some o->b ∉ X.ex
 exfs:∀ b∈X.ex,b ∉ X.fs
 c6:X.s₀.heap.FunFrames X.base X.outer
 frf:∀ b∈X.fs,X.H₀ b=none
structure Inv (X:Cx) (pins:List (Addr × Obj)) (σ:List (Option V)) (H:Hp) (s:Shared):Prop where
 ok:X.Ok
 os:s.os=X.s₀.os
 bare:AllBare s.gens
 base:Un X.fs X.ex X.H₀ H X.s₀.heap s.heap
 loc:∃ m,s.heap.Ns X.env.locals m/\∀ (i:Nat) (x:Str) (v:V),X.N[i]?=some x->σ[i]?=some (some v)->Vis X.env.scope x->∃ u,RelV v u/\Look X.env s.heap m x u
 cell:∀ x c,X.env.cells.lookup x=some c->∃ v,s.heap.IsCell c v
 free:H X.env.locals=none
 freeC:∀ x c,X.env.cells.lookup x=some c->H c=none
 pin:∀ p∈X.pn++pins,s.heap.get? p.1=some p.2/\H p.1=none/\p.1≠X.env.locals/\p.1 ∉ X.fs/\∀ v,p.2.data≠.cell v
 hok:HOk X.prog X.w H s.heap
 len:σ.length=X.N.length
section
variable {X:Cx} {pins:List (Addr × Obj)} {σ:List (Option V)} {H H':Hp} {s:Shared} {h':Heap}
theorem Cx.Ok.EU (ok:X.Ok) {b:Addr} {o:Obj} (e:X.base.get? b=some o):b ∉ X.fs:=fun hb=>by
 have:=(ok.c6.mem hb).1
 rw [e] at this; cases this
theorem Inv.bs (I:Inv X pins σ H s):∀ b o,X.base.get? b=some o->s.heap.get? b=some o/\H b=none:=fun b o e =>
 ⟨I.base.keep b o (I.ok.bs b o e).1 (I.ok.bs b o e).2 (I.ok.EU e) (I.ok.noex b o e),I.base.free b o (I.ok.bs b o e).1 (I.ok.bs b o e).2 (I.ok.noex b o e)⟩
theorem Inv.bk (I:Inv X pins σ H s):∀ b o,X.base.get? b=some o->s.heap.get? b=some o:=fun b o e=>(I.bs b o e).1
theorem Inv.mod (I:Inv X pins σ H s):Mod X.K X.mg X.base:=I.ok.mod
theorem Inv.kIn (I:Inv X pins σ H s):X.K.In s.heap:=I.ok.mod.kin.keeps I.bk
theorem Inv.lt (I:Inv X pins σ H s):X.env.locals < s.heap.objs.size:=let ⟨_,hn,_⟩:=I.loc; hn.lt
theorem Inv.sz (I:Inv X pins σ H s):X.s₀.heap.objs.size<=s.heap.objs.size:=ZY I.ok.above (Qe I.lt)
theorem Inv.HP (I:Inv X pins σ H s) {a:Addr} (h:s.heap.objs.size<=a):a ∉ X.fs:=fun hb=>by
 obtain ⟨_,o,ho,_⟩:=I.ok.c6.mem hb
 exact absurd (ZI (Zs ho) (ZY I.sz h)) (XB _)
theorem Inv.cne (I:Inv X pins σ H s):∀ x c,X.env.cells.lookup x=some c->c≠X.env.locals:=fun x c e z=>by
 obtain ⟨v,o,ho,hd⟩:=I.cell x c e
 obtain ⟨m,⟨o',es,ep,ho',hd',_⟩,_⟩:=I.loc
 rw [z,ho'] at ho; cases ho; rw [hd'] at hd; cases hd
theorem Inv.c6 (I:Inv X pins σ H s):s.heap.FunFrames X.base X.outer:=by
 have all:∀ (l:List Env),(∀ b∈frs l,b∈X.fs)->X.s₀.heap.FunFrames X.base l->s.heap.FunFrames X.base l:=by
  intro l
  induction l with
  | nil=>intro _ _; trivial
  | cons env r ih =>
   intro hs hl
   obtain ⟨hk,⟨L,o,hf,hn,ho,hd⟩,hr⟩:=hl
   have hL:L∈X.fs:=hs L (by unfold frs; rw [Xt,hf]; exact Zn)
   obtain ⟨sl,e⟩:=I.base.slot L o ho (I.ok.frf L hL) hL fun z=>I.ok.exfs L z hL
   exact ⟨hk,⟨L,_,hf,hn,e,hd⟩,ih (fun b hb=>hs b (by unfold frs; rw [Xt,hf]; exact Zm _ hb)) hr⟩
 exact all X.outer (fun _ hb=>hb) I.ok.c6
theorem Inv.stack (I:Inv X pins σ H s):s.heap.FunFrames X.base X.stack:=by
 rcases I.ok.stk with e|⟨e,hf⟩
 ·rw [e]; exact I.c6
 ·rw [e]
  obtain ⟨m,hn,_⟩:=I.loc
  refine .cons (by rw [I.ok.kind]; decide) hf hn ?_ I.c6
  exact Heap.get?_none_of_le (ZY I.ok.bsz I.ok.above)
theorem Inv.m9 (I:Inv X pins σ H s):∀ b∈frs X.stack,b∈X.env.locals::X.fs:=fun b hb=>by
 rcases I.ok.stk with e|⟨e,hf⟩
 ·rw [e] at hb; exact Zm _ hb
 ·rw [e] at hb
  unfold frs at hb
  rw [Xt,hf] at hb
  exact hb
theorem Inv.mE (I:Inv X pins σ H s):∀ b∈frs X.stack,H b=none:=fun b hb=>by
 rcases Zt.mp (I.m9 b hb) with e|hb
 ·rw [e]; exact I.free
 ·obtain ⟨_,o,ho,_⟩:=I.ok.c6.mem hb
  exact I.base.free b o ho (I.ok.frf b hb) fun z=>I.ok.exfs b z hb
theorem Inv.step {g':Array GenState} {t':Nat} {d':Drawn} {ch:List Addr} (I:Inv X pins σ H s)
  (hch:∀ b∈ch,(b∈X.ex\/X.s₀.heap.objs.size<=b)/\b≠X.env.locals/\(∀ x c,X.env.cells.lookup x=some c->c≠b)/\∀ p∈X.pn++pins,p.1≠b)
  (keep:∀ b o,b≠X.env.locals->b ∉ X.fs->b ∉ ch->s.heap.get? b=some o->H b=none->h'.get? b=some o)
  (slot:∀ b o,b≠X.env.locals->b∈X.fs->b ∉ ch->s.heap.get? b=some o->H b=none->∃ sl,h'.get? b=some { o with slots:=sl }) (free:∀ b o,b ∉ ch->s.heap.get? b=some o->H b=none->H' b=none)
  (there:∀ b o,b ∉ ch->s.heap.get? b=some o->∃ o',h'.get? b=some o')
  (tups:∀ b xs,H b=some (.tup xs)->H' b=some (.tup xs)) (frzs:∀ b o u,H b=some (.frz o u)->H' b=some (.frz o u)) (tbls:∀ b ps,H b=some (.tbl ps)->∃ more,H' b=some (.tbl (ps++more)))
  (ns:∀ m,s.heap.Ns X.env.locals m->h'.Ns X.env.locals m) (hok:HOk X.prog X.w H' h') (hg:AllBare g') :
  Inv X pins σ H' { s with heap:=h',gens:=g',drawn:=d',toks:=t' }:=by
 have neL:∀ b o,X.s₀.heap.get? b=some o->b≠X.env.locals:=fun b o e=>ZH (ZI (Zs e) I.ok.above)
 have neC:∀ b o,X.s₀.heap.get? b=some o->b ∉ X.ex->b ∉ ch:=fun b o e hx hb=>by
  rcases (hch b hb).1 with z|z
  ·exact hx z
  ·exact absurd (ZI (Zs e) z) (XB _)
 have cellK:∀ x c,X.env.cells.lookup x=some c->∀ v,s.heap.IsCell c v->h'.IsCell c v:=fun x c e v ⟨o,ho,hd⟩=>by
  have nch:c ∉ ch:=fun z=>(hch c z).2.2.1 x c e rfl
  by_cases hc:c∈X.fs
  ·obtain ⟨sl,q⟩:=slot c o (I.cne x c e) hc nch ho (I.freeC x c e)
   exact ⟨_,q,hd⟩
  ·exact ⟨o,keep c o (I.cne x c e) hc nch ho (I.freeC x c e),hd⟩
 refine ⟨I.ok,I.os,hg,⟨fun b o e n hb hx=>?_,fun b o e n hb hx=>?_,fun b o e n hx=>?_,fun b o e hx=>?_,fun b xs e=>tups b xs (I.base.tups b xs e),fun b o xs e=>frzs b o xs (I.base.frzs b o xs e),fun b ps e=>?_⟩,?_,fun x c e=>?_,?_,fun x c e=>?_,fun p hp=>?_,hok,I.len⟩
 ·exact keep b o (neL b o e) hb (neC b o e hx) (I.base.keep b o e n hb hx) (I.base.free b o e n hx)
 ·obtain ⟨sl,e1⟩:=I.base.slot b o e n hb hx
  obtain ⟨sl',e2⟩:=slot b _ (neL b o e) hb (neC b o e hx) e1 (I.base.free b o e n hx)
  exact ⟨sl',e2⟩
 ·obtain ⟨o',e1⟩:=I.base.there b o e hx
  exact free b o' (neC b o e hx) e1 (I.base.free b o e n hx)
 ·obtain ⟨o',e1⟩:=I.base.there b o e hx
  exact there b o' (neC b o e hx) e1
 ·obtain ⟨m1,e1⟩:=I.base.tbls b ps e
  obtain ⟨m2,e2⟩:=tbls b _ e1
  exact ⟨m1++m2,by rw [e2,Array.append_assoc]⟩
 ·obtain ⟨m,hn,hl⟩:=I.loc
  refine ⟨m,ns m hn,fun i x v e1 e2 e3=>?_⟩
  obtain ⟨u,r,l⟩:=hl i x v e1 e2 e3
  refine ⟨u,r,?_⟩
  rcases l with l|⟨k,c,e,z⟩
  ·exact .inl l
  ·exact .inr ⟨k,c,e,cellK x c e _ z⟩
 ·obtain ⟨v,z⟩:=I.cell x c e
  exact ⟨v,cellK x c e v z⟩
 ·obtain ⟨m,⟨o,_,_,ho,_⟩,_⟩:=I.loc
  exact free _ o (fun z=>(hch _ z).2.1 rfl) ho I.free
 ·obtain ⟨v,o,ho,hd⟩:=I.cell x c e
  exact free c o (fun z=>(hch c z).2.2.1 x c e rfl) ho (I.freeC x c e)
 ·obtain ⟨e,n,ne,nf,d⟩:=I.pin p hp
  have nch:p.1 ∉ ch:=fun z=>(hch p.1 z).2.2.2 p hp rfl
  exact ⟨keep p.1 p.2 ne nf nch e n,free p.1 p.2 nch e n,ne,nf,d⟩
theorem Inv.un {t':Nat} (I:Inv X pins σ H s) (u:Un X.fs [] H H' s.heap h') (hok:HOk X.prog X.w H' h'):Inv X pins σ H' { s with heap:=h',toks:=t' }:=by
 obtain ⟨m,⟨o,es,ep,ho,r⟩,_⟩:=id I.loc
 obtain ⟨sl,hL⟩:=u.any ho I.free (by simp)
 exact I.step (g':=s.gens) (d':=s.drawn) (ch:=[]) (fun _ z=>nomatch z) (fun b o _ hb _ e n=>u.keep b o e n hb (by simp)) (fun b o _ hb _ e n=>u.slot b o e n hb (by simp)) (fun b o _ e n=>u.free b o e n (by simp)) (fun b o _ e=>u.there b o e (by simp)) u.tups u.frzs u.tbls (fun m' hm=>by
  obtain ⟨o',es',ep',ho',r'⟩:=hm
  rw [ho] at ho'; cases ho'
  exact ⟨_,es',ep',hL,r'⟩) hok I.bare
theorem Inv.call {g':Array GenState} {t':Nat} {d':Drawn} {ch:List Addr} (I:Inv X pins σ H s) (u:Un (frs X.stack) ch H H' s.heap h') (hok:HOk X.prog X.w H' h') (hg:AllBare g')
  (hch:∀ b∈ch,(b∈X.ex\/X.s₀.heap.objs.size<=b)/\b≠X.env.locals/\(∀ x c,X.env.cells.lookup x=some c->c≠b)/\∀ p∈X.pn++pins,p.1≠b) :
  Inv X pins σ H' { s with heap:=h',gens:=g',drawn:=d',toks:=t' }:=by
 obtain ⟨m,⟨o,es,ep,ho,r⟩,_⟩:=id I.loc
 obtain ⟨sl,hL⟩:=u.any ho I.free fun z=>(hch _ z).2.1 rfl
 exact I.step (ch:=ch) hch (fun b o hL hb hc e n=>u.keep b o e n (fun z=>(Zt.mp (I.m9 b z)).elim hL hb) hc) (fun b o _ _ hc e n=>u.any e n hc) (fun b o hc e n=>u.free b o e n hc) (fun b o hc e=>u.there b o e hc) u.tups u.frzs u.tbls (fun m' hm=>by
  obtain ⟨o',es',ep',ho',r'⟩:=hm
  rw [ho] at ho'; cases ho'
  exact ⟨_,es',ep',hL,r'⟩) hok hg
theorem Inv.turned {t':Nat} {it:Addr} (I:Inv X pins σ H s) (k:∀ b o,b≠it->s.heap.get? b=some o->h'.get? b=some o) (hn:H it=none) (hL:it≠X.env.locals)
  (h1:it∈X.ex\/X.s₀.heap.objs.size<=it) (h2:∀ x c,X.env.cells.lookup x=some c->c≠it) (h3:∀ p∈X.pn++pins,p.1≠it):Inv X pins σ H { s with heap:=h',toks:=t' }:=by
 have nit:∀ b u,H b=some u->b≠it:=fun b u e z=>by rw [z,hn] at e; cases e
 refine I.step (g':=s.gens) (d':=s.drawn) (ch:=[it]) (fun b hb=>?_) (fun b o _ _ hc e _=>k b o (fun z=>hc (by simp [z])) e) (fun b o _ _ hc e _=>⟨o.slots,k b o (fun z=>hc (by simp [z])) e⟩) (fun _ _ _ _ n=>n)
  (fun b o hc e=>⟨o,k b o (fun z=>hc (by simp [z])) e⟩) (fun _ _ e=>e) (fun _ _ _ e=>e) (fun b ps e=>⟨#[],by rw [e]; simp⟩) (fun m hm=>?_) (fun b u e=>?_) I.bare
 ·have e:b=it:=by simpa using hb
  subst e
  exact ⟨h1,hL,h2,h3⟩
 ·obtain ⟨o,es,ep,ho,r⟩:=hm
  exact ⟨o,es,ep,k _ o (Ne.symm hL) ho,r⟩
 ·refine (I.hok b u e).stay (fun c v hc q=>k c v ?_ q) (fun _ q=>q) fun _ _ q=>q
  rcases hc with z|z
  ·rw [z]; exact nit b u e
  ·exact nit c _ z
theorem Inv.tok (I:Inv X pins σ H s) (t:Nat):Inv X pins σ H { s with toks:=t }:=I.un (h':=s.heap) (t':=t) Un.refl I.hok
theorem Inv.kept {t':Nat} (I:Inv X pins σ H s) (k:∀ b u,s.heap.get? b=some u->h'.get? b=some u):Inv X pins σ H { s with heap:=h',toks:=t' }:=I.un (Un.kept k) (I.hok.kept k)
theorem Inv.laid {a:Addr} {o:HO} {t':Nat} (I:Inv X pins σ H s) (k:∀ b u,s.heap.get? b=some u->h'.get? b=some u) (hp:s.heap.objs.size<=a) (new:aS X.prog X.w (upd H a o) h' a o) :
  Inv X pins σ (upd H a o) { s with heap:=h',toks:=t' }:=I.un (Un.laid k hp (I.hok.fresh hp)) (I.hok.laid k hp new)
theorem Inv.write {x e:Addr} {o:HO} {t':Nat} (I:Inv X pins σ H s) (mu:Mut (H x)) (he:e=x\/H e=some (.own x)) (k:∀ b u,b≠e->s.heap.get? b=some u->h'.get? b=some u) (heo:∃ u,h'.get? e=some u)
  (new:aS X.prog X.w (upd H x o) h' x o):Inv X pins σ (upd H x o) { s with heap:=h',toks:=t' }:=I.un (Un.write mu he k heo) (I.hok.write mu he k heo new)
theorem Inv.weak {σ':List (Option V)} (I:Inv X pins σ H s) (hl:σ'.length=σ.length) (w:∀ (i:Nat) v,σ'[i]?=some (some v)->σ[i]?=some (some v)):Inv X pins σ' H s :=
 ⟨I.ok,I.os,I.bare,I.base,let ⟨m,hn,hl'⟩:=I.loc; ⟨m,hn,fun i x v e1 e2 e3=>hl' i x v e1 (w i v e2) e3⟩,I.cell,I.free,I.freeC,I.pin,I.hok,hl.trans I.len⟩
theorem Inv.ua {pins':List (Addr × Obj)} (I:Inv X pins σ H s) (h:∀ p∈pins',s.heap.get? p.1=some p.2/\H p.1=none/\p.1≠X.env.locals/\p.1 ∉ X.fs/\∀ v,p.2.data≠.cell v):Inv X pins' σ H s :=
 ⟨I.ok,I.os,I.bare,I.base,I.loc,I.cell,I.free,I.freeC,fun p hp=>(ZR.mp hp).elim (fun z=>I.pin p (X9 _ z)) (h p),I.hok,I.len⟩
theorem rP {N:List Str} (hN:N.Nodup) {i j:Nat} {x:Str} (a:N[i]?=some x) (b:N[j]?=some x):i=j:=by
 obtain ⟨h1,e1⟩:=Zh.mp a
 obtain ⟨h2,e2⟩:=Zh.mp b
 exact (List.getElem_inj hN).mp (e1.trans e2.symm)
theorem qk {M:Model} {A:Around} {E:Value->Shared->Prop} {i:Nat} {x:Str} {v:V} {u:Value} {Q:Unit->Shared->Prop} (I:Inv X pins σ H s) (hN:X.N.Nodup) (hi:X.N[i]?=some x) (hx:Loc X.env.scope x) (r:RelV v u)
  (h:∀ s',Inv X pins (σ.set i (some v)) H s'->(∃ a,Heap.SameBut a s.heap s'.heap/\(a=X.env.locals\/X.env.cells.lookup x=some a))->Q () s') (hf:X.fn x=true\/X.env.scope.names.lookup x=some .local:=by first|exact .inl rfl|exact .inr rfl|assumption):wpAny M A (storeName X.env x u) Q E s:=by
 obtain ⟨m,hn,hl⟩:=id I.loc
 have hcls:(X.env.scope.kind==.class||(X.env.scope.kind==.module&&X.env.locals != X.env.globals))=false:=by rw [I.ok.kind]; rfl
 have hiσ:i < σ.length:=by rw [I.len]; exact (Zh.mp hi).1
 have cne:=I.cne
 have tracked:∀ {a:Addr} {h':Heap},(∃ o,s.heap.get? a=some o/\H a=none)->Heap.SameBut a s.heap h'->HOk X.prog X.w H h':=fun {a h'} ha hs b ob e=>by
  obtain ⟨_,_,hfree⟩:=ha
  refine (I.hok b ob e).stay (fun c w' hc q=>(hs.2 c ?_).trans q) (fun _ q=>q) fun _ _ q=>q
  rintro rfl
  rcases hc with rfl|hc
  ·rw [hfree] at e; cases e
  ·rw [hfree] at hc; cases hc
 rcases hx with hk|hk
 ·refine wpAny_storeName_local hk hn (fun h' hn' hs=>?_) hcls
  obtain ⟨oL,_,_,hoL,_⟩:=id hn
  refine h _ ⟨I.ok,I.os,I.bare,⟨fun b o e n hb hx=>?_,fun b o e n hb hx=>?_,I.base.free,fun b o e hx=>?_,I.base.tups,I.base.frzs,I.base.tbls⟩,⟨_,hn',fun j y v' e1 e2 e3=>?_⟩,fun y c e=>?_,I.free,I.freeC,fun p hp=>?_,tracked ⟨oL,hoL,I.free⟩ hs,by simpa using I.len⟩ ⟨_,hs,.inl rfl⟩
  ·exact (hs.2 b (ZH (ZI (Zs e) I.ok.above))).trans (I.base.keep b o e n hb hx)
  ·obtain ⟨sl,e1⟩:=I.base.slot b o e n hb hx
   exact ⟨sl,(hs.2 b (ZH (ZI (Zs e) I.ok.above))).trans e1⟩
  ·obtain ⟨o',e1⟩:=I.base.there b o e hx
   exact ⟨o',(hs.2 b (ZH (ZI (Zs e) I.ok.above))).trans e1⟩
  ·by_cases hj:j=i
   ·subst hj
    rw [hi] at e1; cases e1
    rw [Xh hiσ] at e2
    cases e2
    exact ⟨u,r,.inl ⟨hk,by simp⟩⟩
   ·rw [Z0 (Ne.symm hj)] at e2
    obtain ⟨u',r',q⟩:=hl j y v' e1 e2 e3
    refine ⟨u',r',?_⟩
    rcases q with ⟨k,e⟩|⟨k,c,e,z⟩
    ·refine .inl ⟨k,?_⟩
     have:y≠x:=fun e=>hj (rP hN e1 (e ▸ hi))
     simp [this,e]
    ·exact .inr ⟨k,c,e,z.sameBut hs (cne y c e)⟩
  ·obtain ⟨w',z⟩:=I.cell y c e
   exact ⟨w',z.sameBut hs (cne y c e)⟩
  ·obtain ⟨e,n,ne,nf,d⟩:=I.pin p hp
   exact ⟨(hs.2 p.1 ne).trans e,n,ne,nf,d⟩
 ·have hfn:X.fn x=true:=by
   rcases hf with z|z
   ·exact z
   ·rw [z] at hk; cases hk
  obtain ⟨c,hc⟩:=I.ok.has x (.inl hk)
  obtain ⟨w',z⟩:=I.cell x c hc
  refine wpAny_storeName_cell I.ok.kind hk hc z (fun h' hc' hs=>?_)
  obtain ⟨oc,hoc,hocd⟩:=id z
  refine h { s with heap:=h' } ⟨I.ok,I.os,I.bare,⟨fun b o e n hb hx=>?_,fun b o e n hb hx=>?_,I.base.free,fun b o e hx=>?_,I.base.tups,I.base.frzs,I.base.tbls⟩,⟨m,hn.sameBut hs (Ne.symm (cne x c hc)),fun j y v' e1 e2 e3=>?_⟩,fun y c' e=>?_,I.free,I.freeC,fun p hp=>?_,tracked ⟨oc,hoc,I.freeC x c hc⟩ hs,by simpa using I.len⟩ ⟨c,hs,.inr hc⟩
  ·exact (hs.2 b (ZH (ZI (Zs e) (I.ok.cab x c hfn hc)))).trans (I.base.keep b o e n hb hx)
  ·obtain ⟨sl,e1⟩:=I.base.slot b o e n hb hx
   exact ⟨sl,(hs.2 b (ZH (ZI (Zs e) (I.ok.cab x c hfn hc)))).trans e1⟩
  ·obtain ⟨o',e1⟩:=I.base.there b o e hx
   exact ⟨o',(hs.2 b (ZH (ZI (Zs e) (I.ok.cab x c hfn hc)))).trans e1⟩
  ·by_cases hj:j=i
   ·subst hj
    rw [hi] at e1; cases e1
    rw [Xh hiσ] at e2
    cases e2
    exact ⟨u,r,.inr ⟨.inl hk,c,hc,hc'⟩⟩
   ·rw [Z0 (Ne.symm hj)] at e2
    obtain ⟨u',r',q⟩:=hl j y v' e1 e2 e3
    refine ⟨u',r',?_⟩
    rcases q with q|⟨k,c',e,z'⟩
    ·exact .inl q
    ·refine .inr ⟨k,c',e,z'.sameBut hs ?_⟩
     rintro rfl
     exact hj (rP hN e1 (I.ok.inj _ _ _ e hc ▸ hi))
  ·by_cases hcc:c'=c
   ·subst hcc; exact ⟨_,hc'⟩
   ·obtain ⟨w2,z2⟩:=I.cell y c' e
    exact ⟨w2,z2.sameBut hs hcc⟩
  ·obtain ⟨e,n,ne,nf,d⟩:=I.pin p hp
   refine ⟨(hs.2 p.1 ?_).trans e,n,ne,nf,d⟩
   intro q
   rw [q,hoc] at e
   have q':oc=p.2:=ZW e
   exact d w' (by rw [<- q']; exact hocd)
theorem FF {M:Model} {A:Around} {E:Value->Shared->Prop} {i:Nat} {x:Str} {v:V} {u:Value} {Q:Unit->Shared->Prop} (I:Inv X pins σ H s) (hN:X.N.Nodup) (hi:X.N[i]?=some x) (hx:Loc X.env.scope x) (r:RelV v u)
  (h:∀ s',Inv X pins (σ.set i (some v)) H s'->Q () s') (hf:X.fn x=true\/X.env.scope.names.lookup x=some .local:=by first|exact .inl rfl|exact .inr rfl|assumption):wpAny M A (storeName X.env x u) Q E s :=
 qk I hN hi hx r (fun s' I' _=>h s' I') hf
theorem Inv.y9 {s':Shared} {ch:List Addr} (I:Inv X pins σ H s) (ho:s'.os=s.os) (u:Un (frs X.stack) ch H H' s.heap s'.heap) (hok:HOk X.prog X.w H' s'.heap) (hg:AllBare s'.gens)
  (hch:∀ b∈ch,(b∈X.ex\/X.s₀.heap.objs.size<=b)/\b≠X.env.locals/\(∀ x c,X.env.cells.lookup x=some c->c≠b)/\∀ p∈X.pn++pins,p.1≠b):Inv X pins σ H' s':=by
 obtain ⟨h',g',d',t',o'⟩:=s'
 have e:o'=s.os:=ho
 subst e
 exact I.call (g':=g') (t':=t') (d':=d') u hok hg hch
end
abbrev XK:=Value->Option Addr->Hp->Prop
abbrev St:=List (Option V)
abbrev VK:=V->Hp->Prop
abbrev TE:=St->Hp->VK->Prop
abbrev TT:=St->Hp->(Bool->Hp->Prop)->Prop
abbrev TA:=St->Hp->(List V->Hp->Prop)->Prop
structure Ends where
 nx:St->Hp->Prop
 rt:VK
 bk:St->Hp->Prop:=fun _ _=>False
 ct:St->Hp->Prop:=fun _ _=>False
abbrev TS:=Ends->St->Hp->Prop
noncomputable def EP (X:Cx) (pins:List (Addr × Obj)) (σ:St) (Q:VK) (u:Value) (s':Shared):Prop:=∃ v H',Inv X pins σ H' s'/\RelV v u/\Q v H'
noncomputable def TP (X:Cx) (pins:List (Addr × Obj)) (σ:St) (Q:Bool->Hp->Prop) (b:Bool) (s':Shared):Prop:=∃ H',Inv X pins σ H' s'/\Q b H'
noncomputable def AP (X:Cx) (pins:List (Addr × Obj)) (σ:St) (Q:List V->Hp->Prop) (us:List Value) (s':Shared):Prop:=∃ vs H',Inv X pins σ H' s'/\Vals vs us/\Q vs H'
noncomputable def SP (X:Cx) (pins:List (Addr × Obj)) (D:Ends) (f:Flow) (s':Shared):Prop :=
 match f with
 | .next=>∃ σ' H',Inv X pins σ' H' s'/\D.nx σ' H'
 | .brk=>∃ σ' H',Inv X pins σ' H' s'/\D.bk σ' H'
 | .cont=>∃ σ' H',Inv X pins σ' H' s'/\D.ct σ' H'
 | .ret u=>∃ v σ' H',Inv X pins σ' H' s'/\RelV v u/\D.rt v H'
noncomputable def PE (X:Cx) (e:Expr) (t:TE):Prop :=
 ∀ (pins:List (Addr × Obj)) (s:Shared) (σ:St) (H:Hp) (Q:VK),Inv X pins σ H s->t σ H Q->wpAny (model X.prog X.w) X.A (eval e X.env) (EP X pins σ Q) X.xe s
noncomputable def PT (X:Cx) (e:Expr) (t:TT):Prop :=
 ∀ (pins:List (Addr × Obj)) (s:Shared) (σ:St) (H:Hp) (Q:Bool->Hp->Prop),Inv X pins σ H s->t σ H Q->wpAny (model X.prog X.w) X.A (isTrue e X.env (eval e X.env)) (TP X pins σ Q) X.xe s
noncomputable def PW (X:Cx) (e:Expr) (t:TT):Prop :=
 ∀ (whole:Sem Value) (pins:List (Addr × Obj)) (s:Shared) (σ:St) (H:Hp) (Q:Bool->Hp->Prop),Inv X pins σ H s->t σ H Q->wpAny (model X.prog X.w) X.A (isTrue e X.env whole) (TP X pins σ Q) X.xe s
theorem PW.pt {X:Cx} {e:Expr} {t:TT} (h:PW X e t):PT X e t:=h _
noncomputable def PA (X:Cx) (es:List Expr) (t:TA):Prop :=
 ∀ (pos:Pos) (pins:List (Addr × Obj)) (s:Shared) (σ:St) (H:Hp) (Q:List V->Hp->Prop),Inv X pins σ H s->t σ H Q->wpAny (model X.prog X.w) X.A (spliced (backTo pos (starEach es X.env))) (AP X pins σ Q) X.xe s
noncomputable def PS (X:Cx) (st:Stmt) (t:TS):Prop :=
 ∀ (pins:List (Addr × Obj)) (s:Shared) (σ:St) (H:Hp) (D:Ends),Inv X pins σ H s->t D σ H->wpAny (model X.prog X.w) X.A (exec st X.env) (SP X pins D) X.xe s
noncomputable def PSs (X:Cx) (st:List Stmt) (t:TS):Prop :=
 ∀ (pins:List (Addr × Obj)) (s:Shared) (σ:St) (H:Hp) (D:Ends),Inv X pins σ H s->t D σ H->wpAny (model X.prog X.w) X.A (execs st X.env) (SP X pins D) X.xe s
theorem thn {α:Type} {t:Sem α} {Q Q':α->Shared->Prop} {M:Model} {A:Around} {E:Value->Shared->Prop} {s:Shared} (h:wpAny M A t Q E s) (hQ:∀ a s,Q a s->Q' a s):wpAny M A t Q' E s:=Xu h hQ fun _ _ x=>x
end L2
namespace L2
open PySem PySem.Spec PyProof.Rows
section
variable {X:Cx}
noncomputable def DE (i:Nat):TE:=fun σ H Q=>∃ v,σ[i]?=some (some v)/\Q v H
noncomputable def tC (v:V):TE:=fun _ H Q=>Q v H
theorem zq {i:Nat} {x:Str} {pos:Pos} (hN:X.N[i]?=some x) (hv:Vis X.env.scope x) (hd:(x==("__debug__" : Str))=false:=by decide) (hcd:(x==("__classdict__" : Str))=false:=by decide):PE X (.Name x pos) (DE i):=by
 intro pins s σ H Q I h
 obtain ⟨v,e,h⟩:=h
 obtain ⟨m,hn,hl⟩:=I.loc
 obtain ⟨u,r,l⟩:=hl i x v hN e hv
 have fin:EP X pins σ Q u s:=⟨v,H,I,r,h⟩
 rcases l with ⟨hk,hm⟩|⟨hk,c,hc,hcell⟩
 ·exact wpAny_Name (wpAny_loadName_local I.ok.kind hk hn hm fin) hd
 ·rcases hk with hk|hk
  ·exact wpAny_Name (wpAny_loadName_cell I.ok.kind hk hc hcell fin) hd
  ·exact wpAny_Name (wpAny_loadName_free I.ok.kind hk hc hcell fin hcd) hd
theorem CB {i j pos}:PE X (.Constant (.int i) j pos) (tC (.int i)):=fun _ _ _ H _ I h=>wpAny_Constant_int ⟨.int i,H,I.tok _,⟨_,rfl⟩,h⟩
theorem CJ {b j pos}:PE X (.Constant (.bool b) j pos) (tC (.bl b)):=fun _ _ _ H _ I h=>Constant_bool ⟨.bl b,H,I,rfl,h⟩
theorem zB {j pos}:PE X (.Constant .none j pos) (tC .non):=fun _ _ _ H _ I h=>Constant_none ⟨.non,H,I,rfl,h⟩
theorem qJ {x j pos}:PE X (.Constant (.str x) j pos) (tC (.str x)):=fun _ _ _ H _ I h=>Calls.Constant_str ⟨.str x,H,I.tok _,⟨_,rfl⟩,h⟩
noncomputable def Gl (X:Cx) (x:Str):Prop:=X.env.kindOf x=some .globalImplicit
theorem jG {E:Value->Shared->Prop} {pins:List (Addr × Obj)} {s:Shared} {σ:St} {H:Hp} {x:Str} {u:Value} {pos:Pos} {Q:Value->Shared->Prop} (I:Inv X pins σ H s) (hg:Gl X x) (hm:X.mg x=some u) (h:Q u s)
  (hd:(x==("__debug__" : Str))=false:=by decide):wpAny (model X.prog X.w) X.A (eval (.Name x pos) X.env) Q E s :=
 Calls.Name_function_global I.ok.kind hg (Calls.loadGlobal_global (by rw [I.ok.glob]; exact I.mod.glob.keeps I.bk) hm h) hd
theorem cO {E:Value->Shared->Prop} {pins:List (Addr × Obj)} {s:Shared} {σ:St} {H:Hp} {x:Str} {u:Value} {pos:Pos} {Q:Value->Shared->Prop} (I:Inv X pins σ H s) (hg:Gl X x) (hm:X.mg x=none) (hv:bootBuiltins x=some u) (h:Q u s)
  (hn:x≠"__name__":=by decide) (hd:(x==("__debug__" : Str))=false:=by decide):wpAny (model X.prog X.w) X.A (eval (.Name x pos) X.env) Q E s:=by
 obtain ⟨mb,h1,h2⟩:=I.mod.blt
 exact Calls.Name_function_global I.ok.kind hg (Calls.loadGlobal_builtin (by rw [I.ok.glob]; exact I.mod.glob.keeps I.bk) hm (by rw [I.ok.blt]; exact h1.keeps I.bk) ((h2 x hn).trans hv) h) hd
theorem HQ {x:Str} {v:V} {u:Value} {pos:Pos} (hg:Gl X x) (hm:X.mg x=some u) (r:RelV v u) (hd:(x==("__debug__" : Str))=false:=by decide):PE X (.Name x pos) (tC v) :=
 fun _ _ _ H _ I h=>jG I hg hm ⟨v,H,I,r,h⟩ hd
theorem DT {x:Str} {v:V} {u:Value} {pos:Pos} (hg:Gl X x) (hm:X.mg x=none) (hv:bootBuiltins x=some u) (r:RelV v u) (hn:x≠"__name__":=by decide) (hd:(x==("__debug__" : Str))=false:=by decide):PE X (.Name x pos) (tC v) :=
 fun _ _ _ H _ I h=>cO I hg hm hv ⟨v,H,I,r,h⟩ hn hd
variable {a b:Expr} {ta tb:TE} {pos:Pos}
noncomputable def PC (X:Cx) (op:CmpOp) (a b:Expr) (t:TE):Prop :=
 ∀ (pins:List (Addr × Obj)) (s:Shared) (σ:St) (H:Hp) (Q:VK),Inv X pins σ H s->t σ H Q ->
  wpAny (model X.prog X.w) X.A (eval a X.env) (fun v s₁=>wpAny (model X.prog X.w) X.A (eval b X.env) (fun u s₂=>wpAny (model X.prog X.w) X.A (compareOp op v u) (EP X pins σ Q) X.xe s₂) X.xe s₁) X.xe s
theorem nX (b:Expr) {op:CmpOp} (h:op≠.In) (h2:op≠.NotIn):behindInMarks op b=false:=by
 have e1:(op==CmpOp.In)=false:=by cases op <;> first|rfl|exact absurd rfl h
 have e2:(op==CmpOp.NotIn)=false:=by cases op <;> first|rfl|exact absurd rfl h2
 cases b <;> simp [behindInMarks,e1,e2]
noncomputable def A2 (ta:TE):TE:=fun σ H Q=>ta σ H fun x H1=>Q (.bl (decide (x=.non))) H1
noncomputable def HS (ta:TE):TE:=fun σ H Q=>ta σ H fun x H1=>Q (.bl (!decide (x=.non))) H1
theorem RelV.uq {x:V} {v:Value} (r:RelV x v):(v==Value.none)=decide (x=.non):=by
 cases x with
 | non=>cases r; rfl
 | bl _=>cases r; rfl
 | int _=>obtain ⟨t,rfl⟩:=r; rfl
 | str _=>obtain ⟨t,rfl⟩:=r; rfl
 | byt _=>obtain ⟨t,rfl⟩:=r; rfl
 | flt _=>obtain ⟨t,rfl⟩:=r; rfl
 | ref _=>cases r; rfl
 | ty _=>cases r; rfl
theorem oz {j pos'} (ha:PE X a ta):PC X .Is a (.Constant .none j pos') (A2 ta):=by
 intro pins s σ H Q I h
 refine thn (ha pins s σ H _ I h) fun v s1 ⟨x,H1,I1,r1,q1⟩=>?_
 exact Constant_none (is_none_gen ⟨.bl _,H1,I1,by rw [r1.uq]; rfl,q1⟩)
theorem vz {j pos'} (ha:PE X a ta):PC X .IsNot a (.Constant .none j pos') (HS ta):=by
 intro pins s σ H Q I h
 refine thn (ha pins s σ H _ I h) fun v s1 ⟨x,H1,I1,r1,q1⟩=>?_
 exact Constant_none (isnot_none_gen ⟨.bl _,H1,I1,by rw [r1.uq]; rfl,q1⟩)
noncomputable def tB (t:TE):TT:=fun σ H Q=>t σ H fun x H1=>∃ c,x=.bl c/\Q c H1
theorem nP {op:CmpOp} {t:TE} (h:PC X op a b t) (h1:behindInMarks op b=false:=by first|exact nX _ (by decide) (by decide)|rfl):PE X (.Compare a [op] [b] pos) t:=fun pins s σ H Q I hw=>wpAny_Compare1 (h pins s σ H Q I hw) h1
theorem rB {op:CmpOp} {t:TE} (h:PC X op a b t) (h1:behindInMarks op b=false:=by first|exact nX _ (by decide) (by decide)|rfl):PT X (.Compare a [op] [b] pos) (tB t):=by
 intro pins s σ H Q I hw
 refine wpAny_isTrue_Compare1 (thn (h pins s σ H _ I hw) fun v s1 h1=>thn h1 fun u s2 h2=>thn h2 fun c s3 ⟨x,H1,I1,r1,q1⟩=>?_) h1
 obtain ⟨d,rfl,q⟩:=q1
 cases r1
 exact Xe ⟨H1,I1,q⟩
variable {tA tB':TT} {rest:List Expr}
noncomputable def zK (t u:TT):TT:=fun σ H Q=>t σ H fun c H1=>if c=true then u σ H1 Q else Q false H1
noncomputable def tOr (t u:TT):TT:=fun σ H Q=>t σ H fun c H1=>if c=true then Q true H1 else u σ H1 Q
noncomputable def E9 (t:TT):TT:=fun σ H Q=>t σ H fun c H1=>Q (!c) H1
theorem vo (ha:PT X a tA):PW X (.BoolOp .And [a] pos) tA:=by
 intro wh pins s σ H Q I h
 refine isTrue_and (thn (ha pins s σ H Q I h) fun c s1 e=>?_)
 cases c with
 | true=>exact isTrue_and_nil e
 | false=>exact e
theorem uV (ha:PT X a tA):PW X (.BoolOp .Or [a] pos) tA:=by
 intro wh pins s σ H Q I h
 refine isTrue_or (thn (ha pins s σ H Q I h) fun c s1 e=>?_)
 cases c with
 | false=>exact isTrue_or_nil e
 | true=>exact e
theorem Hs (ha:PT X a tA) (hb:PW X (.BoolOp .And (b::rest) pos) tB'):PW X (.BoolOp .And (a::b::rest) pos) (zK tA tB'):=by
 intro wh pins s σ H Q I h
 refine isTrue_and (thn (ha pins s σ H _ I h) fun c s1 ⟨H1,I1,q1⟩=>?_)
 cases c with
 | true=>exact hb wh pins s1 σ H1 Q I1 q1
 | false=>exact ⟨H1,I1,q1⟩
theorem EG (ha:PT X a tA) (hb:PW X (.BoolOp .Or (b::rest) pos) tB'):PW X (.BoolOp .Or (a::b::rest) pos) (tOr tA tB'):=by
 intro wh pins s σ H Q I h
 refine isTrue_or (thn (ha pins s σ H _ I h) fun c s1 ⟨H1,I1,q1⟩=>?_)
 cases c with
 | true=>exact ⟨H1,I1,q1⟩
 | false=>exact hb wh pins s1 σ H1 Q I1 q1
theorem Hl (ha:PT X a tA):PT X (.UnaryOp .Not a pos) (E9 tA):=by
 intro pins s σ H Q I h
 exact isTrue_not (ha pins s σ H (fun c H1=>Q (!c) H1) I h)
noncomputable def CH (ta tb:TE):TE:=fun σ H Q=>ta σ H fun x H1=>∃ c,x=.bl c/\if c=true then tb σ H1 Q else Q (.bl false) H1
noncomputable def wj (ta tb:TE):TE:=fun σ H Q=>ta σ H fun x H1=>∃ c,x=.bl c/\if c=true then Q (.bl true) H1 else tb σ H1 Q
noncomputable def zO (ta:TE):TE:=fun σ H Q=>ta σ H fun x H1=>∃ c,x=.bl c/\Q (.bl (!c)) H1
theorem vD {op} {t:TE} (h:PE X a t):PE X (.BoolOp op [a] pos) t:=fun pins s σ H Q I hw=>BoolOp_one (h pins s σ H Q I hw)
theorem DB (ha:PE X a ta) (hb:PE X (.BoolOp .And (b::rest) pos) tb):PE X (.BoolOp .And (a::b::rest) pos) (CH ta tb):=by
 intro pins s σ H Q I h
 refine BoolOp_and (thn (ha pins s σ H _ I h) fun v s1 ⟨x,H1,I1,r1,q1⟩=>?_)
 obtain ⟨c,rfl,q1⟩:=q1
 cases r1
 refine Xe ?_
 cases c with
 | true=>exact hb pins s1 σ H1 Q I1 q1
 | false=>exact ⟨.bl false,H1,I1,rfl,q1⟩
theorem vZ (ha:PE X a ta) (hb:PE X (.BoolOp .Or (b::rest) pos) tb):PE X (.BoolOp .Or (a::b::rest) pos) (wj ta tb):=by
 intro pins s σ H Q I h
 refine BoolOp_or (thn (ha pins s σ H _ I h) fun v s1 ⟨x,H1,I1,r1,q1⟩=>?_)
 obtain ⟨c,rfl,q1⟩:=q1
 cases r1
 refine Xe ?_
 cases c with
 | false=>exact hb pins s1 σ H1 Q I1 q1
 | true=>exact ⟨.bl true,H1,I1,rfl,q1⟩
theorem F0 (ha:PE X a ta):PE X (.UnaryOp .Not a pos) (zO ta):=by
 intro pins s σ H Q I h
 refine UnaryOp_ (thn (ha pins s σ H _ I h) fun v s1 ⟨x,H1,I1,r1,q1⟩=>?_)
 obtain ⟨c,rfl,q1⟩:=q1
 cases r1
 exact not_of (Xe ⟨.bl (!c),H1,I1,rfl,q1⟩)
noncomputable def tIf (t:TT) (ta tb:TE):TE:=fun σ H Q=>t σ H fun c H1=>if c=true then ta σ H1 Q else tb σ H1 Q
theorem D7 {c:Expr} (hc:PT X c tA) (ha:PE X a ta) (hb:PE X b tb):PE X (.IfExp c a b pos) (tIf tA ta tb):=by
 intro pins s σ H Q I h
 refine wpAny_IfExp (thn (hc pins s σ H _ I h) fun d s1 ⟨H1,I1,q1⟩=>?_)
 cases d with
 | true=>exact ha pins s1 σ H1 Q I1 q1
 | false=>exact hb pins s1 σ H1 Q I1 q1
end
end L2
namespace L2
open PySem PySem.Spec PyProof.Rows
noncomputable def SqL (K:PySem.W.Frag) (H:Hp) (a:Addr) (xs:List V):Prop :=
 Rd H a (.lst xs) \/
  ∃ (o:Obj) (its:Array Value) (n:Nat),K.lookup a=some o/\o.cls=.type "list"/\o.dict=none/\o.data=.seq its n/\its.size<=sizeLine/\Vals xs its.toList
noncomputable def SqT (K:PySem.W.Frag) (H:Hp) (a:Addr) (xs:List V):Prop :=
 Rd H a (.tup xs) \/
  ∃ (o:Obj) (its:Array Value) (n:Nat),K.lookup a=some o/\o.cls=.type "tuple"/\o.data=.seq its n/\its.size<=sizeLine/\Vals xs its.toList
noncomputable def GX:Value->Option V
 | .none=>some .non
 | .bool b=>some (.bl b)
 | .int i _=>some (.int i)
 | .str x _=>some (.str x)
 | .bytes b _=>some (.byt b)
 | .float b _=>some (.flt b)
 | .ref a=>some (.ref a)
 | .type n=>some (.ty n)
 | _=>none
theorem RelV.abs {x:V} {u:Value} (r:RelV x u):GX u=some x:=by
 cases x with
 | non=>cases r; rfl
 | bl _=>cases r; rfl
 | int _=>obtain ⟨t,rfl⟩:=r; rfl
 | str _=>obtain ⟨t,rfl⟩:=r; rfl
 | byt _=>obtain ⟨t,rfl⟩:=r; rfl
 | flt _=>obtain ⟨t,rfl⟩:=r; rfl
 | ref _=>cases r; rfl
 | ty _=>cases r; rfl
theorem RelV.inj {x y:V} {u:Value} (r:RelV x u) (q:RelV y u):x=y:=ZW (r.abs.symm.trans q.abs)
theorem Vals.inj:∀ {xs ys:List V} {us:List Value},Vals xs us->Vals ys us->xs=ys
 | _,_,_,.nil,.nil=>rfl
 | _,_,_,.cons r t,.cons r' t'=>by rw [r.inj r',Vals.inj t t']
section
variable {X:Cx} {pins:List (Addr × Obj)} {σ:St} {H:Hp} {s:Shared} {a:Addr} {xs ys:List V}
theorem SqL.of {K:PySem.W.Frag} (h:H a=some (.lst xs)):SqL K H a xs:=.inl (.inl h)
theorem SqT.of {K:PySem.W.Frag} (h:H a=some (.tup xs)):SqT K H a xs:=.inl (.inl h)
theorem Inv.list (I:Inv X pins σ H s) (h:SqL X.K H a xs):∃ its:List Value,Vals xs its/\PlainL s.heap a its.toArray/\xs.length<=sizeLine:=by
 rcases h with h|⟨o,its,n,hk,hc,hd,hs,hz,r⟩
 ·obtain ⟨z,its,n,r,e⟩:=h.ok I.hok
  exact ⟨its,r,⟨_,n,e,rfl,rfl,rfl⟩,z⟩
 ·refine ⟨its.toList,r,⟨o,n,I.kIn a o hk,hc,hd,by simpa using hs⟩,?_⟩
  have e:=r.length
  simp only [ZD] at e
  omega
theorem Inv.tuple (I:Inv X pins σ H s) (h:SqT X.K H a xs):∃ its:List Value,Vals xs its/\IsTup s.heap a its.toArray/\xs.length<=sizeLine:=by
 rcases h with h|⟨o,its,n,hk,hc,hs,hz,r⟩
 ·obtain ⟨z,its,r,p⟩:=h.ok I.hok
  exact ⟨its,r,p,z⟩
 ·refine ⟨its.toList,r,⟨o,I.kIn a o hk,hc,n,by simpa using hs⟩,?_⟩
  have e:=r.length
  simp only [ZD] at e
  omega
theorem Inv.jK (I:Inv X pins σ H s) (h:SqL X.K H a xs) (h':SqL X.K H a ys):xs=ys:=by
 obtain ⟨its,r,⟨o,n,e,_,_,d⟩,_⟩:=I.list h
 obtain ⟨its',r',⟨o',n',e',_,_,d'⟩,_⟩:=I.list h'
 rw [e] at e'; cases e'
 rw [d] at d'
 injection d' with d1 _
 have:its=its':=by simpa using Xm Array.toList d1
 subst this
 exact r.inj r'
theorem Inv.jl (I:Inv X pins σ H s) (h:SqT X.K H a xs) (h':SqT X.K H a ys):xs=ys:=by
 obtain ⟨its,r,⟨o,e,_,n,d⟩,_⟩:=I.tuple h
 obtain ⟨its',r',⟨o',e',_,n',d'⟩,_⟩:=I.tuple h'
 rw [e] at e'; cases e'
 rw [d] at d'
 injection d' with d1 _
 have:its=its':=by simpa using Xm Array.toList d1
 subst this
 exact r.inj r'
end
abbrev Cx.di (X:Cx) (E:Value->Shared->Prop):Cx:={ X with xe:=E }
abbrev Cx.nox (X:Cx):Cx:=X.di fun _ _=>False
theorem Cx.Ok.di {X:Cx} (ok:X.Ok) (E:Value->Shared->Prop):(X.di E).Ok :=
 ⟨ok.mod,ok.kind,ok.glob,ok.blt,ok.above,ok.inj,ok.has,ok.cab,ok.hd,ok.frames,ok.stk,ok.exf,ok.bs,ok.bsz,ok.noex,ok.exfs,ok.c6,ok.frf⟩
theorem Cx.Ok.eg {X:Cx} {E:Value->Shared->Prop} (ok:(X.di E).Ok):X.Ok :=
 ⟨ok.mod,ok.kind,ok.glob,ok.blt,ok.above,ok.inj,ok.has,ok.cab,ok.hd,ok.frames,ok.stk,ok.exf,ok.bs,ok.bsz,ok.noex,ok.exfs,ok.c6,ok.frf⟩
section
variable {X:Cx} {pins:List (Addr × Obj)} {σ:St} {H:Hp} {s:Shared} {E:Value->Shared->Prop}
theorem Inv.di (I:Inv X pins σ H s) (E:Value->Shared->Prop):Inv (X.di E) pins σ H s:=⟨I.ok.di E,I.os,I.bare,I.base,I.loc,I.cell,I.free,I.freeC,I.pin,I.hok,I.len⟩
theorem Inv.eg (I:Inv (X.di E) pins σ H s):Inv X pins σ H s:=⟨I.ok.eg,I.os,I.bare,I.base,I.loc,I.cell,I.free,I.freeC,I.pin,I.hok,I.len⟩
theorem SP.eg {D:Ends} {f:Flow} {s':Shared} (h:SP (X.di E) pins D f s'):SP X pins D f s':=by
 cases f with
 | next=>obtain ⟨σ',H',I,q⟩:=h; exact ⟨σ',H',I.eg,q⟩
 | brk=>obtain ⟨σ',H',I,q⟩:=h; exact ⟨σ',H',I.eg,q⟩
 | cont=>obtain ⟨σ',H',I,q⟩:=h; exact ⟨σ',H',I.eg,q⟩
 | ret u=>obtain ⟨v,σ',H',I,r,q⟩:=h; exact ⟨v,σ',H',I.eg,r,q⟩
end
section
variable {X:Cx} {st:Stmt} {rest:List Stmt} {t u:TS} {e:Expr} {te:TE} {pos:Pos}
noncomputable def kD:TS:=fun D σ H=>D.nx σ H
noncomputable def C6 (t u:TS):TS:=fun D σ H=>t { D with nx:=u D } σ H
theorem HJ:PSs X [] kD:=fun _ _ σ H _ I h=>Wa ⟨σ,H,I,h⟩
theorem Gv (h1:PS X st t) (h2:PSs X rest u):PSs X (st::rest) (C6 t u):=by
 intro pins s σ H D I h
 refine wpAny_execs_cons (thn (h1 pins s σ H { D with nx:=u D } I h) fun f s1 q=>?_)
 cases f with
 | next =>
  obtain ⟨σ',H',I',q⟩:=q
  exact h2 pins s1 σ' H' D I' q
 | ret v=>exact q
 | brk=>exact q
 | cont=>exact q
theorem Dl (h1:PS X st t):PSs X [st] t:=by
 intro pins s σ H D I h
 refine wpAny_execs_cons (thn (h1 pins s σ H D I h) fun f s1 q=>?_)
 cases f with
 | next=>exact Wa q
 | ret v=>exact q
 | brk=>exact q
 | cont=>exact q
theorem AV:PS X (.Pass pos) kD:=fun _ _ σ H _ I h=>wpAny_Pass ⟨σ,H,I,h⟩
theorem Inv.quiet {pins:List (Addr × Obj)} {σ:St} {H:Hp} {s:Shared} (I:Inv X pins σ H s):interactive X.env=false:=by simp [interactive,I.ok.kind]
theorem Be {x j pos pos'}:PS X (.Expr (.Constant (.str x) j pos) pos') kD:=fun _ s σ H _ I h=>wpAny_Expr (Calls.Constant_str (show SP X _ _ .next { s with toks:=s.toks+1 } from ⟨σ,H,I.tok _,h⟩)) I.quiet
noncomputable def GP (te:TE):TS:=fun D σ H=>te σ H fun _ H1=>D.nx σ H1
theorem Ec (he:PE X e te) (hs:swapsWith e none pos.line X.env=pure false:=by rfl):PS X (.Expr e pos) (GP te):=by
 intro pins s σ H D I h
 exact wpAny_Expr_any (thn (he pins s σ H _ I h) fun v s1 ⟨x,H1,I1,r1,q1⟩=>⟨σ,H1,I1,q1⟩) I.quiet hs
noncomputable def GA (te:TE):TS:=fun D σ H=>te σ H D.rt
theorem Hz (he:PE X e te):PS X (.Return (some e) pos) (GA te):=by
 intro pins s σ H D I h
 exact wpAny_Return_some (thn (he pins s σ H _ I h) fun v s1 ⟨x,H1,I1,r1,q1⟩=>⟨x,σ,H1,I1,r1,q1⟩)
noncomputable def Dv:TS:=fun D _ H=>D.rt .non H
theorem xP:PS X (.Return none pos) Dv:=fun _ _ σ H _ I h=>wpAny_Return_none ⟨.non,σ,H,I,rfl,h⟩
noncomputable def F4 (c:TT) (t u:TS):TS:=fun D σ H=>c σ H fun b H1=>if b=true then t D σ H1 else u D σ H1
theorem DC {c:Expr} {a b:List Stmt} {tc:TT} (hc:PT X c tc) (ha:PSs X a t) (hb:PSs X b u):PS X (.If c a b pos) (F4 tc t u):=by
 intro pins s σ H D I h
 refine wpAny_If (thn (hc pins s σ H _ I h) fun d s1 ⟨H1,I1,q1⟩=>?_)
 cases d with
 | true=>exact ha pins s1 σ H1 D I1 q1
 | false=>exact hb pins s1 σ H1 D I1 q1
end
abbrev TG:=V->St->Hp->(St->Hp->Prop)->Prop
abbrev TGs:=List V->St->Hp->(St->Hp->Prop)->Prop
noncomputable def PG (X:Cx) (target:Expr) (t:TG):Prop :=
 ∀ (pins:List (Addr × Obj)) (s:Shared) (σ:St) (H:Hp) (v:V) (u:Value) (Q:St->Hp->Prop),Inv X pins σ H s->RelV v u->t v σ H Q ->
  wpAny (model X.prog X.w) X.A (assign target X.env u) (fun _ s'=>∃ σ' H',Inv X pins σ' H' s'/\Q σ' H') X.xe s
noncomputable def PGs (X:Cx) (ts:List Expr) (t:TGs):Prop :=
 ∀ (pins:List (Addr × Obj)) (s:Shared) (σ:St) (H:Hp) (vs:List V) (us:List Value) (Q:St->Hp->Prop),Inv X pins σ H s->Vals vs us->t vs σ H Q ->
  wpAny (model X.prog X.w) X.A (assignInOrder ((assignEach ts X.env).map (·.2)) us) (fun _ s'=>∃ σ' H',Inv X pins σ' H' s'/\Q σ' H') X.xe s
section
variable {X:Cx} {pos:Pos}
noncomputable def iH (i:Nat):TG:=fun v σ H Q=>Q (σ.set i (some v)) H
theorem ug {i:Nat} {x:Str} (hN:X.N.Nodup) (hi:X.N[i]?=some x) (hx:Loc X.env.scope x) (hf:X.fn x=true\/X.env.scope.names.lookup x=some .local:=by first|exact .inl rfl|exact .inr rfl|assumption):PG X (.Name x pos) (iH i):=by
 intro pins s σ H v u Q I r h
 exact wpAny_assign_Name (FF I hN hi hx r (fun s' I'=>⟨_,H,I',h⟩) hf)
noncomputable def ud:TGs:=fun vs σ H Q=>vs=[]/\Q σ H
noncomputable def ue (t:TG) (u:TGs):TGs:=fun vs σ H Q=>∃ v r,vs=v::r/\t v σ H fun σ' H'=>u r σ' H' Q
theorem AL:PGs X [] ud:=by
 intro pins s σ H vs us Q I r h
 obtain ⟨e,h⟩:=h
 subst e
 cases r
 exact assignInOrder_nil ⟨σ,H,I,h⟩
theorem DF {e:Expr} {es:List Expr} {t:TG} {u:TGs} (h1:PG X e t) (h2:PGs X es u)
  (hs:(assignEach (e::es) X.env).map (·.2)=assign e X.env::(assignEach es X.env).map (·.2):=by rfl):PGs X (e::es) (ue t u):=by
 intro pins s σ H vs us Q I r h
 obtain ⟨v,vr,e1,h⟩:=h
 subst e1
 cases r with
 | cons r rr =>
  rw [hs]
  refine assignInOrder_cons (thn (h1 pins s σ H _ _ _ I r h) fun _ s1 ⟨σ1,H1,I1,q1⟩=>?_)
  exact h2 pins s1 σ1 H1 _ _ Q I1 rr q1
noncomputable def Dw (K:PySem.W.Frag) (n:Nat) (t:TGs):TG:=fun v σ H Q=>∃ a xs,v=.ref a/\SqT K H a xs/\xs.length=n/\t xs σ H Q
theorem xQ {es:List Expr} {k:Nat} {t:TGs} {n:Nat} (hc:X.calm=true) (h:PGs X es t)
  (hn:(assignEach es X.env).length=n:=by rfl) (hst:(assignEach es X.env).findIdx? (·.1)=none:=by rfl):PG X (.Tuple es k pos) (Dw X.K n t):=by
 intro pins s σ H v u Q I r hw
 obtain ⟨a,xs,e1,hq,hl,hw⟩:=hw
 subst e1
 cases r
 obtain ⟨its,rv,ht,hz⟩:=I.tuple hq
 refine assign_Tuple_tuple (I.ok.hd hc) ht (by simp [hn,<- hl,rv.length]) hst fun h' hx=>?_
 have I1:Inv X pins σ H { s with heap:=h' }:=I.kept (t':=s.toks) fun b o e=>hx b o (ZH (Zs e)) e
 exact h pins _ σ H xs _ Q I1 (by simpa using rv) hw
noncomputable def mz (te:TE) (g:TG):TS:=fun D σ H=>te σ H fun x H1=>g x σ H1 D.nx
theorem FY {tg e:Expr} {te:TE} {g:TG} (he:PE X e te) (hg:PG X tg g) (hs:swapsWithSole [tg] e pos.line X.env=pure false:=by rfl) (hw:swappedStores [tg] e X.env=pure none:=by rfl)
  (h1:(assignEach [tg] X.env).map (·.2)=[assign tg X.env]:=by rfl):PS X (.Assign [tg] e pos) (mz te g):=by
 intro pins s σ H D I h
 refine wpAny_Assign_stores (thn (he pins s σ H _ I h) fun v s1 ⟨x,H1,I1,r1,q1⟩=>?_) hs hw
 rw [h1]
 exact thn (hg pins s1 σ H1 x v _ I1 r1 q1) fun _ s2 q=>q
end
section
variable {X:Cx} {pos:Pos}
noncomputable def uG (c:TT) (tb:TS):TS:=fun D σ H=>∃ W:Nat->St->Hp->Prop,(∃ m,W m σ H)/\∀ m σ H,W m σ H ->
 c σ H fun b H1=>if b=true then ∃ N:St->Hp->Prop,(∀ σ' H',N σ' H'->∃ m',m' < m/\W m' σ' H')/\tb { D with nx:=N,ct:=N,bk:=D.nx } σ H1 else D.nx σ H1
theorem CU {c:Expr} {body:List Stmt} {tc:TT} {tb:TS} (hp:PassesOwn (model X.prog X.w) X.A X.env X.xe) (hc:PT X c tc) (hb:PSs X body tb):PS X (.While c body [] pos) (uG tc tb):=by
 intro pins s σ H D I h
 obtain ⟨W,⟨m0,w0⟩,turn⟩:=h
 refine wpAny_While (codeAny_whileLoop (fun n s'=>∃ σ' H',Inv X pins σ' H' s'/\W n σ' H') ?_ m0 ⟨σ,H,I,w0⟩)
 rintro n s1 ⟨σ1,H1,I1,w1⟩
 refine X0 hp (thn (hc pins s1 σ1 H1 _ I1 (turn n σ1 H1 w1)) fun b s2 ⟨H2,I2,q2⟩=>?_)
 cases b with
 | true =>
  obtain ⟨N,hN,q2⟩:=q2
  rw [Ze rfl]
  refine X0 hp (thn (hb pins s2 σ1 H2 _ I2 q2) fun f s3 q3=>?_)
  cases f with
  | next =>
   obtain ⟨σ3,H3,I3,n3⟩:=q3
   obtain ⟨m',hm,w3⟩:=hN σ3 H3 n3
   exact ⟨m',hm,σ3,H3,I3,w3⟩
  | cont =>
   obtain ⟨σ3,H3,I3,n3⟩:=q3
   obtain ⟨m',hm,w3⟩:=hN σ3 H3 n3
   exact ⟨m',hm,σ3,H3,I3,w3⟩
  | brk=>exact q3
  | ret v=>exact q3
 | false =>
  rw [Zf Zx]
  exact Wa ⟨σ1,H2,I2,q2⟩
end
structure It where
 go:Nat->Hp->Prop
 yld:Nat->Hp->V->Hp->Prop
 stop:Nat->Hp->Prop
noncomputable def cL (X:Cx) (pins:List (Addr × Obj)) (H:Hp) (b:Addr):Prop :=
 H b=none/\b≠X.env.locals/\b ∉ X.fs/\(b∈X.ex\/X.s₀.heap.objs.size<=b)/\(∀ x c,X.env.cells.lookup x=some c->c≠b)/\∀ p∈X.pn++pins,p.1≠b
theorem Inv.ff {X:Cx} {pins:List (Addr × Obj)} {σ:St} {H H':Hp} {s:Shared} {b:Addr} (I:Inv X pins σ H s) (hb:s.heap.objs.size<=b) (hn:H' b=none):cL X pins H' b:=by
 refine ⟨hn,Qf (ZI I.lt hb),I.HP hb,.inr (ZY I.sz hb),fun x c e z=>?_,fun p hp z=>?_⟩
 ·obtain ⟨v,q⟩:=I.cell x c e
  exact absurd (ZI q.lt (by rw [z]; exact hb)) (XB _)
 ·exact absurd (ZI (Zs (I.pin p hp).1) (by rw [z]; exact hb)) (XB _)
structure Turn (P:Program) (w:World) (K:PySem.W.Frag) (tg:Expr) (J:It) (fp:List Addr) (it:Addr) (tn:Nat->Heap->Prop):Prop where
 mem:it∈fp
 obj:∀ i h,tn i h->∀ b∈fp,∃ o,h.get? b=some o/\∀ v,o.data≠.cell v
 keep:∀ i h h',tn i h->(∀ b∈fp,∀ o,h.get? b=some o->h'.get? b=some o)->tn i h'
 item:∀ (X:Cx),X.prog=P->X.w=w->X.K=K->X.calm=true->∀ (i:Nat) (pins:List (Addr × Obj)) (s:Shared) (σ:St) (H:Hp) (E:Value->Shared->Prop),Inv X pins σ H s->(∀ b∈fp,cL X pins H b)->tn i s.heap->J.go i H ->
  wpAny (model P w) X.A (pyNext (.ref it)) (fun r s1=>∃ u,r=some u /\
   wpAny (model P w) X.A (letOwnedTupleGo tg (.ref it) u) (fun _ s2=>∃ x H',Inv X pins σ H' s2/\RelV x u/\J.yld i H x H'/\tn (i+1) s2.heap/\∀ b∈fp,H' b=none) E s1) E s
 done:∀ (X:Cx),X.prog=P->X.w=w->X.K=K->X.calm=true->∀ (i:Nat) (pins:List (Addr × Obj)) (s:Shared) (σ:St) (H:Hp) (E:Value->Shared->Prop),Inv X pins σ H s->(∀ b∈fp,cL X pins H b)->tn i s.heap->J.stop i H ->
  wpAny (model P w) X.A (pyNext (.ref it)) (fun r s1=>r=none/\Inv X pins σ H s1) E s
 self:∀ (A:Around) (i:Nat) (s:Shared) (Q:Value->Shared->Prop) (E:Value->Shared->Prop),tn i s.heap->Q (.ref it) s->wpAny (model P w) A (pyIter (.ref it)) Q E s
abbrev TI:=St->Hp->(It->Hp->Prop)->Prop
noncomputable def PIE (X:Cx) (pins:List (Addr × Obj)) (σ:St) (tg:Expr) (R:It->Hp->Prop) (itv:Value) (s2:Shared):Prop :=
 ∃ (it:Addr) (fp:List Addr) (tn:Nat->Heap->Prop) (J:It) (H':Hp),itv=.ref it/\Inv X pins σ H' s2/\Turn X.prog X.w X.K tg J fp it tn/\tn 0 s2.heap/\(∀ b∈fp,cL X pins H' b)/\R J H'
noncomputable def PI (X:Cx) (tg iter:Expr) (wi:TI):Prop :=
 ∀ (pins:List (Addr × Obj)) (s:Shared) (σ:St) (H:Hp) (R:It->Hp->Prop),Inv X pins σ H s->wi σ H R ->
  wpAny (model X.prog X.w) X.A (eval iter X.env) (fun v s1=>wpAny (model X.prog X.w) X.A (pyIter v) (PIE X pins σ tg R) X.xe s1) X.xe s
theorem gY {M:Model} {A:Around} {E:Value->Shared->Prop} {s:Shared} {tg:Expr} {it:Addr} {u:Value} {o:Obj} {n:String} {vs:Array Value} {Q:Unit->Shared->Prop} (ho:s.heap.get? it=some o) (hc:o.cls=.type n) (hd:o.data=.fields vs)
  (hn:["enumerate","zip","dict_itemiterator","dict_reverseitemiterator","odict_iterator","itertools.zip_longest","itertools.pairwise"].contains n=false) (hQ:Q () s):wpAny M A (letOwnedTupleGo tg (.ref it) u) Q E s:=by
 unfold letOwnedTupleGo
 cases tg <;> first
  | exact Zc hQ
  | (cases u <;> first
    | exact Zc hQ
    | (
      refine Za (wpAny_load ho ?_)
      rw [hc,hd]
      show wpAny M A (if (["enumerate","zip","dict_itemiterator","dict_reverseitemiterator","odict_iterator","itertools.zip_longest","itertools.pairwise"].contains n&&vs[0]?==some (rawInt _))=true then _ else _) Q E s
      rw [Zf (by intro h; rw [hn,Bool.false_and] at h; cases h)]
      exact Zc hQ))
noncomputable def Itl (K:PySem.W.Frag) (a:Addr):It :=
 ⟨fun i H=>∃ xs x,SqL K H a xs/\xs[i]?=some x,fun i H x H'=>H'=H/\∀ xs,SqL K H a xs->xs[i]?=some x,fun i H=>∃ xs,SqL K H a xs/\xs.length<=i⟩
noncomputable def Itt (K:PySem.W.Frag) (a:Addr):It :=
 ⟨fun i H=>∃ xs x,SqT K H a xs/\xs[i]?=some x,fun i H x H'=>H'=H/\∀ xs,SqT K H a xs->xs[i]?=some x,fun i H=>∃ xs,SqT K H a xs/\xs.length<=i⟩
noncomputable def Itr (lo:Int) (n:Nat):It:=⟨fun i _=>i < n,fun i H x H'=>H'=H/\x=.int (lo+i),fun i _=>n<=i⟩
theorem G4 {P:Program} {w:World} {K:PySem.W.Frag} {tg:Expr} (a it:Addr):Turn P w K tg (Itl K a) [it] it (fun i h=>h.IsListIter it a i) where
 mem:=by simp
 obj:=fun i h st b hb=>by
  have e:b=it:=by simpa using hb
  subst e
  obtain ⟨o,e,c,d⟩:=st
  exact ⟨o,e,fun v z=>by rw [d] at z; cases z⟩
 keep:=fun i h h' st k=>st.at fun o e=>k it (by simp) o e
 item:=by
  intro X hP hw hK hc i pins s σ H E I hf st hg
  subst hP hw hK
  obtain ⟨xs,x,hq,hx⟩:=hg
  obtain ⟨its,rv,p,hz⟩:=I.list hq
  obtain ⟨u,hu,ru⟩:=rv.get hx
  obtain ⟨f0,f1,f2,f3,f4,f5⟩:=hf it (by simp)
  refine wpAny_pyNext_list_item st p.isList (x:=u) (by simpa using hu) fun h' st' sb=>?_
  have I1:Inv X pins σ H { s with heap:=h' }:=I.turned (t':=s.toks) (fun b o hb e=>(sb.2 b hb).trans e) f0 f1 f3 f4 f5
  obtain ⟨o,e,c,d⟩:=id st'
  exact ⟨u,rfl,gY (s:={ s with heap:=h' }) e c d (by decide) ⟨x,H,I1,ru,⟨rfl,fun ys hy=>by rw [I.jK hy hq]; exact hx⟩,st',fun b hb=>(hf b hb).1⟩⟩
 done:=by
  intro X hP hw hK hc i pins s σ H E I hf st hg
  subst hP hw hK
  obtain ⟨xs,hq,hx⟩:=hg
  obtain ⟨its,rv,p,hz⟩:=I.list hq
  obtain ⟨f0,f1,f2,f3,f4,f5⟩:=hf it (by simp)
  have hl:=rv.length
  exact wpAny_pyNext_list_end (I.ok.hd hc) st p.isList (by simp; omega) fun h' eb=>⟨rfl,I.turned (t':=s.toks) (fun b o hb e=>eb b o hb e) f0 f1 f3 f4 f5⟩
 self:=fun _ _ _ _ _ st h=>wpAny_pyIter_listiter st h
theorem yJ {P:Program} {w:World} {K:PySem.W.Frag} {tg:Expr} (a it:Addr):Turn P w K tg (Itt K a) [it] it (fun i h=>h.IsTupleIter it a i) where
 mem:=by simp
 obj:=fun i h st b hb=>by
  have e:b=it:=by simpa using hb
  subst e
  obtain ⟨o,e,c,d⟩:=st
  exact ⟨o,e,fun v z=>by rw [d] at z; cases z⟩
 keep:=fun i h h' st k=>st.at fun o e=>k it (by simp) o e
 item:=by
  intro X hP hw hK hc i pins s σ H E I hf st hg
  subst hP hw hK
  obtain ⟨xs,x,hq,hx⟩:=hg
  obtain ⟨its,rv,p,hz⟩:=I.tuple hq
  obtain ⟨u,hu,ru⟩:=rv.get hx
  obtain ⟨f0,f1,f2,f3,f4,f5⟩:=hf it (by simp)
  refine wpAny_pyNext_tuple_item st (show s.heap.IsTuple a its.toArray from p) (x:=u) (by simpa using hu) fun h' st' sb=>?_
  have I1:Inv X pins σ H { s with heap:=h' }:=I.turned (t':=s.toks) (fun b o hb e=>(sb.2 b hb).trans e) f0 f1 f3 f4 f5
  obtain ⟨o,e,c,d⟩:=id st'
  exact ⟨u,rfl,gY (s:={ s with heap:=h' }) e c d (by decide) ⟨x,H,I1,ru,⟨rfl,fun ys hy=>by rw [I.jl hy hq]; exact hx⟩,st',fun b hb=>(hf b hb).1⟩⟩
 done:=by
  intro X hP hw hK hc i pins s σ H E I hf st hg
  subst hP hw hK
  obtain ⟨xs,hq,hx⟩:=hg
  obtain ⟨its,rv,p,hz⟩:=I.tuple hq
  obtain ⟨f0,f1,f2,f3,f4,f5⟩:=hf it (by simp)
  have hl:=rv.length
  exact wpAny_pyNext_tuple_end (I.ok.hd hc) st (show s.heap.IsTuple a its.toArray from p) (by simp; omega) fun h' eb=>⟨rfl,I.turned (t':=s.toks) (fun b o hb e=>eb b o hb e) f0 f1 f3 f4 f5⟩
 self:=fun _ _ _ _ _ st h=>wpAny_pyIter_tupleiter st h
theorem zm {P:Program} {w:World} {K:PySem.W.Frag} {tg:Expr} (it:Addr) (lo:Int) (n:Nat):Turn P w K tg (Itr lo n) [it] it (fun i h=>IsRangeIter h it (lo+(i:Nat) * 1) ((n:Int) - (i:Nat)) 1) where
 mem:=by simp
 obj:=fun i h st b hb=>by
  have e:b=it:=by simpa using hb
  subst e
  exact ⟨_,st,fun v z=>by
   have z':Data.fields _=Data.cell v:=z
   cases z'⟩
 keep:=fun i h h' st k=>k it (by simp) _ st
 item:=by
  intro X hP hw hK hc i pins s σ H E I hf st hg
  subst hP hw hK
  obtain ⟨f0,f1,f2,f3,f4,f5⟩:=hf it (by simp)
  have W:=Walks.range (prog:=X.prog) (w:=X.w) (I.ok.hd hc) it lo 1 n
  refine W.item i s _ _ hg st fun v h' tk hv st' kk=>?_
  obtain ⟨t,rfl⟩:=hv
  have I1:Inv X pins σ H { s with heap:=h',toks:=tk }:=I.turned (fun b o hb e=>kk b o (by simpa using hb) e) f0 f1 f3 f4 f5
  refine ⟨_,rfl,gY (s:={ s with heap:=h',toks:=tk }) (n:="range_iterator") st' rfl rfl (by decide) ⟨.int (lo+i),H,I1,⟨t,?_⟩,⟨rfl,rfl⟩,st',fun b hb=>(hf b hb).1⟩⟩
  rw [Int.mul_one]
 done:=by
  intro X hP hw hK hc i pins s σ H E I hf st hg
  subst hP hw hK
  obtain ⟨f0,f1,f2,f3,f4,f5⟩:=hf it (by simp)
  exact wpAny_pyNext_range_end (I.ok.hd hc) st (by have:n<=i:=hg; omega) fun h' eb=>⟨rfl,I.turned (t':=s.toks) (fun b o hb e=>eb b o hb e) f0 f1 f3 f4 f5⟩
 self:=fun _ _ _ _ _ st h=>wpAny_pyIter_rangeiter st h
end L2
namespace L2
open PySem PySem.Spec PyProof.Rows
section
variable {X:Cx} {tg:Expr}
theorem oV {pins:List (Addr × Obj)} {σ:St} {H:Hp} {s:Shared} {R:It->Hp->Prop} {E:Value->Shared->Prop} {lo hi:Int} {t u v:Tok} {tk:Nat} (I:Inv X pins σ H s) (h1:-(2 ^ 62)<=lo) (h2:lo < 2 ^ 62) (h3:-(2 ^ 62)<=hi) (h4:hi < 2 ^ 62)
  (q:R (Itr lo (hi - lo).toNat) H):wpAny (model X.prog X.w) X.A (pyIter (.ref s.heap.objs.size)) (PIE X pins σ tg R) E { s with heap:=s.heap.push { cls:=.type "range",data:=.fields #[.int lo t,.int hi u,.int 1 v] },toks:=tk }:=by
 refine wpAny_pyIter_range (IsRange.new ..) (small_one h1 h2 h3 h4) ?_
 have I1:Inv X pins σ H { s with heap:=s.heap.push { cls:=.type "range",data:=.fields #[.int lo t,.int hi u,.int 1 v] },toks:=tk }:=I.kept fun b o e=>Zg _ e
 refine ⟨(s.heap.push { cls:=.type "range",data:=.fields #[.int lo t,.int hi u,.int 1 v] }).objs.size,[(s.heap.push { cls:=.type "range",data:=.fields #[.int lo t,.int hi u,.int 1 v] }).objs.size],_,_,H,rfl,
  I1.kept (t':=tk) fun b o e=>Zg _ e,zm _ lo (hi - lo).toNat,?_,fun b hb=>?_,q⟩
 ·have e1:lo+((0:Nat):Int) * 1=lo:=by simp
  have e2:(((hi - lo).toNat:Nat):Int) - ((0:Nat):Int)=Builtin.Range.rangeSize lo hi 1:=by rw [rangeSize_one]; split <;> omega
  show IsRangeIter _ _ (lo+((0:Nat):Int) * 1) ((((hi - lo).toNat:Nat):Int) - ((0:Nat):Int)) 1
  rw [e1,e2]
  exact Zw _ rfl
 ·have e:b=(s.heap.push { cls:=.type "range",data:=.fields #[.int lo t,.int hi u,.int 1 v] }).objs.size:=by simpa using hb
  subst e
  exact I1.ff (Zk _) (I1.hok.fresh (Zk _))
noncomputable def CI (ta:TA):TI:=fun σ H R=>ta σ H fun vs H1=>∃ j:Int,vs=[.int j]/\-(2 ^ 62)<=j/\j < 2 ^ 62/\R (Itr 0 j.toNat) H1
noncomputable def Fi (ta:TA):TI:=fun σ H R=>ta σ H fun vs H1=>∃ i j:Int,vs=[.int i,.int j]/\(-(2 ^ 62)<=i/\i < 2 ^ 62/\-(2 ^ 62)<=j/\j < 2 ^ 62)/\R (Itr i (j - i).toNat) H1
theorem G5 {a:Expr} {ta:TA} {p pos:Pos} (hg:Gl X "range") (hm:X.mg "range" = none) (ha:PA X [a] ta) (hs:starEach [a] X.env=[(false,eval a X.env)]:=by rfl):PI X tg (.Call (.Name "range" p) [a] [] pos) (CI ta):=by
 intro pins s σ H R I h
 refine Call_ (cO I hg hm boot_range (Z1 (thn (ha pos pins s σ H _ I h) fun us s1 ⟨vs,H1,I1,r1,q1⟩=>?_) hs rfl))
 obtain ⟨j,e,q1,q2,q⟩:=q1
 subst e
 cases r1 with
 | cons r rr =>
  cases rr
  obtain ⟨t,rfl⟩:=r
  exact call_range_1 (oV I1 (by omega) (by omega) q1 q2 (by simpa using q))
theorem DU {a b:Expr} {ta:TA} {p pos:Pos} (hg:Gl X "range") (hm:X.mg "range" = none) (ha:PA X [a,b] ta) (hs:starEach [a,b] X.env=[(false,eval a X.env),(false,eval b X.env)]:=by rfl) (hs2:starEach [b] X.env=[(false,eval b X.env)]:=by rfl) :
  PI X tg (.Call (.Name "range" p) [a,b] [] pos) (Fi ta):=by
 intro pins s σ H R I h
 refine Call_ (cO I hg hm boot_range (Z1 (thn (ha pos pins s σ H _ I h) fun us s1 ⟨vs,H1,I1,r1,q1⟩=>?_) (by rw [hs,hs2]) (by rw [hs2]; rfl)))
 obtain ⟨i,j,e,⟨q1,q2,q3,q4⟩,q⟩:=q1
 subst e
 cases r1 with
 | cons r rr =>
  cases rr with
  | cons r' rr =>
   cases rr
   obtain ⟨t,rfl⟩:=r
   obtain ⟨t',rfl⟩:=r'
   exact call_range_2 (oV I1 q1 q2 q3 q4 q)
noncomputable def vn (wi:TI) (g:TG) (tb:TS):TS:=fun D σ H=>wi σ H fun J H1=>∃ W:Nat->Nat->St->Hp->Prop,(∃ m,W 0 m σ H1)/\∀ i m σ H,W i m σ H ->
 (J.stop i H/\D.nx σ H)\/(J.go i H/\∃ N:St->Hp->Prop,(∀ σ' H',N σ' H'->∃ m',m' < m/\W (i+1) m' σ' H')/\∀ x H',J.yld i H x H'->g x σ H' fun σ2 H2=>tb { D with nx:=N,ct:=N,bk:=D.nx } σ2 H2)
noncomputable def g8 (fp:List Addr) (h:Heap):List (Addr × Obj):=fp.filterMap fun b=>(h.get? b).map fun o=>(b,o)
theorem jP {fp:List Addr} {h:Heap} {b:Addr} {o:Obj} (hb:b∈fp) (e:h.get? b=some o):(b,o)∈g8 fp h:=Qk.mpr ⟨b,hb,by rw [e]; rfl⟩
theorem A6 {fp:List Addr} {h:Heap} {p:Addr × Obj} (hp:p∈g8 fp h):p.1∈fp/\h.get? p.1=some p.2:=by
 obtain ⟨b,hb,e⟩:=Qk.mp hp
 cases q:h.get? b with
 | none=>rw [q] at e; cases e
 | some o =>
  rw [q] at e
  have e':(b,o)=p:=ZW e
  subst e'
  exact ⟨hb,q⟩
theorem Inv.pinned {pins:List (Addr × Obj)} {σ:St} {H:Hp} {s:Shared} {fp:List Addr} (I:Inv X pins σ H s) (hf:∀ b∈fp,cL X pins H b) (ho:∀ b∈fp,∃ o,s.heap.get? b=some o/\∀ v,o.data≠.cell v):Inv X (pins++g8 fp s.heap) σ H s :=
 I.ua fun p hp=>(ZR.mp hp).elim (fun z=>I.pin p (Z3 _ z)) fun z=>by
  obtain ⟨hb,e⟩:=A6 z
  obtain ⟨f0,f1,f2,_⟩:=hf p.1 hb
  obtain ⟨o,e',d⟩:=ho p.1 hb
  rw [e] at e'; cases e'
  exact ⟨e,f0,f1,f2,d⟩
theorem Inv.jr {pins pl:List (Addr × Obj)} {σ:St} {H:Hp} {s:Shared} (I:Inv X (pins++pl) σ H s):Inv X pins σ H s:=I.ua fun p hp=>I.pin p (Z3 _ (X9 _ hp))
theorem BX {iter:Expr} {body:List Stmt} {wi:TI} {g:TG} {tb:TS} {pos:Pos} (hp:PassesOwn (model X.prog X.w) X.A X.env X.xe) (hc:X.calm=true) (hi:PI X tg iter wi) (hg:PG X tg g) (hb:PSs X body tb)
  (hs:∀ x,foldedSetIterable iter X.env x=pure x:=by intro _; rfl):PS X (.For tg iter body [] pos) (vn wi g tb):=by
 intro pins s σ H D I h
 refine wpAny_For (thn (hi pins s σ H _ I h) fun v s1 h1=>thn h1 fun itv s2 h2=>?_) hs
 obtain ⟨it,fp,tn,J,H2,e,I2,T,st2,f2,W,⟨m0,w0⟩,turn⟩:=h2
 subst e
 have stat:∀ {H':Hp},(∀ b∈fp,H' b=none)->∀ b∈fp,cL X pins H' b:=fun hn b hb=>⟨hn b hb,(f2 b hb).2⟩
 refine codeAny_forLoop_any (fun n s'=>∃ i σ' H',Inv X pins σ' H' s'/\tn i s'.heap/\(∀ b∈fp,H' b=none)/\W i n σ' H') ?_ m0 ⟨0,σ,H2,I2,st2,fun b hb=>(f2 b hb).1,w0⟩
 rintro n s3 ⟨i,σ3,H3,I3,st3,fr3,w3⟩
 rcases turn i n σ3 H3 w3 with ⟨stop,qn⟩|⟨go,N,hN,step⟩
 ·refine X0 hp (thn (T.done X rfl rfl rfl hc i pins s3 σ3 H3 X.xe I3 (stat fr3) st3 stop) fun r s4 ⟨hr,I4⟩=>?_)
  subst hr
  exact Wa ⟨σ3,H3,I4,qn⟩
 ·refine X0 hp (thn (T.item X rfl rfl rfl hc i pins s3 σ3 H3 X.xe I3 (stat fr3) st3 go) fun r s4 ⟨u,hr,h4⟩=>?_)
  subst hr
  refine X0 hp (thn h4 fun _ s5 ⟨x,H5,I5,r5,y5,st5,fr5⟩=>?_)
  have I5':=I5.pinned (stat fr5) (T.obj _ _ st5)
  refine X0 hp (thn (hg _ s5 σ3 H5 x u _ I5' r5 (step x H5 y5)) fun _ s6 ⟨σ6,H6,I6,q6⟩=>?_)
  refine X0 hp (thn (hb _ s6 σ6 H6 _ I6 q6) fun f s7 q7=>?_)
  have again:∀ {σ7:St} {H7:Hp},Inv X (pins++g8 fp s5.heap) σ7 H7 s7->N σ7 H7->∃ m,m < n/\∃ i σ' H',Inv X pins σ' H' s7/\tn i s7.heap/\(∀ b∈fp,H' b=none)/\W i m σ' H':=fun {σ7 H7} I7 n7=>by
   obtain ⟨m',hm,w7⟩:=hN σ7 H7 n7
   refine ⟨m',hm,i+1,σ7,H7,I7.jr,T.keep _ _ _ st5 fun b hb o e=>(I7.pin (b,o) (Z3 _ (Z3 _ (jP hb e)))).1,fun b hb=>?_,w7⟩
   obtain ⟨o,e,d⟩:=T.obj _ _ st5 b hb
   exact (I7.pin (b,o) (Z3 _ (Z3 _ (jP hb e)))).2.1
  cases f with
  | next=>obtain ⟨σ7,H7,I7,n7⟩:=q7; exact again I7 n7
  | cont=>obtain ⟨σ7,H7,I7,n7⟩:=q7; exact again I7 n7
  | brk=>obtain ⟨σ7,H7,I7,q7⟩:=q7; exact ⟨σ7,H7,I7.jr,q7⟩
  | ret v=>obtain ⟨x7,σ7,H7,I7,r7,q7⟩:=q7; exact ⟨x7,σ7,H7,I7.jr,r7,q7⟩
end
end L2
namespace L2
open PySem PySem.Spec PyProof.Rows
abbrev R2:=V->V->Hp->VK->Prop
noncomputable def OpR (X:Cx) (f:Value->Value->Sem Value) (r:R2):Prop :=
 ∀ (pins:List (Addr × Obj)) (s:Shared) (σ:St) (H:Hp) (x y:V) (v u:Value) (Q:VK),Inv X pins σ H s->RelV x v->RelV y u->r x y H Q ->
  wpAny (model X.prog X.w) X.A (f v u) (EP X pins σ Q) X.xe s
noncomputable def UnR (X:Cx) (f:Value->Sem Value) (r:V->Hp->VK->Prop):Prop :=
 ∀ (pins:List (Addr × Obj)) (s:Shared) (σ:St) (H:Hp) (x:V) (v:Value) (Q:VK),Inv X pins σ H s->RelV x v->r x H Q ->
  wpAny (model X.prog X.w) X.A (f v) (EP X pins σ Q) X.xe s
noncomputable def b5 (X:Cx) (f:Value) (r:List V->Hp->VK->Prop):Prop :=
 ∀ (pins:List (Addr × Obj)) (s:Shared) (σ:St) (H:Hp) (xs:List V) (us:List Value) (Q:VK),Inv X pins σ H s->Vals xs us->r xs H Q ->
  wpAny (model X.prog X.w) X.A (call f us) (EP X pins σ Q) X.xe s
noncomputable def oR (X:Cx) (r:V->Hp->(Bool->Hp->Prop)->Prop):Prop :=
 ∀ (pins:List (Addr × Obj)) (s:Shared) (σ:St) (H:Hp) (x:V) (v:Value) (Q:Bool->Hp->Prop),Inv X pins σ H s->RelV x v->r x H Q ->
  wpAny (model X.prog X.w) X.A (truthy v) (TP X pins σ Q) X.xe s
noncomputable def tOp (r:R2) (ta tb:TE):TE:=fun σ H Q=>ta σ H fun x H1=>tb σ H1 fun y H2=>r x y H2 Q
noncomputable def tUn (r:V->Hp->VK->Prop) (ta:TE):TE:=fun σ H Q=>ta σ H fun x H1=>r x H1 Q
noncomputable def rI (C:Int->Int->Prop) (g:Int->Int->V):R2:=fun x y H Q=>∃ i j,x=.int i/\y=.int j/\C i j/\Q (g i j) H
noncomputable def rI0 (g:Int->Int->V):R2:=fun x y H Q=>∃ i j,x=.int i/\y=.int j/\Q (g i j) H
noncomputable def rU (g:Int->V):V->Hp->VK->Prop:=fun x H Q=>∃ i,x=.int i/\Q (g i) H
section
variable {X:Cx} {a b c:Expr} {ta tb tc:TE} {pos:Pos}
theorem kE (ha:PE X a ta) (hb:PE X b tb) {pins:List (Addr × Obj)} {s:Shared} {σ:St} {H:Hp} {R:V->V->Hp->Prop} (I:Inv X pins σ H s)
  (h:ta σ H fun x H1=>tb σ H1 fun y H2=>R x y H2) {Q:Value->Shared->Prop} {f:Value->Value->Sem Value}
  (hf:∀ v u s2 x y H2,Inv X pins σ H2 s2->RelV x v->RelV y u->R x y H2->wpAny (model X.prog X.w) X.A (f v u) Q X.xe s2) :
  wpAny (model X.prog X.w) X.A (eval a X.env) (fun v s₁=>wpAny (model X.prog X.w) X.A (eval b X.env) (fun u s₂=>wpAny (model X.prog X.w) X.A (f v u) Q X.xe s₂) X.xe s₁) X.xe s:=by
 refine thn (ha pins s σ H _ I h) fun v s1 ⟨x,H1,I1,r1,q1⟩=>?_
 refine thn (hb pins s1 σ H1 _ I1 q1) fun u s2 ⟨y,H2,I2,r2,q2⟩=>?_
 exact hf v u s2 x y H2 I2 r1 r2 q2
theorem ze {op:Operator} {r:R2} (ho:OpR X (binaryOp op) r) (ha:PE X a ta) (hb:PE X b tb):PE X (.BinOp a op b pos) (tOp r ta tb):=by
 intro pins s σ H Q I h
 exact wpAny_BinOp (kE ha hb I h fun v u s2 x y H2 I2 rx ry q=>ho pins s2 σ H2 x y v u Q I2 rx ry q)
theorem yx {op:UnaryOp} {r:V->Hp->VK->Prop} (ho:UnR X (unaryOp op) r) (ha:PE X a ta):PE X (.UnaryOp op a pos) (tUn r ta):=by
 intro pins s σ H Q I h
 exact UnaryOp_ (thn (ha pins s σ H _ I h) fun v s1 ⟨x,H1,I1,r1,q1⟩=>ho pins s1 σ H1 x v Q I1 r1 q1)
theorem opI {f:Value->Value->Sem Value} {C:Int->Int->Prop} {g:Int->Int->Int}
  (rule:∀ (i j:Int) (t u:Tok) (s:Shared) (Q:Value->Shared->Prop) (E:Value->Shared->Prop),C i j->Q (.int (g i j) s.toks) { s with toks:=s.toks+1 }->wpAny (model X.prog X.w) X.A (f (.int i t) (.int j u)) Q E s) :
  OpR X f (rI C fun i j=>.int (g i j)):=by
 intro pins s σ H x y v u Q I rx ry h
 obtain ⟨i,j,rfl,rfl,hc,q⟩:=h
 obtain ⟨t,rfl⟩:=rx
 obtain ⟨t',rfl⟩:=ry
 exact rule i j t t' s _ _ hc ⟨.int (g i j),H,I.tok _,⟨_,rfl⟩,q⟩
theorem vt {f:Value->Value->Sem Value} {g:Int->Int->Int}
  (rule:∀ (i j:Int) (t u:Tok) (s:Shared) (Q:Value->Shared->Prop) (E:Value->Shared->Prop),Q (.int (g i j) s.toks) { s with toks:=s.toks+1 }->wpAny (model X.prog X.w) X.A (f (.int i t) (.int j u)) Q E s) :
  OpR X f (rI0 fun i j=>.int (g i j)):=by
 intro pins s σ H x y v u Q I rx ry h
 obtain ⟨i,j,rfl,rfl,q⟩:=h
 obtain ⟨t,rfl⟩:=rx
 obtain ⟨t',rfl⟩:=ry
 exact rule i j t t' s _ _ ⟨.int (g i j),H,I.tok _,⟨_,rfl⟩,q⟩
theorem jS {f:Value->Value->Sem Value} {g:Int->Int->Bool}
  (rule:∀ (i j:Int) (t u:Tok) (s:Shared) (Q:Value->Shared->Prop) (E:Value->Shared->Prop),Q (.bool (g i j)) s->wpAny (model X.prog X.w) X.A (f (.int i t) (.int j u)) Q E s) :
  OpR X f (rI0 fun i j=>.bl (g i j)):=by
 intro pins s σ H x y v u Q I rx ry h
 obtain ⟨i,j,rfl,rfl,q⟩:=h
 obtain ⟨t,rfl⟩:=rx
 obtain ⟨t',rfl⟩:=ry
 exact rule i j t t' s _ _ ⟨.bl (g i j),H,I,rfl,q⟩
noncomputable def zA (i j:Int):Prop:=0 < j/\j < 1073741824
noncomputable def B4 (i j:Int):Prop:=0<=j/\j<=1000000/\i.natAbs < 2 ^ 64
noncomputable def kF (i j:Int):Prop:=(-(2 ^ 64) < i/\i < 2 ^ 64)\/(-(2 ^ 64) < j/\j < 2 ^ 64)
theorem kF.ok {i j:Int} (h:kF i j):IntMulOk i j:=by
 rcases h with ⟨h1,h2⟩|⟨h1,h2⟩
 ·exact .of_left (intBits_le_64 h1 h2)
 ·exact .of_right (intBits_le_64 h1 h2)
theorem Cy:OpR X (binaryOp .Add) (rI0 fun i j=>.int (i+j)):=vt fun _ _ _ _ _ _ _ q=>add_int q
theorem Hg:OpR X (binaryOp .Sub) (rI0 fun i j=>.int (i - j)):=vt fun _ _ _ _ _ _ _ q=>sub_int q
theorem GJ:OpR X (binaryOp .Mult) (rI kF fun i j=>.int (i * j)):=opI fun _ _ _ _ _ _ _ hc q=>mul_int q hc.ok
theorem Bs:OpR X (binaryOp .FloorDiv) (rI zA fun i j=>.int (i / j)):=opI fun i j _ _ _ _ _ hc q=>by
 have h1:(0:Int) < j:=hc.1
 have h2:j < 1073741824:=hc.2
 exact floordiv_int (by omega) (by rw [Int.fdiv_eq_ediv_of_nonneg i (by omega)]; exact q) (.inl (PyProof.noPylong_small (by omega)))
theorem wW:OpR X (binaryOp .Mod) (rI (fun _ j=>0 < j) fun i j=>.int (i % j)):=opI fun i j _ _ _ _ _ hc q=>by
 have h1:(0:Int) < j:=hc
 exact mod_int' (by omega) (by rw [Int.fmod_eq_emod_of_nonneg i (by omega)]; exact q)
theorem BK:OpR X (binaryOp .Pow) (rI B4 fun i j=>.int (i ^ j.toNat)):=opI fun _ _ _ _ _ _ _ hc q=>pow_int_small hc.1 hc.2.1 hc.2.2 q
theorem unI {f:Value->Sem Value} {g:Int->Int}
  (rule:∀ (i:Int) (t:Tok) (s:Shared) (Q:Value->Shared->Prop) (E:Value->Shared->Prop),Q (.int (g i) s.toks) { s with toks:=s.toks+1 }->wpAny (model X.prog X.w) X.A (f (.int i t)) Q E s) :
  UnR X f (rU fun i=>.int (g i)):=by
 intro pins s σ H x v Q I rx h
 obtain ⟨i,rfl,q⟩:=h
 obtain ⟨t,rfl⟩:=rx
 exact rule i t s _ _ ⟨.int (g i),H,I.tok _,⟨_,rfl⟩,q⟩
theorem Cn:UnR X (unaryOp .USub) (rU fun i=>.int (-i)):=unI fun _ _ _ _ _ q=>neg_int q
end
noncomputable def pJ:V->V->Bool
 | .non,.non=>true|.non,.int _=>true|.int _,.non=>true|.non,.bl _=>true|.bl _,.non=>true|.non,.str _=>true|.str _,.non=>true
 | .int _,.int _=>true|.bl _,.bl _=>true|.str _,.str _=>true|.byt _,.byt _=>true
 | .int _,.str _=>true|.str _,.int _=>true|.bl _,.str _=>true|.str _,.bl _=>true
 | _,_=>false
noncomputable def rNe:R2:=fun x y H Q=>pJ x y=true/\Q (.bl (!decide (x=y))) H
theorem mF {i j:Int}:decide (V.int i=V.int j)=(i==j):=by
 rw [X1]
 simp
theorem rK {i j:Bool}:decide (V.bl i=V.bl j)=(i==j):=by
 rw [X1]
 simp
theorem se {i j:Str}:decide (V.str i=V.str j)=(i==j):=by
 rw [X1]
 simp
theorem B9 {i j:Array UInt8}:decide (V.byt i=V.byt j)=(i.toList==j.toList):=by
 rw [X1]
 cases i
 cases j
 simp
section
variable {X:Cx} {a b c:Expr} {ta tb tc:TE} {pos:Pos}
theorem bZ {pins:List (Addr × Obj)} {σ:St} {H:Hp} {s:Shared} {Q:VK} {k k':Bool} (I:Inv X pins σ H s) (q:Q (.bl k) H) (e:k=k'):EP X pins σ Q (.bool k') s:=by
 subst e
 exact ⟨.bl k,H,I,rfl,q⟩
theorem ED:OpR X (compareOp .NotEq) rNe:=by
 intro pins s σ H x y v u Q I rx ry h
 obtain ⟨hs,q⟩:=h
 cases x with
 | non =>
  cases rx
  cases y with
  | non=>cases ry; exact PySem.EqNone.ne_none_none (bZ I q (by simp))
  | bl j=>cases ry; exact PySem.EqNone.ne_none_bool (bZ I q (by simp))
  | int j=>obtain ⟨t',rfl⟩:=ry; exact PySem.EqNone.ne_none_int (bZ I q (by simp))
  | str j=>obtain ⟨t',rfl⟩:=ry; exact PySem.EqNone.ne_none_str (bZ I q (by simp))
  | _=>exact absurd (show false=true from hs) Zx
 | bl i =>
  cases rx
  cases y with
  | non=>cases ry; exact PySem.EqNone.ne_bool_none (bZ I q (by simp))
  | bl j=>cases ry; exact ne_bool (bZ I q (Xm not rK))
  | str j=>obtain ⟨t',rfl⟩:=ry; exact PySem.EqMixed.ne_bool_str (bZ I q (by simp))
  | _=>exact absurd (show false=true from hs) Zx
 | int i =>
  obtain ⟨t,rfl⟩:=rx
  cases y with
  | non=>cases ry; exact PySem.EqNone.ne_int_none (bZ I q (by simp))
  | int j=>obtain ⟨t',rfl⟩:=ry; exact ne_int (bZ I q (Xm not mF))
  | str j=>obtain ⟨t',rfl⟩:=ry; exact PySem.EqMixed.ne_int_str (bZ I q (by simp))
  | _=>exact absurd (show false=true from hs) Zx
 | str i =>
  obtain ⟨t,rfl⟩:=rx
  cases y with
  | non=>cases ry; exact PySem.EqNone.ne_str_none (bZ I q (by simp))
  | bl j=>cases ry; exact PySem.EqMixed.ne_str_bool (bZ I q (by simp))
  | int j=>obtain ⟨t',rfl⟩:=ry; exact PySem.EqMixed.ne_str_int (bZ I q (by simp))
  | str j=>obtain ⟨t',rfl⟩:=ry; exact ne_str (bZ I q (Xm not se))
  | _=>exact absurd (show false=true from hs) Zx
 | byt i =>
  obtain ⟨t,rfl⟩:=rx
  cases y with
  | byt j=>obtain ⟨t',rfl⟩:=ry; exact PySem.W.ne_bytes (bZ I q (Xm not B9))
  | _=>exact absurd (show false=true from hs) Zx
 | _=>cases y <;> exact absurd (show false=true from hs) Zx
theorem Cc:OpR X (compareOp .Lt) (rI0 fun i j=>.bl (decide (i < j))):=jS fun _ _ _ _ _ _ _ q=>lt_int q
theorem Ey:OpR X (compareOp .LtE) (rI0 fun i j=>.bl (decide (i<=j))):=jS fun _ _ _ _ _ _ _ q=>le_int q
theorem HV:OpR X (compareOp .Gt) (rI0 fun i j=>.bl (decide (j < i))):=jS fun _ _ _ _ _ _ _ q=>gt_int q
theorem GQ:OpR X (compareOp .GtE) (rI0 fun i j=>.bl (decide (j<=i))):=jS fun _ _ _ _ _ _ _ q=>ge_int q
theorem G7 {op:CmpOp} {r:R2} (ho:OpR X (compareOp op) r) (ha:PE X a ta) (hb:PE X b tb) (hm:behindInMarks op b=false):PE X (.Compare a [op] [b] pos) (tOp r ta tb):=by
 intro pins s σ H Q I h
 exact wpAny_Compare1 (kE ha hb I h fun v u s2 x y H2 I2 rx ry q=>ho pins s2 σ H2 x y v u Q I2 rx ry q) hm
noncomputable def tH (t:TE):TT:=fun σ H Q=>t σ H fun x H'=>∃ k,x=.bl k/\Q k H'
theorem A1 {op:CmpOp} {r:R2} (ho:OpR X (compareOp op) r) (ha:PE X a ta) (hb:PE X b tb) (hm:behindInMarks op b=false):PT X (.Compare a [op] [b] pos) (tH (tOp r ta tb)):=by
 intro pins s σ H Q I h
 refine wpAny_isTrue_Compare1 (thn (ha pins s σ H _ I h) fun v s1 ⟨x,H1,I1,r1,q1⟩=>thn (hb pins s1 σ H1 _ I1 q1) fun u s2 ⟨y,H2,I2,r2,q2⟩ =>
  thn (ho pins s2 σ H2 x y v u _ I2 r1 r2 q2) fun c s3 ⟨z,H3,I3,r3,k,e,q3⟩=>?_) hm
 subst e
 cases r3
 exact Xe ⟨H3,I3,q3⟩
noncomputable def qL (r r':R2) (ta tb tc:TE):TE:=fun σ H Q=>ta σ H fun x H1=>tb σ H1 fun y H2=>r x y H2 fun z H3=>∃ k,z=.bl k /\
 (if k=true then tc σ H3 fun w' H4=>r' y w' H4 Q else Q (.bl false) H3)
theorem Bw {op op':CmpOp} {r r':R2} (ho:OpR X (compareOp op) r) (ho':OpR X (compareOp op') r') (ha:PE X a ta) (hb:PE X b tb) (hc:PE X c tc)
  (hm:lastMarks [op,op'] [b,c]=false:=by with_unfolding_all rfl):PE X (.Compare a [op,op'] [b,c] pos) (qL r r' ta tb tc):=by
 intro pins s σ H Q I h
 refine Compare_chain (thn (ha pins s σ H _ I h) fun v s1 ⟨x,H1,I1,r1,q1⟩=>chain_link (thn (hb pins s1 σ H1 _ I1 q1) fun u s2 ⟨y,H2,I2,r2,q2⟩ =>
  thn (ho pins s2 σ H2 x y v u _ I2 r1 r2 q2) fun d s3 ⟨z,H3,I3,r3,k,e,q3⟩=>?_)) hm
 subst e
 cases r3
 refine Xe ?_
 cases k with
 | false=>exact ite_ff ⟨.bl false,H3,I3,rfl,q3⟩
 | true=>exact ite_tt (chain_last (thn (hc pins s3 σ H3 _ I3 q3) fun w' s4 ⟨z',H4,I4,r4,q4⟩=>ho' pins s4 σ H4 y z' u w' Q I4 r2 r4 q4))
theorem wB {op op':CmpOp} {r r':R2} (ho:OpR X (compareOp op) r) (ho':OpR X (compareOp op') r') (ha:PE X a ta) (hb:PE X b tb) (hc:PE X c tc)
  (hm:lastMarks [op,op'] [b,c]=false:=by with_unfolding_all rfl):PT X (.Compare a [op,op'] [b,c] pos) (tH (qL r r' ta tb tc)):=by
 intro pins s σ H Q I h
 refine isTrue_chain (thn (ha pins s σ H _ I h) fun v s1 ⟨x,H1,I1,r1,q1⟩=>test_link (thn (hb pins s1 σ H1 _ I1 q1) fun u s2 ⟨y,H2,I2,r2,q2⟩ =>
  thn (ho pins s2 σ H2 x y v u _ I2 r1 r2 q2) fun d s3 ⟨z,H3,I3,r3,k,e,q3⟩=>?_)) hm
 subst e
 cases r3
 refine Xe ?_
 cases k with
 | false =>
  obtain ⟨k',e',q'⟩:=q3
  cases e'
  exact ite_ff ⟨H3,I3,q'⟩
 | true =>
  refine ite_tt (test_last (thn (hc pins s3 σ H3 _ I3 q3) fun w' s4 ⟨z',H4,I4,r4,q4⟩=>thn (ho' pins s4 σ H4 y z' u w' _ I4 r2 r4 q4) fun d' s5 ⟨z2,H5,I5,r5,k2,e2,q5⟩=>?_))
  subst e2
  cases r5
  exact Xe ⟨H5,I5,q5⟩
noncomputable def Ax (K:PySem.W.Frag) (x:V) (H:Hp) (k:Bool):Prop :=
 match x with
 | .non=>k=false
 | .bl b=>k=b
 | .int i=>k=(i != 0)
 | .str y=>y.length<=sizeLine/\k=((y.length:Int) != 0)
 | .byt y=>y.size<=sizeLine/\k=((y.size:Int) != 0)
 | .ref p=>(∃ xs,SqL K H p xs/\k=!xs.isEmpty)\/(∃ xs,SqT K H p xs/\k=!xs.isEmpty)\/∃ kvs,H p=some (.dK kvs)/\k=!kvs.isEmpty
 | _=>False
theorem B0 {κ:Type} {kvs:List (κ × V)} {vs:List (κ × Value)} (r:KV kvs vs):(!vs.isEmpty)=!kvs.isEmpty:=by
 cases r <;> rfl
theorem pF {xs:List V} {its:List Value} (r:Vals xs its):(!its.toArray.isEmpty)=!xs.isEmpty:=by
 cases r <;> simp
theorem jN:(sizeLine:Nat) < 2 ^ 63:=by rw [Qb]; decide
theorem zV:oR X (fun x H Q=>∃ k,Ax X.K x H k/\Q k H):=by
 intro pins s σ H x v Q I rx h
 obtain ⟨k,e,q⟩:=h
 have hl:=jN
 have hs:sizeLine=16777216:=Qb
 cases x with
 | non =>
  cases rx
  have e':k=false:=e
  subst e'
  exact truthy_none ⟨H,I,q⟩
 | bl b =>
  cases rx
  have e':k=b:=e
  subst e'
  exact Xe ⟨H,I,q⟩
 | int i =>
  obtain ⟨t,rfl⟩:=rx
  have e':k=(i != 0):=e
  subst e'
  exact PySem.P.truthy_int ⟨H,I,q⟩
 | str y =>
  obtain ⟨t,rfl⟩:=rx
  obtain ⟨hy,e'⟩:y.length<=sizeLine/\k=((y.length:Int) != 0):=e
  subst e'
  exact PySem.P.truthy_str (by omega) ⟨H,I.tok _,q⟩
 | byt y =>
  obtain ⟨t,rfl⟩:=rx
  obtain ⟨hy,e'⟩:y.size<=sizeLine/\k=((y.size:Int) != 0):=e
  subst e'
  exact PySem.W.truthy_bytes (by omega) ⟨H,I.tok _,q⟩
 | ref p =>
  cases rx
  have e':(∃ xs,SqL X.K H p xs/\k=!xs.isEmpty)\/(∃ xs,SqT X.K H p xs/\k=!xs.isEmpty)\/∃ kvs,H p=some (.dK kvs)/\k=!kvs.isEmpty:=e
  rcases e' with ⟨xs,hx,e'⟩|⟨xs,hx,e'⟩|⟨kvs,hx,e'⟩
  ·subst e'
   obtain ⟨its,r,pl,hz⟩:=I.list hx
   have hlen:=r.length
   exact wpAny_truthy_list pl.isList (by simp only [Zi]; omega) ⟨H,I.tok _,by rw [pF r]; exact q⟩
  ·subst e'
   obtain ⟨its,r,pl,hz⟩:=I.tuple hx
   have hlen:=r.length
   exact truthy_tuple pl (by simp only [Zi]; omega) ⟨H,I.tok _,by rw [pF r]; exact q⟩
  ·subst e'
   obtain ⟨hz,hS,vs,r,m⟩:kvs.length<=sizeLine/\(p==sysModules)=false/\∃ vs,KV kvs vs/\s.heap.DictOf (bF X.prog X.w) p vs:=I.hok p _ hx
   have hlen:kvs.length=vs.length:=Q5 r
   exact wpAny_truthy_dict hS m (by omega) ⟨H,I.tok _,by rw [B0 r]; exact q⟩
 | _=>exact (show False from e).elim
theorem Aq:OpR X (binaryOp .Add) (fun x y H Q=>∃ i j,x=.str i/\y=.str j/\i.length+j.length<=sizeLine/\Q (.str (i++j)) H):=by
 intro pins s σ H x y v u Q I rx ry h
 obtain ⟨i,j,rfl,rfl,hz,q⟩:=h
 obtain ⟨t,rfl⟩:=rx
 obtain ⟨t',rfl⟩:=ry
 exact add_str (fun t' tk=>⟨.str (i++j),H,I.tok _,⟨_,rfl⟩,q⟩) hz
theorem vals1 {x:V} {us:List Value} (r:Vals [x] us):∃ u,us=[u]/\RelV x u:=by
 cases r with
 | cons r1 r2=>cases r2; exact ⟨_,rfl,r1⟩
theorem vals2 {x y:V} {us:List Value} (r:Vals [x,y] us):∃ u w',us=[u,w']/\RelV x u/\RelV y w':=by
 cases r with
 | cons r1 r2 =>
  cases r2 with
  | cons r3 r4=>cases r4; exact ⟨_,_,rfl,r1,r3⟩
theorem yW (hc:X.calm=true):b5 X (.builtin "max") (fun xs H Q=>∃ i j,xs=[.int i,.int j]/\Q (.int (if j > i then j else i)) H):=by
 intro pins s σ H xs us Q I r h
 obtain ⟨i,j,rfl,q⟩:=h
 obtain ⟨u,w',rfl,⟨t,rfl⟩,⟨t',rfl⟩⟩:=vals2 r
 refine max_two_ints (I.ok.hd hc) fun h' tk k=>⟨_,H,I.kept k,?_,q⟩
 by_cases hj:j > i
 ·rw [Ze hj,Ze hj]; exact ⟨_,rfl⟩
 ·rw [Zf hj,Zf hj]; exact ⟨_,rfl⟩
theorem FT (hc:X.calm=true):b5 X (.builtin "min") (fun xs H Q=>∃ i j,xs=[.int i,.int j]/\Q (.int (if j < i then j else i)) H):=by
 intro pins s σ H xs us Q I r h
 obtain ⟨i,j,rfl,q⟩:=h
 obtain ⟨u,w',rfl,⟨t,rfl⟩,⟨t',rfl⟩⟩:=vals2 r
 refine min_two_ints (I.ok.hd hc) fun h' tk k=>⟨_,H,I.kept k,?_,q⟩
 by_cases hj:j < i
 ·rw [Ze hj,Ze hj]; exact ⟨_,rfl⟩
 ·rw [Zf hj,Zf hj]; exact ⟨_,rfl⟩
end
end L2
namespace L2
open PySem PySem.Spec PyProof.Rows
structure Ip (h:Heap) (x dx C:Addr) (mA:Str->Option Value):Prop where
 obj:h.get? x=some (PySem.W.instObj C dx)
 ns:h.Ns1 dx mA
 ne:dx≠x
section
variable {prog:Program} {w:World} {A:Around} {E:Value->Shared->Prop} {s:Shared} {K:PySem.W.Frag} {x dx C f:Addr} {mA:Str->Option Value} {name:Str} {v:Value}
end
theorem dc.some_of {v:V} {o:Option Value} (r:dc (some v) o):∃ u,o=some u/\RelV v u:=by
 cases o with
 | none=>exact (show False from r).elim
 | some u=>exact ⟨u,rfl,r⟩
section
variable {P:Program} {w:World} {H H':Hp} {h h':Heap} {a C dx:Addr} {fs fs':List (Str × V)}
end
structure Cls (K:PySem.W.Frag) (C:Addr):Prop where
 pg:PySem.W.plainGet K C Str.empty=true
 hd:PySem.W.hasDictIn K C=true
 po:PySem.W.plainOver K C=true
 sa:PySem.W.findIn K (.ref C) "__setattr__" = some (some (.builtin "object.__setattr__"))
structure Con (K:PySem.W.Frag) (C:Addr) (f:Str) (v:V) (u:Value):Prop where
 at_:PySem.W.findIn K (.ref C) f=some (some u)
 rel:RelV v u
 get:PySem.W.specialIn K u "__get__" = some none
 cp:PySem.W.copiedNames.contains f=false
section
variable {X:Cx} {pins:List (Addr × Obj)} {σ:St} {H:Hp} {s:Shared} {a C dx:Addr} {fs:List (Str × V)} {f:Str} {v:V} {A:Around} {E:Value->Shared->Prop}
end
section
variable {X:Cx} {o e value:Expr} {f:Str} {pos pos' tpos:Pos} {ta tv:TE}
end
section
variable {X:Cx} {pins:List (Addr × Obj)} {σ:St} {H:Hp} {s:Shared} {A:Around} {E:Value->Shared->Prop} {Q:Value->Shared->Prop} {c:Value} {b:Bool}
inductive cY (K:PySem.W.Frag) (H:Hp):V->Value->Prop where
 | non:cY K H .non (.type "NoneType")
 | bl (x:Bool):cY K H (.bl x) (.type "bool")
 | int (i:Int):cY K H (.int i) (.type "int")
 | str (x:Str):cY K H (.str x) (.type "str")
 | flt (x:UInt64):cY K H (.flt x) (.type "float")
 | lst {a:Addr} {xs:List V} (e:H a=some (.lst xs)):cY K H (.ref a) (.type "list")
 | frz {a:Addr} {o:Obj} {xs:List V} (e:H a=some (.frz o (.lst xs))):cY K H (.ref a) (.type "list")
 | tup {a:Addr} {xs:List V} (e:H a=some (.tup xs)):cY K H (.ref a) (.type "tuple")
 | dK {a:Addr} {kvs:List (Key × V)} (e:H a=some (.dK kvs)):cY K H (.ref a) (.type "dict")
 | dT {a:Addr} {kvs:List (List Key × V)} (e:H a=some (.dT kvs)):cY K H (.ref a) (.type "dict")
 | ins {a C dx:Addr} {fs:List (Str × V)} (e:H a=some (.ins C dx fs)) (cl:Cls K C) (ha:PySem.W.findIn K (.ref C) "__class__" = some (some (.builtin "object.__class__")))
   (hn:PySem.W.specialIn K (.builtin "object.__class__") "__get__" = some (some (.builtin "getset_descriptor.__get__"))) (htk:PySem.W.takesIn K (.builtin "object.__class__")=some true)
   (hm:PySem.W.mroIn K C (.type "object")=some true):cY K H (.ref a) (.ref C)
end
end L2
namespace L2
open PySem PySem.Spec PyProof.Rows
structure bP (k:Nat) (A:Around):Prop where
 hd:A.handled=none
 dp:A.depth+3 * k+5 < recursionLimit
 un:A.units+16 * k+200 < cLine
theorem bP.deeper {k:Nat} {A:Around} (r:bP (k+1) A) (env:Env):bP k (A.deeper env) :=
 ⟨r.hd,by have:=r.dp; show A.depth+1+3 * k+5 < _; omega,by have:=r.un; show A.units+3+16 * k+200 < _; omega⟩
theorem bP.depth {k:Nat} {A:Around} (r:bP k A):A.depth < recursionLimit:=by have:=r.dp; omega
theorem bP.units {k:Nat} {A:Around} (r:bP k A):A.units+64 < cLine:=by have:=r.un; omega
noncomputable def qf:TA:=fun _ H Q=>Q [] H
noncomputable def yg (ta:TE) (tr:TA):TA:=fun σ H Q=>ta σ H fun x H1=>tr σ H1 fun xs H2=>Q (x::xs) H2
section
variable {X:Cx} {e:Expr} {es:List Expr} {te:TE} {t:TA} {pos:Pos}
theorem jJ:PA X [] qf:=fun _ _ _ _ H Q I h=>X8 ⟨[],H,I,.nil,h⟩
theorem gD (ha:PE X e te) (hr:PA X es t) (hs:starEach (e::es) X.env=(false,eval e X.env)::starEach es X.env:=by rfl):PA X (e::es) (yg te t):=by
 intro pos pins s σ H Q I h
 rw [hs]
 show wpAny _ _ (spliced ((false,eval e X.env)::backTo pos (starEach es X.env))) _ _ s
 refine XY (thn (ha pins s σ H _ I h) fun u s1 ⟨x,H1,I1,r1,q1⟩=>?_)
 exact thn (hr pos pins s1 σ H1 _ I1 q1) fun us s2 ⟨xs,H2,I2,r2,q2⟩=>⟨x::xs,H2,I2,.cons r1 r2,q2⟩
noncomputable def vV (t:TA):TE:=fun σ H Q=>t σ H fun xs H1=>xs.length<=sizeLine/\∀ p,H1 p=none->Q (.ref p) (upd H1 p (.tup xs))
noncomputable def F8 (t:TA):TE:=fun σ H Q=>t σ H fun xs H1=>xs.length<=sizeLine/\∀ p,H1 p=none->Q (.ref p) (upd H1 p (.lst xs))
theorem Fj {x1} (h:PA X es t):PE X (.Tuple es x1 pos) (vV t):=by
 intro pins s σ H Q I hq
 refine wpAny_Tuple_spliced (thn (h pos pins s σ H _ I hq) fun us s1 ⟨xs,H1,I1,r,z,q⟩=>⟨by rw [<- r.length]; exact z,?_⟩)
 have hf:H1 s1.heap.objs.size=none:=I1.hok.fresh (Zk _)
 refine ⟨.ref s1.heap.objs.size,upd H1 s1.heap.objs.size (.tup xs),I1.laid (t':=s1.toks) (fun b u e=>Zg _ e) (Zk _) ?_,rfl,q _ hf⟩
 exact ⟨z,us,r,⟨_,Zw _ rfl,rfl,_,rfl⟩⟩
theorem G8 (h:PA X es t):PE X (.List es pos) (F8 t):=by
 intro pins s σ H Q I hq
 refine wpAny_List_spliced (thn (h pos pins s σ H _ I hq) fun us s1 ⟨xs,H1,I1,r,z,q⟩=>⟨by rw [<- r.length]; exact z,?_⟩)
 have hf:H1 s1.heap.objs.size=none:=I1.hok.fresh (Zk _)
 refine ⟨.ref s1.heap.objs.size,upd H1 s1.heap.objs.size (.lst xs),I1.laid (t':=s1.toks) (fun b u e=>Zg _ e) (Zk _) ?_,rfl,q _ hf⟩
 exact ⟨z,us,0,r,Zw _ rfl⟩
end
abbrev Sp:=List V->Hp->VK->XK->Prop
abbrev CXT:=List Env->Hp->Shared->XK->Value->Shared->Prop
structure jH (P:Program) (w:World) (K:PySem.W.Frag) (mg:Str->Option Value) (base:Heap) (A:Around) (outer:List Env) (s:Shared) (H:Hp):Prop where
 frames:A.frames=some outer
 mod:Mod K mg base
 bs:∀ b o,base.get? b=some o->s.heap.get? b=some o/\H b=none
 bsz:base.objs.size<=s.heap.objs.size
 c6:s.heap.FunFrames base outer
 frf:∀ b∈frs outer,H b=none
 hok:HOk P w H s.heap
 bare:AllBare s.gens
noncomputable def CE (outer:List Env) (P:Program) (w:World) (H:Hp) (s:Shared) (Q:VK) (u:Value) (s':Shared):Prop :=
 ∃ v H',s'.os=s.os/\AllBare s'.gens/\Un (frs outer) [] H H' s.heap s'.heap/\HOk P w H' s'.heap/\RelV v u/\Q v H'
noncomputable def CR (CX:CXT) (outer:List Env) (P:Program) (w:World) (H:Hp) (s:Shared) (Q:VK) (E:XK) (r:Result) (s':Shared):Prop :=
 match r with
 | .ok (.ret u)=>CE outer P w H s Q u s'
 | .ok _=>False
 | .error e=>CX outer H s E e s'
structure dO (P:Program) (w:World) (K:PySem.W.Frag) (mg:Str->Option Value) (base:Heap) (CX:CXT) (k:Nat) (f:Addr) (fd:FuncData) (ps:List Str) (sp:Sp):Prop where
 len:∀ vs H Q E,sp vs H Q E->vs.length=ps.length
 run:∀ (A:Around) (outer:List Env) (s:Shared) (H:Hp) (args:Args) (us:List Value) (vs:List V) (Q:VK) (E:XK),bP k A->jH P w K mg base A outer s H->BindsTo s fd args (ps.zip us)->Vals vs us->sp vs H Q E ->
  codeAny (model P w) A (.call (.ref f) args) (CR CX outer P w H s Q E) s
section
variable {X:Cx} {pins:List (Addr × Obj)} {σ:St} {H:Hp} {s s':Shared}
theorem Inv.GY (I:Inv X pins σ H s):jH X.prog X.w X.K X.mg X.base X.A X.stack s H :=
 ⟨I.ok.frames,I.ok.mod,I.bs,ZY I.ok.bsz I.sz,I.stack,I.mE,I.hok,I.bare⟩
theorem Inv.after {Q:VK} {u:Value} (I:Inv X pins σ H s) (h:CE X.stack X.prog X.w H s Q u s'):EP X pins σ Q u s':=by
 obtain ⟨v,H',os,bare,un,hok,r,q⟩:=h
 obtain ⟨hh,g,d,t,os'⟩:=s'
 obtain rfl:os'=s.os:=os
 exact ⟨v,H',I.call (h':=hh) (g':=g) (d':=d) (t':=t) (ch:=[]) un hok bare (fun b z=>absurd z (by simp)),r,q⟩
end
noncomputable def mW (sp:Sp) (dvs:List V) (E:XK) (t:TA):TE:=fun σ H Q=>t σ H fun vs H1=>sp (vs++dvs) H1 Q E
noncomputable def Binds (K:PySem.W.Frag) (fd:FuncData) (ps:List Str) (ds:List Value):Prop :=
 ∀ (s:Shared) (us:List Value),K.In s.heap->(us++ds).length=ps.length->BindsTo s fd ⟨us,[]⟩ (ps.zip (us++ds))
theorem Binds.all {K:PySem.W.Frag} {fd:FuncData} {ps:List Str} (h:∀ us:List Value,us.length=ps.length->bindArgs fd ⟨us,[]⟩=pure (ps.zip us)):Binds K fd ps []:=fun s us _ hl=>by
 rw [Xz] at hl ⊢
 exact .of_eq (h us hl)
noncomputable def Passes (CX:CXT) (X:Cx) (E:XK):Prop:=∀ (pins:List (Addr × Obj)) (σ:St) (H:Hp) (s:Shared) (e:Value) (s':Shared),Inv X pins σ H s->CX X.stack H s E e s'->X.xe e s'
section
variable {X:Cx} {CX:CXT} {k:Nat} {f C:Addr} {fd:FuncData} {ps:List Str} {sp:Sp} {dvs:List V} {ds:List Value} {E:XK} {x m:Str} {p pos apos:Pos} {e o:Expr} {es:List Expr} {ta:TE} {t:TA}
theorem uQ {pins:List (Addr × Obj)} {σ:St} {H:Hp} {s:Shared} {Q:VK} {us:List Value} {vs:List V} (F:dO X.prog X.w X.K X.mg X.base CX k f fd ps sp) (hr:bP k X.A) (hb:Binds X.K fd ps ds) (hd:Vals dvs ds) (hx:Passes CX X E)
  (I:Inv X pins σ H s) (r:Vals vs us) (h:sp (vs++dvs) H Q E):wpAny (model X.prog X.w) X.A (call (.ref f) us) (EP X pins σ Q) X.xe s:=by
 have r2:Vals (vs++dvs) (us++ds):=r.append hd
 have hl:(us++ds).length=ps.length:=by rw [<- r2.length]; exact F.len _ _ _ _ h
 refine wpAny_call (Wb (F.run X.A X.stack s H ⟨us,[]⟩ (us++ds) (vs++dvs) Q E hr I.GY (hb s us I.kIn hl) r2 h) fun r s' hq=>?_)
 cases r with
 | error e=>exact hx pins σ H s e s' I hq
 | ok fl =>
  cases fl with
  | ret u=>exact I.after hq
  | next=>exact False.elim hq
  | brk=>exact False.elim hq
  | cont=>exact False.elim hq
theorem HA (F:dO X.prog X.w X.K X.mg X.base CX k f fd ps sp) (hr:bP k X.A) (hg:Gl X x) (hm:X.mg x=some (.ref f)) (hk:PySem.W.keepIn X.K (.ref f)=true) (hb:Binds X.K fd ps ds) (hd:Vals dvs ds) (hx:Passes CX X E)
  (ha:PA X (e::es) t) (hdb:(x==("__debug__" : Str))=false:=by decide) (he:starEach (e::es) X.env=(false,eval e X.env)::starEach es X.env:=by rfl) (hpl:(backTo pos (starEach es X.env)).any (·.1)=false:=by rfl) :
  PE X (.Call (.Name x p) (e::es) [] pos) (mW sp dvs E t):=by
 intro pins s σ H Q I h
 refine Xl (jG I hg hm ?_ hdb)
 refine PySem.W.callWith_K (h₀:=X.base) I.ok.mod.kin hk (thn (ha pos pins s σ H _ I h) fun us s1 ⟨vs,H1,I1,r,q⟩=>⟨I1.kIn,?_⟩) he hpl
 exact uQ F hr hb hd hx I1 r q
theorem v_ (F:dO X.prog X.w X.K X.mg X.base CX k f fd ps sp) (hr:bP k X.A) (hg:Gl X x) (hm:X.mg x=some (.ref f)) (hk:PySem.W.keepIn X.K (.ref f)=true) (hb:Binds X.K fd ps ds) (hd:Vals dvs ds) (hx:Passes CX X E)
  (hdb:(x==("__debug__" : Str))=false:=by decide):PE X (.Call (.Name x p) [] [] pos) (mW sp dvs E qf):=by
 intro pins s σ H Q I h
 refine Xl (jG I hg hm ?_ hdb)
 exact PySem.W.callWith_K0 I.kIn hk (uQ (us:=[]) F hr hb hd hx I .nil h)
structure Mk (K:PySem.W.Frag) (C f:Addr):Prop where
 makes:PySem.W.makesIn K C=true
 init:PySem.W.findIn K (.ref C) "__init__" = some (some (.ref f))
 fn:PySem.W.isFn K (.ref f)=true
 kp:PySem.W.keepIn K (.ref C)=true
end
section
variable {X:Cx} {CX:CXT} {k:Nat} {f C:Addr} {fd:FuncData} {ps ks:List Str} {sp:Sp} {E:XK} {x m:Str} {p pos apos kpos:Pos} {e o:Expr} {es:List Expr} {kws:List Keyword} {te ta:TE} {t tk:TA} {nm:Option Str}
structure Iz (K:PySem.W.Frag) (fd:FuncData) (ps ks:List Str) (g:List Value->List Value->List Value) (gV:List V->List V->List V):Prop where
 to:∀ (s:Shared) (us ws:List Value),K.In s.heap->(g us ws).length=ps.length->BindsTo s fd ⟨us,ks.zip ws⟩ (ps.zip (g us ws))
 rel:∀ {vs:List V} {us:List Value} {zs:List V} {ws:List Value},Vals vs us->Vals zs ws->Vals (gV vs zs) (g us ws)
variable {g:List Value->List Value->List Value} {gV:List V->List V->List V}
end
structure lT (N P:List Str) (sc:Scope):Prop where
 kind:sc.kind=.function
 co:sc.isCoroutine=false
 gen:sc.isGenerator=false
 nd:N.Nodup
 pre:N.take P.length=P
 par:∀ x∈P,sc.names.lookup x=some .local\/sc.names.lookup x=some .cell
 nofree:∀ y∈sc.names,y.2≠.free
theorem qG {kindOf:Str->Option NameKind} {x:Str}:∀ {binds:List (Str × Value)} {m:Str->Option Value},(∀ v,(x,v) ∉ binds)->bindL kindOf binds m x=m x
 | [],_,_=>rfl
 | (n,v)::r,m,h=>by
  unfold bindL
  rw [qG fun w hw=>h w (Zm _ hw)]
  split
  ·have:x≠n:=by rintro rfl; exact h v Zn
   simp [this]
  ·rfl
theorem n8 {kindOf:Str->Option NameKind} {x:Str}:∀ {binds:List (Str × Value)} {m:Str->Option Value},(∀ v,(x,v) ∉ binds)->bindC kindOf binds m x=m x
 | [],_,_=>rfl
 | (n,v)::r,m,h=>by
  unfold bindC
  rw [n8 fun w hw=>h w (Zm _ hw)]
  split
  ·rfl
  ·have:x≠n:=by rintro rfl; exact h v Zn
   simp [this]
theorem tF {kindOf:Str->Option NameKind} {x:Str} {v:Value}:∀ {P:List Str} {vs:List Value} {i:Nat} {m:Str->Option Value},P.Nodup->P[i]?=some x->vs[i]?=some v->kindOf x=some .local ->
  bindL kindOf (P.zip vs) m x=some v
 | [],_,_,_,_,h,_,_=>by simp at h
 | _::_,[],_,_,_,_,h,_=>by simp at h
 | p::P,w::vs,0,m,nd,h1,h2,hk=>by
  simp at h1 h2; subst h1; subst h2
  show bindL kindOf ((p,w)::P.zip vs) m p=_
  unfold bindL
  rw [qG fun v hv=>(Xf.mp nd).1 (List.of_mem_zip hv).1,Ze hk]
  simp
 | p::P,w::vs,i+1,m,nd,h1,h2,hk=>by
  show bindL kindOf ((p,w)::P.zip vs) m x=_
  unfold bindL
  exact tF (i:=i) (Xf.mp nd).2 (by simpa using h1) (by simpa using h2) hk
theorem su {kindOf:Str->Option NameKind} {x:Str} {v:Value}:∀ {P:List Str} {vs:List Value} {i:Nat} {m:Str->Option Value},P.Nodup->P[i]?=some x->vs[i]?=some v->kindOf x≠some .local ->
  bindC kindOf (P.zip vs) m x=some v
 | [],_,_,_,_,h,_,_=>by simp at h
 | _::_,[],_,_,_,_,h,_=>by simp at h
 | p::P,w::vs,0,m,nd,h1,h2,hk=>by
  simp at h1 h2; subst h1; subst h2
  show bindC kindOf ((p,w)::P.zip vs) m p=_
  unfold bindC
  rw [n8 fun v hv=>(Xf.mp nd).1 (List.of_mem_zip hv).1,Zf hk]
  simp
 | p::P,w::vs,i+1,m,nd,h1,h2,hk=>by
  show bindC kindOf ((p,w)::P.zip vs) m x=_
  unfold bindC
  exact su (i:=i) (Xf.mp nd).2 (by simpa using h1) (by simpa using h2) hk
noncomputable def start (N:List Str) (vs:List V):St:=vs.map some++List.replicate (N.length - vs.length) none
noncomputable def cN (CX:CXT) (P:Program) (w:World) (K:PySem.W.Frag) (mg:Str->Option Value) (base:Heap) (N:List Str) (qual:Str) (scope:Scope) (f:Addr) (cd:Value) (A:Around) (outer:List Env) (s:Shared) (H:Hp) (E:XK):Cx where
 prog:=P
 w:=w
 K:=K
 mg:=mg
 base:=base
 A:=A.deeper (envOfC qual scope s.heap.objs.size f cd)
 N:=N
 s₀:=s
 H₀:=H
 env:=envOfC qual scope s.heap.objs.size f cd
 outer:=outer
 stack:=envOfC qual scope s.heap.objs.size f cd::outer
 ex:=[]
 calm:=true
 fn:=fun _=>true
 pn:=[]
 xe:=fun e s'=>wpAny (model P w) (A.deeper (envOfC qual scope s.heap.objs.size f cd)) (leaving (envOfC qual scope s.heap.objs.size f cd) e) (fun _ s''=>CX outer H s E e s'') (fun e' s''=>CX outer H s E e' s'') s'
theorem lX {sc:Scope} {n:Nat} {x:Str} (h:sc.names.lookup x=some .cell):∃ c,(cellsFrom n sc.names []).lookup x=some c:=by
 have q:=PySem.W.cellsFrom_some sc.names n [] (.inl h)
 exact Option.isSome_iff_exists.mp q
theorem Ca {CX:CXT} {P:Program} {w:World} {K:PySem.W.Frag} {mg:Str->Option Value} {base:Heap} {N ps:List Str} {qual:Str} {scope:Scope} {f:Addr} {cd:Value} {A:Around} {outer:List Env} {s s1:Shared} {H:Hp} {E:XK} {us:List Value} {vs:List V}
  (S:lT N ps scope) (hd:A.handled=none) (e0:jH P w K mg base A outer s H) (hl:vs.length=ps.length) (r:Vals vs us)
  (x:InCallC s s.heap.objs.size (bindL (envOfC qual scope s.heap.objs.size f cd).kindOf (ps.zip us) fun _=>none) (cellsFrom (s.heap.objs.size+1) scope.names []) (bindC (envOfC qual scope s.heap.objs.size f cd).kindOf (ps.zip us) fun _=>none) s1) :
  Inv (cN CX P w K mg base N qual scope f cd A outer s H E) [] (start N vs) H s1:=by
 have hpl:ps.length<=N.length:=by have:=Xm List.length S.pre; rw [XD] at this; omega
 obtain ⟨h1,tk,rfl,hk⟩:=x.done
 have noA:∀ b:Addr,b ∉ (cN CX P w K mg base N qual scope f cd A outer s H E).ex:=fun b z=>absurd (show b∈([]:List Addr) from z) (by simp)
 refine ⟨⟨e0.mod,S.kind,rfl,rfl,Zk _,fun y z c h1 h2=>?_,fun y hy=>?_,fun y c _ h=>?_,fun _=>hd,Around.frames_deeper e0.frames,.inr ⟨rfl,rfl⟩,fun b z=>absurd z (noA b),e0.bs,e0.bsz,fun b _ _=>noA b,fun b z=>absurd z (noA b),e0.c6,e0.frf⟩,
  rfl,e0.bare,Un.kept hk,⟨_,x.toInCall.ns,fun i y v h1 h2 h3=>?_⟩,fun y c h=>⟨_,x.cell y c h⟩,e0.hok.fresh (Zk _),fun y c h=>?_,fun p hp=>absurd (show p∈([]:List (Addr × Obj)) from hp) (by simp),e0.hok.kept hk,?_⟩
 ·exact name_of_addr x.apart (Qh h1) (Qh h2)
 ·have hy:scope.names.lookup y=some .cell\/scope.names.lookup y=some .free:=hy
  rcases hy with hy|hy
  ·exact lX hy
  ·exact absurd rfl (S.nofree _ (Qh hy))
 ·exact Qe (x.above y c (Qh h))
 ·have hi:i < vs.length:=by
   unfold start at h2
   by_cases hi:i < vs.length
   ·exact hi
   ·rw [ZJ (by simpa using hi)] at h2
    rw [XU] at h2
    split at h2 <;> cases h2
  have ha:vs[i]?=some v:=by
   unfold start at h2
   rw [ZE (by simpa using hi),ZM] at h2
   cases e:vs[i]? with
   | none=>rw [e] at h2; cases h2
   | some a=>rw [e] at h2; cases h2; rfl
  obtain ⟨u,hu,rv⟩:=r.get ha
  have hp:ps[i]?=some y:=by
   rw [<- S.pre,QP (by omega)]; exact h1
  have ndP:ps.Nodup:=by rw [<- S.pre]; exact S.nd.sublist (Wr _ _)
  refine ⟨u,rv,?_⟩
  rcases S.par y (Zy hp) with k|k
  ·exact .inl ⟨k,tF ndP hp hu k⟩
  ·obtain ⟨c,e⟩:=lX (n:=s.heap.objs.size+1) k
   refine .inr ⟨.inl k,c,e,?_⟩
   have q:=x.cell y c e
   rw [su ndP hp hu (by show scope.names.lookup y≠_; rw [k]; decide)] at q
   exact q
 ·exact e0.hok.fresh (Qe (x.above y c (Qh h)))
 ·unfold start
  show _=N.length
  rw [Zv,Zd,List.length_replicate]
  omega
theorem Ai {CX:CXT} {P:Program} {w:World} {K:PySem.W.Frag} {mg:Str->Option Value} {base:Heap} {k:Nat} {f:Addr} {name qual:Str} {params:Arguments} {body:List Stmt} {scope:Scope} {dV kV doc pm cdv ct oc:Value} {an od:Option Addr}
  {osl:Array (Option Value)} {N ps:List Str} {sp:Sp} (lk:K.lookup f=some ⟨oc,od,.func (PySem.W.fnOf name qual params body scope dV kV doc pm an cdv ct),osl⟩) (hcd:PySem.W.codeIn K cdv qual=true) (S:lT N ps scope)
  (len:∀ vs H Q E,sp vs H Q E->vs.length=ps.length)
  (hbody:∀ (A:Around) (outer:List Env) (s:Shared) (H:Hp) (vs:List V) (Q:VK) (E:XK),bP k (A.deeper (envOfC qual scope s.heap.objs.size f cdv))->sp vs H Q E ->
   ∃ t,PSs (cN CX P w K mg base N qual scope f cdv A outer s H E) body t/\t { nx:=fun _ H'=>Q .non H',rt:=Q } (start N vs) H) :
  dO P w K mg base CX (k+1) f (PySem.W.fnOf name qual params body scope dV kV doc pm an cdv ct) ps sp:=by
 refine ⟨len,fun A outer s H args us vs Q E hr e0 hb r hsp=>?_⟩
 have hl:=len _ _ _ _ hsp
 have KX:K.In s.heap:=e0.mod.kin.keeps fun b o e=>(e0.bs b o e).1
 have lim:s.heap.NoLimit:=e0.mod.nolimit.keeps fun b o e=>(e0.bs b o e).1
 have hkind:∀ y∈ps.zip us,scope.names.lookup y.1=some .local\/(scope.names.lookup y.1=some .cell/\((cellsFrom (s.heap.objs.size+1) scope.names []).lookup y.1).isSome=true):=fun ⟨n,v⟩ hy=>by
  rcases S.par n (List.of_mem_zip hy).1 with q|q
  ·exact .inl q
  ·exact .inr ⟨q,PySem.W.cellsFrom_some _ _ _ (.inl q)⟩
 refine codeAny_call_function hr.depth (KX _ _ lk) rfl S.co S.gen rfl (PySem.W.codeRec_of KX hcd) (hb _ _ _ _ ?_)
 refine wpAny_newFunctionEnv_cells S.kind hkind fun env he s1 x=>?_
 subst he
 refine ⟨lim.keeps x.toInCall.keep,codeAny_func ?_⟩
 obtain ⟨t,ht,hq⟩:=hbody A outer s H vs Q E (hr.deeper _) hsp
 have I:Inv (cN CX P w K mg base N qual scope f cdv A outer s H E) [] (start N vs) H s1:=Ca S hr.hd e0 hl r x
 refine Xu (ht [] s1 (start N vs) H _ I hq) (fun fl s' hs=>?_) fun e s' hs=>hs
 have fin:∀ {σ':St} {H':Hp} {v:V} {u:Value},Inv (cN CX P w K mg base N qual scope f cdv A outer s H E) [] σ' H' s'->RelV v u->Q v H'->CE outer P w H s Q u s' :=
  fun {σ' H' v u} J rv q=>⟨v,H',J.os,J.bare,J.base,J.hok,rv,q⟩
 cases fl with
 | ret u =>
  obtain ⟨v,σ',H',J,rv,q⟩:=hs
  exact fin J rv q
 | next =>
  obtain ⟨σ',H',J,q⟩:=hs
  exact fin (v:=V.non) (u:=Value.none) J rfl q
 | brk =>
  obtain ⟨_,_,_,q⟩:=hs
  exact False.elim q
 | cont =>
  obtain ⟨_,_,_,q⟩:=hs
  exact False.elim q
end L2
namespace L2
open PySem PySem.Spec PyProof.Rows
section
variable {X:Cx} {x:Str} {p pos:Pos} {e:Expr} {es:List Expr} {t:TA} {id T:String} {r:List V->Hp->VK->Prop}
noncomputable def tCB (r:List V->Hp->VK->Prop) (t:TA):TE:=fun σ H Q=>t σ H fun vs H1=>r vs H1 Q
theorem sN (hc:b5 X (.builtin id) r) (hg:Gl X x) (hm:X.mg x=none) (hv:bootBuiltins x=some (.builtin id)) (ha:PA X (e::es) t) (hn:x≠"__name__":=by decide) (hdb:(x==("__debug__" : Str))=false:=by decide)
  (he:starEach (e::es) X.env=(false,eval e X.env)::starEach es X.env:=by rfl) (hpl:(backTo pos (starEach es X.env)).any (·.1)=false:=by rfl):PE X (.Call (.Name x p) (e::es) [] pos) (tCB r t):=by
 intro pins s σ H Q I h
 refine Xl (cO I hg hm hv ?_ hn hdb)
 exact Ql (thn (ha pos pins s σ H _ I h) fun us s1 ⟨vs,H1,I1,r1,q1⟩=>hc pins s1 σ H1 vs us Q I1 r1 q1) he hpl
theorem HD (hc:b5 X (.type T) r) (hg:Gl X x) (hm:X.mg x=none) (hv:bootBuiltins x=some (.type T)) (ha:PA X (e::es) t) (hn:x≠"__name__":=by decide) (hdb:(x==("__debug__" : Str))=false:=by decide)
  (he:starEach (e::es) X.env=(false,eval e X.env)::starEach es X.env:=by rfl) (hpl:(backTo pos (starEach es X.env)).any (·.1)=false:=by rfl):PE X (.Call (.Name x p) (e::es) [] pos) (tCB r t):=by
 intro pins s σ H Q I h
 refine Xl (cO I hg hm hv ?_ hn hdb)
 exact Z1 (thn (ha pos pins s σ H _ I h) fun us s1 ⟨vs,H1,I1,r1,q1⟩=>hc pins s1 σ H1 vs us Q I1 r1 q1) he hpl
end
end L2
namespace HT
open PySem PyProof.Rows
section
open PySem.SeqAt
open PySem.AutoSeq1 (wpAny_loadPart')
open PySem.MeetsSeq PySem.MeetsSeq2 PySem.MeetsSeq3
end
section
variable {prog:Program} {w:World} {A:Around} {E:Value->Shared->Prop} {s:Shared}
theorem Aj {t b:Addr} {vs ws:List Value} {Q:Value->Shared->Prop} (ht:IsTup s.heap t vs.toArray) (hb:IsTup s.heap b ws.toArray) (hv:vs≠[])
  (h1:ws=[]->Q (.ref t) s) (h2:ws≠[]->Q (.ref s.heap.objs.size) { s with heap:=s.heap.push { cls:=.type "tuple",data:=.seq (vs++ws).toArray } })
  (hsz:vs.length+ws.length<=sizeLine):wpAny (model prog w) A (binaryOp .Add (.ref t) (.ref b)) Q E s:=by
 obtain ⟨⟨cls,dd,data,sl⟩,ho,hc,n,hd⟩:=id ht
 obtain ⟨⟨cls2,dd2,data2,sl2⟩,ho2,hc2,n2,hd2⟩:=id hb
 simp only at hc hd hc2 hd2
 subst hc hd hc2 hd2
 have e:vs.toArray++ws.toArray=(vs++ws).toArray:=by simp
 by_cases hw:ws=[]
 ·exact concat_meets ⟨_,ho,rfl⟩ ⟨_,ho2,rfl⟩ noFill_tuple_add seq_tuple_add Q3 QX (QQ _ _)
   (tuple_addW1 t b vs.toArray ws.toArray n n2 dd dd2 sl sl2 (by simpa using hv) (by simp [hw])) ⟨ho,ho2,h1 hw⟩
 ·refine concat_meets ⟨_,ho,rfl⟩ ⟨_,ho2,rfl⟩ noFill_tuple_add seq_tuple_add Q3 QX (QQ _ _)
   (tuple_addW2 t b vs.toArray ws.toArray n n2 dd dd2 sl sl2 (by simpa using hv) (by simpa using hw) (by rw [Zi,Zi]; exact hsz)) ⟨ho,ho2,?_⟩
  rw [e]
  exact h2 hw
noncomputable def sIx (n d:Nat):Option Int->Nat
 | none=>d
 | some v=>if v < 0 then (v+(n:Int)).toNat else min v.toNat n
theorem xR (n d:Nat) (hd:d<=n) (o:Option Int):sIx n d o<=n:=by
 cases o with
 | none=>exact hd
 | some v =>
  show (if v < 0 then (v+(n:Int)).toNat else min v.toNat n)<=n
  by_cases hv:v < 0
  ·rw [Ze hv]; omega
  ·rw [Zf hv]; exact Nat.min_le_right _ _
theorem qA (v:Int) (n d:Nat):(if v < 0 then max (v+(n:Int)) 0 else min v (n:Int))=((sIx n d (some v):Nat):Int):=by
 show (if v < 0 then max (v+(n:Int)) 0 else min v (n:Int))=(((if v < 0 then (v+(n:Int)).toNat else min v.toNat n):Nat):Int)
 by_cases hv:v < 0
 ·simp only [Ze hv]; omega
 ·simp only [Zf hv]; omega
theorem Hy (lo hi:Option Int) (n:Nat):Builtin.Slice.sliceAdjust lo hi 1 (n:Int)=(((sIx n 0 lo:Nat):Int),((sIx n n hi:Nat):Int)):=by
 have h1:¬ ((1:Int) < 0):=by omega
 unfold Builtin.Slice.sliceAdjust
 simp only [h1,ZK]
 refine Prod.ext ?_ ?_
 ·cases lo with
  | none=>rfl
  | some v=>exact qA v n 0
 ·cases hi with
  | none=>rfl
  | some v=>exact qA v n n
theorem FO (i j:Nat):Builtin.Slice.slicePlaces (i:Int) (j:Int) 1=j - i:=by
 unfold Builtin.Slice.slicePlaces
 have h1:(1:Int) > 0:=by omega
 simp only [h1,Xj,Qy]
 split <;> omega
theorem tO {v:Value} {o:Option Int} {Q:Option Int->Shared->Prop} (p:IsPart v o) (h:Q o s):wpAny (model prog w) A (Builtin.Slice.slicePartIndex v) Q E s:=by
 cases p with
 | none=>exact slicePart_none h
 | int i t=>exact slicePart_int h
theorem uE {sl:Addr} {vl vu:Value} {lo hi:Option Int} {n:Nat} {Q:Int × Int × Nat->Shared->Prop} (hs:s.heap.IsSliceOf sl vl vu .none) (pl:IsPart vl lo) (pu:IsPart vu hi)
  (h:Q (((sIx n 0 lo:Nat):Int),1,sIx n n hi - sIx n 0 lo) s):wpAny (model prog w) A (Builtin.Slice.sliceApplied (.ref sl) (pure (n:Int))) Q E s:=by
 obtain ⟨os,hos,hcs,hds⟩:=id hs
 unfold Builtin.Slice.sliceApplied Builtin.Slice.sliceFields
 refine Za (Za (Xr hos hds (x:=vl) rfl (Za (Xr hos hds (x:=vu) rfl (Za (Xr hos hds (x:=.none) rfl (Zc ?_)))))))
 refine Za (slicePart_none ?_)
 show wpAny _ _ (if ((1:Int)==0)=true then _ else _) _ _ s
 rw [Zf (by decide)]
 refine Za (tO pl (Za (tO pu (Za (Zc ?_)))))
 show wpAny _ _ (match Builtin.Slice.sliceAdjust lo hi 1 (n:Int) with|(lo,hi)=>pure (lo,(1:Int),Builtin.Slice.slicePlaces lo hi 1)) _ _ s
 rw [Hy lo hi n]
 show wpAny _ _ (pure (((sIx n 0 lo:Nat):Int),(1:Int),Builtin.Slice.slicePlaces ((sIx n 0 lo:Nat):Int) ((sIx n n hi:Nat):Int) 1)) _ _ s
 rw [FO]
 exact Zc h
theorem F9 (xs:Array Value) (i k:Nat):((List.range k).filterMap fun (m:Nat)=>xs[((i:Int)+(m:Int) * 1).toNat]?).toArray=((xs.toList.drop i).take k).toArray:=by
 have e:(fun (m:Nat)=>xs[((i:Int)+(m:Int) * 1).toNat]?)=fun m=>xs[i+m]?:=by
  funext m
  have:((i:Int)+(m:Int) * 1).toNat=i+m:=by omega
  rw [this]
 rw [e]
 have:=pick_run xs i k
 rw [List.filterMap_map] at this
 have e2:((fun x=>xs[x]?) ∘ fun x=>i+x)=fun m=>xs[i+m]?:=rfl
 rw [e2] at this
 rw [this]
theorem zo {t sl:Addr} {items:Array Value} {vl vu:Value} {lo hi:Option Int} {Q:Value->Shared->Prop} (ht:IsTup s.heap t items) (hs:s.heap.IsSliceOf sl vl vu .none) (pl:IsPart vl lo) (pu:IsPart vu hi)
  (hw:¬ (sIx items.size 0 lo=0/\sIx items.size items.size hi=items.size))
  (h:Q (.ref s.heap.objs.size) { s with heap:=s.heap.push { cls:=.type "tuple",data:=.seq ((items.toList.drop (sIx items.size 0 lo)).take (sIx items.size items.size hi - sIx items.size 0 lo)).toArray } })
  (hsz:items.size<=sizeLine):wpAny (model prog w) A (getItem (.ref t) (.ref sl)) Q E s:=by
 have htake:sizeOk (.seq ((items.toList.drop (sIx items.size 0 lo)).take (sIx items.size items.size hi - sIx items.size 0 lo)).toArray):=by
  show ((items.toList.drop (sIx items.size 0 lo)).take (sIx items.size items.size hi - sIx items.size 0 lo)).toArray.size<=sizeLine
  rw [Zi,XD,List.length_drop,ZD]
  omega
 have hj:sIx items.size items.size hi<=items.size:=xR _ _ (Zk _) hi
 obtain ⟨os,hos,hcs,hds⟩:=id hs
 have hTs:s.TypeIs (.ref sl) "slice":=⟨os,hos,hcs⟩
 unfold getItem
 try with_reducible refine XC ?_
 first|refine Za (Zc ?_)|skip
 refine Za (wpAny_sequenceKey ht.typeIs (by decide) ?_)
 refine Za (ZS (name:=Str.ofString "__getitem__") ht.typeIs XI
  (ZP XI ht.typeIs entry_tuple_getitem ?_ (args_tuple_getitem _ _)))
 show wpAny _ _ (Builtin.Tuple.tupleItemsOf (.ref t)>>=_) _ _ s
 refine Za (tupleItemsOf_ ht ?_)
 refine Za (Wc hTs ?_)
 rw [Ze (by decide)]
 refine Za (uE hs pl pu ?_)
 have hno:¬ ((((sIx items.size 0 lo:Nat):Int)==0&&(1:Int)==1&&(sIx items.size items.size hi - sIx items.size 0 lo)==items.size)=true):=by
  intro q
  rw [Zq,Zq] at q
  have q1:((sIx items.size 0 lo:Nat):Int)=0:=eq_of_beq q.1.1
  have q2:sIx items.size items.size hi - sIx items.size 0 lo=items.size:=eq_of_beq q.2
  exact hw ⟨by omega,by omega⟩
 show wpAny _ _ (if (((sIx items.size 0 lo:Nat):Int)==0&&(1:Int)==1&&(sIx items.size items.size hi - sIx items.size 0 lo)==items.size)=true then _ else _) _ _ s
 rw [Zf hno,F9]
 first
  | exact Za (m:=Builtin.Tuple.tupleExact _) (ZU (Zc ⟨_,rfl,Zc h⟩) htake)
  | exact Za (m:=Builtin.Tuple.tupleExact _) (ZU (Za (Zc (Zc ⟨_,rfl,Zc h⟩))) htake)
  | exact Za (Za (m:=Builtin.Tuple.tupleExact _) (ZU (Zc (Zc ⟨_,rfl,Zc h⟩)) htake))
  | exact Za (Za (m:=Builtin.Tuple.tupleExact _) (ZU (Zc ⟨_,rfl,Zc h⟩) htake))
end
end HT
namespace L2
open PySem PySem.Spec PyProof.Rows
abbrev TO:=St->Hp->(Option Int->Hp->Prop)->Prop
noncomputable def PO (X:Cx) (e:Option Expr) (t:TO):Prop :=
 ∀ (pins:List (Addr × Obj)) (s:Shared) (σ:St) (H:Hp) (Q:Option Int->Hp->Prop),Inv X pins σ H s->t σ H Q ->
  wpAny (model X.prog X.w) X.A (evalPart e X.env) (fun u s'=>∃ o H',Inv X pins σ H' s'/\IsPart u o/\Q o H') X.xe s
noncomputable def yK:TO:=fun _ H Q=>Q none H
noncomputable def BR (t:TE):TO:=fun σ H Q=>t σ H fun x H1=>∃ i,x=.int i/\Q (some i) H1
section
variable {X:Cx} {e:Expr} {te:TE} {lo hi:Option Expr} {tl th:TO} {pos p2:Pos}
theorem yo:PO X none yK:=by
 intro pins s σ H Q I h
 rw [evalPart_none]
 exact Zc ⟨none,H,I,.none,h⟩
theorem yq (h:PE X e te):PO X (some e) (BR te):=by
 intro pins s σ H Q I hw
 rw [evalPart_some]
 refine thn (h pins s σ H _ I hw) fun u s1 ⟨x,H1,I1,r1,q1⟩=>?_
 obtain ⟨i,rfl,q⟩:=q1
 obtain ⟨t,rfl⟩:=r1
 exact ⟨some i,H1,I1,.int i t,q⟩
noncomputable def SlR (X:Cx) (r:V->Option Int->Option Int->Hp->VK->Prop):Prop :=
 ∀ (pins:List (Addr × Obj)) (s:Shared) (σ:St) (H:Hp) (x:V) (v vl vu:Value) (lo hi:Option Int) (sl:Addr) (Q:VK),Inv X pins σ H s->RelV x v->s.heap.IsSliceOf sl vl vu .none->IsPart vl lo->IsPart vu hi->r x lo hi H Q ->
  ∃ T id,typeLookup (.type T) "__getitem__" = pure (some (.builtin id))/\s.TypeIs v T/\wpAny (model X.prog X.w) X.A (getItem v (.ref sl)) (EP X pins σ Q) X.xe s
noncomputable def tSl (r:V->Option Int->Option Int->Hp->VK->Prop) (te:TE) (tl th:TO):TE:=fun σ H Q=>te σ H fun x H1=>tl σ H1 fun l H2=>th σ H2 fun u H3=>r x l u H3 Q
theorem zS {r:V->Option Int->Option Int->Hp->VK->Prop} (hr:SlR X r) (he:PE X e te) (hl:PO X lo tl) (hu:PO X hi th):PE X (.Subscript e (.Slice lo hi none p2) pos) (tSl r te tl th):=by
 intro pins s σ H Q I h
 refine Subscript_ (thn (he pins s σ H _ I h) fun v s1 ⟨x,H1,I1,r1,q1⟩=>?_)
 refine wpAny_Slice (thn (hl pins s1 σ H1 _ I1 q1) fun vl s2 ⟨l,H2,I2,pl,q2⟩=>thn (hu pins s2 σ H2 _ I2 q2) fun vu s3 ⟨u,H3,I3,pu,q3⟩=>?_)
 rw [evalPart_none]
 refine Zc ?_
 have I4:Inv X pins σ H3 { s3 with heap:=s3.heap.push { cls:=.type "slice",data:=.fields #[vl,vu,.none] } }:=I3.kept (t':=s3.toks) fun b ob q=>Zg _ q
 obtain ⟨T,id,hT,ht,hg⟩:=hr pins { s3 with heap:=s3.heap.push { cls:=.type "slice",data:=.fields #[vl,vu,.none] } } σ H3 x v vl vu l u s3.heap.objs.size Q I4 r1 (Heap.IsSliceOf.new ..) pl pu q3
 show wpAny (model X.prog X.w) X.A (subscriptTail e (.Slice lo hi none p2) v (.ref s3.heap.objs.size)) (EP X pins σ Q) X.xe { s3 with heap:=s3.heap.push { cls:=.type "slice",data:=.fields #[vl,vu,.none] } }
 exact tail_any (ops:=[.ref s3.heap.objs.size,v]) ht hT hg (by with_unfolding_all rfl)
noncomputable def dw (xs:List V) (lo hi:Option Int):List V:=(xs.drop (HT.sIx xs.length 0 lo)).take (HT.sIx xs.length xs.length hi - HT.sIx xs.length 0 lo)
theorem uJ (xs:List V) (lo hi:Option Int):(dw xs lo hi).length<=xs.length:=by
 unfold dw
 rw [XD,List.length_drop]
 omega
noncomputable def HX (K:PySem.W.Frag):V->Option Int->Option Int->Hp->VK->Prop:=fun x lo hi H Q=>∃ a xs,x=.ref a/\SqT K H a xs /\
 ¬ (HT.sIx xs.length 0 lo=0/\HT.sIx xs.length xs.length hi=xs.length)/\∀ p,H p=none->Q (.ref p) (upd H p (.tup (dw xs lo hi)))
theorem D6:SlR X (HX X.K):=by
 intro pins s σ H x v vl vu lo hi sl Q I rx hs pl pu h
 obtain ⟨a,xs,rfl,hx,hw,q⟩:=h
 cases rx
 obtain ⟨its,r,ht,hz⟩:=I.tuple hx
 have hlen:its.toArray.size=xs.length:=by rw [Zi]; exact r.length.symm
 refine ⟨"tuple",_,PyProof.Rows.slot_tuple_getitem.lookup,ht.typeIs,?_⟩
 refine HT.zo ht hs pl pu (by rw [hlen]; exact hw) ?_ (by rw [hlen]; exact hz)
 rw [hlen]
 refine ⟨.ref s.heap.objs.size,_,I.laid (t':=s.toks) (o:=.tup (dw xs lo hi)) (fun b ob q=>Zg _ q) (Zk _) ?_,rfl,q _ (I.hok.fresh (Zk _))⟩
 exact ⟨ZY (uJ xs lo hi) hz,_,(r.drop (HT.sIx xs.length 0 lo)).take (HT.sIx xs.length xs.length hi - HT.sIx xs.length 0 lo),IsTup.new _ _⟩
noncomputable def EL (K:PySem.W.Frag):R2:=fun x y H Q=>∃ a b xs ys,x=.ref a/\y=.ref b/\SqT K H a xs/\SqT K H b ys/\xs≠[]/\xs.length+ys.length<=sizeLine /\
 (ys=[]->Q (.ref a) H)/\(ys≠[]->∀ p,H p=none->Q (.ref p) (upd H p (.tup (xs++ys))))
theorem Vals.kL {xs:List V} {us:List Value} (r:Vals xs us):us=[] ↔ xs=[]:=by
 cases r with
 | nil=>simp
 | cons _ _=>simp
theorem Em:OpR X (binaryOp .Add) (EL X.K):=by
 intro pins s σ H x y v u Q I rx ry h
 obtain ⟨a,b,xs,ys,rfl,rfl,ha,hb,hx,hz,q1,q2⟩:=h
 cases rx
 cases ry
 obtain ⟨its,r1,p1,_⟩:=I.tuple ha
 obtain ⟨its2,r2,p2,_⟩:=I.tuple hb
 refine HT.Aj p1 p2 (fun z=>hx (r1.kL.mp z)) (fun z=>⟨.ref a,H,I,rfl,q1 (r2.kL.mp z)⟩) (fun z=>?_) (by rw [<- r1.length,<- r2.length]; exact hz)
 refine ⟨.ref s.heap.objs.size,_,I.laid (t':=s.toks) (o:=.tup (xs++ys)) (fun b ob q=>Zg _ q) (Zk _) ?_,rfl,q2 (fun w=>z (r2.kL.mpr w)) _ (I.hok.fresh (Zk _))⟩
 exact ⟨by rw [Zv]; exact hz,_,r1.append r2,IsTup.new _ _⟩
end
end L2
namespace L2
open PySem PySem.Spec PyProof.Rows
noncomputable def ixN (n:Nat) (i:Int):Option Nat:=if 0<=i then (if i < n then some i.toNat else none) else if -(n:Int)<=i then some (i+n).toNat else none
noncomputable def atI {α:Type} (xs:List α) (i:Int):Option α:=(ixN xs.length i).bind fun j=>xs[j]?
theorem D0 {n:Nat} {i:Int} {j:Nat} (h:ixN n i=some j):seqIndex? i n=some j/\j < n/\-(n:Int)<=i/\i < n:=by
 unfold ixN at h
 by_cases h0:0<=i
 ·rw [Ze h0] at h
  by_cases h1:i < n
  ·rw [Ze h1] at h
   have e:i.toNat=j:=ZW h
   exact ⟨by rw [seqIndex_of h0 h1,e],by omega,by omega,h1⟩
  ·rw [Zf h1] at h; cases h
 ·rw [Zf h0] at h
  by_cases h1:-(n:Int)<=i
  ·rw [Ze h1] at h
   have e:(i+n).toNat=j:=ZW h
   exact ⟨by rw [seqIndex_neg (by omega) h1,e],by omega,h1,by omega⟩
  ·rw [Zf h1] at h; cases h
theorem pq {α:Type} {xs:List α} {i:Int} {v:α} (h:atI xs i=some v):∃ j,seqIndex? i xs.length=some j/\xs[j]?=some v/\j < xs.length/\-(xs.length:Int)<=i/\i < xs.length:=by
 unfold atI at h
 cases e:ixN xs.length i with
 | none=>rw [e] at h; cases h
 | some j =>
  rw [e] at h
  obtain ⟨h1,h2,h3,h4⟩:=D0 e
  exact ⟨j,h1,h,h2,h3,h4⟩
noncomputable def mS (b:Expr):Prop:=∀ o i,subscripted b false o i=operate [o,i] (getItem o i)
noncomputable def IxR (X:Cx) (r:R2):Prop :=
 ∀ (value slice:Expr) (pins:List (Addr × Obj)) (s:Shared) (σ:St) (H:Hp) (x y:V) (v u:Value) (Q:VK),Inv X pins σ H s->RelV x v->RelV y u->r x y H Q ->
  subscripted slice false v u=operate [v,u] (getItem v u)->wpAny (model X.prog X.w) X.A (subscriptTail value slice v u) (EP X pins σ Q) X.xe s
noncomputable def MtR (X:Cx) (id:String) (r:V->List V->Hp->VK->Prop):Prop :=
 ∀ (pins:List (Addr × Obj)) (s:Shared) (σ:St) (H:Hp) (x:V) (xs:List V) (v:Value) (us:List Value) (Q:VK),Inv X pins σ H s->RelV x v->Vals xs us->r x xs H Q ->
  wpAny (model X.prog X.w) X.A (call (.builtin id) (v::us)) (EP X pins σ Q) X.xe s
section
variable {X:Cx} {a b:Expr} {ta tb:TE} {pos:Pos}
theorem Cu {r:R2} (hr:IxR X r) (ha:PE X a ta) (hb:PE X b tb) (hs:mS b):PE X (.Subscript a b pos) (tOp r ta tb):=by
 intro pins s σ H Q I h
 exact Subscript_ (kE ha hb I h fun v u s2 x y H2 I2 rx ry q=>hr a b pins s2 σ H2 x y v u Q I2 rx ry q (hs _ _))
noncomputable def Gf (K:PySem.W.Frag):R2:=fun x y H Q=>∃ p xs i v,x=.ref p/\y=.int i/\SqL K H p xs/\atI xs i=some v/\Q v H
noncomputable def zP (K:PySem.W.Frag):R2:=fun x y H Q=>∃ p xs i v,x=.ref p/\y=.int i/\SqT K H p xs/\atI xs i=some v/\Q v H
theorem wm:IxR X (Gf X.K):=by
 intro value slice pins s σ H x y v u Q I rx ry h hs
 obtain ⟨p,xs,i,z,rfl,rfl,hq,he,q⟩:=h
 cases rx
 obtain ⟨t,rfl⟩:=ry
 obtain ⟨its,r,pl,hz⟩:=I.list hq
 obtain ⟨j,h1,h2,h3,h4,h5⟩:=pq he
 obtain ⟨w,ew,rw'⟩:=r.get h2
 have hl:=r.length
 have hn:=jN
 have fin:EP X pins σ Q w s:=⟨z,H,I,rw',q⟩
 by_cases h0:0<=i
 ·have hj:i.toNat=j:=by
   rw [seqIndex_of h0 h5] at h1
   exact ZW h1
  exact item_listR pl.isList h0 (by omega) (by rw [hj]; simpa using ew) fin hs
 ·have hj:(i+(its.toArray.size:Int)).toNat=j:=by
   rw [seqIndex_neg (by omega) h4] at h1
   rw [Zi,<- hl]
   exact ZW h1
  exact subscriptTail_builtinR (x:=w) pl.isList.typeIs slot_list_getitem.lookup
   (wpAny_getItem_list_neg (Q:=fun r s'=>r=w/\EP X pins σ Q r s') pl.isList (by omega) (by rw [Zi] <;> omega) (by omega) (by rw [hj]; simpa using ew) ⟨rfl,fin⟩) hs
theorem ym:IxR X (zP X.K):=by
 intro value slice pins s σ H x y v u Q I rx ry h hs
 obtain ⟨p,xs,i,z,rfl,rfl,hq,he,q⟩:=h
 cases rx
 obtain ⟨t,rfl⟩:=ry
 obtain ⟨its,r,pl,hz⟩:=I.tuple hq
 obtain ⟨j,h1,h2,h3,h4,h5⟩:=pq he
 obtain ⟨w,ew,rw'⟩:=r.get h2
 have hl:=r.length
 have hn:=jN
 have fin:EP X pins σ Q w s:=⟨z,H,I,rw',q⟩
 exact subscriptTail_builtinR (x:=w) pl.typeIs slot_tuple_getitem.lookup
  (getItem_tuple (j:=j) (Q:=fun r s'=>r=w/\EP X pins σ Q r s') pl (by omega) (by omega) (by rw [Zi,<- hl]; exact h1) (by simpa using ew) ⟨rfl,fin⟩) hs
theorem GL (lo hi:Option Int) (n:Nat):(sliceBounds lo hi none n).1=((HT.sIx n 0 lo:Nat):Int)/\(sliceBounds lo hi none n).2.1=((HT.sIx n n hi:Nat):Int)/\(sliceBounds lo hi none n).2.2=1:=by
 refine ⟨?_,?_,rfl⟩
 ·cases lo with
  | none=>simp [sliceBounds,HT.sIx]
  | some i =>
   simp only [sliceBounds,HT.sIx,Option.getD_none,show (1:Int) > 0 by decide,Xj]
   by_cases h:i < 0
   ·simp only [h,Xj] <;> omega
   ·simp only [h,ZK] <;> omega
 ·cases hi with
  | none=>simp [sliceBounds,HT.sIx]
  | some i =>
   simp only [sliceBounds,HT.sIx,Option.getD_none,show (1:Int) > 0 by decide,Xj]
   by_cases h:i < 0
   ·simp only [h,Xj] <;> omega
   ·simp only [h,ZK] <;> omega
theorem yI (its:List Value) (lo hi:Option Int):slicePick its.toArray lo hi none=((its.drop (HT.sIx its.length 0 lo)).take (HT.sIx its.length its.length hi - HT.sIx its.length 0 lo)).toArray:=by
 obtain ⟨h1,h2,h3⟩:=GL lo hi its.toArray.size
 unfold slicePick
 rw [h1,h2,h3]
 simp only [sliceRange_one,pick_run,Zi] <;> rfl
noncomputable def AR (K:PySem.W.Frag):V->Option Int->Option Int->Hp->VK->Prop:=fun x lo hi H Q=>∃ a xs,x=.ref a/\SqL K H a xs/\∀ p,H p=none->Q (.ref p) (upd H p (.lst (dw xs lo hi)))
theorem tE:SlR X (AR X.K):=by
 intro pins s σ H x v vl vu lo hi sl Q I rx hs pl pu h
 obtain ⟨a,xs,rfl,hx,q⟩:=h
 cases rx
 obtain ⟨its,r,ht,hz⟩:=I.list hx
 have hlen:=r.length
 refine ⟨"list",_,slot_list_getitem.lookup,ht.isList.typeIs,?_⟩
 refine wpAny_getItem_list_slice ht.isList hs pl pu .none (by simp) ?_ (by rw [Zi] <;> omega)
 rw [yI,<- hlen]
 refine ⟨.ref s.heap.objs.size,_,I.laid (t':=s.toks) (o:=.lst (dw xs lo hi)) (fun b ob q=>Zg _ q) (Zk _) ?_,rfl,q _ (I.hok.fresh (Zk _))⟩
 exact ⟨ZY (uJ xs lo hi) hz,_,0,(r.drop (HT.sIx xs.length 0 lo)).take (HT.sIx xs.length xs.length hi - HT.sIx xs.length 0 lo),Zw _ rfl⟩
noncomputable def Fe:V->Bool
 | .non=>true
 | .bl _=>true
 | .int _=>true
 | .str _=>true
 | _=>false
theorem Du:b5 X (.builtin "len") (fun xs H Q=>∃ p ys,xs=[.ref p]/\(SqL X.K H p ys\/SqT X.K H p ys)/\Q (.int ys.length) H):=by
 intro pins s σ H xs us Q I r h
 obtain ⟨p,ys,rfl,hq,q⟩:=h
 obtain ⟨u,rfl,rx⟩:=vals1 r
 cases rx
 have hn:=jN
 rcases hq with hq|hq
 ·obtain ⟨its,r',pl,hz⟩:=I.list hq
  have hlen:=r'.length
  exact Calls.call_len_list pl.isList (by simp only [Zi] <;> omega) ⟨.int ys.length,H,I.tok _,⟨s.toks+1,by rw [Zi,hlen]⟩,q⟩
 ·obtain ⟨its,r',pl,hz⟩:=I.tuple hq
  have hlen:=r'.length
  exact len_tuple pl (by simp only [Zi] <;> omega) ⟨.int ys.length,H,I.tok _,⟨s.toks+1,by rw [Zi,hlen]⟩,q⟩
theorem kK:b5 X (.type "tuple") (fun xs H Q=>∃ p ys,xs=[.ref p]/\((SqL X.K H p ys/\∀ l,H l=none->Q (.ref l) (upd H l (.tup ys)))\/(SqT X.K H p ys/\Q (.ref p) H))):=by
 intro pins s σ H xs us Q I r h
 obtain ⟨p,ys,rfl,h⟩:=h
 obtain ⟨u,rfl,rx⟩:=vals1 r
 cases rx
 rcases h with ⟨hq,q⟩|⟨hq,q⟩
 ·obtain ⟨its,r',pl,hz⟩:=I.list hq
  have hlen:=r'.length
  refine call_tuple_list pl.isList (fun h' kp=>?_) (by simp only [Zi] <;> omega)
  have I1:Inv X pins σ H { s with heap:=h' }:=I.kept (t':=s.toks) kp
  have I2:Inv X pins σ (upd H h'.objs.size (.tup ys)) { s with heap:=h'.push { cls:=.type "tuple",data:=.seq its.toArray } } :=
   I1.laid (t':=s.toks) (fun b o e=>Zg _ e) (Zk _) (show aS X.prog X.w _ _ _ (.tup ys) from ⟨hz,its,r',IsTup.new _ _⟩)
  exact ⟨.ref h'.objs.size,_,I2,rfl,q _ (I1.hok.fresh (Zk _))⟩
 ·obtain ⟨its,r',pl,hz⟩:=I.tuple hq
  exact call_tuple_same pl ⟨.ref p,H,I,rfl,q⟩
noncomputable def tyV (K:PySem.W.Frag) (T:String) (x:V) (H:Hp):Prop:=match x with
 | .str _=>T = "str"
 | .int _=>T = "int"
 | .ref p=>(T = "list"/\∃ xs,SqL K H p xs)\/(T = "tuple"/\∃ o,K.lookup p=some o/\o.cls=.type "tuple"/\o.dict=none) \/
   (T = "dict"/\((∃ kvs,H p=some (.dK kvs))\/∃ kvs,H p=some (.dT kvs)))\/(T = "set"/\∃ S n,H p=some (.set S n))
 | _=>False
theorem C3 {pins:List (Addr × Obj)} {σ:St} {H:Hp} {s:Shared} {T:String} {x:V} {v:Value} (I:Inv X pins σ H s) (r:RelV x v) (ty:tyV X.K T x H) :
  s.TypeIs v T/\∀ a,v=.ref a->∃ ob,s.heap.get? a=some ob/\ob.dict=none:=by
 cases x with
 | str z =>
  obtain ⟨t,rfl⟩:=r
  cases (show T = "str" from ty)
  exact ⟨typeIs_str s z t,fun _ e=>nomatch e⟩
 | int i =>
  obtain ⟨t,rfl⟩:=r
  cases (show T = "int" from ty)
  exact ⟨typeIs_int s i t,fun _ e=>nomatch e⟩
 | ref p =>
  cases r
  rcases ty with ⟨rfl,xs,hq⟩|⟨rfl,o,hk,hc,hd⟩|⟨rfl,hk⟩|⟨rfl,S,n,hk⟩
  ·obtain ⟨its,_,pl,_⟩:=I.list hq
   refine ⟨pl.isList.typeIs,fun a e=>?_⟩
   cases e
   obtain ⟨o,n,e,c,hd,_⟩:=pl
   exact ⟨o,e,hd⟩
  ·refine ⟨⟨o,I.kIn p o hk,hc⟩,fun a e=>?_⟩
   cases e
   exact ⟨o,I.kIn _ o hk,hd⟩
  ·have z:∃ o,s.heap.get? p=some o/\o.ExactDict:=by
    rcases hk with ⟨kvs,hk⟩|⟨kvs,hk⟩
    ·obtain ⟨_,_,_,_,o,_,_,e,ex,_⟩:=I.hok p _ hk
     exact ⟨o,e,ex⟩
    ·obtain ⟨_,_,_,_,o,_,_,e,ex,_⟩:=I.hok p _ hk
     exact ⟨o,e,ex⟩
   obtain ⟨o,e,ex⟩:=z
   refine ⟨⟨o,e,ex.1⟩,fun a e2=>?_⟩
   cases e2
   exact ⟨o,e,ex.2.1⟩
  ·obtain ⟨o,_,_,_,e,ex,_⟩:=I.hok p _ hk
   refine ⟨⟨o,e,ex.1⟩,fun a e2=>?_⟩
   cases e2
   exact ⟨o,e,ex.2.1⟩
 | _=>exact False.elim ty
noncomputable def tBM (K:PySem.W.Frag) (T:String) (r:V->List V->Hp->VK->Prop) (to:TE) (t:TA):TE:=fun σ H Q=>to σ H fun x H1=>tyV K T x H1/\t σ H1 fun xs H2=>r x xs H2 Q
variable {o e:Expr} {es:List Expr} {to:TE} {t:TA} {name:Str} {apos cpos:Pos} {T id:String} {r:V->List V->Hp->VK->Prop}
theorem Am (pa:PlainAttrs T) (slot:Slot T name id) (hty:typeOf (.builtin id)=pure (.type "method_descriptor")) (hm:MtR X id r) (ho:PE X o to) (ha:PA X (e::es) t)
  (hbase:attributeBase o name X.env (eval o X.env)=eval o X.env:=by rfl)
  (hfew:((backTo cpos (starEach (e::es) X.env)).all (fun x=>!x.1)&&(backToKw cpos (keywordEach [] X.env)).all (fun x=>x.1.isSome)
  &&decide ((e::es).length+([]:List Keyword).length+(if ([]:List Keyword).isEmpty then 0 else 1) < 30))=true:=by rfl)
  (hline:(apos.endLine==cpos.line)=true:=by rfl) (hs:starEach (e::es) X.env=(false,eval e X.env)::starEach es X.env:=by rfl) (hplain:(backTo cpos (starEach es X.env)).any (·.1)=false:=by rfl) :
  PE X (.Call (.Attribute o name apos) (e::es) [] cpos) (tBM X.K T r to t):=by
 intro pins s σ H Q I h
 refine wpAny_Call_method_late hbase hfew hline rfl (thn (ho pins s σ H _ I h) fun v s1 ⟨x,H1,I1,r1,ty,q1⟩=>?_)
 obtain ⟨h1,h2⟩:=C3 I1 r1 ty
 refine ⟨T,id,pa,slot,hty,h1,h2,?_⟩
 have hA:=ha cpos pins s1 σ H1 _ I1 q1
 rw [hs] at hA ⊢
 refine Calls.callWith_builtin (by show (false||(backTo cpos (starEach es X.env)).any (·.1))=false; rw [hplain] <;> rfl) (Calls.evalArgs_plain ?_)
 exact thn hA fun us s2 ⟨vs,H2,I2,r2,q2⟩=>hm pins s2 σ H2 x vs v us Q I2 r1 r2 q2
/- xs.append(e),list.index on a module's tuple .. are MtR facts of 06m -/
end
end L2
namespace L2
open PySem PySem.Spec PyProof.Rows
noncomputable def MtM (X:Cx) (id:String) (r:V->List V->Hp->VK->Prop):Prop :=
 ∀ (pins:List (Addr × Obj)) (s:Shared) (σ:St) (H:Hp) (x:V) (xs:List V) (v:Value) (us:List Value) (Q:VK),Inv X pins σ H s->RelV x v->Vals xs us->r x xs H Q ->
  wpAny (model X.prog X.w) X.A (call (.builtin id) (v::us)) (EP X pins σ Q) X.xe s
theorem Vals.one:∀ {x:V} {us:List Value},Vals [x] us->∃ u,us=[u]/\RelV x u
 | _,_,.cons r .nil=>⟨_,rfl,r⟩
theorem Vals.two:∀ {x y:V} {us:List Value},Vals [x,y] us->∃ u v,us=[u,v]/\RelV x u/\RelV y v
 | _,_,_,.cons r (.cons q .nil)=>⟨_,_,rfl,r,q⟩
section
variable {X:Cx} {pins:List (Addr × Obj)} {σ:St} {H:Hp} {s:Shared} {l b:Addr} {xs ys zs:List V}
theorem Inv.rT {its its':List Value} {n:Nat} {f:Array Value->Array Value} {t':Nat} (I:Inv X pins σ H s) (hH:H l=some (.lst xs))
  (e:s.heap.get? l=some { cls:=.type "list",data:=.seq its.toArray n }) (hf:f its.toArray=its'.toArray) (hv:Vals ys its') (hz:ys.length<=sizeLine) :
  Inv X pins σ (upd H l (.lst ys)) { s with heap:=s.heap.update l (Obj.mapSeq f),toks:=t' }:=by
 have q:=PySem.IsL.update e f
 rw [hf] at q
 refine I.write (x:=l) (e:=l) (by rw [hH]; exact trivial) (.inl rfl) (fun b' u hb hu=>(Qu s.heap (Obj.mapSeq f) (Ne.symm hb)).trans hu) ⟨_,q⟩ ?_
 exact ⟨hz,its',_,hv,q⟩
theorem Inv.wX {its:List Value} {t':Nat} (I:Inv X pins σ H s) (hv:Vals ys its) (hz:ys.length<=sizeLine) :
  Inv X pins σ (upd H s.heap.objs.size (.lst ys)) { s with heap:=s.heap.push { cls:=.type "list",data:=.seq its.toArray },toks:=t' } :=
 I.laid (fun _ _ q=>Zg _ q) (Zk _) ⟨hz,its,0,hv,Zw _ rfl⟩
theorem Inv.fresh (I:Inv X pins σ H s):H s.heap.objs.size=none:=I.hok.fresh (Zk _)
theorem Inv.iM (I:Inv X pins σ H s) (hH:H l=some (.lst xs)):xs.length<=sizeLine/\∃ (its:List Value) (n:Nat),Vals xs its/\xs.length=its.length/\s.heap.get? l=some { cls:=.type "list",data:=.seq its.toArray n }:=by
 obtain ⟨z,its,n,r,e⟩:=I.hok l _ hH
 exact ⟨z,its,n,r,r.length,e⟩
theorem z0 {n:Nat} (h:n<=sizeLine):Builtin.List.listTooLong n=false:=by
 unfold Builtin.List.listTooLong
 exact Zz (by omega)
end
section
variable {X:Cx}
noncomputable def Gp:V->List V->Hp->VK->Prop:=fun x vs H Q=>∃ l xs y,x=.ref l/\vs=[y]/\H l=some (.lst xs)/\xs.length < sizeLine/\Q .non (upd H l (.lst (xs++[y])))
theorem sD:MtM X "list.append" Gp:=by
 intro pins s σ H x vs v us Q I rx rv h
 obtain ⟨l,xs,y,rfl,rfl,hH,hz,q⟩:=h
 cases rx
 obtain ⟨u,rfl,ru⟩:=rv.one
 obtain ⟨z,its,n,r,hl,e⟩:=I.iM hH
 refine call_meets F.slot_list_append ⟨_,e,rfl⟩ F.entry_list_append (F.args_list_append_2 _ _) (PySem.list_append l its.toArray n u (by rw [Zi]; omega)) ⟨e,?_⟩
 refine ⟨.non,_,I.rT (its':=its++[u]) hH e (by simp) (r.append (.cons ru .nil)) ?_,rfl,q⟩
 rw [Zv,XG]
 omega
noncomputable def Ei:V->List V->Hp->VK->Prop:=fun x vs H Q=>∃ l b xs zs,x=.ref l/\vs=[.ref b]/\H l=some (.lst xs)/\H b=some (.lst zs)/\xs.length+zs.length<=sizeLine/\Q .non (upd H l (.lst (xs++zs)))
theorem zE:MtM X "list.extend" Ei:=by
 intro pins s σ H x vs v us Q I rx rv h
 obtain ⟨l,b,xs,zs,rfl,rfl,hH,hB,hz,q⟩:=h
 cases rx
 obtain ⟨u,rfl,ru⟩:=rv.one
 cases ru
 obtain ⟨z,its,n,r,hl,e⟩:=I.iM hH
 obtain ⟨z2,its2,n2,r2,hl2,e2⟩:=I.iM hB
 have hsz:its.toArray.size+its2.toArray.size<=sizeLine:=by rw [Zi,Zi]; omega
 have hlong:¬ (!its.toArray.isEmpty&&Builtin.List.listTooLong (its.toArray.size+its2.toArray.size))=true:=by
  rw [z0 hsz,Bool.and_false]
  exact Zx
 refine call_meets F.slot_list_extend ⟨_,e,rfl⟩ F.entry_list_extend (F.args_list_extend_2 _ _)
  (AutoSeq1.list_extend_list_list_0 l its.toArray n b its2.toArray n2 hlong (by rw [Zi]; omega) (by omega)) ⟨e,e2,?_⟩
 refine ⟨.non,_,I.rT (its':=its++its2) hH e (by simp) (r.append r2) ?_,rfl,q⟩
 rw [Zv]
 omega
noncomputable def Dp:R2:=fun x y H Q=>∃ l b xs zs,x=.ref l/\y=.ref b/\H l=some (.lst xs)/\H b=some (.lst zs)/\xs.length+zs.length<=sizeLine/\∀ p,H p=none->Q (.ref p) (upd H p (.lst (xs++zs)))
theorem zy:OpR X (binaryOp .Add) Dp:=by
 intro pins s σ H x y v u Q I rx ry h
 obtain ⟨l,b,xs,zs,rfl,rfl,hH,hB,hz,q⟩:=h
 cases rx
 cases ry
 obtain ⟨z,its,n,r,hl,e⟩:=I.iM hH
 obtain ⟨z2,its2,n2,r2,hl2,e2⟩:=I.iM hB
 refine PySem.P.add_list e e2 ?_ (by rw [Zi,Zi]; omega)
 have ea:its.toArray++its2.toArray=(its++its2).toArray:=by simp
 rw [ea]
 exact ⟨.ref _,_,I.wX (t':=s.toks) (r.append r2) (by rw [Zv]; omega),rfl,q _ I.fresh⟩
end
section
variable {prog:Program} {w:World} {A:Around} {E:Value->Shared->Prop} {s:Shared}
end
section
variable {X:Cx}
end
end L2
namespace Att
open PySem PySem.W PySem.Calls PyProof.Rows
theorem Ct {P:Params} {h:Heap}:∀ (ns:List Int) (vs:List Value),WellAll P h vs (ns.map WData.int)->IntsAre vs ns:=by
 intro ns
 induction ns with
 | nil =>
  intro vs w
  rw [Qz] at w
  cases w
  exact .nil
 | cons n ns ih =>
  intro vs w
  rw [ZF] at w
  cases w with
  | cons a b =>
   cases a
   exact .cons _ _ (ih _ b)
theorem xU {l:OpenLaw} {n:Nat} (hn:l.most=some n) {P:Params} {h:Heap} {args:List WData} {vals:List Value}
  (hpre:l.row.toRowW.claim.pre args=true) (hwl:WellAll P h vals args) :
  ∃ a vs ns,vals=[Value.ref a]/\args=[WData.list (ns.map WData.int)]/\h.get? a=some { cls:=.type "list",data:=.seq vs.toArray }/\IntsAre vs ns/\ns.length<=n:=by
 have hsh:WShape.hasAll [] args [.list .int]=true:=(pre_splitW hpre).1
 have hc:l.pre.holds [] { args:=args }=true:=(pre_splitW hpre).2
 obtain ⟨d,r,rfl,h1,h2⟩:=hasAllW_cons hsh
 obtain rfl:=hasAllW_nil h2
 obtain ⟨xs,rfl,h3⟩:=hasW_list h1
 obtain ⟨ns,rfl⟩:=items_int h3
 have hlen:ns.length<=n:=by
  unfold OpenLaw.pre at hc
  have h4:(WTm.not (.lt (.lit (.int (n:Int))) (.len (.arg 0)))).holds [] { args:=[.list (ns.map .int)] }=true:=by
   have h4:=(holds_andW hc).1
   rw [hn] at h4
   exact h4
  have h5:=condW_of h4 (w_not (w_lt w_lit (w_len_list (w_arg rfl))))
  rw [Zd] at h5
  refine Nat.le_of_not_lt fun q=>?_
  have q':(n:Int) < ((ns.length:Nat):Int):=by omega
  first
   | (rw [Zj q'] at h5; exact absurd h5 (by decide))
   | (simp at h5; omega)
 cases hwl with
 | cons w1 w2 =>
  cases w2
  cases w1 with
  | list ho hall=>exact ⟨_,_,ns,rfl,rfl,ho,Ct ns _ hall,hlen⟩
theorem zu (l:OpenLaw) (args:List WData):l.row.toRowW.claim.post args (.bool true) args=true :=
 postW_of (r:=l.row.toRowW) (X:=(true==true))
  (show WShape.has [] (.bool true) .bool=true by first|rfl|decide|simp [WShape.has,WShape.arms,WShape.armsAll])
  (show (WTm.eq .res (.lit (.bool true))).value [] { args:=args,res:=some (.bool true),after:=args }=some (.bool (true==true)) from w_eq_bool (w_res rfl) w_lit) rfl
theorem zb {l:OpenLaw} {n:Nat} {q:Program} {loose:List Str} {XP:(Str->Option Value)->Heap->Prop} {YP:World->Heap->Prop} {d:DefRec}
  (hn:l.most=some n) (hdf:d.params.defaults=[])
  (call:∀ (w:World) (s₀ s₁:Shared) (mg mb:Str->Option Value) (fa:Addr) (o:Obj) (pm cd doc:Value) (a:Addr) (vs:List Value) (ns:List Int),
   Ground q loose [] XP w s₀ mg mb s₁.heap->YP w s₁.heap ->
   s₁.heap.get? fa=some o->o.data=.func (docDef d.name d.params d.body d.scope pm cd doc)->s₁.heap.CodeRec cd d.name->mg d.name=some (.ref fa) ->
   s₁.heap.get? a=some { cls:=.type "list",data:=.seq vs.toArray }->IntsAre vs ns->ns.length<=n->s₁.gens=#[] ->
   codeAny (model l.prog w) callerA (.call (.ref fa) ⟨[.ref a],[]⟩) (fun r s'=>r=.ok (.ret (.bool true))/\OldK s₁.heap s'.heap/\s'.os=s₁.os/\AllBare s'.gens) s₁) :
  WalkO q loose XP YP l.row.toRowW d [] (fun f vs=>PySem.call f vs):=by
 intro w s₀ s₁ mg mb G Y fa o pm cd doc dV kV ho hd hcd hD hmg hg args vals as hpre hlay hrd hwl hlo
 obtain rfl:dV=.none:=Dflts.none hD hdf
 obtain rfl:kV=.none:=Dflts.noKw hD
 obtain ⟨a,vs,ns,rfl,rfl,hobj,hints,hlen⟩:=xU hn hpre hwl
 refine enter_call (Wb (call w s₀ s₁ mg mb fa o pm cd doc a vs ns G Y ho (fd_plain hd) hcd hmg hobj hints hlen hg) fun r s' hq=>?_)
 obtain ⟨rfl,h2,h3,h4⟩:=hq
 exact ⟨.inl ⟨.bool true,.bool true,[],rfl,fun _=>rfl,.bool true,zu l _,fun _=>⟨List.Pairwise.nil,fun _ hm=>(nomatch hm)⟩⟩,h2,h3,h4⟩
section
variable {prog:Program} {w:World} {A:Around} {E:Value->Shared->Prop} {s:Shared} {K:Frag}
end
end Att
namespace L2
open PySem PySem.Spec PyProof.Rows
theorem oq:∀ {vs:List Value} {ns:List Int},IntsAre vs ns->Vals (ns.map V.int) vs
 | _,_,.nil=>.nil
 | _,_,.cons n t h=>.cons ⟨t,rfl⟩ (oq h)
noncomputable def gO (H:Hp):Prop:=∀ b,H b=none\/∃ o xs,H b=some (.frz o (.lst xs))
theorem BL {P:Program} {w:World} {K:PySem.W.Frag} {mg mb:Str->Option Value} {CX:CXT} {k:Nat} {fa a:Addr} {fd:FuncData} {x:Str} {sp:Sp} {s₁:Shared} {vs:List Value} {ns:List Int}
  (KX:K.In s₁.heap) (hns:s₁.heap.Ns mainGlobals mg) (hb:s₁.heap.Ns builtinsNs mb) (hbb:∀ x:Str,x≠"__name__"->mb x=bootBuiltins x) (hlim:s₁.heap.NoLimit) (hg:s₁.gens=#[])
  (ha:s₁.heap.get? a=some { cls:=.type "list",data:=.seq vs.toArray }) (hi:IntsAre vs ns) (hl:ns.length<=sizeLine) (hr:bP k callerA)
  (F:∀ base:Heap,K.In base->base.Ns mainGlobals mg->dO P w K mg base CX k fa fd [x] sp) (hbind:∀ (s:Shared) (u:Value),BindsTo s fd ⟨[u],[]⟩ [(x,u)])
  (hsp:∀ H:Hp,gO H->SqL K H a (ns.map V.int)->sp [.ref a] H (fun v _=>v=.bl true) fun _ _ _=>False)
  (hCX:∀ H e s',CX [] H s₁ (fun _ _ _=>False) e s'->False) :
  codeAny (model P w) callerA (.call (.ref fa) ⟨[.ref a],[]⟩) (fun r s'=>r=.ok (.ret (.bool true))/\OldK s₁.heap s'.heap/\s'.os=s₁.os/\AllBare s'.gens) s₁:=by
 have rv:=oq hi
 have lenV:=hi.length
 have core:∀ H:Hp,gO H->SqL K H a (ns.map V.int)->HOk P w H s₁.heap->(∀ b,H b≠none->b=a)->(H a≠none->K.lookup a=none) ->
   codeAny (model P w) callerA (.call (.ref fa) ⟨[.ref a],[]⟩) (fun r s'=>r=.ok (.ret (.bool true))/\OldK s₁.heap s'.heap/\s'.os=s₁.os/\AllBare s'.gens) s₁:=by
  intro H hO hS hok hA hK
  have base_of:∀ {b:Addr} {o:Obj},s₁.heap.get? b=some o->H b=none->(dJ s₁.heap H).get? b=some o:=fun e n=>yG e n
  have noA:∀ {b:Addr} {o:Obj} {es:Array DictEntry} {ep:Nat},s₁.heap.get? b=some o->o.data=.dict es ep->H b=none:=fun {b o es ep} e d=>by
   cases q:H b with
   | none=>rfl
   | some u =>
    have e':b=a:=hA b (by rw [q]; simp)
    subst e'
    rw [ha] at e; cases e
    have d':Data.seq vs.toArray _=Data.dict es ep:=d
    cases d'
  have nsK:∀ {b:Addr} {m:Str->Option Value},s₁.heap.Ns b m->(dJ s₁.heap H).Ns b m:=fun {b m} ⟨o,es,ep,e,d,r⟩=>⟨o,es,ep,base_of e (noA e d),d,r⟩
  have hKb:K.In (dJ s₁.heap H):=fun b o e=>base_of (KX b o e) (by
   cases q:H b with
   | none=>rfl
   | some u =>
    have e':b=a:=hA b (by rw [q]; simp)
    subst e'
    rw [hK (by rw [q]; simp)] at e; cases e)
  have hM:Mod K mg (dJ s₁.heap H):=⟨hKb,nsK hns,⟨mb,nsK hb,hbb⟩,let ⟨mc,h1,h2⟩:=hlim; ⟨mc,nsK h1,h2⟩⟩
  have e0:jH P w K mg (dJ s₁.heap H) callerA [] s₁ H:=⟨rfl,hM,fun b o e=>FJ e,Nat.le_of_eq (CM _ _),trivial,fun b hb=>absurd (show b∈([]:List Addr) from hb) (by simp),hok,.of_eq hg⟩
  refine Wb ((F _ hKb (nsK hns)).run callerA [] s₁ H ⟨[.ref a],[]⟩ [.ref a] [.ref a] _ _ hr e0 (hbind s₁ (.ref a)) (.cons rfl .nil) (hsp H hO hS)) fun r s' h=>?_
  cases r with
  | error e=>exact (hCX H e s' h).elim
  | ok fl =>
   cases fl with
   | next=>exact False.elim h
   | brk=>exact False.elim h
   | cont=>exact False.elim h
   | ret u =>
    obtain ⟨v,H',os,bare,un,hok',r',q⟩:=h
    have q':v=.bl true:=q
    subst q'
    obtain rfl:u=Value.bool true:=r'
    refine ⟨rfl,OldK.of_keep fun b o e=>?_,os,bare⟩
    cases q:H b with
    | none=>exact un.keep b o e q (by intro z; exact absurd (show b∈([]:List Addr) from z) (by simp)) (by simp)
    | some u =>
     rcases hO b with z|⟨ob,xs,z⟩
     ·rw [q] at z; cases z
     ·have z2:=un.frzs b ob _ z
      obtain ⟨e1,_⟩:=hok b _ z
      obtain ⟨e2,_⟩:=hok' b _ z2
      rw [e] at e1; cases e1
      exact e2
 cases hk:K.lookup a with
 | some o =>
  have e:=KX a o hk
  rw [ha] at e
  cases e
  refine core (fun _=>none) (fun _=>.inl rfl) (.inr ⟨_,vs.toArray,_,hk,rfl,rfl,rfl,by rw [Zi,lenV]; exact hl,by simpa using rv⟩) (fun b u z=>by have z':(none:Option HO)=some u:=z; cases z') (fun b z=>absurd rfl z) fun z=>absurd rfl z
 | none =>
  refine core (fun b=>if b=a then some (.frz { cls:=.type "list",data:=.seq vs.toArray } (.lst (ns.map V.int))) else none) (fun b=>?_) (.inl (.inr ⟨{ cls:=.type "list",data:=.seq vs.toArray },Ze rfl⟩)) (fun b u z=>?_) (fun b z=>?_) fun _=>hk
  ·by_cases hb:b=a
   ·exact .inr ⟨_,_,Ze hb⟩
   ·exact .inl (Zf hb)
  ·by_cases hb:b=a
   ·have z':=(Ze hb).symm.trans z
    cases z'
    subst hb
    exact ⟨ha,by rw [Zd]; exact hl,vs,_,rv,ha⟩
   ·have z':=(Zf hb).symm.trans z
    cases z'
  ·by_cases hb:b=a
   ·exact hb
   ·exact absurd (Zf hb) z
end L2
namespace L2
open PySem PySem.Spec PyProof.Rows
theorem o6 {l:PySem.W.OpenLaw} {n k:Nat} {q:Program} {loose:List Str} {XP:(Str->Option Value)->Heap->Prop} {YP:World->Heap->Prop} {d:DefRec} {K:Params->PySem.W.Frag} {CX:World->CXT} {sp:World->Sp} {x:Str}
  (hn:l.most=some n) (hn2:n<=sizeLine) (hdf:d.params.defaults=[]) (hr:bP k callerA)
  (hY:∀ (w:World) (h:Heap),YP w h->(K w.params).In h)
  (F:∀ (w:World) (mg:Str->Option Value) (fa:Addr) (h:Heap),(K w.params).In h->h.Ns mainGlobals mg->mg d.name=some (.ref fa) ->
   ∃ fd:FuncData,(∀ (s:Shared) (u:Value),BindsTo s fd ⟨[u],[]⟩ [(x,u)]) /\
    ∀ base:Heap,(K w.params).In base->base.Ns mainGlobals mg->dO l.prog w (K w.params) mg base (CX w) k fa fd [x] (sp w))
  (hsp:∀ (w:World) (H:Hp) (a:Addr) (ns:List Int),ns.length<=n->gO H->SqL (K w.params) H a (ns.map V.int)->sp w [.ref a] H (fun v _=>v=.bl true) fun _ _ _=>False)
  (hCX:∀ (w:World) (H:Hp) (s:Shared) (e:Value) (s':Shared),CX w [] H s (fun _ _ _=>False) e s'->False) :
  PySem.W.WalkO q loose XP YP l.row.toRowW d [] (fun f vs=>PySem.call f vs):=by
 refine Att.zb hn hdf fun w s₀ s₁ mg mb fa o pm cd doc a vs ns G Y ho hd hcd hmg hobj hints hlen hg=>?_
 have KX:=hY w _ Y
 obtain ⟨fd,hb,hF⟩:=F w mg fa _ KX G.T.g hmg
 exact BL KX G.T.g G.T.b G.T.builtins G.T.nolimit hg hobj hints (ZY hlen hn2) hr hF hb (fun H hO hS=>hsp w H a ns hlen hO hS) fun H e s'=>hCX w H s₁ e s'
theorem Ii {l:PySem.W.OpenLaw} {n k:Nat} {q:Program} {loose:List Str} {XP:(Str->Option Value)->Heap->Prop} {YP:World->Heap->Prop} {d:DefRec} {K:Params->PySem.W.Frag} {CX:CXT} {sp:PySem.W.Frag->Sp} {x:Str}
  (hn:l.most=some n) (hn2:n<=sizeLine) (hdf:d.params.defaults=[]) (hr:bP k callerA)
  (hY:∀ (w:World) (h:Heap),YP w h->(K w.params).In h)
  (F:∀ (w:World) (mg:Str->Option Value) (fa:Addr) (h:Heap),(K w.params).In h->h.Ns mainGlobals mg->mg d.name=some (.ref fa) ->
   ∃ fd:FuncData,(∀ (s:Shared) (u:Value),BindsTo s fd ⟨[u],[]⟩ [(x,u)]) /\
    ∀ base:Heap,(K w.params).In base->base.Ns mainGlobals mg->dO l.prog w (K w.params) mg base CX k fa fd [x] (sp (K w.params)))
  (hsp:∀ (K:PySem.W.Frag) (H:Hp) (a:Addr) (ns:List Int),ns.length<=n->gO H->SqL K H a (ns.map V.int)->sp K [.ref a] H (fun v _=>v=.bl true) fun _ _ _=>False)
  (hCX:∀ (H:Hp) (s:Shared) (e:Value) (s':Shared),CX [] H s (fun _ _ _=>False) e s'->False) :
  PySem.W.WalkO q loose XP YP l.row.toRowW d [] (fun f vs=>PySem.call f vs) :=
 o6 (K:=K) (CX:=fun _=>CX) (sp:=fun w=>sp (K w.params)) hn hn2 hdf hr hY F (fun w H a ns h1 h2 h3=>hsp (K w.params) H a ns h1 h2 h3) fun _ H s e s'=>hCX H s e s'
end L2
namespace L2
open PySem PySem.Spec PyProof.Rows
noncomputable def cW (s:Stmt):Arguments:=match s with
 | .FunctionDef _ a _ _ _ _ _ _ _ _=>a
 | _=>{ posonlyargs:=[],args:=[],vararg:=none,kwonlyargs:=[],kw_defaults:=[],kwarg:=none,defaults:=[] }
noncomputable def iX (s:Stmt):List Stmt:=match s with
 | .FunctionDef _ _ b _ _ _ _ _ _ _=>b
 | _=>[]
noncomputable def ir (s:Stmt):Scope:=match s with
 | .FunctionDef _ _ _ _ _ _ sc _ _ _=>sc
 | _=>{ kind:=.function,names:=[],isGenerator:=false,isCoroutine:=false }
structure Fun (K:PySem.W.Frag) (x qual:Str) (st:Stmt) (f:Addr) (fd:FuncData):Prop where
 ex:∃ (oc:Value) (od:Option Addr) (kV doc pm:Value) (an:Option Addr) (cdv ct:Value) (osl:Array (Option Value)),
  fd=PySem.W.fnOf x qual (cW st) (iX st) (ir st) .none kV doc pm an cdv ct/\K.lookup f=some ⟨oc,od,.func fd,osl⟩/\PySem.W.codeIn K cdv qual=true
 kp:PySem.W.keepIn K (.ref f)=true
section
variable {P:Program} {w:World} {K:PySem.W.Frag} {mg:Str->Option Value} {base:Heap}
theorem Fun.binds {x qual:Str} {st:Stmt} {f:Addr} {fd:FuncData} {ps:List Str} (F:Fun K x qual st f fd)
  (h:∀ (kV doc pm:Value) (an:Option Addr) (cdv ct:Value) (us:List Value),us.length=ps.length->bindArgs (PySem.W.fnOf x qual (cW st) (iX st) (ir st) .none kV doc pm an cdv ct) ⟨us,[]⟩=pure (ps.zip us)):Binds K fd ps []:=by
 obtain ⟨oc,od,kV,doc,pm,an,cdv,ct,osl,rfl,lk,hcd⟩:=F.ex
 exact .all (h kV doc pm an cdv ct)
theorem Cz {x qual:Str} {st:Stmt} {f:Addr} {oc:Value} {od an:Option Addr} {osl:Array (Option Value)} {kV doc pm cdv ct:Value} (l:K.lookup f=some ⟨oc,od,.func (PySem.W.fnOf x qual (cW st) (iX st) (ir st) .none kV doc pm an cdv ct),osl⟩)
  (c:PySem.W.codeIn K cdv qual=true) (k:PySem.W.keepIn K (.ref f)=true):Fun K x qual st f (PySem.W.fnOf x qual (cW st) (iX st) (ir st) .none kV doc pm an cdv ct):=⟨⟨oc,od,kV,doc,pm,an,cdv,ct,osl,rfl,l,c⟩,k⟩
end
section
variable {X:Cx}
end
theorem Aw {A B:Prop} (h:B):if false=true then A else B:=by
 rw [Zf Zx]
 exact h
theorem Ci {A B:Prop} (h:A):if true=true then A else B:=by
 rw [Ze rfl]
 exact h
end L2

namespace L2
open PySem PySem.Spec PyProof.Rows
section
variable {κ:Type} [DecidableEq κ]
noncomputable def bV (kvs:List (κ × V)) (k:κ):Option V:=(kvs.find? fun kv=>decide (kv.1=k)).map (·.2)
noncomputable def putK (kvs:List (κ × V)) (k:κ) (v:V):List (κ × V) :=
 if (kvs.any fun kv=>decide (kv.1=k))=true then kvs.map (fun kv=>if kv.1=k then (kv.1,v) else kv) else kvs++[(k,v)]
theorem lV {p:κ × V} {r:List (κ × V)} {k:κ} (e:p.1=k):bV (p::r) k=some p.2:=by simp [bV,ZN,e]
theorem lE {p:κ × V} {r:List (κ × V)} {k:κ} (e:¬ p.1=k):bV (p::r) k=bV r k:=by simp [bV,ZN,e]
theorem sY (k:κ):∀ kvs:List (κ × V),(kvs.any fun kv=>decide (kv.1=k))=(bV kvs k).isSome
 | []=>rfl
 | p::r=>by
  rw [XS]
  by_cases e:p.1=k
  ·simp only [lV e,Zj e,Bool.true_or,Option.isSome_some]
  ·rw [lE e,Zz e,Bool.false_or]; exact sY k r
theorem uf (kvs:List (κ × V)) (k:κ) (v:V):(putK kvs k v).length<=kvs.length+1:=by
 unfold putK
 split
 ·rw [Zd]; omega
 ·rw [Zv,ZB,X2]; omega
theorem dc.g7 {o:Option V} {u:Option Value} (r:dc o u):o.isSome=u.isSome:=by
 cases o with
 | none=>cases u with
  | none=>rfl
  | some _=>exact (show False from r).elim
 | some _=>cases u with
  | none=>exact (show False from r).elim
  | some _=>rfl
theorem KV.val {kvs:List (κ × V)} {vs:List (κ × Value)} (r:KV kvs vs) (k:κ):dc (bV kvs k) (valueAt vs k):=by
 unfold KV at r
 induction r with
 | nil=>exact True.intro
 | @cons p q ps qs h t ih =>
  obtain ⟨h1,h2⟩:=h
  by_cases e:p.1=k
  ·have e':q.1=k:=h1.symm.trans e
   have b:valueAt (q::qs) k=some q.2:=by simp [valueAt,ZN,e']
   rw [lV e,b]; exact h2
  ·have e':¬ q.1=k:=fun z=>e (h1.trans z)
   have b:valueAt (q::qs) k=valueAt qs k:=by simp [valueAt,ZN,e']
   rw [lE e,b]; exact ih
theorem KV.any {kvs:List (κ × V)} {vs:List (κ × Value)} (r:KV kvs vs) (k:κ):(kvs.any fun kv=>decide (kv.1=k))=vs.any fun kv=>decide (kv.1=k):=by
 unfold KV at r
 induction r with
 | nil=>rfl
 | cons h t ih=>rw [XS,XS,ih,h.1]
theorem KV.repl {kvs:List (κ × V)} {vs:List (κ × Value)} (r:KV kvs vs) (k:κ) {y:V} {u:Value} (ry:RelV y u) :
  KV (kvs.map fun kv=>if kv.1=k then (kv.1,y) else kv) (vs.map fun kv=>if kv.1=k then (kv.1,u) else kv):=by
 unfold KV at r ⊢
 induction r with
 | nil=>exact .nil
 | @cons p q ps qs h t ih =>
  rw [ZF,ZF]
  refine .cons ?_ ih
  obtain ⟨h1,h2⟩:=h
  by_cases e:p.1=k
  ·rw [Ze e,Ze (h1.symm.trans e)]; exact ⟨h1,ry⟩
  ·rw [Zf e,Zf (fun z=>e (h1.trans z))]; exact ⟨h1,h2⟩
theorem KV.put {kvs:List (κ × V)} {vs:List (κ × Value)} (r:KV kvs vs) (k:κ) {y:V} {u:Value} (ry:RelV y u):KV (putK kvs k y) (stored vs k u):=by
 unfold putK stored
 rw [r.any k]
 by_cases e:(vs.any fun kv=>decide (kv.1=k))=true
 ·rw [Ze e,Ze e]; exact r.repl k ry
 ·rw [Zf e,Zf e]; exact Paired.snoc r ⟨rfl,ry⟩
theorem KV.length {kvs:List (κ × V)} {vs:List (κ × Value)} (r:KV kvs vs):kvs.length=vs.length:=Q5 r
end
theorem h_ {P:Program} {w:World} {k:Key} {u:Value} (r:RelV (kV k) u):(bF P w).is k u=true:=by
 cases k with
 | inl i=>obtain ⟨t,e⟩:=(show ∃ t,u=Value.int i t from r); subst e; exact y_ P w i t
 | inr x=>obtain ⟨t,e⟩:=(show ∃ t,u=Value.str x t from r); subst e; exact x_ P w x t
theorem sQ {P:Program} {w:World}:∀ {ks:List Key} {us:List Value},Vals (ks.map kV) us->ItemsAre (bF P w) ks us
 | [],_,r=>by rw [Qz] at r; cases r; exact .nil
 | k::ks,_,r=>by
  rw [ZF] at r
  cases r with
  | cons h t=>exact .cons (h_ h) (sQ t)
abbrev KT (H:Hp):List (List Key × V)->List (List Key × Addr × Value)->Prop:=Paired fun p q=>p.1=q.1/\H q.2.1=some (.tup (p.1.map kV))/\RelV p.2 q.2.2
theorem KT.val {H:Hp} {kvs:List (List Key × V)} {xs:List (List Key × Addr × Value)} (r:KT H kvs xs) (k:List Key):dc (bV kvs k) ((atKey xs k).map (·.2)):=by
 induction r with
 | nil=>exact True.intro
 | @cons p q ps qs h t ih =>
  obtain ⟨h1,_,h2⟩:=h
  by_cases e:p.1=k
  ·have e':q.1=k:=h1.symm.trans e
   have b:atKey (q::qs) k=some q.2:=by simp [atKey,ZN,e']
   rw [lV e,b]; exact h2
  ·have e':¬ q.1=k:=fun z=>e (h1.trans z)
   have b:atKey (q::qs) k=atKey qs k:=by simp [atKey,ZN,e']
   rw [lE e,b]; exact ih
theorem KT.repl {H:Hp} {kvs:List (List Key × V)} {xs:List (List Key × Addr × Value)} (r:KT H kvs xs) (k:List Key) {y:V} {u:Value} (ry:RelV y u) :
  KT H (kvs.map fun kv=>if kv.1=k then (kv.1,y) else kv) (xs.map (putAt k u)):=by
 induction r with
 | nil=>exact .nil
 | @cons p q ps qs h t ih =>
  rw [ZF,ZF]
  refine .cons ?_ ih
  obtain ⟨h1,h2,h3⟩:=h
  unfold putAt
  by_cases e:p.1=k
  ·rw [Ze e,Ze (h1.symm.trans e)]; exact ⟨h1,h2,ry⟩
  ·rw [Zf e,Zf (fun z=>e (h1.trans z))]; exact ⟨h1,h2,h3⟩
theorem KT.put {H:Hp} {kvs:List (List Key × V)} {xs:List (List Key × Addr × Value)} (r:KT H kvs xs) (k:List Key) {b:Addr} {y:V} {u:Value} (hb:H b=some (.tup (k.map kV))) (ry:RelV y u) :
  KT H (putK kvs k y) (storedH xs k b u):=by
 have e:(kvs.any fun kv=>decide (kv.1=k))=(atKey xs k).isSome:=by
  rw [sY,(r.val k).g7,QY]
 unfold putK storedH
 rw [e]
 by_cases q:(atKey xs k).isSome=true
 ·rw [Ze q,Ze q]; exact r.repl k ry
 ·rw [Zf q,Zf q]; exact Paired.snoc r ⟨rfl,hb,ry⟩
theorem KT.keeps {H H':Hp} {kvs:List (List Key × V)} {xs:List (List Key × Addr × Value)} (r:KT H kvs xs) (ht:∀ b ys,H b=some (.tup ys)->H' b=some (.tup ys)):KT H' kvs xs :=
 Paired.mJ r fun _ _ z=>⟨z.1,ht _ _ z.2.1,z.2.2⟩
section
variable {P:Program} {w:World} {H:Hp} {h:Heap} {a:Addr}
theorem oQ {u:HO} (ok:HOk P w H h) (e:Rd H a u):aS P w H h a u:=e.ok ok
theorem ie {kvs:List (Key × V)} (ok:HOk P w H h) (e:Rd H a (.dK kvs)):kvs.length<=sizeLine/\(a==sysModules)=false/\∃ vs,KV kvs vs/\h.DictOf (bF P w) a vs :=
 show aS P w H h a (.dK kvs) from oQ ok e
theorem xA {kvs:List (Key × V)} (ok:HOk P w H h) (e:H a=some (.dK kvs)):kvs.length<=sizeLine/\(a==sysModules)=false/\∃ vs,KV kvs vs/\h.DictOf (bF P w) a vs:=ie ok (.inl e)
theorem gG {ks:List Key} (ok:HOk P w H h) (e:H a=some (.tup (ks.map kV))):(tupleKind (bF P w)).is h ks a:=by
 obtain ⟨_,its,r,o,h1,h2,n,h3⟩:=(show aS P w H h a (.tup (ks.map kV)) from ok a _ e)
 exact ⟨o,its.toArray,n,h1,h2,h3,by simpa using sQ r⟩
theorem gK {kvs:List (List Key × V)} (ok:HOk P w H h) (e:Rd H a (.dT kvs)):kvs.length<=sizeLine/\(a==sysModules)=false /\
  ∃ xs,KT H kvs xs/\h.DictOfH (tupleKind (bF P w)) a xs:=by
 obtain ⟨z,y,xs,r,o,es,ep,h1,h2,h3,h4,h5⟩:=(show aS P w H h a (.dT kvs) from oQ ok e)
 refine ⟨z,y,xs,r,o,es,ep,h1,h2,h3,h4,fun x hx=>?_,h5⟩
 have all:∀ {l:List (List Key × V)} {m:List (List Key × Addr × Value)},KT H l m->∀ x∈m,(tupleKind (bF P w)).is h x.1 x.2.1:=by
  intro l m q
  induction q with
  | nil=>intro x hx; exact nomatch hx
  | @cons p q ps qs hq t ih =>
   intro x hx
   rcases Zt.mp hx with e|hx
   ·subst e
    exact gG ok (by rw [<- hq.1]; exact hq.2.1)
   ·exact ih x hx
 exact all r x hx
theorem A3 {kvs:List (List Key × V)} (ok:HOk P w H h) (e:H a=some (.dT kvs)):kvs.length<=sizeLine/\(a==sysModules)=false /\
  ∃ xs,KT H kvs xs/\h.DictOfH (tupleKind (bF P w)) a xs:=gK ok (.inl e)
end
noncomputable def fz (H:Hp) (a:Addr) (y:V) (r:Option V):Prop :=
 (∃ kvs k,Rd H a (.dK kvs)/\y=kV k/\r=bV kvs k)\/∃ kvs k b,Rd H a (.dT kvs)/\y=.ref b/\H b=some (.tup (k.map kV))/\r=bV kvs k
noncomputable def ic (H:Hp) (a:Addr) (y v:V) (H':Hp):Prop :=
 (∃ kvs k,H a=some (.dK kvs)/\y=kV k/\kvs.length < sizeLine/\H'=upd H a (.dK (putK kvs k v))) \/
 ∃ kvs k b,H a=some (.dT kvs)/\y=.ref b/\H b=some (.tup (k.map kV))/\kvs.length < sizeLine/\H'=upd H a (.dT (putK kvs k v))
theorem ic.t {H:Hp} {a b:Addr} {kvs:List (List Key × V)} {k:List Key} {v:V} (e:H a=some (.dT kvs)) (eb:H b=some (.tup (k.map kV))) (hl:kvs.length < sizeLine) :
  ic H a (.ref b) v (upd H a (.dT (putK kvs k v))):=.inr ⟨kvs,k,b,e,rfl,eb,hl,rfl⟩
section
variable {X:Cx} {pins:List (Addr × Obj)} {σ:St} {H:Hp} {s:Shared} {a:Addr} {y v:V} {u r:Value} {o:Option V} {A:Around} {E:Value->Shared->Prop}
theorem Inv.big (I:Inv X pins σ H s):sysModules < s.heap.objs.size:=by
 have h:mainGlobals < s.heap.objs.size:=(I.mod.glob.keeps I.bk).lt
 exact QA (by decide) h
theorem BG {Q:Value->Shared->Prop} (hu:A.units+1 < cLine) (I:Inv X pins σ H s) (g:fz H a y (some v)) (ry:RelV y u) (h:∀ w' s',Inv X pins σ H s'->RelV v w'->Q w' s') :
  wpAny (model X.prog X.w) A (getItem (.ref a) u) Q E s:=by
 rcases g with ⟨kvs,k,e,ey,l⟩|⟨kvs,k,b,e,ey,eb,l⟩
 ·subst ey
  obtain ⟨z,hd,vs,rel,dd⟩:=ie I.hok e
  obtain ⟨w',hw,rw'⟩:=dc.some_of (v:=v) (o:=valueAt vs k) (by rw [l]; exact rel.val k)
  exact wpAny_getItem_of (h_ ry) dd.mapOf hw (h w' _ (I.tok _) rw')
 ·subst ey
  cases (show u=Value.ref b from ry)
  obtain ⟨z,hd,xs,rel,dd⟩:=gK I.hok e
  obtain ⟨w',hw,rw'⟩:=dc.some_of (v:=v) (o:=(atKey xs k).map (·.2)) (by rw [l]; exact rel.val k)
  obtain ⟨p,hp,hp2⟩:=ZC.mp hw
  refine wpAny_getItem_heap (QR hu) (gG I.hok eb) dd hp ?_
  rw [hp2]
  exact h w' _ (I.tok _) rw'
theorem Dk {Q:Value->Shared->Prop} (hu:A.units+1 < cLine) (I:Inv X pins σ H s) (g:fz H a y o) (ry:RelV y u) (h:∀ s',Inv X pins σ H s'->Q (.bool o.isSome) s') :
  wpAny (model X.prog X.w) A (compareOp .In u (.ref a)) Q E s:=by
 rcases g with ⟨kvs,k,e,ey,l⟩|⟨kvs,k,b,e,ey,eb,l⟩
 ·subst ey
  obtain ⟨z,hd,vs,rel,dd⟩:=ie I.hok e
  refine wpAny_in_of (h_ ry) hd dd.mapOf ?_
  rw [<- (rel.val k).g7,<- l]
  exact h _ (I.tok _)
 ·subst ey
  cases (show u=Value.ref b from ry)
  obtain ⟨z,hd,xs,rel,dd⟩:=gK I.hok e
  refine wpAny_in_heap (QR hu) (gG I.hok eb) hd dd ?_
  have q:=(rel.val k).g7
  rw [QY] at q
  rw [<- q,<- l]
  exact h _ (I.tok _)
theorem DP {Q:Value->Shared->Prop} (hu:A.units+1 < cLine) (I:Inv X pins σ H s) (g:fz H a y o) (ry:RelV y u) (h:∀ s',Inv X pins σ H s'->Q (.bool (!o.isSome)) s') :
  wpAny (model X.prog X.w) A (compareOp .NotIn u (.ref a)) Q E s:=by
 rcases g with ⟨kvs,k,e,ey,l⟩|⟨kvs,k,b,e,ey,eb,l⟩
 ·subst ey
  obtain ⟨z,hd,vs,rel,dd⟩:=ie I.hok e
  refine wpAny_notIn_of (h_ ry) hd dd.mapOf ?_
  rw [<- (rel.val k).g7,<- l]
  exact h _ (I.tok _)
 ·subst ey
  cases (show u=Value.ref b from ry)
  obtain ⟨z,hd,xs,rel,dd⟩:=gK I.hok e
  refine wpAny_notIn_heap (QR hu) (gG I.hok eb) hd dd ?_
  have q:=(rel.val k).g7
  rw [QY] at q
  rw [<- q,<- l]
  exact h _ (I.tok _)
theorem tW {h':Heap} {t':Nat} {ob:HO} (I:Inv X pins σ H s) (mu:Mut (H a)) (hs:Heap.SameBut a s.heap h') (he:∃ q,h'.get? a=some q) (new:aS X.prog X.w (upd H a ob) h' a ob) :
  Inv X pins σ (upd H a ob) { s with heap:=h',toks:=t' } :=
 I.write (x:=a) (e:=a) mu (.inl rfl) (fun b q hb z=>(hs.2 b hb).trans z) he new
theorem HU {P:Program} {w:World} {H':Hp} {h':Heap} {kvs:List (Key × V)} {vs:List (Key × Value)} (z:kvs.length<=sizeLine) (hd:(a==sysModules)=false) (rel:KV kvs vs) (dd:h'.DictOf (bF P w) a vs) :
  aS P w H' h' a (.dK kvs):=⟨z,hd,vs,rel,dd⟩
theorem ES {H':Hp} {Q:Unit->Shared->Prop} (hu:A.units+1 < cLine) (I:Inv X pins σ H s) (g:ic H a y v H') (ry:RelV y u) (rv:RelV v r) (h:∀ s',Inv X pins σ H' s'->Q () s') :
  wpAny (model X.prog X.w) A (setItem (.ref a) u r) Q E s:=by
 rcases g with ⟨kvs,k,e,ey,l,eH⟩|⟨kvs,k,b,e,ey,eb,l,eH⟩
 ·subst ey eH
  obtain ⟨z,hd,vs,rel,dd⟩:=xA I.hok e
  have hz:vs.length<=sizeLine:=by rw [<- rel.length]; exact z
  have hl:(putK kvs k v).length<=sizeLine:=by have:=uf kvs k v; omega
  refine wpAny_setItem_pairs (hsz:=hz) (h_ ry) dd fun h' dd' hs=>h _ ?_
  have he:∃ q,h'.get? a=some q:=let ⟨q,_,_,hq,_⟩:=dd'; ⟨q,hq⟩
  exact tW I (by rw [e]; exact True.intro) hs he (HU hl hd (rel.put k rv) dd')
 ·subst ey eH
  cases (show u=Value.ref b from ry)
  obtain ⟨z,hd,xs,rel,dd⟩:=A3 I.hok e
  have hz:xs.length<=sizeLine:=by rw [<- Q5 rel]; exact z
  have hl:(putK kvs k v).length<=sizeLine:=by have:=uf kvs k v; omega
  refine wpAny_setItem_heap (hsz:=hz) (QR hu) (gG I.hok eb) dd fun h' dd' hs=>h _ ?_
  obtain ⟨q,es,ep,hq,h2,h3,h4,_,h5⟩:=dd'
  refine tW I (by rw [e]; exact True.intro) hs ⟨q,hq⟩ ⟨hl,hd,_,(rel.put k eb rv).keeps fun c ys ec=>?_,q,es,ep,hq,h2,h3,h4,h5⟩
  rw [aA (kH ec e (fun z=>nomatch z))]
  exact ec
end
section
variable {X:Cx} {pins:List (Addr × Obj)} {σ:St} {H:Hp} {s:Shared} {a:Addr} {kvs:List (Key × V)} {k:Key} {u:Value} {A:Around} {E:Value->Shared->Prop}
end
noncomputable def lD (i:Expr):Prop:=∀ ov iv,subscripted i false ov iv=operate [ov,iv] (getItem ov iv)
theorem yu {prog:Program} {w:World} {A:Around} {E:Value->Shared->Prop} {s:Shared} {env:Env} {value slice:Expr} {pos:Pos} {T id:String} {Q:Value->Shared->Prop}
  (hl:typeLookup (.type T) "__getitem__" = pure (some (.builtin id))) (hs:lD slice)
  (h:wpAny (model prog w) A (eval value env) (fun o s₁=>wpAny (model prog w) A (eval slice env) (fun i s₂=>s₂.TypeIs o T/\wpAny (model prog w) A (getItem o i) Q E s₂) E s₁) E s) :
  wpAny (model prog w) A (eval (.Subscript value slice pos) env) Q E s:=by
 refine Subscript_ (Xu h (fun o s₁ h₁=>Xu h₁ (fun i s₂ h₂=>?_) fun _ _ x=>x) fun _ _ x=>x)
 obtain ⟨hT,h₂⟩:=h₂
 unfold subscriptTail
 refine Za ?_
 rw [getitemInPython_of_ne hT.not_modules]
 refine Za (wpAny_specialOf hT hl ?_)
 have fin:wpAny (model prog w) A (subscripted slice false o i) (fun r s₃=>wpAny (model prog w) A (letTemporaryGo value o r>>=fun _=>pure r) Q E s₃) E s₂:=by
  rw [hs o i]
  exact wpAny_operating (Xu h₂ (fun r s₃ h₃=>Za (wpAny_letTemporaryGo (Zc h₃))) fun _ _ x=>x)
 first
  | exact Zc (Za fin)
  | exact Za (Zc (Za fin))
  | exact Za fin
theorem Cv {X:Cx} {pins:List (Addr × Obj)} {σ:St} {H:Hp} {s:Shared} {a:Addr} {y:V} {o:Option V} (I:Inv X pins σ H s) (g:fz H a y o):s.TypeIs (.ref a) "dict":=by
 rcases g with ⟨kvs,k,e,_,_⟩|⟨kvs,k,b,e,_,_,_⟩
 ·obtain ⟨_,_,vs,_,dd⟩:=ie I.hok e
  exact dd.typeIs
 ·obtain ⟨_,_,xs,_,dd⟩:=gK I.hok e
  exact dd.typeIs
noncomputable def Ed (td ty:TE):TE:=fun σ H Q=>td σ H fun x H1=>ty σ H1 fun y H2=>∃ a v,x=.ref a/\fz H2 a y (some v)/\Q v H2
noncomputable def FG (td ty tv:TE):TS:=fun D σ H=>tv σ H fun v H1=>td σ H1 fun x H2=>ty σ H2 fun y H3=>∃ a H4,x=.ref a/\ic H3 a y v H4/\D.nx σ H4
section
variable {X:Cx} {o i e value:Expr} {pos pos' tpos:Pos} {td ty tv:TE}
theorem DM (hu:X.A.units+1 < cLine) (ho:PE X o td) (hi:PE X i ty) (hs:lD i):PE X (.Subscript o i pos) (Ed td ty):=by
 intro pins s σ H Q I h
 refine yu PySem.F.slot_dict_getitem.lookup hs (thn (ho pins s σ H _ I h) fun u s1 ⟨x,H1,I1,rx,q1⟩=>thn (hi pins s1 σ H1 _ I1 q1) fun iv s2 ⟨y,H2,I2,ry,a,v,ex,g,q2⟩=>?_)
 subst ex
 obtain rfl:u=Value.ref a:=rx
 exact ⟨Cv I2 g,BG hu I2 g ry fun w' s3 I3 rw'=>⟨v,H2,I3,rw',q2⟩⟩
theorem yf (hu:X.A.units+1 < cLine) (ho:PE X o td) (hi:PE X i ty) (hv:PE X value tv) (hs:swapsWith value (some (.Subscript o i pos')) pos.line X.env=pure false) :
  PS X (.Assign [.Subscript o i pos'] value pos) (FG td ty tv):=by
 intro pins s σ H D I h
 refine wpAny_Assign_Subscript (thn (hv pins s σ H _ I h) fun r s1 ⟨v,H1,I1,rv,q1⟩=>thn (ho pins s1 σ H1 _ I1 q1) fun u s2 ⟨x,H2,I2,rx,q2⟩=>thn (hi pins s2 σ H2 _ I2 q2) fun iv s3 ⟨y,H3,I3,ry,a,H4,ex,g,q3⟩=>?_) hs
 subst ex
 obtain rfl:u=Value.ref a:=rx
 exact ES hu I3 g ry rv fun s4 I4=>⟨σ,H4,I4,q3⟩
end
theorem xo {P:Program} {w:World} {H:Hp} (h:Heap) (hb:sysModules < h.objs.size):aS P w H (h.push { cls:=.type "dict",data:=.dict #[] }) h.objs.size (.dT []) :=
 ⟨Xs _,Z9.mpr (Ne.symm (ZH hb)),[],.nil,_,#[],0,Zw _ rfl,⟨rfl,rfl,rfl⟩,rfl,rfl,QU⟩
noncomputable def z_:TE:=fun _ H Q=>∀ p,H p=none->Q (.ref p) (upd H p (.dT []))
section
variable {X:Cx} {pos:Pos}
theorem Hr:PE X (.Dict [] [] pos) z_:=fun pins s σ H Q I h =>
 wpAny_Dict_empty ⟨.ref s.heap.objs.size,_,I.laid (a:=s.heap.objs.size) (o:=.dT []) (t':=s.toks) (fun _ _ q=>Zg _ q) (Zk _) (xo s.heap I.big),rfl,h _ (I.hok.fresh (Zk _))⟩
end
end L2

namespace L2
open PySem PySem.Spec PyProof.Rows
section
variable {prog:Program} {w:World} {A:Around} {R:Result->Shared->Prop} {s:Shared}
theorem B_ {elt target iter:Expr} {ifs:List Expr} {scope:Scope} {pos:Pos} {it acc:Value} {env:Env} (I:Nat->Shared->Prop)
  (turn:∀ n s,I n s->wpAny (model prog w) A (pyNext it) (fun r s₁=>match r with
   | none=>R (.ok .next) s₁
   | some v=>wpAny (model prog w) A (letOwnedTupleGo target it v) (fun _ s₁'=>wpAny (model prog w) A (assign target env v) (fun _ s₂ =>
     wpAny (model prog w) A (forIn ifs true fun c r=>if r=true then do let ok <- isTrue c env (eval c env); pure (ForInStep.yield ok) else pure (ForInStep.yield r)) (fun ok s₃ =>
      if ok=true then wpAny (model prog w) A (eval elt env) (fun x s₄ =>
       wpAny (model prog w) A (call (.builtin "list.append") [acc,x]) (fun _ s₅=>∃ m,m < n/\I m s₅) (fun _ _=>False) s₄) (fun _ _=>False) s₃
      else ∃ m,m < n/\I m s₃) (fun _ _=>False) s₂) (fun _ _=>False) s₁') (fun _ _=>False) s₁) (fun _ _=>False) s)
  (n:Nat) (h:I n s) :
  codeAny (model prog w) A (.compLoop (.ListComp elt [⟨target,iter,ifs,0⟩] scope pos) 0 it acc env) R s:=by
 refine codeAny_loop rfl I (fun n s hI=>?_) n h
 show wpAny _ A ((compTurn (.ListComp elt [⟨target,iter,ifs,0⟩] scope pos) 0 it acc env).onRaise (fun x=>do noteFrame x env; theTreesLotGoes x)) _ _ s
 refine wpAny_noted ?_
 rw [compTurn_list]
 refine Za (wpAny_standAt (Za (Xu (turn n s hI) (fun r s₁ h₁=>?_) fun _ _ h'=>h'.elim)))
 cases r with
 | none=>exact Zc h₁
 | some v =>
  refine Za (Xu h₁ (fun _ s₁' h₁'=>?_) fun _ _ h'=>h'.elim)
  refine Za (Xu h₁' (fun _ s₂ h₂=>Za (Xu h₂ (fun ok s₃ h₃=>?_) fun _ _ h'=>h'.elim)) fun _ _ h'=>h'.elim)
  cases ok with
  | false=>exact Zc ⟨rfl,h₃⟩
  | true =>
   exact Za (Za (Xu h₃ (fun x s₄ h₄=>Za (Xu h₄ (fun _ s₅ h₅=>Zc (Zc ⟨rfl,h₅⟩)) fun _ _ h'=>h'.elim)) fun _ _ h'=>h'.elim))
end
theorem mH {env:Env}:∀ (names:List (Str × NameKind)) (cs:List (Str × Addr)),(∀ y∈names,y.2=.free->∃ c,env.cells.lookup y.1=some c) ->
  (∀ x c,cs.lookup x=some c->env.cells.lookup x=some c) ->
  ∃ cl,(forIn names cs fun (p:Str × NameKind) (r:List (Str × Addr))=>if (p.2==NameKind.free)=true then (do let c <- cellOf env p.1; pure (ForInStep.yield ((p.1,c)::r))) else pure (ForInStep.yield r):Sem (List (Str × Addr)))=pure cl /\
   (∀ x c,cl.lookup x=some c->env.cells.lookup x=some c)/\(∀ x c,cs.lookup x=some c->cl.lookup x=some c)/\∀ y∈names,y.2=.free->cl.lookup y.1=env.cells.lookup y.1
 | [],cs,_,hc=>⟨cs,rfl,hc,fun _ _ h=>h,fun y hy=>absurd hy (by simp)⟩
 | (x,k)::r,cs,h,hc=>by
  have hr:∀ y∈r,y.2=.free->∃ c,env.cells.lookup y.1=some c:=fun y hy=>h y (Zm _ hy)
  by_cases hk:k=.free
  ·subst hk
   obtain ⟨c,e⟩:=h (x,.free) Zn rfl
   have hc':∀ z d,((x,c)::cs).lookup z=some d->env.cells.lookup z=some d:=fun z d q=>by
    by_cases hz:z=x
    ·subst hz
     rw [X3] at q
     cases q; exact e
    ·rw [ZZ,show (z==x)=false from Z9.mpr hz] at q
     exact hc z d q
   obtain ⟨cl,e1,e2,e3,e4⟩:=mH r ((x,c)::cs) hr hc'
   refine ⟨cl,?_,e2,fun z d q=>?_,fun y hy hf=>?_⟩
   ·rw [List.forIn_cons]
    simp only [Z7,Xj]
    unfold cellOf
    rw [e]
    simp only [pure_bind]
    exact e1
   ·by_cases hz:z=x
    ·subst hz
     have:=hc z d q
     rw [e] at this
     exact e3 z d (by rw [X3]; exact this)
    ·exact e3 z d (by rw [ZZ,show (z==x)=false from Z9.mpr hz]; exact q)
   ·rcases Zt.mp hy with z|z
    ·subst z
     rw [e3 x c (X3),e]
    ·exact e4 y z hf
  ·have hb:(k==NameKind.free)=false:=Z9.mpr hk
   obtain ⟨cl,e1,e2,e3,e4⟩:=mH r cs hr hc
   refine ⟨cl,?_,e2,e3,fun y hy hf=>?_⟩
   ·rw [List.forIn_cons]
    simp only [hb,Zu,ZK,pure_bind]
    exact e1
   ·rcases Zt.mp hy with z|z
    ·subst z; exact absurd hf hk
    ·exact e4 y z hf
theorem qh {env:Env} {scope:Scope} (h:∀ y∈scope.names,y.2=.free->∃ c,env.cells.lookup y.1=some c) :
  ∃ cl,closureFor scope env=pure cl/\(∀ x c,cl.lookup x=some c->env.cells.lookup x=some c)/\∀ y∈scope.names,y.2=.free->cl.lookup y.1=env.cells.lookup y.1:=by
 obtain ⟨cl,e1,e2,_,e4⟩:=mH (env:=env) scope.names [] h (fun x c q=>by cases q)
 refine ⟨cl,?_,e2,e4⟩
 unfold closureFor
 show ((forIn scope.names ([]:List (Str × Addr)) fun (p:Str × NameKind) (r:List (Str × Addr))=>if (p.2==NameKind.free)=true then (do let c <- cellOf env p.1; pure (ForInStep.yield ((p.1,c)::r))) else pure (ForInStep.yield r):Sem (List (Str × Addr)))>>=fun s=>pure s)=pure cl
 rw [e1]
 rfl
noncomputable def aM (X:Cx) (scope:Scope) (cl:List (Str × Addr)) (N':List Str) (fp:List Addr) (s3:Shared) (H3:Hp):Cx :=
 { X with N:=N',s₀:=s3,H₀:=H3,env:=compEnvC scope cl s3.heap.objs.size X.env,outer:=X.stack,stack:=X.stack,ex:=fp,fn:=fun x=>decide (scope.names.lookup x=some .cell),pn:=[],xe:=fun _ _=>False }
noncomputable def PF (X:Cx) (ifs:List Expr) (t:TT):Prop :=
 ∀ (pins:List (Addr × Obj)) (s:Shared) (σ:St) (H:Hp) (Q:Bool->Hp->Prop),Inv X pins σ H s->t σ H Q ->
  wpAny (model X.prog X.w) X.A (forIn ifs true fun c r=>if r=true then do let ok <- isTrue c X.env (eval c X.env); pure (ForInStep.yield ok) else pure (ForInStep.yield r)) (TP X pins σ Q) X.xe s
theorem pG {X:Cx}:PF X [] (fun _ H Q=>Q true H):=fun _ _ _ H _ I h=>wpAny_tests_nil ⟨H,I,h⟩
theorem sG {X:Cx} {c:Expr} {t:TT} (hc:PT X c t):PF X [c] t:=fun pins s σ H Q I h=>wpAny_tests_one (hc pins s σ H Q I h)
noncomputable def l7 (k:Nat) (wi:TI) (g:TG) (tt:TT) (te:TE):TE:=fun σ H Q=>wi σ H fun J H1=>∀ l,H1 l=none->∃ W:Nat->Nat->Hp->Prop,(∃ m,W 0 m (upd H1 l (.lst [])))/\∀ i m H,W i m H ->
 (J.stop i H/\Q (.ref l) H)\/(J.go i H/\∀ x H',J.yld i H x H'->g x (σ++List.replicate k none) H' fun σ2 H2=>(∀ (j:Nat) v,(σ++List.replicate k none)[j]?=some (some v)->σ2[j]?=some (some v))/\tt σ2 H2 fun b H3 =>
  if b=true then te σ2 H3 fun y H4=>∃ xs,H4 l=some (.lst xs)/\xs.length < sizeLine/\∃ m',m' < m/\W (i+1) m' (upd H4 l (.lst (xs++[y]))) else ∃ m',m' < m/\W (i+1) m' H3)
theorem jz:∀ (names:List (Str × NameKind)) (n:Nat) (acc:List (Str × Addr)),cellsFrom n names acc=cellsFrom n names []++acc
 | [],_,_=>rfl
 | (x,k)::r,n,acc=>by
  unfold cellsFrom
  split
  ·rw [jz r (n+1) ((x,n)::acc),jz r (n+1) [(x,n)],Zr]; rfl
  ·exact jz r n acc
theorem j_ {x:Str} {c:Addr}:∀ (names:List (Str × NameKind)) (n:Nat) (acc:List (Str × Addr)),(x,c)∈cellsFrom n names acc->(x,NameKind.cell)∈names\/(x,c)∈acc
 | [],_,_,h=>.inr h
 | (y,k)::r,n,acc,h=>by
  unfold cellsFrom at h
  split at h
  ·rename_i hk
   rcases j_ r (n+1) _ h with z|z
   ·exact .inl (Zm _ z)
   ·rcases Zt.mp z with e|e
    ·cases e
     rw [QV.mp hk]
     exact .inl Zn
    ·exact .inr e
  ·rcases j_ r n acc h with z|z
   ·exact .inl (Zm _ z)
   ·exact .inr z
theorem jT {α:Type}:∀ {l:List (Str × α)} {x:Str} {a:α},(l.map (·.1)).Nodup->(x,a)∈l->l.lookup x=some a
 | (y,b)::r,x,a,nd,h=>by
  obtain ⟨n1,n2⟩:=Xf.mp nd
  rcases Zt.mp h with e|e
  ·cases e; exact X3
  ·have hne:x≠y:=fun z=>n1 (ZA.mpr ⟨(x,a),e,z⟩)
   rw [ZZ,Z9.mpr hne]
   exact jT n2 e
theorem lR {scope:Scope} {n:Nat} {cl:List (Str × Addr)} (nd:(scope.names.map (·.1)).Nodup) (x:Str):(scope.names.lookup x=some .cell/\∃ c,(cellsFrom n scope.names cl).lookup x=some c/\(x,c)∈cellsFrom n scope.names [])\/(scope.names.lookup x≠some .cell/\(cellsFrom n scope.names cl).lookup x=cl.lookup x):=by
 rw [jz]
 by_cases h:scope.names.lookup x=some .cell
 ·refine .inl ⟨h,?_⟩
  obtain ⟨c,e⟩:=lX (n:=n) h
  exact ⟨c,by rw [List.lookup_append,e]; rfl,mem_of_lookup e⟩
 ·refine .inr ⟨h,?_⟩
  cases e:(cellsFrom n scope.names []).lookup x with
  | none=>rw [List.lookup_append,e]; rfl
  | some c =>
   rcases j_ _ _ _ (mem_of_lookup e) with z|z
   ·exact absurd (jT nd z) h
   ·cases z
theorem yP {M:Model} {A:Around} {E:Value->Shared->Prop} {s:Shared} {scope:Scope} {cl:List (Str × Addr)} {g:Addr} {env:Env} {qual:Str} {Q:Env->Shared->Prop}
  (hQ:Q { scope:=scope,locals:=s.heap.objs.size,globals:=g,cells:=cellsFrom (s.heap.objs.size+1) scope.names cl,qual:=qual,func:=none,code:=env.code,frame:=env.frame,builtins:=env.builtins } { s with heap:=pushCells (s.heap.push { cls:=.type "dict",data:=.dict #[] }) scope.names }) :
  wpAny M A (newFunctionEnv scope g cl [] qual none .none (some env)) Q E s:=by
 simp only [newFunctionEnv,Option.isSome_some,Xj]
 refine Za (wpAny_alloc ?_)
 refine Za (wpAny_layCells _ (fun name kind cells=>by cases hkc:kind==NameKind.cell <;> simp [hkc]) _ _ _ _ ?_)
 rw [show ({ s with heap:=s.heap.push { cls:=.type "dict",data:=.dict #[] } }:Shared).heap.objs.size=s.heap.objs.size+1 from Xk ..]
 refine Za ?_
 rw [List.forIn_nil]
 exact Zc (Zc hQ)
structure eO (X:Cx) (scope:Scope) (N':List Str) (k:Nat):Prop where
 fr:∀ y∈scope.names,y.2=.free->X.env.kindOf y.1=some .cell\/X.env.kindOf y.1=some .free
 nd:(scope.names.map (·.1)).Nodup
 kind:scope.kind=.function
 names:∀ y∈scope.names,y.2=.local->scope.names.lookup y.1=some .local
 len:N'.length=X.N.length+k
 old:∀ (i:Nat) (x:Str),i < X.N.length->N'[i]?=some x->Vis (relabel scope X.env) x->X.N[i]?=some x/\(x,NameKind.free)∈scope.names/\(relabel scope X.env).names.lookup x≠some .local
section
variable {X:Cx} {scope:Scope} {N':List Str} {k:Nat} {cl:List (Str × Addr)} {pins:List (Addr × Obj)} {σ:St} {H:Hp} {s3 s4:Shared} {fp:List Addr}
theorem zf (C:eO X scope N' k) (hc:X.calm=true) (I:Inv X pins σ H s3) (hf:∀ b∈fp,cL X pins H b) (hfl:∀ b∈fp,b < s3.heap.objs.size) (hcl1:∀ x c,cl.lookup x=some c->X.env.cells.lookup x=some c)
  (hcl2:∀ y∈scope.names,y.2=.free->cl.lookup y.1=X.env.cells.lookup y.1) {cl':List (Str × Addr)} (hcl':cl'=cellsFrom (s3.heap.objs.size+1) scope.names cl) (h':Heap) (hns:h'.Ns s3.heap.objs.size fun _=>none) (hk:∀ b o,s3.heap.get? b=some o->h'.get? b=some o) (hown:CellsOk h' (s3.heap.objs.size+1) (cellsFrom (s3.heap.objs.size+1) scope.names [])) :
  Inv (aM X scope cl' N' fp s3 H) [] (σ++List.replicate k none) H { s3 with heap:=h' }:=by
 have fpold:∀ b∈fp,∀ o,X.base.get? b≠some o:=fun b hb o e=>by
  rcases (hf b hb).2.2.2.1 with z|z
  ·exact I.ok.noex b o e z
  ·exact absurd (ZI (Zs (I.ok.bs b o e).1) z) (XB _)
 have own:∀ x c,cl'.lookup x=some c->(scope.names.lookup x=some .cell/\(x,c)∈cellsFrom (s3.heap.objs.size+1) scope.names []/\s3.heap.objs.size < c/\h'.IsCell c none)\/(scope.names.lookup x≠some .cell/\cl.lookup x=some c):=fun x c e=>by
  rw [hcl'] at e
  rcases lR (n:=s3.heap.objs.size+1) (cl:=cl) C.nd x with ⟨h1,c',e1,e2⟩|⟨h1,e1⟩
  ·rw [e1] at e; cases e
   have:=hown.empty x c e2
   exact .inl ⟨h1,e2,this.2,this.1⟩
  ·rw [e1] at e; exact .inr ⟨h1,e⟩
 have fre:∀ y∈scope.names,y.2=.free->cl'.lookup y.1=X.env.cells.lookup y.1:=fun y hy hf=>by
  rw [hcl']
  rcases lR (n:=s3.heap.objs.size+1) (cl:=cl) C.nd y.1 with ⟨h1,_⟩|⟨_,e1⟩
  ·have:=jT C.nd (show (y.1,y.2)∈scope.names from hy)
   rw [h1,hf] at this; cases this
  ·rw [e1]; exact hcl2 y hy hf
 have ncl:∀ x c,cl.lookup x=some c->c < s3.heap.objs.size:=fun x c e=>by
  obtain ⟨v,o,ho,_⟩:=I.cell x c (hcl1 x c e)
  exact Zs ho
 have ok:(aM X scope cl' N' fp s3 H).Ok:=by
  refine ⟨I.ok.mod,C.kind,I.ok.glob,I.ok.blt,Zk _,fun x y c h1 h2=>?_,fun x hx=>?_,fun x c hfn e=>?_,I.ok.hd,I.ok.frames,.inl rfl,fun b hb=>?_,I.bs,ZY I.ok.bsz I.sz,fun b o e hb=>fpold b hb o e,fun b hb hb2=>?_,I.stack,I.mE⟩
  ·rcases own x c h1 with ⟨a1,a2,a3,a4⟩|⟨a1,a2⟩
   ·rcases own y c h2 with ⟨b1,b2,b3,b4⟩|⟨b1,b2⟩
    ·exact name_of_addr hown.apart a2 b2
    ·exact absurd (ncl y c b2) (Nat.lt_asymm a3)
   ·rcases own y c h2 with ⟨b1,b2,b3,b4⟩|⟨b1,b2⟩
    ·exact absurd (ncl x c a2) (Nat.lt_asymm b3)
    ·exact I.ok.inj x y c (hcl1 x c a2) (hcl1 y c b2)
  ·have hx':(relabel scope X.env).names.lookup x=some .cell\/(relabel scope X.env).names.lookup x=some .free:=hx
   have:(x,NameKind.free)∈scope.names\/(x,NameKind.cell)∈scope.names:=by
    have all:∀ (ns:List (Str × NameKind)),((ns.map fun (n,k)=>if (k==.free&&X.env.scope.kind==.function&&X.env.kindOf n==some .cell) then (n,NameKind.cell) else (n,k)).lookup x=some .cell\/(ns.map fun (n,k)=>if (k==.free&&X.env.scope.kind==.function&&X.env.kindOf n==some .cell) then (n,NameKind.cell) else (n,k)).lookup x=some .free)->(x,NameKind.free)∈ns\/(x,NameKind.cell)∈ns:=by
     intro ns
     induction ns with
     | nil=>intro h; rcases h with h|h <;> simp at h
     | cons y r ih =>
      intro h
      obtain ⟨n,kd⟩:=y
      have hr:=ih
      simp only [ZF] at h
      by_cases hxn:x=n
      ·subst hxn
       by_cases hkf:kd=.free
       ·subst hkf; exact .inl Zn
       ·have hb:(kd==NameKind.free)=false:=Z9.mpr hkf
        simp only [hb,Bool.false_and,Zu,ZK,X3] at h
        rcases h with h|h
        ·rw [ZW h]; exact .inr Zn
        ·exact absurd (ZW h) hkf
      ·have hb:(x==n)=false:=Z9.mpr hxn
       refine (hr ?_).imp (Zm _) (Zm _)
       by_cases hcnd:(kd==NameKind.free&&X.env.scope.kind==.function&&X.env.kindOf n==some .cell)=true
       ·simp only [Ze hcnd,ZZ,hb] at h
        exact h
       ·simp only [Zf hcnd,ZZ,hb] at h
        exact h
    exact all scope.names hx'
   rcases this with this|this
   ·obtain ⟨c,e⟩:=I.ok.has x (C.fr _ this rfl)
    exact ⟨c,(fre _ this rfl).trans e⟩
   ·rcases lR (n:=s3.heap.objs.size+1) (cl:=cl) C.nd x with ⟨h1,c',e1,e2⟩|⟨h1,_⟩
    ·exact ⟨c',by show cl'.lookup x=_; rw [hcl']; exact e1⟩
    ·exact absurd (jT C.nd this) h1
  ·rcases own x c e with ⟨a1,a2,a3,a4⟩|⟨a1,a2⟩
   ·exact Qe a3
   ·exact absurd (Zo hfn) a1
  ·obtain ⟨f0,f1,f2,f3,f4,f5⟩:=hf b hb
   refine ⟨?_,fun x c e=>?_⟩
   rotate_left
   ·rcases own x c e with ⟨a1,a2,a3,a4⟩|⟨a1,a2⟩
    ·exact fun z=>absurd (hfl b hb) (by rw [<- z]; exact Nat.lt_asymm a3)
    ·exact f4 x c (hcl1 x c a2)
   intro z
   have hz:b=s3.heap.objs.size:=z
   exact absurd (hfl b hb) (by rw [hz]; exact XB _)
  ·obtain ⟨f0,f1,f2,f3,f4,f5⟩:=hf b hb
   rcases Zt.mp (I.m9 b hb2) with z|z
   ·exact f1 z
   ·exact f2 z
 refine ⟨ok,rfl,I.bare,Un.kept hk,⟨fun _=>none,hns,fun i x v e1 e2 e3=>?_⟩,fun x c e=>?_,I.hok.fresh (Zk _),fun x c e=>?_,fun p hp=>absurd (show p∈([]:List (Addr × Obj)) from hp) (by simp),I.hok.kept hk,?_⟩
 ·have hi:i < σ.length:=by
   by_cases hi:i < σ.length
   ·exact hi
   ·rw [ZJ (by omega),XU] at e2
    split at e2 <;> cases e2
  rw [ZE hi] at e2
  obtain ⟨o1,o2,o3⟩:=C.old i x (by rw [<- I.len]; exact hi) e1 e3
  obtain ⟨m,hn,hl⟩:=I.loc
  have hkk:=C.fr _ o2 rfl
  obtain ⟨u,r,l⟩:=hl i x v o1 e2 (by rcases hkk with q|q; exact .inr (.inl q); exact .inr (.inr q))
  refine ⟨u,r,?_⟩
  rcases l with ⟨q,_⟩|⟨q,c,e,z⟩
  ·rcases hkk with q'|q' <;> (rw [q] at q'; cases q')
  ·refine .inr ⟨?_,c,(fre _ o2 rfl).trans e,?_⟩
   ·rcases e3 with e3|e3|e3
    ·exact absurd e3 o3
    ·exact .inl e3
    ·exact .inr e3
   ·obtain ⟨o,ho,hd⟩:=z
    exact ⟨o,hk _ _ ho,hd⟩
 ·rcases own x c e with ⟨a1,a2,a3,a4⟩|⟨a1,a2⟩
  ·exact ⟨none,a4⟩
  ·obtain ⟨v,o,ho,hd⟩:=I.cell x c (hcl1 x c a2)
   exact ⟨v,o,hk _ _ ho,hd⟩
 ·rcases own x c e with ⟨a1,a2,a3,a4⟩|⟨a1,a2⟩
  ·exact I.hok.fresh (Qe a3)
  ·exact I.freeC x c (hcl1 x c a2)
 ·show (σ++List.replicate k none).length=N'.length
  rw [Zv,List.length_replicate,I.len,C.len]
theorem vM {elt iter tg:Expr} {ifs:List Expr} {pos:Pos} {g:TG} {tt:TT} {te:TE} {it:Addr} {tn:Nat->Heap->Prop} {J:It} {s2:Shared} {Q:VK} {E:Value->Shared->Prop} (C:eO X scope N' k) (hc:X.calm=true)
  (hg:∀ cl fp s3 H3,PG (aM X scope cl N' fp s3 H3) tg g) (htt:∀ cl fp s3 H3,PF (aM X scope cl N' fp s3 H3) ifs tt) (hte:∀ cl fp s3 H3,PE (aM X scope cl N' fp s3 H3) elt te)
  (hcl1:∀ x c,cl.lookup x=some c->X.env.cells.lookup x=some c) (hcl2:∀ y∈scope.names,y.2=.free->cl.lookup y.1=X.env.cells.lookup y.1)
  (I2:Inv X pins σ H s2) (T:Turn X.prog X.w X.K tg J fp it tn) (st2:tn 0 s2.heap) (f2:∀ b∈fp,cL X pins H b)
  (h2:∀ l,H l=none->∃ W:Nat->Nat->Hp->Prop,(∃ m,W 0 m (upd H l (.lst [])))/\∀ i m H,W i m H ->
   (J.stop i H/\Q (.ref l) H)\/(J.go i H/\∀ x H',J.yld i H x H'->g x (σ++List.replicate k none) H' fun σ2 H2=>(∀ (j:Nat) v,(σ++List.replicate k none)[j]?=some (some v)->σ2[j]?=some (some v))/\tt σ2 H2 fun b H3 =>
    if b=true then te σ2 H3 fun y H4=>∃ xs,H4 l=some (.lst xs)/\xs.length < sizeLine/\∃ m',m' < m/\W (i+1) m' (upd H4 l (.lst (xs++[y]))) else ∃ m',m' < m/\W (i+1) m' H3))
  {R:Value->Addr->Result->Shared->Prop} (hR:∀ l c H' s' m,Inv X pins σ H' s'->Q (.ref l) H'->s'.heap.Ns c m->cL X pins H' c->R (.ref l) c (.ok .next) s') :
  wpAny (model X.prog X.w) X.A (newList []) (fun acc s₃=>wpAny (model X.prog X.w) X.A (newFunctionEnv scope X.env.globals cl [] X.env.qual none .none (some X.env)) (fun cenv s₄ =>
   codeAny (model X.prog X.w) X.A (.compStart (.ListComp elt [⟨tg,iter,ifs,0⟩] scope pos) 0 (.ref it) acc { cenv with scope:=relabel scope X.env }) (R acc cenv.locals) s₄) E s₃) E s2:=by
 refine ZU ?_
 have hl0:H s2.heap.objs.size=none:=I2.hok.fresh (Zk _)
 obtain ⟨W,⟨m0,w0⟩,turn⟩:=h2 s2.heap.objs.size hl0
 have I3:Inv X pins σ (upd H s2.heap.objs.size (.lst [])) { s2 with heap:=s2.heap.push { cls:=.type "list",data:=.seq ([]:List Value).toArray } } :=
  I2.laid (t':=s2.toks) (fun b u e=>Zg _ e) (Zk _) ⟨by show 0<=_; omega,[],0,.nil,Zw _ rfl⟩
 have obj2:∀ b∈fp,∃ o,s2.heap.get? b=some o/\∀ v,o.data≠.cell v:=T.obj _ _ st2
 have lt2:∀ b∈fp,b < s2.heap.objs.size:=fun b hb=>let ⟨o,e,_⟩:=obj2 b hb; Zs e
 have f3:∀ b∈fp,cL X pins (upd H s2.heap.objs.size (.lst [])) b:=fun b hb=>⟨by rw [aA (ZH (lt2 b hb))]; exact (f2 b hb).1,(f2 b hb).2⟩
 generalize hs3:({ s2 with heap:=s2.heap.push { cls:=.type "list",data:=.seq ([]:List Value).toArray } }:Shared)=s3 at I3 ⊢
 have st3:tn 0 s3.heap:=T.keep _ _ _ st2 fun b hb o e=>by rw [<- hs3]; exact Zg _ e
 generalize hH3:upd H s2.heap.objs.size (.lst [])=H3 at I3 w0 f3
 generalize s2.heap.objs.size=l at turn ⊢ w0
 clear hs3 hH3
 have obj3:∀ b∈fp,∃ o,s3.heap.get? b=some o/\∀ v,o.data≠.cell v:=T.obj _ _ st3
 have lt3:∀ b∈fp,b < s3.heap.objs.size:=fun b hb=>let ⟨o,e,_⟩:=obj3 b hb; Zs e
 refine yP ?_
 have hown:=cellsFrom_ok scope.names (s3.heap.push { cls:=.type "dict",data:=.dict #[] }) (s3.heap.objs.size+1) [] ⟨fun _ _ hm=>(nomatch hm),List.Pairwise.nil⟩ (by rw [Xk]; exact Zk _)
 rw [Xk] at hown
 have hns₁:(pushCells (s3.heap.push { cls:=.type "dict",data:=.dict #[] }) scope.names).Ns s3.heap.objs.size fun _=>none:=(Heap.Ns.new s3.heap (.type "dict")).keeps (pushCells_keeps _ _)
 have hk1:∀ b o,s3.heap.get? b=some o->(pushCells (s3.heap.push { cls:=.type "dict",data:=.dict #[] }) scope.names).get? b=some o:=fun b o e=>pushCells_keeps _ _ b o (Zg _ e)
 generalize hcl':cellsFrom (s3.heap.objs.size+1) scope.names cl=cl'
 generalize pushCells (s3.heap.push { cls:=.type "dict",data:=.dict #[] }) scope.names=h₁ at hown hns₁ hk1
 have I4:Inv (aM X scope cl' N' fp s3 H3) [] (σ++List.replicate k none) H3 { s3 with heap:=h₁ }:=zf C hc I3 f3 lt3 hcl1 hcl2 hcl'.symm h₁ hns₁ hk1 hown
 have st4:tn 0 h₁:=T.keep _ _ _ st3 fun b _ o e=>hk1 b o e
 have stat:∀ {H':Hp},(∀ b∈fp,H' b=none)->∀ b∈fp,cL (aM X scope cl' N' fp s3 H3) [] H' b:=fun {H'} hn b hb =>
  ⟨hn b hb,(I4.ok.exf b hb).1,I4.ok.exfs b hb,.inl hb,(I4.ok.exf b hb).2,fun p hp=>absurd (show p∈([]:List (Addr × Obj)) from hp) (by simp)⟩
 have loop:∀ s4:Shared,s4={ s3 with heap:=h₁ } ->
   codeAny (model X.prog X.w) X.A (.compLoop (.ListComp elt [⟨tg,iter,ifs,0⟩] scope pos) 0 (.ref it) (.ref l) (compEnvC scope cl' s3.heap.objs.size X.env)) (R (.ref l) s3.heap.objs.size) s4:=by
  rintro s4 rfl
  refine B_ (env:=(aM X scope cl' N' fp s3 H3).env) (fun n s'=>∃ i H',Inv (aM X scope cl' N' fp s3 H3) [] (σ++List.replicate k none) H' s'/\tn i s'.heap/\(∀ b∈fp,H' b=none)/\W i n H') ?_ m0 ⟨0,H3,I4,st4,fun b hb=>(f3 b hb).1,w0⟩
  rintro n s5 ⟨i,H5,I5,st5,fr5,w5⟩
  rcases turn i n H5 w5 with ⟨stop,qn⟩|⟨go,step⟩
  ·refine thn (T.done (aM X scope cl' N' fp s3 H3) rfl rfl rfl hc i [] s5 _ H5 _ I5 (stat fr5) st5 stop) fun r s6 ⟨hr,I6⟩=>?_
   subst hr
   obtain ⟨m,hnm,_⟩:=I6.loc
   have I7:Inv X pins σ H5 s6:=I3.y9 (ch:=fp) I6.os I6.base I6.hok I6.bare fun b hb=>⟨(f3 b hb).2.2.2.1,(f3 b hb).2.1,(f3 b hb).2.2.2.2.1,(f3 b hb).2.2.2.2.2⟩
   exact hR l _ H5 s6 m I7 qn hnm (I3.ff (Zk _) I6.free)
  ·refine thn (T.item (aM X scope cl' N' fp s3 H3) rfl rfl rfl hc i [] s5 _ H5 _ I5 (stat fr5) st5 go) fun r s6 ⟨u,hr,h6⟩=>?_
   subst hr
   refine thn h6 fun _ s7 ⟨x,H7,I7,r7,y7,st7,fr7⟩=>?_
   have I7':=I7.pinned (stat fr7) (T.obj _ _ st7)
   refine thn (hg cl' fp s3 H3 _ s7 _ H7 x u _ I7' r7 (step x H7 y7)) fun _ s8 ⟨σ8,H8,I8,w8,q8⟩=>?_
   refine thn (htt cl' fp s3 H3 _ s8 σ8 H8 _ I8 q8) fun b s9 ⟨H9,I9,q9⟩=>?_
   have again:∀ {H':Hp} {s':Shared},Inv (aM X scope cl' N' fp s3 H3) ([]++g8 fp s7.heap) σ8 H' s'->(∃ m',m' < n/\W (i+1) m' H') ->
     ∃ m,m < n/\∃ i H',Inv (aM X scope cl' N' fp s3 H3) [] (σ++List.replicate k none) H' s'/\tn i s'.heap/\(∀ b∈fp,H' b=none)/\W i m H':=fun {H' s'} I' ⟨m',hm,w'⟩=>by
    refine ⟨m',hm,i+1,H',(I'.jr).weak (by rw [I'.len]; exact I4.len) w8,T.keep _ _ _ st7 fun b hb o e=>(I'.pin (b,o) (Z3 _ (Z3 _ (jP hb e)))).1,fun b hb=>?_,w'⟩
    obtain ⟨o,e,d⟩:=T.obj _ _ st7 b hb
    exact (I'.pin (b,o) (Z3 _ (Z3 _ (jP hb e)))).2.1
   cases b with
   | false=>exact again I9 (by simpa using q9)
   | true =>
    rw [Ze rfl]
    rw [Ze rfl] at q9
    refine thn (hte cl' fp s3 H3 _ s9 σ8 H9 _ I9 q9) fun y s10 ⟨yv,H10,I10,r10,xs,hl10,hz,q10⟩=>?_
    refine thn (sD (X:=aM X scope cl' N' fp s3 H3) _ s10 σ8 H10 (.ref l) [yv] (.ref l) [y] (fun _ H'=>∃ m',m' < n/\W (i+1) m' H') I10 rfl (.cons r10 .nil) ⟨l,xs,yv,rfl,rfl,hl10,hz,q10⟩) fun _ s11 ⟨_,H11,I11,_,q11⟩=>again I11 q11
 exact codeAny_compStart_list (loop _ rfl) (T.self _ 0 _ _ _ st4 (loop _ rfl))
theorem zI {elt iter tg:Expr} {ifs:List Expr} {pos:Pos} {wi:TI} {g:TG} {tt:TT} {te:TE} (C:eO X scope N' k) (hc:X.calm=true) (hi:PI X tg iter wi)
  (hg:∀ cl fp s3 H3,PG (aM X scope cl N' fp s3 H3) tg g) (htt:∀ cl fp s3 H3,PF (aM X scope cl N' fp s3 H3) ifs tt) (hte:∀ cl fp s3 H3,PE (aM X scope cl N' fp s3 H3) elt te)
  (hs:∀ x,foldedSetIterable iter X.env x=pure x:=by intro _; rfl):PE X (.ListComp elt [⟨tg,iter,ifs,0⟩] scope pos) (l7 k wi g tt te):=by
 intro pins s σ H Q I h
 rw [eval_ListComp]
 obtain ⟨cl,e1,e2,e3⟩:=qh (env:=X.env) (scope:=scope) fun y hy hf=>I.ok.has y.1 (C.fr y hy hf)
 refine wpAny_comprehension_free (use:=none) rfl hs e1 C.kind C.names (thn (hi pins s σ H _ I h) fun v s1 h1=>thn h1 fun itv s2 h2=>?_)
 obtain ⟨it,fp,tn,J,H2,e,I2,T,st2,f2,h2⟩:=h2
 subst e
 refine vM (R:=fun acc c=>compPost (model X.prog X.w) X.A X.xe none (EP X pins σ Q) acc c) C hc hg htt hte e2 e3 I2 T st2 f2 h2 fun l c H' s' m I' q hn fc=>?_
 obtain ⟨f0,f1,f2,f3,f4,f5⟩:=fc
 exact ⟨m,hn,fun h' hsb=>⟨.ref l,H',I'.turned (t':=s'.toks) (fun b o hb e=>(hsb.2 b hb).trans e) f0 f1 f3 f4 f5,rfl,q⟩⟩
theorem E3 {elt iter tg:Expr} {ifs:List Expr} {pos:Pos} {wi:TI} {g:TG} {tt:TT} {te:TE} {j:Nat} {y:Str} {py spos:Pos} (C:eO X scope N' k) (hc:X.calm=true) (hi:PI X tg iter wi)
  (hg:∀ cl fp s3 H3,PG (aM X scope cl N' fp s3 H3) tg g) (htt:∀ cl fp s3 H3,PF (aM X scope cl N' fp s3 H3) ifs tt) (hte:∀ cl fp s3 H3,PE (aM X scope cl N' fp s3 H3) elt te)
  (hN:X.N.Nodup) (hj:X.N[j]?=some y) (hy:X.env.scope.names.lookup y=some .local)
  (hsw:swapsWith (.ListComp elt [⟨tg,iter,ifs,0⟩] scope pos) (some (.Name y py)) spos.line X.env=pure true)
  (hs:∀ x,foldedSetIterable iter X.env x=pure x:=by intro _; rfl):PS X (.Assign [.Name y py] (.ListComp elt [⟨tg,iter,ifs,0⟩] scope pos) spos) (mz (l7 k wi g tt te) (iH j)):=by
 intro pins s σ H D I h
 rw [exec_Assign_Name_used _ _ _ _ hsw]
 refine Za (wpAny_standAt (Za ?_))
 show wpAny _ X.A (do let _ <- comprehension (.ListComp elt [⟨tg,iter,ifs,0⟩] scope pos) scope X.env _ (newList []) false (eval iter X.env) (some (assign (.Name y py) X.env))) _ _ s
 obtain ⟨cl,e1,e2,e3⟩:=qh (env:=X.env) (scope:=scope) fun y hy hf=>I.ok.has y.1 (C.fr y hy hf)
 refine Za (Xu (wpAny_comprehension_free (use:=some (assign (.Name y py) X.env)) (Q:=fun _ s'=>SP X pins D .next s') rfl hs e1 C.kind C.names
  (thn (hi pins s σ H _ I h) fun v s1 h1=>thn h1 fun itv s2 h2=>?_)) (fun _ s' hq=>Zc (Zc hq)) fun _ _ e=>e)
 obtain ⟨it,fp,tn,J,H2,e,I2,T,st2,f2,h2⟩:=h2
 subst e
 refine vM (Q:=fun x H1=>iH j x σ H1 D.nx) (R:=fun acc c=>compPost (model X.prog X.w) X.A X.xe (some (assign (.Name y py) X.env)) (fun _ s'=>SP X pins D .next s') acc c) C hc hg htt hte e2 e3 I2 T st2 f2 h2 fun l c H' s' m I' q hn fc=>?_
 obtain ⟨f0,f1,f2,f3,f4,f5⟩:=fc
 show wpAny _ X.A (assign (.Name y py) X.env (.ref l)) _ _ _
 refine wpAny_assign_Name (qk I' hN hj (.inl hy) (v:=.ref l) rfl (fun s'' I'' ch=>?_) (.inr hy))
 obtain ⟨a,hsb,ha⟩:=ch
 have hac:c≠a:=by
  rcases ha with z|z
  ·rw [z]; exact f1
  ·exact fun w=>f4 y a z w.symm
 refine ⟨m,hn.sameBut hsb hac,fun h' hsb2=>⟨_,H',I''.turned (t':=s''.toks) (fun b o hb e=>(hsb2.2 b hb).trans e) f0 f1 f3 f4 f5,q⟩⟩
end
end L2

namespace L2
open PySem PySem.Spec PyProof.Rows
structure Xc (B:Heap) (stack:List Env) (e:Addr) (h:Heap):Prop where
 stays:B.StaysIn h
 new:B.get? e=none
 frames:h.FunFrames B stack
noncomputable def Cov (B:Heap) (stack:List Env) (s:Shared) (H':Hp) (h:Heap):Prop:=∀ b o,h.get? b=some o->(H' b≠none\/∃ o',s.heap.get? b=some o')->b ∉ frs stack->B.get? b=some o
noncomputable def CXg (st:Heap->Heap->Addr->Addr->Prop) (P:Program) (w:World):CXT:=fun stack H s E v s' =>
 ∃ e C B H',v=.ref e/\s'.os=s.os/\AllBare s'.gens/\Un (frs stack) [] H H' s.heap s'.heap/\HOk P w H' s'.heap/\Xc B stack e s'.heap/\st B s'.heap e C/\Cov B stack s H' s'.heap/\E (.ref C) none H'
noncomputable def stF (_:Heap) (h:Heap) (e C:Addr):Prop:=∃ t,h.get? e=some { cls:=.ref C,data:=.fields #[.ref t,.none,.none,.none,.bool false,.none] }
noncomputable def stT (B:Heap) (h:Heap) (e C:Addr):Prop:=∃ a0,h.TracedW B e (.ref C) a0
abbrev CXe (P:Program) (w:World):CXT:=CXg stT P w
abbrev CXr (P:Program) (w:World):CXT:=CXg stF P w
theorem sf {P:Program} {w:World} {H:Hp} {h:Heap} {b:Addr} {ob:HO} (ok:HOk P w H h) (q:H b=some ob):∃ o,h.get? b=some o:=by
 have x:=ok b ob q
 clear q ok
 induction ob with
 | lst xs=>obtain ⟨_,_,_,_,e⟩:=x; exact ⟨_,e⟩
 | tup xs=>obtain ⟨_,_,_,_,e,_⟩:=x; exact ⟨_,e⟩
 | dK kvs=>obtain ⟨_,_,_,_,_,_,_,e,_⟩:=x; exact ⟨_,e⟩
 | dT kvs=>obtain ⟨_,_,_,_,_,_,_,e,_⟩:=x; exact ⟨_,e⟩
 | set S n=>obtain ⟨_,_,_,_,e,_⟩:=x; exact ⟨_,e⟩
 | ins C dx fs=>obtain ⟨_,_,_,e,_⟩:=x; exact ⟨_,e⟩
 | own y=>exact x
 | xd fs=>obtain ⟨_,⟨_,_,_,e,_⟩,_⟩:=x; exact ⟨_,e⟩
 | rng lo hi=>obtain ⟨_,_,_,e⟩:=x; exact ⟨_,e⟩
 | frz o u ih=>exact ⟨o,x.1⟩
 | tbl ps=>exact ⟨_,x⟩
 | met f y=>exact ⟨_,x⟩
 | ext φ=>exact x.2.1
section
variable {P:Program} {w:World} {B h h':Heap} {stack:List Env} {e C:Addr} {s:Shared} {H H':Hp}
theorem F_ (hf:∀ b∈frs stack,∃ o,s.heap.get? b=some o/\H b=none) (u:Un (frs stack) [] H H' s.heap h) (ok:HOk P w H' h) (fr:h.FunFrames B stack) (cv:Cov B stack s H' h) (sb:B.StaysIn h') (up:h.UpToSlots h') :
  Un (frs stack) [] H H' s.heap h'/\HOk P w H' h'/\Cov B stack s H' h':=by
 have nf:∀ {b:Addr},H' b≠none->b ∉ frs stack:=fun {b} hb m=>by
  obtain ⟨o,e1,e2⟩:=hf b m
  exact hb (u.free b o e1 e2 (by simp))
 have old:∀ {b:Addr} {o:Obj},h.get? b=some o->(H' b≠none\/∃ o',s.heap.get? b=some o')->b ∉ frs stack->h'.get? b=some o:=fun {b o} e1 e2 e3=>sb b o (cv b o e1 e2 e3)
 have fram:∀ {b:Addr} {o:Obj},b∈frs stack->h.get? b=some o->∃ sl,h'.get? b=some { o with slots:=sl }:=fun {b o} m e1=>by
  obtain ⟨_,o',e2,hd⟩:=fr.mem m
  rw [e1] at e2; cases e2
  exact up b o e1 hd
 refine ⟨⟨fun b o e n hb _=>?_,fun b o e n hb _=>?_,u.free,fun b o e _=>?_,u.tups,u.frzs,u.tbls⟩,fun a o ea=>?_,fun b o e1 e2 e3=>?_⟩
 ·exact old (u.keep b o e n hb (by simp)) (.inr ⟨o,e⟩) hb
 ·obtain ⟨sl,e1⟩:=u.slot b o e n hb (by simp)
  obtain ⟨sl2,e2⟩:=fram hb e1
  exact ⟨sl2,e2⟩
 ·obtain ⟨o1,e1⟩:=u.there b o e (by simp)
  by_cases hb:b∈frs stack
  ·obtain ⟨sl,e2⟩:=fram hb e1
   exact ⟨_,e2⟩
  ·exact ⟨o1,old e1 (.inr ⟨o,e⟩) hb⟩
 ·refine (ok a o ea).stay (fun b v hb q=>?_) (fun _ q=>q) fun _ _ q=>q
  have hne:H' b≠none:=by
   rcases hb with rfl|hb
   ·rw [ea]; exact fun z=>by cases z
   ·rw [hb]; exact fun z=>by cases z
  exact old q (.inl hne) (nf hne)
 ·-- what is there now was there
  have:∃ o1,h.get? b=some o1:=by
   rcases e2 with z|⟨o2,z⟩
   ·cases q:H' b with
    | none=>exact absurd q z
    | some ob=>exact sf ok q
   ·exact u.there b o2 z (by simp)
  obtain ⟨o1,e4⟩:=this
  have e5:=cv b o1 e4 e2 e3
  have e6:=sb b o1 e5
  rw [e1] at e6; cases e6
  exact e5
end
section
variable {CX:CXT} {P:Program} {w:World} {K:PySem.W.Frag} {mg:Str->Option Value} {base:Heap} {N:List Str} {qual:Str} {scope:Scope} {f:Addr} {cd:Value} {A:Around} {outer:List Env} {s:Shared} {H:Hp} {E E':XK}
theorem rV {X:Cx} {pins:List (Addr × Obj)} {σ:St} {H:Hp} {s:Shared} (I:Inv X pins σ H s):∀ b∈frs X.stack,∃ o,s.heap.get? b=some o/\H b=none:=fun b hb=>by
 obtain ⟨_,o,e,_⟩:=I.stack.mem hb
 exact ⟨o,e,I.mE b hb⟩
theorem qD {st:Heap->Heap->Addr->Addr->Prop} (hst:∀ B h e C,st B h e C->stF B h e C\/stT B h e C) (hE:∀ C H,E' (.ref C) none H->E (.ref C) none H) {pins:List (Addr × Obj)} {σ:St} {H1:Hp} {s1:Shared} {v:Value} {s':Shared} (hA:A.frames=some outer)
  (I:Inv (cN (CXe P w) P w K mg base N qual scope f cd A outer s H E) pins σ H1 s1) (hx:CXg st P w (cN (CXe P w) P w K mg base N qual scope f cd A outer s H E).stack H1 s1 E' v s'):(cN (CXe P w) P w K mg base N qual scope f cd A outer s H E).xe v s':=by
 obtain ⟨e,C,B,H',rfl,h1,h2,u,ok,xc,hs,cv,hE'⟩:=hx
 have hstk:(cN (CXe P w) P w K mg base N qual scope f cd A outer s H E).stack=envOfC qual scope s.heap.objs.size f cd::outer:=rfl
 have hfr:(A.deeper (envOfC qual scope s.heap.objs.size f cd)).frames=some (envOfC qual scope s.heap.objs.size f cd::outer):=Around.frames_deeper hA
 have hf:(envOfC qual scope s.heap.objs.size f cd).frame=some s.heap.objs.size:=rfl
 have fin:∀ (h'':Heap) (a0:Value),Heap.LeftW B (envOfC qual scope s.heap.objs.size f cd::outer) e (.ref C) a0 s'.heap h''->CXe P w outer H s E (.ref e) { s' with heap:=h'' }:=fun h'' a0 hL=>by
  obtain ⟨k1,k2,k3,k4⟩:=hL
  obtain ⟨u2,ok2,cv2⟩:=F_ (rV I) u ok xc.frames cv k1 k4
  have nL:∀ {b:Addr} {o:Obj},s.heap.get? b=some o->b≠s.heap.objs.size:=fun {b o} q=>ZH (Zs q)
  have mem:∀ {b:Addr},b∈frs (envOfC qual scope s.heap.objs.size f cd::outer) ↔ b=s.heap.objs.size\/b∈frs outer:=fun {b}=>by
   unfold frs
   rw [Xt,hf]
   exact Zt
  have ub:Un (frs outer) [] H H1 s.heap s1.heap:=I.base
  refine ⟨e,C,B,H',rfl,h1.trans I.os,h2,⟨fun b o q n hb _=>?_,fun b o q n hb _=>?_,fun b o q n _=>?_,fun b o q _=>?_,fun b xs q=>?_,fun b o u q=>?_,fun b ps q=>?_⟩,ok2,⟨k1,xc.new,k2.2.2⟩,⟨a0,k3⟩,fun b o q1 q2 q3=>?_,hE _ _ hE'⟩
  ·exact u2.keep b o (ub.keep b o q n hb (by simp)) (ub.free b o q n (by simp)) (fun z=>(mem.mp z).elim (nL q) hb) (by simp)
  ·obtain ⟨sl,q1⟩:=ub.slot b o q n hb (by simp)
   obtain ⟨sl2,q2⟩:=u2.slot b _ q1 (ub.free b o q n (by simp)) (mem.mpr (.inr hb)) (by simp)
   exact ⟨sl2,q2⟩
  ·obtain ⟨o1,q1⟩:=ub.there b o q (by simp)
   exact u2.free b o1 q1 (ub.free b o q n (by simp)) (by simp)
  ·obtain ⟨o1,q1⟩:=ub.there b o q (by simp)
   exact u2.there b o1 q1 (by simp)
  ·exact u2.tups b xs (ub.tups b xs q)
  ·exact u2.frzs b o u (ub.frzs b o u q)
  ·obtain ⟨m1,q1⟩:=ub.tbls b ps q
   obtain ⟨m2,q2⟩:=u2.tbls b _ q1
   exact ⟨m1++m2,by rw [<- Array.append_assoc]; exact q2⟩
  ·have hfree:H' s.heap.objs.size=none:=by
    obtain ⟨oL,eL,hL⟩:=rV I s.heap.objs.size (mem.mpr (.inl rfl))
    exact u2.free _ oL eL hL (by simp)
   refine cv2 b o q1 ?_ fun z=>?_
   ·rcases q2 with z|⟨o',z⟩
    ·exact .inl z
    ·exact .inr (ub.there b o' z (by simp))
   ·rcases mem.mp z with z|z
    ·rcases q2 with y|⟨o',y⟩
     ·rw [z] at y; exact y hfree
     ·exact nL y z
    ·exact q3 z
 show wpAny (model P w) (A.deeper (envOfC qual scope s.heap.objs.size f cd)) (leaving (envOfC qual scope s.heap.objs.size f cd) (.ref e)) (fun _ s''=>CXe P w outer H s E (.ref e) s'') (fun e' s''=>CXe P w outer H s E e' s'') s'
 rcases hst _ _ _ _ hs with ⟨t,he⟩|⟨a0,ht⟩
 ·exact wpAny_leaving_firstW hfr xc.frames hf he xc.stays xc.new rfl (a0:=.ref t) rfl rfl fun h'' hL=>fin h'' _ hL
 ·exact wpAny_leaving_nextW hfr xc.frames hf ht xc.stays xc.new fun h'' hL=>fin h'' _ hL
end
end L2

namespace L2
open PySem PySem.Spec PyProof.Rows
theorem Gm {K:PySem.W.Frag} {h:Heap} {C:Addr} {bmB:List Value} {newId:String} (X:K.In h) (q:PySem.W.excIn K C bmB newId=true) :
  ∃ bm N nm q bs hdct sn sub ab col dd k0 k1 k2 k3 k5 mN,h.get? C=some (excClassObj nm q C N bs bm hdct sn sub ab col dd k0 k1 k2 k3 k5 newId)/\h.Ns N mN/\mN "__init__" = none/\OwnTail h bmB bm:=by
 unfold PySem.W.excIn at q
 split at q
 case h_2=>cases q
 rename_i dd cd sl ho
 split at q
 case h_2=>cases q
 rename_i C' bm k0 k1 k2 k3 n k5 hm hs
 simp only [Zq,QV,Bool.not_eq_true'] at q
 obtain ⟨⟨⟨⟨⟨z1,z2⟩,z3⟩,z4⟩,z5⟩,z6⟩:=q
 subst z1; subst z2
 obtain ⟨nm,bs,mro,ns,qn,hd,sn,sub,ab,col,del⟩:=cd
 dsimp only at hm z3 z5 z6
 subst hm; subst z3
 obtain ⟨l⟩:=sl
 have z7:l=[k0,k1,k2,k3,some (.builtin n),k5]:=hs
 subst z7
 exact ⟨bm,ns,nm,qn,bs,hd,sn,sub,ab,col,dd,k0,k1,k2,k3,k5,_,X _ _ ho,.of_isNs (PySem.W.isNs_of_in X z5),PySem.W.nsMap_none_of_in X z5 z6,PySem.W.tail_of_in X z4⟩
section
variable {X:Cx}
theorem Gb {x:Str} {C:Addr} {B newId initId:String} {bmB:List Value} {np cpos pos:Pos} {a:Expr} {v:V} {E:XK} (FB:ExcBaseFacts B newId initId bmB) (ex:PySem.W.excIn X.K C bmB newId=true) (hm:X.mg x=some (.ref C)) (hg:Gl X x) (hc:X.calm=true) (hdb:(x==("__debug__" : Str))=false)
  (ha:PE X a (tC v)) (he:starEach [a] X.env=(false,eval a X.env)::starEach [] X.env) (hx:Passes (CXr X.prog X.w) X E):PS X (.Raise (some (.Call (.Name x np) [a] [] cpos)) none pos) (fun _ _ H=>E (.ref C) none H):=by
 intro pins s σ H D I h
 obtain ⟨tl,N,nm,q,bs,hdct,sn,sub,ab,col,dd,k0,k1,k2,k3,k5,mN,hC,hN,hni,T⟩:=Gm I.ok.mod.kin ex
 refine wpAny_Raise_call_subT (C:=C) (nm:=nm) (q:=q) (N:=N) (bs:=bs) (bm:=tl) (hdct:=hdct) (sn:=sn) (sub:=sub) (ab:=ab) (col:=col) (dd:=dd) (k0:=k0) (k1:=k1) (k2:=k2) (k3:=k3) (k5:=k5)
  FB (mN:=mN) (T.hasType FB.hasBase) (I.ok.hd hc) (by rw [he]; rfl) hni (jG I hg hm ⟨rfl,?_⟩ hdb)
 have ha':=gD ha jJ he cpos pins s σ H (fun vs H'=>vs.length<=1/\E (.ref C) none H') I ⟨by simp,h⟩
 rw [he] at ha' ⊢
 refine Calls.evalArgs_plain (Xu ha' (fun vs s2 ⟨ws,H2,I2,r,hl,hE⟩=>⟨rfl,?_,I2.bk _ _ hC,hN.keeps I2.bk,T.keeps I2.bk,fun h' e hmd=>?_⟩) fun _ _ z=>z)
 ·show vs.length<=sizeLine
  rw [<- r.length,Qb]; omega
 ·have old:∀ {b:Addr},(H2 b≠none\/∃ o',s2.heap.get? b=some o')->b < s2.heap.objs.size:=fun {b} hb=>by
   rcases hb with z|⟨o',z⟩
   ·cases q:H2 b with
    | none=>exact absurd q z
    | some ob=>exact I2.hok.lt q
   ·exact Zs z
  refine hx pins σ H2 s2 _ _ I2 ⟨e,C,PySem.W.hideAll s2.heap (frs X.stack),H2,rfl,rfl,I2.bare,Un.kept hmd.keeps,I2.hok.kept hmd.keeps,⟨fun b o z=>hmd.keeps b o (Wm _ z),?_,?_⟩,?_,fun b o z1 z2 z3=>?_,hE⟩
  ·cases z:(PySem.W.hideAll s2.heap (frs X.stack)).get? e with
   | none=>rfl
   | some o=>have:=Wm _ z; rw [hmd.new] at this; cases this
  ·refine (PySem.W.funFrames_hide I2.stack fun env hv b hb=>Qk.mpr ⟨env,hv,hb⟩).of_keeps fun b o z _=>⟨o,hmd.keeps b o z,rfl⟩
  ·obtain ⟨t,z,_⟩:=hmd.there
   exact ⟨t,z⟩
  ·have:∃ o1,s2.heap.get? b=some o1:=by
    rcases z2 with z|⟨o',z⟩
    ·cases q:H2 b with
     | none=>exact absurd q z
     | some ob=>exact sf I2.hok q
    ·exact ⟨o',z⟩
   obtain ⟨o1,z4⟩:=this
   have z5:=hmd.keeps b o1 z4
   rw [z1] at z5; cases z5
   exact PySem.W.hideAll_get _ z4 z3
end
end L2

namespace L2
open PySem PySem.Spec PySem.Calls PyProof.Rows
open PySem.W (Looks)
noncomputable def Bu (a C:Addr) (h:Heap):Prop:=∃ o,h.get? a=some o/\o.cls=.ref C/\∃ vs,o.data=.fields vs
section
variable {X:Cx} {i:Nat} {C:Addr}
noncomputable def PV (X:Cx) (i:Nat) (C:Addr) (e:Expr) (v:V):Prop:=∀ (A:Around) (E:Value->Shared->Prop) (pins:List (Addr × Obj)) (σ:St) (H:Hp) (s:Shared) (a:Addr) (Q:Value->Shared->Prop),
 Inv X pins σ H s->σ[i]?=some (some (.ref a))->Bu a C s.heap->(∀ tk u,RelV v u->Q u { s with toks:=tk })->wpAny (model X.prog X.w) A (eval e X.env) Q E s
noncomputable def Im (X:Cx) (d:Str) (c:Value):Prop:=Gl X d/\(d==("__debug__" : Str))=false/\(X.mg d=some c\/(X.mg d=none/\bootBuiltins d=some c/\d≠"__name__"))
section
variable {k:Nat} {f:Addr} {fd:FuncData} {ps:List Str} {sp:Sp} {x c n:Str} {newId:String} {bmB:List Value} {p cpos rpos np hpos rp2 pos:Pos} {e kx:Expr} {es:List Expr} {t:TA} {kv:V}
end
end
end L2

namespace L2
open PySem PySem.Spec PySem.Calls PyProof.Rows
open PySem.W (Looks)
open PySem.Builtin PySem.Builtin.ObjectAttr PySem.Builtin.Getset_descriptor
structure Ck (K:PySem.W.Frag) (C:Addr):Prop where
 ga:PySem.W.findIn K (.ref C) "__getattribute__" = some (some (.builtin "BaseException.__getattribute__"))
 gt:PySem.W.findIn K (.ref C) "__getattr__" = some none
 cl:PySem.W.findIn K (.ref C) "__class__" = some (some (.builtin "object.__class__"))
 gn:PySem.W.specialIn K (.builtin "object.__class__") "__get__" = some (some (.builtin "getset_descriptor.__get__"))
 tk:PySem.W.takesIn K (.builtin "object.__class__")=some true
 mo:PySem.W.mroIn K C (.type "object")=some true
 mb:PySem.W.mroIn K C (.type "BaseException")=some true
 is:(PySem.W.clsIn K C).isSome=true
section
variable {K:PySem.W.Frag} {prog:Program} {w:World} {A:Around} {E:Value->Shared->Prop} {s:Shared} {a C:Addr}
end
section
variable {X:Cx} {i:Nat} {C:Addr}
end
end L2

namespace NEQ
open PySem PySem.SeqAt
open AutoSeq1 (wpAny_loadPart')
open MeetsSeq MeetsSeq2 MeetsSeq3 SeqRoads2
theorem Ho (p q:Addr) (us ws:Array Value) (n1 n2:Nat) (d1 d2:Option Addr) (z1 z2:Array (Option Value)) (hlen:us.size=ws.size) (same:Nat->Bool) (left:Nat) :
  ∀ at_:Nat,us.size - at_=left->Meets (Builtin.«list.__eq__.loop» ⟨[.ref p,.ref q,rawInt at_,rawInt 3],[]⟩)
   (fun A R st=>st.heap.get? p=some { cls:=.type "list",dict:=d1,data:=.seq us n1,slots:=z1 }/\st.heap.get? q=some { cls:=.type "list",dict:=d2,data:=.seq ws n2,slots:=z2 } /\
    (∀ j (h1:j < us.size) (h2:j < ws.size),EqAt A.in1 st us[j] ws[j] (same j))/\R (.ok (.ret (.bool (!((List.range us.size).drop at_).all same)))) st):=by
 induction left with
 | zero =>
  intro at_ hk prog w A R st hyp
  obtain ⟨hp,g,dr,tk,os⟩:=st
  obtain ⟨hl,hb,he,fin⟩:=hyp
  wp_walk using wpAny_loadPart' hl,wpAny_loadPart' hb
  have no1:us[((at_:Nat):Int).toNat]?=none:=by simp; omega
  have no2:ws[((at_:Nat):Int).toNat]?=none:=by simp; omega
  have nil:(List.range us.size).drop at_=[]:=by simp; omega
  rw [nil] at fin
  rw [no1,no2]
  wp_walk using wpAny_loadPart' hl,wpAny_loadPart' hb
  show R (.ok (.ret (.bool (us.size != ws.size)))) _
  rw [hlen]
  simpa using fin
 | succ left ih =>
  intro at_ hk prog w A R st hyp
  obtain ⟨hp,g,dr,tk,os⟩:=st
  obtain ⟨hl,hb,he,fin⟩:=hyp
  wp_walk using wpAny_loadPart' hl,wpAny_loadPart' hb
  have lt1:at_ < us.size:=by omega
  have lt2:at_ < ws.size:=by omega
  have yes1:us[((at_:Nat):Int).toNat]?=some us[at_]:=by simp [lt1]
  have yes2:ws[((at_:Nat):Int).toNat]?=some ws[at_]:=by simp [lt2]
  have cons:(List.range us.size).drop at_=at_::(List.range us.size).drop (at_+1):=by simp [Xi,lt1]
  have up:((at_:Int)+1)=((at_+1:Nat):Int):=by push_cast; rfl
  rw [cons,Wp] at fin
  rw [yes1,yes2]
  refine Za (he at_ lt1 lt2 prog w _ _ ?_)
  cases ev:same at_ with
  | true =>
   rw [ev] at fin
   wp_walk
   rw [up]
   exact ⟨QH plain_eq_loop _,XJ entry_eq_loop (by
    rw [Xx plain_eq_loop _]
    exact ih (at_+1) (by omega) prog w A R _ ⟨hl,hb,he,by simpa using fin⟩)⟩
  | false =>
   rw [ev] at fin
   wp_walk using wpAny_loadPart' hl,wpAny_loadPart' hb
   rw [yes1,yes2]
   wp_walk
   simpa using fin
theorem zY (p q:Addr) (us ws:Array Value) (n1 n2:Nat) (d1 d2:Option Addr) (z1 z2:Array (Option Value)) (hlen:us.size=ws.size) (same:Nat->Bool) :
  Meets (Builtin.«list.__ne__» ⟨[.ref p,.ref q],[]⟩)
   (fun A R st=>st.heap.get? p=some { cls:=.type "list",dict:=d1,data:=.seq us n1,slots:=z1 }/\st.heap.get? q=some { cls:=.type "list",dict:=d2,data:=.seq ws n2,slots:=z2 } /\
    (∀ j (h1:j < us.size) (h2:j < ws.size),EqAt A.in1 st us[j] ws[j] (same j))/\R (.ok (.ret (.bool (!(List.range us.size).all same)))) st):=by
 intro prog w A R st hyp
 obtain ⟨hp,g,dr,tk,os⟩:=st
 obtain ⟨hl,hb,he,fin⟩:=hyp
 have f3:=AutoSeq1.sub_list_list
 have hne:¬ (us.size != ws.size)=true:=by simp [hlen]
 wp_walk using wpAny_loadPart' hl,wpAny_loadPart' hb
 exact ⟨QH plain_eq_loop _,XJ entry_eq_loop (by
  rw [Xx plain_eq_loop _]
  exact Ho p q us ws n1 n2 d1 d2 z1 z2 hlen same _ 0 rfl prog w A R _ ⟨hl,hb,he,by simpa using fin⟩)⟩
theorem Ea (p q:Addr) (us ws:Array Value) (n1 n2:Nat) (d1 d2:Option Addr) (z1 z2:Array (Option Value)) (hlen:(us.size != ws.size)=true) :
  Meets (Builtin.«list.__ne__» ⟨[.ref p,.ref q],[]⟩)
   (fun _ R st=>st.heap.get? p=some { cls:=.type "list",dict:=d1,data:=.seq us n1,slots:=z1 }/\st.heap.get? q=some { cls:=.type "list",dict:=d2,data:=.seq ws n2,slots:=z2 } /\
    R (.ok (.ret (.bool true))) st) :=
 .of_wp fun prog w A R st hyp=>by
  obtain ⟨hp,g,dr,tk,os⟩:=st
  obtain ⟨hl,hb,fin⟩:=hyp
  have f3:=AutoSeq1.sub_list_list
  wp_walk using wpAny_loadPart' hl,wpAny_loadPart' hb
  exact ⟨_,rfl,fin⟩
theorem v8 (p q:Addr) (us ws:Array Value) (n1 n2:Nat) (d1 d2:Option Addr) (z1 z2:Array (Option Value)) (same:Nat->Bool) :
  Meets (Builtin.«tuple.__ne__» ⟨[.ref p,.ref q],[]⟩)
   (fun A R st=>st.heap.get? p=some { cls:=.type "tuple",dict:=d1,data:=.seq us n1,slots:=z1 }/\st.heap.get? q=some { cls:=.type "tuple",dict:=d2,data:=.seq ws n2,slots:=z2 } /\
    (∀ j (h1:j < us.size) (h2:j < ws.size),EqAt A.in1 st us[j] ws[j] (same j)) /\
    R (.ok (.ret (.bool (!((List.range (min us.size ws.size)).all same&&us.size==ws.size))))) st) :=
 .of_wp fun prog w A R st hyp=>by
  obtain ⟨hp,g,dr,tk,os⟩:=st
  obtain ⟨hl,hb,he,fin⟩:=hyp
  have f2:=AutoSeq1.sub_tuple_tuple
  have zl:(us.toList.zip ws.toList).length=min us.size ws.size:=by simp
  wp_walk using wpAny_loadPart' hl,wpAny_loadPart' hb,QD _ (fun more b s'=>b.1=none/\s'=⟨hp,g,dr,tk,os⟩/\∃ i,more=(us.toList.zip ws.toList).drop i /\
   R (.ok (.ret (.bool (!(((List.range (min us.size ws.size)).drop i).all same&&us.size==ws.size))))) ⟨hp,g,dr,tk,os⟩) _
  case turn =>
   rintro ⟨y,x⟩ more b s' ⟨hb',rfl,i,hz,hR⟩
   have lt:i < (us.toList.zip ws.toList).length:=by
    rcases Nat.lt_or_ge i (us.toList.zip ws.toList).length with h'|h'
    ·exact h'
    ·rw [List.drop_of_length_le h'] at hz; cases hz
   have hm:i < min us.size ws.size:=zl ▸ lt
   have h1:i < us.size:=ZI hm (Nat.min_le_left _ _)
   have h2:i < ws.size:=ZI hm (Nat.min_le_right _ _)
   rw [Xi lt] at hz
   injection hz with pair hmore
   have hy:y=us[i]:=by have:=Xm Prod.fst pair; simpa using this
   have hx:x=ws[i]:=by have:=Xm Prod.snd pair; simpa using this
   subst hy hx
   have cons:(List.range (min us.size ws.size)).drop i=i::(List.range (min us.size ws.size)).drop (i+1):=by simp [Xi,hm]
   rw [cons,Wp] at hR
   refine Za (he i h1 h2 prog w _ _ ?_)
   cases ev:same i with
   | true =>
    rw [ev] at hR
    wp_walk
    exact ⟨rfl,rfl,i+1,hmore,by simpa using hR⟩
   | false =>
    rw [ev] at hR
    wp_walk
    exact ⟨_,rfl,by simpa using hR⟩
  case fin =>
   rintro ⟨b1,b2⟩ s' ⟨hb',rfl,i,hz,hR⟩
   simp only at hb'
   subst hb'
   have ge:min us.size ws.size<=i:=by
    rcases Nat.lt_or_ge i (us.toList.zip ws.toList).length with h'|h'
    ·rw [Xi h'] at hz; cases hz
    ·exact zl ▸ h'
   rw [List.drop_of_length_le (by simpa using ge)] at hR
   wp_walk
   exact ⟨_,rfl,by simpa [Builtin.Tuple.tupleCompareSizes,bne] using hR⟩
  case h =>
   exact ⟨rfl,rfl,0,rfl,by simpa using fin⟩
section
variable {prog:Program} {w:World} {A:Around} {E:Value->Shared->Prop} {s:Shared}
theorem zX {l b:Addr} {us ws:Array Value} {same:Nat->Bool} {Q:Value->Shared->Prop} (hl:s.heap.IsList l us) (hb:s.heap.IsList b ws) (hlen:us.size=ws.size) (hu:A.units < cLine)
  (he:∀ j (h1:j < us.size) (h2:j < ws.size),EqAt A.in1 s us[j] ws[j] (same j)) (h:Q (.bool (!(List.range us.size).all same)) s):wpAny (model prog w) A (compareOp .NotEq (.ref l) (.ref b)) Q E s:=by
 obtain ⟨⟨c1,d1,t1,z1⟩,o1,k1,n1,e1⟩:=id hl
 obtain ⟨⟨c2,d2,t2,z2⟩,o2,k2,n2,e2⟩:=id hb
 simp only at k1 e1 k2 e2
 subst k1 e1 k2 e2
 exact Q4 (op:=.NotEq) ⟨_,o1,rfl⟩ ⟨_,o2,rfl⟩ F.slot_list_ne F.entry_list_ne (F.args_list_ne_2 _ _) (zY l b us ws n1 n2 d1 d2 z1 z2 hlen same) ⟨o1,o2,he,⟨(fun x=>nomatch x),h⟩⟩ hu
theorem HN {l b:Addr} {us ws:Array Value} {Q:Value->Shared->Prop} (hl:s.heap.IsList l us) (hb:s.heap.IsList b ws) (hlen:(us.size != ws.size)=true) (hu:A.units < cLine)
  (h:Q (.bool true) s):wpAny (model prog w) A (compareOp .NotEq (.ref l) (.ref b)) Q E s:=by
 obtain ⟨⟨c1,d1,t1,z1⟩,o1,k1,n1,e1⟩:=id hl
 obtain ⟨⟨c2,d2,t2,z2⟩,o2,k2,n2,e2⟩:=id hb
 simp only at k1 e1 k2 e2
 subst k1 e1 k2 e2
 exact Q4 (op:=.NotEq) ⟨_,o1,rfl⟩ ⟨_,o2,rfl⟩ F.slot_list_ne F.entry_list_ne (F.args_list_ne_2 _ _) (Ea l b us ws n1 n2 d1 d2 z1 z2 hlen) ⟨o1,o2,⟨(fun x=>nomatch x),h⟩⟩ hu
theorem En {l b:Addr} {us ws:Array Value} {same:Nat->Bool} {Q:Value->Shared->Prop} (hl:s.heap.IsTuple l us) (hb:s.heap.IsTuple b ws) (hu:A.units < cLine)
  (he:∀ j (h1:j < us.size) (h2:j < ws.size),EqAt A.in1 s us[j] ws[j] (same j)) (h:Q (.bool (!((List.range (min us.size ws.size)).all same&&us.size==ws.size))) s):wpAny (model prog w) A (compareOp .NotEq (.ref l) (.ref b)) Q E s:=by
 obtain ⟨⟨c1,d1,t1,z1⟩,o1,k1,n1,e1⟩:=id hl
 obtain ⟨⟨c2,d2,t2,z2⟩,o2,k2,n2,e2⟩:=id hb
 simp only at k1 e1 k2 e2
 subst k1 e1 k2 e2
 exact Q4 (op:=.NotEq) ⟨_,o1,rfl⟩ ⟨_,o2,rfl⟩ F.slot_tuple_ne F.entry_tuple_ne (F.args_tuple_ne_2 _ _) (v8 l b us ws n1 n2 d1 d2 z1 z2 same) ⟨o1,o2,he,⟨(fun x=>nomatch x),h⟩⟩ hu
end
end NEQ

namespace ENM
open PySem PyProof.Rows
open AutoSeq1 (wpAny_loadPart')
section
variable {prog:Program} {w:World} {A:Around} {E:Value->Shared->Prop} {s:Shared}
theorem Gr {it t:Addr} {k:Nat} {us:Array Value} {u:Value} {Q:Value->Shared->Prop} (hit:s.heap.IsTupleIter it t k) (ht:s.heap.IsTuple t us) (hu:us[k]?=some u)
  (fin:∀ h',h'.IsTupleIter it t (k+1)->Heap.SameBut it s.heap h'->Q u { s with heap:=h' }):wpAny (model prog w) A (Builtin.SmallTypes.nextOf (.ref it)) Q E s:=by
 obtain ⟨ob,hob,hcl,hda⟩:=id hit
 obtain ⟨ot,hot,_,nt,hdt⟩:=ht
 unfold Builtin.SmallTypes.nextOf
 refine Za (ZS (name:=Str.ofString "__next__") hit.typeIs X6 (ZP X6 hit.typeIs F.entry_tuple_iterator_next ?_ (F.args_tuple_iterator_next_1 _)))
 show wpAny _ _ (field (.ref it) 0>>=_) _ _ s
 refine Za (Xr hob hda (x:=.ref t) rfl ?_)
 show wpAny _ _ (if (Value.ref t==Value.none)=true then _ else _) _ _ s
 rw [Zf (show ¬ ((Value.ref t==Value.none)=true) from Zx)]
 show wpAny _ _ (field (.ref it) 1>>=_) _ _ s
 refine Za (Xr hob hda (x:=.int k 0) rfl ?_)
 show wpAny _ _ (seqItems? (.ref t)>>=_) _ _ s
 refine Za (Wi hot hdt ?_)
 simp only [Z5,hu]
 refine Za (Qd hob hda (by simp) (Zc ⟨u,rfl,Zc (fin _ ?_ (Xa ..))⟩))
 refine ⟨_,Xb _ hob (QB (XH hda _)),(QZ ..).trans hcl,?_⟩
 rw [XH hda]
 simp [rawInt]
theorem yM {it t:Addr} {k:Nat} {us:Array Value} {Q:Value->Shared->Prop} (calm:A.handled=none) (hit:s.heap.IsTupleIter it t k) (ht:s.heap.IsTuple t us) (hu:us[k]?=none)
  (fin:∀ h' e,Heap.ExtBut it s.heap h'->(∃ o,h'.get? e=some o/\o.cls=.type "StopIteration")->E (.ref e) { s with heap:=h' }):wpAny (model prog w) A (Builtin.SmallTypes.nextOf (.ref it)) Q E s:=by
 obtain ⟨ob,hob,hcl,hda⟩:=id hit
 obtain ⟨ot,hot,_,nt,hdt⟩:=ht
 unfold Builtin.SmallTypes.nextOf
 refine Za (ZS (name:=Str.ofString "__next__") hit.typeIs X6 (ZP X6 hit.typeIs F.entry_tuple_iterator_next ?_ (F.args_tuple_iterator_next_1 _)))
 show wpAny _ _ (field (.ref it) 0>>=_) _ _ s
 refine Za (Xr hob hda (x:=.ref t) rfl ?_)
 show wpAny _ _ (if (Value.ref t==Value.none)=true then _ else _) _ _ s
 rw [Zf (show ¬ ((Value.ref t==Value.none)=true) from Zx)]
 show wpAny _ _ (field (.ref it) 1>>=_) _ _ s
 refine Za (Xr hob hda (x:=.int k 0) rfl ?_)
 show wpAny _ _ (seqItems? (.ref t)>>=_) _ _ s
 refine Za (Wi hot hdt ?_)
 simp only [Z5,hu]
 refine Za (QW (Za (Qd hob hda (by simp) ?_)))
 show wpAny _ _ (newExc (.type "StopIteration") []>>=_) _ _ _
 refine Za ?_
 simp only [newExc,newTuple]
 refine Za (ZU ?_ (by size_fits))
 refine Za (m:=firstArgMember _ _) (Qc (a:=Value.none) (by first|rfl|(simp only [firstArgMember]; rfl)) ?_)
 refine ZU ?_ (by size_fits)
 simp only [raiseNew]
 refine Za (wpAny_handled ?_)
 first|rw [show A.in1.handled=none from calm]|rw [calm]
 refine Za (Zc (wpAny_throw ?_))
 exact fin _ _ (((Xa ..).extBut.push _).push _) ⟨_,Zw _ rfl,rfl⟩
noncomputable def Inn (tup:Bool) (h:Heap) (it a:Addr) (k:Nat):Prop:=match tup with
 | true=>h.IsTupleIter it a k
 | false=>h.IsListIter it a k
noncomputable def Seq (tup:Bool) (h:Heap) (a:Addr) (us:Array Value):Prop:=match tup with
 | true=>h.IsTuple a us
 | false=>h.IsList a us
theorem Inn.keep {tup:Bool} {h h':Heap} {it a:Addr} {k:Nat} (x:Inn tup h it a k) (e:∀ o,h.get? it=some o->h'.get? it=some o):Inn tup h' it a k:=by
 cases tup with
 | true=>obtain ⟨o,ho,r⟩:=(show h.IsTupleIter it a k from x); exact ⟨o,e _ ho,r⟩
 | false=>obtain ⟨o,ho,r⟩:=(show h.IsListIter it a k from x); exact ⟨o,e _ ho,r⟩
theorem Inn.there {tup:Bool} {h:Heap} {it a:Addr} {k:Nat} (x:Inn tup h it a k):∃ o,h.get? it=some o/\∀ v,o.data≠.cell v:=by
 cases tup with
 | true=>obtain ⟨o,ho,_,hd⟩:=(show h.IsTupleIter it a k from x); exact ⟨o,ho,fun v z=>by rw [hd] at z; cases z⟩
 | false=>obtain ⟨o,ho,_,hd⟩:=(show h.IsListIter it a k from x); exact ⟨o,ho,fun v z=>by rw [hd] at z; cases z⟩
theorem C8 {tup:Bool} {it a:Addr} {k:Nat} {us:Array Value} {u:Value} {Q:Value->Shared->Prop} (hit:Inn tup s.heap it a k) (hs:Seq tup s.heap a us) (hu:us[k]?=some u)
  (fin:∀ h',Inn tup h' it a (k+1)->Heap.SameBut it s.heap h'->Q u { s with heap:=h' }):wpAny (model prog w) A (Builtin.SmallTypes.nextOf (.ref it)) Q E s:=by
 cases tup with
 | true=>exact Gr hit hs hu fin
 | false=>exact wpAny_nextOf_list_item hit hs hu fin
theorem DH {tup:Bool} {it a:Addr} {k:Nat} {us:Array Value} {Q:Value->Shared->Prop} (calm:A.handled=none) (hit:Inn tup s.heap it a k) (hs:Seq tup s.heap a us) (hu:us[k]?=none)
  (fin:∀ h' e,Heap.ExtBut it s.heap h'->(∃ o,h'.get? e=some o/\o.cls=.type "StopIteration")->E (.ref e) { s with heap:=h' }):wpAny (model prog w) A (Builtin.SmallTypes.nextOf (.ref it)) Q E s:=by
 cases tup with
 | true=>exact yM calm hit hs hu fin
 | false=>exact wpAny_nextOf_list_end calm hit hs hu fin
theorem Dm {tup:Bool} {en it a:Addr} {k:Nat} {us:Array Value} {u old:Value} {Q:Option Value->Shared->Prop} (he:IsEnum s.heap en it k old) (hit:Inn tup s.heap it a k) (hs:Seq tup s.heap a us) (hu:us[k]?=some u) (hne:en≠it)
  (fin:∀ h',IsEnumOut h' en it ((k:Int)+1) u s.heap.objs.size->Inn tup h' it a (k+1)->h'.get? s.heap.objs.size=some { cls:=.type "tuple",data:=.seq #[.int k s.toks,u] }->h'.objs.size=s.heap.objs.size+1 ->
   (∀ b o,b≠en->b≠it->s.heap.get? b=some o->h'.get? b=some o)->Q (some (.ref s.heap.objs.size)) { s with heap:=h',toks:=s.toks+1 }):wpAny (model prog w) A (pyNext (.ref en)) Q E s:=by
 have hT:s.TypeIs (.ref en) "enumerate":=⟨_,he,rfl⟩
 unfold pyNext
 refine Za (XT (ZS (name:=Str.ofString "__next__") hT QC (ZP QC hT F.entry_enumerate_next ?_ (F.args_enumerate_next_1 _))))
 obtain ⟨hp,g,dr,tk,os⟩:=s
 show wpAny _ _ (field (.ref en) 2>>=_) _ _ _
 refine Za (Xr he rfl (x:=.ref it) rfl ?_)
 refine Za (C8 hit hs hu fun h1 hit1 sb1=>?_)
 replace sb1:Heap.SameBut it hp h1:=sb1
 have he1:IsEnum h1 en it k old:=(sb1.2 en hne).trans he
 show wpAny _ _ (field (.ref en) 3>>=_) _ _ ⟨h1,g,dr,tk,os⟩
 refine Za (Xr he1 rfl (x:=rawInt k) rfl ?_)
 show wpAny _ _ (field (.ref en) 4>>=_) _ _ ⟨h1,g,dr,tk,os⟩
 refine Za (Xr he1 rfl (x:=.none) rfl ?_)
 show wpAny _ _ (mkInt k>>=_) _ _ ⟨h1,g,dr,tk,os⟩
 refine Za (wpAny_mkInt ?_)
 show wpAny _ _ (setField (.ref en) 3 (rawInt ((k:Int)+1))>>=_) _ _ ⟨h1,g,dr,tk+1,os⟩
 refine Za (Qm he1 (by simp) fun h2 he2 sb2=>?_)
 replace sb2:Heap.SameBut en h1 h2:=sb2
 replace he2:IsEnum h2 en it ((k:Int)+1) old:=he2
 show wpAny _ _ (setField (.ref en) 4 .none>>=_) _ _ ⟨h2,g,dr,tk+1,os⟩
 refine Za (Qm he2 (by simp) fun h3 he3 sb3=>?_)
 replace sb3:Heap.SameBut en h2 h3:=sb3
 replace he3:IsEnum h3 en it ((k:Int)+1) old:=he3
 show wpAny _ _ (newTuple [.int k tk,u]>>=_) _ _ ⟨h3,g,dr,tk+1,os⟩
 refine Za (wpAny_newTuple ?_)
 have he4:IsEnum (h3.push { cls:=.type "tuple",data:=.seq #[.int k tk,u] }) en it ((k:Int)+1) old:=Zg _ he3
 generalize eh4:h3.push { cls:=.type "tuple",data:=.seq #[.int k tk,u] }=h4 at he4
 have sz3:h3.objs.size=hp.objs.size:=by rw [sb3.1,sb2.1,sb1.1]
 have enlt:en < hp.objs.size:=Zs he
 have tp4:h4.get? hp.objs.size=some { cls:=.type "tuple",data:=.seq #[.int k tk,u] }:=by rw [<- eh4,<- sz3]; exact Zw _ rfl
 have sz4:h4.objs.size=hp.objs.size+1:=by rw [<- eh4,Xk,sz3]
 have kp4:∀ b o,b≠en->b≠it->hp.get? b=some o->h4.get? b=some o:=fun b o hbe hbi hb=>by
  rw [<- eh4]; exact Zg _ (sb3.extBut b o hbe (sb2.extBut b o hbe (sb1.extBut b o hbi hb)))
 have hit4:Inn tup h4 it a (k+1):=hit1.keep fun o e=>by
  rw [<- eh4]; exact Zg _ (sb3.extBut _ o (Ne.symm hne) (sb2.extBut _ o (Ne.symm hne) e))
 show wpAny _ _ (Builtin.SmallTypes.ownedTupleIsFree (.ref en)>>=_) _ _ ⟨h4,g,dr,tk+1,os⟩
 rw [sz3]
 clear eh4 he3 sb3 he2 sb2 he1 sb1 hit1 sz3 h3 h2 h1
 refine Za ?_
 unfold Builtin.SmallTypes.ownedTupleIsFree
 refine Za (Xr he4 rfl (x:=.none) rfl (Zc ?_))
 simp only [Xj]
 refine Za (QW ?_)
 refine Za (Xr he4 rfl (x:=old) rfl ?_)
 refine Za (Qm he4 (by simp) fun h5 he5 sb5=>?_)
 replace sb5:Heap.SameBut en h4 h5:=sb5
 replace he5:IsEnum h5 en it ((k:Int)+1) u:=he5
 show wpAny _ _ (Builtin.SmallTypes.ownedTupleHandOut (.ref en) (.ref hp.objs.size)>>=_) _ _ ⟨h5,g,dr,tk+1,os⟩
 refine Za ?_
 unfold Builtin.SmallTypes.ownedTupleHandOut
 refine Za (Qm he5 (by simp) fun h6 he6 sb6=>?_)
 replace sb6:Heap.SameBut en h5 h6:=sb6
 replace he6:IsEnumOut h6 en it ((k:Int)+1) u hp.objs.size:=he6
 refine Qm he6 (by simp) fun h7 he7 sb7=>?_
 replace sb7:Heap.SameBut en h6 h7:=sb7
 replace he7:IsEnumOut h7 en it ((k:Int)+1) u hp.objs.size:=he7
 have up:∀ b o,b≠en->h4.get? b=some o->h7.get? b=some o:=fun b o hbe hb=>sb7.extBut b o hbe (sb6.extBut b o hbe (sb5.extBut b o hbe hb))
 refine Za (wpAny_letGo (Zc ⟨_,rfl,Zc (fin h7 he7 (hit4.keep fun o e=>up _ o (Ne.symm hne) e) (up _ _ (Qf enlt) tp4) ?_ fun b o hbe hbi hb=>up b o hbe (kp4 b o hbe hbi hb))⟩))
 rw [sb7.1,sb6.1,sb5.1,sz4]
theorem Ib {tup:Bool} {en it a:Addr} {k:Nat} {us:Array Value} {old:Value} {Q:Option Value->Shared->Prop} (calm:A.handled=none) (he:IsEnum s.heap en it k old) (hit:Inn tup s.heap it a k) (hs:Seq tup s.heap a us) (hu:us[k]?=none)
  (fin:∀ h',Heap.ExtBut it s.heap h'->Q none { s with heap:=h' }):wpAny (model prog w) A (pyNext (.ref en)) Q E s:=by
 have hT:s.TypeIs (.ref en) "enumerate":=⟨_,he,rfl⟩
 unfold pyNext
 refine Za (XT (ZS (name:=Str.ofString "__next__") hT QC (ZP QC hT F.entry_enumerate_next ?_ (F.args_enumerate_next_1 _))))
 show wpAny _ _ (field (.ref en) 2>>=_) _ _ _
 refine Za (Xr he rfl (x:=.ref it) rfl ?_)
 refine Za (DH calm hit hs hu fun h' x ext hx=>?_)
 obtain ⟨o,ho,hc⟩:=hx
 refine Za (QE (T:="StopIteration") (b:=true) ⟨o,ho,hc⟩ Wj ?_)
 exact Zc (fin _ ext)
theorem xm (t:Addr) (us:Array Value) (n:Nat) (dd:Option Addr) (sl:Array (Option Value)) :
  Meets (Builtin.«enumerate.__new__» ⟨[.type "enumerate",.ref t],[]⟩) (fun _ R s=>s.heap.get? t=some { cls:=.type "tuple",dict:=dd,data:=.seq us n,slots:=sl } /\
   R (.ok (.ret (.ref (s.heap.push { cls:=.type "tuple_iterator",data:=.fields #[.ref t,.int 0 0] }).objs.size)))
    { s with heap:=(s.heap.push { cls:=.type "tuple_iterator",data:=.fields #[.ref t,.int 0 0] }).push { cls:=.type "enumerate",data:=.fields #[.none,.bool false,.ref s.heap.objs.size,rawInt 0,.none,.none] } }) :=
 .of_wp fun prog w A R s h=>by
  obtain ⟨hp,g,d,tk,os⟩:=s
  obtain ⟨ht,h⟩:=h
  have hsub:=sub_enumerate
  have hT:Heap.IsTuple (Shared.heap ⟨hp,g,d,tk,os⟩) t us:=⟨_,ht,rfl,n,rfl⟩
  wp_walk using wpAny_loadPart' ht
  refine wpAny_stack_any fun st=>Zc ?_
  split
  ·rename_i c _ _ _ _ _
   cases (c==Value.type "enumerate")
   ·wp_walk using wpAny_loadPart' ht,Qn hT
    exact ⟨_,rfl,h⟩
   ·wp_walk using wpAny_loadPart' ht,Qn hT
    exact ⟨_,rfl,h⟩
  ·wp_walk using wpAny_loadPart' ht,Qn hT
   exact ⟨_,rfl,h⟩
theorem HY {t:Addr} {us:Array Value} {Q:Value->Shared->Prop} (hT:s.heap.IsTuple t us)
  (h:∀ h',IsEnum h' (s.heap.objs.size+1) s.heap.objs.size 0 .none->h'.IsTupleIter s.heap.objs.size t 0->h'.objs.size=s.heap.objs.size+2->(∀ b o,s.heap.get? b=some o->h'.get? b=some o)->Q (.ref (s.heap.objs.size+1)) { s with heap:=h' }) :
  wpAny (model prog w) A (call (.type "enumerate") [.ref t]) Q E s:=by
 obtain ⟨⟨c,dd,dt,sl⟩,ht,hc,n,hd⟩:=hT
 replace hc:c=.type "tuple":=hc
 replace hd:dt=.seq us n:=hd
 subst hc hd
 refine callType_new F.called_enumerate (by decide) (F.typeCall_enumerate_1 _) (F.newCall_enumerate_1 _) (fun obj=>F.args_object_init_2 obj _) F.entry_enumerate_new (xm t us n dd sl) ⟨ht,?_⟩
 have sz:(s.heap.push { cls:=.type "tuple_iterator",data:=.fields #[.ref t,.int 0 0] }).objs.size=s.heap.objs.size+1:=Xk ..
 show _/\_
 rw [sz]
 have he:IsEnum ((s.heap.push { cls:=.type "tuple_iterator",data:=.fields #[.ref t,.int 0 0] }).push { cls:=.type "enumerate",data:=.fields #[.none,.bool false,.ref s.heap.objs.size,rawInt 0,.none,.none] }) (s.heap.objs.size+1) s.heap.objs.size 0 .none:=by
  have:=Zw (s.heap.push { cls:=.type "tuple_iterator",data:=.fields #[.ref t,.int 0 0] }) (o:={ cls:=.type "enumerate",data:=.fields #[.none,.bool false,.ref s.heap.objs.size,rawInt 0,.none,.none] }) rfl
  rw [sz] at this; exact this
 exact ⟨⟨_,he,rfl⟩,h _ he ⟨_,Zg _ (Zw _ rfl),rfl,rfl⟩ (by rw [Xk,sz]) fun b o x=>Zg _ (Zg _ x)⟩
theorem Au {tup:Bool} {a:Addr} {us:Array Value} {Q:Value->Shared->Prop} (hs:Seq tup s.heap a us)
  (h:∀ h',IsEnum h' (s.heap.objs.size+1) s.heap.objs.size 0 .none->Inn tup h' s.heap.objs.size a 0->h'.objs.size=s.heap.objs.size+2->(∀ b o,s.heap.get? b=some o->h'.get? b=some o)->Q (.ref (s.heap.objs.size+1)) { s with heap:=h' }) :
  wpAny (model prog w) A (call (.type "enumerate") [.ref a]) Q E s:=by
 cases tup with
 | true=>exact HY hs h
 | false=>exact call_enumerate_list hs h
end
end ENM
namespace L2
open PySem PySem.Spec PyProof.Rows ENM
noncomputable def SqB (K:PySem.W.Frag) (H:Hp) (tup:Bool) (a:Addr) (xs:List V):Prop:=match tup with
 | true=>SqT K H a xs
 | false=>SqL K H a xs
noncomputable def Ite (K:PySem.W.Frag) (tup:Bool) (a:Addr):It :=
 ⟨fun i H=>∃ xs x,SqB K H tup a xs/\xs[i]?=some x,fun i H x H'=>∃ y p,(∀ xs,SqB K H tup a xs->xs[i]?=some y)/\H p=none/\H'=upd H p (.tup [.int i,y])/\x=.ref p,fun i H=>∃ xs,SqB K H tup a xs/\xs.length<=i⟩
theorem Inv.k7 {X:Cx} {pins:List (Addr × Obj)} {σ:L2.St} {H:Hp} {s:Shared} (I:Inv X pins σ H s) {tup:Bool} {a:Addr} {xs:List V} (h:SqB X.K H tup a xs):∃ its:List Value,Vals xs its/\Seq tup s.heap a its.toArray:=by
 cases tup with
 | true=>obtain ⟨its,rv,p,_⟩:=I.tuple h; exact ⟨its,rv,p⟩
 | false=>obtain ⟨its,rv,p,_⟩:=I.list h; exact ⟨its,rv,p.isList⟩
theorem Inv.BN {X:Cx} {pins:List (Addr × Obj)} {σ:L2.St} {H:Hp} {s:Shared} (I:Inv X pins σ H s) {tup:Bool} {a:Addr} {xs ys:List V} (h:SqB X.K H tup a xs) (h':SqB X.K H tup a ys):xs=ys:=by
 cases tup with
 | true=>exact I.jl h h'
 | false=>exact I.jK h h'
theorem AZ {P:Program} {w:World} {K:PySem.W.Frag} {elts:List Expr} {k1:Nat} {tp:Pos} (tup:Bool) (a en it:Addr) (hne:en≠it) :
  Turn P w K (.Tuple elts k1 tp) (Ite K tup a) [en,it] en (fun i h=>(∃ old,IsEnum h en it i old)/\Inn tup h it a i) where
 mem:=by simp
 obj:=fun i h st b hb=>by
  obtain ⟨⟨old,he⟩,hi⟩:=st
  rcases Zt.mp hb with rfl|hb
  ·exact ⟨_,he,fun v z=>by
    have z':Data.fields _=Data.cell v:=z
    cases z'⟩
  ·have e:b=it:=by simpa using hb
   subst e; exact hi.there
 keep:=fun i h h' st k=>by
  obtain ⟨⟨old,he⟩,hi⟩:=st
  exact ⟨⟨old,k en (by simp) _ he⟩,hi.keep fun o e=>k it (by simp) o e⟩
 item:=by
  intro X hP hw hK hc i pins s σ H E I hf st hg
  subst hP hw hK
  obtain ⟨⟨old,he⟩,hi⟩:=st
  obtain ⟨xs,x,hq,hx⟩:=hg
  obtain ⟨its,rv,hs⟩:=I.k7 hq
  obtain ⟨u,hu,ru⟩:=rv.get hx
  obtain ⟨f0,f1,f2,f3,f4,f5⟩:=hf en (by simp)
  obtain ⟨g0,g1,g2,g3,g4,g5⟩:=hf it (by simp)
  refine Dm he hi hs (u:=u) (by simpa using hu) hne fun h' ho hi' ht hz hk=>?_
  refine ⟨_,rfl,wpAny_letOwnedTupleGo_enum ho fun h2 he2 sb2=>?_⟩
  replace sb2:Heap.SameBut en h' h2:=sb2
  have elt:en < s.heap.objs.size:=Zs he
  have hp:H s.heap.objs.size=none:=I.hok.fresh (Zk _)
  have ilt:it < s.heap.objs.size:=by obtain ⟨o,e,_⟩:=hi.there; exact Zs e
  have kept:∀ b o,b≠en->b≠it->s.heap.get? b=some o->h2.get? b=some o:=fun b o h1 h3 e=>sb2.extBut b o h1 (hk b o h1 h3 e)
  have tp2:h2.get? s.heap.objs.size=some { cls:=.type "tuple",data:=.seq #[.int i s.toks,u] }:=sb2.extBut _ _ (Qf elt) ht
  have I2:Inv X pins σ (upd H s.heap.objs.size (.tup [.int i,x])) { s with heap:=h2,toks:=s.toks+1 }:=by
   refine I.step (g':=s.gens) (d':=s.drawn) (ch:=[en,it]) (fun b hb=>?_) (fun b o _ _ hc e _=>kept b o (fun z=>hc (by simp [z])) (fun z=>hc (by simp [z])) e)
    (fun b o _ _ hc e _=>⟨o.slots,kept b o (fun z=>hc (by simp [z])) (fun z=>hc (by simp [z])) e⟩) (fun b o _ e n=>by rw [aA (ZH (Zs e))]; exact n)
    (fun b o hc e=>⟨o,kept b o (fun z=>hc (by simp [z])) (fun z=>hc (by simp [z])) e⟩) (fun b ys q=>by rw [aA (bu q hp)]; exact q) (fun b o u q=>by rw [aA (bu q hp)]; exact q)
    (fun b ps q=>⟨#[],by rw [aA (bu q hp),q]; simp⟩) (fun m hm=>?_) ?_ I.bare
   ·rcases Zt.mp hb with rfl|hb
    ·exact ⟨f3,f1,f4,f5⟩
    ·have e:b=it:=by simpa using hb
     subst e; exact ⟨g3,g1,g4,g5⟩
   ·obtain ⟨o,es,ep,ho',r⟩:=hm
    exact ⟨o,es,ep,kept _ o (Ne.symm f1) (Ne.symm g1) ho',r⟩
   ·intro b o q
    by_cases hb:b=s.heap.objs.size
    ·subst hb
     rw [cg] at q
     cases q
     exact ⟨by show 2<=sizeLine; decide,[.int i s.toks,u],.cons ⟨_,rfl⟩ (.cons ru .nil),_,tp2,rfl,_,rfl⟩
    ·rw [aA hb] at q
     have hb1:b≠en:=fun z=>by rw [z,f0] at q; cases q
     have hb2:b≠it:=fun z=>by rw [z,g0] at q; cases q
     refine (I.hok b o q).stay (fun c v hc e=>?_) (fun c q=>by rw [aA (bu q hp)]; exact q) fun c ys q=>by rw [aA (bu q hp)]; exact q
     rcases hc with rfl|hc
     ·exact kept _ v hb1 hb2 e
     ·exact kept c v (fun z=>by rw [z,f0] at hc; cases hc) (fun z=>by rw [z,g0] at hc; cases hc) e
  refine ⟨.ref s.heap.objs.size,upd H s.heap.objs.size (.tup [.int i,x]),I2,rfl,⟨x,_,fun ys hy=>by rw [I.BN hy hq]; exact hx,hp,rfl,rfl⟩,⟨⟨u,by simpa using he2⟩,hi'.keep fun o e=>sb2.extBut _ o (Ne.symm hne) e⟩,fun b hb=>?_⟩
  rcases Zt.mp hb with rfl|hb
  ·rw [aA (ZH elt)]; exact f0
  ·have e:b=it:=by simpa using hb
   subst e; rw [aA (ZH ilt)]; exact g0
 done:=by
  intro X hP hw hK hc i pins s σ H E I hf st hg
  subst hP hw hK
  obtain ⟨⟨old,he⟩,hi⟩:=st
  obtain ⟨xs,hq,hx⟩:=hg
  obtain ⟨its,rv,hs⟩:=I.k7 hq
  obtain ⟨g0,g1,g2,g3,g4,g5⟩:=hf it (by simp)
  have hl:=rv.length
  exact Ib (I.ok.hd hc) he hi hs (by simp; omega) fun h' eb=>⟨rfl,I.turned (t':=s.toks) (fun b o hb e=>eb b o hb e) g0 g1 g3 g4 g5⟩
 self:=fun _ _ _ _ _ st h=>by
  obtain ⟨⟨old,he⟩,_⟩:=st
  exact wpAny_pyIter_enum he h
section
variable {X:Cx}
noncomputable def Hh (K:PySem.W.Frag) (ta:TA):TI:=fun σ H R=>ta σ H fun vs H1=>∃ tup a,vs=[.ref a]/\(∃ xs,SqB K H1 tup a xs)/\R (Ite K tup a) H1
theorem zG {e:Expr} {ta:TA} {p pos:Pos} {elts:List Expr} {k1:Nat} {tp:Pos} (hg:Gl X "enumerate") (hm:X.mg "enumerate" = none) (hv:bootBuiltins "enumerate" = some (.type "enumerate")) (ha:PA X [e] ta) (hs:starEach [e] X.env=[(false,eval e X.env)]) :
  PI X (.Tuple elts k1 tp) (.Call (.Name "enumerate" p) [e] [] pos) (Hh X.K ta):=by
 intro pins s σ H R I h
 refine Call_ (cO I hg hm hv (Z1 (thn (ha pos pins s σ H _ I h) fun us s1 ⟨vs,H1,I1,r1,q1⟩=>?_) hs rfl))
 obtain ⟨tup,a,e,⟨xs,hq⟩,q⟩:=q1
 subst e
 cases r1 with
 | cons r rr =>
  cases rr
  cases r
  obtain ⟨its,rv,hsq⟩:=I1.k7 hq
  refine Au hsq fun h' he hi hz hk=>?_
  refine wpAny_pyIter_enum he ?_
  have fr:∀ b,s1.heap.objs.size<=b->cL X pins H1 b:=fun b hb=>I1.ff hb (I1.hok.fresh hb)
  refine ⟨s1.heap.objs.size+1,[s1.heap.objs.size+1,s1.heap.objs.size],_,_,H1,rfl,I1.kept (t':=s1.toks) hk,AZ tup a _ _ (Qf (Xw _)),⟨⟨.none,he⟩,hi⟩,fun b hb=>?_,q⟩
  rcases Zt.mp hb with rfl|hb
  ·exact fr _ (QL _)
  ·have e:b=s1.heap.objs.size:=by simpa using hb
   subst e; exact fr _ (Zk _)
noncomputable def kP (lo:Int) (n:Nat):It:=⟨fun i _=>i < n,fun i H x H'=>H'=H/\x=.int (lo - i),fun i _=>n<=i⟩
theorem C9 {P:Program} {w:World} {K:PySem.W.Frag} {tg:Expr} (it:Addr) (lo:Int) (n:Nat):Turn P w K tg (kP lo n) [it] it (fun i h=>IsRangeIter h it (lo+(i:Nat) * (-1)) ((n:Int) - (i:Nat)) (-1)) where
 mem:=by simp
 obj:=fun i h st b hb=>by
  have e:b=it:=by simpa using hb
  subst e
  exact ⟨_,st,fun v z=>by
   have z':Data.fields _=Data.cell v:=z
   cases z'⟩
 keep:=fun i h h' st k=>k it (by simp) _ st
 item:=by
  intro X hP hw hK hc i pins s σ H E I hf st hg
  subst hP hw hK
  obtain ⟨f0,f1,f2,f3,f4,f5⟩:=hf it (by simp)
  have W:=Walks.range (prog:=X.prog) (w:=X.w) (I.ok.hd hc) it lo (-1) n
  refine W.item i s _ _ hg st fun v h' tk hv st' kk=>?_
  obtain ⟨t,rfl⟩:=hv
  have I1:Inv X pins σ H { s with heap:=h',toks:=tk }:=I.turned (fun b o hb e=>kk b o (by simpa using hb) e) f0 f1 f3 f4 f5
  refine ⟨_,rfl,gY (s:={ s with heap:=h',toks:=tk }) (n:="range_iterator") st' rfl rfl (by decide) ⟨.int (lo - i),H,I1,⟨t,?_⟩,⟨rfl,rfl⟩,st',fun b hb=>(hf b hb).1⟩⟩
  congr 1
  omega
 done:=by
  intro X hP hw hK hc i pins s σ H E I hf st hg
  subst hP hw hK
  obtain ⟨f0,f1,f2,f3,f4,f5⟩:=hf it (by simp)
  exact wpAny_pyNext_range_end (I.ok.hd hc) st (by have:n<=i:=hg; omega) fun h' eb=>⟨rfl,I.turned (t':=s.toks) (fun b o hb e=>eb b o hb e) f0 f1 f3 f4 f5⟩
 self:=fun _ _ _ _ _ st h=>wpAny_pyIter_rangeiter st h
theorem rangeSize_down (a b:Int):Builtin.Range.rangeSize a b (-1)=if b < a then a - b else 0:=by
 unfold Builtin.Range.rangeSize
 rw [Zf (by decide)]
 by_cases h:b < a
 ·rw [Ze h,Ze (show a > b from h)]
  rw [show (-(-1):Int)=1 from rfl,Qy]; omega
 ·rw [Zf h,Zf (show ¬ a > b from h)]
theorem small_down {a b:Int} (ha:-(2 ^ 62)<=a) (ha':a < 2 ^ 62) (hb:-(2 ^ 62)<=b) (hb':b < 2 ^ 62):Builtin.Range.small a b (-1)=true:=by
 unfold Builtin.Range.small
 rw [rangeSize_down]
 simp only [Builtin.Range.rangeFitsLong,Zq,Bool.or_eq_true,XQ,QV]
 by_cases h:b < a
 ·simp only [Ze h]
  rw [Zf (show ¬ (-1:Int) > 0 by decide),Zq,XQ,XQ]
  omega
 ·simp only [Zf h]
  rw [Zf (show ¬ (-1:Int) > 0 by decide),Zq,XQ,XQ]
  omega
noncomputable def yi (ta:TA):TI:=fun σ H R=>ta σ H fun vs H1=>∃ i j:Int,vs=[.int i,.int j,.int (-1)]/\(-(2 ^ 62)<=i/\i < 2 ^ 62/\-(2 ^ 62)<=j/\j < 2 ^ 62)/\R (kP i (i - j).toNat) H1
theorem yw {tg a b c:Expr} {ta:TA} {p pos:Pos} (hg:Gl X "range") (hm:X.mg "range" = none) (ha:PA X [a,b,c] ta) (hs:starEach [a,b,c] X.env=[(false,eval a X.env),(false,eval b X.env),(false,eval c X.env)]) (hs2:starEach [b,c] X.env=[(false,eval b X.env),(false,eval c X.env)]) :
  PI X tg (.Call (.Name "range" p) [a,b,c] [] pos) (yi ta):=by
 intro pins s σ H R I h
 refine Call_ (cO I hg hm boot_range (Z1 (thn (ha pos pins s σ H _ I h) fun us s1 ⟨vs,H1,I1,r1,q1⟩=>?_) (by rw [hs,hs2]) (by rw [hs2]; rfl)))
 obtain ⟨i,j,e,⟨q1,q2,q3,q4⟩,q⟩:=q1
 subst e
 cases r1 with
 | cons r rr =>
  cases rr with
  | cons r' rr =>
   cases rr with
   | cons r'' rr =>
    cases rr
    obtain ⟨t,rfl⟩:=r
    obtain ⟨t',rfl⟩:=r'
    obtain ⟨t'',rfl⟩:=r''
    refine call_range_3 (by decide) ?_ (.inl (PyProof.noPylong_small (by decide)))
    refine wpAny_pyIter_range (IsRange.new ..) (small_down q1 q2 q3 q4) ?_
    have I2:Inv X pins σ H1 { s1 with heap:=s1.heap.push { cls:=.type "range",data:=.fields #[.int i t,.int j t',.int (-1) t''] } }:=I1.kept (t':=s1.toks) fun b o e=>Zg _ e
    refine ⟨(s1.heap.push { cls:=.type "range",data:=.fields #[.int i t,.int j t',.int (-1) t''] }).objs.size,[(s1.heap.push { cls:=.type "range",data:=.fields #[.int i t,.int j t',.int (-1) t''] }).objs.size],_,_,H1,rfl,
     I2.kept (t':=s1.toks) fun b o e=>Zg _ e,C9 _ i (i - j).toNat,?_,fun b hb=>?_,q⟩
    ·have e1:i+((0:Nat):Int) * (-1)=i:=by simp
     have e2:(((i - j).toNat:Nat):Int) - ((0:Nat):Int)=Builtin.Range.rangeSize i j (-1):=by rw [rangeSize_down]; split <;> omega
     show IsRangeIter _ _ (i+((0:Nat):Int) * (-1)) ((((i - j).toNat:Nat):Int) - ((0:Nat):Int)) (-1)
     rw [e1,e2]
     exact Zw _ rfl
    ·have e:b=(s1.heap.push { cls:=.type "range",data:=.fields #[.int i t,.int j t',.int (-1) t''] }).objs.size:=by simpa using hb
     subst e
     exact I2.ff (Zk _) (I2.hok.fresh (Zk _))
end
end L2

namespace TB
open PySem PySem.SetTable
noncomputable def adv (mask:Nat) (p:Probe):Probe :=
 if p.more > 0 then { p with j:=p.j+1,more:=p.more - 1 } else
 { p with j:=(leap mask p.i p.perturb).1,more:=runEnd mask (leap mask p.i p.perturb).1 - (leap mask p.i p.perturb).1,i:=(leap mask p.i p.perturb).1,perturb:=(leap mask p.i p.perturb).2 }
theorem tQ (t:SetTable) (p:Probe):t.advance p=adv t.mask p:=rfl
noncomputable def bs (mask:Nat) (b:Nat × Nat):Probe:={ j:=b.1,more:=runEnd mask b.1 - b.1,i:=b.1,perturb:=b.2,dummy:=none }
noncomputable def st (mask:Nat) (h:Int):Nat->Probe
 | 0=>bs mask (bits h % (mask+1),bits h)
 | k+1=>adv mask (st mask h k)
noncomputable def pos (mask:Nat) (h:Int) (k:Nat):Nat:=(st mask h k).j
noncomputable def c9 (mask:Nat):Nat->Probe->Probe
 | 0,p=>p
 | n+1,p=>c9 mask n (adv mask p)
theorem l8 (mask:Nat):∀ (a b:Nat) (p:Probe),c9 mask (a+b) p=c9 mask b (c9 mask a p)
 | 0,b,p=>by rw [Xq]; rfl
 | a+1,b,p=>by rw [Nat.add_right_comm]; exact l8 mask a b (adv mask p)
theorem jo (mask:Nat) (h:Int):∀ (n k:Nat),c9 mask n (st mask h k)=st mask h (k+n)
 | 0,k=>rfl
 | n+1,k=>by
  show c9 mask n (st mask h (k+1))=_
  rw [jo mask h n (k+1),show k+1+n=k+(n+1) by omega]
theorem sM (mask:Nat) (h:Int):∀ k,(st mask h k).dummy=none
 | 0=>rfl
 | k+1=>by
  show (adv mask (st mask h k)).dummy=none
  unfold adv
  split <;> exact sM mask h k
structure Ok (mask:Nat) (p:Probe):Prop where
 i:p.i<=mask
 q:p.perturb < 2 ^ 64
 m:p.more<=9
 j:p.j+p.more=runEnd mask p.i
 d:p.dummy=none
theorem qW (mask i:Nat):runEnd mask i - i<=9:=by unfold runEnd; split <;> omega
theorem nk (mask i:Nat):i<=runEnd mask i:=by unfold runEnd; split <;> omega
theorem vE {mask i:Nat} (h:i<=mask):runEnd mask i<=mask:=by unfold runEnd; split <;> omega
theorem n5 {mask:Nat} {b:Nat × Nat} (h1:b.1<=mask) (h2:b.2 < 2 ^ 64):Ok mask (bs mask b) :=
 ⟨h1,h2,qW mask b.1,Nat.add_sub_cancel' (nk mask b.1),rfl⟩
theorem sS {mask i q:Nat} (h:q < 2 ^ 64):(leap mask i q).1<=mask/\(leap mask i q).2 < 2 ^ 64:=by
 refine ⟨QN.mp (Wd _ (Qg mask)),?_⟩
 show q / 32 < _
 omega
theorem Ia {mask:Nat} {p:Probe} (h:Ok mask p):Ok mask (adv mask p):=by
 unfold adv
 split
 ·rename_i hm
  exact ⟨h.i,h.q,by show p.more - 1<=9; have:=h.m; omega,by show p.j+1+(p.more - 1)=runEnd mask p.i; have:=h.j; omega,h.d⟩
 ·have:=sS (mask:=mask) (i:=p.i) h.q
  exact ⟨this.1,this.2,qW _ _,Nat.add_sub_cancel' (nk _ _),h.d⟩
theorem qm (h:Int):bits h < 2 ^ 64:=by
 unfold bits
 have h1:=QO h (show (2 ^ 64:Int)≠0 by decide)
 have h2:=Qo h (show (0:Int) < 2 ^ 64 by decide)
 omega
theorem cE (mask:Nat) (h:Int):∀ k,Ok mask (st mask h k)
 | 0=>n5 (QN.mp (Wd _ (Qg mask))) (qm h)
 | k+1=>Ia (cE mask h k)
theorem C2 (mask:Nat) (h:Int) (k:Nat):pos mask h k<=mask:=by
 have o:=cE mask h k
 have:=vE o.i
 have:=o.j
 unfold pos; omega
theorem kO (mask:Nat):∀ (a:Nat) (p:Probe),a<=p.more->c9 mask a p={ p with j:=p.j+a,more:=p.more - a }
 | 0,p,_=>rfl
 | a+1,p,h=>by
  have e:adv mask p={ p with j:=p.j+1,more:=p.more - 1 }:=by unfold adv; rw [Ze (by omega)]
  show c9 mask a (adv mask p)=_
  rw [e,kO mask a _ (by show a<=p.more - 1; omega)]
  show ({ p with j:=p.j+1+a,more:=p.more - 1 - a }:Probe)=_
  congr 1 <;> omega
theorem kJ {mask:Nat} {p:Probe} (h:p.dummy=none):c9 mask (p.more+1) p=bs mask (leap mask p.i p.perturb):=by
 rw [l8,kO mask p.more p (Zk _)]
 show adv mask { p with j:=p.j+p.more,more:=p.more - p.more }=_
 unfold adv
 rw [Zf (by show ¬ p.more - p.more > 0; omega)]
 unfold bs
 rw [<- h]
noncomputable def bX (mask:Nat):Nat->Nat × Nat->Nat × Nat
 | 0,b=>b
 | n+1,b=>bX mask n (leap mask b.1 b.2)
theorem blocks {mask:Nat}:∀ (n:Nat) (p:Probe),Ok mask p->∃ c,c<=10 * (n+1)/\c9 mask c p=bs mask (bX mask (n+1) (p.i,p.perturb))
 | 0,p,h=>⟨p.more+1,by have:=h.m; omega,kJ h.d⟩
 | n+1,p,h=>by
  have hb:=sS (mask:=mask) (i:=p.i) h.q
  obtain ⟨c,hc,e⟩:=blocks n (bs mask (leap mask p.i p.perturb)) (n5 hb.1 hb.2)
  refine ⟨p.more+1+c,by have:=h.m; omega,?_⟩
  rw [l8,kJ h.d,e]
  rfl
theorem sO (mask:Nat):∀ (n:Nat) (b:Nat × Nat),(bX mask n b).2=b.2 / 32 ^ n
 | 0,b=>(Nat.div_one _).symm
 | n+1,b=>by
  show (bX mask n (leap mask b.1 b.2)).2=_
  rw [sO mask n]
  show b.2 / 32 / 32 ^ n=_
  rw [Nat.div_div_eq_div_mul,Nat.pow_succ,Nat.mul_comm]
theorem qF (mask:Nat):∀ (a b:Nat) (x:Nat × Nat),bX mask (a+b) x=bX mask b (bX mask a x)
 | 0,b,x=>by rw [Xq]; rfl
 | a+1,b,x=>by rw [Nat.add_right_comm]; exact qF mask a b _
theorem p_ {mask:Nat}:∀ (n:Nat) (b:Nat × Nat),b.1<=mask->(bX mask n b).1<=mask
 | 0,b,h=>h
 | n+1,b,_=>p_ n _ (QN.mp (Wd _ (Qg mask)))
noncomputable def ig (mask:Nat):Nat->Nat->List Nat
 | 0,_=>[]
 | n+1,i=>i::ig mask n ((i * 5+1) % (mask+1))
theorem lS {mask:Nat}:∀ (n i j:Nat),j∈ig mask n i->∃ m,m < n/\(bX mask m (i,0)).1=j
 | 0,i,j,h=>by simp [ig] at h
 | n+1,i,j,h=>by
  rcases Zt.mp h with rfl|h
  ·exact ⟨0,by omega,rfl⟩
  ·obtain ⟨m,hm,e⟩:=lS n _ j h
   refine ⟨m+1,by omega,?_⟩
   have e2:leap mask i 0=((i * 5+1) % (mask+1),0):=by unfold leap; rw [Nat.zero_div,Nat.add_zero]
   rw [<- e,<- e2]
   rfl
theorem Hf:∀ i < 8,∀ j < 8,j∈ig 7 8 i:=by decide +kernel
theorem zk:∀ i < 32,∀ j < 32,j∈ig 31 32 i:=by decide +kernel
noncomputable def Msk (mask:Nat):Prop:=mask=7\/mask=31
theorem round {mask:Nat} (hm:Msk mask) {i j:Nat} (hi:i<=mask) (hj:j<=mask):∃ m,m<=mask/\(bX mask m (i,0)).1=j:=by
 rcases hm with rfl|rfl
 ·obtain ⟨m,h,e⟩:=lS _ _ _ (Hf i (by omega) j (by omega)); exact ⟨m,by omega,e⟩
 ·obtain ⟨m,h,e⟩:=lS _ _ _ (zk i (by omega) j (by omega)); exact ⟨m,by omega,e⟩
theorem reach {mask:Nat} (hm:Msk mask) {i q j:Nat} (hi:i<=mask) (hq:q < 2 ^ 64) (hj:j<=mask):∃ n,12<=n/\n<=12+mask/\(bX mask (n+1) (i,q)).1=j:=by
 have h0:(bX mask 13 (i,q)).2=0:=by
  rw [sO]
  exact Nat.div_eq_of_lt (QA hq (by decide))
 obtain ⟨m,h1,e⟩:=round hm (p_ 13 (i,q) hi) hj
 refine ⟨12+m,by omega,by omega,?_⟩
 rw [show 12+m+1=13+m by omega,qF]
 rw [show bX mask 13 (i,q)=((bX mask 13 (i,q)).1,0) from Prod.ext rfl h0]
 exact e
theorem cover {mask:Nat} (hm:Msk mask) (h:Int) (k:Nat) {j:Nat} (hj:j<=mask):∃ d,d < 10 * turns mask/\pos mask h (k+d)=j:=by
 have o:=cE mask h k
 obtain ⟨n,h1,h2,e⟩:=reach hm o.i o.q hj
 obtain ⟨c,hc,e2⟩:=blocks n (st mask h k) o
 refine ⟨c,by unfold turns; omega,?_⟩
 rw [jo] at e2
 unfold pos
 rw [e2]
 exact e
end TB

namespace TB
open PySem PySem.SetTable
noncomputable def Srt (xs:Array Nat):Prop:=∀ (i i' v v':Nat),xs[i]?=some v->xs[i']?=some v'->i < i'->v < v'
theorem kB {xs:Array Nat} (hs:Srt xs) (j:Nat):∀ (fuel lo hi:Nat),lo<=hi->hi<=xs.size->hi - lo<=fuel->(∀ (i v:Nat),xs[i]?=some v->i < lo->v < j)->(∀ (i v:Nat),xs[i]?=some v->hi<=i->j<=v) ->
  below.go xs j fuel lo hi<=xs.size/\(∀ (i v:Nat),xs[i]?=some v->i < below.go xs j fuel lo hi->v < j)/\∀ (i v:Nat),xs[i]?=some v->below.go xs j fuel lo hi<=i->j<=v
 | 0,lo,hi,h1,h2,h3,h4,h5=>by
  have e:lo=hi:=by omega
  subst e
  exact ⟨h2,h4,h5⟩
 | fuel+1,lo,hi,h1,h2,h3,h4,h5=>by
  by_cases hl:lo < hi
  ·have ego:below.go xs j (fuel+1) lo hi=if xs.getD ((lo+hi) / 2) j < j then below.go xs j fuel ((lo+hi) / 2+1) hi else below.go xs j fuel lo ((lo+hi) / 2):=by
    conv=>lhs; unfold below.go
    rw [Ze hl]
   have hm:(lo+hi) / 2 < xs.size:=by omega
   have hg:xs[(lo+hi) / 2]?=some xs[(lo+hi) / 2]:=Zp hm
   have hd:xs.getD ((lo+hi) / 2) j=xs[(lo+hi) / 2]:=by rw [Xd,hg]; rfl
   rw [ego,hd]
   by_cases hv:xs[(lo+hi) / 2] < j
   ·rw [Ze hv]
    refine kB hs j fuel ((lo+hi) / 2+1) hi (by omega) h2 (by omega) (fun i v e hi'=>?_) h5
    by_cases z:i=(lo+hi) / 2
    ·subst z; rw [hg] at e; cases e; exact hv
    ·exact QA (hs i _ v _ e hg (by omega)) hv
   ·rw [Zf hv]
    refine kB hs j fuel lo ((lo+hi) / 2) (by omega) (by omega) (by omega) h4 fun i v e hi'=>?_
    by_cases z:i=(lo+hi) / 2
    ·subst z; rw [hg] at e; cases e; omega
    ·have:=hs _ i _ v hg e (by omega); omega
  ·have ego:below.go xs j (fuel+1) lo hi=lo:=by
    conv=>lhs; unfold below.go
    rw [Zf hl]
   have e:lo=hi:=by omega
   subst e
   rw [ego]
   exact ⟨h2,h4,h5⟩
theorem lQ {xs:Array Nat} (hs:Srt xs) (j:Nat):below xs j<=xs.size/\(∀ (i v:Nat),xs[i]?=some v->i < below xs j->v < j)/\∀ (i v:Nat),xs[i]?=some v->below xs j<=i->j<=v :=
 kB hs j xs.size 0 xs.size (Xs _) (Zk _) (by omega) (fun i v _ h=>by omega) fun i v e h=>by
  have:=(ZQ.mp e).1; omega
noncomputable def NotIn (xs:Array Nat) (j:Nat):Prop:=∀ i:Nat,xs[i]?≠some j
theorem below_at {xs:Array Nat} (hs:Srt xs) {i j:Nat} (e:xs[i]?=some j):below xs j=i:=by
 obtain ⟨h1,h2,h3⟩:=lQ hs j
 have hi:=(ZQ.mp e).1
 rcases Ws (below xs j) i with z|z|z
 ·have hg:xs[below xs j]?=some xs[below xs j]:=Zp (by omega)
  have:=h3 _ _ hg (Zk _)
  have:=hs _ i _ j hg e z
  omega
 ·exact z
 ·have:=h2 i j e z; omega
theorem jW {t:SetTable} (hs:Srt t.place) {i j:Nat} (e:t.place[i]?=some j):t.slot j=.live i:=by
 unfold slot
 rw [below_at hs e]
 simp only [e,Z7,Xj]
theorem Bf {t:SetTable} (hd:t.dummies=#[]) {j:Nat} (h:NotIn t.place j):t.slot j=.empty:=by
 unfold slot
 have h1:(t.place[below t.place j]?==some j)=false:=by
  cases q:t.place[below t.place j]?==some j with
  | false=>rfl
  | true=>exact absurd (by simpa using q) (h _)
 simp only [h1,Zu,ZK]
 rw [hd]
 rfl
theorem mC {t:SetTable} {f:Nat->Int} {h:Int}:∀ (d k fuel:Nat),d < fuel->(∀ k',k<=k'->k' < k+d->∃ i,t.slot (pos t.mask h k')=.live i/\f i≠h) ->
  probe.go t f h fuel (st t.mask h k)=probe.go t f h (fuel - d) (st t.mask h (k+d))
 | 0,k,fuel,_,_=>rfl
 | d+1,k,0,hf,_=>by omega
 | d+1,k,fuel+1,hf,hw=>by
  obtain ⟨i,e,hne⟩:=hw k (Zk _) (by omega)
  have e:t.slot (st t.mask h k).j=.live i:=e
  conv=>lhs; unfold probe.go
  simp only [e]
  rw [Zf (by simpa using hne),tQ]
  show probe.go t f h fuel (st t.mask h (k+1))=_
  rw [mC d (k+1) fuel (by omega) fun k' h1 h2=>hw k' (by omega) (by omega),show fuel+1 - (d+1)=fuel - d by omega,show k+1+d=k+(d+1) by omega]
theorem Fb {t:SetTable} {f:Nat->Int} {h:Int} {d k:Nat} (hd:d < 10 * turns t.mask) (hw:∀ k',k<=k'->k' < k+d->∃ i,t.slot (pos t.mask h k')=.live i/\f i≠h) (he:t.slot (pos t.mask h (k+d))=.empty) :
  t.probe f h (st t.mask h k)=some (.empty (pos t.mask h (k+d)) none):=by
 unfold probe
 rw [mC d k _ hd hw]
 obtain ⟨m,hm⟩:∃ m,10 * turns t.mask - d=m+1:=⟨10 * turns t.mask - d - 1,by omega⟩
 rw [hm]
 unfold probe.go
 have he:t.slot (st t.mask h (k+d)).j=.empty:=he
 simp only [he,sM]
 rfl
theorem zh {t:SetTable} {f:Nat->Int} {h:Int} {d k i:Nat} (hd:d < 10 * turns t.mask) (hw:∀ k',k<=k'->k' < k+d->∃ i,t.slot (pos t.mask h k')=.live i/\f i≠h) (he:t.slot (pos t.mask h (k+d))=.live i) (hi:f i=h) :
  t.probe f h (st t.mask h k)=some (.candidate (pos t.mask h (k+d)) i (st t.mask h (k+d+1))):=by
 unfold probe
 rw [mC d k _ hd hw]
 obtain ⟨m,hm⟩:∃ m,10 * turns t.mask - d=m+1:=⟨10 * turns t.mask - d - 1,by omega⟩
 rw [hm]
 unfold probe.go
 have he:t.slot (st t.mask h (k+d)).j=.live i:=he
 simp only [he]
 rw [Ze (by simpa using hi),tQ]
 rfl
structure Good {α:Type} (t:SetTable) (es:Array (Int × α)):Prop where
 dum:t.dummies=#[]
 len:t.place.size=es.size
 srt:Srt t.place
 top:∀ (i s:Nat),t.place[i]?=some s->s<=t.mask
 msk:Msk t.mask
 way:∀ (i s:Nat) e,t.place[i]?=some s->es[i]?=some e->∃ k,pos t.mask e.1 k=s/\∀ k',k' < k->∃ i':Nat,t.place[i']?=some (pos t.mask e.1 k')
variable {α:Type} {t:SetTable} {es:Array (Int × α)}
theorem GI {xs:Array Nat} (hs:Srt xs) {mask:Nat} (ht:∀ (i s:Nat),xs[i]?=some s->s<=mask) (hl:xs.size<=mask):∃ j,j<=mask/\NotIn xs j:=by
 have hnd:xs.toList.Nodup:=by
  refine Qa.mpr fun i i' h1 h2 hlt e=>?_
  rw [ZD] at h1 h2
  have:=hs i i' _ _ (Zp h1) (Zp h2) hlt
  rw [XL,XL] at e
  omega
 by_cases h:∃ j,j<=mask/\NotIn xs j
 ·exact h
 ·exfalso
  have hsub:List.range (mask+1) ⊆ xs.toList:=fun j hj=>by
   have hj:j<=mask:=by have:=Z6.mp hj; omega
   by_cases q:NotIn xs j
   ·exact absurd ⟨j,hj,q⟩ h
   ·unfold NotIn at q
    simp only [ne_eq,Classical.not_forall,Classical.not_not] at q
    obtain ⟨i,e⟩:=q
    rw [<- ZT] at e
    exact Zy e
  have:=(List.nodup_range (n:=mask+1)).length_le_of_subset hsub
  rw [ZO,ZD] at this
  omega
end TB

namespace TB
open PySem PySem.SetTable
variable {α:Type} {t:SetTable} {es:Array (Int × α)}
theorem least {P:Nat->Prop}:∀ (n:Nat),P n->∃ m,m<=n/\P m/\∀ k,k < m->¬ P k:=by
 intro n
 induction n using Nat.strongRecOn with
 | ind n ih =>
  intro h
  by_cases q:∃ k,k < n/\P k
  ·obtain ⟨k,hk,hp⟩:=q
   obtain ⟨m,h1,h2,h3⟩:=ih k hk hp
   exact ⟨m,by omega,h2,h3⟩
  ·exact ⟨n,Zk _,h,fun k hk hp=>q ⟨k,hk,hp⟩⟩
structure End (t:SetTable) (h:Int) (K:Nat):Prop where
 lt:K < 10 * turns t.mask
 free:NotIn t.place (pos t.mask h K)
 full:∀ k,k < K->∃ i:Nat,t.place[i]?=some (pos t.mask h k)
theorem wF (g:Good t es) (hl:es.size<=t.mask) (h:Int):∃ K,End t h K:=by
 obtain ⟨j,hj,hn⟩:=GI g.srt g.top (g.len ▸ hl)
 obtain ⟨d,hd,e⟩:=cover g.msk h 0 hj
 rw [Xq] at e
 obtain ⟨K,h1,h2,h3⟩:=least (P:=fun k=>NotIn t.place (pos t.mask h k)) d (by show NotIn t.place _; rw [e]; exact hn)
 refine ⟨K,by omega,h2,fun k hk=>?_⟩
 have:=h3 k hk
 unfold NotIn at this
 simp only [ne_eq,Classical.not_forall,Classical.not_not] at this
 exact this
theorem EY (g:Good t es) {h:Int} {K:Nat} (E:End t h K) {i:Nat} {e:Int × α} (he:es[i]?=some e) (hh:e.1=h):∃ k,k < K/\t.place[i]?=some (pos t.mask h k):=by
 have hi:=(ZQ.mp he).1
 have hi':i < t.place.size:=g.len ▸ hi
 have hp:t.place[i]?=some t.place[i]:=Zp hi'
 obtain ⟨k,e1,e2⟩:=g.way i _ e hp he
 rw [hh] at e1 e2
 refine ⟨k,?_,by rw [hp,<- e1]⟩
 rcases Ws k K with z|z|z
 ·exact z
 ·subst z; exact absurd (e1 ▸ hp) (E.free i)
 ·obtain ⟨i',q⟩:=e2 K z; exact absurd q (E.free i')
theorem yE (g:Good t es) {h:Int} {K:Nat} (E:End t h K) {f:Nat->Int} {k:Nat} (hk:k<=K) :
  t.probe f h (st t.mask h k)=some (.empty (pos t.mask h K) none)/\(∀ (m i:Nat),k<=m->m < K->t.place[i]?=some (pos t.mask h m)->f i≠h) \/
  ∃ m i,k<=m/\m < K/\t.place[i]?=some (pos t.mask h m)/\f i=h/\t.slot (pos t.mask h m)=.live i/\t.probe f h (st t.mask h k)=some (.candidate (pos t.mask h m) i (st t.mask h (m+1)))/\∀ (m' i':Nat),k<=m'->m' < m->t.place[i']?=some (pos t.mask h m')->f i'≠h:=by
 by_cases q:∃ m,k<=m/\m < K/\∃ i:Nat,t.place[i]?=some (pos t.mask h m)/\f i=h
 ·obtain ⟨m0,q⟩:=q
  obtain ⟨m,_,⟨h1,h2,i,h3,h4⟩,h5⟩:=least (P:=fun m=>k<=m/\m < K/\∃ i:Nat,t.place[i]?=some (pos t.mask h m)/\f i=h) m0 q
  have hne:∀ (m' i':Nat),k<=m'->m' < m->t.place[i']?=some (pos t.mask h m')->f i'≠h:=fun m' i' a b c d=>h5 m' b ⟨a,by omega,i',c,d⟩
  refine .inr ⟨m,i,h1,h2,h3,h4,jW g.srt h3,?_,hne⟩
  have:=zh (t:=t) (f:=f) (h:=h) (d:=m - k) (k:=k) (i:=i) (by have:=E.lt; omega) (fun k' a b=>by
   obtain ⟨i',e⟩:=E.full k' (by omega)
   exact ⟨i',jW g.srt e,hne k' i' a (by omega) e⟩) (by rw [show k+(m - k)=m by omega]; exact jW g.srt h3) h4
  rw [show k+(m - k)=m by omega] at this
  exact this
 ·have hne:∀ (m i:Nat),k<=m->m < K->t.place[i]?=some (pos t.mask h m)->f i≠h:=fun m i a b c d=>q ⟨m,a,b,i,c,d⟩
  refine .inl ⟨?_,hne⟩
  have:=Fb (t:=t) (f:=f) (h:=h) (d:=K - k) (k:=k) (by have:=E.lt; omega) (fun k' a b=>by
   obtain ⟨i',e⟩:=E.full k' (by omega)
   exact ⟨i',jW g.srt e,hne k' i' a (by omega) e⟩) (by rw [show k+(K - k)=K by omega]; exact Bf g.dum E.free)
  rw [show k+(K - k)=K by omega] at this
  exact this
theorem gm {β:Type} (xs:Array β) {p:Nat} (hp:p<=xs.size) (x:β) (i:Nat):(insertAt xs p x)[i]?=if i < p then xs[i]? else if i=p then some x else xs[i - 1]?:=by
 rw [<- ZT,SetTable.toList_insertAt]
 have hl:(xs.toList.take p).length=p:=by rw [XD,ZD]; omega
 by_cases h1:i < p
 ·rw [Ze h1]
  rw [ZE (by omega),QP h1,ZT]
 ·rw [Zf h1]
  rw [ZJ (by omega),hl]
  by_cases h2:i=p
  ·subst h2; rw [Ze rfl,We]; rfl
  ·rw [Zf h2]
   obtain ⟨m,rfl⟩:∃ m,i=p+1+m:=⟨i - p - 1,by omega⟩
   rw [show p+1+m - p=m+1 by omega,show p+1+m - 1=p+m by omega]
   show (xs.toList.drop p)[m]?=_
   rw [List.getElem?_drop,ZT]
theorem lB {β:Type} (xs:Array β) (p:Nat) (x:β):(insertAt xs p x).size=xs.size+1:=by
 have:=(SetTable.insertAt_perm xs p x).length_eq
 rw [ZD,ZD,Array.size_push] at this
 exact this
theorem AH (j:Nat):has #[] j=false:=rfl
theorem Cj (g:Good t es) {h:Int} {K:Nat} (E:End t h K) (x:α):Good (t.put (pos t.mask h K)).1 (insertAt es (t.put (pos t.mask h K)).2 (h,x)):=by
 obtain ⟨s1,s2,s3⟩:=lQ g.srt (pos t.mask h K)
 generalize hj:pos t.mask h K=j at s1 s2 s3
 have hfree:NotIn t.place j:=hj ▸ E.free
 generalize hp:below t.place j=p at s1 s2 s3
 have e1:(t.put j).1.place=insertAt t.place p j:=by unfold put; rw [hp]
 have e2:(t.put j).2=p:=by unfold put; rw [hp]
 have e3:(t.put j).1.mask=t.mask:=rfl
 have e4:(t.put j).1.dummies=#[]:=by
  show (if has t.dummies j then eraseAt t.dummies (below t.dummies j) else t.dummies)=#[]
  rw [g.dum,AH]; rfl
 have s1':p<=es.size:=g.len ▸ s1
 have up:∀ (i s:Nat),t.place[i]?=some s->∃ i':Nat,(insertAt t.place p j)[i']?=some s:=fun i s e=>by
  by_cases z:i < p
  ·exact ⟨i,by rw [gm _ s1,Ze z]; exact e⟩
  ·exact ⟨i+1,by rw [gm _ s1,Zf (by omega),Zf (by omega)]; exact e⟩
 refine ⟨e4,by rw [e1,e2,lB,lB,g.len],?_,?_,by rw [e3]; exact g.msk,?_⟩
 ·rw [e1]
  intro i i' v v' a b hlt
  rw [gm _ s1] at a b
  by_cases z:i < p
  ·rw [Ze z] at a
   by_cases z':i' < p
   ·rw [Ze z'] at b; exact g.srt i i' v v' a b hlt
   ·rw [Zf z'] at b
    by_cases w:i'=p
    ·rw [Ze w] at b; cases b; exact s2 i v a z
    ·rw [Zf w] at b; exact g.srt i _ v v' a b (by omega)
  ·rw [Zf z] at a
   rw [Zf (by omega),Zf (by omega)] at b
   by_cases w:i=p
   ·rw [Ze w] at a
    cases a
    have h1:=s3 _ v' b (by omega)
    have h2:v'≠j:=fun q=>hfree _ (q ▸ b)
    omega
   ·rw [Zf w] at a
    exact g.srt _ _ v v' a b (by omega)
 ·rw [e1,e3]
  intro i s a
  rw [gm _ s1] at a
  by_cases z:i < p
  ·rw [Ze z] at a; exact g.top i s a
  ·rw [Zf z] at a
   by_cases w:i=p
   ·rw [Ze w] at a; cases a; rw [<- hj]; exact C2 _ _ _
   ·rw [Zf w] at a; exact g.top _ s a
 ·rw [e1,e2,e3]
  intro i s e a b
  rw [gm _ s1] at a
  rw [gm _ s1'] at b
  have old:∀ (m s:Nat) e,t.place[m]?=some s->es[m]?=some e->∃ k,pos t.mask e.1 k=s/\∀ k',k' < k->∃ i':Nat,(insertAt t.place p j)[i']?=some (pos t.mask e.1 k'):=fun m s e a b=>by
   obtain ⟨k,q1,q2⟩:=g.way m s e a b
   exact ⟨k,q1,fun k' hk'=>let ⟨i',q⟩:=q2 k' hk'; up i' _ q⟩
  by_cases z:i < p
  ·rw [Ze z] at a b; exact old i s e a b
  ·rw [Zf z] at a b
   by_cases w:i=p
   ·rw [Ze w] at a b
    cases a; cases b
    exact ⟨K,hj,fun k' hk'=>let ⟨i',q⟩:=E.full k' hk'; up i' _ q⟩
   ·rw [Zf w] at a b; exact old _ s e a b
end TB

namespace TB
open PySem PySem.SetTable
noncomputable def Occ (owner:Array (Option Nat)) (j:Nat):Prop:=∃ i:Nat,owner[j]?=some (some i)
theorem nF {mask:Nat} {h:Int} {c:Nat} {b:Nat × Nat} (e:st mask h c=bs mask b) {a:Nat} (ha:b.1+a<=runEnd mask b.1):pos mask h (c+a)=b.1+a:=by
 unfold pos
 rw [<- jo,e,kO mask a (bs mask b) (by show a<=runEnd mask b.1 - b.1; omega)]
 rfl
theorem wM {mask:Nat} {h:Int} {c:Nat} {b:Nat × Nat} (e:st mask h c=bs mask b):st mask h (c+(runEnd mask b.1 - b.1+1))=bs mask (leap mask b.1 b.2):=by
 rw [<- jo,e]
 exact kJ (p:=bs mask b) rfl
theorem uN {owner:Array (Option Nat)} {j:Nat} (hj:j < owner.size) (h:(owner.getD j (some 0)).isNone=false):Occ owner j:=by
 have hg:owner[j]?=some owner[j]:=Zp hj
 rw [Xd,hg] at h
 show ∃ i:Nat,owner[j]?=some (some i)
 rw [hg]
 cases q:owner[j] with
 | none=>rw [q] at h; cases h
 | some i=>exact ⟨i,rfl⟩
theorem BI {owner:Array (Option Nat)} {j:Nat} (hj:j < owner.size) (h:(owner.getD j (some 0)).isNone=true):owner[j]?=some none:=by
 have hg:owner[j]?=some owner[j]:=Zp hj
 rw [Xd,hg] at h
 rw [hg]
 cases q:owner[j] with
 | none=>rfl
 | some i=>rw [q] at h; cases h
theorem rE {mask:Nat} {owner:Array (Option Nat)} (hs:owner.size=mask+1) {h:Int} {j0:Nat} (hf:owner[j0]?=some none):∀ (fuel n:Nat) (b:Nat × Nat) (c:Nat),b.1<=mask->st mask h c=bs mask b->(∀ k,k < c->Occ owner (pos mask h k))->(bX mask n b).1=j0->n < fuel ->
  ∃ K,layClean.free mask owner fuel b.1 b.2=some (pos mask h K)/\owner[pos mask h K]?=some none/\∀ k,k < K->Occ owner (pos mask h k)
 | 0,n,b,c,_,_,_,_,hn=>by omega
 | fuel+1,n,b,c,hb,e,ho,hl,hn=>by
  have hr:=vE hb
  have hge:=nk mask b.1
  cases q:(List.range (runEnd mask b.1+1 - b.1)).find? (fun k=>(owner.getD (b.1+k) (some 0)).isNone) with
  | some a =>
   obtain ⟨h1,h2,h3⟩:=List.find?_range_eq_some.mp q
   have h2:=Z6.mp h2
   have hp:=nF e (a:=a) (by omega)
   refine ⟨c+a,?_,?_,fun k hk=>?_⟩
   ·unfold layClean.free
    rw [q,hp]
   ·rw [hp]; exact BI (by omega) h1
   ·by_cases z:k < c
    ·exact ho k z
    ·obtain ⟨m,rfl⟩:∃ m,k=c+m:=⟨k - c,by omega⟩
     rw [nF e (a:=m) (by omega)]
     exact uN (by omega) (by simpa using h3 m (by omega))
  | none =>
   have h3:=List.find?_range_eq_none.mp q
   have occ:∀ a,b.1+a<=runEnd mask b.1->Occ owner (b.1+a):=fun a ha=>uN (by omega) (by simpa using h3 a (by omega))
   cases n with
   | zero =>
    exfalso
    obtain ⟨i,w⟩:=occ 0 (by omega)
    have hl:b.1=j0:=hl
    rw [Nat.add_zero,hl,hf] at w
    cases w
   | succ n =>
    have hle:(leap mask b.1 b.2).1<=mask:=QN.mp (Wd _ (Qg mask))
    obtain ⟨K,r1,r2,r3⟩:=rE hs hf fuel n (leap mask b.1 b.2) (c+(runEnd mask b.1 - b.1+1)) hle (wM e) (fun k hk=>by
     by_cases z:k < c
     ·exact ho k z
     ·obtain ⟨m,rfl⟩:∃ m,k=c+m:=⟨k - c,by omega⟩
      rw [nF e (a:=m) (by omega)]
      exact occ m (by omega)) hl (by omega)
    refine ⟨K,?_,r2,r3⟩
    unfold layClean.free
    rw [q]
    exact r1
theorem DS {mask:Nat} (hm:Msk mask) {owner:Array (Option Nat)} (hs:owner.size=mask+1) {j0:Nat} (hf:owner[j0]?=some none) (h:Int) :
  ∃ K,layClean.free mask owner (turns mask) (bits h % (mask+1)) (bits h)=some (pos mask h K)/\owner[pos mask h K]?=some none/\∀ k,k < K->Occ owner (pos mask h k):=by
 have hj:j0<=mask:=by have:=(ZQ.mp hf).1; omega
 have hi:bits h % (mask+1)<=mask:=QN.mp (Wd _ (Qg mask))
 obtain ⟨n,h1,h2,e⟩:=reach hm hi (qm h) hj
 exact rE hs hf (turns mask) (n+1) (bits h % (mask+1),bits h) 0 hi rfl (fun k hk=>by omega) e (by unfold turns; omega)
structure Own (mask:Nat) (hs:List Int) (owner:Array (Option Nat)):Prop where
 size:owner.size=mask+1
 lt:∀ (j i:Nat),owner[j]?=some (some i)->i < hs.length
 ex:∀ i:Nat,i < hs.length->∃ j:Nat,owner[j]?=some (some i)
 inj:∀ (j j' i:Nat),owner[j]?=some (some i)->owner[j']?=some (some i)->j=j'
 way:∀ (j i:Nat) h,owner[j]?=some (some i)->hs[i]?=some h->∃ K,pos mask h K=j/\∀ k,k < K->Occ owner (pos mask h k)
theorem we (mask:Nat):Own mask [] (Array.replicate (mask+1) none):=by
 have no:∀ (j i:Nat),(Array.replicate (mask+1) (none:Option Nat))[j]?≠some (some i):=fun j i e=>by
  rw [Array.getElem?_replicate] at e
  split at e <;> cases e
 exact ⟨Array.size_replicate,fun j i e=>absurd e (no j i),fun i h=>absurd h (Nat.not_lt_zero i),fun j _ i e=>absurd e (no j i),fun j i _ e=>absurd e (no j i)⟩
theorem DG {mask:Nat} {hs:List Int} {owner:Array (Option Nat)} (o:Own mask hs owner) (hl:hs.length<=mask):∃ j:Nat,owner[j]?=some none:=by
 by_cases q:∃ j:Nat,owner[j]?=some none
 ·exact q
 ·exfalso
  have all:∀ j,j < mask+1->∃ i:Nat,owner[j]?=some (some i):=fun j hj=>by
   have hj':j < owner.size:=by rw [o.size]; exact hj
   have hg:owner[j]?=some owner[j]:=Zp hj'
   cases w:owner[j] with
   | none=>exact absurd ⟨j,by rw [hg,w]⟩ q
   | some i=>exact ⟨i,by rw [hg,w]⟩
  let g:Nat->Nat:=fun j=>((owner[j]?).getD none).getD 0
  have hg:∀ j i:Nat,owner[j]?=some (some i)->g j=i:=fun j i e=>by show ((owner[j]?).getD none).getD 0=i; rw [e]; rfl
  have hnd:((List.range (mask+1)).map g).Nodup:=by
   refine Wt.mpr (List.Pairwise.imp_of_mem (fun {a b} ha hb hab=>?_) (List.nodup_range (n:=mask+1)))
   obtain ⟨i,e⟩:=all a (Z6.mp ha)
   obtain ⟨i',e'⟩:=all b (Z6.mp hb)
   rw [hg a i e,hg b i' e']
   intro z
   subst z
   exact hab (o.inj a b i e e')
  have hsub:(List.range (mask+1)).map g ⊆ List.range hs.length:=fun x hx=>by
   obtain ⟨j,hj,rfl⟩:=ZA.mp hx
   obtain ⟨i,e⟩:=all j (Z6.mp hj)
   rw [hg j i e]
   exact Z6.mpr (o.lt j i e)
  have:=hnd.length_le_of_subset hsub
  rw [Zd,ZO,ZO] at this
  omega
theorem Gy {mask:Nat} (hm:Msk mask) {hs:List Int} {owner:Array (Option Nat)} (o:Own mask hs owner) (hl:hs.length<=mask) (h:Int) :
  ∃ j,layClean.free mask owner (turns mask) (bits h % (mask+1)) (bits h)=some j/\Own mask (hs++[h]) (owner.setIfInBounds j (some hs.length)):=by
 obtain ⟨j0,hf⟩:=DG o hl
 obtain ⟨K,e1,e2,e3⟩:=DS hm o.size hf h
 generalize hj:pos mask h K=j at e1 e2
 have hjl:j < owner.size:=(ZQ.mp e2).1
 have get:∀ x:Nat,(owner.setIfInBounds j (some hs.length))[x]?=if x=j then some (some hs.length) else owner[x]?:=fun x=>by
  rw [Array.getElem?_setIfInBounds]
  by_cases z:j=x
  ·subst z; rw [Ze rfl,Ze hjl,Ze rfl]
  ·rw [Zf z,Zf (fun q=>z q.symm)]
 have keep:∀ x:Nat,Occ owner x->Occ (owner.setIfInBounds j (some hs.length)) x:=fun x ⟨i,w⟩=>⟨i,by
  rw [get,Zf (fun q=>by subst q; rw [e2] at w; cases w)]; exact w⟩
 refine ⟨j,e1,?_,?_,?_,?_,?_⟩
 ·rw [Array.size_setIfInBounds]; exact o.size
 ·intro x i w
  rw [get] at w
  rw [Zv,XG]
  split at w
  ·cases w; omega
  ·have:=o.lt x i w; omega
 ·intro i hi
  rw [Zv,XG] at hi
  by_cases z:i=hs.length
  ·subst z; exact ⟨j,by rw [get,Ze rfl]⟩
  ·obtain ⟨x,w⟩:=o.ex i (by omega)
   exact ⟨x,by rw [get,Zf (fun q=>by subst q; rw [e2] at w; cases w)]; exact w⟩
 ·intro x x' i w w'
  rw [get] at w w'
  by_cases z:x=j
  ·by_cases z':x'=j
   ·rw [z,z']
   ·rw [Ze z] at w; rw [Zf z'] at w'
    cases w
    have:=o.lt x' _ w'; omega
  ·rw [Zf z] at w
   by_cases z':x'=j
   ·rw [Ze z'] at w'
    cases w'
    have:=o.lt x _ w; omega
   ·rw [Zf z'] at w'; exact o.inj x x' i w w'
 ·intro x i h' w hh
  rw [get] at w
  by_cases z:x=j
  ·rw [Ze z] at w
   cases w
   rw [ZJ (Zk _),We] at hh
   cases hh
   exact ⟨K,by rw [hj,z],fun k hk=>keep _ (e3 k hk)⟩
  ·rw [Zf z] at w
   rw [ZE (o.lt x i w)] at hh
   obtain ⟨K',r1,r2⟩:=o.way x i h' w hh
   exact ⟨K',r1,fun k hk=>keep _ (r2 k hk)⟩
theorem vf {mask:Nat} (hm:Msk mask):∀ (rest done:List Int) (owner:Array (Option Nat)),Own mask done owner->done.length+rest.length<=mask+1 ->
  ∃ o',(rest.foldl (fun (acc:Option (Array (Option Nat) × Nat)) h=>do let (owner,k) <- acc; let j <- layClean.free mask owner (turns mask) (bits h % (mask+1)) (bits h); pure (owner.setIfInBounds j (some k),k+1)) (some (owner,done.length)))=some (o',(done++rest).length)/\Own mask (done++rest) o'
 | [],done,owner,o,_=>⟨owner,by rw [Xz]; rfl,by rw [Xz]; exact o⟩
 | h::rest,done,owner,o,hl=>by
  rw [ZB] at hl
  obtain ⟨j,e,o2⟩:=Gy hm o (by omega) h
  obtain ⟨o',e',o3⟩:=vf hm rest (done++[h]) _ o2 (by rw [Zv,XG]; omega)
  rw [Zr] at e' o3
  refine ⟨o',?_,o3⟩
  rw [Qp]
  rw [Zv,XG] at e'
  have:(do let (owner,k) <- some (owner,done.length); let j <- layClean.free mask owner (turns mask) (bits h % (mask+1)) (bits h); pure (owner.setIfInBounds j (some k),k+1))=some (owner.setIfInBounds j (some done.length),done.length+1):=by
   show (layClean.free mask owner (turns mask) (bits h % (mask+1)) (bits h)).bind (fun j=>some (owner.setIfInBounds j (some done.length),done.length+1))=_
   rw [e]; rfl
  rw [this]
  exact e'
theorem zU {mask:Nat} (hm:Msk mask) (hs:Array Int) (hl:hs.size<=mask+1):∃ o',layClean mask hs=some o'/\Own mask hs.toList o':=by
 obtain ⟨o',e,o⟩:=vf hm hs.toList [] _ (we mask) (by rw [X2,ZD]; omega)
 rw [Qq] at e o
 refine ⟨o',?_,o⟩
 unfold layClean
 rw [<- Array.foldl_toList]
 rw [X2] at e
 rw [e]
 rfl
end TB

namespace TB
open PySem PySem.SetTable
variable {α:Type} {es:Array (Int × α)}
theorem uA:∀ {l:List Nat},(∀ i∈l,i < es.size)->(l.filterMap (es[·]?)).length=l.length/\∀ m:Nat,(l.filterMap (es[·]?))[m]?=l[m]?.bind (es[·]?)
 | [],_=>⟨rfl,fun m=>by simp⟩
 | i::l,h=>by
  have hi:=h i Zn
  obtain ⟨h1,h2⟩:=uA (l:=l) fun x hx=>h x (Zm _ hx)
  have e:es[i]?=some es[i]:=Zp hi
  rw [Xt,e]
  refine ⟨by rw [ZB,ZB,h1],fun m=>?_⟩
  cases m with
  | zero=>rw [List.getElem?_cons_zero,List.getElem?_cons_zero]; exact e.symm
  | succ m=>rw [List.getElem?_cons_succ,List.getElem?_cons_succ]; exact h2 m
noncomputable def bB (mask:Nat) (owner:Array (Option Nat)):List (Nat × Nat):=(List.range (mask+1)).filterMap fun j=>(owner.getD j none).map (j,·)
theorem EA {mask:Nat} {owner:Array (Option Nat)} (hs:owner.size=mask+1) (j i:Nat):(j,i)∈bB mask owner ↔ owner[j]?=some (some i):=by
 unfold bB
 rw [Qk]
 constructor
 ·rintro ⟨x,hx,e⟩
  have hx:x < owner.size:=by rw [hs]; exact Z6.mp hx
  have hg:owner[x]?=some owner[x]:=Zp hx
  rw [Xd,hg] at e
  cases q:owner[x] with
  | none=>rw [q] at e; cases e
  | some y =>
   rw [q] at e
   have e:(x,y)=(j,i):=by simpa using e
   cases e
   rw [hg,q]
 ·intro e
  have hj:j < owner.size:=(ZQ.mp e).1
  refine ⟨j,Z6.mpr (by omega),?_⟩
  rw [Xd,e]; rfl
theorem Eb (mask:Nat) (owner:Array (Option Nat)):(bB mask owner).Pairwise fun a b=>a.1 < b.1:=by
 refine List.Pairwise.filterMap _ (fun a a' hlt b hb b' hb'=>?_) List.pairwise_lt_range
 cases q:owner.getD a none with
 | none=>rw [q] at hb; cases hb
 | some y =>
  cases q':owner.getD a' none with
  | none=>rw [q'] at hb'; cases hb'
  | some y' =>
   rw [q] at hb; rw [q'] at hb'
   have hb:(a,y)=b:=by simpa using hb
   have hb':(a',y')=b':=by simpa using hb'
   subst hb; subst hb'
   exact hlt
theorem BJ {l l':List Nat} (h:l.Nodup) (h':l'.Nodup) (hm:∀ a,a∈l ↔ a∈l'):l.Perm l':=by
 rw [List.perm_iff_count]
 intro a
 rw [h.count,h'.count]
 by_cases q:a∈l
 ·rw [Ze q,Ze ((hm a).mp q)]
 ·rw [Zf q,Zf (fun z=>q ((hm a).mpr z))]
theorem Al {mask:Nat} (hm:Msk mask) (es:Array (Int × α)) (hl:es.size<=mask+1) (finger moves:Nat) (led plain:Bool) :
  ∃ t' order,laid mask finger moves led plain (es.map (·.1))=some (t',order)/\Good t' (order.filterMap (es[·]?))/\(order.filterMap (es[·]?)).size=es.size/\(order.filterMap (es[·]?)).toList.Perm es.toList /\
   t'={ mask:=mask,place:=t'.place,dummies:=#[],finger:=finger,led:=led,moves:=moves,plain:=plain }:=by
 obtain ⟨owner,e,o⟩:=zU hm (es.map (·.1)) (by rw [Array.size_map]; exact hl)
 have hlen:(es.map (·.1)).toList.length=es.size:=by rw [ZD,Array.size_map]
 have hm':=EA o.size
 have hlt:=Eb mask owner
 have hi:∀ i∈(bB mask owner).map (·.2),i < es.size:=fun i hi=>by
  obtain ⟨⟨j,i'⟩,h1,rfl⟩:=ZA.mp hi
  have:=o.lt j i' ((hm' j i').mp h1)
  rw [hlen] at this
  exact this
 obtain ⟨f1,f2⟩:=uA (es:=es) hi
 have hnd:((bB mask owner).map (·.2)).Nodup:=by
  refine Wt.mpr (List.Pairwise.imp_of_mem (fun {a b} ha hb hab=>?_) hlt)
  obtain ⟨j,i⟩:=a
  obtain ⟨j',i'⟩:=b
  intro z
  have z:i=i':=z
  subst z
  have:=o.inj j j' i ((hm' j i).mp ha) ((hm' j' i).mp hb)
  subst this
  exact absurd hab (XB _)
 have hperm:((bB mask owner).map (·.2)).Perm (List.range es.size):=BJ hnd List.nodup_range fun a=>by
  constructor
  ·intro h; exact Z6.mpr (hi a h)
  ·intro h
   obtain ⟨j,w⟩:=o.ex a (by rw [hlen]; exact Z6.mp h)
   exact ZA.mpr ⟨(j,a),(hm' j a).mpr w,rfl⟩
 have hfm:(((bB mask owner).map (·.2)).toArray.filterMap (es[·]?)).toList=((bB mask owner).map (·.2)).filterMap (es[·]?):=by rw [Array.toList_filterMap]
 have hget:∀ m:Nat,(((bB mask owner).map (·.2)).toArray.filterMap (es[·]?))[m]?=((bB mask owner).map (·.2))[m]?.bind (es[·]?):=fun m=>by rw [<- ZT,hfm,f2]
 have hsize:(((bB mask owner).map (·.2)).toArray.filterMap (es[·]?)).size=es.size:=by
  rw [<- ZD,hfm,f1,hperm.length_eq,ZO]
 refine ⟨_,_,by unfold laid; rw [e]; rfl,?_,hsize,?_,rfl⟩
 ·have pget:∀ m:Nat,((bB mask owner).map (·.1)).toArray[m]?=(bB mask owner)[m]?.map (·.1):=fun m=>by rw [List.getElem?_toArray,ZM]
  refine ⟨rfl,?_,?_,?_,hm,?_⟩
  ·show ((bB mask owner).map (·.1)).toArray.size=_
   rw [hsize,Zi,Zd]
   have:=hperm.length_eq
   rw [Zd,ZO] at this
   exact this
  ·intro i i' v v' a b hlt'
   have a:((bB mask owner).map (·.1)).toArray[i]?=some v:=a
   have b:((bB mask owner).map (·.1)).toArray[i']?=some v':=b
   rw [pget] at a b
   obtain ⟨x,hx,rfl⟩:=ZC.mp a
   obtain ⟨y,hy,rfl⟩:=ZC.mp b
   obtain ⟨h1,e1⟩:=Zh.mp hx
   obtain ⟨h2,e2⟩:=Zh.mp hy
   have:=Qa.mp hlt i i' h1 h2 hlt'
   rw [e1,e2] at this
   exact this
  ·intro i s a
   have a:((bB mask owner).map (·.1)).toArray[i]?=some s:=a
   rw [pget] at a
   obtain ⟨⟨j,k⟩,hx,rfl⟩:=ZC.mp a
   have:=(ZQ.mp ((hm' j k).mp (Zy hx))).1
   have:=o.size
   show j<=mask
   omega
  ·intro i s e' a b
   have a:((bB mask owner).map (·.1)).toArray[i]?=some s:=a
   have b:(((bB mask owner).map (·.2)).toArray.filterMap (es[·]?))[i]?=some e':=b
   rw [pget] at a
   obtain ⟨⟨j,k⟩,hx,rfl⟩:=ZC.mp a
   rw [hget,ZM,hx] at b
   have b:es[k]?=some e':=b
   have hown:=(hm' j k).mp (Zy hx)
   have hh:(es.map (·.1)).toList[k]?=some e'.1:=by rw [ZT,Array.getElem?_map,b]; rfl
   obtain ⟨K,r1,r2⟩:=o.way j k e'.1 hown hh
   refine ⟨K,r1,fun k' hk'=>?_⟩
   obtain ⟨i2,w⟩:=r2 k' hk'
   obtain ⟨m,hm2⟩:=ZL ((hm' _ i2).mpr w)
   exact ⟨m,by show ((bB mask owner).map (·.1)).toArray[m]?=_; rw [pget,hm2]; rfl⟩
 ·rw [hfm]
  have:=hperm.filterMap (es[·]?)
  rw [filterMap_getElem?_range] at this
  exact this
end TB

namespace TB
open PySem PySem.SetTable
section
variable {prog:Program} {w:World} {A:Around} {E:Value->Shared->Prop} {s:Shared}
abbrev TK (prog:Program) (w:World) (h:Heap) (ks:List Int) (b:Addr):Prop:=IsTupleKey (intKind prog w) h ks b
noncomputable def hsh (prog:Program) (w:World) (ks:List Int):Int:=tupleKeyHash (intKind prog w) ks
structure El (prog:Program) (w:World) (h:Heap) (e:Int × Value) (ks:List Int):Prop where
 hash:e.1=hsh prog w ks
 ref:∃ b,e.2=.ref b/\TK prog w h ks b
theorem rm {ks:List Int} {vs:List Value} (h:ItemsAre (intKind prog w) ks vs):∀ v∈vs,∃ i t,v=Value.int i t:=by
 induction h with
 | nil=>intro v hv; cases hv
 | cons h1 _ ih =>
  intro v hv
  rcases Zt.mp hv with rfl|hv
  ·obtain ⟨t,e⟩:=Qv h1; exact ⟨_,t,e⟩
  ·exact ih v hv
theorem vd (n:Nat) {ks:List Int} {b:Addr} {Q:Bool->Shared->Prop} (hk:TK prog w s.heap ks b) (h:Q false s):wpAny (model prog w) A (ofAClassStatement (n+1) (.ref b)) Q E s:=by
 obtain ⟨o,items,m,ho,hc,hd,hi⟩:=hk
 unfold ofAClassStatement
 refine Za (wpAny_typeOf_ref ho ?_)
 rw [hc]
 refine Za (Zc ?_)
 simp only [X7,Zu,ZK]
 refine Za (Wi ho hd ?_)
 refine Za ?_
 show wpAny _ _ (forIn items _ _) _ _ s
 rw [<- Array.forIn_toList]
 refine QD _ (fun rest r z=>r.1=none/\z=s/\∀ v∈rest,∃ i t,v=Value.int i t) _ ?_ ?_ _ _ ⟨rfl,rfl,rm hi⟩
 ·rintro v rest r z ⟨hr,rfl,hall⟩
  obtain ⟨i,t,rfl⟩:=hall v Zn
  have e:ofAClassStatement n (Value.int i t)=pure false:=by cases n <;> rfl
  rw [e]
  refine Za (Zc ?_)
  exact Zc ⟨rfl,rfl,fun u hu=>hall u (Zm _ hu)⟩
 ·rintro ⟨r1,r2⟩ z ⟨hr,rfl,_⟩
  have hr:r1=none:=hr
  subst hr
  exact Zc h
theorem Ic {ks:List Int} {b:Addr} {ys:List Value} {Q:Bool->Shared->Prop} (hk:TK prog w s.heap ks b) (hy:∀ y∈ys,∃ js c,y=Value.ref c/\TK prog w s.heap js c) (h:Q false s):wpAny (model prog w) A (searchCouldBeSeen (.ref b) ys) Q E s:=by
 unfold searchCouldBeSeen
 refine Za (QD _ (fun rest r z=>r.1=none/\z=s/\∀ y∈rest,∃ js c,y=Value.ref c/\TK prog w s.heap js c) _ ?_ ?_ _ _ ⟨rfl,rfl,hy⟩)
 ·rintro y rest r z ⟨hr,rfl,hall⟩
  obtain ⟨js,c,rfl,hc⟩:=hall y Zn
  have hrest:∀ y∈rest,∃ js c,y=Value.ref c/\TK prog w z.heap js c:=fun u hu=>hall u (Zm _ hu)
  dsimp only
  split
  ·exact Zc ⟨rfl,rfl,hrest⟩
  ·refine Za (wpAny_eqIsQuiet_tuple hk ?_)
   simp only [X7,Zu,ZK]
   refine Za (wpAny_eqIsQuiet_tuple hc ?_)
   simp only [X7,Zu,ZK]
   refine Za (vd 7 hk ?_)
   simp only [Zu,ZK]
   refine Za (vd 7 hc ?_)
   simp only [Zu,ZK]
   exact Zc ⟨rfl,rfl,hrest⟩
 ·rintro ⟨r1,r2⟩ z ⟨hr,rfl,_⟩
  have hr:r1=none:=hr
  subst hr
  exact Zc h
noncomputable def jZ (prog:Program) (w:World) (h:Heap) (es:Array (Int × Value)) (L:List (List Int)):Prop:=L.length=es.size/\∀ (i:Nat) e ks,es[i]?=some e->L[i]?=some ks->El prog w h e ks
theorem jZ.get {h:Heap} {es:Array (Int × Value)} {L:List (List Int)} (k:jZ prog w h es L) {i:Nat} {e:Int × Value} (he:es[i]?=some e):∃ ks,L[i]?=some ks/\El prog w h e ks:=by
 have hi:=(ZQ.mp he).1
 have hi':i < L.length:=by rw [k.1]; exact hi
 have hl:L[i]?=some L[i]:=Zb hi'
 exact ⟨_,hl,k.2 i e _ he hl⟩
theorem fE {t:SetTable} {es:Array (Int × Value)} (g:Good t es) (hl:es.size<=t.mask):t.fits es.size=true:=by
 unfold SetTable.fits SetTable.fill
 rw [g.dum,g.len]
 simp only [Z7,Bool.true_and,XQ]
 exact hl
theorem wL {mask:Nat} (h:Msk mask):(mask % 2==0)=false:=by rcases h with rfl|rfl <;> rfl
theorem rS {t:SetTable} {f f':Nat->Int} {h:Int} {p:SetTable.Probe} {r:Option SetTable.Met} (e:t.probe f h p=r) (hf:∀ i,f' i=f i):t.probe f' h p=r:=by rw [show f'=f from funext hf]; exact e
theorem zM {a c:Addr} {o:Obj} {es:Array (Int × Value)} {ep:Nat} {t:SetTable} {L:List (List Int)} {ks:List Int} {Q:SetFound->Shared->Prop} (hu:A.units < cLine)
  (ho:s.heap.get? a=some o) (hd:o.data=.set es ep t) (g:Good t es) (hl:es.size<=t.mask) (K:jZ prog w s.heap es L) (hk:TK prog w s.heap ks c) {M:Nat} (EN:End t (hsh prog w ks) M)
  (h1:ks∈L->Q (.there none) s) (h2:ks ∉ L->Q (.free (pos t.mask (hsh prog w ks) M) false) s) :
  ∀ (n fuel k:Nat) (stand:Option SetTable.Probe),M - k=n->n < fuel->k<=M->stand.getD (t.probeStart (hsh prog w ks))=st t.mask (hsh prog w ks) k ->
   (∀ (m i:Nat),m < k->t.place[i]?=some (pos t.mask (hsh prog w ks) m)->L[i]?≠some ks) ->
   wpAny (model prog w) A (setSearchFrom a (.ref c) (hsh prog w ks) true fuel stand) Q E s:=by
 intro n
 induction n using Nat.strongRecOn with
 | ind n ih =>
  intro fuel k stand hn hf hkM hst hprev
  obtain ⟨fuel,rfl⟩:∃ f,fuel=f+1:=⟨fuel - 1,by omega⟩
  have hfit:=fE g hl
  unfold setSearchFrom
  refine Za (Xy ho hd hfit ?_)
  dsimp only
  have hgw:t.gaveWay=false:=wL g.msk
  rw [hgw]
  simp only [Zu,ZK]
  rw [hst]
  have hsto:∀ (i:Nat) e,es[i]?=some e->(es[i]?.map (·.1)).getD 0=e.1:=fun i e he=>by rw [he]; rfl
  rcases yE g EN (f:=fun i=>(es[i]?.map (·.1)).getD 0) hkM with ⟨hp,hne⟩|⟨m,i,hkm,hmM,hpi,hfi,hslot,hp,hne⟩
  ·rw [rS hp]
   rotate_left
   ·exact fun i=>rfl
   refine Zc (h2 fun hmem=>?_)
   obtain ⟨i,hi⟩:=ZL hmem
   have hi':i < es.size:=by rw [<- K.1]; exact (Zh.mp hi).1
   have he:es[i]?=some es[i]:=Zp hi'
   have hel:=K.2 i _ ks he hi
   obtain ⟨m,hm,hpl⟩:=EY g EN he hel.hash
   by_cases z:m < k
   ·exact hprev m i z hpl hi
   ·exact hne m i (by omega) hm hpl ((hsto i _ he).trans hel.hash)
  ·rw [rS hp]
   rotate_left
   ·exact fun i=>rfl
   dsimp only
   have hi':i < es.size:=by rw [<- g.len]; exact (ZQ.mp hpi).1
   have he:es[i]?=some es[i]:=Zp hi'
   obtain ⟨js,hjs,hel⟩:=K.get he
   obtain ⟨b,hb,hkb⟩:=hel.ref
   have hstored:∀ y∈(es.filter (·.1==hsh prog w ks)).toList.map (·.2),∃ js c,y=Value.ref c/\TK prog w s.heap js c:=fun y hy=>by
    obtain ⟨e,h3,rfl⟩:=ZA.mp hy
    have h3:e∈es:=by
     rw [Array.toList_filter] at h3
     exact Array.mem_def.mpr (Qj.mp h3).1
    obtain ⟨i',hi'⟩:=Array.getElem?_of_mem h3
    obtain ⟨js',_,hel'⟩:=K.get hi'
    obtain ⟨b',q1,q2⟩:=hel'.ref
    exact ⟨js',b',q1,q2⟩
   have rest:wpAny (model prog w) A (do
     let some (_,y):=es[i]?|unsupported "internal:set-entry"
     let equal <- holding [y] (eqBool y (.ref c))
     let (es',_,t') <- setState a
     if true&&equal then return .there none
     let some same:=t'.sameMemory t.moves t.mask|unsupported "set.changed-during-lookup:is-the-new-block-at-the-old-address"
     let aD <- match (if same then t'.slot (pos t.mask (hsh prog w ks) m) else .empty) with
      | .live i'=>match es'[i']? with
       | some (_,y')=>do pure (if <- isSame y' y then some i' else none)
       | none=>pure none
      | _=>pure none
     match aD with
     | none=>rule "set.search.anew"; setSearchFrom a (.ref c) (hsh prog w ks) true fuel none
     | some i'=>if equal then return .there (some i') else setSearchFrom a (.ref c) (hsh prog w ks) true fuel (some (st t.mask (hsh prog w ks) (m+1)))) Q E s:=by
    rw [he]
    rcases hE:es[i] with ⟨eh,ev⟩
    rw [hE] at hb
    have hb:ev=.ref b:=hb
    subst hb
    dsimp only
    refine Za (XC (wpAny_eqBool_tuple hu hkb hk ?_))
    refine Za (Xy ho hd hfit ?_)
    dsimp only
    by_cases hq:js=ks
    ·subst hq
     rw [Zj rfl]
     simp only [Bool.and_self,Xj]
     exact Zc (h1 (Zy hjs))
    ·rw [Zz hq]
     simp only [Bool.and_false,Zu,ZK]
     have hsm:t.sameMemory t.moves t.mask=some true:=by unfold SetTable.sameMemory; simp only [Z7,Xj]
     rw [hsm]
     simp only [Xj]
     rw [hslot]
     dsimp only
     rw [he,hE]
     dsimp only
     refine Za (wpAny_isSame_ref_self (Za (Zc ?_)))
     simp only [Xj]
     refine ih (M - (m+1)) (by omega) fuel (m+1) _ rfl (by omega) (by omega) rfl fun m' i' hm' hpl=>?_
     by_cases z:m' < k
     ·exact hprev m' i' z hpl
     ·by_cases z2:m'=m
      ·subst z2
       have:i'=i:=by
        have r1:=below_at g.srt hpl
        have r2:=below_at g.srt hpi
        omega
       subst this
       rw [hjs]
       intro q
       cases q
       exact hq rfl
      ·intro q
       have hi2:i' < es.size:=by rw [<- g.len]; exact (ZQ.mp hpl).1
       have he2:es[i']?=some es[i']:=Zp hi2
       exact hne m' i' (by omega) (by omega) hpl ((hsto i' _ he2).trans (K.2 i' _ ks he2 q).hash)
   cases hled:t.led with
   | true =>
    simp only [X7,Zu,ZK]
    exact rest
   | false =>
    simp only [Bool.not_false,Xj]
    refine Za (Ic hk hstored ?_)
    simp only [Zu,ZK]
    exact rest
end
end TB

namespace TB
open PySem PySem.SetTable
section
variable {prog:Program} {w:World} {A:Around} {E:Value->Shared->Prop} {s:Shared}
inductive Els (prog:Program) (w:World) (h:Heap):List (Int × Value)->List (List Int)->Prop
 | nil:Els prog w h [] []
 | cons {e:Int × Value} {ks:List Int} {l:List (Int × Value)} {L:List (List Int)}:El prog w h e ks->Els prog w h l L->Els prog w h (e::l) (ks::L)
variable {h:Heap}
theorem Els.length:∀ {l:List (Int × Value)} {L:List (List Int)},Els prog w h l L->L.length=l.length
 | _,_,.nil=>rfl
 | _,_,.cons _ r=>by rw [ZB,ZB,r.length]
theorem Els.get:∀ {l:List (Int × Value)} {L:List (List Int)},Els prog w h l L->∀ (i:Nat) e ks,l[i]?=some e->L[i]?=some ks->El prog w h e ks
 | _,_,.nil,i,e,ks,a,_=>by simp at a
 | _,_,.cons q r,0,e,ks,a,b=>by cases a; cases b; exact q
 | _,_,.cons q r,i+1,e,ks,a,b=>r.get i e ks a b
theorem Els.keys {es:Array (Int × Value)} {L:List (List Int)} (x:Els prog w h es.toList L):jZ prog w h es L :=
 ⟨by rw [x.length,ZD],fun i e ks a b=>x.get i e ks (by rw [ZT]; exact a) b⟩
theorem Els.perm {l l':List (Int × Value)} (p:l.Perm l'):∀ {L:List (List Int)},Els prog w h l' L->∃ L',Els prog w h l L'/\L'.Perm L:=by
 induction p with
 | nil=>intro L x; cases x; exact ⟨[],.nil,.nil⟩
 | cons e _ ih=>intro L x; cases x with|cons q r=>obtain ⟨L',a,b⟩:=ih r; exact ⟨_,.cons q a,b.cons _⟩
 | swap e e' l=>intro L x; cases x with|cons q r=>cases r with|cons q' r'=>exact ⟨_,.cons q' (.cons q r'),.swap ..⟩
 | trans _ _ ih1 ih2 =>
  intro L x
  obtain ⟨L1,a1,b1⟩:=ih2 x
  obtain ⟨L2,a2,b2⟩:=ih1 a1
  exact ⟨L2,a2,b2.trans b1⟩
theorem Els.snoc:∀ {l:List (Int × Value)} {L:List (List Int)} {e:Int × Value} {ks:List Int},Els prog w h l L->El prog w h e ks->Els prog w h (l++[e]) (L++[ks])
 | _,_,_,_,.nil,q=>.cons q .nil
 | _,_,_,_,.cons a r,q=>.cons a (r.snoc q)
theorem Els.mono {h':Heap} (f:∀ ks b,TK prog w h ks b->TK prog w h' ks b):∀ {l:List (Int × Value)} {L:List (List Int)},Els prog w h l L->Els prog w h' l L
 | _,_,.nil=>.nil
 | _,_,.cons ⟨a,b,c,d⟩ r=>.cons ⟨a,b,c,f _ _ d⟩ (r.mono f)
theorem qU {a b:Addr} {h':Heap} {ks:List Int} {o:Obj} {es:Array (Int × Value)} {ep:Nat} {t:SetTable} (ho:h.get? a=some o) (hd:o.data=.set es ep t) (q:Heap.SameBut a h h') (x:TK prog w h ks b):TK prog w h' ks b:=by
 obtain ⟨ob,items,n,x1,x2,x3,x4⟩:=x
 refine ⟨ob,items,n,(q.2 b fun z=>?_).trans x1,x2,x3,x4⟩
 subst z
 rw [ho] at x1
 cases x1
 rw [hd] at x3
 cases x3
noncomputable def byT (w:World):Bool:=w.params.followText "set-order"
noncomputable def cz (prog:Program) (w:World) (lim:Addr->Prop) (h:Heap) (a:Addr) (L:List (List Int)):Prop:=∃ o es ep t,h.get? a=some o/\o.ExactSet/\o.data=.set es ep t/\Good t es/\(t.plain=true/\t.led=!byT w)/\es.size * 5 < t.mask * 3/\Els prog w h es.toList L/\L.Nodup /\
 ∀ e∈es.toList,∀ b,e.2=.ref b->lim b
theorem xX {ks:List Int} {c:Addr} {Q:Bool->Shared->Prop} (hk:TK prog w s.heap ks c) (q:Q true s):wpAny (model prog w) A (hashByValue 8 (.ref c)) Q E s:=by
 have hT:=hk.typeIs
 obtain ⟨o,items,m,ho,hc,hd,hi⟩:=hk
 unfold hashByValue
 refine Za (wpAny_specialOf hT F.slot_tuple_hash.lookup ?_)
 show wpAny _ _ (seqItems? (.ref c)>>=_) _ _ s
 refine Za (Wi ho hd ?_)
 refine Za ?_
 show wpAny _ _ (forIn items _ _) _ _ s
 rw [<- Array.forIn_toList]
 refine QD _ (fun rest r z=>r.1=none/\z=s/\∀ v∈rest,∃ i t,v=Value.int i t) _ ?_ ?_ _ _ ⟨rfl,rfl,rm hi⟩
 ·rintro v rest r z ⟨hr,rfl,hall⟩
  obtain ⟨i,t,rfl⟩:=hall v Zn
  have e:∀ n,hashByValue n (Value.int i t)=pure true:=fun n=>by cases n <;> rfl
  rw [e]
  refine Za (Zc ?_)
  exact Zc ⟨rfl,rfl,fun u hu=>hall u (Zm _ hu)⟩
 ·rintro ⟨r1,r2⟩ z ⟨hr,rfl,_⟩
  have hr:r1=none:=hr
  subst hr
  exact Zc q
theorem xy {mask:Nat} (hm:Msk mask):10 * turns mask < 100000:=by rcases hm with rfl|rfl <;> decide
theorem s_ {a:Addr} {o:Obj} {es:Array (Int × Value)} {ep:Nat} {t:SetTable} (ho:h.get? a=some o) (hd:o.data=.set es ep t) (es':Array (Int × Value)) (t':SetTable) :
  (h.update a (Obj.putSet es' t')).get? a=some { o with data:=.set es' (ep+1) t' }:=by
 have q:=Xb (Obj.putSet es' t') ho (by rw [putSet_of es' t' hd]; rfl)
 rw [putSet_of es' t' hd] at q
 exact q
theorem FA {a c:Addr} {L:List (List Int)} {ks:List Int} {Q:Bool->Shared->Prop} (hu:A.units < cLine) {lim:Addr->Prop} (hs:cz prog w lim s.heap a L) (hn:L.length<=17) (hk:TK prog w s.heap ks c) (hc:lim c)
  (q:∀ r h' L',Heap.SameBut a s.heap h'->cz prog w lim h' a L'->(∀ x,x∈L' ↔ x∈L\/x=ks)->L'.length<=L.length+1->Q r { s with heap:=h' }) :
  wpAny (model prog w) A (setAddHashed a (.ref c) (hsh prog w ks)) Q E s:=by
 obtain ⟨o,es,ep,t,ho,hex,hd,g,hpl,hsz,hels,hnd,hlim⟩:=hs
 have hlen:L.length=es.size:=by rw [hels.length,ZD]
 have hl:es.size<=t.mask:=by rcases g.msk with z|z <;> omega
 have hfit:=fE g hl
 obtain ⟨M,EN⟩:=wF g hl (hsh prog w ks)
 have hts:=xy g.msk
 have hML:=EN.lt
 unfold setAddHashed setAddHashedIn
 refine XC (Za (Xy ho hd hfit ?_))
 dsimp only
 have hbs:byScan (.ref c) es=false:=rfl
 rw [hbs]
 simp only [Zu,ZK]
 unfold setSearch
 refine Za (zM hu ho hd g hl hels.keys hk EN (fun hm=>?_) (fun hm=>?_) M 100000 0 none (Nat.sub_zero M) (by omega) (Xs _) rfl (fun m i hm=>absurd hm (Nat.not_lt_zero m)))
 ·have e:s={ s with heap:=s.heap }:=by cases s; rfl
  rw [e]
  exact Zc (q _ s.heap L (Heap.SameBut.refl a s.heap) ⟨o,es,ep,t,ho,hex,hd,g,hpl,hsz,hels,hnd,hlim⟩ (fun x=>⟨.inl,fun z=>z.elim id fun z=>z ▸ hm⟩) (QL _))
 dsimp only
 refine Za (Xy ho hd hfit ?_)
 dsimp only
 have g1:=Cj g EN (Value.ref c)
 generalize hp:t.put (pos t.mask (hsh prog w ks) M)=TP at g1
 have hmask:TP.1.mask=t.mask:=by rw [<- hp]; rfl
 have hplain:TP.1.plain=true:=by rw [<- hp]; exact hpl.1
 have hled:TP.1.led=!byT w:=by rw [<- hp]; exact hpl.2
 obtain ⟨t1,p⟩:=TP
 have hmask:t1.mask=t.mask:=hmask
 have hplain:t1.plain=true:=hplain
 have hled:t1.led=!byT w:=hled
 have g1:Good t1 (insertAt es p (hsh prog w ks,.ref c)):=g1
 dsimp only
 rw [hplain]
 simp only [Xj]
 refine Za (xX hk ?_)
 simp only [Xj]
 have hperm:=SetTable.insertAt_perm es p (hsh prog w ks,Value.ref c)
 rw [Array.toList_push] at hperm
 have hz1:(insertAt es p (hsh prog w ks,Value.ref c)).size=es.size+1:=lB _ _ _
 obtain ⟨L1,x1,y1⟩:=Els.perm hperm (hels.snoc (e:=(hsh prog w ks,Value.ref c)) ⟨rfl,c,rfl,hk⟩)
 have hL1:L1.length=L.length+1:=by rw [y1.length_eq,Zv,XG]
 have hnd1:L1.Nodup:=y1.nodup_iff.mpr (Qw.mpr ⟨hnd,by simp,fun x hx y hy=>by rw [ZV.mp hy]; intro z; exact hm (z ▸ hx)⟩)
 have hm1:∀ x,x∈L1 ↔ x∈L\/x=ks:=fun x=>by rw [y1.mem_iff,ZR,ZV]
 have hlim1:∀ e∈(insertAt es p (hsh prog w ks,Value.ref c)).toList,∀ b,e.2=.ref b->lim b:=fun e he b hb=>by
  rcases ZR.mp (hperm.mem_iff.mp he) with z|z
  ·exact hlim e z b hb
  ·rw [ZV.mp z] at hb; cases hb; exact hc
 generalize insertAt es p (hsh prog w ks,Value.ref c)=es1 at g1 hz1 x1 hlim1
 have hline:∀ n:Nat,n<=100->n<=sizeLine:=fun n h=>by rw [Qb]; omega
 have ho1:=s_ (h:=s.heap) ho hd es1 t1
 have sb1:=Xa s.heap a (Obj.putSet es1 t1)
 refine Za (wpAny_storeSet_of ho hd ?_ (hline _ (by omega)))
 have hl1:es1.size<=t1.mask:=by rw [hmask]; rcases g.msk with z|z <;> omega
 have hfill:t1.fill=es1.size:=by unfold SetTable.fill; rw [g1.dum,g1.len]; rfl
 have x1':=x1.mono fun ks b z=>qU ho hd sb1 z
 by_cases hfull:t1.tooFull=true
 ·rw [hfull]
  simp only [Bool.not_false,Bool.and_self,Xj]
  have hfull:t1.fill * 5 ≥ t1.mask * 3:=Zo hfull
  rw [hfill,hmask,hz1] at hfull
  have h4:es.size=4:=by rcases g.msk with z|z <;> omega
  unfold setRelay
  refine Za ?_
  refine Za (Xy ho1 rfl (fE g1 hl1) ?_)
  dsimp only
  have hw:SetTable.grown (es.size+1)=20:=by rw [h4]; rfl
  rw [hw]
  have h32:SetTable.sizeAbove 20=32:=by decide
  have hno:¬ (SetTable.sizeAbove 20 > sizeLine):=by rw [h32,Qb]; omega
  rw [Zf hno]
  obtain ⟨t2,order,e2,g2,z2,p2,f2⟩:=Al (mask:=31) (.inr rfl) es1 (by omega) t1.finger (t1.movedTo 31) t1.led t1.plain
  have hrel:t1.relaid (es1.map (·.1)) 20=some (t2,order):=by unfold SetTable.relaid; rw [h32]; exact e2
  have hplain2:t2.plain=true:=by rw [f2]; exact hplain
  have hled2:t2.led=!byT w:=by rw [f2]; exact hled
  have hmask2:t2.mask=31:=by rw [f2]
  rw [show (es1.map fun x=>x.1)=es1.map (·.1) from rfl,hrel]
  obtain ⟨L2,x2,y2⟩:=Els.perm p2 x1'
  generalize hes2:order.filterMap (es1[·]?)=es2 at g2 z2 p2 x2
  have ho2:=s_ ho1 rfl es2 t2
  have sb2:=Xa (s.heap.update a (Obj.putSet es1 t1)) a (Obj.putSet es2 t2)
  refine Za (Qc (a:=(es2,t2)) ?_ ?_)
  ·show (ite _ _ _:Sem (Array (Int × Value) × SetTable))=_
   refine (Zf ?_).trans ?_
   ·rw [hes2,z2]; simp
   ·rw [hes2]
  ·refine wpAny_storeSet_of ho1 rfl ?_ (hline _ (by show es2.size<=100; omega))
   refine Zc (q _ _ L2 (sb1.trans sb2) ⟨_,es2,_,t2,ho2,hex,rfl,g2,⟨hplain2,hled2⟩,by omega,x2.mono fun ks b z=>qU ho1 rfl sb2 z,y2.nodup_iff.mpr hnd1,fun e he=>hlim1 e (p2.mem_iff.mp he)⟩ (fun x=>by rw [y2.mem_iff,hm1]) (by rw [y2.length_eq]; omega))
 ·have hfull':t1.tooFull=false:=by simpa using hfull
  rw [hfull']
  simp only [Bool.and_false,Zu,ZK]
  have hnf:¬ (t1.fill * 5 ≥ t1.mask * 3):=fun z=>hfull (Zj z)
  rw [hfill] at hnf
  exact Zc (q _ _ L1 sb1 ⟨_,es1,ep+1,t1,ho1,hex,rfl,g1,⟨hplain,hled⟩,by omega,x1',hnd1,hlim1⟩ hm1 (by omega))
theorem cz.keep {lim:Addr->Prop} {a:Addr} {h':Heap} {L:List (List Int)} (x:cz prog w lim h a L) (k:∀ b o,lim b\/b=a->h.get? b=some o->h'.get? b=some o):cz prog w lim h' a L:=by
 obtain ⟨o,es,ep,t,ho,hex,hd,g,hpl,hsz,hels,hnd,hlim⟩:=x
 refine ⟨o,es,ep,t,k a o (.inr rfl) ho,hex,hd,g,hpl,hsz,?_,hnd,hlim⟩
 have all:∀ (l:List (Int × Value)) (L:List (List Int)),(∀ e∈l,∀ b,e.2=.ref b->lim b)->Els prog w h l L->Els prog w h' l L:=by
  intro l L hl q
  induction q with
  | nil=>exact .nil
  | @cons e ks l L q r ih =>
   obtain ⟨q1,b,q2,ob,items,n,x1,x2⟩:=q
   exact .cons ⟨q1,b,q2,ob,items,n,k b ob (.inl (hl e Zn b q2)) x1,x2⟩ (ih fun e' he'=>hl e' (Zm _ he'))
 exact all _ _ hlim hels
theorem Bt (finger moves:Nat) (led:Bool):Good (.fresh finger moves led) (#[]:Array (Int × Value)) :=
 ⟨rfl,rfl,fun i _ v _ e=>by simp [SetTable.fresh] at e,fun i v e=>by simp [SetTable.fresh] at e,.inl rfl,fun i v _ e=>by simp [SetTable.fresh] at e⟩
theorem cz.new {lim:Addr->Prop} {a:Addr} (ho:h.get? a=some { cls:=.type "set",dict:=none,data:=.set #[] 0 (.fresh 0 0 (!byT w)) }):cz prog w lim h a [] :=
 ⟨_,#[],0,_,ho,⟨rfl,rfl,rfl⟩,rfl,Bt 0 0 _,⟨rfl,rfl⟩,(show 0 * 5 < 7 * 3 by decide),.nil,QU,fun e he=>by simp at he⟩
end
end TB

namespace TB
open PySem PySem.SetTable PySem.Spec
section
variable {prog:Program} {w:World} {A:Around} {R:Result->Shared->Prop} {I:Addr} {fp wr:List Addr} {G:Array GenState->Array GenState->Prop} {n:Nat} {P:Nat->Value->Prop} {St:Nat->Shared->Prop}
theorem fC {h h':Heap} {ks:List Int} {c:Addr} (x:TK prog w h ks c) (k:∀ o,h.get? c=some o->h'.get? c=some o):TK prog w h' ks c:=by
 obtain ⟨o,items,m,x1,x2⟩:=x
 exact ⟨o,items,m,k o x1,x2⟩
theorem Bk (hu:A.in1.units < cLine) (W:WalksS prog w A.in1 I fp wr G n P St) (S:Addr) (lim:Addr->Prop) (hS1:S ∉ fp) (hwr:∀ b∈wr,¬ lim b) (hSl:¬ lim S) (val:Nat->List Int) (hn:n<=18) (hval:∀ i v,P i v->∃ c,v=.ref c/\lim c) :
  ∀ (k i:Nat) (z:Shared) (L:List (List Int)),n - i=k->i<=n->St i z->cz prog w lim z.heap S L->(∀ x,x∈L ↔ ∃ j,j < i/\val j=x)->L.length<=i->(∀ i c,P i (.ref c)->TK prog w z.heap (val i) c) ->
   (∀ z' L',Moved (S::wr) G z z'->cz prog w lim z'.heap S L'->(∀ x,x∈L' ↔ ∃ j,j < n/\val j=x)->(∀ i c,P i (.ref c)->TK prog w z'.heap (val i) c)->R (.ok (.ret .none)) z') ->
   codeAny (model prog w) A (.builtin "set.update.loop" ⟨[.ref S,.ref I],[]⟩) R z:=by
 have hS2:S ∉ wr:=fun q=>hS1 (W.sub _ q)
 have more:∀ b∈wr,b∈S::wr:=fun b q=>Zm _ q
 have old:∀ {c:Addr},lim c->c ∉ wr:=fun hc q=>hwr _ q hc
 intro k
 induction k with
 | zero =>
  intro i z L hk hi hst hT hL hlen hP hR
  obtain rfl:i=n:=by omega
  refine XJ QS ?_
  rw [Xx XZ _]
  refine Za (W.done z _ _ hst fun z' hm=>?_)
  refine Zc (hR z' L (hm.mono more) (hT.keep fun b o hb e=>hm.heap b o ?_ e) hL fun j c hp=>fC (hP j c hp) fun o e=>hm.heap c o ?_ e)
  ·rcases hb with hb|rfl
   ·exact old hb
   ·exact hS2
  ·obtain ⟨c',q1,q2⟩:=hval j _ hp; cases q1; exact old q2
 | succ k ih =>
  intro i z L hk hi hst hT hL hlen hP hR
  have hlt:i < n:=by omega
  refine XJ QS ?_
  rw [Xx XZ _]
  refine Za (W.item i z _ _ hlt hst fun v z' hv hst' hm=>?_)
  obtain ⟨c,rfl,hc⟩:=hval i v hv
  have hP':∀ i c,P i (.ref c)->TK prog w z'.heap (val i) c:=fun j d hp=>fC (hP j d hp) fun o e=>hm.heap d o (by obtain ⟨c',q1,q2⟩:=hval j _ hp; cases q1; exact old q2) e
  have hT':cz prog w lim z'.heap S L:=hT.keep fun b o hb e=>hm.heap b o (by rcases hb with hb|rfl; exact old hb; exact hS2) e
  have hci:=hP' i c hv
  refine Za (XC ?_)
  unfold setAdd
  refine XC (Za (wpAny_pyHash_tuple hu hci ?_))
  refine FA (s:={ z' with toks:=z'.toks+((val i).length+1) }) hu hT' (by omega) hci hc fun r h' L' sb hT2 hL2 hlen2=>?_
  have kp:∀ b o,b≠S->z'.heap.get? b=some o->h'.get? b=some o:=fun b o hb e=>(sb.2 b hb).trans e
  refine Zc ⟨QH XZ _,ih (i+1) _ L' (by omega) hlt (W.frame _ z' _ _ hst' (Nat.le_add_right _ _) fun b hb o e=>kp b o (fun q=>hS1 (q ▸ hb)) e) hT2 (fun x=>?_) (by omega) (fun j d hp=>fC (hP' j d hp) fun o e=>kp d o ?_ e) fun z2 L2 hm2 a1 a2 a3=>?_⟩
  ·rw [hL2,hL]
   constructor
   ·rintro (⟨j,h1,h2⟩|rfl)
    ·exact ⟨j,by omega,h2⟩
    ·exact ⟨i,by omega,rfl⟩
   ·rintro ⟨j,h1,rfl⟩
    by_cases q:j=i
    ·subst q; exact .inr rfl
    ·exact .inl ⟨j,by omega,rfl⟩
  ·obtain ⟨c',q1,q2⟩:=hval j _ hp; cases q1; exact fun q=>hSl (q ▸ q2)
  ·exact hR z2 L2 (Moved.trans W.gtrans ((hm.mono more).then_heap (Nat.le_add_right _ _) fun b o hb e=>kp b o (fun q=>hb (by rw [q]; exact Zn)) e) hm2) a1 a2 a3
end
end TB

namespace TB
open PySem PySem.SetTable
theorem f_:Slot "set_iterator" "__next__" "set_iterator.__next__" :=
 .of (owner:="set_iterator") (n:="__next__") (by rw [typeLookup_type,builtinLookup_eq_fast]; kernel_rfl) (by decide +kernel) (by decide +kernel) (by decide +kernel) (.inl (by decide +kernel)) (by rw [isSubtype_type]; kernel_rfl)
theorem tP:Slot "set_iterator" "__iter__" "set_iterator.__iter__" :=
 .of (owner:="set_iterator") (n:="__iter__") (by rw [typeLookup_type,builtinLookup_eq_fast]; kernel_rfl) (by decide +kernel) (by decide +kernel) (by decide +kernel) (.inl (by decide +kernel)) (by rw [isSubtype_type]; kernel_rfl)
theorem t6:entryFor table "set_iterator.__next__" = some Builtin.«set_iterator.__next__»:=entryFor_of_fast (by kernel_rfl)
theorem Bj:entryFor table "set_iterator.__iter__" = some Builtin.«dict_keyiterator.__iter__»:=entryFor_alias (id':="dict_keyiterator.__iter__") (by kernel_rfl) rfl (by decide +kernel) (by kernel_rfl)
theorem qx (a:Value):argsOk "set_iterator.__next__" ⟨[a],[]⟩:=by unfold argsOk; kernel_rfl
theorem E7 (a:Value):argsOk "set_iterator.__iter__" ⟨[a],[]⟩:=by unfold argsOk; kernel_rfl
theorem A7:entryFor table "set.__iter__" = some Builtin.«frozenset.__iter__»:=entryFor_alias (id':="frozenset.__iter__") (by kernel_rfl) rfl (by decide +kernel) (by kernel_rfl)
end TB

namespace TB
open PySem PySem.SetTable PySem.Spec
section
variable {prog:Program} {w:World} {A:Around} {E:Value->Shared->Prop} {s:Shared}
noncomputable def Dd (prog:Program) (w:World) (h:Heap) (items:Array Value) (val:Nat->List Int):Prop:=∀ (i:Nat) v,items[i]?=some v->∃ c,v=.ref c/\TK prog w h (val i) c
noncomputable def d9 (led:Bool):Obj:={ cls:=.type "set",dict:=none,data:=.set #[] 0 (.fresh 0 0 led) }
noncomputable def Made (prog:Program) (w:World) (h:Heap) (items:Array Value) (val:Nat->List Int) (h':Heap):Prop:=(∃ L,cz prog w (fun c=>c < h.objs.size/\Value.ref c∈items.toList) h' h.objs.size L/\∀ x,x∈L ↔ ∃ j,j < items.size/\val j=x)/\∀ b o,b < h.objs.size->h.get? b=some o->h'.get? b=some o
set_option maxRecDepth 100000 in
set_option maxHeartbeats 3200000 in
theorem FP (a:Value) {Q:Value->Shared->Prop} (q:Q (.ref s.heap.objs.size) { s with heap:=s.heap.push (d9 (!byT w)) }) :
  codeAny (model prog w) A (.call (.builtin "set.__new__") ⟨[.type "set",a],[]⟩) (wants Q E) s:=by
 refine codeAny_of_tree (show wpAny _ A.in1 (do checkBuiltinCall "set.__new__" ⟨[.type "set",a],[]⟩; again (.builtin "set.__new__" ⟨[.type "set",a],[]⟩)) _ _ s from ?_)
 refine Za (Qc (F.newCall_set_1 a) (Zc ⟨QH F.plain_set_new _,XJ F.entry_set_new ?_⟩)); rw [Xx F.plain_set_new _]
 unfold Builtin.«set.__new__» Builtin.Frozenset.newClass; have hsub:=sub_set_self
 obtain ⟨hp,g,d,tk,os⟩:=s
 dsimp only; wp_walk
 refine QF (Zc ?_)
 dsimp only; simp only [newObj]
 refine Za (wpAny_alloc (Zc (Zc ?_)))
 exact q
set_option maxRecDepth 100000 in
set_option maxHeartbeats 3200000 in
theorem GU {l:Addr} {items:Array Value} {val:Nat->List Int} {Q:Value->Shared->Prop} (hu:A.units+4 < cLine) (hh:A.handled=none) (hl:s.heap.IsList l items) (ht:Dd prog w s.heap items val) (hb:items.size<=18)
  (q:∀ h' tk,Made prog w s.heap items val h'->Q (.ref s.heap.objs.size) { s with heap:=h',toks:=tk }):wpAny (model prog w) A (call (.type "set") [.ref l]) Q E s:=by
 obtain ⟨ka,kb,kc⟩:=F.called_set.mro; have kd:=F.called_set.made; have ke:=F.called_set.sub
 refine wpAny_call (codeAny_of_tree (show wpAny _ _ (callAny (.type "set") _) _ _ _ from ?_))
 refine Zc ⟨Code.quiet_builtin _ (by decide +kernel),XJ F.entry_type_call ?_⟩; rw [Around.under_plain (weight_type_call_type "set" [.ref l] []) rfl]
 have kf:=F.called_set.notType; have kg:=F.called_set.canCreate; have ki:=F.typeCall_set_1 (.ref l)
 repeat (any_goals (first|wp_step|assumption))
 refine Wb (FP (.ref l) (E:=E) (Q:=fun ob z=>∃ led:Bool,led=!byT w/\ob=.ref s.heap.objs.size/\z={ s with heap:=s.heap.push (d9 led) }) ⟨_,rfl,rfl,rfl⟩) fun r z hr=>?_
 cases r with
 | error e=>exact hr
 | ok fl =>
  cases fl with
  | ret ob =>
   obtain ⟨led,hled,rfl,rfl⟩:=hr
   have gS:(s.heap.push (d9 led)).get? s.heap.objs.size=some (d9 led):=Zw _ rfl
   have hT:Shared.TypeIs { s with heap:=s.heap.push (d9 led) } (.ref s.heap.objs.size) "set":=⟨_,gS,rfl⟩
   have kj:=F.called_set.init.lookup; have kk:=F.called_set.init.bind (.ref s.heap.objs.size)
   repeat (any_goals (first|wp_step|assumption))
   refine Wb (codeAny_call_builtin (R:=wants (fun r z=>r=.none/\∃ h' tk,z={ s with heap:=h',toks:=tk }/\Made prog w s.heap items val h') E) F.called_set.init.plain F.entry_set_init (check_set_init_1 hT ?_)) fun r2 z2 hr2=>?_
   ·obtain ⟨⟨oc,od,ot,os⟩,hol,hcl,nl,hdl⟩:=hl
    have hcl:oc=.type "list":=hcl; have hdl:ot=.seq items nl:=hdl
    subst hcl; subst hdl
    have hlt:l < s.heap.objs.size:=Zs hol
    have gl:(s.heap.push (d9 led)).get? l=some { cls:=.type "list",dict:=od,data:=.seq items nl,slots:=os }:=Zg _ hol
    have kl:=F.sub_list_set; have km:=F.sub_list_frozenset; have kn:(Value.type "list"==Value.type "dict")=false:=by decide
    have hl1:(s.heap.push (d9 led)).IsList l items:=⟨_,gl,rfl,nl,rfl⟩
    unfold Builtin.«set.__init__» noKeywords Builtin.Frozenset.updateFrom
    generalize hpi:pyIter=pit
    unfold d9 at *
    wp_walk
    subst hpi
    refine wpAny_pyIter_list hl1 (Za (wpAny_runValue ?_))
    have sz:((s.heap.push ({ cls:=.type "set",dict:=none,data:=.set #[] 0 (.fresh 0 0 led) }:Obj)).objs.size)=s.heap.objs.size+1:=Xk _ _
    have h3:A.in1.in1.in1.handled=none:=by simpa using hh
    have hI:l≠(s.heap.push ({ cls:=.type "set",dict:=none,data:=.set #[] 0 (.fresh 0 0 led) }:Obj)).objs.size:=by rw [sz]; exact ZH (XR hlt)
    refine Bk (by show A.units+1+1+1 < cLine; omega) ((Walks.list h3 _ l hI items).toS) s.heap.objs.size (fun c=>c < s.heap.objs.size/\Value.ref c∈items.toList) ?hS1 ?hwr (fun z=>absurd z.1 (XB _)) val hb ?hval (items.size - 0) 0 _ [] rfl (Xs _) ⟨⟨_,Zw _ rfl,rfl,rfl⟩,hl1.push _⟩ ?hT ?hL (Zk _) ?hP ?hR
    case hS1=>rw [sz]; intro z; rcases Zt.mp z with z|z; exact absurd z (ZH (Xw _)); exact absurd (ZV.mp z) (Qf hlt)
    case hwr=>intro b z q; rw [ZV.mp z,sz] at q; exact absurd q.1 (Nat.not_lt_of_le (QL _))
    case hval =>
     intro i v hv
     obtain ⟨c,e,o,items',m,h1,h2⟩:=ht i v hv
     exact ⟨c,e,Zs h1,Zy (by rw [<- e,ZT]; exact hv)⟩
    case hT=>rw [hled] at gS ⊢; exact cz.new (Zg _ gS)
    case hL=>intro x; constructor; (intro z; cases z); (rintro ⟨j,z,_⟩; omega)
    case hP =>
     intro i c hp
     obtain ⟨c',e,x⟩:=ht i _ hp
     cases e
     exact fC x fun o e=>Zg _ (Zg _ e)
    case hR =>
     rintro ⟨h',g',d',tk',os'⟩ L' hm h1 h2 _
     obtain rfl:g'=s.gens:=hm.gens
     obtain rfl:d'=s.drawn:=hm.drawn
     obtain rfl:os'=s.os:=hm.os
     refine Zc (Zc ⟨rfl,h',tk',rfl,⟨L',h1,h2⟩,fun b o hb' e=>?_⟩)
     refine hm.heap b o (fun z=>?_) (Zg _ (Zg _ e))
     rcases Zt.mp z with z|z
     ·exact absurd z (ZH hb')
     ·rw [ZV,sz] at z; exact absurd z (ZH (XR hb'))
   ·cases r2 with
    | error e=>exact hr2
    | ok fl2 =>
     cases fl2 with
     | ret r =>
      obtain ⟨rfl,h',tk,rfl,hm⟩:=hr2
      repeat (any_goals (first|wp_step|assumption))
      exact q _ _ hm
     | _=>exact hr2.elim
  | _=>exact hr.elim
end
end TB

namespace TB
open PySem PySem.SetTable
theorem Fq {α:Type} {l:List α} {i:Nat} (h:i < l.length):(l[i]::l.eraseIdx i).Perm l:=by
 rw [List.eraseIdx_eq_take_drop_succ]
 refine List.perm_middle.symm.trans ?_
 rw [<- Xi h,List.take_append_drop]
theorem nV {α:Type} (next:Nat->Nat):∀ (n k:Nat) (left:List α) (out:Array α),left.length=n->(pickOrder.go next n k left out).toList.Perm (out.toList++left)
 | 0,k,left,out,h=>by
  obtain rfl:=Qi.mp h
  unfold pickOrder.go
  rw [Xz]
 | n+1,k,left,out,h=>by
  have hi:next k % left.length < left.length:=Wd _ (by omega)
  unfold pickOrder.go
  rw [Zb hi]
  refine (nV next n (k+1) _ _ (by rw [List.length_eraseIdx_of_lt hi]; omega)).trans ?_
  rw [Array.toList_push,Zr]
  exact (Fq hi).append_left _
theorem E5 {α:Type} (next:Nat->Nat) (xs:Array α):(pickOrder next xs).toList.Perm xs.toList:=nV next xs.size 0 xs.toList #[] (ZD)
noncomputable def bU (w:World) (S:Addr) (ep:Nat) (es:Array (Int × Value)):Array (Int × Value):=if byT w=true then pickOrder (w.params.setOrder S ep) es else es
theorem nh (w:World) (S:Addr) (ep:Nat) (es:Array (Int × Value)):(bU w S ep es).toList.Perm es.toList:=by
 unfold bU
 split
 ·exact E5 _ _
 ·exact .refl _
theorem iW (w:World) (S:Addr) (ep:Nat) (es:Array (Int × Value)):(bU w S ep es).size=es.size:=by
 rw [<- ZD,(nh w S ep es).length_eq,ZD]
noncomputable def slotAt (w:World) (t:SetTable):Nat->Nat
 | 0=>0
 | i+1=>if byT w=true then 0 else t.place.getD i 0+1
noncomputable def mG (w:World) (S:Addr) (es:Array (Int × Value)) (ep:Nat) (t:SetTable) (i:Nat) (d:Option Addr) (sl:Array (Option Value)):Obj :=
 { cls:=.type "set_iterator",dict:=d,data:=.fields #[rawInt (slotAt w t i),rawInt i,.ref S,rawInt es.size,rawInt ep],slots:=sl }
section
variable {prog:Program} {w:World} {A:Around} {E:Value->Shared->Prop} {s:Shared} {I S:Addr} {o:Obj} {es:Array (Int × Value)} {ep:Nat} {t:SetTable}
structure Fix (w:World) (o:Obj) (es:Array (Int × Value)) (ep:Nat) (t:SetTable):Prop where
 data:o.data=.set es ep t
 good:Good t es
 plain:t.plain=true
 led:t.led=!byT w
 fit:es.size<=t.mask
theorem Hj (g:Good t es) {i:Nat} (hi:i<=es.size) (hb:byT w=false):below t.place (slotAt w t i)=i:=by
 have hsp:=lQ g.srt (slotAt w t i)
 cases i with
 | zero =>
  obtain ⟨h1,h2,h3⟩:=hsp
  rcases Nat.eq_zero_or_pos (below t.place (slotAt w t 0)) with z|z
  ·exact z
  ·have hlt:0 < t.place.size:=by omega
   exact absurd (h2 0 _ (Zp hlt) z) (Nat.not_lt_zero _)
 | succ i =>
  have hlt:i < t.place.size:=by rw [g.len]; omega
  have hg:t.place[i]?=some t.place[i]:=Zp hlt
  have e:slotAt w t (i+1)=t.place[i]+1:=by
   show (if byT w=true then 0 else t.place.getD i 0+1)=_
   rw [hb,Zf Zx,Xd,hg]; rfl
  rw [e] at hsp ⊢
  obtain ⟨h1,h2,h3⟩:=hsp
  rcases Ws (below t.place (t.place[i]+1)) (i+1) with z|z|z
  ·have:=h3 i _ hg (by omega); omega
  ·exact z
  ·have hlt2:i+1 < t.place.size:=by omega
   have hg2:t.place[i+1]?=some t.place[i+1]:=Zp hlt2
   have a:=h2 (i+1) _ hg2 z
   have b:=g.srt i (i+1) _ _ hg hg2 (Xw i)
   omega
theorem pW {i:Nat} {Q:Option (Value × Nat)->Shared->Prop} (ho:s.heap.get? S=some o) (X:Fix w o es ep t) (hi:i<=es.size)
  (q:Q (((bU w S ep es)[i]?).map fun e=>(e.2,slotAt w t (i+1))) s):wpAny (model prog w) A (setNext S (slotAt w t i) i ep) Q E s:=by
 have hf:=fE X.good X.fit
 unfold setNext setsByText
 refine Za (Xy ho X.data hf (Za (Za (QF (Zc ?_)))))
 dsimp only
 have hbt:(model prog w).w.params.followText "set-order" = byT w:=rfl
 cases hb:byT w with
 | true =>
  rw [hbt,hb]
  simp only [Xj,Qx,Zu,ZK]
  unfold setWalk setsByText
  refine Za (Za (Xy ho X.data hf (Za (Za (QF (Zc ?_))))))
  dsimp only
  rw [hbt,hb]
  simp only [Xj]
  refine Za (QF (Zc (Zc ?_)))
  have e:bU w S ep es=pickOrder (w.params.setOrder S ep) es:=by unfold bU; rw [hb]; rfl
  have e2:slotAt w t i=slotAt w t (i+1):=by cases i <;> (unfold slotAt; simp [hb])
  rw [e] at q
  rw [e2]
  exact q
 | false =>
  rw [hbt,hb]
  simp only [Zu,ZK]
  rw [Zf]
  rotate_left
  ·show ¬ ((!t.plain&&decide (es.size > 1))=true)
   rw [X.plain]; simp
  refine Za (Qc (a:=()) (show (if (!t.led&&!es.isEmpty)=true then _ else pure ())=pure () by rw [X.led,hb]; rfl) (Zc ?_))
  rw [Hj X.good hi hb]
  have e:bU w S ep es=es:=by unfold bU; rw [hb]; rfl
  rw [e] at q
  by_cases hlt:i < es.size
  ·have he:es[i]?=some es[i]:=Zp hlt
   have hl2:i < t.place.size:=by rw [X.good.len]; exact hlt
   have hp:t.place[i]?=some t.place[i]:=Zp hl2
   have e3:slotAt w t (i+1)=t.place[i]+1:=by
    show (if byT w=true then 0 else t.place.getD i 0+1)=_
    rw [hb,Zf Zx,Xd,hp]; rfl
   rw [he,e3] at q
   rw [he,hp]
   exact q
  ·have he:es[i]?=none:=XX (by omega)
   rw [he] at q
   rw [he]
   exact q
end
end TB

namespace TB
open PySem PySem.SetTable
section
variable {prog:Program} {w:World} {A:Around} {E:Value->Shared->Prop} {s:Shared} {I S:Addr} {o:Obj} {es:Array (Int × Value)} {ep:Nat} {t:SetTable}
noncomputable def AtI (w:World) (S:Addr) (es:Array (Int × Value)) (ep:Nat) (t:SetTable) (h:Heap) (I:Addr) (i:Nat):Prop:=∃ d sl,h.get? I=some (mG w S es ep t i d sl)
theorem AtI.type {i:Nat} (x:AtI w S es ep t s.heap I i):s.TypeIs (.ref I) "set_iterator":=let ⟨_,_,e⟩:=x; ⟨_,e,rfl⟩
theorem AN {i:Nat} {Q:Option Value->Shared->Prop} (x:AtI w S es ep t s.heap I i) (ho:s.heap.get? S=some o) (X:Fix w o es ep t) (hIS:S≠I) {e:Int × Value} (he:(bU w S ep es)[i]?=some e)
  (q:∀ h',AtI w S es ep t h' I (i+1)->Heap.SameBut I s.heap h'->Q (some e.2) { s with heap:=h' }):wpAny (model prog w) A (pyNext (.ref I)) Q E s:=by
 have hT:=x.type
 obtain ⟨d,sl,hi⟩:=x
 have hlt:i < es.size:=by rw [<- iW w S ep es]; exact (ZQ.mp he).1
 unfold pyNext
 refine Za (XT (ZS (name:=Str.ofString "__next__") hT f_ (ZP f_ hT t6 ?_ (qx _))))
 unfold Builtin.«set_iterator.__next__»
 refine Za (m:=slotArgs "__next__" 0 _) (Qc (a:=(.ref I,[])) rfl ?_)
 refine Za (wpAny_fieldsOf hi rfl ?_)
 dsimp only
 refine Za (wpAny_setEntries_of ho X.data (fE X.good X.fit) ?_)
 rw [show (((es.size:Int)) != (es.size:Int))=false from Qx _]
 simp only [Zu,ZK]
 rw [show rawInt (slotAt w t i)=Value.int (slotAt w t i) 0 from rfl]
 dsimp only
 rw [Z5,Z5,Z5]
 refine Za (pW ho X (Qe hlt) ?_)
 rw [he]
 dsimp only [Option.map]
 refine Za (Qd hi rfl (by simp) ?_)
 have h1:=Xb (h:=s.heap) (Obj.mapFields (·.setIfInBounds 0 (rawInt (slotAt w t (i+1))))) hi rfl
 refine Za (Qd h1 rfl (by simp) (Zc ⟨e.2,rfl,Zc (q _ ⟨d,sl,?_⟩ ?_)⟩))
 ·rw [Xb _ h1 rfl]
  rfl
 ·exact (Xa s.heap I _).trans (Xa _ I _)
theorem ye {i:Nat} {Q:Option Value->Shared->Prop} (hh:A.handled=none) (x:AtI w S es ep t s.heap I i) (ho:s.heap.get? S=some o) (X:Fix w o es ep t) (hi0:i=es.size)
  (q:∀ h',Heap.ExtBut I s.heap h'->Q none { s with heap:=h' }):wpAny (model prog w) A (pyNext (.ref I)) Q E s:=by
 have hT:=x.type
 obtain ⟨d,sl,hi⟩:=x
 have he:(bU w S ep es)[i]?=none:=XX (by rw [iW]; omega)
 unfold pyNext
 refine Za (XT (ZS (name:=Str.ofString "__next__") hT f_ (ZP f_ hT t6 ?_ (qx _))))
 unfold Builtin.«set_iterator.__next__»
 refine Za (m:=slotArgs "__next__" 0 _) (Qc (a:=(.ref I,[])) rfl ?_)
 refine Za (wpAny_fieldsOf hi rfl ?_)
 dsimp only
 refine Za (wpAny_setEntries_of ho X.data (fE X.good X.fit) ?_)
 rw [show (((es.size:Int)) != (es.size:Int))=false from Qx _]
 simp only [Zu,ZK]
 rw [show rawInt (slotAt w t i)=Value.int (slotAt w t i) 0 from rfl]
 dsimp only
 rw [Z5,Z5,Z5]
 refine Za (pW ho X (Nat.le_of_eq hi0) ?_)
 rw [he]
 dsimp only [Option.map]
 refine Za (Qd hi rfl (by simp) (Za ?_)); simp only [newExc,newTuple]
 refine Za (ZU (Za (m:=firstArgMember _ _) (Qc (a:=Value.none) (by first|rfl|(simp only [firstArgMember]; rfl)) (ZU ?_ (by size_fits)))) (by size_fits)); simp only [raiseNew]
 refine Za (wpAny_handled ?_); rw [show A.in1.handled=none from hh]
 refine Za (Zc (wpAny_throw ?_))
 refine Za (QE (T:="StopIteration") (b:=true) ⟨_,Zw _ rfl,rfl⟩ Wj (Zc (q _ ?_)))
 exact ((Xa s.heap I _).extBut.push _).push _
theorem A9 {i:Nat} {Q:Value->Shared->Prop} (x:AtI w S es ep t s.heap I i) (q:Q (.ref I) s):wpAny (model prog w) A (pyIter (.ref I)) Q E s :=
 Q0 x.type tP (ZP tP x.type Bj (show wpAny _ _ (ret (.ref I)) _ _ s from Zc ⟨_,rfl,"set_iterator",_,x.type,f_.lookup,q⟩) (E7 _))
theorem HK (hh:A.handled=none) (X:Fix w o es ep t) (hIS:S≠I) :
  Walks prog w A I [I,S] [I] es.size (fun i v=>∃ e,(bU w S ep es)[i]?=some e/\v=e.2) (fun i h=>AtI w S es ep t h I i/\h.get? S=some o) where
 sub:=fun b hb=>by rw [ZV.mp hb]; exact Zn
 frame:=fun i h h' ⟨⟨d,sl,a⟩,b⟩ k=>⟨⟨d,sl,k I Zn _ a⟩,k S (Zm _ Zn) _ b⟩
 item:=fun i s Q E hi ⟨a,b⟩ k=>by
  have hw:i < (bU w S ep es).size:=by rw [iW]; exact hi
  exact AN a b X hIS (Zp hw) fun h' x sb=>k _ h' s.toks ⟨_,Zp hw,rfl⟩ ⟨x,(sb.2 S hIS).trans b⟩ fun c oc hc ec=>(sb.2 c fun z=>hc (by rw [z]; exact Zn)).trans ec
 done:=fun s Q E ⟨a,b⟩ k=>ye hh a b X rfl fun h' eb=>k h' s.toks fun c oc hc ec=>eb c oc (fun z=>hc (by rw [z]; exact Zn)) ec
 self:=fun i s Q E ⟨a,b⟩ k=>A9 a k
theorem zZ {Q:Value->Shared->Prop} (ho:s.heap.get? S=some o) (hex:o.ExactSet) (X:Fix w o es ep t)
  (q:∀ h',h'=s.heap.push (mG w S es ep t 0 none #[])->Q (.ref s.heap.objs.size) { s with heap:=h' }):wpAny (model prog w) A (pyIter (.ref S)) Q E s:=by
 have hT:s.TypeIs (.ref S) "set":=⟨o,ho,hex.1⟩
 have hf:=fE X.good X.fit
 refine Q0 hT F.slot_set_iter (ZP F.slot_set_iter hT A7 ?_ (F.args_set_iter_1 _))
 unfold Builtin.«frozenset.__iter__»
 refine Za (m:=Builtin.Frozenset.slot0 "__iter__" _) (Qc (a:=S) rfl ?_)
 unfold Builtin.Frozenset.sizeOf
 refine Za (Za (wpAny_setEntries_of ho X.data hf (Zc ?_)))
 unfold setDrawn setsByText
 refine Za (Za (Xy ho X.data hf (Za (Za (QF (Zc (Zc ?_)))))))
 dsimp only
 have hdr:∀ b:Bool,(b&&(!t.plain&&decide (es.size > 1)))=false:=fun b=>by rw [X.plain]; cases b <;> rfl
 rw [Zf]
 rotate_left
 ·show ¬ ((!_&&(!t.plain&&decide (es.size > 1)))=true)
  rw [hdr]; exact Zx
 refine Za (Zc ?_)
 refine Za (wpAny_setEpoch_of ho X.data hf ?_)
 refine Za (ZU (Zc ⟨_,rfl,"set_iterator",_,⟨_,Zw _ rfl,rfl⟩,f_.lookup,?_⟩))
 exact q _ rfl
end
end TB

namespace TB
open PySem PySem.SetTable
theorem E8:splitId "set.__len__" = some ("set","__len__"):=by decide +kernel
section
variable {prog:Program} {w:World} {A:Around} {E:Value->Shared->Prop} {s:Shared} {S:Addr} {o:Obj} {es:Array (Int × Value)} {ep:Nat} {t:SetTable}
theorem yX {Q:Bool->Shared->Prop} (hT:s.TypeIs (.ref S) "set") (q:Q false s):wpAny (model prog w) A (Builtin.List.listLengthHint (.ref S)) Q E s:=by
 unfold Builtin.List.listLengthHint
 refine Za (wpAny_specialOf hT F.slot_set_len.lookup ?_)
 dsimp only
 rw [E8]
 dsimp only
 refine Za (QE hT sub_set_self ?_)
 simp only [X7,Zu,ZK]
 rw [Ze]
 rotate_left
 ·show (_:Bool)=true
  decide +kernel
 refine Za (Wc hT ?_)
 exact Zc q
theorem Ay {Q:List Value->Shared->Prop} (hh:A.handled=none) (ho:s.heap.get? S=some o) (hex:o.ExactSet) (X:Fix w o es ep t)
  (q:∀ h' tk,s.heap.objs.size < h'.objs.size->(∀ b oc,b < s.heap.objs.size->s.heap.get? b=some oc->h'.get? b=some oc)->Q ((bU w S ep es).toList.map (·.2)) { s with heap:=h',toks:=tk }):wpAny (model prog w) A (collect (.ref S)) Q E s:=by
 have hSl:S < s.heap.objs.size:=Zs ho
 unfold collect
 refine Za (wpAny_runValue (XJ F.entry_proto_collect ?_)); rw [Xx F.plain_proto_collect _]
 refine Za (show wpAny _ A.in1 (newList []) _ _ s from ZU ?_)
 refine Zc ⟨QH F.plain_list_iadd _,XJ F.entry_list_iadd ?_⟩; rw [Xx F.plain_list_iadd _]
 generalize hob:({ cls:=.type "list",data:=.seq ([]:List Value).toArray }:Obj)=ob
 have g1:(s.heap.push ob).get? S=some o:=Zg _ ho
 have gL:(s.heap.push ob).get? s.heap.objs.size=some ob:=Zw _ (by rw [<- hob]; rfl)
 have hT:Shared.TypeIs { s with heap:=s.heap.push ob } (.ref S) "set":=⟨o,g1,hex.1⟩
 show wpAny _ A.in1 (Builtin.List.listExtendWith (.ref s.heap.objs.size) (.ref S) (.ref s.heap.objs.size)) _ _ { s with heap:=s.heap.push ob }
 unfold Builtin.List.listExtendWith
 refine Za (Wc hT ?_)
 have n1:Builtin.List.listSameRef (.ref s.heap.objs.size) (.ref S)=false:=by
  show (s.heap.objs.size==S)=false
  exact Qr (Qf hSl)
 rw [n1,show (Value.type "set"==Value.type "list")=false by decide,show (Value.type "set"==Value.type "tuple")=false by decide]
 simp only [Bool.or_false,Zu,ZK]
 refine Za (zZ (s:={ s with heap:=s.heap.push ob }) g1 hex X fun h2 e2=>?_)
 have k2:∀ b oc,(s.heap.push ob).get? b=some oc->h2.get? b=some oc:=fun b oc e=>by rw [e2]; exact Zg _ e
 refine Za (XC (yX (s:={ s with heap:=h2 }) ⟨o,k2 _ _ g1,hex.1⟩ ?_))
 rw [Ze]
 rotate_left
 ·show (_:Bool)=true
  decide +kernel
 refine Za (QW ?_)
 have sz:(s.heap.push ob).objs.size=s.heap.objs.size+1:=Xk _ _
 have gI:h2.get? (s.heap.push ob).objs.size=some (mG w S es ep t 0 none #[]):=by rw [e2]; exact Zw _ rfl
 have gL2:h2.get? s.heap.objs.size=some { cls:=.type "list",data:=.seq ([]:List Value).toArray }:=by rw [hob]; exact k2 _ _ gL
 refine Za (show wpAny _ A.in1 (updateSeq s.heap.objs.size (·.push .none)>>=fun _=>updateSeq s.heap.objs.size (·.pop)) _ _ _ from ?_)
 refine Za (wpAny_updateSeq gL2 rfl ?_)
 have gL3:=Xb (Obj.mapSeq (·.push Value.none)) gL2 rfl
 refine wpAny_updateSeq gL3 rfl ?_
 have gL4:=Xb (Obj.mapSeq (·.pop)) gL3 rfl
 have k4:∀ b oc,b≠s.heap.objs.size->h2.get? b=some oc->((h2.update s.heap.objs.size (Obj.mapSeq (·.push Value.none))).update s.heap.objs.size (Obj.mapSeq (·.pop))).get? b=some oc :=
  fun b oc hb e=>(Qu _ _ (Ne.symm hb)).trans ((Qu _ _ (Ne.symm hb)).trans e)
 generalize ((h2.update s.heap.objs.size (Obj.mapSeq (·.push Value.none))).update s.heap.objs.size (Obj.mapSeq (·.pop)))=h4 at gL4 k4
 have hSI:S≠(s.heap.push ob).objs.size:=by rw [sz]; exact ZH (XR hSl)
 have hh2:A.in1.in1.handled=none:=by simpa using hh
 have hh1:A.in1.handled=none:=by simpa using hh
 have hLf:s.heap.objs.size ∉ [(s.heap.push ob).objs.size,S]:=fun z=>by
  rcases Zt.mp z with z|z
  ·rw [sz] at z; exact absurd z (ZH (Xw _))
  ·exact absurd (ZV.mp z) (Qf hSl)
 have hn:es.size<=sizeLine:=by rw [Qb]; have:=X.fit; rcases X.good.msk with z|z <;> omega
 refine Zc ⟨QH F.plain_extend_loop _,codeAny_extend_loopS (HK (I:=(s.heap.push ob).objs.size) hh1 X hSI).toS hn _ hLf _ es.size 0 _ _ _ rfl (Xs _)
  ⟨⟨_,_,k4 _ _ (by rw [sz]; exact Qf (Xw _)) gI⟩,k4 S _ (ZH hSl) (k2 _ _ g1)⟩ gL4 (ItemsOf.nil _) fun z acc c hm hz hacc=>?_⟩
 obtain ⟨h',g',d',tk',os'⟩:=z
 obtain rfl:g'=s.gens:=hm.gens
 obtain rfl:d'=s.drawn:=hm.drawn
 obtain rfl:os'=s.os:=hm.os
 refine Za (wpAny_load hz (Zc ?_))
 have hacc':acc.toList=(bU w S ep es).toList.map (·.2):=by
  refine Q2 fun j=>?_
  rw [ZT,ZM,ZT]
  by_cases hj:j < es.size
  ·have hj2:j < acc.size:=by rw [hacc.1]; exact hj
   have ha:acc[j]?=some acc[j]:=Zp hj2
   obtain ⟨e,q1,q2⟩:=hacc.2 j _ ha
   rw [ha,q1,q2]; rfl
  ·rw [XX (by rw [hacc.1]; omega),XX (by rw [iW]; omega)]; rfl
 show Q acc.toList _
 rw [hacc']
 refine q h' tk' (Zs hz) fun b oc hb e=>hm.heap b oc (fun z=>?_) (k4 b oc (ZH hb) (k2 _ _ (Zg _ e)))
 rcases Zt.mp z with z|z
 ·exact absurd z (ZH hb)
 ·rw [ZV,sz] at z; exact absurd z (ZH (XR hb))
end
end TB

namespace TB
open PySem PyProof.Rows
noncomputable def ay:List Int->List Int->Bool
 | [],[]=>false
 | [],_::_=>true
 | _::_,[]=>false
 | a::r,b::q=>if a=b then ay r q else decide (a < b)
section
variable {prog:Program} {w:World} {A:Around} {E:Value->Shared->Prop} {s:Shared}
theorem yU {k:Bool} {a b:Int} {t u:Tok} {Q:Bool->Shared->Prop} (q:Q (decide (a < b)) s):wpAny (model prog w) A (oneLt' k (.int a t) (.int b u)) Q E s:=by
 cases k with
 | true=>exact oneLt_int q
 | false =>
  rw [oneLt'_eq]
  simp only [Zu,ZK]
  exact Za (wpAny_lt_int (Xe q))
theorem HZ (k:Bool) (x y:Value):keyLt' (tuples' k) x y=(do
  let xs <- Builtin.List.listItems x; let ys <- Builtin.List.listItems y
  for ((p,q),i) in (xs.toList.zip ys.toList).zipIdx do
   if !(<- eqBool p q) then return <- oneLt' (k&&i==0) p q
  return xs.size < ys.size):=rfl
theorem EK {k:Bool} {ks js:List Int} {x y:Addr} {Q:Bool->Shared->Prop} (hx:TK prog w s.heap ks x) (hy:TK prog w s.heap js y) (q:Q (ay ks js) s):wpAny (model prog w) A (keyLt' (tuples' k) (.ref x) (.ref y)) Q E s:=by
 obtain ⟨ox,xs,nx,hox,_,hdx,hix⟩:=hx
 obtain ⟨oy,ys,ny,hoy,_,hdy,hiy⟩:=hy
 rw [HZ]
 refine Za (listItems_at hox hdx (Za (listItems_at hoy hdy (Za ?_))))
 refine QD _ (fun rest r z=>r.1=none/\z=s/\∃ ks' js' xs' ys' n,rest=(xs'.zip ys').zipIdx n/\ItemsAre (intKind prog w) ks' xs'/\ItemsAre (intKind prog w) js' ys'/\ay ks' js'=ay ks js/\decide (xs'.length < ys'.length)=decide (xs.size < ys.size)) _ ?_ ?_ _ _
  ⟨rfl,rfl,ks,js,xs.toList,ys.toList,0,rfl,hix,hiy,rfl,by rw [ZD,ZD]⟩
 ·rintro ⟨⟨u,v⟩,i⟩ rest r z ⟨hr,rfl,ks',js',xs',ys',n,hz,h1,h2,hl,hs⟩
  cases h1 with
  | nil=>simp at hz
  | @cons a u' ks2 xs2 ha h1 =>
   cases h2 with
   | nil=>simp at hz
   | @cons b v' js2 ys2 hb h2 =>
    simp only [List.zip_cons_cons,List.zipIdx_cons,List.cons.injEq,Prod.mk.injEq] at hz
    obtain ⟨⟨⟨rfl,rfl⟩,rfl⟩,rfl⟩:=hz
    refine Za ((intKind prog w).eqBool ha hb ?_)
    obtain ⟨t,rfl⟩:=Qv ha
    obtain ⟨t',rfl⟩:=Qv hb
    by_cases e:a=b
    ·subst e
     rw [Zj rfl]
     simp only [X7,Zu,ZK]
     refine Zc ⟨rfl,rfl,ks2,js2,xs2,ys2,i+1,rfl,h1,h2,?_,?_⟩
     ·rw [<- hl,ay,Ze rfl]
     ·rw [<- hs]; simp
    ·rw [Zz e]
     simp only [Bool.not_false,Xj]
     have e2:ay ks js=decide (a < b):=by rw [<- hl,ay,Zf e]
     rw [e2] at q
     exact Za (yU (Zc (Zc q)))
 ·rintro ⟨r1,r2⟩ z ⟨hr,rfl,ks',js',xs',ys',n,hz,h1,h2,hl,hs⟩
  have hr:r1=none:=hr
  subst hr
  have e:ay ks js=decide (xs.size < ys.size):=by
   rw [<- hl,<- hs]
   cases h1 with
   | nil=>cases h2 with
    | nil=>rfl
    | cons _ _=>rfl
   | cons _ _=>cases h2 with
    | nil=>rfl
    | cons _ _=>simp at hz
  rw [e] at q
  exact Zc q
theorem GR {ks:List Int} {c:Addr} {Q:Option Value->Shared->Prop} (hk:TK prog w s.heap ks c) (hne:ks≠[]) (q:∀ i t,Q (some (.int i t)) s):wpAny (model prog w) A (firstOfTuple' (.ref c)) Q E s:=by
 obtain ⟨o,items,n,ho,hc,hd,hi⟩:=hk
 show wpAny _ _ (typeOf (.ref c)>>=_) _ _ s
 refine Za (wpAny_typeOf_ref ho ?_)
 rw [hc]
 rw [Zf (by simp)]
 refine Za (listItems_at ho hd (Zc ?_))
 cases hv:items.toList with
 | nil=>rw [hv] at hi; cases hi; exact absurd rfl hne
 | cons v r =>
  rw [hv] at hi
  cases hi with
  | @cons k _ _ _ h1 _ =>
   obtain ⟨t,rfl⟩:=Qv h1
   have e:items[0]?=some (Value.int k t):=by rw [<- ZT,hv]; rfl
   rw [e]
   exact q _ _
theorem vP:∀ {vs:List Value} {Q:List (Option Value)->Shared->Prop},(∀ v∈vs,∃ ks c,v=.ref c/\TK prog w s.heap ks c/\ks≠[])->(∀ l:List (Int × Tok),l.length=vs.length->Q (l.map fun p=>some (.int p.1 p.2)) s) ->
  wpAny (model prog w) A (vs.mapM firstOfTuple') Q E s
 | [],Q,_,q=>by
  rw [List.mapM_nil]
  exact Zc (q [] rfl)
 | v::vs,Q,hv,q=>by
  obtain ⟨ks,c,rfl,hk,hne⟩:=hv v Zn
  rw [List.mapM_cons]
  refine Za (GR hk hne fun i t=>Za (vP (vs:=vs) (fun u hu=>hv u (Zm _ hu)) fun l hl=>Zc ?_))
  exact q ((i,t)::l) (by rw [ZB,ZB,hl])
theorem sC:∀ l:List (Int × Tok),(l.map fun p=>Value.int p.1 p.2).mapM typeOf=(pure (l.map fun _=>Value.type "int"):Sem (List Value))
 | []=>by simp
 | p::l=>by
  rw [ZF,List.mapM_cons,sC l]
  show (pure (Value.type "int")>>=fun b=>pure _>>=fun bs=>pure (b::bs))=_
  simp
theorem Ez {vs:List Value} {Q:SortKind->Shared->Prop} (hne:vs≠[]) (hv:∀ v∈vs,∃ ks c,v=.ref c/\TK prog w s.heap ks c/\ks≠[]) (q:Q (tuples' true) s):wpAny (model prog w) A (keyKind' vs.toArray) Q E s:=by
 rw [keyKind'_eq,List.mapM_toArray]
 refine Za ?_
 rw [map_eq_pure_bind]
 refine Za (vP hv fun l hl=>Zc ?_)
 rw [Ze (by simp)]
 refine Za (QW ?_)
 have e:((l.map fun p=>some (Value.int p.1 p.2)).toArray.filterMap id)=(l.map fun p=>Value.int p.1 p.2).toArray:=by simp
 rw [e,oneTypeOnly'_eq,List.mapM_toArray,sC]
 simp only [map_pure,pure_bind]
 obtain ⟨p,r,rfl⟩:∃ p r,l=p::r:=QI fun z=>hne (Qi.mp (by rw [<- hl,z]; rfl))
 have h0:(List.map (fun _=>Value.type "int") (p::r)).toArray[0]?=some (Value.type "int"):=rfl
 have ha:((List.map (fun _=>Value.type "int") (p::r)).toArray.all fun x=>x==Value.type "int")=true:=by
  rw [List.all_toArray,Wv,Z8]; intro _ _; rfl
 rw [h0]
 simp only [ha,Xj,pure_bind]
 exact Zc q
end
end TB

namespace TB
open PySem PyProof.Rows
theorem lex_irrefl:∀ a,ay a a=false
 | []=>rfl
 | a::r=>by rw [ay,Ze rfl,lex_irrefl r]
theorem lex_trans:∀ a b c,ay a b=true->ay b c=true->ay a c=true
 | [],[],c,h,_=>by cases h
 | [],_::_,[],_,h=>by cases h
 | [],_::_,_::_,_,_=>rfl
 | _::_,[],_,h,_=>by cases h
 | _::_,_::_,[],_,h=>by cases h
 | a::r,b::q,c::p,h1,h2=>by
  rw [ay] at h1 h2 ⊢
  by_cases e1:a=b
  ·subst e1
   rw [Ze rfl] at h1
   by_cases e2:a=c
   ·subst e2; rw [Ze rfl] at h2 ⊢; exact lex_trans r q p h1 h2
   ·rw [Zf e2] at h2 ⊢; exact h2
  ·rw [Zf e1] at h1
   have h1:=Zo h1
   by_cases e2:b=c
   ·subst e2; rw [Zf e1]; exact Zj h1
   ·rw [Zf e2] at h2
    have h2:=Zo h2
    rw [Zf (by omega)]; exact Zj (by omega)
theorem jQ:∀ a b,ay a b=false->ay b a=false->a=b
 | [],[],_,_=>rfl
 | [],_::_,h,_=>by cases h
 | _::_,[],_,h=>by cases h
 | a::r,b::q,h1,h2=>by
  rw [ay] at h1 h2
  by_cases e:a=b
  ·subst e; rw [Ze rfl] at h1 h2; rw [jQ r q h1 h2]
  ·rw [Zf e] at h1; rw [Zf (Ne.symm e)] at h2
   have h1:=Wn h1
   have h2:=Wn h2
   omega
theorem Ar (a b c:List Int) (h:ay a c=true):ay a b=true\/ay b c=true:=by
 cases h1:ay a b with
 | true=>exact .inl rfl
 | false =>
  cases h2:ay b a with
  | true=>exact .inr (lex_trans b a c h2 h)
  | false=>rw [<- jQ a b h1 h2]; exact .inr h
noncomputable def kT (key:Value->List Int):PyProof.Rows.KeyKind:={ α:=List Int,blt:=ay,irrefl:=lex_irrefl,trans:=lex_trans,negTrans:=Ar,total:=jQ,keyOf:=fun v=>some (key v),dflt:=[] }
noncomputable def at' (key:Value->List Int) (xs:Array Keyed) (i:Nat):List Int:=KK (kT key) xs i
theorem gT {key:Value->List Int} {xs:Array Keyed} {i:Nat} {p:Keyed} (h:xs[i]?=some p):at' key xs i=key p.1:=by unfold at' KK; rw [h]; rfl
structure Bas (key:Value->List Int) (a0:Array Keyed) (z:SortSt):Prop where
 perm:(arrOf z).Perm a0
 kind:kindOf z=tuples' true
 fail:failedOf z=none
 pend:pendingOf z=#[]
noncomputable def Diff (key:Value->List Int) (xs:Array Keyed):Prop:=(xs.toList.map fun p=>key p.1).Nodup
theorem Diff.perm {key:Value->List Int} {xs ys:Array Keyed} (p:xs.Perm ys) (d:Diff key ys):Diff key xs:=(((QJ.mp p).map _).nodup_iff).mpr d
theorem Diff.ne {key:Value->List Int} {xs:Array Keyed} (d:Diff key xs) {i j:Nat} (hi:i < xs.size) (hj:j < xs.size) (hij:i≠j):at' key xs i≠at' key xs j:=by
 intro e
 have ei:xs[i]?=some xs[i]:=Zp hi
 have ej:xs[j]?=some xs[j]:=Zp hj
 rw [gT ei,gT ej] at e
 have hl:(xs.toList.map fun p=>key p.1).length=xs.size:=by rw [Zd,ZD]
 have gi:(xs.toList.map fun p=>key p.1)[i]'(by omega)=key xs[i].1:=by rw [QG,XL]
 have gj:(xs.toList.map fun p=>key p.1)[j]'(by omega)=key xs[j].1:=by rw [QG,XL]
 have:=Qa.mp d
 rcases Nat.lt_or_gt_of_ne hij with z|z
 ·exact this i j (by omega) (by omega) z (by rw [gi,gj]; exact e)
 ·exact this j i (by omega) (by omega) z (by rw [gi,gj]; exact e.symm)
theorem Diff.or {key:Value->List Int} {xs:Array Keyed} (d:Diff key xs) {i j:Nat} (hi:i < xs.size) (hj:j < xs.size) (hij:i≠j) (h:ay (at' key xs i) (at' key xs j)=false):ay (at' key xs j) (at' key xs i)=true:=by
 cases q:ay (at' key xs j) (at' key xs i) with
 | true=>rfl
 | false=>exact absurd (jQ _ _ h q) (d.ne hi hj hij)
noncomputable def Up (key:Value->List Int) (xs:Array Keyed) (n:Nat):Prop:=∀ i j,i < j->j < n->ay (at' key xs i) (at' key xs j)=true
noncomputable def Down (key:Value->List Int) (xs:Array Keyed) (n:Nat):Prop:=∀ i j,i < j->j < n->ay (at' key xs j) (at' key xs i)=true
theorem Up.more {key:Value->List Int} {xs:Array Keyed} {n:Nat} (u:Up key xs n) (hn:1<=n) (h:ay (at' key xs (n - 1)) (at' key xs n)=true):Up key xs (n+1):=fun i j hij hj=>by
 by_cases z:j < n
 ·exact u i j hij z
 ·obtain rfl:j=n:=by omega
  by_cases y:i=j - 1
  ·subst y; exact h
  ·exact lex_trans _ _ _ (u i (j - 1) (by omega) (by omega)) h
theorem Down.more {key:Value->List Int} {xs:Array Keyed} {n:Nat} (u:Down key xs n) (hn:1<=n) (h:ay (at' key xs n) (at' key xs (n - 1))=true):Down key xs (n+1):=fun i j hij hj=>by
 by_cases z:j < n
 ·exact u i j hij z
 ·obtain rfl:j=n:=by omega
  by_cases y:i=j - 1
  ·subst y; exact h
  ·exact lex_trans _ _ _ h (u i (j - 1) (by omega) (by omega))
section
variable {prog:Program} {w:World} {A:Around} {E:Value->Shared->Prop} {s:Shared} {a0:Array Keyed} {key:Value->List Int}
noncomputable def Cmp (prog:Program) (w:World) (A:Around) (s:Shared) (key:Value->List Int) (a0:Array Keyed):Prop:=∀ (E:Value->Shared->Prop) (x y:Keyed) (Q:Bool->Shared->Prop),x∈a0.toList->y∈a0.toList->Q (ay (key x.1) (key y.1)) s->wpAny (model prog w) A (keyLt' (tuples' true) x.1 y.1) Q E s
theorem gX {z:SortSt} {i j:Nat} {Q:Option Bool->SortSt->Prop} (C:Cmp prog w A s key a0) (B:Bas key a0 z) (hi:i < a0.size) (hj:j < a0.size) (q:Q (some (ay (at' key (arrOf z) i) (at' key (arrOf z) j))) z) :
  wpS (model prog w) A E s (ltAt' i j) Q z:=by
 have sz:=B.perm.size_eq
 have hi':i < (arrOf z).size:=by omega
 have hj':j < (arrOf z).size:=by omega
 have ei:(arrOf z)[i]?=some (arrOf z)[i]:=Zp hi'
 have ej:(arrOf z)[j]?=some (arrOf z)[j]:=Zp hj'
 have mem:∀ (k:Nat) (hk:k < (arrOf z).size),(arrOf z)[k]∈a0.toList:=fun k hk=>(QJ.mp B.perm).mem_iff.mp (by simp)
 rw [gT ei,gT ej] at q
 rw [ltAt'_eq]
 refine ZX (wpS_get (ZX ?_)); rw [elem'_eq,ei]
 refine Xn (ZX ?_); rw [elem'_eq,ej]
 refine Xn ?_; rw [lt'_eq]
 refine ZX (wpS_get (ZX ?_)); rw [B.kind]
 exact wpS_lift (XT (C _ _ _ _ (mem i hi') (mem j hj') ⟨rfl,Xn q⟩))
theorem pU {z:SortSt} {a n:Nat} {Q:AscSt->SortSt->Prop} (C:Cmp prog w A s key a0) (B:Bas key a0 z) (D:Diff key a0) (hn:n<=a0.size) (ha:1<=a) (han:a<=n) (u:Up key (arrOf z) a)
  (q:∀ m,a<=m->m<=n->Up key (arrOf z) m->(m=n\/ay (at' key (arrOf z) m) (at' key (arrOf z) (m - 1))=true)->Q (none,m) z):wpS (model prog w) A E s (ascLoop a n) Q z:=by
 have sz:=B.perm.size_eq
 have D':=D.perm B.perm
 unfold ascLoop
 refine QT (fun x c y=>y=z/\c=(none,x)/\Up key (arrOf z) x) (fun x c y h1 h2=>?_) (fun c y=>?_) ⟨rfl,rfl,u⟩
 ·rintro ⟨rfl,rfl,ux⟩
  refine ZX (gX C B (by omega) (by omega) ?_)
  cases hb:ay (at' key (arrOf y) x) (at' key (arrOf y) (x - 1)) with
  | true=>exact Xn (q x h1 (by omega) ux (.inr hb))
  | false=>exact Xn ⟨rfl,rfl,ux.more (by omega) (D'.or (by omega) (by omega) (by omega) hb)⟩
 ·rintro ⟨rfl,rfl,ux⟩
  rw [show max a n=n by omega] at ux ⊢
  exact q n han (Zk n) ux (.inl rfl)
theorem Fc {z:SortSt} {a n:Nat} {Q:DescSt->SortSt->Prop} (C:Cmp prog w A s key a0) (B:Bas key a0 z) (D:Diff key a0) (hn:n<=a0.size) (ha:1<=a) (han:a<=n) (u:Down key (arrOf z) a)
  (q:∀ m,a<=m->m<=n->Down key (arrOf z) m->Q (none,m,0) z):wpS (model prog w) A E s (descLoop a n) Q z:=by
 have sz:=B.perm.size_eq
 have D':=D.perm B.perm
 unfold descLoop
 refine QT (fun x c y=>y=z/\c=(none,x,0)/\Down key (arrOf z) x) (fun x c y h1 h2=>?_) (fun c y=>?_) ⟨rfl,rfl,u⟩
 ·rintro ⟨rfl,rfl,ux⟩
  dsimp only
  refine ZX (gX C B (by omega) (by omega) ?_)
  cases hb:ay (at' key (arrOf y) x) (at' key (arrOf y) (x - 1)) with
  | true=>exact Xn ⟨rfl,rfl,ux.more (by omega) hb⟩
  | false =>
   refine ZX (gX C B (by omega) (by omega) ?_)
   rw [D'.or (by omega) (by omega) (by omega) hb]
   exact Xn (q x h1 (by omega) ux)
 ·rintro ⟨rfl,rfl,ux⟩
  rw [show max a n=n by omega] at ux ⊢
  exact q n han (Zk n) ux
theorem Bas.put {z:SortSt} (B:Bas key a0 z) {xs:Array Keyed} (p:xs.Perm (arrOf z)):Bas key a0 (setArr z xs):=⟨p.trans B.perm,B.kind,B.fail,B.pend⟩
theorem D5 {z:SortSt} {m n:Nat} {Q:Option Nat->SortSt->Prop} (C:Cmp prog w A s key a0) (B:Bas key a0 z) (D:Diff key a0) (hn:n<=a0.size) (hm:1<=m) (hmn:m<=n) (u:Down key (arrOf z) m)
  (q:∀ k y,Bas key a0 y->1<=k->k<=n->Up key (arrOf y) k->Q (some k) y):wpS (model prog w) A E s (tail3 m n) Q z:=by
 have sz:=B.perm.size_eq
 unfold tail3
 refine ZX (wpS_reverse ?_)
 have B':Bas key a0 (setArr z (mirror (arrOf z) 0 m ((m - 0) / 2))):=B.put (mirror_perm _ _ _ _)
 have hz:m<=(arrOf z).size:=by omega
 refine ZX (pU C B' D hn hm hmn (fun i j hij hj=>?_) fun k h1 h2 h3 _=>Xn (q k _ B' (by omega) h2 h3))
 show ay (KK (kT key) (mirror (arrOf z) 0 m ((m - 0) / 2)) i) (KK (kT key) (mirror (arrOf z) 0 m ((m - 0) / 2)) j)=true
 rw [KK_mirror hz,KK_mirror hz,Ze ⟨Xs _,by omega⟩,Ze ⟨Xs _,hj⟩]
 exact u _ _ (by omega) (by omega)
theorem Ej {z:SortSt} {n:Nat} {Q:Option Nat->SortSt->Prop} (C:Cmp prog w A s key a0) (B:Bas key a0 z) (D:Diff key a0) (hn:n<=a0.size) (h1:1<=n)
  (q:∀ k y,Bas key a0 y->1<=k->k<=n->Up key (arrOf y) k->Q (some k) y):wpS (model prog w) A E s (countRun' 0 n) Q z:=by
 rw [countRun0_eq]
 refine ZX (pU C B D hn (Zk 1) h1 (fun i j a b=>by omega) fun m hm1 hm2 um hor=>?_)
 dsimp only
 by_cases e:m=n
 ·rw [Ze (by simpa using e)]; exact Xn (q m z B hm1 hm2 um)
 rw [Zf (by simpa using e)]
 have hlt:=hor.resolve_left e
 by_cases g:m > 1
 ·rw [Ze g]
  refine ZX (gX C B (by omega) (by omega) ?_)
  rw [um 0 (m - 1) (by omega) (by omega)]
  exact Xn (q m z B hm1 hm2 um)
 ·rw [Zf g]
  obtain rfl:m=1:=by omega
  unfold descPart
  refine ZX (wpS_lift (QW ⟨rfl,ZX ?_⟩))
  refine Fc C B D hn (by decide) (by omega) (fun i j a b=>?_) fun k k1 k2 k3=>?_
  ·obtain rfl:i=0:=by omega
   obtain rfl:j=1:=by omega
   exact hlt
  ·show wpS _ _ _ _ (tail3 k n) Q z
   exact D5 C B D hn (by omega) k2 k3 q
end
end TB

namespace TB
open PySem PyProof.Rows
section
variable {prog:Program} {w:World} {A:Around} {E:Value->Shared->Prop} {s:Shared} {a0:Array Keyed} {key:Value->List Int}
theorem zW {z:SortSt} {k l:Nat} (hk:k < (arrOf z).size) (hl:l<=k) (u:Up key (arrOf z) k) (lo:∀ i,i < l->ay (at' key (arrOf z) i) (at' key (arrOf z) k)=true) (hi:∀ i,l<=i->i < k->ay (at' key (arrOf z) k) (at' key (arrOf z) i)=true) :
  Up key (bubble (arrOf z) k (k - l)) (k+1):=fun i j hij hj=>by
 show ay (KK (kT key) (bubble (arrOf z) k (k - l)) i) (KK (kT key) (bubble (arrOf z) k (k - l)) j)=true
 rw [KK_bubble hk (by omega),KK_bubble hk (by omega),show k - (k - l)=l by omega]
 have u:∀ i j,i < j->j < k->ay (KK (kT key) (arrOf z) i) (KK (kT key) (arrOf z) j)=true:=u
 have lo:∀ i,i < l->ay (KK (kT key) (arrOf z) i) (KK (kT key) (arrOf z) k)=true:=lo
 have hi:∀ i,l<=i->i < k->ay (KK (kT key) (arrOf z) k) (KK (kT key) (arrOf z) i)=true:=hi
 repeat' split
 all_goals first
  | (exfalso; omega)
  | exact lo _ (by omega)
  | exact hi _ (by omega) (by omega)
  | exact u _ _ (by omega) (by omega)
theorem Dn {z:SortSt} {n ok:Nat} {Q:Bool->SortSt->Prop} (C:Cmp prog w A s key a0) (B:Bas key a0 z) (D:Diff key a0) (hn:n<=a0.size) (hok:ok<=n) (u:Up key (arrOf z) ok)
  (q:∀ y,Bas key a0 y->Up key (arrOf y) n->Q true y):wpS (model prog w) A E s (binarySort' 0 n ok) Q z:=by
 rw [binarySort'_eq]; simp only [Xq]
 refine ZX (wpS_mono (QT (fun x c y=>c=(none,())/\Bas key a0 y/\Up key (arrOf y) (min x n)) (Q:=fun c y=>c=(none,())/\Bas key a0 y/\Up key (arrOf y) n) (fun k c y h1 h2=>?_) (fun c y=>?_) ⟨rfl,B,fun i j a b=>?_⟩) fun c y=>?_)
 ·rintro ⟨rfl,By,uy⟩
  rw [show min k n=k by omega] at uy
  have sz:=By.perm.size_eq
  have Dy:=D.perm By.perm
  refine ZX (wpS_mono (QT (fun x c y'=>y'=y/\∃ l r,c=(none,l,r)/\l<=r/\r<=k/\r - l<=k - x/\(∀ i,i < l->ay (at' key (arrOf y) i) (at' key (arrOf y) k)=true)/\∀ i,r<=i->i < k->ay (at' key (arrOf y) k) (at' key (arrOf y) i)=true)
   (Q:=fun c y'=>y'=y/\∃ l r,c=(none,l,r)/\l<=k/\(∀ i,i < l->ay (at' key (arrOf y) i) (at' key (arrOf y) k)=true)/\∀ i,l<=i->i < k->ay (at' key (arrOf y) k) (at' key (arrOf y) i)=true) (fun x c y' g1 g2=>?_) (fun c y'=>?_) ⟨rfl,0,k,rfl,by omega,by omega,by omega,fun i a=>by omega,fun i a b=>by omega⟩) fun c y'=>?_)
  ·rintro ⟨rfl,l,r,rfl,e1,e2,e3,e4,e5⟩
   dsimp only
   by_cases g:l ≥ r
   ·rw [Ze g]
    obtain rfl:l=r:=by omega
    exact Xn ⟨rfl,l,l,rfl,e2,e4,e5⟩
   rw [Zf g]
   refine ZX (gX C By (by omega) (by omega) ?_)
   cases hb:ay (at' key (arrOf y') k) (at' key (arrOf y') ((l+r) / 2)) with
   | true =>
    refine Xn ⟨rfl,l,(l+r) / 2,rfl,by omega,by omega,by omega,e4,fun i a b=>?_⟩
    by_cases e:i=(l+r) / 2
    ·subst e; exact hb
    ·exact lex_trans _ _ _ hb (uy _ _ (by omega) b)
   | false =>
    have hb':=Dy.or (by omega) (by omega) (by omega) hb
    refine Xn ⟨rfl,(l+r) / 2+1,r,rfl,by omega,by omega,by omega,fun i a=>?_,e5⟩
    by_cases e:i=(l+r) / 2
    ·subst e; exact hb'
    ·exact lex_trans _ _ _ (uy i _ (by omega) (by omega)) hb'
  ·rintro ⟨rfl,l,r,rfl,e1,e2,e3,e4,e5⟩
   obtain rfl:l=r:=by omega
   exact ⟨rfl,l,l,rfl,e2,e4,e5⟩
  ·rintro ⟨rfl,l,r,rfl,e2,e4,e5⟩
   refine ZX (show wpS _ _ _ _ (moveDown' k l) _ y' from ?_)
   rw [moveDown'_eq]
   refine wpS_modify (Xn ⟨rfl,By.put (bubble_perm _ _ _),?_⟩)
   rw [show min (k+1) n=k+1 by omega]
   exact zW (by omega) e2 uy e4 e5
 ·rintro ⟨rfl,By,uy⟩
  rw [show min (max (max ok 1) n) n=n by omega] at uy
  exact ⟨rfl,By,uy⟩
 ·exact u i j a (by omega)
 ·rintro ⟨rfl,By,uy⟩
  exact Xn (q y By uy)
noncomputable def Fin' (key:Value->List Int) (a0:Array Keyed) (z:SortSt):Prop:=(arrOf z).Perm a0/\failedOf z=none/\pendingOf z=#[(0,a0.size,0)]/\Up key (arrOf z) a0.size
theorem Bas.fin {z:SortSt} (B:Bas key a0 z) (u:Up key (arrOf z) a0.size):Fin' key a0 (setPending z ((pendingOf z).push (0,a0.size,0))):=⟨B.perm,B.fail,by show (pendingOf z).push _=_; rw [B.pend]; rfl,u⟩
theorem yN {z:SortSt} {Q:Unit->SortSt->Prop} (C:Cmp prog w A s key a0) (B:Bas key a0 z) (D:Diff key a0) (h2:2<=a0.size) (h6:a0.size < 64) (q:∀ y,(arrOf y).Perm a0->failedOf y=none->Up key (arrOf y) a0.size->Q () y) :
  wpS (model prog w) A E s sortRuns' Q z:=by
 rw [sortRuns'_eq]
 refine ZX (wpS_get ?_)
 dsimp only
 have hm:minRun' a0.size a0.size 0=a0.size:=by
  obtain ⟨f,e⟩:∃ f,a0.size=f+1:=⟨a0.size - 1,by omega⟩
  conv=>lhs; arg 1; rw [e]
  rw [minRun'_succ,Ze h6]; rfl
 simp only [B.perm.size_eq,hm]
 refine ZX (wpS_mono (QT (fun x c y=>(x=0/\c=(none,0)/\Bas key a0 y)\/(1<=x/\c=(none,a0.size)/\Fin' key a0 y)) (Q:=fun c y=>c=(none,a0.size)/\Fin' key a0 y) (fun x c y _ h1=>?_) (fun c y=>?_) (.inl ⟨rfl,rfl,B⟩)) fun c y=>?_)
 ·have last:∀ y:SortSt,Bas key a0 y->Up key (arrOf y) a0.size->(pendingOf y).back?=none:=fun y By _=>by rw [By.pend]; rfl
  rintro (⟨rfl,rfl,By⟩|⟨_,rfl,Fy⟩)
  ·dsimp only
   rw [Zf (by omega)]; simp only [Nat.sub_zero,Nat.min_self,Xq]
   refine ZX (Ej C By D (Zk _) (by omega) fun m y2 B2 m1 m2 u2=>?_)
   dsimp only
   by_cases e:m < a0.size
   ·rw [Ze e]
    refine ZX (wpS_lift (QW ⟨rfl,ZX (Dn C B2 D (Zk _) m2 u2 fun y3 B3 u3=>?_)⟩))
    simp only [X7,Zu,ZK]
    refine ZX (wpS_get ?_); rw [last y3 B3 u3]
    exact ZX (wpS_modify (Xn (.inr ⟨by omega,rfl,B3.fin u3⟩)))
   ·rw [Zf e]
    obtain rfl:m=a0.size:=by omega
    refine ZX (wpS_get ?_); rw [last y2 B2 u2]
    exact ZX (wpS_modify (Xn (.inr ⟨by omega,rfl,B2.fin u2⟩)))
  ·dsimp only
   rw [Ze (Zk _)]; exact Xn ⟨rfl,Fy⟩
 ·rintro (⟨h,_,_⟩|⟨_,h,Fy⟩)
  ·omega
  ·exact ⟨h,Fy⟩
 ·rintro ⟨rfl,Fy⟩
  dsimp only
  refine ZX (wpS_mono (QT (fun _ c y'=>y'=y/\c=(none,())) (Q:=fun c y'=>y'=y/\c=(none,())) (fun x c y' _ _=>?_) (fun _ _ h=>h) ⟨rfl,rfl⟩) fun c y'=>?_)
  ·rintro ⟨rfl,rfl⟩
   refine ZX (wpS_get ?_); rw [Ze (by rw [Fy.2.2.1]; exact Zk 1)]
   exact Xn ⟨rfl,rfl⟩
  ·rintro ⟨rfl,rfl⟩
   exact Xn (q _ Fy.1 Fy.2.1 Fy.2.2.2)
end
end TB

namespace TB
open PySem PyProof.Rows
section
variable {prog:Program} {w:World} {A:Around} {E:Value->Shared->Prop} {s:Shared} {key:Value->List Int}
theorem mR {vs:List Value} {p:Keyed} (h:p∈(pairsOf vs).toList):p.2=p.1/\p.1∈vs:=by
 rw [pairsOf_toList] at h
 obtain ⟨i,hi⟩:=ZL h
 rw [List.getElem?_zip_eq_some] at hi
 exact ⟨ZW (hi.2.symm.trans hi.1),Zy hi.1⟩
theorem wg (vs:List Value):(pairsOf vs).toList.map (·.2)=vs:=by
 rw [pairsOf_toList]
 exact List.map_snd_zip (Zk _)
theorem BH (vs:List Value) (f:Value->List Int):(pairsOf vs).toList.map (fun p=>f p.1)=vs.map f:=by
 rw [pairsOf_toList,show (fun p:Value × Value=>f p.1)=f ∘ Prod.fst from rfl,<- Z2,List.map_fst_zip (Zk _)]
theorem Af {a:Addr} {vs:List Value} {n:Nat} {P:Fin->Shared->Prop} (ho:s.heap.get? a=some (seqObj "list" vs.toArray n)) (hv:∀ v∈vs,∃ c,v=.ref c/\TK prog w s.heap (key v) c/\key v≠[]) (hd:(vs.map key).Nodup) (h6:vs.length < 64)
  (q:∀ out:List Value,out.Perm vs->(out.map key).Pairwise (fun x y=>ay x y=true)->P (.done (.ret .none)) { s with heap:=sortedHeap s.heap a vs out.toArray }):wpAny (model prog w) A (Builtin.«list.sort» ⟨[.ref a],[]⟩) P E s:=by
 have hal:a < s.heap.objs.size:=Zs ho
 rw [list_sort_plain]
 refine Za (listItems_at ho rfl (Za (listUpdate_at ho rfl ?_)))
 obtain ⟨e1,ho1⟩:∃ e1,(s.heap.update a (Obj.mapSeq fun _=>#[])).get? a=some (seqObj "list" #[] e1):=⟨_,get?_update_seq ho fun _=>#[]⟩
 refine Za (seqEpoch_at ho1 rfl (Za (wpAny_newTuple (Za (wpAny_newList (XC ?_))))))
 have ot:∀ b o,b≠a->s.heap.get? b=some o->(((s.heap.update a (Obj.mapSeq fun _=>#[])).push (seqObj "tuple" vs.toArray 0)).push (seqObj "list" #[] 0)).get? b=some o:=fun b o hb e =>
  Zg _ (Zg _ ((Qu _ _ (Ne.symm hb)).trans e))
 have ho6:(((s.heap.update a (Obj.mapSeq fun _=>#[])).push (seqObj "tuple" vs.toArray 0)).push (seqObj "list" #[] 0)).get? a=some (seqObj "list" #[] e1):=Zg _ (Zg _ ho1)
 have fin:∀ y:SortSt,(arrOf y).Perm (pairsOf vs)->Up key (arrOf y) (pairsOf vs).size->P (.done (.ret .none)) { s with heap:=sortedHeap s.heap a vs ((arrOf y).map (·.2)) }:=fun y py uy=>by
  have pl:=QJ.mp py
  have h1:=q ((arrOf y).map (·.2)).toList (by rw [Array.toList_map]; exact (pl.map _).trans (by rw [wg])) ?_
  ·rw [Array.toArray_toList] at h1; exact h1
  ·rw [Array.toList_map,Z2]
   refine Wt.mpr (Qa.mpr fun i j hi hj hij=>?_)
   have hi2:i < (arrOf y).size:=by rw [ZD] at hi; exact hi
   have hj2:j < (arrOf y).size:=by rw [ZD] at hj; exact hj
   have m:∀ (k:Nat) (hk:k < (arrOf y).size),key (arrOf y)[k].2=at' key (arrOf y) k:=fun k hk=>by
    rw [gT (Zp hk),(mR (pl.mem_iff.mp (by simp))).1]
   have:=uy i j hij (by rw [<- py.size_eq]; exact hj2)
   show ay (key (arrOf y).toList[i].2) (key (arrOf y).toList[j].2)=true
   rw [XL,XL,m i hi2,m j hj2]
   exact this
 dsimp only
 have lin:∀ y:SortSt,(arrOf y).Perm (pairsOf vs)->((arrOf y).map (·.2)).size<=sizeLine+1:=fun y py=>by rw [Array.size_map,py.size_eq,pairsOf_size,Qb]; omega
 by_cases h2:vs.toArray.size < 2
 ·rw [Ze h2,Ze h2]
  refine Za (Zc ?_); rw [StateT.run_pure]
  refine Za (Zc ?_)
  dsimp only
  refine Za (seqEpoch_at ho6 rfl (Za (listUpdate_at ho6 rfl ?_ (hsz2:=lin (SortSt.mk' general' (pairsOf vs) #[] 7 none) (Array.Perm.refl _)))))
  simp only [Qx,Zu,ZK]
  refine Zc (fin (SortSt.mk' general' (pairsOf vs) #[] 7 none) (Array.Perm.refl _) fun i j hij hj=>?_)
  rw [pairsOf_size] at hj; rw [Zi] at h2; omega
 ·rw [Zf h2,Zf h2]
  have hne:vs≠[]:=fun z=>h2 (by rw [z]; decide)
  have hv6:∀ v∈vs,∃ c,v=.ref c/\TK prog w (((s.heap.update a (Obj.mapSeq fun _=>#[])).push (seqObj "tuple" vs.toArray 0)).push (seqObj "list" #[] 0)) (key v) c/\key v≠[]:=fun v m=>by
   obtain ⟨c,e,x,y⟩:=hv v m
   refine ⟨c,e,?_,y⟩
   obtain ⟨oc,its,k,x1,x2,x3⟩:=x
   refine ⟨oc,its,k,ot c oc (fun z=>?_) x1,x2,x3⟩
   rw [z,ho] at x1
   cases x1
   exact absurd (Value.type.inj (show Value.type "list" = .type "tuple" from x2)) (by decide)
  refine Za (Ez hne (fun v m=>let ⟨c,e,x,y⟩:=hv6 v m; ⟨_,c,e,x,y⟩) ?_)
  have C:Cmp prog w A { s with heap:=((s.heap.update a (Obj.mapSeq fun _=>#[])).push (seqObj "tuple" vs.toArray 0)).push (seqObj "list" #[] 0) } key (pairsOf vs):=fun E x y Q mx my qq=>by
   obtain ⟨c,ex,kx,_⟩:=hv6 _ (mR mx).2
   obtain ⟨d,ey,ky,_⟩:=hv6 _ (mR my).2
   generalize x.1=vx at ex kx qq ⊢
   generalize y.1=vy at ey ky qq ⊢
   subst ex; subst ey
   exact EK kx ky qq
  have D:Diff key (pairsOf vs):=by unfold Diff; rw [BH]; exact hd
  refine Za (Xu (yN (z:=SortSt.mk' (tuples' true) (pairsOf vs) #[] 7 none) (Q:=fun _ y=>(arrOf y).Perm (pairsOf vs)/\failedOf y=none/\Up key (arrOf y) (pairsOf vs).size) C ⟨Array.Perm.refl _,rfl,rfl,rfl⟩ D (by rw [pairsOf_size]; rw [Zi] at h2; omega) (by rw [pairsOf_size]; exact h6) fun y a1 a2 a3=>⟨a1,a2,a3⟩) ?_ fun _ _ e=>e)
  rintro ⟨⟨⟩,y⟩ z ⟨rfl,py,fy,uy⟩
  dsimp only
  refine Za (seqEpoch_at ho6 rfl (Za (listUpdate_at ho6 rfl ?_ (hsz2:=lin y py))))
  rw [fy]
  simp only [Qx,Zu,ZK]
  exact Zc (fin y py uy)
end
end TB

namespace TB
open PySem PyProof.Rows
open Classical in
noncomputable def dh (prog:Program) (w:World) (h:Heap):Value->List Int
 | .ref c=>if x:∃ ks,TK prog w h ks c then x.choose else []
 | _=>[]
section
variable {prog:Program} {w:World} {A:Around} {E:Value->Shared->Prop} {s:Shared}
open Classical in
theorem k8 {h:Heap} {ks:List Int} {c:Addr} (x:TK prog w h ks c):dh prog w h (.ref c)=ks:=by
 have hx:∃ ks,TK prog w h ks c:=⟨ks,x⟩
 show (if x:∃ ks,TK prog w h ks c then x.choose else [])=ks
 rw [dif_pos hx]
 exact IsTupleKey.inj hx.choose_spec x
theorem uZ {h:Heap}:∀ {l:List (Int × Value)} {L:List (List Int)},Els prog w h l L->(l.map (·.2)).map (dh prog w h)=L
 | _,_,.nil=>rfl
 | _,_,.cons ⟨_,b,e,x⟩ r=>by
  rw [ZF,ZF,uZ r,e,k8 x]
theorem pX {h:Heap}:∀ {l:List (Int × Value)} {L:List (List Int)},Els prog w h l L->∀ v∈l.map (·.2),∃ c,v=.ref c/\TK prog w h (dh prog w h v) c/\dh prog w h v∈L
 | _,_,.nil,v,hv=>by cases hv
 | _,_,.cons ⟨_,b,e,x⟩ r,v,hv=>by
  rw [ZF] at hv
  rcases Zt.mp hv with z|z
  ·rw [e] at z
   subst z
   exact ⟨b,rfl,by rw [k8 x]; exact x,by rw [k8 x]; exact Zn⟩
  ·obtain ⟨c,e1,e2,e3⟩:=pX r v z
   exact ⟨c,e1,e2,Zm _ e3⟩
noncomputable def Df (prog:Program) (w:World) (h:Heap) (lim:Addr->Prop) (R:Addr) (ks:List (List Int)):Prop:=∃ out:List Value,∃ n,h.get? R=some (seqObj "list" out.toArray n)/\out.length=ks.length/\∀ (i:Nat) v k,out[i]?=some v->ks[i]?=some k->∃ c,v=.ref c/\c≠R/\lim c/\TK prog w h k c
theorem Ft {S:Addr} {lim:Addr->Prop} {L:List (List Int)} {Q:Value->Shared->Prop} (hh:A.handled=none) (x:cz prog w lim s.heap S L) (hne:∀ ks∈L,ks≠[])
  (q:∀ h' tk R ks,s.heap.objs.size<=R->Df prog w h' lim R ks->ks.Pairwise (fun a b=>ay a b=true)->(∀ y,y∈ks ↔ y∈L)->(∀ b o,b < s.heap.objs.size->s.heap.get? b=some o->h'.get? b=some o)->Q (.ref R) { s with heap:=h',toks:=tk }) :
  wpAny (model prog w) A (call (.builtin "sorted") [.ref S]) Q E s:=by
 obtain ⟨o,es,ep,t,ho,hex,hd,g,⟨hp,hl⟩,hsz,hels,hnd,hlim⟩:=x
 have hfit:es.size<=t.mask:=by rcases g.msk with z|z <;> omega
 have X:Fix w o es ep t:=⟨hd,g,hp,hl,hfit⟩
 obtain ⟨L1,x1,y1⟩:=Els.perm (nh w S ep es) hels
 refine Calls.call_function_entry kind_sorted plain_sorted entry_sorted (args_sorted1 _) ?_
 unfold Builtin.«sorted»
 refine Za (m:=checkCount "sorted" 1 1 _) (Zc ?_)
 refine Za (Ay (by simpa using hh) ho hex X fun h1 tk hle k1=>?_)
 have hlen:(bU w S ep es).toList.length=es.size:=by rw [ZD,iW]
 have he18:es.size<=18:=by rcases g.msk with z|z <;> omega
 generalize hvs:(bU w S ep es).toList.map (·.2)=vs
 have hvl:vs.length=es.size:=by rw [<- hvs,Zd,hlen]
 have hkeys:vs.map (dh prog w s.heap)=L1:=by rw [<- hvs]; exact uZ x1
 have hvals:∀ v∈vs,∃ c,v=.ref c/\TK prog w s.heap (dh prog w s.heap v) c/\dh prog w s.heap v∈L1:=by rw [<- hvs]; exact pX x1
 have up:∀ {ks:List Int} {c:Addr},TK prog w s.heap ks c->TK prog w h1 ks c/\c < s.heap.objs.size:=fun {ks c} z=>by
  obtain ⟨oc,its,m,z1,z2⟩:=z
  exact ⟨⟨oc,its,m,k1 c oc (Zs z1) z1,z2⟩,Zs z1⟩
 refine Za (wpAny_newList ?_)
 have gR:(h1.push (seqObj "list" vs.toArray 0)).get? h1.objs.size=some (seqObj "list" vs.toArray 0):=Zw _ rfl
 refine Za (XC (ZP slot_list_sort ⟨_,gR,rfl⟩ entry_list_sort (Af (s:={ s with heap:=h1.push (seqObj "list" vs.toArray 0),toks:=tk }) (key:=dh prog w s.heap) gR (fun v m=>?_) (by rw [hkeys]; exact y1.nodup_iff.mpr hnd) (by omega) fun out po so=>⟨_,rfl,?_⟩) (args_list_sort _)))
 ·obtain ⟨c,e,z,m2⟩:=hvals v m
  refine ⟨c,e,fC (up z).1 fun oc e=>Zg _ e,hne _ (y1.mem_iff.mp m2)⟩
 ·refine Zc ⟨_,rfl,?_⟩
  have old:∀ b o,b < s.heap.objs.size->s.heap.get? b=some o->(sortedHeap (h1.push (seqObj "list" vs.toArray 0)) h1.objs.size vs out.toArray).get? b=some o:=fun b o hb e =>
   (sortedHeap_old (ZH (QA hb hle)) (by rw [Xk]; exact XR (QA hb hle))).trans (Zg _ (k1 b o hb e))
  obtain ⟨n,hn⟩:=sortedHeap_at (vs:=vs) (out:=out.toArray) gR
  refine q _ tk h1.objs.size (out.map (dh prog w s.heap)) (Qe hle) ⟨out,n,hn,(Zd _).symm,fun i v k e1 e2=>?_⟩ so (fun y=>?_) old
  ·rw [ZM,e1] at e2
   have mv:=po.mem_iff.mp (Zy e1)
   obtain ⟨c,e,z,_⟩:=hvals v mv
   have hc:lim c:=by
    rw [<- hvs] at mv
    obtain ⟨en,m1,m2⟩:=ZA.mp mv
    exact hlim en ((nh w S ep es).mem_iff.mp m1) c (m2.trans e)
   have e3:dh prog w s.heap v=k:=ZW e2
   rw [e3] at z
   exact ⟨c,e,ZH (QA (up z).2 hle),hc,fC z fun oc e=>old c oc (Zs e) e⟩
  ·rw [(po.map _).mem_iff,hkeys]
   exact y1.mem_iff
end
end TB

namespace TB
open PySem PyProof.Rows
section
variable {prog:Program} {w:World} {A:Around} {E:Value->Shared->Prop} {s:Shared} {l:Addr} {vs:List Value} {T:String}
noncomputable def Sq2 (h:Heap) (l:Addr) (vs:List Value):Prop:=∃ T o n,(T = "list"\/T = "tuple")/\h.get? l=some o/\o.cls=.type T/\o.data=.seq vs.toArray n
noncomputable def EZ (h:Heap) (vs:List Value):Heap:=(h.push (seqObj "list" #[] 0)).update h.objs.size (Obj.mapSeq (·++vs.toArray))
noncomputable def Iu (h:Heap) (vs:List Value):Heap:=(EZ h vs).push (seqObj "list" vs.toArray 0)
end
end TB

namespace ENM
open PySem PyProof.Rows
open AutoSeq1 (wpAny_loadPart')
section
variable {prog:Program} {w:World} {A:Around} {E:Value->Shared->Prop} {s:Shared}
variable {ta tb:Bool} {c pI pO i j a b:Addr} {m n:Nat} {us vs:Array Value} {u v old1 old2:Value}
noncomputable def itN:Bool->String
 | true=>"tuple_iterator"
 | false=>"list_iterator"
abbrev itO (t:Bool) (x:Addr):Obj:={ cls:=.type (itN t),data:=.fields #[.ref x,.int 0 0] }
abbrev zp2 (ta tb:Bool) (h:Heap) (a b:Addr):Heap:=(h.push (itO ta a)).push (itO tb b)
abbrev zp3 (ta tb:Bool) (h:Heap) (a b:Addr):Heap:=(zp2 ta tb h a b).push { cls:=.type "tuple",data:=.seq #[.ref h.objs.size,.ref (h.push (itO ta a)).objs.size] }
abbrev zp4 (ta tb:Bool) (h:Heap) (a b:Addr):Heap:=(zp3 ta tb h a b).push { cls:=.type "tuple",data:=.seq #[.none,.none] }
abbrev zp5 (ta tb:Bool) (h:Heap) (a b:Addr):Heap:=(zp4 ta tb h a b).push { cls:=.type "zip",data:=.fields #[.none,.bool false,.bool false,.ref (zp2 ta tb h a b).objs.size,.ref (zp3 ta tb h a b).objs.size] }
end
end ENM
namespace L2
open PySem PySem.Spec PyProof.Rows ENM
noncomputable def Itz (K:PySem.W.Frag) (ta tb:Bool) (a b:Addr):It :=
 ⟨fun i H=>∃ xs ys x y,SqB K H ta a xs/\SqB K H tb b ys/\xs[i]?=some x/\ys[i]?=some y,
  fun i H x H'=>∃ u v p,(∀ xs,SqB K H ta a xs->xs[i]?=some u)/\(∀ ys,SqB K H tb b ys->ys[i]?=some v)/\H p=none/\H'=upd H p (.tup [u,v])/\x=.ref p,
  fun i H=>∃ xs ys,SqB K H ta a xs/\SqB K H tb b ys/\(xs.length<=i\/ys.length<=i)⟩
section
variable {X:Cx}
noncomputable def iZp (K:PySem.W.Frag) (ta:TA):TI:=fun σ H R=>ta σ H fun vs H1=>∃ t1 t2 a b,vs=[.ref a,.ref b]/\(∃ xs,SqB K H1 t1 a xs)/\(∃ ys,SqB K H1 t2 b ys)/\R (Itz K t1 t2 a b) H1
end
end L2

namespace L2
open PySem PySem.Spec PyProof.Rows
noncomputable def bE (h:Heap) (d:Addr) (es:Array DictEntry) (ep:Nat):Prop:=∃ o,h.get? d=some o/\o.ExactDict/\o.data=.dict es ep
section
variable {prog:Program} {w:World} {A:Around} {E:Value->Shared->Prop} {s:Shared} {d it:Addr} {es:Array DictEntry} {ep i:Nat}
theorem bE.typeIs (x:bE s.heap d es ep):s.TypeIs (.ref d) "dict":=by
 obtain ⟨o,ho,hx,_⟩:=x
 exact ⟨o,ho,hx.1⟩
theorem yj {Q:Value->Shared->Prop} (hd:(d==sysModules)=false) (hm:bE s.heap d es ep)
  (hQ:Q (.ref s.heap.objs.size) { s with heap:=s.heap.push { cls:=.type "dict_keyiterator",data:=.fields #[.ref d,.int 0 0,.int es.size 0,.int ep 0] } }):wpAny (model prog w) A (pyIter (.ref d)) Q E s:=by
 have hT:=hm.typeIs
 obtain ⟨o,ho,hx,hdat⟩:=hm
 refine Q0 hT F.slot_dict_iter (ZP F.slot_dict_iter hT F.entry_dict_iter ?_ (F.args_dict_iter_1 _))
 have hs:Builtin.Dict.showsAll d=pure ():=by unfold Builtin.Dict.showsAll; rw [Zf (by rw [hd]; exact Zx)]
 refine Za (Za (wpAny_notOrdered_dict hT (Zc ?_)))
 show wpAny _ _ (Builtin.Dict.showsAll d>>=_) _ _ s
 rw [hs]
 refine Za (Zc (Za (wpAny_dictEntries ho hdat (Za (wpAny_dictEpoch ho hdat ?_)))))
 exact Za (ZU (Zc ⟨_,rfl,"dict_keyiterator",_,⟨_,Zw _ rfl,rfl⟩,F.slot_dict_keyiterator_next.lookup,hQ⟩))
open PySem.W (Looks)
theorem uU {M:Model} {h:Heap} {a:Addr} {o:Obj} {vs:Array Value} (ho:h.get? a=some o) (hd:o.data=.fields vs):Looks M h (fieldsOf (.ref a)) vs:=fun A Q E s k q=>wpAny_fieldsOf (k _ _ ho) hd q
theorem uW {M:Model} {h:Heap} (x:bE h d es ep):Looks M h (dictEntries d) es:=fun A Q E s k q=>let ⟨o,ho,_,hd⟩:=x; wpAny_dictEntries (k _ _ ho) hd q
theorem uh {M:Model} {h:Heap} (x:bE h d es ep):Looks M h (dictEpoch d) ep:=fun A Q E s k q=>let ⟨o,ho,_,hd⟩:=x; wpAny_dictEpoch (k _ _ ho) hd q
theorem vN {nm:String} {A':Around} {R:Fin->Shared->Prop} {E':Value->Shared->Prop} {x:Value} (o:Obj) (ho:s.heap.get? it=some o) (hd:o.data=.fields #[.ref d,.int i 0,.int es.size 0,.int ep 0]) (hm:bE s.heap d es ep) (hi:i < es.size)
  (hB:nm = "dict_keyiterator"/\x=es[i].key\/nm = "dict_valueiterator"/\x=es[i].val)
  (LN:∀ h':Heap,(∃ o',h'.get? it=some o'/\o'.cls=o.cls)->Looks (model prog w) h' (typeNameOfWhole (.ref it)) nm)
  (LO:∀ (h':Heap) (types:List String),(∃ o',h'.get? it=some o'/\o'.cls=o.cls)->Looks (model prog w) h' (Builtin.Dict_items.isOneOf (.ref it) types) (types.any fun t=>[Value.type nm,Value.type "object"].contains (.type t)))
  (hQ:R (.done (.ret x)) { s with heap:=s.heap.update it (Obj.mapFields (·.setIfInBounds 1 (rawInt ((i:Int)+1)))) }) :
  (nm = "dict_keyiterator"->wpAny (model prog w) A' (Builtin.«dict_keyiterator.__next__» ⟨[.ref it],[]⟩) R E' s)/\(nm = "dict_valueiterator"->wpAny (model prog w) A' (Builtin.«dict_valueiterator.__next__» ⟨[.ref it],[]⟩) R E' s):=by
 have L1:=uU (M:=model prog w) ho hd
 have L2:=uW (M:=model prog w) hm
 have L3:=uh (M:=model prog w) hm
 have L4:=LN s.heap ⟨o,ho,rfl⟩
 have L5:=fun ty=>LO s.heap ty ⟨o,ho,rfl⟩
 have L6:=fun ty=>LO (s.heap.update it (Obj.mapFields (·.setIfInBounds 1 (rawInt ((i:Int)+1))))) ty ⟨_,Xb _ ho (QB (XH hd _)),QZ ..⟩
 obtain ⟨h0,g,dr,tk,os⟩:=s
 have h0':¬ ((i:Int) < 0):=by omega
 refine ⟨fun hn=>?_,fun hn=>?_⟩ <;> subst hn
 all_goals
  refine Za (Zc (Za (Za (Za (L4.at (Zc (Za (L1.at ?_))))))))
  simp only [show Builtin.Dict_items.ownsTuple "dict_keyiterator" = false from by decide,show Builtin.Dict_items.ownsTuple "dict_valueiterator" = false from by decide,Zu,ZK]
  show wpAny _ _ (if (Value.ref d==Value.none)=true then _ else _) _ _ _
  rw [Zf (show ¬ ((Value.ref d==Value.none)=true) from Zx)]
  refine Za (Zc (Za (L2.at ?_)))
  rw [Zf (by simp)]
  refine Za (Zc (Za (L3.at ?_)))
  rw [Zf (by simp)]
  refine Zc ?_
  simp only [h0',ZK,Z5,Zp hi]
  refine Za (Za (L4.at (Zc (Za ((L5 _).at ?_)))))
  refine Za (Qd ho hd (by simp [show Builtin.Dict_items.ownsTuple "dict_keyiterator" = false from by decide,show Builtin.Dict_items.ownsTuple "dict_valueiterator" = false from by decide]) ?_)
  refine Za (XC ?_)
  rcases hB with ⟨hb,rfl⟩|⟨hb,rfl⟩
  all_goals first|exact absurd hb (by decide)|exact Za ((L6 _).at (Zc (Zc hQ)))|exact Za ((L6 _).at (Za ((L6 _).at (Zc (Zc hQ)))))
theorem pY {nm:String} {A':Around} {R:Fin->Shared->Prop} {E':Value->Shared->Prop} (hh:A'.handled=none) (o:Obj) (ho:s.heap.get? it=some o) (hd:o.data=.fields #[.ref d,.int i 0,.int es.size 0,.int ep 0]) (hm:bE s.heap d es ep) (hi:es.size<=i)
  (LN:Looks (model prog w) s.heap (typeNameOfWhole (.ref it)) nm)
  (hQ:∀ e h',Heap.ExtBut it s.heap h'->({ s with heap:=h' }:Shared).TypeIs e "StopIteration"->E' e { s with heap:=h' }) :
  (nm = "dict_keyiterator"->wpAny (model prog w) A' (Builtin.«dict_keyiterator.__next__» ⟨[.ref it],[]⟩) R E' s)/\(nm = "dict_valueiterator"->wpAny (model prog w) A' (Builtin.«dict_valueiterator.__next__» ⟨[.ref it],[]⟩) R E' s):=by
 have L1:=uU (M:=model prog w) ho hd
 have L2:=uW (M:=model prog w) hm
 have L3:=uh (M:=model prog w) hm
 obtain ⟨h0,g,dr,tk,os⟩:=s
 have h0':¬ ((i:Int) < 0):=by omega
 refine ⟨fun hn=>?_,fun hn=>?_⟩ <;> subst hn
 all_goals
  refine Za (Zc (Za (Za (Za (LN.at (Zc (Za (L1.at ?_))))))))
  simp only [show Builtin.Dict_items.ownsTuple "dict_keyiterator" = false from by decide,show Builtin.Dict_items.ownsTuple "dict_valueiterator" = false from by decide,Zu,ZK]
  show wpAny _ _ (if (Value.ref d==Value.none)=true then _ else _) _ _ _
  rw [Zf (show ¬ ((Value.ref d==Value.none)=true) from Zx)]
  refine Za (Zc (Za (L2.at ?_)))
  rw [Zf (by simp)]
  refine Za (Zc (Za (L3.at ?_)))
  rw [Zf (by simp)]
  refine Zc ?_
  simp only [h0',ZK,Z5,XX hi]
  refine Za (Za (LN.at (Zc ?_)))
  refine Za (Qd ho hd (by simp [show Builtin.Dict_items.ownsTuple "dict_keyiterator" = false from by decide,show Builtin.Dict_items.ownsTuple "dict_valueiterator" = false from by decide]) ?_)
  refine Za ?_
  simp only [newExc,newTuple]
  refine Za (ZU ?_ (by size_fits))
  refine Za (m:=firstArgMember _ _) (Qc (a:=Value.none) (by first|rfl|(simp only [firstArgMember]; rfl)) ?_)
  refine ZU ?_ (by size_fits)
  simp only [raiseNew]
  refine Za (wpAny_handled ?_)
  rw [hh]
  exact Za (Zc (wpAny_throw (hQ (.ref _) _ (((Xa ..).extBut.push _).push _) ⟨_,Zw _ rfl,rfl⟩)))
theorem Dj {Q:Option Value->Shared->Prop} (hit:s.heap.IsKeyIter it d i es.size ep) (hm:bE s.heap d es ep) (hi:i < es.size)
  (hQ:∀ h',h'.IsKeyIter it d (i+1) es.size ep->Heap.SameBut it s.heap h'->Q (some es[i].key) { s with heap:=h' }):wpAny (model prog w) A (pyNext (.ref it)) Q E s:=by
 obtain ⟨o,ho,hc,hd⟩:=id hit
 unfold pyNext
 refine Za (XT (ZS (name:=Str.ofString "__next__") hit.typeIs XV
  (ZP XV hit.typeIs F.entry_dict_keyiterator_next ?_ (F.args_dict_keyiterator_next_1 _))))
 refine (vN (nm:="dict_keyiterator") o ho hd hm hi (.inl ⟨rfl,rfl⟩) (fun h' ⟨o',g1,g2⟩ A Q E s k q=>wpAny_typeNameOfWhole_keyiter ⟨o',k _ _ g1,g2.trans hc⟩ q) (fun h' ty ⟨o',g1,g2⟩ A Q E s k q=>wpAny_isOneOf_keyiter ⟨o',k _ _ g1,g2.trans hc⟩ q) ?_).1 rfl
 exact ⟨_,rfl,Zc (hQ _ ⟨_,Xb _ ho (QB (XH hd _)),(QZ ..).trans hc,by rw [XH hd]; simp [rawInt]⟩ (Xa ..))⟩
theorem Ie {Q:Option Value->Shared->Prop} (hh:A.handled=none) (hit:s.heap.IsKeyIter it d i es.size ep) (hm:bE s.heap d es ep) (hi:es.size<=i)
  (hQ:∀ h',Heap.ExtBut it s.heap h'->Q none { s with heap:=h' }):wpAny (model prog w) A (pyNext (.ref it)) Q E s:=by
 obtain ⟨o,ho,hc,hd⟩:=id hit
 unfold pyNext
 refine Za (XT (ZS (name:=Str.ofString "__next__") hit.typeIs XV
  (ZP XV hit.typeIs F.entry_dict_keyiterator_next ?_ (F.args_dict_keyiterator_next_1 _))))
 refine (pY (nm:="dict_keyiterator") (show A.in1.handled=none from hh) o ho hd hm hi (fun A Q E s k q=>wpAny_typeNameOfWhole_keyiter ⟨o,k _ _ ho,hc⟩ q) fun e h' eb ht=>?_).1 rfl
 refine Za (QE (T:="StopIteration") (b:=true) ht Wj ?_)
 exact Zc (hQ _ eb)
theorem HE {Q:Option Value->Shared->Prop} (hit:s.heap.IsValIter it d i es.size ep) (hm:bE s.heap d es ep) (hi:i < es.size)
  (hQ:∀ h',h'.IsValIter it d (i+1) es.size ep->Heap.SameBut it s.heap h'->Q (some es[i].val) { s with heap:=h' }):wpAny (model prog w) A (pyNext (.ref it)) Q E s:=by
 obtain ⟨o,ho,hc,hd⟩:=id hit
 unfold pyNext
 refine Za (XT (ZS (name:=Str.ofString "__next__") hit.typeIs XM
  (ZP XM hit.typeIs F.entry_dict_valueiterator_next ?_ (F.args_dict_valueiterator_next_1 _))))
 refine (vN (nm:="dict_valueiterator") o ho hd hm hi (.inr ⟨rfl,rfl⟩) (fun h' ⟨o',g1,g2⟩ A Q E s k q=>wpAny_typeNameOfWhole_valiter ⟨o',k _ _ g1,g2.trans hc⟩ q) (fun h' ty ⟨o',g1,g2⟩ A Q E s k q=>wpAny_isOneOf_valiter ⟨o',k _ _ g1,g2.trans hc⟩ q) ?_).2 rfl
 exact ⟨_,rfl,Zc (hQ _ ⟨_,Xb _ ho (QB (XH hd _)),(QZ ..).trans hc,by rw [XH hd]; simp [rawInt]⟩ (Xa ..))⟩
theorem yC {Q:Option Value->Shared->Prop} (hh:A.handled=none) (hit:s.heap.IsValIter it d i es.size ep) (hm:bE s.heap d es ep) (hi:es.size<=i)
  (hQ:∀ h',Heap.ExtBut it s.heap h'->Q none { s with heap:=h' }):wpAny (model prog w) A (pyNext (.ref it)) Q E s:=by
 obtain ⟨o,ho,hc,hd⟩:=id hit
 unfold pyNext
 refine Za (XT (ZS (name:=Str.ofString "__next__") hit.typeIs XM
  (ZP XM hit.typeIs F.entry_dict_valueiterator_next ?_ (F.args_dict_valueiterator_next_1 _))))
 refine (pY (nm:="dict_valueiterator") (show A.in1.handled=none from hh) o ho hd hm hi (fun A Q E s k q=>wpAny_typeNameOfWhole_valiter ⟨o,k _ _ ho,hc⟩ q) fun e h' eb ht=>?_).2 rfl
 refine Za (QE (T:="StopIteration") (b:=true) ht Wj ?_)
 exact Zc (hQ _ eb)
theorem CD {v:Addr} {Q:Value->Shared->Prop} (hv:s.heap.IsValuesView v d) (hm:bE s.heap d es ep)
  (hQ:Q (.ref s.heap.objs.size) { s with heap:=s.heap.push { cls:=.type "dict_valueiterator",data:=.fields #[.ref d,.int 0 0,.int es.size 0,.int ep 0] } }):wpAny (model prog w) A (pyIter (.ref v)) Q E s:=by
 obtain ⟨ov,hov,hcv,hdv⟩:=id hv
 obtain ⟨o,ho,hx,hdat⟩:=hm
 refine Q0 hv.typeIs F.slot_dict_values_iter (ZP F.slot_dict_values_iter hv.typeIs F.entry_dict_values_iter ?_ (F.args_dict_values_iter_1 _))
 refine Za (Zc (Za (Za (Xr hov hdv (x:=.ref d) rfl (Zc ?_)))))
 refine Za (Za (wpAny_dictEntries ho hdat (Za (wpAny_dictEpoch ho hdat ?_))))
 simp only [show Builtin.Dict_items.ownsTuple "dict_valueiterator" = false from by decide,Zu,ZK]
 exact ZU (Zc ⟨_,rfl,"dict_valueiterator",_,⟨_,Zw _ rfl,rfl⟩,F.slot_dict_valueiterator_next.lookup,hQ⟩)
end
end L2

namespace L2
open PySem PySem.Spec PyProof.Rows
theorem om {α β:Type} {R:α->β->Prop}:∀ {as:List α} {bs:List β} {i:Nat} {a:α},Paired R as bs->as[i]?=some a->∃ b,bs[i]?=some b/\R a b
 | _,_,_,_,.nil,e=>by simp at e
 | _,_,0,_,.cons r _,e=>by simp at e; subst e; exact ⟨_,rfl,r⟩
 | _,_,i+1,a,.cons _ t,e=>by
  obtain ⟨b,h1,h2⟩:=om (i:=i) (a:=a) t (by simpa using e)
  exact ⟨b,by simpa using h1,h2⟩
section
variable {X:Cx} {pins:List (Addr × Obj)} {σ:St} {H:Hp} {s:Shared} {a:Addr} {xs:List (List Key × V)}
theorem jg {P:Program} {w:World} {h:Heap} (ok:aS P w H h a (.dT xs)):xs.length<=sizeLine/\(a==sysModules)=false/\∃ ys o es ep,KT H xs ys/\h.get? a=some o/\o.ExactDict/\o.data=.dict es ep/\es.toList=ys.map (entryOfKey (tupleKind (bF P w))):=by
 obtain ⟨z,y,ys,r,o,es,ep,h1,h2,h3,h4,_⟩:=ok
 exact ⟨z,y,ys,o,es,ep,r,h1,h2,h3,h4⟩
theorem jx {P:Program} {w:World} {ys:List (List Key × Addr × Value)} {es:Array DictEntry} (r:KT H xs ys) (e:es.toList=ys.map (entryOfKey (tupleKind (bF P w)))):es.size=xs.length:=by
 rw [<- ZD,e,Zd]; exact (Q5 r).symm
theorem qw {P:Program} {w:World} {ys:List (List Key × Addr × Value)} {es:Array DictEntry} (r:KT H xs ys) (e:es.toList=ys.map (entryOfKey (tupleKind (bF P w)))) {i:Nat} (hi:i < es.size) :
  ∃ k v b u,xs[i]?=some (k,v)/\H b=some (.tup (k.map kV))/\RelV v u/\es[i].key=.ref b/\es[i].val=u:=by
 have hi':i < xs.length:=by rw [<- jx r e]; exact hi
 obtain ⟨q,hq,h1,h2,h3⟩:=om r (Zb hi')
 have he:es.toList[i]?=some (entryOfKey (tupleKind (bF P w)) q):=by rw [e,ZM,hq]; rfl
 have he2:es[i]=entryOfKey (tupleKind (bF P w)) q:=by
  rw [ZT,Zp hi] at he
  exact ZW he
 exact ⟨xs[i].1,xs[i].2,q.2.1,q.2.2,Zb hi',h2,h3,by rw [he2]; rfl,by rw [he2]; rfl⟩
noncomputable def Itd (o:Obj) (a:Addr) (xs:List (List Key × V)):It :=
 ⟨fun i H=>i < xs.length/\H a=some (.frz o (.dT xs)),fun i H x H'=>H'=H/\∃ k v b,xs[i]?=some (k,v)/\x=.ref b/\H b=some (.tup (k.map kV)),fun i H=>xs.length<=i/\H a=some (.frz o (.dT xs))⟩
theorem ow {P:Program} {w:World} {h:Heap} {o:Obj} {es:Array DictEntry} {ep:Nat} (ok:HOk P w H h) (e:H a=some (.frz o (.dT xs))) (hx:o.ExactDict) (hd:o.data=.dict es ep):bE h a es ep/\∃ ys,KT H xs ys/\es.toList=ys.map (entryOfKey (tupleKind (bF P w))):=by
 obtain ⟨g1,g2⟩:=(show h.get? a=some o/\aS P w H h a (.dT xs) from ok a _ e)
 obtain ⟨_,_,ys,o',es',ep',r,h1,h2,h3,h4⟩:=jg g2
 rw [g1] at h1; cases h1
 rw [hd] at h3; cases h3
 exact ⟨⟨o,g1,hx,hd⟩,ys,r,h4⟩
theorem ET {P:Program} {w:World} {K:PySem.W.Frag} {tg:Expr} (a it:Addr) (xs:List (List Key × V)) {o:Obj} {es:Array DictEntry} {ep:Nat} (hx:o.ExactDict) (hd:o.data=.dict es ep):Turn P w K tg (Itd o a xs) [it] it (fun i h=>h.IsKeyIter it a i es.size ep) where
 mem:=by simp
 obj:=fun i h st b hb=>by
  have e:b=it:=by simpa using hb
  subst e
  obtain ⟨o,e,c,d⟩:=st
  exact ⟨o,e,fun v z=>by rw [d] at z; cases z⟩
 keep:=fun i h h' st k=>st.at fun o e=>k it (by simp) o e
 item:=by
  intro X hP hw hK hc i pins s σ H E I hf st hg
  subst hP hw hK
  obtain ⟨hi,hq⟩:=hg
  obtain ⟨rd,ys,r,he⟩:=ow I.hok hq hx hd
  have hi':i < es.size:=by rw [jx r he]; exact hi
  obtain ⟨k,v,b,u,g1,g2,g3,g4,g5⟩:=qw r he hi'
  obtain ⟨f0,f1,f2,f3,f4,f5⟩:=hf it (by simp)
  refine Dj st rd hi' fun h' st' sb=>?_
  have I1:Inv X pins σ H { s with heap:=h' }:=I.turned (t':=s.toks) (fun b o hb e=>(sb.2 b hb).trans e) f0 f1 f3 f4 f5
  obtain ⟨oi,e,c,dd⟩:=id st'
  rw [g4]
  exact ⟨.ref b,rfl,gY (s:={ s with heap:=h' }) e c dd (by decide) ⟨.ref b,H,I1,rfl,⟨rfl,k,v,b,g1,rfl,g2⟩,st',fun b hb=>(hf b hb).1⟩⟩
 done:=by
  intro X hP hw hK hc i pins s σ H E I hf st hg
  subst hP hw hK
  obtain ⟨hi,hq⟩:=hg
  obtain ⟨rd,ys,r,he⟩:=ow I.hok hq hx hd
  obtain ⟨f0,f1,f2,f3,f4,f5⟩:=hf it (by simp)
  exact Ie (I.ok.hd hc) st rd (by rw [jx r he]; exact hi) fun h' eb=>⟨rfl,I.turned (t':=s.toks) (fun b o hb e=>eb b o hb e) f0 f1 f3 f4 f5⟩
 self:=fun _ _ _ _ _ st h=>wpAny_pyIter_keyiter st h
theorem Inv.fO (I:Inv X pins σ H s) (e:H a=some (.dT xs)) {o:Obj} (ho:s.heap.get? a=some o):Inv X pins σ (upd H a (.frz o (.dT xs))) s:=by
 have ok:aS X.prog X.w H s.heap a (.dT xs):=I.hok a _ e
 refine I.write (x:=a) (e:=a) (o:=.frz o (.dT xs)) (h':=s.heap) (t':=s.toks) (by rw [e]; trivial) (.inl rfl) (fun _ _ _ q=>q) ⟨o,ho⟩ ⟨ho,?_⟩
 obtain ⟨z,y,ys,r,rest⟩:=ok
 refine ⟨z,y,ys,KT.keeps r fun b zs q=>?_,rest⟩
 rw [aA]; exact q
 rintro rfl; rw [e] at q; cases q
noncomputable def iD (tl:TE):TI:=fun σ H R=>tl σ H fun x H1=>∃ a xs,x=.ref a/\((H1 a=some (.dT xs)/\∀ o,R (Itd o a xs) (upd H1 a (.frz o (.dT xs))))\/∃ o,H1 a=some (.frz o (.dT xs))/\R (Itd o a xs) H1)
theorem An {tg l:Expr} {tl:TE} (hl:PE X l tl):PI X tg l (iD tl):=by
 intro pins s σ H R I h
 refine thn (hl pins s σ H _ I h) fun v s1 ⟨x,H1,I1,r1,q1⟩=>?_
 obtain ⟨a,xs,e,q1⟩:=q1
 subst e
 cases r1
 have fin:∀ {H2:Hp} {o:Obj},Inv X pins σ H2 s1->H2 a=some (.frz o (.dT xs))->R (Itd o a xs) H2->wpAny (model X.prog X.w) X.A (pyIter (.ref a)) (PIE X pins σ tg R) X.xe s1:=fun {H2 o} I2 h2 q=>by
  obtain ⟨g1,g2⟩:=(show s1.heap.get? a=some o/\aS X.prog X.w H2 s1.heap a (.dT xs) from I2.hok a _ h2)
  obtain ⟨_,hsys,ys,o',es,ep,r,h1,hx,hd,h4⟩:=jg g2
  rw [g1] at h1; cases h1
  refine yj hsys ⟨o,g1,hx,hd⟩ ?_
  refine ⟨s1.heap.objs.size,[s1.heap.objs.size],_,_,H2,rfl,I2.kept (t':=s1.toks) fun b o e=>Zg _ e,ET a _ xs hx hd,⟨_,Zw _ rfl,rfl,rfl⟩,fun b hb=>?_,q⟩
  have e:b=s1.heap.objs.size:=by simpa using hb
  subst e
  exact I2.ff (Zk _) (I2.hok.fresh (Zk _))
 rcases q1 with ⟨e,q⟩|⟨o,e,q⟩
 ·obtain ⟨_,_,ys,o,es,ep,r,h1,_⟩:=jg (show aS X.prog X.w H1 s1.heap a (.dT xs) from I1.hok a _ e)
  exact fin (I1.fO e h1) cg (q o)
 ·exact fin I1 e q
end
end L2

namespace L2
open PySem PySem.Spec PyProof.Rows PySem.W
section
variable {prog:Program} {w:World} {A:Around} {E:Value->Shared->Prop} {s:Shared} {d r:Addr} {es:Array DictEntry} {ep:Nat}
theorem Fo {Q:Value->Shared->Prop} (hd:(d==sysModules)=false) (hm:bE s.heap d es ep)
  (hQ:Q (.ref s.heap.objs.size) { s with heap:=s.heap.push { cls:=.type "dict_values",data:=.fields #[.ref d] } }):wpAny (model prog w) A (call (.builtin "dict.values") [.ref d]) Q E s:=by
 have hT:=hm.typeIs
 refine ZP PySem.F.slot_dict_values hT PySem.F.entry_dict_values ?_ (PySem.F.args_dict_values_1 _)
 refine Za ?_
 unfold Builtin.Dict.noArgs
 refine Za (wpAny_notOrdered_dict hT ?_)
 show wpAny _ _ (pure d) _ _ s
 refine Zc ?_
 show wpAny _ _ (Builtin.Dict.showsAll d>>=_) _ _ s
 unfold Builtin.Dict.showsAll
 rw [Zf (by rw [hd]; exact Zx)]
 refine Za (Zc ?_)
 exact Za (ZU (Zc ⟨_,rfl,hQ⟩))
theorem bE.at {h h':Heap} (x:bE h d es ep) (k:∀ o,h.get? d=some o->h'.get? d=some o):bE h' d es ep:=let ⟨o,e,y⟩:=x; ⟨o,k o e,y⟩
theorem yc (hh:A.handled=none) (I d:Addr) (hne:d≠I) (es:Array DictEntry) (ep:Nat) :
  Walks prog w A I [I,d] [I] es.size (fun i v=>∃ h:i < es.size,v=es[i].val) (fun i h=>h.IsValIter I d i es.size ep/\bE h d es ep) where
 sub:=fun b hb=>by simp at hb; simp [hb]
 frame:=fun _ _ _ st hk=>⟨st.1.at fun o e=>hk I (by simp) o e,st.2.at fun o e=>hk d (by simp) o e⟩
 item:=fun i s Q E hi st hQ=>HE st.1 st.2 hi fun h' hit' hs'=>hQ _ h' s.toks ⟨hi,rfl⟩ ⟨hit',st.2.at fun o e=>hs'.extBut d o hne e⟩ fun b o hb e=>hs'.extBut b o (fun h=>hb (by simp [h])) e
 done:=fun s Q E st hQ=>yC hh st.1 st.2 (Zk _) fun h' he'=>hQ h' s.toks fun b o hb e=>he' b o (fun h=>hb (by simp [h])) e
 self:=fun _ _ _ _ st hQ=>wpAny_pyIter_valiter st.1 hQ
theorem C7:KdlSrc prog w "dict_values" r d es.size (fun i v=>∃ h:i < es.size,v=es[i].val) (fun h=>h.IsValuesView r d/\bE h d es ep) where
 type:=fun _ hm=>hm.1.typeIs
 there:=fun _ hm=>⟨let ⟨_,ho,_⟩:=hm.1; Zs ho,let ⟨_,ho,_⟩:=hm.2; Zs ho⟩
 keep:=fun _ _ hm hk=>⟨let ⟨o,ho,x⟩:=hm.1; ⟨o,hk r (.inl rfl) o ho,x⟩,hm.2.at fun o e=>hk d (.inr rfl) o e⟩
 notList:=by decide
 notTuple:=by decide
 hint:=fun _ _ _ _ hm hq=>kdl_hint_values hm.1.typeIs hq
 iter:=fun _ _ hh hm=>⟨_,_,(fun _ _ hq=>CD hm.1 hm.2 hq),yc hh _ d (ZH (let ⟨_,ho,_⟩:=hm.2; Zs ho)) es ep,⟨⟨_,Zw _ rfl,rfl,rfl⟩,hm.2.at fun o e=>Zg _ e⟩⟩
end
noncomputable def DX (to:TE):TE:=fun σ H Q=>to σ H fun x H1=>∃ a xs,x=.ref a/\(H1 a=some (.dT xs)\/∃ o,H1 a=some (.frz o (.dT xs)))/\∀ p,H1 p=none->Q (.ref p) (upd H1 p (.lst (xs.map (·.2))))
theorem Paired.qR {α β:Type} {R:α->β->Prop}:∀ {xs:List α} {ys:List β},xs.length=ys.length->(∀ (i:Nat) x y,xs[i]?=some x->ys[i]?=some y->R x y)->Paired R xs ys
 | [],[],_,_=>.nil
 | [],_::_,h,_=>by simp at h
 | _::_,[],h,_=>by simp at h
 | x::xs,y::ys,h,f=>.cons (f 0 x y rfl rfl) (Paired.qR (by simpa using h) fun i a b e1 e2=>f (i+1) a b (by simpa using e1) (by simpa using e2))
section
variable {X:Cx} {x:Str} {p pos cpos apos:Pos} {o:Expr} {to:TE}
theorem DI (hc:X.calm=true) (hg:Gl X x) (hm:X.mg x=none) (hv:bootBuiltins x=some (.type "list")) (ho:PE X o to) (hn:x≠"__name__") (hdb:(x==("__debug__" : Str))=false)
  (hbase:attributeBase o "values" X.env (eval o X.env)=eval o X.env) (hline:(apos.endLine==cpos.line)=true) :
  PE X (.Call (.Name x p) [.Call (.Attribute o "values" apos) [] [] cpos] [] pos) (DX to):=by
 intro pins s σ H Q I h
 refine Xl (cO I hg hm hv ?_ hn hdb)
 refine Z1 (e:=.Call (.Attribute o "values" apos) [] [] cpos) (rest:=[]) ?_ rfl rfl
 refine XY ?_
 refine wpAny_Call_method0_late hbase hline (thn (ho pins s σ H _ I h) fun u s1 ⟨y,H1,I1,ry,a,xs,ey,hd,q1⟩=>?_)
 subst ey
 obtain rfl:u=Value.ref a:=ry
 have ok:aS X.prog X.w H1 s1.heap a (.dT xs):=by
  rcases hd with e|⟨ob,e⟩
  ·exact I1.hok a _ e
  ·exact (show s1.heap.get? a=some ob/\aS X.prog X.w H1 s1.heap a (.dT xs) from I1.hok a _ e).2
 obtain ⟨hz,hsys,ys,ob,es,ep,kt,h1,hx,hdt,h4⟩:=jg ok
 have rd:bE s1.heap a es ep:=⟨ob,h1,hx,hdt⟩
 refine ⟨"dict","dict.values",PySem.F.plainAttrs_dict,PySem.F.slot_dict_values,PySem.F.type_dict_values,rd.typeIs,fun b q=>?_,?_⟩
 ·cases q
  exact ⟨ob,h1,hx.2.1⟩
 ·refine Calls.callWith_builtin rfl (PySem.evalArgs_none ?_)
  refine Fo hsys rd ?_
  refine X8 ?_
  have hsz:=jx kt h4
  refine kdl_call (C7 (es:=es) (ep:=ep)) (I1.ok.hd hc) ⟨⟨_,Zw _ rfl,rfl,rfl⟩,rd.at fun o e=>Zg _ e⟩ (by rw [hsz]; exact hz) fun h' tk acc' c' hk hD hacc=>?_
  have kp:∀ b o,s1.heap.get? b=some o->h'.get? b=some o:=fun b o e=>hk b o (Zg _ e)
  have hle:s1.heap.objs.size<=(s1.heap.push { cls:=.type "dict_values",data:=.fields #[.ref a] }).objs.size:=by rw [Xk]; exact QL _
  have vals:Vals (xs.map (·.2)) acc'.toList:=by
   refine Paired.qR (by rw [Zd]; exact hsz.symm.trans (hacc.1.symm.trans ZD.symm)) fun i v u e1 e2=>?_
   rw [ZT] at e2
   obtain ⟨hi,rfl⟩:=hacc.2 i u e2
   obtain ⟨k,v',b,u',g1,_,g3,_,g5⟩:=qw kt h4 hi
   rw [ZM,g1] at e1
   cases e1
   rw [g5]; exact g3
  refine ⟨.ref _,_,I1.laid (h':=h') (t':=tk) (o:=.lst (xs.map (·.2))) kp hle ⟨by rw [Zd]; exact hz,acc'.toList,c',vals,by rw [Array.toArray_toList]; exact hD⟩,rfl,q1 _ (I1.hok.fresh hle)⟩
end
end L2
namespace L2
open PySem PySem.Spec PyProof.Rows
noncomputable def dX (acc:List Int) (x:Int):List Int:=if acc.contains x then acc else acc++[x]
theorem xB (acc:List Int) (x:Int):step_dedup acc x=dX acc x:=by
 unfold step_dedup dX
 have e:acc.any (·==x)=acc.contains x:=by
  rw [X1,Q7,Q9]
  constructor
  ·rintro ⟨y,h1,h2⟩; rw [<- eq_of_beq h2]; exact h1
  ·intro h; exact ⟨x,h,Z7 x⟩
 rw [e]
theorem DA (ns:List Int):firstMet (fun i=>ns.getD i 0) ns.length=ns.foldl dX []:=by
 unfold firstMet
 have e:(List.range ns.length).map (fun i=>ns.getD i 0)=ns:=by
  refine List.ext_getElem (by simp) fun i h1 h2=>?_
  simp [ZG,Zb h2]
 rw [e,show step_dedup=dX from funext fun a=>funext fun b=>xB a b]
noncomputable def yD (K:PySem.W.Frag) (te:TE):TE:=fun σ H Q=>te σ H fun x H1=>∃ (a:Addr) (ns:List Int),x=.ref a/\SqL K H1 a (ns.map V.int)/\ns.length<=1000/\Q (.int ((ns.foldl dX []).length:Int)) H1
section
variable {X:Cx} {x y:Str} {p p' pos pos':Pos} {a:Expr} {ta:TE}
theorem uv:∀ {ns:List Int} {its:List Value},Vals (ns.map V.int) its->IntsAre its ns
 | [],_,.nil=>.nil
 | n::r,_,.cons h t=>by
  obtain ⟨u,rfl⟩:=h
  exact .cons n u (uv t)
theorem tZ:∀ (xs acc:List Int),(xs.foldl dX acc).length<=acc.length+xs.length
 | [],acc=>by simp
 | x::r,acc=>by
  have h:=tZ r (dX acc x)
  have h2:(dX acc x).length<=acc.length+1:=by
   unfold dX
   split
   ·omega
   ·simp
  rw [Qp,ZB]; omega
theorem EH (hc:X.calm=true) (hg:Gl X x) (hm:X.mg x=none) (hv:bootBuiltins x=some (.builtin "len")) (hg':Gl X y) (hm':X.mg y=none) (hv':bootBuiltins y=some (.type "set")) (ha:PE X a ta)
  (hn:x≠"__name__") (hdb:(x==("__debug__" : Str))=false) (hn':y≠"__name__") (hdb':(y==("__debug__" : Str))=false) (hs:starEach [a] X.env=(false,eval a X.env)::starEach [] X.env) :
  PE X (.Call (.Name x p) [.Call (.Name y p') [a] [] pos'] [] pos) (yD X.K ta):=by
 intro pins s σ H Q I h
 refine Xl (cO I hg hm hv ?_ hn hdb)
 refine Ql (e:=.Call (.Name y p') [a] [] pos') (rest:=[]) ?_ rfl rfl
 refine XY ?_
 refine Xl (cO I hg' hm' hv' ?_ hn' hdb')
 refine Z1 (e:=a) (rest:=[]) ?_ hs rfl
 rw [hs]
 refine XY (thn (ha pins s σ H _ I h) fun u s1 ⟨v,H1,I1,r1,b,ns,e,sq,hz,q⟩=>X8 ?_)
 subst e
 cases r1
 obtain ⟨its,rv,pl,_⟩:=I1.list sq
 have hl:its.length=ns.length:=by rw [<- rv.length,Zd]
 refine call_set_list (ns:=ns) (I1.ok.hd hc) pl.isList (uv rv) (by rw [Zi,hl]; unfold scanBound; omega) fun h' tk st k1=>?_
 rw [show its.toArray.size=ns.length from hl,DA] at st
 obtain ⟨o,es,ep,t,ho,hex,hd,_,_,_,hf,hsz⟩:=st
 refine X8 (call_len_set (s:={ s1 with heap:=h',toks:=tk }) ho hex hd hf (by
  have:=tZ ns []
  simp at this
  omega) ?_)
 rw [hsz]
 exact ⟨.int _,H1,(I1.kept (h':=h') (t':=tk) fun b o e=>k1 b o (Zs e) e).tok _,⟨_,rfl⟩,q⟩
end
end L2

namespace EV
open PySem
inductive D where
 | non|bl (b:Bool)|int (i:Int)|str (x:Str)|tup (ds:List D)|loc (l:Nat)|exn (c:Str)|fro (ds:List D)
 deriving Inhabited
mutual
noncomputable def D.dec:(a b:D)->Decidable (a=b)
 | .non,b=>match b with|.non=>.isTrue rfl|.bl _|.int _|.str _|.tup _|.loc _|.exn _|.fro _=>.isFalse (fun h=>nomatch h)
 | .bl x,b=>match b with
  | .bl y=>if h:x=y then .isTrue (by rw [h]) else .isFalse (fun e=>h (D.bl.inj e))
  | .non|.int _|.str _|.tup _|.loc _|.exn _|.fro _=>.isFalse (fun h=>nomatch h)
 | .int x,b=>match b with
  | .int y=>if h:x=y then .isTrue (by rw [h]) else .isFalse (fun e=>h (D.int.inj e))
  | .non|.bl _|.str _|.tup _|.loc _|.exn _|.fro _=>.isFalse (fun h=>nomatch h)
 | .str x,b=>match b with
  | .str y=>if h:x=y then .isTrue (by rw [h]) else .isFalse (fun e=>h (D.str.inj e))
  | .non|.bl _|.int _|.tup _|.loc _|.exn _|.fro _=>.isFalse (fun h=>nomatch h)
 | .tup x,b=>match b with
  | .tup y=>match D.decs x y with
   | .isTrue h=>.isTrue (by rw [h])
   | .isFalse h=>.isFalse (fun e=>h (D.tup.inj e))
  | .non|.bl _|.int _|.str _|.loc _|.exn _|.fro _=>.isFalse (fun h=>nomatch h)
 | .loc x,b=>match b with
  | .loc y=>if h:x=y then .isTrue (by rw [h]) else .isFalse (fun e=>h (D.loc.inj e))
  | .non|.bl _|.int _|.str _|.tup _|.exn _|.fro _=>.isFalse (fun h=>nomatch h)
 | .exn x,b=>match b with
  | .exn y=>if h:x=y then .isTrue (by rw [h]) else .isFalse (fun e=>h (D.exn.inj e))
  | .non|.bl _|.int _|.str _|.tup _|.loc _|.fro _=>.isFalse (fun h=>nomatch h)
 | .fro x,b=>match b with
  | .fro y=>match D.decs x y with
   | .isTrue h=>.isTrue (by rw [h])
   | .isFalse h=>.isFalse (fun e=>h (D.fro.inj e))
  | .non|.bl _|.int _|.str _|.loc _|.exn _|.tup _=>.isFalse (fun h=>nomatch h)
noncomputable def D.decs:(a b:List D)->Decidable (a=b)
 | [],[]=>.isTrue rfl
 | [],_::_=>.isFalse (fun h=>nomatch h)
 | _::_,[]=>.isFalse (fun h=>nomatch h)
 | x::xs,y::ys=>match D.dec x y with
  | .isFalse h=>.isFalse (fun e=>h (Q6 e).1)
  | .isTrue h=>match D.decs xs ys with
   | .isTrue h'=>.isTrue (by rw [h,h'])
   | .isFalse h'=>.isFalse (fun e=>h' (Q6 e).2)
end
noncomputable instance:DecidableEq D:=D.dec
inductive Cell where
 | lst (ds:List D)|dct (kvs:List (List Int × D))|fdc (kvs:List (List Int × D))
 deriving DecidableEq,Inhabited
abbrev af:=List Cell
inductive Res (α:Type) where
 | ok (a:α) (S:af)|exc (c:Str) (S:af)|bad
noncomputable def M (α:Type):=af->Res α
noncomputable instance:Monad M where
 pure a:=fun S=>.ok a S
 bind m f:=fun S=>match m S with
  | .ok a S'=>f a S'
  | .exc c S'=>.exc c S'
  | .bad=>.bad
theorem cT {α β:Type} (m:M α) (f:α->M β) (S:af):(m>>=f) S=match m S with|.ok a S'=>f a S'|.exc c S'=>.exc c S'|.bad=>.bad:=rfl
theorem aj {α β:Type} {m:M α} {f:α->M β} {S S':af} {a:α} (h:m S=.ok a S'):(m>>=f) S=f a S':=by rw [cT,h]
theorem cB {α β:Type} {m:M α} {f:α->M β} {S S':af} {c:Str} (h:m S=.exc c S'):(m>>=f) S=.exc c S':=by rw [cT,h]
theorem aT {α β:Type} {m:M α} {f:α->M β} {S:af} (h:m S=.bad):(m>>=f) S=.bad:=by rw [cT,h]
noncomputable def bad {α:Type}:M α:=fun _=>.bad
noncomputable def opt {α:Type}:Option α->M α
 | some a=>pure a
 | none=>bad
noncomputable def alloc (c:Cell):M D:=fun S=>.ok (.loc S.length) (S++[c])
noncomputable def quiet {α:Type} (m:M α):M α:=fun S=>match m S with
 | .ok a S'=>.ok a S'
 | _=>.bad
noncomputable def aI:Nat:=16777216
noncomputable def fits (n:Nat):Bool:=decide (n<=aI)
noncomputable def eN (n:Nat):Bool:=decide (n < aI)
noncomputable def guard {α:Type} (b:Bool) (m:M α):M α:=match b with
 | true=>m
 | false=>bad
noncomputable def listAt (S:af) (l:Nat):Option (List D):=match S[l]? with
 | some (.lst ds)=>some ds
 | _=>none
noncomputable def items:D->M (List D)
 | .tup ds=>pure ds
 | .loc l=>fun S=>match listAt S l with
  | some ds=>.ok ds S
  | none=>.bad
 | .fro ds=>pure ds
 | _=>bad
noncomputable def cu:D->M (List D)
 | .loc l=>items (.loc l)
 | .fro ds=>pure ds
 | _=>bad
noncomputable def asL (S:af):D->Option (List D)
 | .loc l=>listAt S l
 | .fro ds=>some ds
 | _=>none
noncomputable def i2b (b:Bool):Int:=if b then 1 else 0
noncomputable def bh:D->D->Option Bool
 | .non,.non=>some true
 | .non,.bl _|.non,.int _|.non,.str _|.bl _,.non|.int _,.non|.str _,.non=>some false
 | .bl a,.bl b=>some (a==b)
 | .bl a,.int b=>some (i2b a==b)
 | .int a,.bl b=>some (a==i2b b)
 | .int a,.int b=>some (a==b)
 | .str a,.str b=>some (a==b)
 | .bl _,.str _|.int _,.str _|.str _,.bl _|.str _,.int _=>some false
 | _,_=>none
noncomputable def bC (f:D->D->Option Bool):List D->List D->Option Bool
 | x::xs,y::ys=>match f x y,bC f xs ys with
  | some a,some b=>some (a&&b)
  | _,_=>none
 | _,_=>some true
inductive Kd where|flat|tup|list|other
noncomputable def D.kd:D->Kd
 | .non|.bl _|.int _|.str _=>.flat
 | .tup _=>.tup
 | .loc _|.fro _=>.list
 | .exn _=>.other
noncomputable def D.its:D->List D
 | .tup ds=>ds
 | _=>[]
noncomputable def eqD:Nat->af->D->D->Option Bool
 | 0,_,_,_=>none
 | n+1,S,a,b=>match a.kd,b.kd with
  | .flat,.flat=>bh a b
  | .tup,.tup=>(bC (eqD n S) a.its b.its).map fun r=>r&&(a.its.length==b.its.length)
  | .list,.list=>match asL S a,asL S b with
   | some xs,some ys=>if xs.length=ys.length then bC (eqD n S) xs ys else some false
   | _,_=>none
  | .list,.tup=>(asL S a).map fun _=>false
  | .tup,.list=>(asL S b).map fun _=>false
  | .list,.flat=>(asL S a).map fun _=>false
  | .flat,.list=>(asL S b).map fun _=>false
  | .tup,.flat=>some false
  | .flat,.tup=>some false
  | _,_=>none
noncomputable def deep:Nat:=12
noncomputable def eqM (a b:D):M Bool:=fun S=>match eqD deep S a b with
 | some k=>.ok k S
 | none=>.bad
noncomputable def inL (S:af) (x:D):List D->Option Bool
 | []=>some false
 | y::ys=>match eqD deep S y x,inL S x ys with
  | some a,some b=>some (a||b)
  | _,_=>none
inductive Op2 where|add|sub|mul|fdiv|mod|pow
inductive Cm where|lt|le|gt|ge|eq|ne|isin|dP|din|dnin
inductive Ty where|int|bool|str|list|tuple|dict|cls (c:Str)
 deriving DecidableEq
inductive Bi where|len|inst (t:Ty)|all|any|sum|min|max|sorted|sortedSet|list|tuple|int|abs|rangeT|rangeL|vals|lenS
inductive Me where|append|extend
noncomputable def small (i:Int):Bool:=decide (-(2 ^ 64) < i/\i < 2 ^ 64)
noncomputable def a_ (l:Nat) (f:List D->M D):M D:=fun S=>match S[l]? with
 | some (.lst ds)=>f ds S
 | _=>.bad
noncomputable def put (l:Nat) (c:Cell):M D:=fun S=>.ok .non (S.set l c)
noncomputable def xg (a b:Nat):M D:=a_ a fun xs=>a_ b fun ys=>guard (fits (xs.length+ys.length)) (alloc (.lst (xs++ys)))
noncomputable def zD:D->D->M D
 | .int i,.int j=>pure (.int (i+j))
 | .tup xs,.tup ys=>guard (fits (xs.length+ys.length)) (pure (.tup (xs++ys)))
 | .str x,.str y=>guard (fits (x.length+y.length)) (pure (.str (x++y)))
 | .loc a,.loc b=>xg a b
 | _,_=>bad
noncomputable def ya:D->D->M D
 | .int i,.int j=>pure (.int (i - j))
 | _,_=>bad
noncomputable def Ik (l:Nat) (j:Int):M D:=a_ l fun xs=>guard (decide (-(2 ^ 63)<=j)&&decide (j < 2 ^ 63)&&fits (xs.length * j.toNat)) (alloc (.lst (List.replicate j.toNat xs).flatten))
noncomputable def Dt:D->D->M D
 | .int i,.int j=>guard (small i||small j) (pure (.int (i * j)))
 | _,_=>bad
noncomputable def Ae:D->D->M D
 | .int i,.int j=>guard (decide (0 < j)&&decide (j < 1073741824)) (pure (.int (i / j)))
 | _,_=>bad
noncomputable def vY:D->D->M D
 | .int i,.int j=>guard (decide (0 < j)) (pure (.int (i % j)))
 | _,_=>bad
noncomputable def D3:D->D->M D
 | .int i,.int j=>guard (decide (0<=j)&&decide (j<=1000)&&decide (i.natAbs < 2 ^ 64)) (pure (.int (i ^ j.toNat)))
 | _,_=>bad
noncomputable def opD:Op2->D->D->M D
 | .add=>zD
 | .sub=>ya
 | .mul=>Dt
 | .fdiv=>Ae
 | .mod=>vY
 | .pow=>D3
noncomputable def gb (p:Int->Int->Bool):D->D->M D
 | .int i,.int j=>pure (.bl (p i j))
 | _,_=>bad
noncomputable def inA (neg:Bool) (a:D) (ys:List D):M D:=fun S=>match inL S a ys with
 | some k=>.ok (.bl (k != neg)) S
 | none=>.bad
noncomputable def inM (neg:Bool) (a b:D):M D:=do
 let ys <- items b
 inA neg a ys
noncomputable def allInts:List D->Option (List Int)
 | []=>some []
 | .int i::r=>(allInts r).map (i :: ·)
 | _=>none
noncomputable def bT (kvs:List (List Int × D)) (k:List Int):Option D:=(kvs.find? fun kv=>decide (kv.1=k)).map (·.2)
noncomputable def iu (kvs:List (List Int × D)) (k:List Int) (d:D):List (List Int × D) :=
 if (kvs.any fun kv=>decide (kv.1=k))=true then kvs.map (fun kv=>if kv.1=k then (kv.1,d) else kv) else kvs++[(k,d)]
noncomputable def bO (l:Nat) (f:List (List Int × D)->M D):M D:=fun S=>match S[l]? with
 | some (.dct kvs)=>f kvs S
 | some (.fdc kvs)=>f kvs S
 | _=>.bad
noncomputable def gZ:D->D->M D
 | .loc l,.tup ds=>do
  let k <- opt (allInts ds)
  bO l fun kvs=>opt (bT kvs k)
 | _,_=>bad
noncomputable def i_ (neg:Bool):D->D->M D
 | .tup ds,.loc l=>do
  let k <- opt (allInts ds)
  bO l fun kvs=>pure (.bl ((bT kvs k).isSome != neg))
 | _,_=>bad
noncomputable def qK:D->M D
 | .loc l=>bO l fun kvs=>guard (fits kvs.length) (alloc (.lst (kvs.map (·.2))))
 | _=>bad
noncomputable def iz (acc:List Int) (x:Int):List Int:=if acc.contains x then acc else acc++[x]
noncomputable def gz (xs:List Int):Nat:=(xs.foldl iz []).length
noncomputable def iw:D->D->Bool
 | .bl _,.int _=>false
 | .int _,.bl _=>false
 | .tup _,.str _=>true
 | a,b=>match a.kd,b.kd with
  | .flat,.flat=>true
  | .tup,.tup=>true
  | .list,.list=>true
  | _,_=>false
noncomputable def cmD:Cm->D->D->M D
 | .lt=>gb fun i j=>decide (i < j)
 | .le=>gb fun i j=>decide (i<=j)
 | .gt=>gb fun i j=>decide (j < i)
 | .ge=>gb fun i j=>decide (j<=i)
 | .eq=>fun a b=>do pure (.bl (<- eqM a b))
 | .ne=>fun a b=>guard (iw a b) (do pure (.bl (!(<- eqM a b))))
 | .isin=>inM false
 | .dP=>inM true
 | .din=>i_ false
 | .dnin=>i_ true
noncomputable def truth:D->M Bool
 | .bl b=>pure b
 | .non=>pure false
 | .int i=>pure (i != 0)
 | .tup ds=>pure (!ds.isEmpty)
 | .loc l=>do
  let xs <- items (.loc l)
  pure (!xs.isEmpty)
 | .fro ds=>pure (!ds.isEmpty)
 | _=>bad
noncomputable def ixN (n:Nat) (i:Int):Option Nat:=if 0<=i then (if i < n then some i.toNat else none) else if -(n:Int)<=i then some (i+n).toNat else none
noncomputable def atI (xs:List D) (i:Int):Option D:=(ixN xs.length i).bind fun j=>xs[j]?
noncomputable def ixD (a i:D):M D:=match i with
 | .int j=>do
  let xs <- items a
  opt (atI xs j)
 | _=>bad
noncomputable def B7:D->D->D->M D
 | .loc l,.int k,d=>a_ l fun xs=>match ixN xs.length k with
  | some j=>put l (.lst (xs.set j d))
  | none=>bad
 | _,_,_=>bad
noncomputable def sIx (n d:Nat):Option Int->Nat
 | none=>d
 | some v=>if v < 0 then (v+(n:Int)).toNat else min v.toNat n
noncomputable def cut (xs:List D) (lo hi:Option Int):List D:=(xs.drop (sIx xs.length 0 lo)).take (sIx xs.length xs.length hi - sIx xs.length 0 lo)
noncomputable def slD (a:D) (lo hi:Option Int):M D:=match a with
 | .tup xs=>pure (.tup (cut xs lo hi))
 | .loc l=>do
  let xs <- items (.loc l)
  alloc (.lst (cut xs lo hi))
 | .fro xs=>alloc (.lst (cut xs lo hi))
 | _=>bad
noncomputable def cI:List D->Option (List Bool)
 | []=>some []
 | .bl i::r=>(cI r).map (i :: ·)
 | _=>none
noncomputable def ins (i:Int):List Int->List Int
 | []=>[i]
 | j::r=>if i<=j then i::j::r else j::ins i r
noncomputable def vH:List Int->List Int
 | []=>[]
 | i::r=>ins i (vH r)
abbrev Sub:=Str->Str->Bool
noncomputable def fZ (sub:Sub) (S:af):D->Ty->Option Bool
 | .non,t=>match t with|.cls _=>none|_=>some false
 | .bl _,t=>match t with|.cls _=>none|.int=>some true|.bool=>some true|_=>some false
 | .int _,t=>match t with|.cls _=>none|.int=>some true|_=>some false
 | .str _,t=>match t with|.cls _=>none|.str=>some true|_=>some false
 | .tup _,t=>match t with|.cls _=>none|.tuple=>some true|_=>some false
 | .loc l,t=>match S[l]?,t with
  | _,.cls _=>none
  | some (.lst _),.list=>some true
  | some (.lst _),_=>some false
  | some (.dct _),_=>none
  | some (.fdc _),_=>none
  | none,_=>none
 | .fro _,t=>match t with|.cls _=>none|.list=>some true|_=>some false
 | .exn c,t=>match t with|.cls d=>some (sub c d)|_=>none
noncomputable def lexLe:List Int->List Int->Bool
 | [],_=>true
 | _::_,[]=>false
 | a::r,b::q=>if a < b then true else if a=b then lexLe r q else false
noncomputable def bL (t:List Int):List (List Int)->List (List Int)
 | []=>[t]
 | u::r=>if t=u then u::r else if lexLe t u then t::u::r else u::bL t r
noncomputable def bA:List (List Int)->List (List Int)
 | []=>[]
 | t::r=>bL t (bA r)
noncomputable def tups:List D->Option (List (List Int))
 | []=>some []
 | .tup ds::r=>match allInts ds,tups r with
  | some t,some q=>some (t::q)
  | _,_=>none
 | _=>none
noncomputable def rng (lo hi step:Int):List Int :=
 if 0 < step then (List.range ((hi - lo+step - 1) / step).toNat).map fun (k:Nat)=>lo+k * step
 else if step < 0 then (List.range ((lo - hi - step - 1) / (-step)).toNat).map fun (k:Nat)=>lo+k * step
 else []
noncomputable def near (i:Int):Bool:=decide (-(2 ^ 62)<=i/\i < 2 ^ 62)
noncomputable def b_:List D->Option (List Int)
 | [.int j]=>if near j then some (rng 0 j 1) else none
 | [.int i,.int j]=>if near i&&near j then some (rng i j 1) else none
 | [.int i,.int j,.int k]=>if near i&&near j&&decide (k=-1) then some (rng i j k) else none
 | _=>none
noncomputable def D8:List Int->M D
 | []=>bad
 | i::r=>pure (.int (r.foldl min i))
noncomputable def kQ:List Int->M D
 | []=>bad
 | i::r=>pure (.int (r.foldl max i))
noncomputable def min2:D->D->M D
 | .int i,.int j=>pure (.int (if j < i then j else i))
 | _,_=>bad
noncomputable def max2:D->D->M D
 | .int i,.int j=>pure (.int (if j > i then j else i))
 | _,_=>bad
noncomputable def toInt:D->M D
 | .int i=>pure (.int i)
 | .bl b=>pure (.int (i2b b))
 | _=>bad
noncomputable def C4:D->M D
 | .int i=>pure (.int (if i < 0 then -i else i))
 | _=>bad
noncomputable def iU (sub:Sub) (t:Ty) (a:D):M D:=fun S=>match fZ sub S a t with
 | some k=>.ok (.bl k) S
 | none=>.bad
noncomputable def Il:D->M D
 | .tup ds=>pure (.tup ds)
 | a=>do pure (.tup (<- items a))
noncomputable def wU:Option (List (List Int))->M D
 | some ts=>guard (decide (ts.length < 64)&&decide ts.Nodup&&ts.all fun t=>!t.isEmpty) (alloc (.lst ((bA ts).map fun t=>.tup (t.map .int))))
 | none=>bad
noncomputable def E2 (r:M D):Option (List Int)->M D
 | some is=>guard (decide (is.length < 64)) (alloc (.lst ((vH is).map .int)))
 | none=>r
noncomputable def CN (ds:List D):M D:=E2 (wU (tups ds)) (allInts ds)
noncomputable def bi1 (sub:Sub):Bi->D->M D
 | .len,a=>do
  let ds <- items a
  pure (.int ds.length)
 | .inst t,a=>iU sub t a
 | .all,a=>do
  let ds <- items a
  let bs <- opt (cI ds)
  pure (.bl (bs.all id))
 | .any,a=>do
  let ds <- items a
  let bs <- opt (cI ds)
  pure (.bl (bs.any id))
 | .sum,a=>do
  let ds <- items a
  let is <- opt (allInts ds)
  pure (.int is.sum)
 | .min,a=>do
  let ds <- items a
  let is <- opt (allInts ds)
  D8 is
 | .max,a=>do
  let ds <- items a
  let is <- opt (allInts ds)
  kQ is
 | .sorted,a=>do
  let ds <- items a
  CN ds
 | .sortedSet,a=>do
  let ds <- cu a
  let ts <- opt (tups ds)
  guard (decide (ts.length<=18)&&ts.all fun t=>!t.isEmpty) (alloc (.lst ((bA ts).map fun t=>.tup (t.map .int))))
 | .list,a=>do
  let ds <- items a
  alloc (.lst ds)
 | .tuple,a=>do
  let ds <- items a
  pure (.tup ds)
 | .int,a=>toInt a
 | .abs,a=>C4 a
 | .vals,a=>qK a
 | .lenS,a=>do
  let ds <- cu a
  let is <- opt (allInts ds)
  guard (decide (is.length<=18)) (pure (.int (gz is)))
 | .rangeT,_=>bad
 | .rangeL,_=>bad
noncomputable def bi2:Bi->D->D->M D
 | .min=>min2
 | .max=>max2
 | _=>fun _ _=>bad
noncomputable def biR:Bi->List D->M D
 | .rangeT,as=>do
  let is <- opt (b_ as)
  guard (fits is.length) (pure (.tup (is.map .int)))
 | .rangeL,as=>do
  let is <- opt (b_ as)
  guard (fits is.length) (alloc (.lst (is.map .int)))
 | _,_=>bad
noncomputable def Bi.isR:Bi->Bool
 | .rangeT=>true
 | .rangeL=>true
 | _=>false
noncomputable def biD (sub:Sub) (b:Bi) (as:List D):M D:=match b.isR with
 | true=>biR b as
 | false=>match as with
  | [a]=>bi1 sub b a
  | [a,c]=>bi2 b a c
  | _=>bad
noncomputable def yk:D->D->M D
 | .loc l,d=>a_ l fun ds=>guard (eN ds.length) (put l (.lst (ds++[d])))
 | _,_=>bad
noncomputable def Hi:D->D->M D
 | .loc l,.loc k=>a_ l fun ds=>a_ k fun es=>guard (fits (ds.length+es.length)) (put l (.lst (ds++es)))
 | _,_=>bad
noncomputable def Bx:D->M D
 | .loc l=>a_ l fun ds=>match ds.getLast? with
  | some d=>fun S=>.ok d (S.set l (.lst ds.dropLast))
  | none=>bad
 | _=>bad
noncomputable def meD (m:Me) (o:D) (as:List D):M D:=match as with
 | [d]=>match m with
  | .append=>yk o d
  | .extend=>Hi o d
 | _=>bad
inductive Tg where
 | one (i:Nat)|many (is:List Nat)
abbrev Sg:=List (Option D)
noncomputable def Tg.has:Tg->Nat->Bool
 | .one i,j=>i==j
 | .many is,j=>is.contains j
noncomputable def bY:List Nat->List D->Sg->Sg
 | i::is,d::ds,σ=>bY is ds (σ.set i (some d))
 | _,_,σ=>σ
noncomputable def aO:Tg->D->Sg->M Sg
 | .one i,d,σ=>pure (σ.set i (some d))
 | .many is,.tup ds,σ=>guard (decide (ds.length=is.length)) (pure (bY is ds σ))
 | _,_,_=>bad
inductive E where
 | v (i:Nat)|c (d:D)|bin (op:Op2) (a b:E)|cmp (op:Cm) (a b:E)|chn (o o':Cm) (a b c:E)|and (a b:E)|or (a b:E)|not (a:E)|neg (a:E)|isN (a:E)|notN (a:E)|ite (c a b:E)
 | nl|cs (a r:E)|tup (es:E)|lst (es:E)|ix (a i:E)|sl (a lo hi:E)|call (f:Str) (es:E)|bi (b:Bi) (es:E)|me (m:Me) (o es:E)
 | iSeq (a:E)|iEnum (a:E)|iRng (es:E)|iZip (es:E)|comp (k:Nat) (elt:E) (t:Tg) (it ife:E)|dget (o es:E)|dnew|dgv (o i:E)|iDct (o:E)|pop (o:E)
structure Src where
 its:List D
 l:Option Nat
 raw:List D
noncomputable def aD (s:Src):M Unit:=match s.l with
 | none=>pure ()
 | some l=>fun S=>match listAt S l with
  | some ds=>guard (decide (ds=s.raw)) (pure ()) S
  | none=>.bad
noncomputable def srcOf:D->M Src
 | .tup ds=>pure ⟨ds,none,ds⟩
 | .loc l=>do
  let ds <- items (.loc l)
  pure ⟨ds,some l,ds⟩
 | .fro ds=>pure ⟨ds,none,ds⟩
 | _=>bad
noncomputable def ia:D->M Src
 | .loc l=>fun S=>match S[l]? with
  | some (.dct kvs)=>.ok ⟨kvs.map fun kv=>.tup (kv.1.map .int),none,[]⟩ (S.set l (.fdc kvs))
  | some (.fdc kvs)=>.ok ⟨kvs.map fun kv=>.tup (kv.1.map .int),none,[]⟩ S
  | _=>.bad
 | _=>bad
noncomputable def qt:List D->List D->List D
 | x::r,y::q=>.tup [x,y]::qt r q
 | _,_=>[]
noncomputable def Bv:List D->M Src
 | [.tup xs,.tup ys]=>pure ⟨qt xs ys,none,[]⟩
 | _=>bad
noncomputable def num (k:Nat):List D->List D
 | []=>[]
 | d::r=>.tup [.int k,d]::num (k+1) r
noncomputable def br (s:Src) (f:D->M (Option D)):List D->M (List D)
 | []=>do
  aD s
  pure []
 | d::ds=>do
  aD s
  let y <- f d
  let ys <- br s f ds
  pure (match y with|some y=>y::ys|none=>ys)
noncomputable def fK:D->M (Option Int)
 | .int i=>pure (some i)
 | _=>bad
noncomputable def D.c_ (S:af):D->Bool
 | .loc l=>match S[l]? with|some (.lst _)=>true|_=>false
 | _=>false
noncomputable def ja {α:Type} (x:D) (m:M α):M α:=fun S=>guard (x.c_ S) m S
noncomputable def eU (l:Nat) (f:List (List Int × D)->M D):M D:=fun S=>match S[l]? with
 | some (.dct kvs)=>f kvs S
 | _=>.bad
noncomputable def C0 (a:D) (ds:List D):M D:=match a with
 | .loc l=>do
  let k <- opt (allInts ds)
  eU l fun kvs=>opt (bT kvs k)
 | _=>bad
noncomputable def nR (a:D) (ds:List D) (d:D):M D:=match a with
 | .loc l=>do
  let k <- opt (allInts ds)
  eU l fun kvs=>guard (eN kvs.length) (put l (.dct (iu kvs k d)))
 | _=>bad
noncomputable def iP (a:D):D->D->M D
 | .tup ds,d=>nR a ds d
 | _,_=>bad
noncomputable def bx (σ:Sg) (i:Nat):M D:=match σ[i]? with
 | some (some d)=>pure d
 | _=>bad
noncomputable def E.aY:E->Bool
 | .nl=>true
 | _=>false
section
variable (sub:Sub) (cf:Str->List D->M D)
mutual
noncomputable def ev:E->Sg->M D
 | .v i,σ=>bx σ i
 | .c d,_=>pure d
 | .bin op a b,σ=>do
  let x <- ev a σ
  let y <- ev b σ
  opD op x y
 | .cmp op a b,σ=>do
  let x <- ev a σ
  let y <- ev b σ
  cmD op x y
 | .chn o o' a b c,σ=>do
  let x <- ev a σ
  let y <- ev b σ
  match <- cmD o x y with
   | .bl true=>do
    let z <- ev c σ
    cmD o' y z
   | .bl false=>pure (.bl false)
   | _=>bad
 | .and a b,σ=>do
  match <- ev a σ with
   | .bl true=>ev b σ
   | .bl false=>pure (.bl false)
   | _=>bad
 | .or a b,σ=>do
  match <- ev a σ with
   | .bl true=>pure (.bl true)
   | .bl false=>ev b σ
   | _=>bad
 | .not a,σ=>do
  match <- ev a σ with
   | .bl b=>pure (.bl (!b))
   | _=>bad
 | .neg a,σ=>do
  match <- ev a σ with
   | .int i=>pure (.int (-i))
   | _=>bad
 | .isN a,σ=>do
  let x <- ev a σ
  pure (.bl (decide (x=.non)))
 | .notN a,σ=>do
  let x <- ev a σ
  pure (.bl (!decide (x=.non)))
 | .ite c a b,σ=>do
  if <- evT c σ then ev a σ else ev b σ
 | .tup es,σ=>do
  let ds <- evs es σ
  guard (fits ds.length) (pure (.tup ds))
 | .lst es,σ=>do
  let ds <- evs es σ
  guard (fits ds.length) (alloc (.lst ds))
 | .ix a i,σ=>do
  let x <- ev a σ
  let y <- ev i σ
  ixD x y
 | .sl a lo hi,σ=>do
  let x <- ev a σ
  let l <- (if lo.aY then pure none else do fK (<- ev lo σ))
  let h <- (if hi.aY then pure none else do fK (<- ev hi σ))
  slD x l h
 | .call f es,σ=>do
  let ds <- evs es σ
  cf f ds
 | .bi b es,σ=>do
  let ds <- evs es σ
  biD sub b ds
 | .me m o es,σ=>do
  let x <- ev o σ
  ja x (do
   let ds <- evs es σ
   meD m x ds)
 | .comp k elt t it ife,σ=>do
  let s <- evI it σ
  let ys <- quiet (br s (fun d=>do
   let σ' <- aO t d (σ++List.replicate k none)
   if <- (if ife.aY then pure true else evT ife σ') then do
    let y <- ev elt σ'
    pure (some y)
   else pure none) s.its)
  guard (fits ys.length) (alloc (.lst ys))
 | .dget o es,σ=>do
  let x <- ev o σ
  let ds <- evs es σ
  guard (fits ds.length) (C0 x ds)
 | .dnew,_=>alloc (.dct [])
 | .dgv o i,σ=>do
  let x <- ev o σ
  let y <- ev i σ
  gZ x y
 | .iDct _,_=>bad
 | .pop o,σ=>do
  let x <- ev o σ
  Bx x
 | .nl,_=>bad
 | .cs _ _,_=>bad
 | .iSeq _,_=>bad
 | .iEnum _,_=>bad
 | .iRng _,_=>bad
 | .iZip _,_=>bad
noncomputable def evT:E->Sg->M Bool
 | .and a b,σ=>do
  if <- evT a σ then evT b σ else pure false
 | .or a b,σ=>do
  if <- evT a σ then pure true else evT b σ
 | .not a,σ=>do
  let b <- evT a σ
  pure (!b)
 | .v i,σ=>bx σ i>>=truth
 | .c d,_=>pure d>>=truth
 | .cmp op a b,σ=>do
  let x <- ev a σ
  let y <- ev b σ
  truth (<- cmD op x y)
 | .chn o o' a b c,σ=>do
  let x <- ev a σ
  let y <- ev b σ
  if <- truth (<- cmD o x y) then do
   let z <- ev c σ
   truth (<- cmD o' y z)
  else pure false
 | .isN a,σ=>do
  let x <- ev a σ
  pure (decide (x=.non))
 | .notN a,σ=>do
  let x <- ev a σ
  pure (!decide (x=.non))
 | .ix a i,σ=>(do
  let x <- ev a σ
  let y <- ev i σ
  ixD x y)>>=truth
 | .call f es,σ=>(do
  let ds <- evs es σ
  cf f ds)>>=truth
 | .bi b es,σ=>(do
  let ds <- evs es σ
  biD sub b ds)>>=truth
 | _,_=>bad
noncomputable def evs:E->Sg->M (List D)
 | .nl,_=>pure []
 | .cs a r,σ=>do
  let x <- ev a σ
  let xs <- evs r σ
  pure (x::xs)
 | _,_=>bad
noncomputable def evI:E->Sg->M Src
 | .iSeq a,σ=>do srcOf (<- ev a σ)
 | .iEnum a,σ=>do
  let s <- srcOf (<- ev a σ)
  pure { s with its:=num 0 s.its }
 | .iRng es,σ=>do
  let is <- opt (b_ (<- evs es σ))
  pure ⟨is.map .int,none,[]⟩
 | .iZip es,σ=>do Bv (<- evs es σ)
 | .iDct a,σ=>do ia (<- ev a σ)
 | _,_=>bad
end
end
inductive S where
 | ret (e:E)|retN|set (t:Tg) (e:E)|setIx (o i e:E)|dset (o es e:E)|dsv (o i e:E)|ex (e:E)|ite (c:E) (a b:S)|forS (t:Tg) (it:E) (b:S)|whl (c:E) (b:S)|rais (c:Str)|tryR (f:Str) (es:E) (c:Str) (d:D)|tryE (f:Str) (es:E) (c:Str) (d:D)
 | skip|seq (a b:S)|brk|cont
inductive Fl where
 | nx (σ:Sg)|rt (d:D)|bk (σ:Sg)|ct (σ:Sg)
noncomputable def forL (s:Src) (f:D->Sg->M Fl):List D->Sg->M Fl
 | [],σ=>do
  aD s
  pure (.nx σ)
 | d::ds,σ=>do
  aD s
  match <- f d σ with
   | .nx σ'=>forL s f ds σ'
   | .ct σ'=>forL s f ds σ'
   | .bk σ'=>pure (.nx σ')
   | .rt d=>pure (.rt d)
noncomputable def bD (c:Sg->M Bool) (f:Sg->M Fl):Nat->Sg->M Fl
 | 0,_=>bad
 | n+1,σ=>do
  if <- c σ then do
   match <- f σ with
    | .nx σ'=>bD c f n σ'
    | .ct σ'=>bD c f n σ'
    | .bk σ'=>pure (.nx σ')
    | .rt d=>pure (.rt d)
  else pure (.nx σ)
noncomputable def Eg (c:Str) (d:D) (m:M D):M D:=fun S=>match m S with
 | .ok v S'=>.ok v S'
 | .exc c' S'=>if c'=c then .ok d S' else .bad
 | .bad=>.bad
noncomputable def CF (c:Str) (d:D) (σ:Sg) (m:M D):M Fl:=fun S=>match m S with
 | .ok _ S'=>.ok (.nx σ) S'
 | .exc c' S'=>if c'=c then .ok (.rt d) S' else .bad
 | .bad=>.bad
noncomputable def gx:Nat:=1000000
section
variable (sub:Sub) (cf:Str->List D->M D)
noncomputable def exec:S->Sg->M Fl
 | .ret e,σ=>do
  let d <- ev sub cf e σ
  pure (.rt d)
 | .retN,_=>pure (.rt .non)
 | .set t e,σ=>do
  let d <- ev sub cf e σ
  let σ' <- aO t d σ
  pure (.nx σ')
 | .setIx o i e,σ=>do
  let d <- ev sub cf e σ
  let a <- ev sub cf o σ
  let k <- ev sub cf i σ
  let _ <- B7 a k d
  pure (.nx σ)
 | .dset o es e,σ=>do
  let d <- ev sub cf e σ
  let a <- ev sub cf o σ
  let ks <- evs sub cf es σ
  let _ <- guard (fits ks.length) (nR a ks d)
  pure (.nx σ)
 | .dsv o i e,σ=>do
  let d <- ev sub cf e σ
  let a <- ev sub cf o σ
  let k <- ev sub cf i σ
  let _ <- iP a k d
  pure (.nx σ)
 | .ex e,σ=>do
  let _ <- ev sub cf e σ
  pure (.nx σ)
 | .ite c a b,σ=>do
  if <- evT sub cf c σ then exec a σ else exec b σ
 | .forS t it b,σ=>quiet (do
  let s <- evI sub cf it σ
  forL s (fun d σ=>do
   let σ' <- aO t d σ
   exec b σ') s.its σ)
 | .whl c b,σ=>quiet (bD (evT sub cf c) (exec b) gx σ)
 | .rais c,_=>fun S=>.exc c S
 | .tryR f es c d,σ=>do
  let ds <- quiet (evs sub cf es σ)
  let v <- Eg c d (cf f ds)
  pure (.rt v)
 | .tryE f es c d,σ=>do
  let ds <- quiet (evs sub cf es σ)
  CF c d σ (cf f ds)
 | .skip,σ=>pure (.nx σ)
 | .seq a b,σ=>do
  match <- exec a σ with
   | .nx σ'=>exec b σ'
   | f=>pure f
 | .brk,σ=>pure (.bk σ)
 | .cont,σ=>pure (.ct σ)
end
mutual
noncomputable def D.low (n:Nat):D->Bool
 | .tup ds=>D.lows n ds
 | .fro ds=>D.lows n ds
 | .loc l=>decide (l < n)
 | _=>true
noncomputable def D.lows (n:Nat):List D->Bool
 | []=>true
 | d::r=>D.low n d&&D.lows n r
end
noncomputable def Cell.low (n:Nat):Cell->Bool
 | .lst ds=>D.lows n ds
 | .dct _=>false
 | .fdc _=>false
noncomputable def leave (S:af) (d:D) (S':af):Res D :=
 if S'.take S.length=S then
  if d.low S.length then .ok d S
  else match d with
   | .loc l=>match S'[l]? with
    | some c=>if c.low S.length then .ok (.loc S.length) (S++[c]) else .ok d S'
    | none=>.ok d S'
   | _=>.ok d S'
 else .ok d S'
structure Fn where
 par:Nat
 names:Nat
 body:S
abbrev Prg:=List (Str × Fn)
noncomputable def iV (S:af):Res Fl->Res D
 | .ok (.rt d) S'=>leave S d S'
 | .ok (.nx _) S'=>leave S .non S'
 | .ok (.bk _) _=>.bad
 | .ok (.ct _) _=>.bad
 | .exc c S'=>if S'.take S.length=S then .exc c S else .exc c S'
 | .bad=>.bad
noncomputable def frame (F:Fn) (ds:List D):Sg:=ds.map some++List.replicate (F.names - ds.length) none
noncomputable def ah (sub:Sub) (P:Prg):Nat->Str->List D->M D
 | 0,_,_=>bad
 | n+1,f,ds=>fun S=>match P.lookup f with
  | none=>.bad
  | some F=>if ds.length=F.par then iV S (exec sub (ah sub P n) F.body (frame F ds) S) else .bad
theorem tU {sub:Sub} {P:Prg} {n:Nat} {f:Str} {ds:List D} {S:af} {F:Fn} (h:P.lookup f=some F) (hl:ds.length=F.par):ah sub P (n+1) f ds S=iV S (exec sub (ah sub P n) F.body (frame F ds) S):=by
 show (match P.lookup f with|none=>Res.bad|some F=>if ds.length=F.par then iV S (exec sub (ah sub P n) F.body (frame F ds) S) else .bad)=_
 rw [h]; simp only [hl,Xj]
theorem HL {sub:Sub} {P:Prg} {n:Nat} {f:Str} {ds:List D} {S:af} {F:Fn} (h:P.lookup f=some F) (hl:ds.length≠F.par):ah sub P (n+1) f ds S=.bad:=by
 show (match P.lookup f with|none=>Res.bad|some F=>if ds.length=F.par then iV S (exec sub (ah sub P n) F.body (frame F ds) S) else .bad)=_
 rw [h]; simp only [hl,ZK]
end EV

namespace EV
open PySem PySem.Spec PyProof.Rows L2
theorem Paired.get {α β:Type} {F:α->β->Prop}:∀ {xs:List α} {ys:List β} {i:Nat} {x:α},Paired F xs ys->xs[i]?=some x->∃ y,ys[i]?=some y/\F x y
 | _,_,_,_,.nil,e=>by simp at e
 | _,_,0,_,.cons r _,e=>by simp at e; subst e; exact ⟨_,rfl,r⟩
 | _,_,i+1,x,.cons _ t,e=>by
  obtain ⟨u,h1,h2⟩:=Paired.get (i:=i) (x:=x) t (by simpa using e)
  exact ⟨u,by simpa using h1,h2⟩
theorem Paired.get' {α β:Type} {F:α->β->Prop} {xs:List α} {ys:List β} {i:Nat} {y:β} (p:Paired F xs ys) (e:ys[i]?=some y):∃ x,xs[i]?=some x/\F x y:=by
 have hl:=p.length
 have hi:i < xs.length:=by rw [hl]; exact (Zh.mp e).1
 obtain ⟨y',e',f⟩:=Paired.get p (Zb hi)
 rw [e] at e'; cases e'
 exact ⟨_,Zb hi,f⟩
theorem Paired.step {α β:Type} {F:α->β->Prop} {ds:List α} {vs:List β} {n:Nat} (h:Paired F ds vs) (hl:ds.length=n+1):∃ d r v q,ds=d::r/\vs=v::q/\F d v/\Paired F r q/\r.length=n:=by
 cases h with
 | nil=>cases hl
 | cons f t=>exact ⟨_,_,_,_,rfl,rfl,f,t,Nat.succ.inj hl⟩
theorem Paired.last {α β:Type} {F:α->β->Prop} {ds:List α} {vs:List β} (h:Paired F ds vs) (hl:ds.length=0):ds=[]/\vs=[]:=by
 cases h with
 | nil=>exact ⟨rfl,rfl⟩
 | cons f t=>cases hl
theorem Paired.app {α β:Type} {F:α->β->Prop}:∀ {a c:List α} {b d:List β},Paired F a b->Paired F c d->Paired F (a++c) (b++d)
 | _,_,_,_,.nil,s=>s
 | _,_,_,_,.cons r t,s=>.cons r (Paired.app t s)
theorem Paired.tak {α β:Type} {F:α->β->Prop}:∀ {a:List α} {b:List β} (n:Nat),Paired F a b->Paired F (a.take n) (b.take n)
 | _,_,0,_=>.nil
 | _,_,_+1,.nil=>.nil
 | _,_,n+1,.cons r t=>.cons r (Paired.tak n t)
theorem Paired.drp {α β:Type} {F:α->β->Prop}:∀ {a:List α} {b:List β} (n:Nat),Paired F a b->Paired F (a.drop n) (b.drop n)
 | _,_,0,r=>r
 | _,_,_+1,.nil=>.nil
 | _,_,n+1,.cons _ t=>Paired.drp n t
theorem Paired.imp {α β:Type} {F G:α->β->Prop} (f:∀ a b,F a b->G a b):∀ {l₁:List α} {l₂:List β},Paired F l₁ l₂->Paired G l₁ l₂
 | _,_,.nil=>.nil
 | _,_,.cons r t=>.cons (f _ _ r) (Paired.imp f t)
theorem Paired.of_get {α β:Type} {F:α->β->Prop}:∀ {xs:List α} {ys:List β},xs.length=ys.length->(∀ (i:Nat) x y,xs[i]?=some x->ys[i]?=some y->F x y)->Paired F xs ys
 | [],[],_,_=>.nil
 | [],_::_,h,_=>by simp at h
 | _::_,[],h,_=>by simp at h
 | x::xs,y::ys,h,f=>.cons (f 0 x y rfl rfl) (Paired.of_get (by simpa using h) fun i a b e1 e2=>f (i+1) a b (by simpa using e1) (by simpa using e2))
structure Gx where
 K:PySem.W.Frag
noncomputable def Fro (K:PySem.W.Frag) (H:Hp) (a:Addr) (xs:List V):Prop:=(∃ o,H a=some (.frz o (.lst xs)))\/∀ H:Hp,SqL K H a xs
theorem Fro.sq {K:PySem.W.Frag} {H:Hp} {a:Addr} {xs:List V} (h:Fro K H a xs):SqL K H a xs:=by
 rcases h with ⟨o,h⟩|h
 ·exact .inl (.inr ⟨o,h⟩)
 ·exact h H
inductive Rep (Γ:Gx) (ι:List Addr) (H:Hp):D->V->Prop
 | non:Rep Γ ι H .non .non
 | bl (b:Bool):Rep Γ ι H (.bl b) (.bl b)
 | int (i:Int):Rep Γ ι H (.int i) (.int i)
 | str (x:Str):Rep Γ ι H (.str x) (.str x)
 | tup {ds:List D} {a:Addr} {xs:List V}:SqT Γ.K H a xs->ds.length=xs.length->(∀ (i:Nat) d v,ds[i]?=some d->xs[i]?=some v->Rep Γ ι H d v)->(∀ k,allInts ds=some k->H a=some (.tup xs))->Rep Γ ι H (.tup ds) (.ref a)
 | fro {ds:List D} {a:Addr} {xs:List V}:Fro Γ.K H a xs->ds.length=xs.length->(∀ (i:Nat) d v,ds[i]?=some d->xs[i]?=some v->Rep Γ ι H d v)->Rep Γ ι H (.fro ds) (.ref a)
 | loc {l:Nat} {a:Addr}:ι[l]?=some a->Rep Γ ι H (.loc l) (.ref a)
abbrev av (Γ:Gx) (ι:List Addr) (H:Hp):List D->List V->Prop:=Paired (Rep Γ ι H)
theorem Rep.u5 {Γ:Gx} {ι:List Addr} {H:Hp} {ds:List D} {a:Addr} {xs:List V} (h:SqT Γ.K H a xs) (p:av Γ ι H ds xs) (hk:∀ k,allInts ds=some k->H a=some (.tup xs)):Rep Γ ι H (.tup ds) (.ref a) :=
 .tup h p.length (fun i d v e1 e2=>by
  obtain ⟨y,e,f⟩:=Paired.get p e1
  rw [e2] at e; cases e; exact f) hk
theorem Rep.i9 {Γ:Gx} {ι:List Addr} {H:Hp} {ds:List D} {a:Addr} {xs:List V} (h:H a=some (.tup xs)) (p:av Γ ι H ds xs):Rep Γ ι H (.tup ds) (.ref a):=.u5 (.of h) p fun _ _=>h
theorem Rep.eK {Γ:Gx} {ι:List Addr} {H:Hp} {ds:List D} {v:V} (h:Rep Γ ι H (.fro ds) v):∃ a xs,v=.ref a/\Fro Γ.K H a xs/\av Γ ι H ds xs:=by
 cases h with
 | fro h1 h2 h3=>exact ⟨_,_,rfl,h1,Paired.of_get h2 h3⟩
theorem Rep.bR {Γ:Gx} {ι:List Addr} {H:Hp} {ds:List D} {v:V} (h:Rep Γ ι H (.tup ds) v):∃ a xs,v=.ref a/\SqT Γ.K H a xs/\av Γ ι H ds xs:=by
 cases h with
 | tup h1 h2 h3 _=>exact ⟨_,_,rfl,h1,Paired.of_get h2 h3⟩
structure Ext (ι ι':List Addr) (H H':Hp):Prop where
 pre:ι <+: ι'
 tup:∀ a xs,H a=some (.tup xs)->H' a=some (.tup xs)
 frz:∀ a o u,H a=some (.frz o u)->H' a=some (.frz o u)
 oth:∀ a o,H a=some o->a ∉ ι->H' a=some o
 fresh:∀ a∈ι',a ∉ ι->H a=none
section
variable {ι ι1 ι2:List Addr} {H H1 H2:Hp}
theorem Ext.refl:Ext ι ι H H:=⟨Xo _,fun _ _ h=>h,fun _ _ _ h=>h,fun _ _ h _=>h,fun _ h n=>absurd h n⟩
theorem Ext.trans (a:Ext ι ι1 H H1) (b:Ext ι1 ι2 H1 H2):Ext ι ι2 H H2 where
 pre:=a.pre.trans b.pre
 tup:=fun x xs h=>b.tup x xs (a.tup x xs h)
 frz:=fun x o u h=>b.frz x o u (a.frz x o u h)
 oth:=fun x o h n=>b.oth x o (a.oth x o h n) fun m=>by
  have:=a.fresh x m n
  rw [h] at this; cases this
 fresh:=fun x m n=>by
  by_cases h1:x∈ι1
  ·exact a.fresh x h1 n
  ·have:=b.fresh x m h1
   cases q:H x with
   | none=>rfl
   | some o=>rw [a.oth x o q n] at this; cases this
theorem Ext.laid {p:Addr} {o:HO} (hp:H p=none):Ext ι ι H (upd H p o) :=
 ⟨Xo _,fun a xs h=>by rw [aA (bu h hp)]; exact h,fun a o u h=>by rw [aA (bu h hp)]; exact h,fun a o h _=>by rw [aA (bu h hp)]; exact h,fun _ h n=>absurd h n⟩
theorem Ext.more {p:Addr} {o:HO} (hp:H p=none):Ext ι (ι++[p]) H (upd H p o) :=
 ⟨Zl _ _,fun a xs h=>by rw [aA (bu h hp)]; exact h,fun a o u h=>by rw [aA (bu h hp)]; exact h,fun a o h _=>by rw [aA (bu h hp)]; exact h,fun a h n=>by
  rcases ZR.mp h with z|z
  ·exact absurd z n
  ·have:a=p:=by simpa using z
   rw [this]; exact hp⟩
theorem eZ {α:Type} {xs ys:List α} (h:xs <+: ys) {i:Nat} {x:α} (e:xs[i]?=some x):ys[i]?=some x:=by
 obtain ⟨t,rfl⟩:=h
 rw [ZE (Zh.mp e).1]
 exact e
end
section
variable {Γ:Gx} {ι ι1:List Addr} {H H1:Hp}
theorem Ext.sqT (e:Ext ι ι1 H H1) {a:Addr} {xs:List V} (h:SqT Γ.K H a xs):SqT Γ.K H1 a xs:=by
 rcases h with (h|⟨o,h⟩)|h
 ·exact .inl (.inl (e.tup _ _ h))
 ·exact .inl (.inr ⟨o,e.frz _ _ _ h⟩)
 ·exact .inr h
theorem Ext.fro (e:Ext ι ι1 H H1) {a:Addr} {xs:List V} (h:Fro Γ.K H a xs):Fro Γ.K H1 a xs:=by
 rcases h with ⟨o,h⟩|h
 ·exact .inl ⟨o,e.frz _ _ _ h⟩
 ·exact .inr h
theorem Rep.ext (e:Ext ι ι1 H H1) {d:D} {v:V} (h:Rep Γ ι H d v):Rep Γ ι1 H1 d v:=by
 induction h with
 | non=>exact .non
 | bl b=>exact .bl b
 | int i=>exact .int i
 | str x=>exact .str x
 | tup h1 h2 h3 h4 ih=>exact .tup (e.sqT h1) h2 ih fun k q=>e.tup _ _ (h4 k q)
 | fro h1 h2 h3 ih=>exact .fro (e.fro h1) h2 ih
 | loc h=>exact .loc (eZ e.pre h)
theorem av.ext (e:Ext ι ι1 H H1) {ds:List D} {vs:List V} (h:av Γ ι H ds vs):av Γ ι1 H1 ds vs:=Paired.imp (fun _ _ r=>Rep.ext e r) h
end
abbrev aC (Γ:Gx) (ι:List Addr) (H:Hp):List (List Int × D)->List (List Key × V)->Prop:=Paired fun p q=>q.1=p.1.map Sum.inl/\Rep Γ ι H p.2 q.2
noncomputable def jy (Γ:Gx) (ι:List Addr) (H:Hp) (a:Addr):Cell->Prop
 | .lst ds=>∃ xs,H a=some (.lst xs)/\av Γ ι H ds xs
 | .dct kvs=>∃ xs,H a=some (.dT xs)/\aC Γ ι H kvs xs
 | .fdc kvs=>∃ xs,(∃ o,H a=some (.frz o (.dT xs)))/\aC Γ ι H kvs xs
structure ao (Γ:Gx) (ι:List Addr) (H:Hp) (S:af):Prop where
 len:ι.length=S.length
 nd:ι.Nodup
 cell:∀ (l:Nat) c,S[l]?=some c->∃ a,ι[l]?=some a/\jy Γ ι H a c
structure aQ (Γ:Gx) (ι:List Addr) (H:Hp) (σ:L2.St) (σd:Sg):Prop where
 len:σ.length=σd.length
 var:∀ (i:Nat) d,σd[i]?=some (some d)->∃ v,σ[i]?=some (some v)/\Rep Γ ι H d v
theorem aQ.ext {Γ:Gx} {ι ι1:List Addr} {H H1:Hp} {σ:L2.St} {σd:Sg} (e:Ext ι ι1 H H1) (h:aQ Γ ι H σ σd):aQ Γ ι1 H1 σ σd :=
 ⟨h.len,fun i d q=>let ⟨v,a,b⟩:=h.var i d q; ⟨v,a,b.ext e⟩⟩
abbrev XW:=Str->af->List Addr->Hp->Prop
noncomputable def Out {α:Type} (Γ:Gx) (xw:XW) (ι:List Addr) (H:Hp) (r:Res α) (k:α->af->List Addr->Hp->Prop):Prop:=match r with
 | .ok a S'=>∀ ι' H',Ext ι ι' H H'->ao Γ ι' H' S'->k a S' ι' H'
 | .exc c S'=>∀ ι' H',Ext ι ι' H H'->ao Γ ι' H' S'->xw c S' ι' H'
 | .bad=>False
section
variable {Γ:Gx} {xw:XW} {ι ι1:List Addr} {H H1:Hp} {α β:Type}
theorem Out.step {r:Res α} {k:α->af->List Addr->Hp->Prop} (h:Out Γ xw ι H r k) (e:Ext ι ι1 H H1):Out Γ xw ι1 H1 r k:=by
 cases r with
 | ok a S'=>exact fun ι' H' e' s'=>h ι' H' (e.trans e') s'
 | exc c S'=>exact fun ι' H' e' s'=>h ι' H' (e.trans e') s'
 | bad=>exact h
theorem Out.mono {r:Res α} {k k':α->af->List Addr->Hp->Prop} (h:Out Γ xw ι H r k) (f:∀ a S' ι' H',Ext ι ι' H H'->ao Γ ι' H' S'->k a S' ι' H'->k' a S' ι' H'):Out Γ xw ι H r k':=by
 cases r with
 | ok a S'=>exact fun ι' H' e' s'=>f _ _ _ _ e' s' (h ι' H' e' s')
 | exc c S'=>exact h
 | bad=>exact h
theorem Out.bind {m:M α} {f:α->M β} {S:af} {k:β->af->List Addr->Hp->Prop} (h:Out Γ xw ι H ((m>>=f) S) k) :
  Out Γ xw ι H (m S) (fun a S' ι' H'=>ao Γ ι' H' S'/\Ext ι ι' H H'/\Out Γ xw ι' H' (f a S') k):=by
 rw [cT] at h
 cases q:m S with
 | ok a S'=>rw [q] at h; exact fun ι' H' e' s'=>⟨s',e',Out.step h e'⟩
 | exc c S'=>rw [q] at h; exact h
 | bad=>rw [q] at h; exact h
theorem Out.here {a:α} {S:af} {k:α->af->List Addr->Hp->Prop} (h:Out Γ xw ι H (.ok a S) k) (s:ao Γ ι H S):k a S ι H:=h ι H .refl s
theorem Out.quiet {m:M α} {S:af} {k:α->af->List Addr->Hp->Prop} (h:Out Γ xw ι H (quiet m S) k) (xw':XW):Out Γ xw' ι H (m S) k:=by
 unfold EV.quiet at h
 cases q:m S with
 | ok a S'=>rw [q] at h; exact h
 | exc c S'=>rw [q] at h; exact h.elim
 | bad=>rw [q] at h; exact h.elim
end
noncomputable def tM (Γ:Gx) (xw:XW) (m:Sg->M D):TE:=fun σ H Q=>∃ σd ι S,aQ Γ ι H σ σd/\ao Γ ι H S/\Out Γ xw ι H (m σd S) fun d _ ι' H'=>∀ v,Rep Γ ι' H' d v->Q v H'
noncomputable def tMT (Γ:Gx) (xw:XW) (m:Sg->M Bool):TT:=fun σ H Q=>∃ σd ι S,aQ Γ ι H σ σd/\ao Γ ι H S/\Out Γ xw ι H (m σd S) fun b _ _ H'=>Q b H'
noncomputable def tMA (Γ:Gx) (xw:XW) (m:Sg->M (List D)):TA:=fun σ H Q=>∃ σd ι S,aQ Γ ι H σ σd/\ao Γ ι H S/\Out Γ xw ι H (m σd S) fun ds _ ι' H'=>∀ vs,av Γ ι' H' ds vs->Q vs H'
theorem PE.imp {X:Cx} {e:Expr} {t t':TE} (h:PE X e t) (f:∀ σ H Q,t' σ H Q->t σ H Q):PE X e t':=fun pins s σ H Q I q=>h pins s σ H Q I (f σ H Q q)
theorem PT.imp {X:Cx} {e:Expr} {t t':TT} (h:PT X e t) (f:∀ σ H Q,t' σ H Q->t σ H Q):PT X e t':=fun pins s σ H Q I q=>h pins s σ H Q I (f σ H Q q)
theorem PW.imp {X:Cx} {e:Expr} {t t':TT} (h:PW X e t) (f:∀ σ H Q,t' σ H Q->t σ H Q):PW X e t':=fun w pins s σ H Q I q=>h w pins s σ H Q I (f σ H Q q)
theorem PA.imp {X:Cx} {e:List Expr} {t t':TA} (h:PA X e t) (f:∀ σ H Q,t' σ H Q->t σ H Q):PA X e t':=fun p pins s σ H Q I q=>h p pins s σ H Q I (f σ H Q q)
theorem PS.imp {X:Cx} {e:Stmt} {t t':TS} (h:PS X e t) (f:∀ D σ H,t' D σ H->t D σ H):PS X e t':=fun pins s σ H D I q=>h pins s σ H D I (f D σ H q)
theorem PSs.imp {X:Cx} {e:List Stmt} {t t':TS} (h:PSs X e t) (f:∀ D σ H,t' D σ H->t D σ H):PSs X e t':=fun pins s σ H D I q=>h pins s σ H D I (f D σ H q)
section
variable {Γ:Gx} {xw:XW} {σ:L2.St} {H:Hp}
noncomputable def sW (Γ:Gx) (xw:XW) (f:D->M D) (x:V) (H:Hp) (Q:VK):Prop:=∃ ι S dx,ao Γ ι H S/\Rep Γ ι H dx x/\Out Γ xw ι H (f dx S) fun d _ ι' H'=>∀ v,Rep Γ ι' H' d v->Q v H'
noncomputable def aU (Γ:Gx) (xw:XW) (f:D->D->M D) (x y:V) (H:Hp) (Q:VK):Prop :=
 ∃ ι S dx dy,ao Γ ι H S/\Rep Γ ι H dx x/\Rep Γ ι H dy y/\Out Γ xw ι H (f dx dy S) fun d _ ι' H'=>∀ v,Rep Γ ι' H' d v->Q v H'
noncomputable def cU (Γ:Gx) (xw:XW) (f:List D->M D) (xs:List V) (H:Hp) (Q:VK):Prop:=∃ ι S ds,ao Γ ι H S/\av Γ ι H ds xs/\Out Γ xw ι H (f ds S) fun d _ ι' H'=>∀ v,Rep Γ ι' H' d v->Q v H'
theorem B5 {ma:Sg->M D} {f:D->M D} {Q:VK} (h:tM Γ xw (fun σ=>ma σ>>=f) σ H Q):tM Γ xw ma σ H fun x H1=>sW Γ xw f x H1 Q:=by
 obtain ⟨σd,ι,S,he,hs,ho⟩:=h
 exact ⟨σd,ι,S,he,hs,ho.bind.mono fun d S' ι' H' _ _ ⟨s',e',o'⟩ v r=>⟨ι',S',d,s',r,o'⟩⟩
theorem lG {ma mb:Sg->M D} {f:D->D->M D} {Q:VK} (h:tM Γ xw (fun σ=>ma σ>>=fun x=>mb σ>>=fun y=>f x y) σ H Q) :
  tM Γ xw ma σ H fun x H1=>tM Γ xw mb σ H1 fun y H2=>aU Γ xw f x y H2 Q:=by
 obtain ⟨σd,ι,S,he,hs,ho⟩:=h
 exact ⟨σd,ι,S,he,hs,ho.bind.mono fun d S' ι' H' _ _ ⟨s',e',o'⟩ v r=>⟨σd,ι',S',he.ext e',s',o'.bind.mono fun d2 S2 ι2 H2 _ _ ⟨s2,e2,o2⟩ v2 r2=>⟨ι2,S2,d,d2,s2,r.ext e2,r2,o2⟩⟩⟩
theorem pB {ma:Sg->M (List D)} {f:List D->M D} {Q:VK} (h:tM Γ xw (fun σ=>ma σ>>=f) σ H Q):tMA Γ xw ma σ H fun xs H1=>cU Γ xw f xs H1 Q:=by
 obtain ⟨σd,ι,S,he,hs,ho⟩:=h
 exact ⟨σd,ι,S,he,hs,ho.bind.mono fun d S' ι' H' _ _ ⟨s',e',o'⟩ v r=>⟨ι',S',d,s',r,o'⟩⟩
end
end EV

namespace EV
open PySem PySem.Spec PyProof.Rows L2
open PySem.SeqAt (EqAt RcAt)
section
variable {X:Cx} {Γ:Gx} {xw:XW} {pins:List (Addr × Obj)} {σ:L2.St} {H:Hp} {s:Shared} {ι:List Addr} {S:af}
theorem ao.list (hS:ao Γ ι H S) {d:D} {v:V} {ds:List D} (r:Rep Γ ι H d v) (h:asL S d=some ds):∃ a xs,v=.ref a/\SqL Γ.K H a xs/\av Γ ι H ds xs:=by
 cases d with
 | loc l =>
  cases r with
  | loc q =>
   have h':listAt S l=some ds:=h
   unfold listAt at h'
   split at h'
   ·rename_i es e
    cases h'
    obtain ⟨a,ha,xs,hx,r⟩:=hS.cell l _ e
    rw [q] at ha; cases ha
    exact ⟨_,xs,rfl,.of hx,r⟩
   ·cases h'
 | fro es =>
  cases h
  obtain ⟨a,xs,rfl,hf,rs⟩:=r.eK
  exact ⟨a,xs,rfl,hf.sq,rs⟩
 | _=>cases h
theorem ao.lst (hS:ao Γ ι H S) {l:Nat} {ds:List D} (h:S[l]?=some (.lst ds)):∃ a xs,ι[l]?=some a/\H a=some (.lst xs)/\av Γ ι H ds xs:=by
 obtain ⟨a,ha,xs,hx,r⟩:=hS.cell l _ h
 exact ⟨a,xs,ha,hx,r⟩
theorem tV {l:Nat}:items (.loc l) S=match listAt S l with|some ds=>.ok ds S|none=>.bad:=rfl
theorem gy {α:Type}:∀ {xs:List α} {i j:Nat} {x:α},xs.Nodup->xs[i]?=some x->xs[j]?=some x->i=j
 | [],_,_,_,_,h,_=>by simp at h
 | y::r,0,0,_,_,_,_=>rfl
 | y::r,0,j+1,x,nd,h1,h2=>by
  simp at h1 h2
  subst h1
  exact absurd (Zy h2) (Xf.mp nd).1
 | y::r,i+1,0,x,nd,h1,h2=>by
  simp at h1 h2
  subst h2
  exact absurd (Zy h1) (Xf.mp nd).1
 | y::r,i+1,j+1,x,nd,h1,h2=>by
  exact Xm (· + 1) (gy (i:=i) (j:=j) (Xf.mp nd).2 (by simpa using h1) (by simpa using h2))
theorem fV {f:D->D->Option Bool}:∀ {xs ys:List D} {k:Bool},bC f xs ys=some k->∃ e:Nat->Bool,(∀ (j:Nat) x y,xs[j]?=some x->ys[j]?=some y->f x y=some (e j))/\k=(List.range (min xs.length ys.length)).all e
 | [],ys,k,h=>⟨fun _=>true,fun j x y e1 e2=>by simp at e1,by simp only [bC] at h; cases h; simp⟩
 | _::_,[],k,h=>⟨fun _=>true,fun j x y e1 e2=>by simp at e2,by simp only [bC] at h; cases h; simp⟩
 | x::xs,y::ys,k,h=>by
  simp only [bC] at h
  split at h
  ·rename_i a b e1 e2
   cases h
   obtain ⟨e,he,hk⟩:=fV e2
   refine ⟨fun j=>match j with|0=>a|j+1=>e j,fun j u v q1 q2=>?_,?_⟩
   ·cases j with
    | zero=>simp at q1 q2; subst q1; subst q2; exact e1
    | succ j=>exact he j u v (by simpa using q1) (by simpa using q2)
   ·rw [show min (x::xs).length (y::ys).length=min xs.length ys.length+1 by simp only [ZB]; omega,List.range_succ_eq_map,Wp,Wv]
    rw [hk]
    rfl
  ·cases h
theorem Rep.jj {d1 d2:D} {x:V} (q1:Rep Γ ι H d1 x) (q2:Rep Γ ι H d2 x) (e:d1.kd=.flat):d2.kd=.flat:=by
 have h1:Fe x=true:=by cases q1 <;> first|rfl|cases e
 cases q2 <;> first|rfl|cases h1
theorem Rep.Az {d1 d2:D} {x:V} (q1:Rep Γ ι H d1 x) (q2:Rep Γ ι H d2 x) (e:d1.kd=.flat):d1=d2:=by
 cases q1 <;> first|(cases e; done)|(cases q2; rfl)
theorem v9 {d:D} {k:Bool} (h:bh d d=some k):k=true:=by
 cases d <;> first|(cases h; done)|(simp [bh] at h; exact h)
theorem G0 (hK:Γ.K=X.K) (I:Inv X pins σ H s) (hS:ao Γ ι H S):∀ (m:Nat) (d1 d2:D) (k:Bool) (x:V),eqD m S d1 d2=some k->Rep Γ ι H d1 x->Rep Γ ι H d2 x->k=true:=by
 obtain ⟨K⟩:=Γ
 have hK':K=X.K:=hK
 subst hK'
 have all:∀ (m:Nat),(∀ (d1 d2:D) (k:Bool) (x:V),eqD m S d1 d2=some k->Rep ⟨X.K⟩ ι H d1 x->Rep ⟨X.K⟩ ι H d2 x->k=true) ->
   ∀ (ds es:List D) (xs:List V) (r:Bool),av ⟨X.K⟩ ι H ds xs->av ⟨X.K⟩ ι H es xs->bC (eqD m S) ds es=some r->r=true:=by
  intro m ihm ds es xs r p1 p2 hr
  obtain ⟨e,he,hk2⟩:=fV hr
  have l1:=p1.length
  have l2:=p2.length
  rw [hk2,Z8]
  intro j hj
  rw [Z6] at hj
  have hj1:j < ds.length:=by omega
  have hj2:j < es.length:=by omega
  obtain ⟨y1,a1,a2⟩:=Paired.get p1 (Zb hj1)
  obtain ⟨y2,a3,a4⟩:=Paired.get p2 (Zb hj2)
  rw [a1] at a3; cases a3
  exact ihm _ _ _ y1 (he j _ _ (Zb hj1) (Zb hj2)) a2 a4
 intro m
 induction m with
 | zero=>intro d1 d2 k x h; simp [eqD] at h
 | succ m ihm =>
  intro d1 d2 k x h q1 q2
  have hall:=all m ihm
  have tl:∀ {es:List D} {a:Addr} {d:D},(∃ xs,SqT X.K H a xs)->∀ {z},asL S d=some z->Rep ⟨X.K⟩ ι H d (.ref a)->False:=fun {es a d} ht {z} hz hr=>by
   obtain ⟨xs,ht⟩:=ht
   obtain ⟨b,ys,e,sb,_⟩:=hS.list hr hz
   cases e
   obtain ⟨its,_,pl,_⟩:=I.list sb
   obtain ⟨its2,_,pt,_⟩:=I.tuple ht
   exact absurd rfl (SeqAt.ne_of_list_tuple pl.isList pt)
  cases e1:d1.kd <;> cases e2:d2.kd <;> simp only [eqD,e1,e2] at h
  ·have e:=Rep.Az q1 q2 e1
   rw [<- e] at h
   exact v9 h
  ·rw [Rep.jj q1 q2 e1] at e2; cases e2
  ·rw [Rep.jj q1 q2 e1] at e2; cases e2
  ·cases h
  ·rw [Rep.jj q2 q1 e2] at e1; cases e1
  ·cases d1 <;> first|(cases e1; done)|skip
   cases d2 <;> first|(cases e2; done)|skip
   obtain ⟨a,xs,rfl,t1,p1⟩:=q1.bR
   obtain ⟨b,ys,eb,t2,p2⟩:=q2.bR
   cases eb
   have e:xs=ys:=I.jl t1 t2
   subst e
   simp only [ZC] at h
   obtain ⟨r,hr,hk⟩:=h
   have hl:(D.its (D.tup _)).length=(D.its (D.tup _)).length:=(p1.length).trans p2.length.symm
   rw [<- hk,hall _ _ xs r p1 p2 hr,hl]; simp
  ·simp only [ZC] at h
   obtain ⟨z,hz,_⟩:=h
   cases d1 <;> first|(cases e1; done)|skip
   obtain ⟨a,xs,rfl,t1,p1⟩:=q1.bR
   exact (tl (es:=[]) ⟨xs,t1⟩ hz q2).elim
  ·cases h
  ·rw [Rep.jj q2 q1 e2] at e1; cases e1
  ·simp only [ZC] at h
   obtain ⟨z,hz,_⟩:=h
   cases d2 <;> first|(cases e2; done)|skip
   obtain ⟨a,xs,rfl,t1,p1⟩:=q2.bR
   exact (tl (es:=[]) ⟨xs,t1⟩ hz q1).elim
  ·split at h
   ·rename_i ds es hd he
    obtain ⟨a,xs,rfl,s1,p1⟩:=hS.list q1 hd
    obtain ⟨b,ys,eb,s2,p2⟩:=hS.list q2 he
    cases eb
    have e:xs=ys:=I.jK s1 s2
    subst e
    rw [Ze (p1.length.trans p2.length.symm)] at h
    exact hall _ _ xs k p1 p2 h
   ·cases h
  ·cases h
  ·cases h
  ·cases h
  ·cases h
  ·cases h
theorem xu {A:Around} {d1 d2:D} {k:Bool} {x1 x2:V} {u1 u2:Value} (h:bh d1 d2=some k) (r1:Rep Γ ι H d1 x1) (r2:Rep Γ ι H d2 x2) (v1:RelV x1 u1) (v2:RelV x2 u2) (e1:d1.kd=.flat) (e2:d2.kd=.flat):RcAt A s u1 u2 k/\EqAt A s u1 u2 k:=by
 cases r1 <;> first|(cases e1; done)|skip
 all_goals (cases r2 <;> first|(cases e2; done)|skip)
 ·cases v1; cases v2; simp [bh] at h; subst h; exact ⟨RcAt.none_none,EqAt.same _⟩
 ·cases v1; cases v2; simp [bh] at h; subst h; exact ⟨.none_bool _,.none_bool _⟩
 ·cases v1; obtain ⟨t,rfl⟩:=v2; simp [bh] at h; subst h; exact ⟨.none_int _ t,.none_int _ t⟩
 ·cases v1; obtain ⟨t,rfl⟩:=v2; simp [bh] at h; subst h; exact ⟨.none_str _ t,.none_str _ t⟩
 ·cases v1; cases v2; simp [bh] at h; subst h; exact ⟨.bool_none _,.bool_none _⟩
 ·cases v1; cases v2; simp [bh] at h; subst h; exact ⟨.bool_bool _ _,.bool_bool _ _⟩
 ·cases v1; obtain ⟨t,rfl⟩:=v2; simp [bh] at h; subst h; exact ⟨.bool_int _ _ t,.bool_int _ _ t⟩
 ·cases v1; obtain ⟨t,rfl⟩:=v2; simp [bh] at h; subst h; exact ⟨.bool_str _ _ t,.bool_str _ _ t⟩
 ·obtain ⟨ta,rfl⟩:=v1; cases v2; simp [bh] at h; subst h; exact ⟨.int_none _ ta,.int_none _ ta⟩
 ·obtain ⟨ta,rfl⟩:=v1; cases v2; simp [bh] at h; subst h; exact ⟨.int_bool _ ta _,.int_bool _ ta _⟩
 ·obtain ⟨ta,rfl⟩:=v1; obtain ⟨t,rfl⟩:=v2; simp [bh] at h; subst h; exact ⟨.int_int _ ta _ t,.int_int _ ta _ t⟩
 ·obtain ⟨ta,rfl⟩:=v1; obtain ⟨t,rfl⟩:=v2; simp [bh] at h; subst h; exact ⟨.int_str _ ta _ t,.int_str _ ta _ t⟩
 ·obtain ⟨ta,rfl⟩:=v1; cases v2; simp [bh] at h; subst h; exact ⟨.str_none _ ta,.str_none _ ta⟩
 ·obtain ⟨ta,rfl⟩:=v1; cases v2; simp [bh] at h; subst h; exact ⟨.str_bool _ ta _,.str_bool _ ta _⟩
 ·obtain ⟨ta,rfl⟩:=v1; obtain ⟨t,rfl⟩:=v2; simp [bh] at h; subst h; exact ⟨.str_int _ ta _ t,.str_int _ ta _ t⟩
 ·obtain ⟨ta,rfl⟩:=v1; obtain ⟨t,rfl⟩:=v2; simp [bh] at h; subst h; exact ⟨.str_str _ ta _ t,.str_str _ ta _ t⟩
theorem m6 (hK:Γ.K=X.K) (I:Inv X pins σ H s) (hS:ao Γ ι H S):∀ (n:Nat) (A:Around) (d1 d2:D) (k:Bool) (x1 x2:V) (u1 u2:Value),eqD n S d1 d2=some k->Rep Γ ι H d1 x1->Rep Γ ι H d2 x2->RelV x1 u1->RelV x2 u2->A.units+n < cLine ->
  RcAt A s u1 u2 k/\EqAt A s u1 u2 k:=by
 have same:=G0 hK I hS
 obtain ⟨K⟩:=Γ
 have hK':K=X.K:=hK
 subst hK'
 intro n
 induction n with
 | zero=>intro A d1 d2 k x1 x2 u1 u2 h; simp [eqD] at h
 | succ n ih =>
  intro A d1 d2 k x1 x2 u1 u2 h r1 r2 v1 v2 hu
  have hu0:A.units < cLine:=by omega
  have hu1:A.in1.units+n < cLine:=by show A.units+1+n < cLine; omega
  have h0:=h
  have each:∀ {ds es:List D} {xs ys:List V} {its1 its2:List Value} {e:Nat->Bool},av ⟨X.K⟩ ι H ds xs->av ⟨X.K⟩ ι H es ys->Vals xs its1->Vals ys its2 ->
    (∀ (j:Nat) x y,ds[j]?=some x->es[j]?=some y->eqD n S x y=some (e j))->∀ (j:Nat) (h1:j < its1.toArray.size) (h2:j < its2.toArray.size),EqAt A.in1 s its1.toArray[j] its2.toArray[j] (e j):=by
   intro ds es xs ys its1 its2 e rp1 rp2 rv1 rv2 he j h1 h2
   rw [Zi] at h1 h2
   have l1:=rp1.length
   have l2:=rp2.length
   have l3:=rv1.length
   have l4:=rv2.length
   have j1:j < ds.length:=by omega
   have j2:j < es.length:=by omega
   obtain ⟨y1,a1,a2⟩:=Paired.get rp1 (Zb j1)
   obtain ⟨y2,a3,a4⟩:=Paired.get rp2 (Zb j2)
   obtain ⟨w1,z1,z2⟩:=rv1.get a1
   obtain ⟨w2,z3,z4⟩:=rv2.get a3
   have:=(ih A.in1 ds[j] es[j] (e j) y1 y2 w1 w2 (he j _ _ (Zb j1) (Zb j2)) a2 a4 z2 z4 hu1).2
   have q1:its1.toArray[j]'(by rw [Zi]; exact h1)=w1:=by
    have:its1[j]?=some its1[j]:=Zb h1
    rw [z1] at this; cases this; rfl
   have q2:its2.toArray[j]'(by rw [Zi]; exact h2)=w2:=by
    have:its2[j]?=some its2[j]:=Zb h2
    rw [z3] at this; cases this; rfl
   rw [q1,q2]; exact this
  have lst:∀ {d:D} {x:V} {u:Value} {zs:List D},Rep ⟨X.K⟩ ι H d x->RelV x u->asL S d=some zs->∃ a xs its,x=.ref a/\u=.ref a/\av ⟨X.K⟩ ι H zs xs/\Vals xs its/\s.heap.IsList a its.toArray:=fun {d x u zs} r rv hz=>by
   obtain ⟨b,ys,e,sb,rp⟩:=hS.list r hz
   subst e
   cases rv
   obtain ⟨its,rv,p,_⟩:=I.list sb
   exact ⟨b,ys,its,rfl,rfl,rp,rv,p.isList⟩
  have tpl:∀ {ds:List D} {x:V} {u:Value},Rep ⟨X.K⟩ ι H (.tup ds) x->RelV x u->∃ a xs its,x=.ref a/\u=.ref a/\av ⟨X.K⟩ ι H ds xs/\Vals xs its/\s.heap.IsTuple a its.toArray:=fun {ds x u} r rv=>by
   obtain ⟨a,xs,e,t,p⟩:=r.bR
   subst e
   cases rv
   obtain ⟨its,rv,p2,_⟩:=I.tuple t
   exact ⟨a,xs,its,rfl,rfl,p,rv,p2⟩
  cases e1:d1.kd <;> cases e2:d2.kd <;> simp only [eqD,e1,e2] at h
  ·exact xu h r1 r2 v1 v2 e1 e2
  ·cases h
   cases d2 <;> first|(cases e2; done)|skip
   obtain ⟨a,xs,its,rfl,rfl,_,_,p⟩:=tpl r2 v2
   cases r1 <;> first|(cases e1; done)|skip
   ·cases v1; exact ⟨.none_tuple p hu0,.none_tuple p hu0⟩
   ·cases v1; exact ⟨.bool_tuple _ p hu0,.bool_tuple _ p hu0⟩
   ·obtain ⟨ta,rfl⟩:=v1; exact ⟨.int_tuple _ ta p hu0,.int_tuple _ ta p hu0⟩
   ·obtain ⟨ta,rfl⟩:=v1; exact ⟨.str_tuple _ ta p hu0,.str_tuple _ ta p hu0⟩
  ·simp only [ZC] at h
   obtain ⟨z,hz,rfl⟩:=h
   obtain ⟨a,xs,its,rfl,rfl,_,_,p⟩:=lst r2 v2 hz
   cases r1 <;> first|(cases e1; done)|skip
   ·cases v1; exact ⟨.none_list p hu0,.none_list p hu0⟩
   ·cases v1; exact ⟨.bool_list _ p hu0,.bool_list _ p hu0⟩
   ·obtain ⟨ta,rfl⟩:=v1; exact ⟨.int_list _ ta p hu0,.int_list _ ta p hu0⟩
   ·obtain ⟨ta,rfl⟩:=v1; exact ⟨.str_list _ ta p hu0,.str_list _ ta p hu0⟩
  ·cases h
  ·cases h
   cases d1 <;> first|(cases e1; done)|skip
   obtain ⟨a,xs,its,rfl,rfl,_,_,p⟩:=tpl r1 v1
   cases r2 <;> first|(cases e2; done)|skip
   ·cases v2; exact ⟨.tuple_none p hu0,.tuple_none p hu0⟩
   ·cases v2; exact ⟨.tuple_bool _ p hu0,.tuple_bool _ p hu0⟩
   ·obtain ⟨ta,rfl⟩:=v2; exact ⟨.tuple_int _ ta p hu0,.tuple_int _ ta p hu0⟩
   ·obtain ⟨ta,rfl⟩:=v2; exact ⟨.tuple_str _ ta p hu0,.tuple_str _ ta p hu0⟩
  ·cases d1 <;> first|(cases e1; done)|skip
   cases d2 <;> first|(cases e2; done)|skip
   obtain ⟨a,xs,its1,rfl,rfl,rp1,rv1,p1⟩:=tpl r1 v1
   obtain ⟨b,ys,its2,rfl,rfl,rp2,rv2,p2⟩:=tpl r2 v2
   simp only [ZC] at h
   obtain ⟨r,hr,hk⟩:=h
   obtain ⟨e,he,hk2⟩:=fV hr
   have rc:RcAt A s (.ref a) (.ref b) k:=by
    have:=RcAt.tuples (A:=A) (e:=e) p1 p2 hu0 (each rp1 rp2 rv1 rv2 he)
    rw [Zi,Zi,<- rv1.length,<- rv2.length,<- rp1.length,<- rp2.length] at this
    rw [<- hk,hk2]; exact this
   refine ⟨rc,?_⟩
   by_cases hab:a=b
   ·subst hab
    rw [same _ _ _ k _ h0 r1 r2]; exact EqAt.same _
   ·exact .of_refs hab rc
  ·simp only [ZC] at h
   obtain ⟨z,hz,rfl⟩:=h
   cases d1 <;> first|(cases e1; done)|skip
   obtain ⟨a,xs,its1,rfl,rfl,rp1,rv1,p1⟩:=tpl r1 v1
   obtain ⟨b,ys,its2,rfl,rfl,rp2,rv2,p2⟩:=lst r2 v2 hz
   exact ⟨.tuple_list p1 p2 hu0,.tuple_list p1 p2 hu0⟩
  ·cases h
  ·simp only [ZC] at h
   obtain ⟨z,hz,rfl⟩:=h
   obtain ⟨a,xs,its,rfl,rfl,_,_,p⟩:=lst r1 v1 hz
   cases r2 <;> first|(cases e2; done)|skip
   ·cases v2; exact ⟨.list_none p hu0,.list_none p hu0⟩
   ·cases v2; exact ⟨.list_bool _ p hu0,.list_bool _ p hu0⟩
   ·obtain ⟨ta,rfl⟩:=v2; exact ⟨.list_int _ ta p hu0,.list_int _ ta p hu0⟩
   ·obtain ⟨ta,rfl⟩:=v2; exact ⟨.list_str _ ta p hu0,.list_str _ ta p hu0⟩
  ·simp only [ZC] at h
   obtain ⟨z,hz,rfl⟩:=h
   cases d2 <;> first|(cases e2; done)|skip
   obtain ⟨a,xs,its1,rfl,rfl,rp1,rv1,p1⟩:=tpl r2 v2
   obtain ⟨b,ys,its2,rfl,rfl,rp2,rv2,p2⟩:=lst r1 v1 hz
   exact ⟨.list_tuple p2 p1 hu0,.list_tuple p2 p1 hu0⟩
  ·split at h
   ·rename_i ds es hd he
    obtain ⟨a,xs,its1,rfl,rfl,rp1,rv1,p1⟩:=lst r1 v1 hd
    obtain ⟨b,ys,its2,rfl,rfl,rp2,rv2,p2⟩:=lst r2 v2 he
    have e1:its1.toArray.size=ds.length:=by rw [Zi,<- rv1.length,<- rp1.length]
    have e2:its2.toArray.size=es.length:=by rw [Zi,<- rv2.length,<- rp2.length]
    have rc:RcAt A s (.ref a) (.ref b) k:=by
     by_cases hlen:ds.length=es.length
     ·rw [Ze hlen] at h
      obtain ⟨e,he',hk2⟩:=fV h
      have:=RcAt.lists (A:=A) (e:=e) p1 p2 (by omega) hu0 (each rp1 rp2 rv1 rv2 he')
      rw [e1] at this; rw [hk2,<- hlen,Nat.min_self]; exact this
     ·rw [Zf hlen] at h
      cases h
      exact RcAt.lists_lengths p1 p2 (by rw [e1,e2]; simpa using hlen) hu0
    refine ⟨rc,?_⟩
    by_cases hab:a=b
    ·subst hab
     rw [same _ _ _ k _ h0 r1 r2]; exact EqAt.same _
    ·exact .of_refs hab rc
   ·cases h
  ·cases h
  ·cases h
  ·cases h
  ·cases h
  ·cases h
end
end EV

namespace HT
open PySem PyProof.Rows
section
variable {prog:Program} {w:World} {A:Around} {E:Value->Shared->Prop} {s:Shared}
theorem Bh {t sl:Addr} {items:Array Value} {vl vu:Value} {lo hi:Option Int} {Q:Value->Shared->Prop} (ht:IsTup s.heap t items) (hs:s.heap.IsSliceOf sl vl vu .none) (pl:IsPart vl lo) (pu:IsPart vu hi)
  (hw:sIx items.size 0 lo=0/\sIx items.size items.size hi=items.size) (h:Q (.ref t) s):wpAny (model prog w) A (getItem (.ref t) (.ref sl)) Q E s:=by
 obtain ⟨os,hos,hcs,hds⟩:=id hs
 have hTs:s.TypeIs (.ref sl) "slice":=⟨os,hos,hcs⟩
 unfold getItem
 try with_reducible refine XC ?_
 first|refine Za (Zc ?_)|skip
 refine Za (wpAny_sequenceKey ht.typeIs (by decide) ?_)
 refine Za (ZS (name:=Str.ofString "__getitem__") ht.typeIs XI
  (ZP XI ht.typeIs entry_tuple_getitem ?_ (args_tuple_getitem _ _)))
 show wpAny _ _ (Builtin.Tuple.tupleItemsOf (.ref t)>>=_) _ _ s
 refine Za (tupleItemsOf_ ht ?_)
 refine Za (Wc hTs ?_)
 rw [Ze (by decide)]
 refine Za (uE hs pl pu ?_)
 have hyes:(((sIx items.size 0 lo:Nat):Int)==0&&(1:Int)==1&&(sIx items.size items.size hi - sIx items.size 0 lo)==items.size)=true:=by
  rw [hw.1,hw.2]; simp
 show wpAny _ _ (if (((sIx items.size 0 lo:Nat):Int)==0&&(1:Int)==1&&(sIx items.size items.size hi - sIx items.size 0 lo)==items.size)=true then _ else _) _ _ s
 rw [Ze hyes]
 have hx:∀ {P:Bool->Shared->Prop},P true s->wpAny (model prog w) A.in1 (Builtin.Tuple.tupleIsExact (.ref t)) P E s:=fun {P} hp=>by
  unfold Builtin.Tuple.tupleIsExact
  refine Za (Wc ht.typeIs (Zc ?_))
  simpa using hp
 refine Za (hx ?_)
 rw [Ze rfl]
 exact Za (QW (Zc ⟨_,rfl,Zc h⟩))
end
end HT
namespace EV
open PySem PySem.Spec PyProof.Rows L2
open PySem.SeqAt (EqAt RcAt)
section
variable {X:Cx} {Γ:Gx} {xw:XW} {pins:List (Addr × Obj)} {σ:L2.St} {H:Hp} {s:Shared} {ι:List Addr} {S:af}
theorem ao.new (hS:ao Γ ι H S) {p:Addr} (hp:H p=none):p ∉ ι:=fun m=>by
 obtain ⟨l,e⟩:=ZL m
 have hl:l < S.length:=by rw [<- hS.len]; exact (Zh.mp e).1
 obtain ⟨a,ha,c⟩:=hS.cell l S[l] (Zb hl)
 rw [e] at ha; cases ha
 cases q:S[l] with
 | lst ds=>rw [q] at c; obtain ⟨xs,hx,_⟩:=c; rw [hp] at hx; cases hx
 | dct kvs=>rw [q] at c; obtain ⟨xs,hx,_⟩:=c; rw [hp] at hx; cases hx
 | fdc kvs=>rw [q] at c; obtain ⟨xs,⟨o,hx⟩,_⟩:=c; rw [hp] at hx; cases hx
theorem jy.ext {ι1:List Addr} {H1:Hp} (e:Ext ι ι1 H H1) {a:Addr} {c:Cell} (h:jy Γ ι H a c) (hl:∀ o,H a=some o->H1 a=some o):jy Γ ι1 H1 a c:=by
 cases c with
 | lst ds=>obtain ⟨xs,hx,r⟩:=h; exact ⟨xs,hl _ hx,av.ext e r⟩
 | dct kvs=>obtain ⟨xs,hx,r⟩:=h; exact ⟨xs,hl _ hx,Paired.imp (fun _ _ q=>⟨q.1,q.2.ext e⟩) r⟩
 | fdc kvs=>obtain ⟨xs,⟨o,hx⟩,r⟩:=h; exact ⟨xs,⟨o,hl _ hx⟩,Paired.imp (fun _ _ q=>⟨q.1,q.2.ext e⟩) r⟩
theorem ao.more (hS:ao Γ ι H S) {p:Addr} (hp:H p=none) {ds:List D} {xs:List V} (r:av Γ ι H ds xs):ao Γ (ι++[p]) (upd H p (.lst xs)) (S++[.lst ds]):=by
 have e:Ext ι (ι++[p]) H (upd H p (.lst xs)):=Ext.more hp
 refine ⟨by simp [hS.len],Qw.mpr ⟨hS.nd,by simp,?_⟩,fun l c h=>?_⟩
 ·intro a ha b hb
  have:b=p:=by simpa using hb
  subst this
  exact fun z=>hS.new hp (z ▸ ha)
 ·by_cases hl:l < S.length
  ·rw [ZE hl] at h
   obtain ⟨a,ha,c1⟩:=hS.cell l c h
   exact ⟨a,eZ e.pre ha,c1.ext e fun ys hy=>by rw [aA (bu hy hp)]; exact hy⟩
  ·rw [ZJ (by omega)] at h
   have hl2:l - S.length=0:=by
    have:=(Zh.mp h).1
    simp at this; omega
   rw [hl2] at h
   have h':(Cell.lst ds)=c:=by simpa using h
   subst h'
   have e1:l=ι.length:=by rw [hS.len]; omega
   subst e1
   exact ⟨p,by simp,xs,cg,av.ext e r⟩
theorem ao.laid (hS:ao Γ ι H S) {p:Addr} (hp:H p=none) (o:HO):ao Γ ι (upd H p o) S :=
 ⟨hS.len,hS.nd,fun l c h=>let ⟨a,ha,c1⟩:=hS.cell l c h; ⟨a,ha,c1.ext (Ext.laid hp) fun ys hy=>by rw [aA (bu hy hp)]; exact hy⟩⟩
theorem Out.alloc {Q:VK} {ds:List D} {xs:List V} {p:Addr} (ho:Out Γ xw ι H (alloc (.lst ds) S) fun d _ ι' H'=>∀ v,Rep Γ ι' H' d v->Q v H') (hS:ao Γ ι H S) (hp:H p=none) (r:av Γ ι H ds xs):Q (.ref p) (upd H p (.lst xs)) :=
 ho (ι++[p]) _ (Ext.more hp) (hS.more hp r) _ (.loc (by rw [<- hS.len]; simp))
theorem Out.tup {Q:VK} {ds:List D} {xs:List V} {p:Addr} (ho:Out Γ xw ι H (.ok (.tup ds) S) fun d _ ι' H'=>∀ v,Rep Γ ι' H' d v->Q v H') (hS:ao Γ ι H S) (hp:H p=none) (r:av Γ ι H ds xs):Q (.ref p) (upd H p (.tup xs)) :=
 ho ι _ (Ext.laid hp) (hS.laid hp _) _ (.i9 cg (av.ext (Ext.laid hp) r))
theorem Out.val {Q:VK} {d:D} {v:V} (ho:Out Γ xw ι H (.ok d S) fun d _ ι' H'=>∀ v,Rep Γ ι' H' d v->Q v H') (hS:ao Γ ι H S) (r:Rep Γ ι H d v):Q v H:=ho.here hS v r
theorem AS:OpR X (binaryOp .Add) (fun x y H Q=>∃ a b ys,x=.ref a/\y=.ref b/\SqT X.K H a []/\SqT X.K H b ys/\Q (.ref b) H):=by
 intro pins s σ H x y v u Q I rx ry h
 obtain ⟨a,b,ys,rfl,rfl,ha,hb,q⟩:=h
 cases rx
 cases ry
 obtain ⟨its,r1,p1,_⟩:=I.tuple ha
 obtain ⟨its2,r2,p2,_⟩:=I.tuple hb
 cases r1
 obtain ⟨⟨cls,dd,data,sl⟩,ho,hc,n,hd⟩:=id p1
 obtain ⟨⟨cls2,dd2,data2,sl2⟩,ho2,hc2,n2,hd2⟩:=id p2
 simp only at hc hd hc2 hd2
 subst hc hd hc2 hd2
 exact concat_meets ⟨_,ho,rfl⟩ ⟨_,ho2,rfl⟩ noFill_tuple_add seq_tuple_add Q3 QX (QQ _ _)
  (tuple_addW0 a b _ its2.toArray n n2 dd dd2 sl sl2 rfl) ⟨ho,ho2,⟨.ref b,H,I,rfl,q⟩⟩
theorem Out.guard {α:Type} {b:Bool} {m:M α} {k:α->af->List Addr->Hp->Prop} (h:Out Γ xw ι H (EV.guard b m S) k):b=true/\Out Γ xw ι H (m S) k:=by
 cases b with
 | true=>exact ⟨rfl,h⟩
 | false=>exact h.elim
theorem fF {n:Nat} (h:fits n=true):n<=sizeLine:=Zo h
theorem sI {n:Nat} (h:eN n=true):n < sizeLine:=Zo h
theorem Out.opt {α β:Type} {o:Option α} {f:α->M β} {k:β->af->List Addr->Hp->Prop} (h:Out Γ xw ι H ((EV.opt o>>=f) S) k):∃ a,o=some a/\Out Γ xw ι H (f a S) k:=by
 cases o with
 | none=>exact h.elim
 | some a=>exact ⟨a,rfl,h⟩
theorem Out.a_ {l:Nat} {f:List D->M D} {k:D->af->List Addr->Hp->Prop} (h:Out Γ xw ι H (EV.a_ l f S) k):∃ ds,S[l]?=some (.lst ds)/\Out Γ xw ι H (f ds S) k:=by
 have e:EV.a_ l f S=match S[l]? with|some (.lst ds)=>f ds S|_=>.bad:=rfl
 rw [e] at h
 cases q:S[l]? with
 | none=>rw [q] at h; exact h.elim
 | some c =>
  rw [q] at h
  cases c with
  | lst ds=>exact ⟨ds,rfl,h⟩
  | dct kvs=>exact h.elim
  | fdc kvs=>exact h.elim
theorem Ce (hK:Γ.K=X.K):OpR X (binaryOp .Add) (aU Γ xw (opD .add)):=by
 intro pins s σ H x y v u Q I rx ry h
 obtain ⟨ι,S,dx,dy,hS,r1,r2,ho⟩:=h
 cases dx with
 | int i =>
  cases dy with
  | int j=>cases r1; cases r2; exact Cy pins s σ H _ _ v u Q I rx ry ⟨i,j,rfl,rfl,Out.val ho hS (.int _)⟩
  | _=>exact ho.elim
 | str a =>
  cases dy with
  | str b =>
   cases r1; cases r2
   obtain ⟨hz,ho⟩:=Out.guard ho
   exact Aq pins s σ H _ _ v u Q I rx ry ⟨a,b,rfl,rfl,fF hz,Out.val ho hS (.str _)⟩
  | _=>exact ho.elim
 | tup ds =>
  cases dy with
  | tup es =>
   obtain ⟨a,xs,rfl,t1,p1⟩:=r1.bR
   obtain ⟨b,ys,rfl,t2,p2⟩:=r2.bR
   have l1:=p1.length
   have l2:=p2.length
   rw [hK] at t1 t2
   obtain ⟨hz,ho⟩:=Out.guard ho
   have hz:=fF hz
   cases xs with
   | nil =>
    have e:ds=[]:=Qi.mp l1
    subst e
    exact AS pins s σ H _ _ v u Q I rx ry ⟨a,b,ys,rfl,rfl,t1,t2,Out.val ho hS r2⟩
   | cons z zs =>
    refine Em pins s σ H _ _ v u Q I rx ry ⟨a,b,z::zs,ys,rfl,rfl,t1,t2,by simp,by rw [<- l1,<- l2]; exact hz,fun e=>?_,fun _ p hp=>?_⟩
    ·subst e
     have e:es=[]:=Qi.mp l2
     subst e
     rw [Xz] at ho
     exact Out.val ho hS r1
    ·exact Out.tup ho hS hp (Paired.app p1 p2)
  | _=>exact ho.elim
 | loc l =>
  cases dy with
  | loc m =>
   obtain ⟨ds,e1,ho⟩:=Out.a_ ho
   obtain ⟨es,e2,ho⟩:=Out.a_ ho
   obtain ⟨hz,ho⟩:=Out.guard ho
   obtain ⟨a,xs,ha,hx,p1⟩:=hS.lst e1
   obtain ⟨b,ys,hb,hy,p2⟩:=hS.lst e2
   cases r1 with
   | loc q1 =>
    cases r2 with
    | loc q2 =>
     rw [ha] at q1; cases q1
     rw [hb] at q2; cases q2
     exact zy pins s σ H _ _ v u Q I rx ry ⟨a,b,xs,ys,rfl,rfl,hx,hy,by rw [<- p1.length,<- p2.length]; exact fF hz,fun p hp=>Out.alloc ho hS hp (Paired.app p1 p2)⟩
  | _=>exact ho.elim
 | _=>exact ho.elim
theorem Gi:OpR X (binaryOp .Sub) (aU Γ xw (opD .sub)):=by
 intro pins s σ H x y v u Q I rx ry h
 obtain ⟨ι,S,dx,dy,hS,r1,r2,ho⟩:=h
 cases dx with
 | int i =>
  cases dy with
  | int j=>cases r1; cases r2; exact Hg pins s σ H _ _ v u Q I rx ry ⟨i,j,rfl,rfl,Out.val ho hS (.int _)⟩
  | _=>exact ho.elim
 | _=>exact ho.elim
theorem xT (hK:Γ.K=X.K):OpR X (binaryOp .Mult) (aU Γ xw (opD .mul)):=by
 intro pins s σ H x y v u Q I rx ry h
 obtain ⟨ι,S,dx,dy,hS,r1,r2,ho⟩:=h
 cases dx with
 | int i =>
  cases dy with
  | int j =>
   cases r1; cases r2
   obtain ⟨hz,ho⟩:=Out.guard ho
   refine GJ pins s σ H _ _ v u Q I rx ry ⟨i,j,rfl,rfl,?_,Out.val ho hS (.int _)⟩
   rcases Bool.or_eq_true_iff.mp hz with hz|hz
   ·exact .inl (Zo hz)
   ·exact .inr (Zo hz)
  | _=>exact ho.elim
 | _=>exact ho.elim
theorem BU:OpR X (binaryOp .FloorDiv) (aU Γ xw (opD .fdiv)):=by
 intro pins s σ H x y v u Q I rx ry h
 obtain ⟨ι,S,dx,dy,hS,r1,r2,ho⟩:=h
 cases dx with
 | int i =>
  cases dy with
  | int j =>
   cases r1; cases r2
   obtain ⟨hz,ho⟩:=Out.guard ho
   rw [Zq] at hz
   exact Bs pins s σ H _ _ v u Q I rx ry ⟨i,j,rfl,rfl,⟨Zo hz.1,Zo hz.2⟩,Out.val ho hS (.int _)⟩
  | _=>exact ho.elim
 | _=>exact ho.elim
theorem CZ:OpR X (binaryOp .Mod) (aU Γ xw (opD .mod)):=by
 intro pins s σ H x y v u Q I rx ry h
 obtain ⟨ι,S,dx,dy,hS,r1,r2,ho⟩:=h
 cases dx with
 | int i =>
  cases dy with
  | int j =>
   cases r1; cases r2
   obtain ⟨hz,ho⟩:=Out.guard ho
   exact wW pins s σ H _ _ v u Q I rx ry ⟨i,j,rfl,rfl,Zo hz,Out.val ho hS (.int _)⟩
  | _=>exact ho.elim
 | _=>exact ho.elim
theorem zL:OpR X (binaryOp .Pow) (aU Γ xw (opD .pow)):=by
 intro pins s σ H x y v u Q I rx ry h
 obtain ⟨ι,S,dx,dy,hS,r1,r2,ho⟩:=h
 cases dx with
 | int i =>
  cases dy with
  | int j =>
   cases r1; cases r2
   obtain ⟨hz,ho⟩:=Out.guard ho
   rw [Zq,Zq] at hz
   have h2:j<=1000:=Zo hz.1.2
   exact BK pins s σ H _ _ v u Q I rx ry ⟨i,j,rfl,rfl,⟨Zo hz.1.1,by omega,Zo hz.2⟩,Out.val ho hS (.int _)⟩
  | _=>exact ho.elim
 | _=>exact ho.elim
theorem jn {op:CmpOp} {p:Int->Int->Bool} (h0:OpR X (compareOp op) (rI0 fun i j=>.bl (p i j))):OpR X (compareOp op) (aU Γ xw (gb p)):=by
 intro pins s σ H x y v u Q I rx ry h
 obtain ⟨ι,S,dx,dy,hS,r1,r2,ho⟩:=h
 cases dx with
 | int i =>
  cases dy with
  | int j=>cases r1; cases r2; exact h0 pins s σ H _ _ v u Q I rx ry ⟨i,j,rfl,rfl,Out.val ho hS (.bl _)⟩
  | _=>exact ho.elim
 | _=>exact ho.elim
theorem zF:OpR X (compareOp .Lt) (aU Γ xw (cmD .lt)):=jn Cc
theorem Dg:OpR X (compareOp .LtE) (aU Γ xw (cmD .le)):=jn Ey
theorem FD:OpR X (compareOp .Gt) (aU Γ xw (cmD .gt)):=jn HV
theorem G2:OpR X (compareOp .GtE) (aU Γ xw (cmD .ge)):=jn GQ
theorem rJ {dx dy:D} {f:Bool->M D} {k:D->af->List Addr->Hp->Prop} (ho:Out Γ xw ι H ((eqM dx dy>>=f) S) k):∃ b,eqD deep S dx dy=some b/\Out Γ xw ι H (f b S) k:=by
 rw [cT] at ho
 unfold eqM at ho
 cases q:eqD deep S dx dy with
 | none=>rw [q] at ho; exact ho.elim
 | some b=>rw [q] at ho; exact ⟨b,rfl,ho⟩
theorem s_eq (hK:Γ.K=X.K) (hu:X.A.units+64 < cLine):OpR X (compareOp .Eq) (aU Γ xw (cmD .eq)):=by
 intro pins s σ H x y v u Q I rx ry h
 obtain ⟨ι,S,dx,dy,hS,r1,r2,ho⟩:=h
 obtain ⟨k,q,ho⟩:=rJ ho
 have:=(m6 hK I hS deep X.A dx dy k x y v u q r1 r2 rx ry (by unfold deep; omega)).1
 exact this X.prog X.w X.xe _ ⟨.bl k,H,I,rfl,Out.val ho hS (.bl _)⟩
end
end EV

namespace EV
open PySem PySem.Spec PyProof.Rows L2
open PySem.SeqAt (EqAt RcAt)
section
variable {X:Cx} {Γ:Gx} {xw:XW} {pins:List (Addr × Obj)} {σ:L2.St} {H:Hp} {s:Shared} {ι:List Addr} {S:af}
theorem r9 (hK:Γ.K=X.K) (I:Inv X pins σ H s) (hS:ao Γ ι H S) {n:Nat} {A:Around} (hu:A.units+n < cLine) {ds es:List D} {xs ys:List V} {its1 its2:List Value} {e:Nat->Bool} (rp1:av Γ ι H ds xs) (rp2:av Γ ι H es ys)
  (rv1:Vals xs its1) (rv2:Vals ys its2) (he:∀ (j:Nat) x y,ds[j]?=some x->es[j]?=some y->eqD n S x y=some (e j)) (j:Nat) (h1:j < its1.toArray.size) (h2:j < its2.toArray.size):EqAt A s its1.toArray[j] its2.toArray[j] (e j):=by
 rw [Zi] at h1 h2
 have l1:=rp1.length
 have l2:=rp2.length
 have l3:=rv1.length
 have l4:=rv2.length
 have j1:j < ds.length:=by omega
 have j2:j < es.length:=by omega
 obtain ⟨y1,a1,a2⟩:=Paired.get rp1 (Zb j1)
 obtain ⟨y2,a3,a4⟩:=Paired.get rp2 (Zb j2)
 obtain ⟨w1,z1,z2⟩:=rv1.get a1
 obtain ⟨w2,z3,z4⟩:=rv2.get a3
 have:=(m6 hK I hS n A ds[j] es[j] (e j) y1 y2 w1 w2 (he j _ _ (Zb j1) (Zb j2)) a2 a4 z2 z4 hu).2
 have q1:its1.toArray[j]'(by rw [Zi]; exact h1)=w1:=by
  have:its1[j]?=some its1[j]:=Zb h1
  rw [z1] at this; cases this; rfl
 have q2:its2.toArray[j]'(by rw [Zi]; exact h2)=w2:=by
  have:its2[j]?=some its2[j]:=Zb h2
  rw [z3] at this; cases this; rfl
 rw [q1,q2]; exact this
theorem CL (n:Nat) (S:af) (xs ys:List D):eqD (n+1) S (.tup xs) (.tup ys)=(bC (eqD n S) xs ys).map fun r=>r&&(xs.length==ys.length):=rfl
theorem BA (n:Nat) (S:af) (a b:D) (h1:a.kd=.list) (h2:b.kd=.list):eqD (n+1) S a b=match asL S a,asL S b with
  | some xs,some ys=>if xs.length=ys.length then bC (eqD n S) xs ys else some false
  | _,_=>none:=by simp only [eqD,h1,h2] <;> rfl
theorem wK {a b:D} (h:iw a b=true):(a.kd=.flat/\b.kd=.flat)\/(a.kd=.tup/\b.kd=.tup)\/(a.kd=.list/\b.kd=.list)\/∃ xs y,a=.tup xs/\b=.str y:=by
 cases a <;> cases b <;> first|exact .inl ⟨rfl,rfl⟩|exact .inr (.inl ⟨rfl,rfl⟩)|exact .inr (.inr (.inl ⟨rfl,rfl⟩))|exact .inr (.inr (.inr ⟨_,_,rfl,rfl⟩))|cases h
theorem xx {S:af} {a b:D} (e1:a.kd=.flat) (e2:b.kd=.flat):eqD deep S a b=bh a b:=by
 show eqD (11+1) S a b=_
 simp only [eqD,e1,e2]
theorem As {S:af} {a b:D} {x y:V} {k:Bool} (hn:iw a b=true) (q:eqD deep S a b=some k) (r1:Rep Γ ι H a x) (r2:Rep Γ ι H b y) (e1:a.kd=.flat) (e2:b.kd=.flat):pJ x y=true/\(decide (x=y))=k:=by
 rw [xx e1 e2] at q
 clear S
 cases r1 <;> first|(cases e1; done)|skip
 all_goals (cases r2 <;> first|(cases e2; done)|(cases hn; done)|skip)
 all_goals (refine ⟨rfl,?_⟩; simp [bh] at q; subst q; first|rfl|(rw [show (decide _:Bool)=_ from mF]; done)|(rw [show (decide _:Bool)=_ from mF])|rw [se]|rw [rK]|simp)
theorem zC (hK:Γ.K=X.K) (hu:X.A.units+64 < cLine):OpR X (compareOp .NotEq) (aU Γ xw (cmD .ne)):=by
 intro pins s σ H x y v u Q I rx ry h
 obtain ⟨ι,S,dx,dy,hS,r1,r2,ho⟩:=h
 obtain ⟨hn,ho⟩:=Out.guard ho
 obtain ⟨k,q,ho⟩:=rJ ho
 have fin:Q (.bl (!k)) H:=Out.val ho hS (.bl _)
 have hu0:X.A.units < cLine:=by omega
 have hd:deep=11+1:=rfl
 rcases wK hn with ⟨e1,e2⟩|⟨e1,e2⟩|⟨e1,e2⟩|⟨xs0,y0,rfl,rfl⟩
 ·obtain ⟨z1,z2⟩:=As hn q r1 r2 e1 e2
  exact ED pins s σ H _ _ v u Q I rx ry ⟨z1,by rw [z2]; exact fin⟩
 ·-- tuples
  cases dx <;> first|(cases e1; done)|skip
  cases dy <;> first|(cases e2; done)|skip
  obtain ⟨a,xs,rfl,t1,p1⟩:=r1.bR
  obtain ⟨b,ys,rfl,t2,p2⟩:=r2.bR
  cases rx
  cases ry
  rw [hK] at t1 t2
  obtain ⟨its1,rv1,pt1,_⟩:=I.tuple t1
  obtain ⟨its2,rv2,pt2,_⟩:=I.tuple t2
  rw [hd,CL,ZC] at q
  obtain ⟨r,hr,hk⟩:=q
  obtain ⟨e,he,hk2⟩:=fV hr
  refine NEQ.En (same:=e) pt1 pt2 hu0 (r9 hK I hS (by show X.A.units+1+11 < _; omega) p1 p2 rv1 rv2 he) ?_
  rw [Zi,Zi,<- rv1.length,<- rv2.length,<- p1.length,<- p2.length,<- hk2,hk]
  exact ⟨.bl (!k),H,I,rfl,fin⟩
 ·-- lists
  rw [hd,BA _ _ _ _ e1 e2] at q
  split at q
  ·rename_i ds es h1 h2
   obtain ⟨a,xs,rfl,s1,p1⟩:=hS.list r1 h1
   obtain ⟨b,ys,rfl,s2,p2⟩:=hS.list r2 h2
   cases rx
   cases ry
   rw [hK] at s1 s2
   obtain ⟨its1,rv1,pl1,_⟩:=I.list s1
   obtain ⟨its2,rv2,pl2,_⟩:=I.list s2
   have z1:its1.toArray.size=ds.length:=by rw [Zi,<- rv1.length,<- p1.length]
   have z2:its2.toArray.size=es.length:=by rw [Zi,<- rv2.length,<- p2.length]
   by_cases hlen:ds.length=es.length
   ·rw [Ze hlen] at q
    obtain ⟨e,he,hk2⟩:=fV q
    refine NEQ.zX (same:=e) pl1.isList pl2.isList (by omega) hu0 (r9 hK I hS (by show X.A.units+1+11 < _; omega) p1 p2 rv1 rv2 he) ?_
    rw [z1,show (List.range ds.length).all e=k by rw [hk2,<- hlen,Nat.min_self]]
    exact ⟨.bl (!k),H,I,rfl,fin⟩
   ·rw [Zf hlen] at q
    cases q
    exact NEQ.HN pl1.isList pl2.isList (by rw [z1,z2]; simpa using hlen) hu0 ⟨.bl true,H,I,rfl,fin⟩
  ·cases q
 ·-- a tuple and a text
  cases (show some false=some k from q)
  obtain ⟨a,xs,rfl,t1,p1⟩:=r1.bR
  cases r2
  cases rx
  obtain ⟨tk,rfl⟩:=(show ∃ tk,u=Value.str y0 tk from ry)
  rw [hK] at t1
  obtain ⟨its1,rv1,pt1,_⟩:=I.tuple t1
  exact PySem.SeqAt.RcNeAt.tuple_str y0 tk pt1 hu0 _ _ _ _ ⟨.bl true,H,I,rfl,fin⟩
theorem Rep.inj (hK:Γ.K=X.K) (I:Inv X pins σ H s) (hS:ao Γ ι H S) {d:D} {v:V} (r:Rep Γ ι H d v):∀ {d':D},Rep Γ ι H d' v->d=d':=by
 obtain ⟨K⟩:=Γ
 have hK':K=X.K:=hK
 subst hK'
 have tl:∀ {a:Addr} {xs ys:List V},SqT X.K H a xs->SqL X.K H a ys->False:=fun {a xs ys} ht hl=>by
  obtain ⟨its,_,pl,_⟩:=I.list hl
  obtain ⟨its2,_,pt,_⟩:=I.tuple ht
  exact absurd rfl (SeqAt.ne_of_list_tuple pl.isList pt)
 have td:∀ {a:Addr} {xs:List V} {kvs:List (List Key × V)},SqT X.K H a xs->H a=some (.dT kvs)->False:=fun {a xs kvs} ht hd=>by
  obtain ⟨its2,_,⟨o,e1,_,n,e2⟩,_⟩:=I.tuple ht
  obtain ⟨_,_,_,_,o',es,ep,h1,_,h2,_⟩:=(show aS X.prog X.w H s.heap a (.dT kvs) from I.hok a _ hd)
  rw [e1] at h1; cases h1
  rw [e2] at h2; cases h2
 have tf:∀ {a:Addr} {xs:List V} {o:Obj} {kvs:List (List Key × V)},SqT X.K H a xs->H a=some (.frz o (.dT kvs))->False:=fun {a xs o kvs} ht hd=>by
  obtain ⟨its2,_,⟨o1,e1,_,n,e2⟩,_⟩:=I.tuple ht
  obtain ⟨g1,_,_,_,_,o',es,ep,h1,_,h2,_⟩:=(show s.heap.get? a=some o/\aS X.prog X.w H s.heap a (.dT kvs) from I.hok a _ hd)
  rw [e1] at h1; cases h1
  rw [e2] at h2; cases h2
 have tll:∀ {l:Nat} {a:Addr} {xs:List V},SqT X.K H a xs->((∃ ys,H a=some (.lst ys))\/(∃ ys,H a=some (.dT ys))\/∃ o ys,H a=some (.frz o (.dT ys)))->False:=fun {l a xs} ht h=>by
  rcases h with ⟨ys,hy⟩|⟨ys,hy⟩|⟨o,ys,hy⟩
  ·exact tl ht (.of hy)
  ·exact td ht hy
  ·exact tf ht hy
 have ll:∀ {l:Nat} {a:Addr},ι[l]?=some a->(∃ xs,H a=some (.lst xs))\/(∃ xs,H a=some (.dT xs))\/∃ o xs,H a=some (.frz o (.dT xs)):=fun {l a} q=>by
  have hl:l < S.length:=by rw [<- hS.len]; exact (Zh.mp q).1
  obtain ⟨b,hb,c⟩:=hS.cell l S[l] (Zb hl)
  rw [q] at hb; cases hb
  cases e:S[l] with
  | lst ds=>rw [e] at c; obtain ⟨xs,hx,_⟩:=c; exact .inl ⟨xs,hx⟩
  | dct kvs=>rw [e] at c; obtain ⟨xs,hx,_⟩:=c; exact .inr (.inl ⟨xs,hx⟩)
  | fdc kvs=>rw [e] at c; obtain ⟨xs,⟨o,hx⟩,_⟩:=c; exact .inr (.inr ⟨o,xs,hx⟩)
 have fl:∀ {l:Nat} {a:Addr} {xs:List V},Fro X.K H a xs->ι[l]?=some a->False:=fun {l a xs} hf q=>by
  obtain ⟨ob,hy,hno⟩:∃ ob,H a=some ob/\∀ o us,ob≠.frz o (.lst us):=by
   rcases ll q with ⟨ys,hy⟩|⟨ys,hy⟩|⟨o',ys,hy⟩
   ·exact ⟨_,hy,fun _ _ z=>by cases z⟩
   ·exact ⟨_,hy,fun _ _ z=>by cases z⟩
   ·exact ⟨_,hy,fun _ _ z=>by cases z⟩
  rcases hf with ⟨o,hf⟩|hf
  ·rw [hy] at hf; exact hno _ _ (ZW hf)
  ·rcases hf (fun _=>none) with (z|⟨_,z⟩)|z
   ·cases z
   ·cases z
   ·obtain ⟨o,_,_,hk,_⟩:=z
    have hb:X.base.get? a=some o:=I.ok.mod.kin a o hk
    have:=(I.bs a o hb).2
    rw [hy] at this; cases this
 induction r with
 | non=>intro d' r'; cases r'; rfl
 | bl b=>intro d' r'; cases r'; rfl
 | int i=>intro d' r'; cases r'; rfl
 | str x=>intro d' r'; cases r'; rfl
 | @tup ds a xs t1 l1 p1 k1 ih =>
  intro d' r'
  cases r' with
  | @tup es _ ys t2 l2 p2 _ =>
   have e:xs=ys:=I.jl t1 t2
   subst e
   congr 1
   refine Q2 fun j=>?_
   by_cases hj:j < ds.length
   ·have h1:=Zb hj
    have h2:es[j]?=some es[j]:=Zb (by omega)
    have h3:xs[j]?=some xs[j]:=Zb (by omega)
    rw [h1,h2,ih j _ _ h1 h3 (p2 j _ _ h2 h3)]
   ·rw [X4 (by omega),X4 (by omega)]
  | fro f2 _ _=>exact (tl t1 f2.sq).elim
  | loc q=>exact (tll (l:=0) t1 (ll q)).elim
 | @fro ds a xs f1 l1 p1 ih =>
  intro d' r'
  cases r' with
  | tup t2 _ _ _=>exact (tl t2 f1.sq).elim
  | @fro es _ ys f2 l2 p2 =>
   have e:xs=ys:=I.jK f1.sq f2.sq
   subst e
   congr 1
   refine Q2 fun j=>?_
   by_cases hj:j < ds.length
   ·have h1:=Zb hj
    have h2:es[j]?=some es[j]:=Zb (by omega)
    have h3:xs[j]?=some xs[j]:=Zb (by omega)
    rw [h1,h2,ih j _ _ h1 h3 (p2 j _ _ h2 h3)]
   ·rw [X4 (by omega),X4 (by omega)]
  | loc q=>exact (fl f1 q).elim
 | @loc l a q =>
  intro d' r'
  cases r' with
  | tup t2 _ _ _=>exact (tll (l:=0) t2 (ll q)).elim
  | fro f2 _ _=>exact (fl f2 q).elim
  | loc q'=>rw [gy hS.nd q q']
theorem sU {x:D}:∀ {ys:List D} {k:Bool},inL S x ys=some k->(∀ y∈ys,eqD deep S y x=some ((eqD deep S y x).getD false))/\k=ys.any fun y=>(eqD deep S y x).getD false
 | [],k,h=>⟨fun y hy=>absurd hy (by simp),by cases h; rfl⟩
 | y::ys,k,h=>by
  simp only [inL] at h
  split at h
  ·rename_i a b e1 e2
   cases h
   obtain ⟨he,hk⟩:=sU e2
   refine ⟨fun z hz=>?_,?_⟩
   ·rcases Zt.mp hz with rfl|hz
    ·simp [e1]
    ·exact he z hz
   ·rw [XS,<- hk]; simp [e1]
  ·cases h
theorem i7 (hK:Γ.K=X.K) (I:Inv X pins σ H s) (hS:ao Γ ι H S) {A:Around} (hu:A.units+deep < cLine) {dx:D} {x:V} {v:Value} (r1:Rep Γ ι H dx x) (rx:RelV x v) {ds:List D} {xs:List V} {its:List Value} {k:Bool} (h:inL S dx ds=some k)
  (p:av Γ ι H ds xs) (rv:Vals xs its):∃ e:Value->Bool,(∀ y,y∈its.toArray->EqAt A s y v (e y))/\its.toArray.any e=k:=by
 classical
 obtain ⟨h1,h2⟩:=sU h
 have key:∀ (d:D) (w:V) (u:Value),d∈ds->Rep Γ ι H d w->RelV w u->∀ (d':D) (w':V),Rep Γ ι H d' w'->RelV w' u->d'=d:=fun d w u _ r q d' w' r' q'=>by
  have e:w'=w:=q'.inj q
  subst e
  exact (Rep.inj hK I hS r' r)
 refine ⟨fun u=>decide (∃ d w,d∈ds/\Rep Γ ι H d w/\RelV w u/\(eqD deep S d dx).getD false=true),fun u hu'=>?_,?_⟩
 ·have hm:u∈its:=by simpa using hu'
  obtain ⟨j,hj⟩:=ZL hm
  obtain ⟨w,hw,q⟩:=Paired.get' rv hj
  obtain ⟨d,hd,r⟩:=Paired.get' p hw
  have hd':=Zy hd
  have e:=(m6 hK I hS deep A d dx _ w x u v (h1 d hd') r r1 q rx hu).2
  have:decide (∃ d w,d∈ds/\Rep Γ ι H d w/\RelV w u/\(eqD deep S d dx).getD false=true)=(eqD deep S d dx).getD false:=by
   cases z:(eqD deep S d dx).getD false with
   | true=>exact Zj ⟨d,w,hd',r,q,z⟩
   | false =>
    refine Zz ?_
    rintro ⟨d',w',_,r',q',z'⟩
    rw [key d w u hd' r q d' w' r' q',z] at z'
    cases z'
  show EqAt A s u v (decide (∃ d w,d∈ds/\Rep Γ ι H d w/\RelV w u/\(eqD deep S d dx).getD false=true))
  rw [this]; exact e
 ·rw [h2]
  rw [X1]
  simp only [Array.any_eq_true',Q7,XQ]
  constructor
  ·rintro ⟨u,hu',d,w,hd,r,q,z⟩
   exact ⟨d,hd,z⟩
  ·rintro ⟨d,hd,z⟩
   obtain ⟨j,hj⟩:=ZL hd
   obtain ⟨w,hw,r⟩:=Paired.get p hj
   obtain ⟨u,hu',q⟩:=rv.get hw
   exact ⟨u,by simpa using Zy hu',d,w,hd,r,q,z⟩
theorem iC (d:D) (S:af):(∃ ds,items d S=.ok ds S)\/items d S=.bad:=by
 cases d with
 | tup ds=>exact .inl ⟨ds,rfl⟩
 | fro ds=>exact .inl ⟨ds,rfl⟩
 | loc l =>
  rw [tV]
  cases listAt S l with
  | none=>exact .inr rfl
  | some ds=>exact .inl ⟨ds,rfl⟩
 | _=>exact .inr rfl
theorem Out.items {α:Type} {d:D} {f:List D->M α} {k:α->af->List Addr->Hp->Prop} (ho:Out Γ xw ι H ((EV.items d>>=f) S) k):∃ ds,EV.items d S=.ok ds S/\Out Γ xw ι H (f ds S) k:=by
 rcases iC d S with ⟨ds,e⟩|e
 ·rw [aj e] at ho; exact ⟨ds,e,ho⟩
 ·rw [aT e] at ho; exact ho.elim
theorem Out.rC {α:Type} {o:Option α} {k:α->af->List Addr->Hp->Prop} (ho:Out Γ xw ι H (EV.opt o S) k):∃ a,o=some a/\Out Γ xw ι H (.ok a S) k:=by
 cases o with
 | none=>exact ho.elim
 | some a=>exact ⟨a,rfl,ho⟩
theorem pV {neg:Bool} {a b:D} {k:D->af->List Addr->Hp->Prop} (ho:Out Γ xw ι H (inM neg a b S) k):∃ ds c,items b S=.ok ds S/\inL S a ds=some c/\Out Γ xw ι H (.ok (.bl (c != neg)) S) k:=by
 obtain ⟨ds,e,ho⟩:=Out.items ho
 unfold inA at ho
 cases q:inL S a ds with
 | none=>rw [q] at ho; exact ho.elim
 | some c=>rw [q] at ho; exact ⟨ds,c,e,q,ho⟩
theorem cC (hS:ao Γ ι H S) {d:D} {v:V} {ds:List D} {S':af} (r:Rep Γ ι H d v) (h:items d S=.ok ds S'):S'=S/\∃ a xs,v=.ref a/\(SqL Γ.K H a xs\/SqT Γ.K H a xs)/\av Γ ι H ds xs/\(∀ l,d=.loc l->SqL Γ.K H a xs):=by
 cases d with
 | tup es=>cases h; obtain ⟨a,xs,e,t,p⟩:=r.bR; exact ⟨rfl,a,xs,e,.inr t,p,fun l e=>by cases e⟩
 | fro es=>cases h; obtain ⟨a,xs,e,f,p⟩:=r.eK; exact ⟨rfl,a,xs,e,.inl f.sq,p,fun l e=>by cases e⟩
 | loc l =>
  have h':(match listAt S l with|some ds=>Res.ok ds S|none=>.bad)=.ok ds S':=h
  cases q:listAt S l with
  | none=>rw [q] at h'; cases h'
  | some es =>
   rw [q] at h'
   cases h'
   obtain ⟨a,xs,e,t,p⟩:=hS.list r (show asL S (.loc l)=some ds from q)
   exact ⟨rfl,a,xs,e,.inl t,p,fun _ _=>t⟩
 | _=>cases h
theorem B8 (hK:Γ.K=X.K) (hu:X.A.units+64 < cLine):OpR X (compareOp .In) (aU Γ xw (inM false)):=by
 intro pins s σ H x y v u Q I rx ry h
 obtain ⟨ι,S,dx,dy,hS,r1,r2,ho⟩:=h
 obtain ⟨ds,c,h1,h2,ho⟩:=pV ho
 have fin:Q (.bl c) H:=by have:=Out.val ho hS (.bl _); simpa using this
 obtain ⟨_,a,xs,rfl,sq,p,_⟩:=cC hS r2 h1
 cases ry
 rw [hK] at sq
 rcases sq with sq|sq
 ·obtain ⟨its,rv,pl,_⟩:=I.list sq
  obtain ⟨e,he,hk⟩:=i7 hK I hS (A:=X.A.in1) (by show X.A.units+1+12 < cLine; omega) r1 rx h2 p rv
  exact SeqAt.in_listAt e pl.isList he (by rw [hk]; exact ⟨.bl c,H,I,rfl,fin⟩)
 ·obtain ⟨its,rv,pl,_⟩:=I.tuple sq
  obtain ⟨e,he,hk⟩:=i7 hK I hS (A:=X.A.in1) (by show X.A.units+1+12 < cLine; omega) r1 rx h2 p rv
  exact SeqAt.in_tupleAt e pl he (by rw [hk]; exact ⟨.bl c,H,I,rfl,fin⟩)
theorem wY (hK:Γ.K=X.K) (hu:X.A.units+64 < cLine):OpR X (compareOp .NotIn) (aU Γ xw (inM true)):=by
 intro pins s σ H x y v u Q I rx ry h
 obtain ⟨ι,S,dx,dy,hS,r1,r2,ho⟩:=h
 obtain ⟨ds,c,h1,h2,ho⟩:=pV ho
 have fin:Q (.bl (!c)) H:=by have:=Out.val ho hS (.bl _); simpa using this
 obtain ⟨_,a,xs,rfl,sq,p,_⟩:=cC hS r2 h1
 cases ry
 rw [hK] at sq
 rcases sq with sq|sq
 ·obtain ⟨its,rv,pl,_⟩:=I.list sq
  obtain ⟨e,he,hk⟩:=i7 hK I hS (A:=X.A.in1) (by show X.A.units+1+12 < cLine; omega) r1 rx h2 p rv
  exact SeqAt.notIn_listAt e pl.isList he (by rw [hk]; exact ⟨.bl (!c),H,I,rfl,fin⟩)
 ·obtain ⟨its,rv,pl,_⟩:=I.tuple sq
  obtain ⟨e,he,hk⟩:=i7 hK I hS (A:=X.A.in1) (by show X.A.units+1+12 < cLine; omega) r1 rx h2 p rv
  exact SeqAt.notIn_tupleAt e pl he (by rw [hk]; exact ⟨.bl (!c),H,I,rfl,fin⟩)
theorem Dz (hK:Γ.K=X.K):oR X (fun x H Q=>∃ ι S d,ao Γ ι H S/\Rep Γ ι H d x/\Out Γ xw ι H (truth d S) fun b _ _ H'=>Q b H'):=by
 intro pins s σ H x v Q I rx h
 obtain ⟨ι,S,d,hS,r,ho⟩:=h
 refine zV pins s σ H x v Q I rx ?_
 cases d with
 | bl b=>cases r; exact ⟨b,rfl,ho.here hS⟩
 | non=>cases r; exact ⟨false,rfl,ho.here hS⟩
 | int i=>cases r; exact ⟨_,rfl,ho.here hS⟩
 | tup ds =>
  obtain ⟨a,xs,rfl,t,p⟩:=r.bR
  rw [hK] at t
  refine ⟨!ds.isEmpty,.inr (.inl ⟨xs,t,?_⟩),ho.here hS⟩
  cases p <;> rfl
 | fro ds =>
  obtain ⟨a,xs,rfl,t,p⟩:=r.eK
  have t:=t.sq
  rw [hK] at t
  refine ⟨!ds.isEmpty,.inl ⟨xs,t,?_⟩,ho.here hS⟩
  cases p <;> rfl
 | loc l =>
  obtain ⟨ds,q,ho'⟩:=Out.items ho
  obtain ⟨_,a,xs,rfl,_,p,t⟩:=cC hS r q
  ·have t:=t l rfl
   rw [hK] at t
   refine ⟨!ds.isEmpty,.inl ⟨xs,t,?_⟩,ho'.here hS⟩
   cases p <;> rfl
 | _=>exact ho.elim
theorem Hv {ds:List D} {xs:List V} {i:Int} {d:D} (p:av Γ ι H ds xs) (h:EV.atI ds i=some d):∃ v,L2.atI xs i=some v/\Rep Γ ι H d v:=by
 unfold EV.atI at h
 cases e:EV.ixN ds.length i with
 | none=>rw [e] at h; cases h
 | some j =>
  rw [e] at h
  obtain ⟨v,hv,r⟩:=Paired.get p h
  refine ⟨v,?_,r⟩
  have e':L2.ixN xs.length i=some j:=by rw [<- p.length]; exact e
  unfold L2.atI
  rw [e']
  exact hv
theorem yY (hK:Γ.K=X.K):IxR X (aU Γ xw ixD):=by
 intro value slice pins s σ H x y v u Q I rx ry h hsub
 obtain ⟨ι,S,dx,dy,hS,r1,r2,ho⟩:=h
 cases dy with
 | int j =>
  cases r2
  obtain ⟨ds,q,ho'⟩:=Out.items ho
  obtain ⟨d,q2,ho'⟩:=Out.rC ho'
  obtain ⟨_,a,xs,rfl,sq,p,_⟩:=cC hS r1 q
  ·rw [hK] at sq
   ·obtain ⟨w,hw,rw'⟩:=Hv p q2
    have fin:=Out.val ho' hS rw'
    rcases sq with sq|sq
    ·exact wm value slice pins s σ H _ _ v u Q I rx ry ⟨a,xs,j,w,rfl,rfl,sq,hw,fin⟩ hsub
    ·exact ym value slice pins s σ H _ _ v u Q I rx ry ⟨a,xs,j,w,rfl,rfl,sq,hw,fin⟩ hsub
 | _=>exact ho.elim
theorem FW:SlR X (fun x lo hi H Q=>∃ a xs,x=.ref a/\SqT X.K H a xs/\(HT.sIx xs.length 0 lo=0/\HT.sIx xs.length xs.length hi=xs.length)/\Q (.ref a) H):=by
 intro pins s σ H x v vl vu lo hi sl Q I rx hs pl pu h
 obtain ⟨a,xs,rfl,hx,hw,q⟩:=h
 cases rx
 obtain ⟨its,r,ht,hz⟩:=I.tuple hx
 have hlen:its.toArray.size=xs.length:=by rw [Zi]; exact r.length.symm
 exact ⟨"tuple",_,PyProof.Rows.slot_tuple_getitem.lookup,ht.typeIs,HT.Bh ht hs pl pu (by rw [hlen]; exact hw) ⟨.ref a,H,I,rfl,q⟩⟩
theorem kW {ds:List D} {xs:List V} (p:av Γ ι H ds xs) (lo hi:Option Int):av Γ ι H (cut ds lo hi) (dw xs lo hi):=by
 have e:∀ n d o,EV.sIx n d o=HT.sIx n d o:=fun n d o=>by cases o <;> rfl
 unfold cut dw
 rw [e,e,p.length]
 exact Paired.tak _ (Paired.drp _ p)
theorem B6 (hK:Γ.K=X.K):SlR X (fun x lo hi H Q=>∃ ι S d,ao Γ ι H S/\Rep Γ ι H d x/\Out Γ xw ι H (slD d lo hi S) fun d _ ι' H'=>∀ v,Rep Γ ι' H' d v->Q v H'):=by
 intro pins s σ H x v vl vu lo hi sl Q I rx hs pl pu h
 obtain ⟨ι,S,d,hS,r,ho⟩:=h
 cases d with
 | tup ds =>
  obtain ⟨a,xs,rfl,t,p⟩:=r.bR
  rw [hK] at t
  have pc:=kW p lo hi
  by_cases hw:HT.sIx xs.length 0 lo=0/\HT.sIx xs.length xs.length hi=xs.length
  ·have e:dw xs lo hi=xs:=by unfold dw; rw [hw.1,hw.2]; simp
   have e2:cut ds lo hi=ds:=by
    have es:∀ n d o,EV.sIx n d o=HT.sIx n d o:=fun n d o=>by cases o <;> rfl
    unfold cut
    rw [es,es,p.length,hw.1,hw.2,<- p.length]; simp
   refine FW pins s σ H _ v vl vu lo hi sl Q I rx hs pl pu ⟨a,xs,rfl,t,hw,Out.val ho hS (by rw [e2]; exact r)⟩
  ·exact D6 pins s σ H _ v vl vu lo hi sl Q I rx hs pl pu ⟨a,xs,rfl,t,hw,fun q hq=>Out.tup ho hS hq pc⟩
 | fro ds =>
  obtain ⟨a,xs,rfl,t,p⟩:=r.eK
  have t:=t.sq
  rw [hK] at t
  exact tE pins s σ H _ v vl vu lo hi sl Q I rx hs pl pu ⟨a,xs,rfl,t,fun q hq=>Out.alloc ho hS hq (kW p lo hi)⟩
 | loc l =>
  obtain ⟨ds,q,ho'⟩:=Out.items ho
  obtain ⟨_,a,xs,rfl,_,p,t⟩:=cC hS r q
  ·have t:=t l rfl
   rw [hK] at t
   exact tE pins s σ H _ v vl vu lo hi sl Q I rx hs pl pu ⟨a,xs,rfl,t,fun q hq=>Out.alloc ho' hS hq (kW p lo hi)⟩
 | _=>exact ho.elim
end
end EV

namespace EV
open PySem PySem.Spec PyProof.Rows L2
theorem ints_map:∀ {ds:List D} {is:List Int},allInts ds=some is->ds=is.map D.int
 | [],is,h=>by cases h; rfl
 | d::r,is,h=>by
  cases d with
  | int i =>
   simp only [allInts,ZC] at h
   obtain ⟨js,e,rfl⟩:=h
   rw [ints_map e]; rfl
  | _=>cases h
theorem vA:∀ {ds:List D} {is:List Bool},cI ds=some is->ds=is.map D.bl
 | [],is,h=>by cases h; rfl
 | d::r,is,h=>by
  cases d with
  | bl i =>
   simp only [cI,ZC] at h
   obtain ⟨js,e,rfl⟩:=h
   rw [vA e]; rfl
  | _=>cases h
theorem fL {Γ:Gx} {ι:List Addr} {H:Hp}:∀ {is:List Int} {xs:List V},av Γ ι H (is.map D.int) xs->xs=is.map V.int
 | [],_,.nil=>rfl
 | i::r,_,.cons (b:=y) h t=>by
  cases h
  rw [fL t]; rfl
theorem ri {Γ:Gx} {ι:List Addr} {H:Hp}:∀ {is:List Bool} {xs:List V},av Γ ι H (is.map D.bl) xs->xs=is.map V.bl
 | [],_,.nil=>rfl
 | i::r,_,.cons (b:=y) h t=>by
  cases h
  rw [ri t]; rfl
theorem jX {Γ:Gx} {ι:List Addr} {H:Hp}:∀ (is:List Int),av Γ ι H (is.map D.int) (is.map V.int)
 | []=>.nil
 | i::r=>.cons (.int i) (jX r)
theorem rN:∀ t:List Int,allInts (t.map D.int)=some t
 | []=>rfl
 | a::r=>by show (allInts (r.map D.int)).map (a :: ·)=_; rw [rN r]; rfl
theorem Rep.trk {Γ:Gx} {ι:List Addr} {H:Hp} {t:List Int} {v:V} (r:Rep Γ ι H (.tup (t.map D.int)) v):∃ c,v=.ref c/\H c=some (.tup (t.map V.int)):=by
 cases r with
 | tup h1 h2 h3 h4=>exact ⟨_,rfl,by rw [<- fL (Paired.of_get h2 h3)]; exact h4 t (rN t)⟩
theorem oM (is:List Int):∀ k,preSum (fun i=>is.getD i 0) k=(is.take k).sum
 | 0=>by simp [preSum]
 | k+1=>by
  rw [preSum,oM is k,List.take_add_one,List.sum_append]
  congr 1
  rw [ZG]
  cases is[k]? <;> simp
theorem range_all (bs:List Bool):(List.range bs.length).all (fun i=>bs.getD i false)=bs.all id:=by
 rw [X1,Z8,Z8]
 constructor
 ·intro h b hb
  obtain ⟨i,e⟩:=ZL hb
  have:=h i (by rw [Z6]; exact (Zh.mp e).1)
  rw [ZG,e] at this
  exact this
 ·intro h i hi
  rw [Z6] at hi
  rw [ZG,Zb hi]
  exact h _ (Xp hi)
theorem pQ:∀ (r:List Int) (i:Int),r.foldl min i<=i/\∀ a∈r,r.foldl min i<=a
 | [],i=>⟨QM _,fun a h=>absurd h (by simp)⟩
 | b::r,i=>by
  obtain ⟨h1,h2⟩:=pQ r (min i b)
  simp only [Qp]
  refine ⟨by omega,fun a ha=>?_⟩
  rcases Zt.mp ha with rfl|ha
  ·omega
  ·exact h2 a ha
theorem nQ:∀ (r:List Int) (i:Int),r.foldl min i=i\/r.foldl min i∈r
 | [],i=>.inl rfl
 | b::r,i=>by
  simp only [Qp]
  rcases nQ r (min i b) with h|h
  ·rw [h]
   by_cases hb:i<=b
   ·exact .inl (by omega)
   ·exact .inr (by rw [show min i b=b by omega]; exact Zn)
  ·exact .inr (Zm _ h)
theorem sd:∀ (r:List Int) (i:Int),i<=r.foldl max i/\∀ a∈r,a<=r.foldl max i
 | [],i=>⟨QM _,fun a h=>absurd h (by simp)⟩
 | b::r,i=>by
  obtain ⟨h1,h2⟩:=sd r (max i b)
  simp only [Qp]
  refine ⟨by omega,fun a ha=>?_⟩
  rcases Zt.mp ha with rfl|ha
  ·omega
  ·exact h2 a ha
theorem tG:∀ (r:List Int) (i:Int),r.foldl max i=i\/r.foldl max i∈r
 | [],i=>.inl rfl
 | b::r,i=>by
  simp only [Qp]
  rcases tG r (max i b) with h|h
  ·rw [h]
   by_cases hb:b<=i
   ·exact .inl (by omega)
   ·exact .inr (by rw [show max i b=b by omega]; exact Zn)
  ·exact .inr (Zm _ h)
section
variable {X:Cx} {Γ:Gx} {xw:XW} {pins:List (Addr × Obj)} {σ:L2.St} {H:Hp} {s:Shared} {ι:List Addr} {S:af} {sub:Sub}
theorem jw {b:Bi} {xs:List V} {Q:VK} (hb:b.isR=false) (hb2:∀ a c S,bi2 b a c S=.bad) (h:cU Γ xw (biD sub b) xs H Q) :
  ∃ ι S a x,xs=[x]/\ao Γ ι H S/\Rep Γ ι H a x/\Out Γ xw ι H (bi1 sub b a S) fun d _ ι' H'=>∀ v,Rep Γ ι' H' d v->Q v H':=by
 obtain ⟨ι,S,ds,hS,r,ho⟩:=h
 unfold biD at ho
 rw [hb] at ho
 match ds,r with
 | [],.nil=>exact ho.elim
 | [a],.cons (b:=x) ra .nil=>exact ⟨ι,S,a,x,rfl,hS,ra,ho⟩
 | [a,c],_ =>
  have ho':Out Γ xw ι H (bi2 b a c S) _:=ho
  rw [hb2] at ho'
  exact ho'.elim
 | _::_::_::_,_=>exact ho.elim
theorem jA (hK:Γ.K=X.K) (I:Inv X pins σ H s) {a:Addr} {xs:List V} (sq:SqL Γ.K H a xs\/SqT Γ.K H a xs):∃ its:List Value,Vals xs its/\∀ (A:Around) (E:Value->Shared->Prop) (Q:Value->Shared->Prop),A.handled=none ->
  (∀ (I0:Addr) (fp:List Addr) (St:Nat->Heap->Prop) (s2:Shared),Walks X.prog X.w A I0 fp [I0] its.toArray.size (fun i v=>its.toArray[i]?=some v) St->St 0 s2.heap->(∀ b∈fp,b < s2.heap.objs.size) ->
   (∀ h' tk,(∀ b o,b ∉ [I0]->s2.heap.get? b=some o->h'.get? b=some o)->Inv X pins σ H { s2 with heap:=h',toks:=tk })->Q (.ref I0) s2)->wpAny (model X.prog X.w) A (pyIter (.ref a)) Q E s:=by
 rw [hK] at sq
 rcases sq with sq|sq
 ·obtain ⟨its,rv,pl,_⟩:=I.list sq
  refine ⟨its,rv,fun A E Q hh hQ=>wpAny_pyIter_list pl.isList ?_⟩
  obtain ⟨o,ho,_⟩:=id pl.isList
  have hlt:=Zs ho
  refine hQ s.heap.objs.size _ _ _ (Walks.list hh _ a (ZH hlt) its.toArray) ⟨⟨_,Zw _ rfl,rfl,rfl⟩,pl.isList.at fun o e=>Zg _ e⟩ (fun b hb=>?_) fun h' tk hk=>?_
  ·rw [Xk]
   rcases Zt.mp hb with rfl|hb
   ·exact Xw _
   ·have:b=a:=by simpa using hb
    subst this; exact XR hlt
  ·exact I.kept fun b u e=>hk b u (by simpa using ZH (Zs e)) (Zg _ e)
 ·obtain ⟨its,rv,pl,_⟩:=I.tuple sq
  refine ⟨its,rv,fun A E Q hh hQ=>Qn (show s.heap.IsTuple a its.toArray from pl) ?_⟩
  obtain ⟨o,ho,hc,hd⟩:=id pl
  have hlt:=Zs ho
  refine hQ s.heap.objs.size _ _ _ (Walks.tuple hh _ a (ZH hlt) its.toArray) ⟨⟨_,Zw _ rfl,rfl,rfl⟩,⟨o,Zg _ ho,hc,hd⟩⟩ (fun b hb=>?_) fun h' tk hk=>?_
  ·rw [Xk]
   rcases Zt.mp hb with rfl|hb
   ·exact Xw _
   ·have:b=a:=by simpa using hb
    subst this; exact XR hlt
  ·exact I.kept fun b u e=>hk b u (by simpa using ZH (Zs e)) (Zg _ e)
theorem iT {is:List Int} {its:List Value} (rv:Vals (is.map V.int) its) {i:Nat} {v:Value} (h:its.toArray[i]?=some v):∃ t,v=.int (is.getD i 0) t:=by
 have h':its[i]?=some v:=by simpa using h
 obtain ⟨x,hx,r⟩:=Paired.get' rv h'
 rw [ZM,ZC] at hx
 obtain ⟨j,hj,rfl⟩:=hx
 obtain ⟨t,rfl⟩:=r
 exact ⟨t,by rw [ZG,hj]; rfl⟩
theorem yp {is:List Bool} {its:List Value} (rv:Vals (is.map V.bl) its) {i:Nat} {v:Value} (h:its.toArray[i]?=some v):v=.bool (is.getD i false):=by
 have h':its[i]?=some v:=by simpa using h
 obtain ⟨x,hx,r⟩:=Paired.get' rv h'
 rw [ZM,ZC] at hx
 obtain ⟨j,hj,rfl⟩:=hx
 cases r
 rw [ZG,hj]; rfl
theorem EF (hK:Γ.K=X.K):b5 X (.builtin "len") (cU Γ xw (biD sub .len)):=by
 intro pins s σ H xs us Q I rs h
 obtain ⟨ι,S,a,x,rfl,hS,r,ho⟩:=jw rfl (fun _ _ _=>rfl) h
 obtain ⟨ds,q,ho⟩:=Out.items ho
 obtain ⟨_,p,ys,rfl,sq,rp,_⟩:=cC hS r q
 rw [hK] at sq
 refine Du pins s σ H _ us Q I rs ⟨p,ys,rfl,sq,?_⟩
 rw [<- rp.length]
 exact Out.val ho hS (.int _)
theorem F3 (hK:Γ.K=X.K) (hc:X.calm=true):b5 X (.builtin "all") (cU Γ xw (biD sub .all)):=by
 intro pins s σ H xs us Q I rs h
 obtain ⟨ι,S,a,x,rfl,hS,r,ho⟩:=jw rfl (fun _ _ _=>rfl) h
 obtain ⟨ds,q,ho⟩:=Out.items ho
 obtain ⟨bs,q2,ho⟩:=Out.opt ho
 obtain ⟨_,p,ys,rfl,sq,rp,_⟩:=cC hS r q
 rw [vA q2] at rp
 have e:=ri rp
 subst e
 obtain ⟨u,rfl,ru⟩:=rs.one
 cases ru
 obtain ⟨its,rv,wk⟩:=jA hK I sq
 refine call_all_walk (wk X.A.in1 _ _ (I.ok.hd hc) fun I0 fp St s2 W st fl inv=>⟨I0,fp,[I0],_,_,St,fun i=>bs.getD i false,rfl,W,st,fun i v s' Q' E' hv hq=>?_,fun h' tk hk=>?_⟩)
 ·rw [yp rv hv]; exact Xe hq
 ·have hl:its.toArray.size=bs.length:=by rw [Zi,<- rv.length,Zd]
  rw [hl,range_all]
  exact ⟨.bl _,H,inv h' tk hk,rfl,Out.val ho hS (.bl _)⟩
theorem Cr (hK:Γ.K=X.K) (hc:X.calm=true):b5 X (.builtin "sum") (cU Γ xw (biD sub .sum)):=by
 intro pins s σ H xs us Q I rs h
 obtain ⟨ι,S,a,x,rfl,hS,r,ho⟩:=jw rfl (fun _ _ _=>rfl) h
 obtain ⟨ds,q,ho⟩:=Out.items ho
 obtain ⟨is,q2,ho⟩:=Out.opt ho
 obtain ⟨_,p,ys,rfl,sq,rp,_⟩:=cC hS r q
 rw [ints_map q2] at rp
 have e:=fL rp
 subst e
 obtain ⟨u,rfl,ru⟩:=rs.one
 cases ru
 obtain ⟨its,rv,wk⟩:=jA hK I sq
 refine call_sum_walkG (wk X.A.in1 _ _ (I.ok.hd hc) fun I0 fp St s2 W st fl inv=>⟨I0,fp,[I0],_,_,St,fun i=>is.getD i 0,rfl,W,st,fl,fun i v hv=>iT rv hv,fun h' tk t' hk=>?_⟩)
 have hl:its.toArray.size=is.length:=by rw [Zi,<- rv.length,Zd]
 rw [hl,oM,Z4]
 exact ⟨.int _,H,inv h' tk hk,⟨_,rfl⟩,Out.val ho hS (.int _)⟩
end
end EV

namespace EV
open PySem PySem.Spec PyProof.Rows L2
section
variable {X:Cx} {Γ:Gx} {xw:XW} {pins:List (Addr × Obj)} {σ:L2.St} {H:Hp} {s:Shared} {ι:List Addr} {S:af} {sub:Sub}
theorem t8 {b:Bi} {xs:List V} {Q:VK} (hb:b.isR=false) (h:cU Γ xw (biD sub b) xs H Q) :
  (∃ ι S a x,xs=[x]/\ao Γ ι H S/\Rep Γ ι H a x/\Out Γ xw ι H (bi1 sub b a S) fun d _ ι' H'=>∀ v,Rep Γ ι' H' d v->Q v H') \/
  (∃ ι S a c x y,xs=[x,y]/\ao Γ ι H S/\Rep Γ ι H a x/\Rep Γ ι H c y/\Out Γ xw ι H (bi2 b a c S) fun d _ ι' H'=>∀ v,Rep Γ ι' H' d v->Q v H'):=by
 obtain ⟨ι,S,ds,hS,r,ho⟩:=h
 unfold biD at ho
 rw [hb] at ho
 have hl:ds.length=1\/ds.length=2\/ds=[]\/∃ a c e q,ds=a::c::e::q:=by
  rcases ds with _|⟨a,_|⟨c,_|⟨e,q⟩⟩⟩
  ·exact .inr (.inr (.inl rfl))
  ·exact .inl rfl
  ·exact .inr (.inl rfl)
  ·exact .inr (.inr (.inr ⟨_,_,_,_,rfl⟩))
 rcases hl with hl|hl|rfl|⟨_,_,_,_,rfl⟩
 ·obtain ⟨a,_,x,_,rfl,rfl,ra,r,hl⟩:=Paired.step r hl
  obtain ⟨rfl,rfl⟩:=Paired.last r hl
  exact .inl ⟨ι,S,a,x,rfl,hS,ra,ho⟩
 ·obtain ⟨a,_,x,_,rfl,rfl,ra,r,hl⟩:=Paired.step r hl
  obtain ⟨c,_,y,_,rfl,rfl,rc,r,hl⟩:=Paired.step r hl
  obtain ⟨rfl,rfl⟩:=Paired.last r hl
  exact .inr ⟨ι,S,a,c,x,y,rfl,hS,ra,rc,ho⟩
 ·exact ho.elim
 ·exact ho.elim
theorem BP {is:List Int} {i:Int} {r:List Int} (h:is=i::r) {M:Int} (hm:M∈is) (hle:∀ a∈is,M<=a):M=r.foldl min i:=by
 subst h
 obtain ⟨h1,h2⟩:=pQ r i
 have e1:r.foldl min i<=M:=by
  rcases Zt.mp hm with rfl|hm
  ·exact h1
  ·exact h2 M hm
 have e2:M<=r.foldl min i:=by
  rcases nQ r i with h|h
  ·rw [h]; exact hle i Zn
  ·exact hle _ (Zm _ h)
 omega
theorem vW {is:List Int} {i:Int} {r:List Int} (h:is=i::r) {M:Int} (hm:M∈is) (hle:∀ a∈is,a<=M):M=r.foldl max i:=by
 subst h
 obtain ⟨h1,h2⟩:=sd r i
 have e1:M<=r.foldl max i:=by
  rcases Zt.mp hm with rfl|hm
  ·exact h1
  ·exact h2 M hm
 have e2:r.foldl max i<=M:=by
  rcases tG r i with h|h
  ·rw [h]; exact hle i Zn
  ·exact hle _ (Zm _ h)
 omega
theorem getD_in {is:List Int} {j:Nat} (h:j < is.length):is.getD j 0∈is:=by
 rw [ZG,Zb h]
 exact Xp h
theorem AF (hK:Γ.K=X.K) (hc:X.calm=true):b5 X (.builtin "min") (cU Γ xw (biD sub .min)):=by
 intro pins s σ H xs us Q I rs h
 rcases t8 rfl h with ⟨ι,S,a,x,rfl,hS,r,ho⟩|⟨ι,S,a,c,x,y,rfl,hS,r1,r2,ho⟩
 ·obtain ⟨ds,q,ho⟩:=Out.items ho
  obtain ⟨is,q2,ho⟩:=Out.opt ho
  obtain ⟨_,p,ys,rfl,sq,rp,_⟩:=cC hS r q
  rw [ints_map q2] at rp
  have e:=fL rp
  subst e
  obtain ⟨u,rfl,ru⟩:=rs.one
  cases ru
  cases hi:is with
  | nil=>rw [hi] at ho; exact ho.elim
  | cons i0 r0 =>
   rw [hi] at ho
   have fin:Q (.int (r0.foldl min i0)) H:=Out.val ho hS (.int _)
   obtain ⟨its,rv,wk⟩:=jA hK I sq
   have hl:its.toArray.size=is.length:=by rw [Zi,<- rv.length,Zd]
   refine call_min_walk (wk X.A.in1 _ _ (I.ok.hd hc) fun I0 fp St s2 W st fl inv=>⟨I0,fp,[I0],_,_,St,fun i j=>decide (is.getD i 0 < is.getD j 0),rfl,W,st,fl,by rw [hl,hi]; simp,CmpOf.ints_lt (fun i=>is.getD i 0) fun i v hv=>iT rv hv,fun v h' tk hv hk=>?_⟩)
   obtain ⟨t,rfl⟩:=iT rv hv
   obtain ⟨h1,h2⟩:=argBest_lt (fun i=>is.getD i 0) (its.toArray.size - 1)
   have hpos:0 < is.length:=by rw [hi]; simp
   have e:is.getD (argBest (fun i j=>decide (is.getD i 0 < is.getD j 0)) (its.toArray.size - 1)) 0=r0.foldl min i0:=BP hi (getD_in (by omega)) fun b hb=>by
    obtain ⟨j,ej⟩:=ZL hb
    have hj:=(Zh.mp ej).1
    have:=h2 j (by omega)
    rw [show is.getD j 0=b by rw [ZG,ej]; rfl] at this
    exact this
   rw [e]
   exact ⟨.int _,H,inv h' tk hk,⟨_,rfl⟩,fin⟩
 ·cases a with
  | int i =>
   cases c with
   | int j=>cases r1; cases r2; exact FT hc pins s σ H _ us Q I rs ⟨i,j,rfl,Out.val ho hS (.int _)⟩
   | _=>exact ho.elim
  | _=>exact ho.elim
theorem yZ (hK:Γ.K=X.K) (hc:X.calm=true):b5 X (.builtin "max") (cU Γ xw (biD sub .max)):=by
 intro pins s σ H xs us Q I rs h
 rcases t8 rfl h with ⟨ι,S,a,x,rfl,hS,r,ho⟩|⟨ι,S,a,c,x,y,rfl,hS,r1,r2,ho⟩
 ·obtain ⟨ds,q,ho⟩:=Out.items ho
  obtain ⟨is,q2,ho⟩:=Out.opt ho
  obtain ⟨_,p,ys,rfl,sq,rp,_⟩:=cC hS r q
  rw [ints_map q2] at rp
  have e:=fL rp
  subst e
  obtain ⟨u,rfl,ru⟩:=rs.one
  cases ru
  cases hi:is with
  | nil=>rw [hi] at ho; exact ho.elim
  | cons i0 r0 =>
   rw [hi] at ho
   have fin:Q (.int (r0.foldl max i0)) H:=Out.val ho hS (.int _)
   obtain ⟨its,rv,wk⟩:=jA hK I sq
   have hl:its.toArray.size=is.length:=by rw [Zi,<- rv.length,Zd]
   refine call_max_walk (wk X.A.in1 _ _ (I.ok.hd hc) fun I0 fp St s2 W st fl inv=>⟨I0,fp,[I0],_,_,St,fun i j=>decide (is.getD i 0 > is.getD j 0),rfl,W,st,fl,by rw [hl,hi]; simp,CmpOf.ints_gt (fun i=>is.getD i 0) fun i v hv=>iT rv hv,fun v h' tk hv hk=>?_⟩)
   obtain ⟨t,rfl⟩:=iT rv hv
   obtain ⟨h1,h2⟩:=argBest_gt (fun i=>is.getD i 0) (its.toArray.size - 1)
   have hpos:0 < is.length:=by rw [hi]; simp
   have e:is.getD (argBest (fun i j=>decide (is.getD i 0 > is.getD j 0)) (its.toArray.size - 1)) 0=r0.foldl max i0:=vW hi (getD_in (by omega)) fun b hb=>by
    obtain ⟨j,ej⟩:=ZL hb
    have hj:=(Zh.mp ej).1
    have:=h2 j (by omega)
    rw [show is.getD j 0=b by rw [ZG,ej]; rfl] at this
    exact this
   rw [e]
   exact ⟨.int _,H,inv h' tk hk,⟨_,rfl⟩,fin⟩
 ·cases a with
  | int i =>
   cases c with
   | int j=>cases r1; cases r2; exact yW hc pins s σ H _ us Q I rs ⟨i,j,rfl,Out.val ho hS (.int _)⟩
   | _=>exact ho.elim
  | _=>exact ho.elim
theorem pN (hS:ao Γ ι H S) {d:D} {v:V} {ds:List D} {S':af} (r:Rep Γ ι H d v) (h:cu d S=.ok ds S'):S'=S/\∃ a xs,v=.ref a/\SqL Γ.K H a xs/\av Γ ι H ds xs:=by
 cases d with
 | fro es=>cases h; obtain ⟨a,xs,e,f,p⟩:=r.eK; exact ⟨rfl,a,xs,e,f.sq,p⟩
 | loc l=>obtain ⟨e,a,xs,e2,_,p,t⟩:=cC hS r (show items (.loc l) S=.ok ds S' from h); exact ⟨e,a,xs,e2,t l rfl,p⟩
 | _=>cases h
theorem BO (d:D) (S:af):(∃ ds,cu d S=.ok ds S)\/cu d S=.bad:=by
 cases d with
 | fro ds=>exact .inl ⟨ds,rfl⟩
 | loc l=>exact iC (.loc l) S
 | _=>exact .inr rfl
theorem Out.cu {α:Type} {d:D} {f:List D->M α} {k:α->af->List Addr->Hp->Prop} (ho:Out Γ xw ι H ((EV.cu d>>=f) S) k):∃ ds,EV.cu d S=.ok ds S/\Out Γ xw ι H (f ds S) k:=by
 rcases BO d S with ⟨ds,e⟩|e
 ·rw [aj e] at ho; exact ⟨ds,e,ho⟩
 ·rw [aT e] at ho; exact ho.elim
theorem Fv (hK:Γ.K=X.K):b5 X (.type "tuple") (cU Γ xw (biD sub .tuple)):=by
 intro pins s σ H xs us Q I rs h
 obtain ⟨ι,S,a,x,rfl,hS,r,ho⟩:=jw rfl (fun _ _ _=>rfl) h
 obtain ⟨ds,q,ho2⟩:=Out.items ho
 have r0:=r
 obtain ⟨_,p,ys,rfl,sq,rp,hloc⟩:=cC hS r q
 rw [hK] at sq
 cases a with
 | tup es =>
  cases q
  obtain ⟨b,xs,e,t,_⟩:=r0.bR
  cases e
  rw [hK] at t
  exact kK pins s σ H _ us Q I rs ⟨p,xs,rfl,.inr ⟨t,Out.val ho2 hS r0⟩⟩
 | fro es =>
  cases q
  obtain ⟨b,xs,e,t,rp2⟩:=r0.eK
  cases e
  have t:=t.sq
  rw [hK] at t
  exact kK pins s σ H _ us Q I rs ⟨p,xs,rfl,.inl ⟨t,fun l hl=>Out.tup ho2 hS hl rp2⟩⟩
 | loc l =>
  have t:=hloc l rfl
  rw [hK] at t
  exact kK pins s σ H _ us Q I rs ⟨p,ys,rfl,.inl ⟨t,fun l hl=>Out.tup ho2 hS hl rp⟩⟩
 | _=>cases q
noncomputable def Ty.name:Ty->Option String
 | .int=>some "int" | .bool=>some "bool" | .str=>some "str" | .list=>some "list" | .tuple=>some "tuple" | .dict=>some "dict" | .cls _=>none
theorem wO (hK:Γ.K=X.K) (I:Inv X pins σ H s) (hS:ao Γ ι H S) {t:Ty} {T:String} (ht:t.name=some T) {d:D} {x:V} {v:Value} (r:Rep Γ ι H d x) (rx:RelV x v) {k:Bool} (h:fZ sub S d t=some k) {A:Around} {E:Value->Shared->Prop} {Q:Value->Shared->Prop}
  (hq:∀ tk,Q (.bool k) { s with toks:=tk }):wpAny (model X.prog X.w) A (call (.builtin "isinstance") [v,.type T]) Q E s:=by
 have seqL:∀ {a:Addr} {xs:List V},SqL X.K H a xs->∀ {b:Bool},PySem.W.kitOne X.K (.type "list") (.type T)=some b->(∀ tk,Q (.bool b) { s with toks:=tk })->wpAny (model X.prog X.w) A (call (.builtin "isinstance") [.ref a,.type T]) Q E s:=fun {a xs} sq {b} e hq=>by
  obtain ⟨its,_,pl,_⟩:=I.list sq
  obtain ⟨o,h1,h2,_⟩:=pl.isList
  exact Qs PySem.W.kitx_list I.kIn ⟨o,h1,h2⟩ e (fun z=>nomatch z) hq
 cases d with
 | non=>cases r; cases rx; cases t <;> cases ht <;> cases h <;> exact Qs PySem.W.kitx_none I.kIn True.intro (by rfl) (fun z=>nomatch z) hq
 | bl b=>cases r; cases rx; cases t <;> cases ht <;> cases h <;> exact Qs PySem.W.kitx_bool I.kIn True.intro (by rfl) (fun z=>nomatch z) hq
 | int b=>cases r; obtain ⟨tk,rfl⟩:=rx; cases t <;> cases ht <;> cases h <;> exact Qs PySem.W.kitx_int I.kIn True.intro (by rfl) (fun z=>nomatch z) hq
 | str b=>cases r; obtain ⟨tk,rfl⟩:=rx; cases t <;> cases ht <;> cases h <;> exact Qs PySem.W.kitx_str I.kIn True.intro (by rfl) (fun z=>nomatch z) hq
 | tup ds =>
  obtain ⟨a,xs,rfl,sq,_⟩:=r.bR
  cases rx
  rw [hK] at sq
  obtain ⟨its,_,pl,_⟩:=I.tuple sq
  obtain ⟨o,h1,h2,_⟩:=pl
  cases t <;> cases ht <;> cases h <;> exact Qs PySem.W.kitx_tuple I.kIn ⟨o,h1,h2⟩ (by rfl) (fun z=>nomatch z) hq
 | fro ds =>
  obtain ⟨a,xs,rfl,sq,_⟩:=r.eK
  cases rx
  have sq:=sq.sq
  rw [hK] at sq
  cases t <;> cases ht <;> cases h <;> exact seqL sq (by rfl) hq
 | loc l =>
  cases r with
  | loc ql =>
   cases rx
   simp only [fZ] at h
   cases q:S[l]? with
   | none=>rw [q] at h; cases t <;> cases ht <;> cases h
   | some c =>
    rw [q] at h
    cases c with
    | lst ds =>
     obtain ⟨a,xs,ha,hx,_⟩:=hS.lst q
     rw [ql] at ha; cases ha
     cases t <;> cases ht <;> cases h <;> exact seqL (.of hx) (by rfl) hq
    | dct kvs=>cases t <;> cases ht <;> cases h
    | fdc kvs=>cases t <;> cases ht <;> cases h
 | exn c=>cases r
end
end EV

namespace EV
open PySem PySem.Spec PyProof.Rows L2
section
variable {X:Cx} {Γ:Gx} {xw:XW} {a b c:Expr} {ma mb mc:Sg->M D} {pos:Pos}
theorem GG {i:Nat} {x:Str} (hN:X.N[i]?=some x) (hv:Vis X.env.scope x) (hd:(x==("__debug__" : Str))=false) (hcd:(x==("__classdict__" : Str))=false):PE X (.Name x pos) (tM Γ xw fun σ=>bx σ i) :=
 PE.imp (zq hN hv hd hcd) fun σ H Q h=>by
  obtain ⟨σd,ι,S,he,hs,ho⟩:=h
  have ho:Out Γ xw ι H (bx σd i S) fun d _ ι' H'=>∀ v,Rep Γ ι' H' d v->Q v H':=ho
  cases q:σd[i]? with
  | none=>rw [show bx σd i S=.bad by unfold bx; rw [q]; rfl] at ho; exact ho.elim
  | some o =>
   cases o with
   | none=>rw [show bx σd i S=.bad by unfold bx; rw [q]; rfl] at ho; exact ho.elim
   | some d =>
    rw [show bx σd i S=.ok d S by unfold bx; rw [q]; rfl] at ho
    obtain ⟨v,hv,r⟩:=he.var i d q
    exact ⟨v,hv,ho.here hs v r⟩
theorem iG {e:Expr} {d:D} {v:V} (h:PE X e (tC v)) (r:∀ ι H,Rep Γ ι H d v):PE X e (tM Γ xw fun _=>pure d) :=
 PE.imp h fun σ H Q h=>by
  obtain ⟨σd,ι,S,he,hs,ho⟩:=h
  exact ho.here hs v (r _ _)
theorem Eu {op:Operator} {f:D->D->M D} (ho:OpR X (binaryOp op) (aU Γ xw f)) (ha:PE X a (tM Γ xw ma)) (hb:PE X b (tM Γ xw mb)):PE X (.BinOp a op b pos) (tM Γ xw fun σ=>ma σ>>=fun x=>mb σ>>=fun y=>f x y) :=
 PE.imp (ze ho ha hb) fun _ _ _ h=>lG h
theorem C_ {op:CmpOp} {f:D->D->M D} (ho:OpR X (compareOp op) (aU Γ xw f)) (ha:PE X a (tM Γ xw ma)) (hb:PE X b (tM Γ xw mb)) (hm:behindInMarks op b=false):PE X (.Compare a [op] [b] pos) (tM Γ xw fun σ=>ma σ>>=fun x=>mb σ>>=fun y=>f x y) :=
 PE.imp (G7 ho ha hb hm) fun _ _ _ h=>lG h
theorem wH {rest:List Expr} (ha:PE X a (tM Γ xw ma)) (hb:PE X (.BoolOp .And (b::rest) pos) (tM Γ xw mb)):PE X (.BoolOp .And (a::b::rest) pos) (tM Γ xw fun σ=>ma σ>>=fun x=>match x with|.bl true=>mb σ|.bl false=>pure (.bl false)|_=>bad) :=
 PE.imp (DB ha hb) fun σ H Q h=>by
  obtain ⟨σd,ι,S,he,hs,ho⟩:=h
  refine ⟨σd,ι,S,he,hs,ho.bind.mono fun d S' ι' H' _ _ ⟨s',e',o'⟩ v r=>?_⟩
  cases d with
  | bl k =>
   cases r
   refine ⟨k,rfl,?_⟩
   cases k with
   | true=>rw [Ze rfl]; exact ⟨σd,ι',S',he.ext e',s',o'⟩
   | false=>rw [Zf Zx]; exact o'.here s' _ (.bl _)
  | _=>exact o'.elim
theorem xK {rest:List Expr} (ha:PE X a (tM Γ xw ma)) (hb:PE X (.BoolOp .Or (b::rest) pos) (tM Γ xw mb)):PE X (.BoolOp .Or (a::b::rest) pos) (tM Γ xw fun σ=>ma σ>>=fun x=>match x with|.bl true=>pure (.bl true)|.bl false=>mb σ|_=>bad) :=
 PE.imp (vZ ha hb) fun σ H Q h=>by
  obtain ⟨σd,ι,S,he,hs,ho⟩:=h
  refine ⟨σd,ι,S,he,hs,ho.bind.mono fun d S' ι' H' _ _ ⟨s',e',o'⟩ v r=>?_⟩
  cases d with
  | bl k =>
   cases r
   refine ⟨k,rfl,?_⟩
   cases k with
   | false=>rw [Zf Zx]; exact ⟨σd,ι',S',he.ext e',s',o'⟩
   | true=>rw [Ze rfl]; exact o'.here s' _ (.bl _)
  | _=>exact o'.elim
theorem x9 (ha:PE X a (tM Γ xw ma)):PE X (.UnaryOp .Not a pos) (tM Γ xw fun σ=>ma σ>>=fun x=>match x with|.bl b=>pure (.bl (!b))|_=>bad) :=
 PE.imp (F0 ha) fun σ H Q h=>by
  obtain ⟨σd,ι,S,he,hs,ho⟩:=h
  refine ⟨σd,ι,S,he,hs,ho.bind.mono fun d S' ι' H' _ _ ⟨s',e',o'⟩ v r=>?_⟩
  cases d with
  | bl k=>cases r; exact ⟨k,rfl,o'.here s' _ (.bl _)⟩
  | _=>exact o'.elim
theorem Er (ha:PE X a (tM Γ xw ma)):PE X (.UnaryOp .USub a pos) (tM Γ xw fun σ=>ma σ>>=fun x=>match x with|.int i=>pure (.int (-i))|_=>bad) :=
 PE.imp (yx Cn ha) fun σ H Q h=>by
  obtain ⟨σd,ι,S,he,hs,ho⟩:=h
  refine ⟨σd,ι,S,he,hs,ho.bind.mono fun d S' ι' H' _ _ ⟨s',e',o'⟩ v r=>?_⟩
  cases d with
  | int k=>cases r; exact ⟨k,rfl,o'.here s' _ (.int _)⟩
  | _=>exact o'.elim
theorem jt {ι:List Addr} {H:Hp} {d:D} {v:V} (r:Rep Γ ι H d v):decide (v=.non)=decide (d=.non):=by
 cases r <;> simp
theorem GC {j pos'} (ha:PE X a (tM Γ xw ma)):PE X (.Compare a [.Is] [.Constant .none j pos'] pos) (tM Γ xw fun σ=>ma σ>>=fun x=>pure (.bl (decide (x=.non)))) :=
 PE.imp (nP (oz ha)) fun σ H Q h=>by
  obtain ⟨σd,ι,S,he,hs,ho⟩:=h
  refine ⟨σd,ι,S,he,hs,ho.bind.mono fun d S' ι' H' _ _ ⟨s',e',o'⟩ v r=>?_⟩
  show Q (.bl (decide (v=.non))) H'
  rw [jt r]; exact o'.here s' _ (.bl _)
theorem zd {j pos'} (ha:PE X a (tM Γ xw ma)):PE X (.Compare a [.IsNot] [.Constant .none j pos'] pos) (tM Γ xw fun σ=>ma σ>>=fun x=>pure (.bl (!decide (x=.non)))) :=
 PE.imp (nP (vz ha)) fun σ H Q h=>by
  obtain ⟨σd,ι,S,he,hs,ho⟩:=h
  refine ⟨σd,ι,S,he,hs,ho.bind.mono fun d S' ι' H' _ _ ⟨s',e',o'⟩ v r=>?_⟩
  show Q (.bl (!decide (v=.non))) H'
  rw [jt r]; exact o'.here s' _ (.bl _)
theorem wC {op op':CmpOp} {f f':D->D->M D} (ho:OpR X (compareOp op) (aU Γ xw f)) (ho':OpR X (compareOp op') (aU Γ xw f')) (ha:PE X a (tM Γ xw ma)) (hb:PE X b (tM Γ xw mb)) (hc:PE X c (tM Γ xw mc)) (hm:lastMarks [op,op'] [b,c]=false) :
  PE X (.Compare a [op,op'] [b,c] pos) (tM Γ xw fun σ=>ma σ>>=fun x=>mb σ>>=fun y=>f x y>>=fun r=>match r with|.bl true=>mc σ>>=fun z=>f' y z|.bl false=>pure (.bl false)|_=>bad) :=
 PE.imp (Bw ho ho' ha hb hc hm) fun σ H Q h=>by
  obtain ⟨σd,ι,S,he,hs,ho⟩:=h
  refine ⟨σd,ι,S,he,hs,ho.bind.mono fun d S' ι' H' _ _ ⟨s',e',o'⟩ v r=>⟨σd,ι',S',he.ext e',s',o'.bind.mono fun d2 S2 ι2 H2 _ _ ⟨s2,e2,o2⟩ v2 r2=>⟨ι2,S2,d,d2,s2,r.ext e2,r2,o2.bind.mono fun d3 S3 ι3 H3 _ _ ⟨s3,e3,o3⟩ v3 r3=>?_⟩⟩⟩
  cases d3 with
  | bl k =>
   cases r3
   refine ⟨k,rfl,?_⟩
   cases k with
   | true =>
    rw [Ze rfl]
    exact ⟨σd,ι3,S3,(he.ext (e'.trans e2)).ext e3,s3,o3.bind.mono fun d4 S4 ι4 H4 _ _ ⟨s4,e4,o4⟩ v4 r4=>⟨ι4,S4,d2,d4,s4,(r2.ext e3).ext e4,r4,o4⟩⟩
   | false=>rw [Zf Zx]; exact o3.here s3 _ (.bl _)
  | _=>exact o3.elim
theorem yb {e:Expr} {m:Sg->M D} (hK:Γ.K=X.K) (h:PE X e (tM Γ xw m)) (he:∀ whole,isTrue e X.env whole=(do let v <- whole; standAt e.pos; holding [v] (truthy v))):PT X e (tMT Γ xw fun σ=>m σ>>=truth):=by
 intro pins s σ H Q I hw
 obtain ⟨σd,ι,S,hE,hs,ho⟩:=hw
 refine isTrue_plain (thn (h pins s σ H (fun x H'=>∃ ι S d,ao Γ ι H' S/\Rep Γ ι H' d x/\Out Γ xw ι H' (truth d S) fun b _ _ H'=>Q b H') I ⟨σd,ι,S,hE,hs,ho.bind.mono fun d S' ι' H' _ _ ⟨s',e',o'⟩ v r=>⟨ι',S',d,s',r,o'⟩⟩) fun v s1 ⟨x,H1,I1,r1,q1⟩=>?_) (he _)
 exact Dz hK pins s1 σ H1 x v Q I1 r1 q1
theorem Cp {op:CmpOp} {f:D->D->M D} (hbl:∀ x y S d S',f x y S=.ok d S'->∃ k,d=.bl k) (ho:OpR X (compareOp op) (aU Γ xw f)) (ha:PE X a (tM Γ xw ma)) (hb:PE X b (tM Γ xw mb)) (hm:behindInMarks op b=false) :
  PT X (.Compare a [op] [b] pos) (tMT Γ xw fun σ=>ma σ>>=fun x=>mb σ>>=fun y=>f x y>>=fun r=>truth r) :=
 PT.imp (A1 ho ha hb hm) fun σ H Q h=>by
  obtain ⟨σd,ι,S,he,hs,ho⟩:=h
  refine ⟨σd,ι,S,he,hs,ho.bind.mono fun d S' ι' H' _ _ ⟨s',e',o'⟩ v r=>⟨σd,ι',S',he.ext e',s',o'.bind.mono fun d2 S2 ι2 H2 _ _ ⟨s2,e2,o2⟩ v2 r2=>⟨ι2,S2,d,d2,s2,r.ext e2,r2,?_⟩⟩⟩
  cases q:f d d2 S2 with
  | bad=>rw [aT q] at o2; exact o2.elim
  | exc c S3=>rw [cB q] at o2; exact o2
  | ok d3 S3 =>
   rw [aj q] at o2
   obtain ⟨k,rfl⟩:=hbl _ _ _ _ _ q
   intro ι3 H3 e3 s3 v3 r3
   cases r3
   exact ⟨k,rfl,(o2.step e3).here s3⟩
theorem HF {op op':CmpOp} {f f':D->D->M D} (hbl:∀ x y S d S',f x y S=.ok d S'->∃ k,d=.bl k) (hbl':∀ x y S d S',f' x y S=.ok d S'->∃ k,d=.bl k) (ho:OpR X (compareOp op) (aU Γ xw f)) (ho':OpR X (compareOp op') (aU Γ xw f')) (ha:PE X a (tM Γ xw ma)) (hb:PE X b (tM Γ xw mb)) (hc:PE X c (tM Γ xw mc)) (hm:lastMarks [op,op'] [b,c]=false) :
  PT X (.Compare a [op,op'] [b,c] pos) (tMT Γ xw fun σ=>ma σ>>=fun x=>mb σ>>=fun y=>f x y>>=fun r=>truth r>>=fun k=>if k=true then mc σ>>=fun z=>f' y z>>=fun q=>truth q else pure false) :=
 PT.imp (wB ho ho' ha hb hc hm) fun σ H Q h=>by
  obtain ⟨σd,ι,S,he,hs,ho⟩:=h
  refine ⟨σd,ι,S,he,hs,ho.bind.mono fun d S' ι' H' _ _ ⟨s',e',o'⟩ v r=>⟨σd,ι',S',he.ext e',s',o'.bind.mono fun d2 S2 ι2 H2 _ _ ⟨s2,e2,o2⟩ v2 r2=>⟨ι2,S2,d,d2,s2,r.ext e2,r2,?_⟩⟩⟩
  cases q:f d d2 S2 with
  | bad=>rw [aT q] at o2; exact o2.elim
  | exc c S3=>rw [cB q] at o2; exact o2
  | ok d3 S3 =>
   rw [aj q] at o2
   obtain ⟨k,rfl⟩:=hbl _ _ _ _ _ q
   intro ι3 H3 e3 s3 v3 r3
   cases r3
   refine ⟨k,rfl,?_⟩
   have o3:=o2.step e3
   cases k with
   | false=>rw [Zf Zx]; exact ⟨false,rfl,o3.here s3⟩
   | true =>
    rw [Ze rfl]
    have o3:Out Γ xw ι3 H3 ((mc σd>>=fun z=>f' d2 z>>=fun q=>truth q) S3) _:=o3
    refine ⟨σd,ι3,S3,(he.ext (e'.trans e2)).ext e3,s3,o3.bind.mono fun d4 S4 ι4 H4 _ _ ⟨s4,e4,o4⟩ v4 r4=>⟨ι4,S4,d2,d4,s4,(r2.ext e3).ext e4,r4,?_⟩⟩
    cases q4:f' d2 d4 S4 with
    | bad=>rw [aT q4] at o4; exact o4.elim
    | exc c S5=>rw [cB q4] at o4; exact o4
    | ok d5 S5 =>
     rw [aj q4] at o4
     obtain ⟨k5,rfl⟩:=hbl' _ _ _ _ _ q4
     intro ι5 H5 e5 s5 v5 r5
     cases r5
     exact ⟨k5,rfl,(o4.step e5).here s5⟩
theorem gU {j pos'} (ha:PE X a (tM Γ xw ma)):PT X (.Compare a [.Is] [.Constant .none j pos'] pos) (tMT Γ xw fun σ=>ma σ>>=fun x=>pure (decide (x=.non))) :=
 PT.imp (rB (oz ha)) fun σ H Q h=>by
  obtain ⟨σd,ι,S,he,hs,ho⟩:=h
  refine ⟨σd,ι,S,he,hs,ho.bind.mono fun d S' ι' H' _ _ ⟨s',e',o'⟩ v r=>⟨_,rfl,?_⟩⟩
  rw [jt r]; exact o'.here s'
theorem c5 {j pos'} (ha:PE X a (tM Γ xw ma)):PT X (.Compare a [.IsNot] [.Constant .none j pos'] pos) (tMT Γ xw fun σ=>ma σ>>=fun x=>pure (!decide (x=.non))) :=
 PT.imp (rB (vz ha)) fun σ H Q h=>by
  obtain ⟨σd,ι,S,he,hs,ho⟩:=h
  refine ⟨σd,ι,S,he,hs,ho.bind.mono fun d S' ι' H' _ _ ⟨s',e',o'⟩ v r=>⟨_,rfl,?_⟩⟩
  rw [jt r]; exact o'.here s'
variable {na nb:Sg->M Bool}
theorem tN {rest:List Expr} (ha:PT X a (tMT Γ xw na)) (hb:PW X (.BoolOp .And (b::rest) pos) (tMT Γ xw nb)):PW X (.BoolOp .And (a::b::rest) pos) (tMT Γ xw fun σ=>na σ>>=fun k=>if k=true then nb σ else pure false) :=
 PW.imp (Hs ha hb) fun σ H Q h=>by
  obtain ⟨σd,ι,S,he,hs,ho⟩:=h
  refine ⟨σd,ι,S,he,hs,ho.bind.mono fun k S' ι' H' _ _ ⟨s',e',o'⟩=>?_⟩
  cases k with
  | true=>rw [Ze rfl]; exact ⟨σd,ι',S',he.ext e',s',o'⟩
  | false=>rw [Zf Zx]; exact o'.here s'
theorem vJ {rest:List Expr} (ha:PT X a (tMT Γ xw na)) (hb:PW X (.BoolOp .Or (b::rest) pos) (tMT Γ xw nb)):PW X (.BoolOp .Or (a::b::rest) pos) (tMT Γ xw fun σ=>na σ>>=fun k=>if k=true then pure true else nb σ) :=
 PW.imp (EG ha hb) fun σ H Q h=>by
  obtain ⟨σd,ι,S,he,hs,ho⟩:=h
  refine ⟨σd,ι,S,he,hs,ho.bind.mono fun k S' ι' H' _ _ ⟨s',e',o'⟩=>?_⟩
  cases k with
  | false=>rw [Zf Zx]; exact ⟨σd,ι',S',he.ext e',s',o'⟩
  | true=>rw [Ze rfl]; exact o'.here s'
theorem zv (ha:PT X a (tMT Γ xw na)):PT X (.UnaryOp .Not a pos) (tMT Γ xw fun σ=>na σ>>=fun k=>pure (!k)) :=
 PT.imp (Hl ha) fun σ H Q h=>by
  obtain ⟨σd,ι,S,he,hs,ho⟩:=h
  exact ⟨σd,ι,S,he,hs,ho.bind.mono fun k S' ι' H' _ _ ⟨s',e',o'⟩=>o'.here s'⟩
theorem wc (hc:PT X c (tMT Γ xw na)) (ha:PE X a (tM Γ xw ma)) (hb:PE X b (tM Γ xw mb)):PE X (.IfExp c a b pos) (tM Γ xw fun σ=>na σ>>=fun k=>if k=true then ma σ else mb σ) :=
 PE.imp (D7 hc ha hb) fun σ H Q h=>by
  obtain ⟨σd,ι,S,he,hs,ho⟩:=h
  refine ⟨σd,ι,S,he,hs,ho.bind.mono fun k S' ι' H' _ _ ⟨s',e',o'⟩=>?_⟩
  cases k with
  | true=>rw [Ze rfl]; exact ⟨σd,ι',S',he.ext e',s',o'⟩
  | false=>rw [Zf Zx]; exact ⟨σd,ι',S',he.ext e',s',o'⟩
theorem CV:PA X [] (tMA Γ xw fun _=>pure []) :=
 PA.imp jJ fun σ H Q h=>by
  obtain ⟨σd,ι,S,he,hs,ho⟩:=h
  exact ho.here hs [] .nil
theorem E_ {es:List Expr} {m:Sg->M (List D)} (ha:PE X a (tM Γ xw ma)) (hr:PA X es (tMA Γ xw m)) (hs:starEach (a::es) X.env=(false,eval a X.env)::starEach es X.env):PA X (a::es) (tMA Γ xw fun σ=>ma σ>>=fun x=>m σ>>=fun xs=>pure (x::xs)) :=
 PA.imp (gD ha hr hs) fun σ H Q h=>by
  obtain ⟨σd,ι,S,he,hs,ho⟩:=h
  exact ⟨σd,ι,S,he,hs,ho.bind.mono fun d S' ι' H' _ _ ⟨s',e',o'⟩ v r=>⟨σd,ι',S',he.ext e',s',o'.bind.mono fun ds S2 ι2 H2 _ _ ⟨s2,e2,o2⟩ vs rs=>o2.here s2 _ (.cons (r.ext e2) rs)⟩⟩
theorem Dq {es:List Expr} {k:Nat} {m:Sg->M (List D)} (h:PA X es (tMA Γ xw m)):PE X (.Tuple es k pos) (tM Γ xw fun σ=>m σ>>=fun ds=>guard (fits ds.length) (pure (.tup ds))) :=
 PE.imp (Fj h) fun σ H Q h=>by
  obtain ⟨σd,ι,S,he,hs,ho⟩:=h
  refine ⟨σd,ι,S,he,hs,ho.bind.mono fun ds S' ι' H' _ _ ⟨s',e',o'⟩ vs rs=>?_⟩
  obtain ⟨hz,o'⟩:=Out.guard o'
  exact ⟨by rw [<- rs.length]; exact fF hz,fun p hp=>Out.tup o' s' hp rs⟩
theorem xH {es:List Expr} {m:Sg->M (List D)} (h:PA X es (tMA Γ xw m)):PE X (.List es pos) (tM Γ xw fun σ=>m σ>>=fun ds=>guard (fits ds.length) (alloc (.lst ds))) :=
 PE.imp (G8 h) fun σ H Q h=>by
  obtain ⟨σd,ι,S,he,hs,ho⟩:=h
  refine ⟨σd,ι,S,he,hs,ho.bind.mono fun ds S' ι' H' _ _ ⟨s',e',o'⟩ vs rs=>?_⟩
  obtain ⟨hz,o'⟩:=Out.guard o'
  exact ⟨by rw [<- rs.length]; exact fF hz,fun p hp=>Out.alloc o' s' hp rs⟩
theorem Bm (hK:Γ.K=X.K) (ha:PE X a (tM Γ xw ma)) (hb:PE X b (tM Γ xw mb)) (hs:mS b):PE X (.Subscript a b pos) (tM Γ xw fun σ=>ma σ>>=fun x=>mb σ>>=fun y=>ixD x y) :=
 PE.imp (Cu (yY hK) ha hb hs) fun _ _ _ h=>lG h
noncomputable def tMO (Γ:Gx) (xw:XW) (m:Sg->M (Option Int)):TO:=fun σ H Q=>∃ σd ι S,aQ Γ ι H σ σd/\ao Γ ι H S/\Out Γ xw ι H (m σd S) fun o _ _ H'=>Q o H'
theorem PO.imp {e:Option Expr} {t t':TO} (h:PO X e t) (f:∀ σ H Q,t' σ H Q->t σ H Q):PO X e t':=fun pins s σ H Q I q=>h pins s σ H Q I (f σ H Q q)
theorem FH:PO X none (tMO Γ xw fun _=>pure none):=PO.imp yo fun σ H Q h=>by
 obtain ⟨σd,ι,S,he,hs,ho⟩:=h
 exact ho.here hs
theorem GS (ha:PE X a (tM Γ xw ma)):PO X (some a) (tMO Γ xw fun σ=>ma σ>>=fK):=PO.imp (yq ha) fun σ H Q h=>by
 obtain ⟨σd,ι,S,he,hs,ho⟩:=h
 refine ⟨σd,ι,S,he,hs,ho.bind.mono fun d S' ι' H' _ _ ⟨s',e',o'⟩ v r=>?_⟩
 cases d with
 | int i=>cases r; exact ⟨i,rfl,o'.here s'⟩
 | _=>exact o'.elim
theorem xr {lo hi:Option Expr} {ml mh:Sg->M (Option Int)} {p2:Pos} (hK:Γ.K=X.K) (ha:PE X a (tM Γ xw ma)) (hl:PO X lo (tMO Γ xw ml)) (hh:PO X hi (tMO Γ xw mh)) :
  PE X (.Subscript a (.Slice lo hi none p2) pos) (tM Γ xw fun σ=>ma σ>>=fun x=>ml σ>>=fun l=>mh σ>>=fun h=>slD x l h) :=
 PE.imp (zS (B6 hK) ha hl hh) fun σ H Q h=>by
  obtain ⟨σd,ι,S,he,hs,ho⟩:=h
  exact ⟨σd,ι,S,he,hs,ho.bind.mono fun d S' ι' H' _ _ ⟨s',e',o'⟩ v r=>⟨σd,ι',S',he.ext e',s',o'.bind.mono fun l S2 ι2 H2 _ _ ⟨s2,e2,o2⟩=>⟨σd,ι2,S2,(he.ext e').ext e2,s2,o2.bind.mono fun u S3 ι3 H3 _ _ ⟨s3,e3,o3⟩=>⟨ι3,S3,d,s3,(r.ext e2).ext e3,o3⟩⟩⟩⟩
theorem iS {id:String} {x:Str} {p:Pos} {es:List Expr} {m:Sg->M (List D)} {f:List D->M D} (hc:b5 X (.builtin id) (cU Γ xw f)) (hg:Gl X x) (hm:X.mg x=none) (hv:bootBuiltins x=some (.builtin id)) (ha:PA X (a::es) (tMA Γ xw m)) (hn:x≠"__name__") (hdb:(x==("__debug__" : Str))=false)
  (he:starEach (a::es) X.env=(false,eval a X.env)::starEach es X.env) (hpl:(backTo pos (starEach es X.env)).any (·.1)=false):PE X (.Call (.Name x p) (a::es) [] pos) (tM Γ xw fun σ=>m σ>>=f) :=
 PE.imp (sN hc hg hm hv ha hn hdb he hpl) fun _ _ _ h=>pB h
theorem yt {T:String} {x:Str} {p:Pos} {es:List Expr} {m:Sg->M (List D)} {f:List D->M D} (hc:b5 X (.type T) (cU Γ xw f)) (hg:Gl X x) (hm:X.mg x=none) (hv:bootBuiltins x=some (.type T)) (ha:PA X (a::es) (tMA Γ xw m)) (hn:x≠"__name__") (hdb:(x==("__debug__" : Str))=false)
  (he:starEach (a::es) X.env=(false,eval a X.env)::starEach es X.env) (hpl:(backTo pos (starEach es X.env)).any (·.1)=false):PE X (.Call (.Name x p) (a::es) [] pos) (tM Γ xw fun σ=>m σ>>=f) :=
 PE.imp (HD hc hg hm hv ha hn hdb he hpl) fun _ _ _ h=>pB h
theorem Ds {sub:Sub} {t:Ty} {T:String} {x y:Str} {p p':Pos} (hK:Γ.K=X.K) (ht:t.name=some T) (hg:Gl X x) (hm:X.mg x=none) (hv:bootBuiltins x=some (.builtin "isinstance")) (hg':Gl X y) (hm':X.mg y=none) (hv':bootBuiltins y=some (.type T)) (ha:PE X a (tM Γ xw ma))
  (hn:x≠"__name__") (hdb:(x==("__debug__" : Str))=false) (hn':y≠"__name__") (hdb':(y==("__debug__" : Str))=false) (hst:starEach [a,.Name y p'] X.env=(false,eval a X.env)::starEach [.Name y p'] X.env) :
  PE X (.Call (.Name x p) [a,.Name y p'] [] pos) (tM Γ xw fun σ=>ma σ>>=fun d=>iU sub t d):=by
 have hy:PE X (.Name y p') (tC (.ty T)):=DT hg' hm' hv' rfl hn' hdb'
 have hc:b5 X (.builtin "isinstance") (fun xs H Q=>∃ x,xs=[x,.ty T]/\sW Γ xw (iU sub t) x H Q):=by
  intro pins s σ H xs us Q I rs h
  obtain ⟨x,rfl,ι,S,d,hS,r,ho⟩:=h
  obtain ⟨u1,u2,rfl,r1,r2⟩:=rs.two
  cases r2
  unfold iU at ho
  cases q:fZ sub S d t with
  | none=>rw [q] at ho; exact ho.elim
  | some k =>
   rw [q] at ho
   exact wO hK I hS ht r r1 q fun tk=>⟨.bl k,H,I.tok _,rfl,Out.val ho hS (.bl _)⟩
 refine PE.imp (sN hc hg hm hv (gD ha (gD hy jJ rfl) hst) hn hdb hst rfl) fun σ H Q h=>?_
 obtain ⟨σd,ι,S,he,hs,ho⟩:=h
 exact ⟨σd,ι,S,he,hs,ho.bind.mono fun d S' ι' H' _ _ ⟨s',e',o'⟩ v r=>⟨v,rfl,ι',S',d,s',r,o'⟩⟩
end
end EV

namespace EV
open PySem PySem.Spec PyProof.Rows L2
section
variable {X:Cx} {Γ:Gx} {xw:XW} {ι ι':List Addr} {H H':Hp} {S:af} {σ:L2.St}
theorem Rep.move (hp:ι <+: ι') (ht:∀ a xs,H a=some (.tup xs)->H' a=some (.tup xs)) (hf:∀ a o u,H a=some (.frz o u)->H' a=some (.frz o u)) {d:D} {v:V} (h:Rep Γ ι H d v):Rep Γ ι' H' d v:=by
 induction h with
 | non=>exact .non
 | bl b=>exact .bl b
 | int i=>exact .int i
 | str x=>exact .str x
 | tup h1 h2 h3 h4 ih =>
  refine .tup ?_ h2 ih fun k q=>ht _ _ (h4 k q)
  rcases h1 with (h|⟨o,h⟩)|h
  ·exact .inl (.inl (ht _ _ h))
  ·exact .inl (.inr ⟨o,hf _ _ _ h⟩)
  ·exact .inr h
 | fro h1 h2 h3 ih =>
  refine .fro ?_ h2 ih
  rcases h1 with ⟨o,h⟩|h
  ·exact .inl ⟨o,hf _ _ _ h⟩
  ·exact .inr h
 | loc h=>exact .loc (eZ hp h)
theorem pK {a:Addr} {xs ys:List V} (h:H a=some (.lst xs)):∀ b zs,H b=some (.tup zs)->upd H a (.lst ys) b=some (.tup zs):=fun b zs e=>by
 rw [aA (kH e h (by intro z; cases z))]; exact e
theorem uc {a:Addr} {xs ys:List V} (h:H a=some (.lst xs)):∀ b o u,H b=some (.frz o u)->upd H a (.lst ys) b=some (.frz o u):=fun b o u e=>by
 rw [aA (kH e h (by intro z; cases z))]; exact e
theorem Rep.write {a:Addr} {xs ys:List V} (h:H a=some (.lst xs)) {d:D} {v:V} (r:Rep Γ ι H d v):Rep Γ ι (upd H a (.lst ys)) d v:=r.move (Xo _) (pK h) (uc h)
theorem av.write {a:Addr} {xs ys:List V} (h:H a=some (.lst xs)) {ds:List D} {vs:List V} (r:av Γ ι H ds vs):av Γ ι (upd H a (.lst ys)) ds vs:=Paired.imp (fun _ _ r=>Rep.write h r) r
theorem aQ.write {a:Addr} {xs ys:List V} (h:H a=some (.lst xs)) {σd:Sg} (e:aQ Γ ι H σ σd):aQ Γ ι (upd H a (.lst ys)) σ σd:=⟨e.len,fun i d q=>let ⟨v,e1,r⟩:=e.var i d q; ⟨v,e1,r.write h⟩⟩
theorem Ext.write {a:Addr} {xs ys:List V} (h:H a=some (.lst xs)) (hm:a∈ι):Ext ι ι H (upd H a (.lst ys)) :=
 ⟨Xo _,pK h,uc h,fun b o e n=>by rw [aA (fun z=>n (by rw [z]; exact hm))]; exact e,fun _ h n=>absurd h n⟩
theorem ao.write (hS:ao Γ ι H S) {l:Nat} {a:Addr} {xs ys:List V} {es ds:List D} (hl:S[l]?=some (.lst es)) (ha:ι[l]?=some a) (h:H a=some (.lst xs)) (r:av Γ ι H ds ys):ao Γ ι (upd H a (.lst ys)) (S.set l (.lst ds)):=by
 refine ⟨by rw [XN]; exact hS.len,hS.nd,fun m c hm=>?_⟩
 by_cases e:m=l
 ·subst e
  rw [Xh (Zh.mp hl).1] at hm
  cases hm
  exact ⟨a,ha,ys,cg,av.write h r⟩
 ·rw [Z0 (Ne.symm e)] at hm
  obtain ⟨b,hb,c1⟩:=hS.cell m c hm
  have hne:b≠a:=fun z=>e (gy hS.nd hb (z ▸ ha))
  refine ⟨b,hb,?_⟩
  cases c with
  | lst zs=>obtain ⟨ws,hw,rw'⟩:=c1; exact ⟨ws,by rw [aA hne]; exact hw,av.write h rw'⟩
  | dct kvs=>obtain ⟨ws,hw,rw'⟩:=c1; exact ⟨ws,by rw [aA hne]; exact hw,Paired.imp (fun _ _ q=>⟨q.1,Rep.write h q.2⟩) rw'⟩
  | fdc kvs=>obtain ⟨ws,⟨o,hw⟩,rw'⟩:=c1; exact ⟨ws,⟨o,by rw [aA hne]; exact hw⟩,Paired.imp (fun _ _ q=>⟨q.1,Rep.write h q.2⟩) rw'⟩
theorem ao.other (hS:ao Γ ι H S) {a:Addr} {xs ys:List V} (h:H a=some (.lst xs)) (hn:a ∉ ι):ao Γ ι (upd H a (.lst ys)) S :=
 ⟨hS.len,hS.nd,fun m c hm=>by
  obtain ⟨b,hb,c1⟩:=hS.cell m c hm
  have hne:b≠a:=fun z=>hn (z ▸ Zy hb)
  refine ⟨b,hb,?_⟩
  cases c with
  | lst zs=>obtain ⟨ws,hw,rw'⟩:=c1; exact ⟨ws,by rw [aA hne]; exact hw,av.write h rw'⟩
  | dct kvs=>obtain ⟨ws,hw,rw'⟩:=c1; exact ⟨ws,by rw [aA hne]; exact hw,Paired.imp (fun _ _ q=>⟨q.1,Rep.write h q.2⟩) rw'⟩
  | fdc kvs=>obtain ⟨ws,⟨o,hw⟩,rw'⟩:=c1; exact ⟨ws,⟨o,by rw [aA hne]; exact hw⟩,Paired.imp (fun _ _ q=>⟨q.1,Rep.write h q.2⟩) rw'⟩⟩
theorem aQ.set {σd:Sg} (e:aQ Γ ι H σ σd) (i:Nat) {d:D} {v:V} (r:Rep Γ ι H d v):aQ Γ ι H (σ.set i (some v)) (σd.set i (some d)):=by
 refine ⟨by rw [XN,XN]; exact e.len,fun j d' h=>?_⟩
 by_cases hij:j=i
 ·subst hij
  have hj:j < σd.length:=by
   have:=(Zh.mp h).1
   rw [XN] at this; exact this
  rw [Xh hj] at h
  cases h
  exact ⟨v,by rw [Xh (by rw [e.len]; exact hj)],r⟩
 ·rw [Z0 (Ne.symm hij)] at h
  obtain ⟨w,hw,rw'⟩:=e.var j d' h
  exact ⟨w,by rw [Z0 (Ne.symm hij)]; exact hw,rw'⟩
theorem aQ.more {σd:Sg} (e:aQ Γ ι H σ σd) (k:Nat):aQ Γ ι H (σ++List.replicate k none) (σd++List.replicate k none):=by
 refine ⟨by simp [e.len],fun j d h=>?_⟩
 by_cases hj:j < σd.length
 ·rw [ZE hj] at h
  obtain ⟨w,hw,r⟩:=e.var j d h
  exact ⟨w,by rw [ZE (by rw [e.len]; exact hj)]; exact hw,r⟩
 ·rw [ZJ (by omega),XU] at h
  split at h <;> cases h
theorem EE:MtR X "list.append" (fun x xs H Q=>∃ ι S dx ds,ao Γ ι H S/\Rep Γ ι H dx x/\av Γ ι H ds xs/\Out Γ xw ι H (meD .append dx ds S) fun d _ ι' H'=>∀ v,Rep Γ ι' H' d v->Q v H'):=by
 intro pins s σ H x xs v us Q I rx rs h
 obtain ⟨ι,S,dx,ds,hS,r1,r2,ho⟩:=h
 match ds,r2 with
 | [],_=>exact ho.elim
 | _::_::_,_=>exact ho.elim
 | [d],.cons (b:=y) rd .nil =>
  cases dx with
  | loc l =>
   obtain ⟨es,e,ho⟩:=Out.a_ ho
   obtain ⟨hz,ho⟩:=Out.guard ho
   obtain ⟨a,ws,ha,hx,p⟩:=hS.lst e
   cases r1 with
   | loc q =>
    rw [ha] at q; cases q
    refine sD pins s σ H _ _ v us Q I rx rs ⟨a,ws,y,rfl,rfl,hx,by rw [<- p.length]; exact sI hz,?_⟩
    exact ho ι _ (Ext.write hx (Zy ha)) (hS.write e ha hx (Paired.app p (.cons rd .nil))) _ .non
  | _=>exact ho.elim
theorem Ep:MtR X "list.extend" (fun x xs H Q=>∃ ι S dx ds,ao Γ ι H S/\Rep Γ ι H dx x/\av Γ ι H ds xs/\Out Γ xw ι H (meD .extend dx ds S) fun d _ ι' H'=>∀ v,Rep Γ ι' H' d v->Q v H'):=by
 intro pins s σ H x xs v us Q I rx rs h
 obtain ⟨ι,S,dx,ds,hS,r1,r2,ho⟩:=h
 match ds,r2 with
 | [],_=>exact ho.elim
 | _::_::_,_=>exact ho.elim
 | [d],.cons (b:=y) rd .nil =>
  cases dx with
  | loc l =>
   cases d with
   | loc m =>
    obtain ⟨es,e,ho⟩:=Out.a_ ho
    obtain ⟨fs,e2,ho⟩:=Out.a_ ho
    obtain ⟨hz,ho⟩:=Out.guard ho
    obtain ⟨a,ws,ha,hx,p⟩:=hS.lst e
    obtain ⟨b,zs,hb,hy,p2⟩:=hS.lst e2
    cases r1 with
    | loc q =>
     cases rd with
     | loc q2 =>
      rw [ha] at q; cases q
      rw [hb] at q2; cases q2
      refine zE pins s σ H _ _ v us Q I rx rs ⟨a,b,ws,zs,rfl,rfl,hx,hy,by rw [<- p.length,<- p2.length]; exact fF hz,?_⟩
      exact ho ι _ (Ext.write hx (Zy ha)) (hS.write e ha hx (Paired.app p p2)) _ .non
   | _=>exact ho.elim
  | _=>exact ho.elim
theorem pR {o a:Expr} {es:List Expr} {me:Me} {name:Str} {apos cpos:Pos} {id:String} {mo:Sg->M D} {m:Sg->M (List D)} (hK:Γ.K=X.K) (pa:PlainAttrs "list") (slot:Slot "list" name id) (hty:typeOf (.builtin id)=pure (.type "method_descriptor"))
  (hm:MtR X id (fun x xs H Q=>∃ ι S dx ds,ao Γ ι H S/\Rep Γ ι H dx x/\av Γ ι H ds xs/\Out Γ xw ι H (meD me dx ds S) fun d _ ι' H'=>∀ v,Rep Γ ι' H' d v->Q v H')) (ho:PE X o (tM Γ xw mo)) (ha:PA X (a::es) (tMA Γ xw m))
  (hbase:attributeBase o name X.env (eval o X.env)=eval o X.env)
  (hfew:((backTo cpos (starEach (a::es) X.env)).all (fun x=>!x.1)&&(backToKw cpos (keywordEach [] X.env)).all (fun x=>x.1.isSome)&&decide ((a::es).length+([]:List Keyword).length+(if ([]:List Keyword).isEmpty then 0 else 1) < 30))=true)
  (hline:(apos.endLine==cpos.line)=true) (hs:starEach (a::es) X.env=(false,eval a X.env)::starEach es X.env) (hplain:(backTo cpos (starEach es X.env)).any (·.1)=false) :
  PE X (.Call (.Attribute o name apos) (a::es) [] cpos) (tM Γ xw fun σ=>mo σ>>=fun x=>ja x (m σ>>=fun ds=>meD me x ds)) :=
 PE.imp (Am pa slot hty hm ho ha hbase hfew hline hs hplain) fun σ H Q h=>by
  obtain ⟨σd,ι,S,he,hs,ho⟩:=h
  refine ⟨σd,ι,S,he,hs,ho.bind.mono fun d S' ι' H' _ _ ⟨s',e',o'⟩ v r=>?_⟩
  obtain ⟨hl,o'⟩:=Out.guard (b:=d.c_ S') o'
  cases d with
  | loc l =>
   have r0:=r
   cases r with
   | loc q =>
    have hlt:l < S'.length:=by rw [<- s'.len]; exact (Zh.mp q).1
    obtain ⟨b,hb,c⟩:=s'.cell l S'[l] (Zb hlt)
    rw [q] at hb; cases hb
    cases e:S'[l] with
    | lst ds =>
     rw [e] at c
     obtain ⟨xs,hx,_⟩:=c
     refine ⟨.inl ⟨rfl,xs,.of hx⟩,σd,ι',S',he.ext e',s',o'.bind.mono fun ds S2 ι2 H2 _ _ ⟨s2,e2,o2⟩ vs rs=>⟨ι2,S2,.loc l,ds,s2,r0.ext e2,rs,o2⟩⟩
    | dct kvs =>
     have:S'[l]?=some (.dct kvs):=by rw [Zb hlt,e]
     have hl:(match S'[l]? with|some (.lst _)=>true|_=>false)=true:=hl
     rw [this] at hl; cases hl
    | fdc kvs =>
     have:S'[l]?=some (.fdc kvs):=by rw [Zb hlt,e]
     have hl:(match S'[l]? with|some (.lst _)=>true|_=>false)=true:=hl
     rw [this] at hl; cases hl
  | _=>exact absurd hl Zx
end
end EV

namespace EV
open PySem PySem.Spec PyProof.Rows L2
noncomputable def jf (Γ:Gx) (src:Src) (J:It) (ι0:List Addr) (H0:Hp):Prop:=∀ ι H S,Ext ι0 ι H0 H->ao Γ ι H S->aD src S=.ok () S ->
 (∀ (i:Nat) d,src.its[i]?=some d->J.go i H/\∀ x H',J.yld i H x H'->Ext ι ι H H'/\ao Γ ι H' S/\Rep Γ ι H' d x)/\J.stop src.its.length H
noncomputable def tMI (Γ:Gx) (xw:XW) (m:Sg->M Src):TI:=fun σ H R=>∃ σd ι S,aQ Γ ι H σ σd/\ao Γ ι H S/\Out Γ xw ι H (m σd S) fun src _ ι' H'=>∀ J,jf Γ src J ι' H'->R J H'
theorem j8 (src:Src) (S:af):aD src S=.ok () S\/aD src S=.bad:=by
 unfold aD
 cases src.l with
 | none=>exact .inl rfl
 | some l =>
  dsimp only
  cases listAt S l with
  | none=>exact .inr rfl
  | some ds =>
   by_cases h:ds=src.raw
   ·exact .inl (by simp only [h,decide_true]; rfl)
   ·exact .inr (by simp only [h,decide_false]; rfl)
section
variable {X:Cx} {Γ:Gx} {xw:XW} {tg a:Expr} {ma:Sg->M D} {pos:Pos}
theorem PI.imp {iter:Expr} {t t':TI} (h:PI X tg iter t) (f:∀ σ H R,t' σ H R->t σ H R):PI X tg iter t':=fun pins s σ H R I q=>h pins s σ H R I (f σ H R q)
noncomputable def iSq (K:PySem.W.Frag) (tl:TE):TI:=fun σ H R=>tl σ H fun x H1=>∃ a,x=.ref a/\(((∃ xs,SqL K H1 a xs)/\R (Itl K a) H1)\/((∃ xs,SqT K H1 a xs)/\R (Itt K a) H1))
theorem A4 {l:Expr} {tl:TE} (hl:PE X l tl):PI X tg l (iSq X.K tl):=by
 intro pins s σ H R I h
 refine thn (hl pins s σ H _ I h) fun v s1 ⟨x,H1,I1,r1,q1⟩=>?_
 obtain ⟨a,e,q1⟩:=q1
 subst e
 cases r1
 rcases q1 with ⟨⟨xs,hq⟩,q⟩|⟨⟨xs,hq⟩,q⟩
 ·have hc:PE X l (fun σ H Q=>True->True->tl σ H Q):=fun pins s σ H Q I h=>hl pins s σ H Q I (h trivial trivial)
  obtain ⟨its,rv,p,hz⟩:=I1.list hq
  refine wpAny_pyIter_list p.isList ?_
  refine ⟨s1.heap.objs.size,[s1.heap.objs.size],_,_,H1,rfl,I1.kept (t':=s1.toks) fun b o e=>Zg _ e,G4 a _,⟨_,Zw _ rfl,rfl,rfl⟩,fun b hb=>?_,q⟩
  have e:b=s1.heap.objs.size:=by simpa using hb
  subst e
  exact I1.ff (Zk _) (I1.hok.fresh (Zk _))
 ·obtain ⟨its,rv,p,hz⟩:=I1.tuple hq
  refine Qn (show s1.heap.IsTuple a its.toArray from p) ?_
  refine ⟨s1.heap.objs.size,[s1.heap.objs.size],_,_,H1,rfl,I1.kept (t':=s1.toks) fun b o e=>Zg _ e,yJ a _,⟨_,Zw _ rfl,rfl,rfl⟩,fun b hb=>?_,q⟩
  have e:b=s1.heap.objs.size:=by simpa using hb
  subst e
  exact I1.ff (Zk _) (I1.hok.fresh (Zk _))
theorem oN {ι:List Addr} {H:Hp} {S:af} {d:D} {v:V} {src:Src} {S':af} (hS:ao Γ ι H S) (r:Rep Γ ι H d v) (h:srcOf d S=.ok src S'):S'=S/\src.its=src.raw/\aD src S=.ok () S/\∃ a tup,v=.ref a/\(∃ xs,SqB Γ.K H tup a xs) /\
  ∀ ι1 H1 S1,Ext ι ι1 H H1->ao Γ ι1 H1 S1->aD src S1=.ok () S1->∃ xs,SqB Γ.K H1 tup a xs/\av Γ ι1 H1 src.raw xs:=by
 cases d with
 | tup ds =>
  cases h
  obtain ⟨a,xs,e,t,p⟩:=r.bR
  exact ⟨rfl,rfl,rfl,a,true,e,⟨xs,t⟩,fun ι1 H1 S1 e1 _ _=>⟨xs,e1.sqT t,av.ext e1 p⟩⟩
 | fro ds =>
  cases h
  obtain ⟨a,xs,e,t,p⟩:=r.eK
  exact ⟨rfl,rfl,rfl,a,false,e,⟨xs,t.sq⟩,fun ι1 H1 S1 e1 _ _=>⟨xs,(e1.fro t).sq,av.ext e1 p⟩⟩
 | loc l =>
  have h:(items (.loc l)>>=fun ds=>pure (⟨ds,some l,ds⟩:Src)) S=.ok src S':=h
  rcases iC (.loc l) S with ⟨ds,e⟩|e
  ·rw [aj e] at h
   cases h
   obtain ⟨_,a,xs,e2,_,p,t⟩:=cC hS r e
   subst e2
   have hl:listAt S l=some ds:=by
    rw [tV] at e
    cases q:listAt S l with
    | none=>rw [q] at e; cases e
    | some es=>rw [q] at e; cases e; rfl
   refine ⟨rfl,rfl,?_,a,false,rfl,⟨xs,t l rfl⟩,fun ι1 H1 S1 e1 s1 st=>?_⟩
   ·unfold aD; simp only [hl,decide_true]; rfl
   ·have hl1:listAt S1 l=some ds:=by
     unfold aD at st
     dsimp only at st
     cases q:listAt S1 l with
     | none=>rw [q] at st; cases st
     | some es =>
      rw [q] at st
      by_cases h:es=ds
      ·rw [h]
      ·simp only [h,decide_false] at st; cases st
    obtain ⟨b,ys,e3,sb,p1⟩:=s1.list (r.ext e1) (show asL S1 (.loc l)=some ds from hl1)
    cases e3
    exact ⟨ys,sb,p1⟩
  ·rw [aT e] at h; cases h
 | _=>cases h
theorem uu (d:D) (S:af):(∃ src,srcOf d S=.ok src S)\/srcOf d S=.bad:=by
 cases d with
 | tup ds=>exact .inl ⟨_,rfl⟩
 | fro ds=>exact .inl ⟨_,rfl⟩
 | loc l =>
  show (∃ src,(items (.loc l)>>=fun ds=>pure (⟨ds,some l,ds⟩:Src)) S=.ok src S)\/(items (.loc l)>>=fun ds=>pure (⟨ds,some l,ds⟩:Src)) S=.bad
  rcases iC (.loc l) S with ⟨ds,e⟩|e
  ·rw [aj e]; exact .inl ⟨_,rfl⟩
  ·rw [aT e]; exact .inr rfl
 | _=>exact .inr rfl
theorem DO (hK:Γ.K=X.K) (ha:PE X a (tM Γ xw ma)):PI X tg a (tMI Γ xw fun σ=>ma σ>>=srcOf) :=
 PI.imp (A4 ha) fun σ H R h=>by
  obtain ⟨σd,ι,S,he,hs,ho⟩:=h
  refine ⟨σd,ι,S,he,hs,ho.bind.mono fun d S' ι' H' _ _ ⟨s',e',o'⟩ v r=>?_⟩
  rcases uu d S' with ⟨src,q⟩|q
  ·rw [q] at o'
   obtain ⟨_,e1,st,a,tup,rfl,⟨xs,sq⟩,hall⟩:=oN s' r q
   refine ⟨a,rfl,?_⟩
   have fin:=o'.here s'
   cases tup with
   | true =>
    refine .inr ⟨⟨xs,by rw [<- hK]; exact sq⟩,fin _ fun ι1 H1 S1 e2 s1 st1=>?_⟩
    obtain ⟨ys,sq1,p1⟩:=hall ι1 H1 S1 e2 s1 st1
    have sq1:SqT X.K H1 a ys:=by rw [<- hK]; exact sq1
    rw [e1]
    refine ⟨fun i d hd=>?_,ys,sq1,by rw [p1.length]; exact Zk _⟩
    obtain ⟨y,hy,r1⟩:=Paired.get p1 hd
    exact ⟨⟨ys,y,sq1,hy⟩,fun x H' ⟨e3,hx⟩=>by
     subst e3
     have:=hx ys sq1
     rw [hy] at this; cases this
     exact ⟨.refl,s1,r1⟩⟩
   | false =>
    refine .inl ⟨⟨xs,by rw [<- hK]; exact sq⟩,fin _ fun ι1 H1 S1 e2 s1 st1=>?_⟩
    obtain ⟨ys,sq1,p1⟩:=hall ι1 H1 S1 e2 s1 st1
    have sq1:SqL X.K H1 a ys:=by rw [<- hK]; exact sq1
    rw [e1]
    refine ⟨fun i d hd=>?_,ys,sq1,by rw [p1.length]; exact Zk _⟩
    obtain ⟨y,hy,r1⟩:=Paired.get p1 hd
    exact ⟨⟨ys,y,sq1,hy⟩,fun x H' ⟨e3,hx⟩=>by
     subst e3
     have:=hx ys sq1
     rw [hy] at this; cases this
     exact ⟨.refl,s1,r1⟩⟩
  ·rw [q] at o'; exact o'.elim
theorem tD:∀ {ds:List D} {k i:Nat} {d:D},(num k ds)[i]?=some d->∃ e,ds[i]?=some e/\d=.tup [.int ((k+i:Nat):Int),e]
 | [],k,i,d,h=>by simp [num] at h
 | x::r,k,0,d,h=>by simp [num] at h; exact ⟨x,rfl,by rw [<- h]; simp⟩
 | x::r,k,i+1,d,h=>by
  have h:(num (k+1) r)[i]?=some d:=by simpa [num] using h
  obtain ⟨e,h1,h2⟩:=tD h
  exact ⟨e,by simpa using h1,by rw [h2]; congr 3; omega⟩
theorem sZ:∀ (ds:List D) (k:Nat),(num k ds).length=ds.length
 | [],_=>rfl
 | _::r,k=>by simp [num,sZ r]
theorem D9 {p:Pos} {elts:List Expr} {k1:Nat} {tp:Pos} (hK:Γ.K=X.K) (hg:Gl X "enumerate") (hm:X.mg "enumerate" = none) (hv:bootBuiltins "enumerate" = some (.type "enumerate")) (ha:PE X a (tM Γ xw ma)) (hs:starEach [a] X.env=[(false,eval a X.env)]) :
  PI X (.Tuple elts k1 tp) (.Call (.Name "enumerate" p) [a] [] pos) (tMI Γ xw fun σ=>ma σ>>=fun d=>srcOf d>>=fun s=>pure { s with its:=num 0 s.its }) :=
 PI.imp (zG hg hm hv (gD ha jJ (by rw [hs]; rfl)) hs) fun σ H R h=>by
  obtain ⟨σd,ι,S,he,hs,ho⟩:=h
  refine ⟨σd,ι,S,he,hs,ho.bind.mono fun d S' ι' H' _ _ ⟨s',e',o'⟩ v r=>?_⟩
  rcases uu d S' with ⟨src,q⟩|q
  ·rw [aj q] at o'
   obtain ⟨_,e1,st,a,tup,rfl,⟨xs,sq⟩,hall⟩:=oN s' r q
   have fin:=o'.here s'
   refine ⟨tup,a,rfl,⟨xs,by rw [<- hK]; exact sq⟩,fin _ fun ι1 H1 S1 e2 s1 st1=>?_⟩
   obtain ⟨ys,sq1,p1⟩:=hall ι1 H1 S1 e2 s1 st1
   have sq1:SqB X.K H1 tup a ys:=by rw [<- hK]; exact sq1
   refine ⟨fun i d hd=>?_,ys,sq1,by show ys.length<=(num 0 src.its).length; rw [sZ,e1,p1.length]; exact Zk _⟩
   obtain ⟨e,he',rfl⟩:=tD hd
   rw [e1] at he'
   obtain ⟨y,hy,r1⟩:=Paired.get p1 he'
   refine ⟨⟨ys,y,sq1,hy⟩,?_⟩
   rintro x H' ⟨z,p,hz,hp,rfl,rfl⟩
   have hz:=hz ys sq1
   rw [hy] at hz; cases hz
   refine ⟨Ext.laid hp,s1.laid hp _,.i9 cg (.cons ?_ (.cons (r1.ext (Ext.laid hp)) .nil))⟩
   rw [Xq]; exact .int _
  ·rw [aT q] at o'; exact o'.elim
theorem DQ (lo hi:Int):rng lo hi 1=(List.range (hi - lo).toNat).map fun (k:Nat)=>lo+k:=by
 unfold rng
 rw [Ze (by decide)]
 have:(hi - lo+1 - 1) / 1=hi - lo:=by rw [Qy]; omega
 rw [this]
 simp
theorem BE (lo hi:Int):rng lo hi (-1)=(List.range (lo - hi).toNat).map fun (k:Nat)=>lo - k:=by
 unfold rng
 rw [Zf (by decide),Ze (by decide)]
 have:(lo - hi - -1 - 1) / -(-1)=lo - hi:=by rw [show (-(-1):Int)=1 from rfl,Qy]; omega
 rw [this]
 refine Wh fun k _=>?_
 omega
theorem nT {n i k:Nat} (h:(List.range n)[i]?=some k):k=i/\i < n:=by
 obtain ⟨h1,h2⟩:=Zh.mp h
 rw [List.getElem_range] at h2
 rw [ZO] at h1
 exact ⟨h2.symm,h1⟩
theorem qT {ι:List Addr} {H:Hp} (lo hi:Int):jf Γ ⟨(rng lo hi 1).map .int,none,[]⟩ (Itr lo (hi - lo).toNat) ι H:=fun ι1 H1 S1 e s1 st=>by
 rw [DQ,Z2]
 refine ⟨fun i d hd=>?_,by show (hi - lo).toNat<=_; simp⟩
 have hd:((List.range (hi - lo).toNat).map (D.int ∘ fun (k:Nat)=>lo+k))[i]?=some d:=hd
 rw [ZM,ZC] at hd
 obtain ⟨k,hk,rfl⟩:=hd
 obtain ⟨rfl,hlt⟩:=nT hk
 exact ⟨hlt,fun x H' ⟨e1,e2⟩=>by subst e1; subst e2; exact ⟨.refl,s1,.int _⟩⟩
theorem HM {ι:List Addr} {H:Hp} (lo hi:Int):jf Γ ⟨(rng lo hi (-1)).map .int,none,[]⟩ (kP lo (lo - hi).toNat) ι H:=fun ι1 H1 S1 e s1 st=>by
 rw [BE,Z2]
 refine ⟨fun i d hd=>?_,by show (lo - hi).toNat<=_; simp⟩
 have hd:((List.range (lo - hi).toNat).map (D.int ∘ fun (k:Nat)=>lo - k))[i]?=some d:=hd
 rw [ZM,ZC] at hd
 obtain ⟨k,hk,rfl⟩:=hd
 obtain ⟨rfl,hlt⟩:=nT hk
 exact ⟨hlt,fun x H' ⟨e1,e2⟩=>by subst e1; subst e2; exact ⟨.refl,s1,.int _⟩⟩
theorem gE {i:Int} (h:near i=true):-(2 ^ 62)<=i/\i < 2 ^ 62:=Zo h
variable {b c:Expr} {m:Sg->M (List D)} {p:Pos}
theorem Out.monoE {α:Type} {r:Res α} {ι:List Addr} {H:Hp} {k k':α->af->List Addr->Hp->Prop} (h:Out Γ xw ι H r k) (f:∀ a S' ι' H',r=.ok a S'->Ext ι ι' H H'->ao Γ ι' H' S'->k a S' ι' H'->k' a S' ι' H'):Out Γ xw ι H r k':=by
 cases r with
 | ok a S'=>exact fun ι' H' e' s'=>f _ _ _ _ rfl e' s' (h ι' H' e' s')
 | exc c S'=>exact h
 | bad=>exact h
theorem AI (hg:Gl X "range") (hm:X.mg "range" = none) (ha:PA X [a] (tMA Γ xw m)) (hs:starEach [a] X.env=[(false,eval a X.env)]) (hlen:∀ σ S ds S',m σ S=.ok ds S'->ds.length=1) :
  PI X tg (.Call (.Name "range" p) [a] [] pos) (tMI Γ xw fun σ=>m σ>>=fun ds=>opt (b_ ds)>>=fun is=>pure ⟨is.map .int,none,[]⟩) :=
 PI.imp (G5 hg hm ha hs) fun σ H R h=>by
  obtain ⟨σd,ι,S,he,hs,ho⟩:=h
  refine ⟨σd,ι,S,he,hs,Out.monoE ho.bind fun ds S' ι' H' eq _ _ ⟨s',e',o'⟩ vs rs=>?_⟩
  have hl:=hlen _ _ _ _ eq
  obtain ⟨is,q,o'⟩:=Out.opt o'
  have fin:=o'.here s'
  obtain ⟨d,_,_,_,rfl,rfl,r,rs,hl⟩:=Paired.step rs hl
  obtain ⟨rfl,rfl⟩:=Paired.last rs hl
  (
   cases r with
   | int j =>
    simp only [b_] at q
    split at q
    ·rename_i hn
     cases q
     have hn:=gE hn
     refine ⟨j,rfl,hn.1,hn.2,fin _ ?_⟩
     have:=qT (Γ:=Γ) (ι:=ι') (H:=H') 0 j
     rw [Int.sub_zero] at this
     exact this
    ·cases q
   | _=>cases q)
theorem wu (hg:Gl X "range") (hm:X.mg "range" = none) (ha:PA X [a,b] (tMA Γ xw m)) (hs:starEach [a,b] X.env=[(false,eval a X.env),(false,eval b X.env)]) (hs2:starEach [b] X.env=[(false,eval b X.env)]) (hlen:∀ σ S ds S',m σ S=.ok ds S'->ds.length=2) :
  PI X tg (.Call (.Name "range" p) [a,b] [] pos) (tMI Γ xw fun σ=>m σ>>=fun ds=>opt (b_ ds)>>=fun is=>pure ⟨is.map .int,none,[]⟩) :=
 PI.imp (DU hg hm ha hs hs2) fun σ H R h=>by
  obtain ⟨σd,ι,S,he,hs,ho⟩:=h
  refine ⟨σd,ι,S,he,hs,Out.monoE ho.bind fun ds S' ι' H' eq _ _ ⟨s',e',o'⟩ vs rs=>?_⟩
  have hl:=hlen _ _ _ _ eq
  obtain ⟨is,q,o'⟩:=Out.opt o'
  have fin:=o'.here s'
  obtain ⟨d,_,_,_,rfl,rfl,r,rs,hl⟩:=Paired.step rs hl
  obtain ⟨e,_,_,_,rfl,rfl,r2,rs,hl⟩:=Paired.step rs hl
  obtain ⟨rfl,rfl⟩:=Paired.last rs hl
  (
   cases r with
   | int i =>
    cases r2 with
    | int j =>
     simp only [b_] at q
     split at q
     ·rename_i hn
      cases q
      rw [Zq] at hn
      have h1:=gE hn.1
      have h2:=gE hn.2
      exact ⟨i,j,rfl,⟨h1.1,h1.2,h2.1,h2.2⟩,fin _ (qT i j)⟩
     ·cases q
    | _=>cases q
   | _=>cases q)
theorem wo (hg:Gl X "range") (hm:X.mg "range" = none) (ha:PA X [a,b,c] (tMA Γ xw m)) (hs:starEach [a,b,c] X.env=[(false,eval a X.env),(false,eval b X.env),(false,eval c X.env)]) (hs2:starEach [b,c] X.env=[(false,eval b X.env),(false,eval c X.env)]) (hlen:∀ σ S ds S',m σ S=.ok ds S'->ds.length=3) :
  PI X tg (.Call (.Name "range" p) [a,b,c] [] pos) (tMI Γ xw fun σ=>m σ>>=fun ds=>opt (b_ ds)>>=fun is=>pure ⟨is.map .int,none,[]⟩) :=
 PI.imp (yw hg hm ha hs hs2) fun σ H R h=>by
  obtain ⟨σd,ι,S,he,hs,ho⟩:=h
  refine ⟨σd,ι,S,he,hs,Out.monoE ho.bind fun ds S' ι' H' eq _ _ ⟨s',e',o'⟩ vs rs=>?_⟩
  have hl:=hlen _ _ _ _ eq
  obtain ⟨is,q,o'⟩:=Out.opt o'
  have fin:=o'.here s'
  obtain ⟨d,_,_,_,rfl,rfl,r,rs,hl⟩:=Paired.step rs hl
  obtain ⟨e,_,_,_,rfl,rfl,r2,rs,hl⟩:=Paired.step rs hl
  obtain ⟨f,_,_,_,rfl,rfl,r3,rs,hl⟩:=Paired.step rs hl
  obtain ⟨rfl,rfl⟩:=Paired.last rs hl
  (
   cases r with
   | int i =>
    cases r2 with
    | int j =>
     cases r3 with
     | int k =>
      simp only [b_] at q
      split at q
      ·rename_i hn
       cases q
       rw [Zq,Zq] at hn
       have h1:=gE hn.1.1
       have h2:=gE hn.1.2
       have h3:k=-1:=Zo hn.2
       subst h3
       exact ⟨i,j,rfl,⟨h1.1,h1.2,h2.1,h2.2⟩,fin _ (HM i j)⟩
      ·cases q
     | _=>cases q
    | _=>cases q
   | _=>cases q)
noncomputable def tMG (Γ:Gx) (t:Tg):TG:=fun v σ H Q=>∃ σd ι S d σd',aQ Γ ι H σ σd/\ao Γ ι H S/\Rep Γ ι H d v/\aO t d σd S=.ok σd' S/\∀ σ',aQ Γ ι H σ' σd'->(∀ j,t.has j=false->σ'[j]?=σ[j]?)->Q σ' H
theorem PG.imp {target:Expr} {t t':TG} (h:PG X target t) (f:∀ v σ H Q,t' v σ H Q->t v σ H Q):PG X target t':=fun pins s σ H v u Q I r q=>h pins s σ H v u Q I r (f v σ H Q q)
theorem CP {i:Nat} {x:Str} (hN:X.N.Nodup) (hi:X.N[i]?=some x) (hx:Loc X.env.scope x) (hf:X.fn x=true\/X.env.scope.names.lookup x=some .local):PG X (.Name x pos) (tMG Γ (.one i)) :=
 PG.imp (ug hN hi hx hf) fun v σ H Q h=>by
  obtain ⟨σd,ι,S,d,σd',he,hs,r,hb,q⟩:=h
  cases hb
  exact q _ (he.set i r) fun j hj=>by rw [Z0 (by intro z; subst z; simp [Tg.has] at hj)]
noncomputable def l0:List Nat->TGs
 | []=>ud
 | i::r=>ue (iH i) (l0 r)
noncomputable def jB (X:Cx):List Expr->List Nat->Prop:=Paired fun e i=>∃ x p,e=.Name x p/\X.N[i]?=some x/\Loc X.env.scope x/\(X.fn x=true\/X.env.scope.names.lookup x=some .local)
theorem oF (hN:X.N.Nodup):∀ {es:List Expr} {is:List Nat},jB X es is->PGs X es (l0 is)
 | _,_,.nil=>AL
 | _,_,.cons ⟨x,p,e,h1,h2,h3⟩ r=>by
  subst e
  exact DF (ug hN h1 h2 h3) (oF hN r) rfl
theorem nK:∀ {es:List Expr} {is:List Nat},jB X es is->(assignEach es X.env).length=is.length/\(assignEach es X.env).findIdx? (·.1)=none
 | _,_,.nil=>⟨rfl,rfl⟩
 | _,_,.cons ⟨x,p,e,h1,h2,h3⟩ r=>by
  subst e
  obtain ⟨a,b⟩:=nK r
  refine ⟨Xm (· + 1) a,?_⟩
  show List.findIdx? (·.1) ((false,_)::assignEach _ X.env)=none
  rw [List.findIdx?_cons]
  simp only [Zu,ZK]
  rw [b]; rfl
theorem qM {ι:List Addr} {H:Hp} {Q:L2.St->Hp->Prop}:∀ {is:List Nat} {ds:List D} {xs:List V} {σ:L2.St} {σd:Sg},ds.length=is.length->av Γ ι H ds xs->aQ Γ ι H σ σd->(∀ σ',aQ Γ ι H σ' (bY is ds σd)->(∀ j,is.contains j=false->σ'[j]?=σ[j]?)->Q σ' H)->l0 is xs σ H Q
 | [],[],_,σ,σd,_,.nil,he,q=>⟨rfl,q _ he fun _ _=>rfl⟩
 | i::is,d::ds,_,σ,σd,hl,.cons (b:=v) r rr,he,q=>⟨v,_,rfl,qM (by simpa using hl) rr (he.set i r) fun σ' h' hl'=>q σ' h' fun j hj=>by
   rw [List.contains_cons,Bool.or_eq_false_iff] at hj
   rw [hl' j hj.2,Z0 (by intro z; subst z; simp at hj)]⟩
 | [],_::_,_,_,_,hl,_,_,_=>by simp at hl
 | _::_,[],_,_,_,hl,_,_,_=>by simp at hl
theorem v7 {es:List Expr} {is:List Nat} {k:Nat} (hK:Γ.K=X.K) (hc:X.calm=true) (hN:X.N.Nodup) (hn:jB X es is):PG X (.Tuple es k pos) (tMG Γ (.many is)) :=
 PG.imp (xQ hc (oF hN hn) (nK hn).1 (nK hn).2) fun v σ H Q h=>by
  obtain ⟨σd,ι,S,d,σd',he,hs,r,hb,q⟩:=h
  cases d with
  | tup ds =>
   obtain ⟨a,xs,rfl,t,p⟩:=r.bR
   have hb:guard (decide (ds.length=is.length)) (pure (bY is ds σd):M Sg) S=.ok σd' S:=hb
   by_cases hl:ds.length=is.length
   ·rw [show decide (ds.length=is.length)=true from Zj hl] at hb
    cases hb
    exact ⟨a,xs,rfl,by rw [<- hK]; exact t,by rw [<- p.length]; exact hl,qM hl p he q⟩
   ·rw [show decide (ds.length=is.length)=false from Zz hl] at hb
    cases hb
  | _=>cases hb
theorem lZ (t:Tg) (d:D) (σ:Sg) (S:af):(∃ σ',aO t d σ S=.ok σ' S/\σ'.length=σ.length)\/aO t d σ S=.bad:=by
 have hlen:∀ (is:List Nat) (ds:List D) (σ:Sg),(bY is ds σ).length=σ.length:=by
  intro is
  induction is with
  | nil=>intro ds σ; cases ds <;> rfl
  | cons i r ih=>intro ds σ; cases ds with
   | nil=>rfl
   | cons d ds=>show (bY r ds (σ.set i (some d))).length=_; rw [ih,XN]
 cases t with
 | one i=>exact .inl ⟨_,rfl,by rw [XN]⟩
 | many is =>
  cases d with
  | tup ds =>
   show (∃ σ',guard (decide (ds.length=is.length)) (pure (bY is ds σ):M Sg) S=.ok σ' S/\_)\/guard (decide (ds.length=is.length)) (pure (bY is ds σ):M Sg) S=.bad
   by_cases hl:ds.length=is.length
   ·rw [show decide (ds.length=is.length)=true from Zj hl]
    exact .inl ⟨_,rfl,hlen _ _ _⟩
   ·rw [show decide (ds.length=is.length)=false from Zz hl]
    exact .inr rfl
  | _=>exact .inr rfl
theorem Out.aO {α:Type} {t:Tg} {d:D} {σd:Sg} {ι:List Addr} {H:Hp} {S:af} {f:Sg->M α} {k:α->af->List Addr->Hp->Prop} (ho:Out Γ xw ι H ((EV.aO t d σd>>=f) S) k):∃ σd',EV.aO t d σd S=.ok σd' S/\σd'.length=σd.length/\Out Γ xw ι H (f σd' S) k:=by
 rcases lZ t d σd S with ⟨σ',e,l⟩|e
 ·rw [aj e] at ho; exact ⟨σ',e,l,ho⟩
 ·rw [aT e] at ho; exact ho.elim
end
end EV

namespace EV
open PySem PySem.Spec PyProof.Rows L2
section
variable {X:Cx} {Γ:Gx} {xw:XW} {a b:Expr} {m:Sg->M (List D)} {pos:Pos}
end
end EV

namespace EV
open PySem PySem.Spec PyProof.Rows L2
noncomputable def XF:XW:=fun _ _ _ _=>False
section
variable {Γ:Gx} {xw:XW} {ι ι':List Addr} {H H':Hp} {S:af} {σ:L2.St}
theorem ao.take (hS:ao Γ ι H S) {l:Addr} {xs:List V} {ds:List D} (hn:l ∉ ι) (h:H l=some (.lst xs)) (r:av Γ ι H ds xs):ao Γ (ι++[l]) H (S++[.lst ds]):=by
 have mv:∀ {d:D} {v:V},Rep Γ ι H d v->Rep Γ (ι++[l]) H d v:=fun r=>r.move (Zl _ _) (fun _ _ e=>e) fun _ _ _ e=>e
 refine ⟨by simp [hS.len],Qw.mpr ⟨hS.nd,by simp,?_⟩,fun m c hm=>?_⟩
 ·intro a ha b hb
  have:b=l:=by simpa using hb
  subst this
  exact fun z=>hn (z ▸ ha)
 ·by_cases hl:m < S.length
  ·rw [ZE hl] at hm
   obtain ⟨a,ha,c1⟩:=hS.cell m c hm
   refine ⟨a,eZ (Zl _ _) ha,?_⟩
   cases c with
   | lst zs=>obtain ⟨ws,hw,rw'⟩:=c1; exact ⟨ws,hw,Paired.imp (fun _ _ r=>mv r) rw'⟩
   | dct kvs=>obtain ⟨ws,hw,rw'⟩:=c1; exact ⟨ws,hw,Paired.imp (fun _ _ q=>⟨q.1,mv q.2⟩) rw'⟩
   | fdc kvs=>obtain ⟨ws,hw,rw'⟩:=c1; exact ⟨ws,hw,Paired.imp (fun _ _ q=>⟨q.1,mv q.2⟩) rw'⟩
  ·rw [ZJ (by omega)] at hm
   have hl2:m - S.length=0:=by
    have:=(Zh.mp hm).1
    simp at this; omega
   rw [hl2] at hm
   have h':(Cell.lst ds)=c:=by simpa using hm
   subst h'
   have e1:m=ι.length:=by rw [hS.len]; omega
   subst e1
   exact ⟨l,by simp,xs,h,Paired.imp (fun _ _ r=>mv r) r⟩
theorem Ext.past (e:Ext ι ι' H H') {l:Addr} {ys:List V} (hl:H l=none):Ext ι ι' H (upd H' l (.lst ys)) :=
 ⟨e.pre,fun a xs h=>by rw [aA (bu h hl)]; exact e.tup a xs h,fun a o u h=>by rw [aA (bu h hl)]; exact e.frz a o u h,fun a o h n=>by rw [aA (bu h hl)]; exact e.oth a o h n,e.fresh⟩
theorem Ext.dP (e:Ext ι ι' H H') {l:Addr} {o:HO} (h:H l=some o) (hn:l ∉ ι):H' l=some o/\l ∉ ι':=⟨e.oth l o h hn,fun m=>by have:=e.fresh l m hn; rw [h] at this; cases this⟩
theorem yS {src:Src} {f:D->M (Option D)} {post:List D} {S2:af} (h:br src f [] S=.ok post S2):aD src S=.ok () S/\post=[]/\S2=S:=by
 have h:(aD src>>=fun _=>pure []) S=.ok post S2:=h
 rcases j8 src S with e|e
 ·rw [aj e] at h; cases h; exact ⟨e,rfl,rfl⟩
 ·rw [aT e] at h; cases h
theorem Co {src:Src} {f:D->M (Option D)} {d:D} {rest post:List D} {S2:af} (h:br src f (d::rest) S=.ok post S2) :
  aD src S=.ok () S/\∃ y S3 post',f d S=.ok y S3/\br src f rest S3=.ok post' S2/\post=(match y with|some y=>y::post'|none=>post'):=by
 have h:(aD src>>=fun _=>f d>>=fun y=>br src f rest>>=fun ys=>pure (match y with|some y=>y::ys|none=>ys)) S=.ok post S2:=h
 rcases j8 src S with e|e
 ·rw [aj e] at h
  cases q:f d S with
  | bad=>rw [aT q] at h; cases h
  | exc c S3=>rw [cB q] at h; cases h
  | ok y S3 =>
   rw [aj q] at h
   cases q2:br src f rest S3 with
   | bad=>rw [aT q2] at h; cases h
   | exc c S4=>rw [cB q2] at h; cases h
   | ok ys S4=>rw [aj q2] at h; cases h; exact ⟨e,y,S3,ys,rfl,q2,rfl⟩
 ·rw [aT e] at h; cases h
end
section
variable {X:Cx} {Γ:Gx} {xw:XW} {scope:Scope} {N':List Str} {k:Nat} {elt iter tg:Expr} {ifs:List Expr} {pos:Pos} {mi:Sg->M Src} {t:Tg} {nt:Sg->M Bool} {me:Sg->M D}
noncomputable def jC (k:Nat) (mi:Sg->M Src) (t:Tg) (nt:Sg->M Bool) (me:Sg->M D):Sg->M D:=fun σ=>mi σ>>=fun s =>
 quiet (br s (fun d=>aO t d (σ++List.replicate k none)>>=fun σ'=>nt σ'>>=fun b=>if b=true then me σ'>>=fun y=>pure (some y) else pure none) s.its)>>=fun ys=>guard (fits ys.length) (alloc (.lst ys))
theorem oH (hslot:∀ j,j < X.N.length->t.has j=false) {σ:L2.St} (hσ:σ.length=X.N.length) {H:Hp} {Q:VK} (h:tM Γ xw (jC k mi t nt me) σ H Q):l7 k (tMI Γ xw mi) (tMG Γ t) (tMT Γ XF nt) (tM Γ XF me) σ H Q:=by
 obtain ⟨σd,ι,S,hE,hS,ho⟩:=h
 refine ⟨σd,ι,S,hE,hS,ho.bind.mono fun src S1 ι1 H1 _ _ ⟨s1,e1,o1⟩ J hJ l hl=>?_⟩
 generalize hf:(fun d=>aO t d (σd++List.replicate k none)>>=fun σ'=>nt σ'>>=fun b=>if b=true then me σ'>>=fun y=>pure (some y) else pure none)=f at o1
 cases q:br src f src.its S1 with
 | bad=>rw [aT (show quiet (br src f src.its) S1=.bad by unfold quiet; rw [q])] at o1; exact o1.elim
 | exc c S2=>rw [aT (show quiet (br src f src.its) S1=.bad by unfold quiet; rw [q])] at o1; exact o1.elim
 | ok ys S2 =>
  rw [aj (show quiet (br src f src.its) S1=.ok ys S2 by unfold quiet; rw [q])] at o1
  obtain ⟨hz,o1⟩:=Out.guard o1
  have hz:=fF hz
  refine ⟨fun i m H=>∃ ι' S' pre post xs,i<=src.its.length/\m=src.its.length - i/\Ext ι1 ι' H1 H/\ao Γ ι' H S'/\l ∉ ι'/\H l=some (.lst xs)/\av Γ ι' H pre xs/\br src f (src.its.drop i) S'=.ok post S2/\ys=pre++post/\aQ Γ ι' H σ σd,
   ⟨src.its.length,ι1,S1,[],ys,[],Xs _,rfl,Ext.laid hl,s1.laid hl _,s1.new hl,cg,.nil,q,rfl,(hE.ext e1).ext (Ext.laid hl)⟩,?_⟩
  rintro i m H ⟨ι',S',pre,post,xs,hi,rfl,eH,sH,ln,hH,rp,hc,hys,eE⟩
  by_cases hlt:i < src.its.length
  ·rw [Xi hlt] at hc
   obtain ⟨st,y,S3,post',hfd,hc',hpost⟩:=Co hc
   obtain ⟨jgo,jyld⟩:=(hJ ι' H S' eH sH st).1 i src.its[i] (Zb hlt)
   refine .inr ⟨jgo,fun x H' yl=>?_⟩
   obtain ⟨eX,sX,rX⟩:=jyld x H' yl
   obtain ⟨hH',_⟩:=eX.dP hH ln
   rw [<- hf] at hfd
   have hfd:(aO t src.its[i] (σd++List.replicate k none)>>=fun σ'=>nt σ'>>=fun b=>if b=true then me σ'>>=fun y=>pure (some y) else pure none) S'=.ok y S3:=hfd
   obtain ⟨σd',hb⟩:∃ σd',aO t src.its[i] (σd++List.replicate k none) S'=.ok σd' S':=by
    rcases lZ t src.its[i] (σd++List.replicate k none) S' with ⟨σd',hb,_⟩|hb
    ·exact ⟨σd',hb⟩
    ·rw [aT hb] at hfd; cases hfd
   rw [aj hb] at hfd
   refine ⟨σd++List.replicate k none,ι',S',src.its[i],σd',(eE.ext eX).more k,sX,rX,hb,fun σ' hE' hK=>⟨fun j v hj=>?_,?_⟩⟩
   ·rw [hK j (hslot j ?_)]; exact hj
    by_cases hjl:j < σ.length
    ·omega
    ·rw [ZJ (by omega),XU] at hj
     split at hj <;> cases hj
   ·cases qn:nt σd' S' with
    | bad=>rw [aT qn] at hfd; cases hfd
    | exc c S4=>rw [cB qn] at hfd; cases hfd
    | ok b S4 =>
     rw [aj qn] at hfd
     refine ⟨σd',ι',S',hE',sX,?_⟩
     rw [qn]
     intro ι3 H3 e3 s3
     obtain ⟨hH3,ln3⟩:=e3.dP hH' ln
     have eA:Ext ι1 ι3 H1 H3:=(eH.trans eX).trans e3
     cases b with
     | false =>
      rw [Zf Zx] at hfd ⊢
      cases hfd
      exact ⟨src.its.length - (i+1),by omega,ι3,_,pre,post',xs,hlt,rfl,eA,s3,ln3,hH3,av.ext e3 (av.ext eX rp),hc',by rw [hys,hpost],(eE.ext eX).ext e3⟩
     | true =>
      rw [Ze rfl] at hfd ⊢
      refine ⟨σd',ι3,S4,hE'.ext e3,s3,?_⟩
      cases qe:me σd' S4 with
      | bad=>rw [aT qe] at hfd; cases hfd
      | exc c S5=>rw [cB qe] at hfd; cases hfd
      | ok yd S5 =>
       rw [aj qe] at hfd
       cases hfd
       intro ι4 H4 e4 s4 v rv
       obtain ⟨hH4,ln4⟩:=e4.dP hH3 ln3
       have rp4:av Γ ι4 H4 pre xs:=av.ext e4 (av.ext e3 (av.ext eX rp))
       refine ⟨xs,hH4,?_,src.its.length - (i+1),by omega,ι4,_,pre++[yd],post',xs++[v],hlt,rfl,(eA.trans e4).past hl,s4.other hH4 ln4,ln4,cg,av.write hH4 (Paired.app rp4 (.cons rv .nil)),hc',by rw [hys,hpost]; simp,(((eE.ext eX).ext e3).ext e4).write hH4⟩
       have:=rp4.length
       rw [hys,hpost,Zv,ZB] at hz
       omega
  ·have ei:i=src.its.length:=by omega
   subst ei
   rw [List.drop_length] at hc
   obtain ⟨st,rfl,rfl⟩:=yS hc
   refine .inl ⟨(hJ ι' H S2 eH sH st).2,?_⟩
   rw [Xz] at hys
   subst hys
   refine o1 (ι'++[l]) H ⟨eH.pre.trans (Zl _ _),eH.tup,eH.frz,eH.oth,fun a ha hn=>?_⟩ (sH.take ln hH rp) _ (.loc (by rw [<- sH.len]; simp))
   rcases ZR.mp ha with z|z
   ·exact eH.fresh a z hn
   ·have:a=l:=by simpa using z
    rw [this]; exact hl
theorem CG (C:eO X scope N' k) (hc:X.calm=true) (hslot:∀ j,j < X.N.length->t.has j=false) (hi:PI X tg iter (tMI Γ xw mi)) (hg:∀ cl fp s3 H3,PG (aM X scope cl N' fp s3 H3) tg (tMG Γ t)) (htt:∀ cl fp s3 H3,PF (aM X scope cl N' fp s3 H3) ifs (tMT Γ XF nt)) (hte:∀ cl fp s3 H3,PE (aM X scope cl N' fp s3 H3) elt (tM Γ XF me))
  (hs:∀ x,foldedSetIterable iter X.env x=pure x):PE X (.ListComp elt [⟨tg,iter,ifs,0⟩] scope pos) (tM Γ xw (jC k mi t nt me)):=by
 intro pins s σ H Q I h
 exact zI C hc hi hg htt hte hs pins s σ H Q I (oH hslot I.len h)
noncomputable def FlK (Γ:Gx) (D:Ends):Fl->af->List Addr->Hp->Prop
 | .nx σ',_,ι',H'=>∀ σv,aQ Γ ι' H' σv σ'->D.nx σv H'
 | .rt d,_,ι',H'=>∀ v,Rep Γ ι' H' d v->D.rt v H'
 | .bk σ',_,ι',H'=>∀ σv,aQ Γ ι' H' σv σ'->D.bk σv H'
 | .ct σ',_,ι',H'=>∀ σv,aQ Γ ι' H' σv σ'->D.ct σv H'
noncomputable def tMS (Γ:Gx) (xw:XW) (m:Sg->M Fl):TS:=fun D σ H=>∃ σd ι S,aQ Γ ι H σ σd/\ao Γ ι H S/\Out Γ xw ι H (m σd S) (FlK Γ D)
variable {e:Expr} {ma:Sg->M D} {na:Sg->M Bool} {ms ms2:Sg->M Fl} {st:Stmt} {sts sts2:List Stmt}
theorem AE (he:PE X e (tM Γ xw ma)):PS X (.Return (some e) pos) (tMS Γ xw fun σ=>ma σ>>=fun d=>pure (.rt d)) :=
 PS.imp (Hz he) fun D σ H h=>by
  obtain ⟨σd,ι,S,hE,hs,ho⟩:=h
  exact ⟨σd,ι,S,hE,hs,ho.bind.mono fun d S' ι' H' _ _ ⟨s',e',o'⟩ v r=>o'.here s' v r⟩
theorem F7:PS X (.Return none pos) (tMS Γ xw fun _=>pure (.rt .non)) :=
 PS.imp xP fun D σ H h=>by
  obtain ⟨σd,ι,S,hE,hs,ho⟩:=h
  exact ho.here hs _ .non
theorem DY (he:PE X e (tM Γ xw ma)) (hs:swapsWith e none pos.line X.env=pure false):PS X (.Expr e pos) (tMS Γ xw fun σ=>ma σ>>=fun _=>pure (.nx σ)) :=
 PS.imp (Ec he hs) fun D σ H h=>by
  obtain ⟨σd,ι,S,hE,hs,ho⟩:=h
  exact ⟨σd,ι,S,hE,hs,ho.bind.mono fun d S' ι' H' _ _ ⟨s',e',o'⟩ v r=>o'.here s' _ (hE.ext e')⟩
theorem yh:PS X (.Pass pos) (tMS Γ xw fun σ=>pure (.nx σ)) :=
 PS.imp AV fun D σ H h=>by
  obtain ⟨σd,ι,S,hE,hs,ho⟩:=h
  exact ho.here hs _ hE
theorem DW {x j p2}:PS X (.Expr (.Constant (.str x) j p2) pos) (tMS Γ xw fun σ=>pure (.nx σ)) :=
 PS.imp Be fun D σ H h=>by
  obtain ⟨σd,ι,S,hE,hs,ho⟩:=h
  exact ho.here hs _ hE
theorem yQ {D:Ends} {σ:L2.St} {H:Hp} (h:tMS Γ xw (fun σ=>ma σ>>=fun d=>aO t d σ>>=fun σ'=>pure (.nx σ')) D σ H):mz (tM Γ xw ma) (tMG Γ t) D σ H:=by
 obtain ⟨σd,ι,S,hE,hs,ho⟩:=h
 refine ⟨σd,ι,S,hE,hs,ho.bind.mono fun d S' ι' H' _ _ ⟨s',e',o'⟩ v r=>?_⟩
 obtain ⟨σd',hb,_,o'⟩:=Out.aO o'
 exact ⟨σd,ι',S',d,σd',hE.ext e',s',r,hb,fun σ' hE' _=>o'.here s' _ hE'⟩
theorem k6 (he:PE X e (tM Γ xw ma)) (hg:PG X tg (tMG Γ t)) (hs:swapsWithSole [tg] e pos.line X.env=pure false) (hw:swappedStores [tg] e X.env=pure none) (h1:(assignEach [tg] X.env).map (·.2)=[assign tg X.env]) :
  PS X (.Assign [tg] e pos) (tMS Γ xw fun σ=>ma σ>>=fun d=>aO t d σ>>=fun σ'=>pure (.nx σ')):=PS.imp (FY he hg hs hw h1) fun D σ H h=>yQ h
theorem zJ {j:Nat} {y:Str} {py spos:Pos} (C:eO X scope N' k) (hc:X.calm=true) (hslot:∀ j,j < X.N.length->t.has j=false) (hi:PI X tg iter (tMI Γ xw mi)) (hg:∀ cl fp s3 H3,PG (aM X scope cl N' fp s3 H3) tg (tMG Γ t)) (htt:∀ cl fp s3 H3,PF (aM X scope cl N' fp s3 H3) ifs (tMT Γ XF nt)) (hte:∀ cl fp s3 H3,PE (aM X scope cl N' fp s3 H3) elt (tM Γ XF me))
  (hN:X.N.Nodup) (hj:X.N[j]?=some y) (hy:X.env.scope.names.lookup y=some .local) (hsw:swapsWith (.ListComp elt [⟨tg,iter,ifs,0⟩] scope pos) (some (.Name y py)) spos.line X.env=pure true) (hs:∀ x,foldedSetIterable iter X.env x=pure x) :
  PS X (.Assign [.Name y py] (.ListComp elt [⟨tg,iter,ifs,0⟩] scope pos) spos) (tMS Γ xw fun σ=>jC k mi t nt me σ>>=fun d=>aO (.one j) d σ>>=fun σ'=>pure (.nx σ')):=by
 intro pins s σ H D I h
 refine E3 C hc hi hg htt hte hN hj hy hsw hs pins s σ H D I ?_
 have h1:tM Γ xw (jC k mi t nt me) σ H (fun x H1=>iH j x σ H1 D.nx):=by
  obtain ⟨σd,ι,S,hE,hS,ho⟩:=h
  refine ⟨σd,ι,S,hE,hS,ho.bind.mono fun d S' ι' H' _ _ ⟨s',e',o'⟩ v r=>?_⟩
  exact o'.here s' _ ((hE.ext e').set j r)
 exact oH hslot I.len h1
theorem vX {c:Expr} (hc:PT X c (tMT Γ xw na)) (ha:PSs X sts (tMS Γ xw ms)) (hb:PSs X sts2 (tMS Γ xw ms2)):PS X (.If c sts sts2 pos) (tMS Γ xw fun σ=>na σ>>=fun k=>if k=true then ms σ else ms2 σ) :=
 PS.imp (DC hc ha hb) fun D σ H h=>by
  obtain ⟨σd,ι,S,hE,hs,ho⟩:=h
  refine ⟨σd,ι,S,hE,hs,ho.bind.mono fun k S' ι' H' _ _ ⟨s',e',o'⟩=>?_⟩
  cases k with
  | true=>rw [Ze rfl]; exact ⟨σd,ι',S',hE.ext e',s',o'⟩
  | false=>rw [Zf Zx]; exact ⟨σd,ι',S',hE.ext e',s',o'⟩
theorem FZ:PSs X [] (tMS Γ xw fun σ=>pure (.nx σ)) :=
 PSs.imp HJ fun D σ H h=>by
  obtain ⟨σd,ι,S,hE,hs,ho⟩:=h
  exact ho.here hs _ hE
theorem wN (h1:PS X st (tMS Γ xw ms)):PSs X [st] (tMS Γ xw ms):=Dl h1
theorem DK (h1:PS X st (tMS Γ xw ms)) (h2:PSs X sts (tMS Γ xw ms2)):PSs X (st::sts) (tMS Γ xw fun σ=>ms σ>>=fun f=>match f with|.nx σ'=>ms2 σ'|f=>pure f) :=
 PSs.imp (Gv h1 h2) fun D σ H h=>by
  obtain ⟨σd,ι,S,hE,hs,ho⟩:=h
  refine ⟨σd,ι,S,hE,hs,ho.bind.mono fun f S' ι' H' _ _ ⟨s',e',o'⟩=>?_⟩
  cases f with
  | nx σ'=>exact fun σv hv=>⟨σ',ι',S',hv,s',o'⟩
  | rt d=>exact fun v r=>o'.here s' v r
  | bk σ'=>exact fun σv hv=>o'.here s' σv hv
  | ct σ'=>exact fun σv hv=>o'.here s' σv hv
end
end EV

namespace EV
open PySem PySem.Spec PyProof.Rows L2
section
variable {X:Cx} {Γ:Gx} {xw:XW} {pins:List (Addr × Obj)} {σ:L2.St} {H:Hp} {s:Shared} {ι:List Addr} {S:af}
theorem qv (k:List Int):(k.map V.int)=(k.map (Sum.inl:Int->Key)).map kV:=by
 rw [Z2]; rfl
theorem l5:∀ {a b:List Int},a.map (Sum.inl:Int->Key)=b.map Sum.inl->a=b
 | [],[],_=>rfl
 | [],_::_,h=>by cases h
 | _::_,[],h=>by cases h
 | a::r,b::q,h=>by
  obtain ⟨h1,h2⟩:=Q6 h
  rw [Sum.inl.inj h1,l5 h2]
theorem kI (a b:List Int):decide (a.map (Sum.inl:Int->Key)=b.map Sum.inl)=decide (a=b):=by
 by_cases h:a=b
 ·rw [Zj h,Zj (by rw [h])]
 ·rw [Zz h,Zz fun e=>h (l5 e)]
theorem aC.get {k:List Int}:∀ {kvs:List (List Int × D)} {xs:List (List Key × V)} {d:D},aC Γ ι H kvs xs->bT kvs k=some d->∃ v,bV xs (k.map Sum.inl)=some v/\Rep Γ ι H d v
 | _,_,d,.nil,h=>by cases h
 | p::r,q::t,d,.cons e u,h=>by
  unfold bT at h
  unfold bV
  rw [ZN] at h ⊢
  rw [e.1,kI]
  cases c:decide (p.1=k) with
  | true =>
   rw [c] at h
   cases h
   exact ⟨q.2,rfl,e.2⟩
  | false =>
   rw [c] at h
   exact aC.get u h
theorem aC.any (k:List Int):∀ {kvs:List (List Int × D)} {xs:List (List Key × V)},aC Γ ι H kvs xs->(xs.any fun kv=>decide (kv.1=k.map Sum.inl))=kvs.any fun kv=>decide (kv.1=k)
 | _,_,.nil=>rfl
 | p::r,q::t,.cons e u=>by
  rw [XS,XS,aC.any k u,e.1,kI]
theorem aC.repl (k:List Int) {d:D} {v:V} (rv:Rep Γ ι H d v):∀ {kvs:List (List Int × D)} {xs:List (List Key × V)},aC Γ ι H kvs xs->aC Γ ι H (kvs.map fun kv=>if kv.1=k then (kv.1,d) else kv) (xs.map fun kv=>if kv.1=k.map Sum.inl then (kv.1,v) else kv)
 | _,_,.nil=>.nil
 | p::r,q::t,.cons e u=>by
  rw [ZF,ZF]
  refine .cons ?_ (aC.repl k rv u)
  by_cases h:p.1=k
  ·rw [Ze h,Ze (by rw [e.1,h])]
   exact ⟨e.1,rv⟩
  ·rw [Zf h,Zf fun z=>h (l5 (by rw [<- e.1,z]))]
   exact e
theorem aC.snoc {k:List Int} {d:D} {v:V} (rv:Rep Γ ι H d v):∀ {kvs:List (List Int × D)} {xs:List (List Key × V)},aC Γ ι H kvs xs->aC Γ ι H (kvs++[(k,d)]) (xs++[(k.map Sum.inl,v)])
 | _,_,.nil=>.cons ⟨rfl,rv⟩ .nil
 | _::_,_::_,.cons e u=>.cons e (aC.snoc rv u)
theorem aC.put {k:List Int} {d:D} {v:V} (rv:Rep Γ ι H d v) {kvs:List (List Int × D)} {xs:List (List Key × V)} (r:aC Γ ι H kvs xs):aC Γ ι H (iu kvs k d) (putK xs (k.map Sum.inl) v):=by
 unfold iu putK
 rw [aC.any k r]
 split
 ·exact aC.repl k rv r
 ·exact aC.snoc rv r
theorem rg {a:Addr} {xs ys:List (List Key × V)} (h:H a=some (.dT xs)):∀ b zs,H b=some (.tup zs)->upd H a (.dT ys) b=some (.tup zs):=fun b zs e=>by
 rw [aA]; exact e
 rintro rfl; rw [h] at e; cases e
theorem rA {a:Addr} {xs ys:List (List Key × V)} (h:H a=some (.dT xs)):∀ b o u,H b=some (.frz o u)->upd H a (.dT ys) b=some (.frz o u):=fun b o u e=>by
 rw [aA]; exact e
 rintro rfl; rw [h] at e; cases e
theorem Rep.ez {a:Addr} {xs ys:List (List Key × V)} (h:H a=some (.dT xs)) {d:D} {v:V} (r:Rep Γ ι H d v):Rep Γ ι (upd H a (.dT ys)) d v:=r.move (Xo _) (rg h) (rA h)
theorem ao.dct (hS:ao Γ ι H S) {l:Nat} {kvs:List (List Int × D)} (h:S[l]?=some (.dct kvs)):∃ a xs,ι[l]?=some a/\H a=some (.dT xs)/\aC Γ ι H kvs xs:=by
 obtain ⟨a,ha,xs,hx,r⟩:=hS.cell l _ h
 exact ⟨a,xs,ha,hx,r⟩
theorem ao.ez (hS:ao Γ ι H S) {l:Nat} {a:Addr} {xs ys:List (List Key × V)} {es kvs:List (List Int × D)} (hl:S[l]?=some (.dct es)) (ha:ι[l]?=some a) (h:H a=some (.dT xs)) (r:aC Γ ι H kvs ys):ao Γ ι (upd H a (.dT ys)) (S.set l (.dct kvs)):=by
 refine ⟨by rw [XN]; exact hS.len,hS.nd,fun m c hm=>?_⟩
 by_cases e:m=l
 ·subst e
  rw [Xh (Zh.mp hl).1] at hm
  cases hm
  exact ⟨a,ha,ys,cg,Paired.imp (fun _ _ q=>⟨q.1,Rep.ez h q.2⟩) r⟩
 ·rw [Z0 (Ne.symm e)] at hm
  obtain ⟨b,hb,c1⟩:=hS.cell m c hm
  have hne:b≠a:=fun z=>e (gy hS.nd hb (z ▸ ha))
  refine ⟨b,hb,?_⟩
  cases c with
  | lst zs=>obtain ⟨ws,hw,rw'⟩:=c1; exact ⟨ws,by rw [aA hne]; exact hw,Paired.imp (fun _ _ q=>Rep.ez h q) rw'⟩
  | dct kvs=>obtain ⟨ws,hw,rw'⟩:=c1; exact ⟨ws,by rw [aA hne]; exact hw,Paired.imp (fun _ _ q=>⟨q.1,Rep.ez h q.2⟩) rw'⟩
  | fdc kvs=>obtain ⟨ws,⟨o,hw⟩,rw'⟩:=c1; exact ⟨ws,⟨o,by rw [aA hne]; exact hw⟩,Paired.imp (fun _ _ q=>⟨q.1,Rep.ez h q.2⟩) rw'⟩
theorem Ext.ez {a:Addr} {xs ys:List (List Key × V)} (h:H a=some (.dT xs)) (hm:a∈ι):Ext ι ι H (upd H a (.dT ys)) :=
 ⟨Xo _,rg h,rA h,fun b o e n=>by
  have hne:b≠a:=fun z=>n (by rw [z]; exact hm)
  rw [aA hne]; exact e,fun _ h n=>absurd h n⟩
theorem ao.wD (hS:ao Γ ι H S) {p:Addr} (hp:H p=none):ao Γ (ι++[p]) (upd H p (.dT [])) (S++[.dct []]):=by
 have e:Ext ι (ι++[p]) H (upd H p (.dT [])):=Ext.more hp
 refine ⟨by simp [hS.len],Qw.mpr ⟨hS.nd,by simp,?_⟩,fun l c h=>?_⟩
 ·intro a ha b hb
  have:b=p:=by simpa using hb
  subst this
  exact fun z=>hS.new hp (z ▸ ha)
 ·by_cases hl:l < S.length
  ·rw [ZE hl] at h
   obtain ⟨a,ha,c1⟩:=hS.cell l c h
   exact ⟨a,eZ e.pre ha,c1.ext e fun ys hy=>by rw [aA (bu hy hp)]; exact hy⟩
  ·rw [ZJ (by omega)] at h
   have hl2:l - S.length=0:=by
    have:=(Zh.mp h).1
    simp at this; omega
   rw [hl2] at h
   have h':(Cell.dct [])=c:=by simpa using h
   subst h'
   exact ⟨p,by rw [ZJ (by rw [hS.len]; omega),hS.len,hl2]; rfl,[],cg,.nil⟩
theorem F1 {pos:Pos}:PE X (.Dict [] [] pos) (tM Γ xw fun _=>alloc (.dct [])) :=
 PE.imp Hr fun σ H Q h=>by
  obtain ⟨σd,ι,S,he,hs,ho⟩:=h
  exact fun p hp=>ho (ι++[p]) _ (Ext.more hp) (hs.wD hp) _ (.loc (by rw [<- hs.len]; simp))
theorem Out.eU {l:Nat} {f:List (List Int × D)->M D} {k:D->af->List Addr->Hp->Prop} (h:Out Γ xw ι H (EV.eU l f S) k):∃ kvs,S[l]?=some (.dct kvs)/\Out Γ xw ι H (f kvs S) k:=by
 have e:EV.eU l f S=match S[l]? with|some (.dct kvs)=>f kvs S|_=>.bad:=rfl
 rw [e] at h
 cases q:S[l]? with
 | none=>rw [q] at h; exact h.elim
 | some c =>
  rw [q] at h
  cases c with
  | dct kvs=>exact ⟨kvs,rfl,h⟩
  | lst ds=>exact h.elim
  | fdc kvs=>exact h.elim
end
end EV

namespace EV
open PySem PySem.Spec PyProof.Rows L2 TB
theorem ve:∀ {t u:List Int},t≠u->lexLe t u=true->ay t u=true
 | [],[],h,_=>absurd rfl h
 | [],_::_,_,_=>rfl
 | _::_,[],_,e=>by cases e
 | a::r,b::q,h,e=>by
  unfold lexLe at e
  unfold ay
  by_cases ab:a=b
  ·subst ab
   rw [Zf (Int.lt_irrefl a),Ze rfl] at e
   rw [Ze rfl]
   exact ve (fun z=>h (by rw [z])) e
  ·rw [Zf ab]
   by_cases lt:a < b
   ·exact Zj lt
   ·rw [Zf lt,Zf ab] at e; cases e
theorem pM:∀ {t u:List Int},lexLe t u=false->ay u t=true
 | [],_,e=>by cases e
 | _::_,[],_=>rfl
 | a::r,b::q,e=>by
  unfold lexLe at e
  unfold ay
  by_cases ab:a=b
  ·subst ab
   rw [Zf (Int.lt_irrefl a),Ze rfl] at e
   rw [Ze rfl]
   exact pM e
  ·rw [Zf fun z=>ab z.symm]
   by_cases lt:a < b
   ·rw [Ze lt] at e; cases e
   ·exact Zj (by omega)
theorem fM (t x:List Int):∀ r,x∈bL t r ↔ x=t\/x∈r
 | []=>by unfold bL; simp
 | u::r=>by
  unfold bL
  by_cases e:t=u
  ·rw [Ze e]; subst e; simp
  ·rw [Zf e]
   by_cases l:lexLe t u=true
   ·rw [Ze l]; simp
   ·rw [Zf l,Zt,fM t x r,Zt]; constructor
    ·rintro (h|h|h)
     ·exact .inr (.inl h)
     ·exact .inl h
     ·exact .inr (.inr h)
    ·rintro (h|h|h)
     ·exact .inr (.inl h)
     ·exact .inl h
     ·exact .inr (.inr h)
theorem vO (t:List Int):∀ {r},r.Pairwise (fun a b=>ay a b=true)->(bL t r).Pairwise (fun a b=>ay a b=true)
 | [],_=>by unfold bL; exact List.pairwise_singleton _ _
 | u::r,h=>by
  unfold bL
  by_cases e:t=u
  ·rw [Ze e]; exact h
  ·rw [Zf e]
   obtain ⟨h1,h2⟩:=Wo.mp h
   by_cases l:lexLe t u=true
   ·rw [Ze l]
    have tu:=ve e l
    refine Wo.mpr ⟨fun x hx=>?_,h⟩
    rcases Zt.mp hx with z|z
    ·rw [z]; exact tu
    ·exact lex_trans _ _ _ tu (h1 x z)
   ·rw [Zf l]
    have ut:=pM (Bool.eq_false_iff.mpr l)
    refine Wo.mpr ⟨fun x hx=>?_,vO t h2⟩
    rcases (fM t x r).mp hx with z|z
    ·rw [z]; exact ut
    ·exact h1 x z
theorem mL:∀ ts,(bA ts).Pairwise (fun a b=>ay a b=true)
 | []=>.nil
 | t::r=>vO t (mL r)
theorem uM (x:List Int):∀ ts,x∈bA ts ↔ x∈ts
 | []=>Iff.rfl
 | t::r=>by
  show x∈bL t (bA r) ↔ _
  rw [fM,uM x r,Zt]
theorem qO {l:List (List Int)} (h:l.Pairwise (fun a b=>ay a b=true)):l.Nodup:=h.imp fun {a b} e q=>by
 rw [q,lex_irrefl] at e; cases e
theorem yH {ts ks:List (List Int)} (h:ks.Pairwise (fun a b=>ay a b=true)) (m:∀ y,y∈ks ↔ y∈ts):ks=bA ts:=by
 have p:ks.Perm (bA ts):=(List.perm_ext_iff_of_nodup (qO h) (qO (mL ts))).mpr fun y=>by rw [m,uM]
 refine p.eq_of_pairwise (fun x y _ _ h1 h2=>?_) h (mL ts)
 have z:=lex_trans _ _ _ h1 h2
 rw [lex_irrefl] at z; cases z
theorem iI (t:List Int):∀ r,(bL t r).length<=r.length+1
 | []=>Zk _
 | u::r=>by
  unfold bL
  by_cases e:t=u
  ·rw [Ze e]; exact QL _
  ·rw [Zf e]
   by_cases l:lexLe t u=true
   ·rw [Ze l]; exact Zk _
   ·rw [Zf l]; exact Nat.succ_le_succ (iI t r)
theorem iR:∀ ts,(bA ts).length<=ts.length
 | []=>Zk _
 | t::r=>ZY (iI t (bA r)) (Nat.succ_le_succ (iR r))
theorem sL:∀ {ds:List D} {ts:List (List Int)},tups ds=some ts->ds=ts.map fun t=>.tup (t.map .int)
 | [],_,h=>by cases h; rfl
 | d::r,ts,h=>by
  cases d with
  | tup es =>
   unfold tups at h
   cases q1:allInts es with
   | none=>rw [q1] at h; cases h
   | some t =>
    cases q2:tups r with
    | none=>rw [q1,q2] at h; cases h
    | some q =>
     rw [q1,q2] at h; cases h
     rw [ZF,<- sL q2,<- ints_map q1]
  | _=>cases h
section
variable {X:Cx} {Γ:Gx} {xw:XW} {ι:List Addr} {H:Hp}
theorem sJ {P:Program} {w:World}:∀ {ks:List Int} {its:List Value},Vals (ks.map V.int) its->ItemsAre (intKind P w) ks its
 | [],_,.nil=>.nil
 | k::r,_,.cons h t=>by
  obtain ⟨u,rfl⟩:=h
  exact .cons (Z7 k) (sJ t)
theorem oG {pins:List (Addr × Obj)} {σ:L2.St} {s:Shared} {c:Addr} {ks:List Int} (I:Inv X pins σ H s) (h:H c=some (.tup (ks.map V.int))):TK X.prog X.w s.heap ks c:=by
 obtain ⟨its,r,⟨o,e1,e2,n,e3⟩,_⟩:=I.tuple (.of h)
 exact ⟨o,its.toArray,n,e1,e2,e3,sJ r⟩
theorem vq:∀ {out:List Value} {ks:List (List Int)},out.length=ks.length->(∀ (i:Nat) v k,out[i]?=some v->ks[i]?=some k->∃ c,v=.ref c/\H c=some (.tup (k.map V.int)))->∃ vs,Vals vs out/\av Γ ι H (ks.map fun t=>.tup (t.map .int)) vs
 | [],[],_,_=>⟨[],.nil,.nil⟩
 | [],_::_,hl,_=>by cases hl
 | _::_,[],hl,_=>by cases hl
 | v::o,k::r,hl,h=>by
  obtain ⟨c,rfl,e⟩:=h 0 v k rfl rfl
  obtain ⟨vs,h1,h2⟩:=vq (out:=o) (ks:=r) (Nat.succ.inj hl) fun i v' k' e1 e2=>h (i+1) v' k' e1 e2
  exact ⟨.ref c::vs,.cons rfl h1,.cons (.i9 e (jX k)) h2⟩
theorem item_at:∀ {ts:List (List Int)} {xs:List V} {its:List Value} {i:Nat} {v:Value},av Γ ι H (ts.map fun t=>.tup (t.map .int)) xs->Vals xs its->its[i]?=some v->∃ c t,v=.ref c/\ts[i]?=some t/\H c=some (.tup (t.map V.int))
 | [],_,_,_,_,.nil,.nil,e=>by simp at e
 | t::r,_,_,0,_,.cons a p,.cons b q,e=>by
  cases e
  obtain ⟨c,rfl,sq⟩:=a.trk
  cases b
  exact ⟨c,t,rfl,rfl,sq⟩
 | t::r,_,_,i+1,_,.cons a p,.cons b q,e=>by
  obtain ⟨c,u,e1,e2,e3⟩:=item_at (ts:=r) (i:=i) p q e
  exact ⟨c,u,e1,e2,e3⟩
theorem AX {sub:Sub} {x y:Str} {p p' pos pos':Pos} {a:Expr} {ma:Sg->M D} (hK:Γ.K=X.K) (hc:X.calm=true) (hu:X.A.units+4 < cLine) (hg:Gl X x) (hm:X.mg x=none) (hv:bootBuiltins x=some (.builtin "sorted"))
  (hg':Gl X y) (hm':X.mg y=none) (hv':bootBuiltins y=some (.type "set")) (ha:PE X a (tM Γ xw ma)) (hn:x≠"__name__") (hdb:(x==("__debug__" : Str))=false) (hn':y≠"__name__") (hdb':(y==("__debug__" : Str))=false)
  (hs:starEach [a] X.env=(false,eval a X.env)::starEach [] X.env):PE X (.Call (.Name x p) [.Call (.Name y p') [a] [] pos'] [] pos) (tM Γ xw fun σ=>ma σ>>=fun d=>bi1 sub .sortedSet d):=by
 intro pins s σ H Q I h
 refine Xl (cO I hg hm hv ?_ hn hdb)
 refine Ql (e:=.Call (.Name y p') [a] [] pos') (rest:=[]) ?_ rfl rfl
 refine XY ?_
 refine Xl (cO I hg' hm' hv' ?_ hn' hdb')
 refine Z1 (e:=a) (rest:=[]) ?_ hs rfl
 rw [hs]
 refine XY (thn (ha pins s σ H _ I (B5 h)) fun u s1 ⟨v,H1,I1,r1,q1⟩=>X8 ?_)
 obtain ⟨ι,S,d,hS,r,ho⟩:=q1
 obtain ⟨ds,q,ho⟩:=Out.cu ho
 obtain ⟨ts,q2,ho⟩:=Out.opt ho
 obtain ⟨hz,ho⟩:=Out.guard ho
 obtain ⟨hz1,hz2⟩:=Bool.and_eq_true_iff.mp hz
 have hz1:ts.length<=18:=Zo hz1
 obtain ⟨_,pa,xs,rfl,sq,rp⟩:=pN hS r q
 rw [sL q2] at rp
 cases r1
 rw [hK] at sq
 obtain ⟨its,rv,pl,_⟩:=I1.list sq
 have hl:its.length=ts.length:=by rw [<- rv.length,<- rp.length,Zd]
 refine GU (val:=fun i=>ts.getD i []) hu (I1.ok.hd hc) pl.isList (fun i v e=>?_) (by rw [Zi]; omega) fun h' tk md=>?_
 ·obtain ⟨c,t,e1,e2,e3⟩:=item_at rp rv (by simpa using e)
  refine ⟨c,e1,?_⟩
  show TK X.prog X.w s1.heap (ts.getD i []) c
  rw [ZG,e2]
  exact oG I1 e3
 ·obtain ⟨⟨L,tset,hL⟩,k1⟩:=md
  have hlt:s1.heap.objs.size < h'.objs.size:=by
   obtain ⟨o,_,_,_,e,_⟩:=tset
   exact Zs e
  have hmem:∀ y,y∈L ↔ y∈ts:=fun y=>by
   rw [hL]
   constructor
   ·rintro ⟨j,h1,rfl⟩
    rw [Zi,hl] at h1
    show ts.getD j []∈ts
    rw [ZG,Zb h1]
    exact Xp h1
   ·intro hy
    obtain ⟨j,hj⟩:=ZL hy
    exact ⟨j,by rw [Zi,hl]; exact (Zh.mp hj).1,by show ts.getD j []=y; rw [ZG,hj]; rfl⟩
  refine X8 (Ft (s:={ s1 with heap:=h',toks:=tk }) (I1.ok.hd hc) tset (fun ks hk e=>?_) fun h2 tk2 R ks hR hol so hm2 old=>?_)
  ·have:=Z8.mp hz2 ks ((hmem ks).mp hk)
   rw [e] at this; cases this
  ·obtain ⟨out,n,eo,el,ev⟩:=hol
   have kp:∀ b o,s1.heap.get? b=some o->h2.get? b=some o:=fun b o e=>old b o (QA (Zs e) hlt) (k1 b o (Zs e) e)
   have e:ks=bA ts:=yH so fun y=>by rw [hm2,hmem]
   subst e
   obtain ⟨vs,w1,w2⟩:=vq (Γ:=Γ) (ι:=ι) (H:=H1) el fun i v k e1 e2=>by
    obtain ⟨c,rfl,_,⟨_,hc2⟩,tk2⟩:=ev i v k e1 e2
    obtain ⟨j,hj⟩:=ZL hc2
    obtain ⟨c',t,e3,_,e4⟩:=item_at rp rv (by simpa using hj)
    cases e3
    have:=IsTupleKey.inj tk2 (fC (oG I1 e4) fun o e=>kp c o e)
    subst this
    exact ⟨c,rfl,e4⟩
   have hR2:s1.heap.objs.size<=R:=ZY (Qe hlt) hR
   refine ⟨.ref R,_,I1.laid (h':=h2) (t':=tk2) (o:=.lst vs) kp hR2 ⟨?_,out,n,w1,eo⟩,rfl,Out.alloc ho hS (I1.hok.fresh hR2) w2⟩
   rw [w1.length,el,Qb]
   have:(bA ts).length<=ts.length:=iR ts
   omega
end
end EV

namespace EV
open PySem PySem.Spec PyProof.Rows L2
section
variable {X:Cx} {Γ:Gx} {xw:XW} {iter tg c:Expr} {pos:Pos} {mi:Sg->M Src} {t:Tg} {mb:Sg->M Fl} {na:Sg->M Bool} {body:List Stmt}
theorem PS.nox {st:Stmt} {t:TS} (h:PS X.nox st t):PS X st t:=fun pins s σ H D I hw =>
 Xu (h pins s σ H D (I.di _) hw) (fun f s' q=>q.eg) fun _ _ e=>e.elim
theorem yV {D:Ends} {σ:L2.St} {H:Hp} (h:tMS Γ XF (fun σ=>mi σ>>=fun s=>forL s (fun d σ=>aO t d σ>>=fun σ'=>mb σ') s.its σ) D σ H):vn (tMI Γ XF mi) (tMG Γ t) (tMS Γ XF mb) D σ H:=by
 obtain ⟨σd,ι,S,hE,hS,ho⟩:=h
 refine ⟨σd,ι,S,hE,hS,ho.bind.mono fun src S1 ι1 H1 _ _ ⟨s1,e1,o1⟩ J hJ=>?_⟩
 generalize hf:(fun d σ=>aO t d σ>>=fun σ'=>mb σ')=f at o1
 generalize hR:forL src f src.its σd S1=R0 at o1
 refine ⟨fun i m σ H=>∃ ι' S' σd',i<=src.its.length/\m=src.its.length - i/\Ext ι1 ι' H1 H/\ao Γ ι' H S'/\aQ Γ ι' H σ σd'/\forL src f (src.its.drop i) σd' S'=R0,
  ⟨src.its.length,ι1,S1,σd,Xs _,rfl,.refl,s1,hE.ext e1,hR⟩,?_⟩
 rintro i m σ H ⟨ι',S',σd',hi,rfl,eH,sH,eE,hc⟩
 by_cases hlt:i < src.its.length
 ·rw [Xi hlt] at hc
  have hc:(aD src>>=fun _=>f src.its[i] σd'>>=fun fl=>match fl with|.nx σ'=>forL src f (src.its.drop (i+1)) σ'|.ct σ'=>forL src f (src.its.drop (i+1)) σ'|.bk σ'=>pure (.nx σ')|.rt d=>pure (.rt d)) S'=R0:=hc
  rcases j8 src S' with st|st
  ·rw [aj st] at hc
   obtain ⟨jgo,jyld⟩:=(hJ ι' H S' eH sH st).1 i src.its[i] (Zb hlt)
   refine .inr ⟨jgo,fun σ' H'=>∃ m',m' < src.its.length - i/\∃ ι' S' σd',i+1<=src.its.length/\m'=src.its.length - (i+1)/\Ext ι1 ι' H1 H'/\ao Γ ι' H' S'/\aQ Γ ι' H' σ' σd'/\forL src f (src.its.drop (i+1)) σd' S'=R0,fun σ' H' h=>h,fun x H' yl=>?_⟩
   obtain ⟨eX,sX,rX⟩:=jyld x H' yl
   have hfd:f src.its[i] σd' S'=(aO t src.its[i] σd'>>=fun σ'=>mb σ') S':=by rw [<- hf]
   rcases lZ t src.its[i] σd' S' with ⟨σd2,hb,_⟩|hb
   ·rw [aj hb] at hfd
    refine ⟨σd',ι',S',src.its[i],σd2,eE.ext eX,sX,rX,hb,fun σ2 hE2 _=>⟨σd2,ι',S',hE2,sX,?_⟩⟩
    have eA:=eH.trans eX
    cases qb:mb σd2 S' with
    | bad=>rw [qb] at hfd; rw [aT hfd] at hc; rw [<- hc] at o1; exact o1.elim
    | exc c S3=>rw [qb] at hfd; rw [cB hfd] at hc; rw [<- hc] at o1; exact fun ι3 H3 e3 s3=>o1 ι3 H3 (eA.trans e3) s3
    | ok fl S3 =>
     rw [qb] at hfd
     rw [aj hfd] at hc
     intro ι3 H3 e3 s3
     cases fl with
     | nx σ'=>exact fun σv hv=>⟨src.its.length - (i+1),by omega,ι3,S3,σ',hlt,rfl,eA.trans e3,s3,hv,hc⟩
     | ct σ'=>exact fun σv hv=>⟨src.its.length - (i+1),by omega,ι3,S3,σ',hlt,rfl,eA.trans e3,s3,hv,hc⟩
     | bk σ'=>rw [<- hc] at o1; exact fun σv hv=>o1 ι3 H3 (eA.trans e3) s3 σv hv
     | rt d=>rw [<- hc] at o1; exact fun v r=>o1 ι3 H3 (eA.trans e3) s3 v r
   ·rw [aT hb] at hfd; rw [aT hfd] at hc; rw [<- hc] at o1; exact o1.elim
  ·rw [aT st] at hc; rw [<- hc] at o1; exact o1.elim
 ·have ei:i=src.its.length:=by omega
  subst ei
  rw [List.drop_length] at hc
  have hc:(aD src>>=fun _=>pure (.nx σd')) S'=R0:=hc
  rcases j8 src S' with st|st
  ·rw [aj st] at hc
   rw [<- hc] at o1
   exact .inl ⟨(hJ ι' H S' eH sH st).2,o1 ι' H eH sH σ eE⟩
  ·rw [aT st] at hc; rw [<- hc] at o1; exact o1.elim
theorem EX (hcalm:X.calm=true) (hi:PI X.nox tg iter (tMI Γ XF mi)) (hg:PG X.nox tg (tMG Γ t)) (hb:PSs X.nox body (tMS Γ XF mb)) (hs:∀ x,foldedSetIterable iter X.env x=pure x) :
  PS X (.For tg iter body [] pos) (tMS Γ xw fun σ=>quiet (mi σ>>=fun s=>forL s (fun d σ=>aO t d σ>>=fun σ'=>mb σ') s.its σ)) :=
 PS.nox (PS.imp (BX (X:=X.nox) PassesOwn.never hcalm hi hg hb hs) fun D σ H h=>by
  obtain ⟨σd,ι,S,hE,hS,ho⟩:=h
  exact yV ⟨σd,ι,S,hE,hS,Out.quiet ho XF⟩)
theorem Ad {D:Ends} {σ:L2.St} {H:Hp} (h:tMS Γ XF (fun σ=>bD na mb gx σ) D σ H):uG (tMT Γ XF na) (tMS Γ XF mb) D σ H:=by
 obtain ⟨σd,ι,S,hE,hS,ho⟩:=h
 have ho:Out Γ XF ι H (bD na mb gx σd S) (FlK Γ D):=ho
 generalize hR:bD na mb gx σd S=R0 at ho
 refine ⟨fun m σ H'=>∃ ι' S' σd',Ext ι ι' H H'/\ao Γ ι' H' S'/\aQ Γ ι' H' σ σd'/\bD na mb m σd' S'=R0,⟨gx,ι,S,σd,.refl,hS,hE,hR⟩,?_⟩
 rintro m σ H' ⟨ι',S',σd',eH,sH,eE,hc⟩
 cases m with
 | zero =>
  have hc:(Res.bad:Res Fl)=R0:=hc
  rw [<- hc] at ho; exact ho.elim
 | succ n =>
  have hc:(na σd'>>=fun k=>if k=true then mb σd'>>=fun fl=>match fl with|.nx σ'=>bD na mb n σ'|.ct σ'=>bD na mb n σ'|.bk σ'=>pure (.nx σ')|.rt d=>pure (.rt d) else pure (.nx σd')) S'=R0:=hc
  refine ⟨σd',ι',S',eE,sH,?_⟩
  cases qn:na σd' S' with
  | bad=>rw [aT qn] at hc; rw [<- hc] at ho; exact ho.elim
  | exc c S3=>rw [cB qn] at hc; rw [<- hc] at ho; exact fun ι3 H3 e3 s3=>ho ι3 H3 (eH.trans e3) s3
  | ok k S3 =>
   rw [aj qn] at hc
   intro ι3 H3 e3 s3
   have eA:=eH.trans e3
   cases k with
   | false =>
    rw [Zf Zx] at hc
    rw [<- hc] at ho
    exact Aw (ho ι3 H3 eA s3 σ (eE.ext e3))
   | true =>
    rw [Ze rfl] at hc
    refine Ci ⟨fun σ' H'=>∃ m',m' < n+1/\∃ ι' S' σd',Ext ι ι' H H'/\ao Γ ι' H' S'/\aQ Γ ι' H' σ' σd'/\bD na mb m' σd' S'=R0,fun σ' H' h=>h,σd',ι3,S3,eE.ext e3,s3,?_⟩
    cases qb:mb σd' S3 with
    | bad=>rw [aT qb] at hc; rw [<- hc] at ho; exact ho.elim
    | exc c S4=>rw [cB qb] at hc; rw [<- hc] at ho; exact fun ι4 H4 e4 s4=>ho ι4 H4 (eA.trans e4) s4
    | ok fl S4 =>
     rw [aj qb] at hc
     intro ι4 H4 e4 s4
     cases fl with
     | nx σ'=>exact fun σv hv=>⟨n,Xw _,ι4,S4,σ',eA.trans e4,s4,hv,hc⟩
     | ct σ'=>exact fun σv hv=>⟨n,Xw _,ι4,S4,σ',eA.trans e4,s4,hv,hc⟩
     | bk σ'=>rw [<- hc] at ho; exact fun σv hv=>ho ι4 H4 (eA.trans e4) s4 σv hv
     | rt d=>rw [<- hc] at ho; exact fun v r=>ho ι4 H4 (eA.trans e4) s4 v r
theorem Bc (hc:PT X.nox c (tMT Γ XF na)) (hb:PSs X.nox body (tMS Γ XF mb)):PS X (.While c body [] pos) (tMS Γ xw fun σ=>quiet (bD na mb gx σ)) :=
 PS.nox (PS.imp (CU (X:=X.nox) PassesOwn.never hc hb) fun D σ H h=>by
  obtain ⟨σd,ι,S,hE,hS,ho⟩:=h
  exact Ad ⟨σd,ι,S,hE,hS,Out.quiet ho XF⟩)
end
section
variable {Γ:Gx} {ι ι':List Addr} {H H':Hp} {S S':af}
theorem e8:∀ {ds:List D} {n:Nat},D.lows n ds=true ↔ ∀ (i:Nat) d,ds[i]?=some d->d.low n=true
 | [],n=>⟨fun _ i d h=>by simp at h,fun _=>rfl⟩
 | d::r,n=>by
  simp only [D.lows,Zq]
  constructor
  ·rintro ⟨h1,h2⟩ i e h
   cases i with
   | zero=>simp at h; subst h; exact h1
   | succ i=>exact e8.mp h2 i e (by simpa using h)
  ·intro h
   exact ⟨h 0 d rfl,e8.mpr fun i e q=>h (i+1) e (by simpa using q)⟩
theorem Rep.low {d:D} {v:V} (r:Rep Γ ι H d v):d.low ι.length=true:=by
 induction r with
 | tup h1 h2 h3 h4 ih =>
  show D.lows _ _=true
  refine e8.mpr fun i d e=>?_
  have hi:i < _:=(Zh.mp e).1
  exact ih i d _ e (Zb (by omega))
 | fro h1 h2 h3 ih =>
  show D.lows _ _=true
  refine e8.mpr fun i d e=>?_
  have hi:i < _:=(Zh.mp e).1
  exact ih i d _ e (Zb (by omega))
 | loc h=>exact Zj (Zh.mp h).1
 | _=>rfl
theorem Rep.cut (hp:ι <+: ι') {d:D} {v:V} (r:Rep Γ ι' H d v) (hl:d.low ι.length=true):Rep Γ ι H d v:=by
 induction r with
 | non=>exact .non
 | bl b=>exact .bl b
 | int i=>exact .int i
 | str x=>exact .str x
 | tup h1 h2 h3 h4 ih=>exact .tup h1 h2 (fun i d v e1 e2=>ih i d v e1 e2 (e8.mp hl i d e1)) h4
 | fro h1 h2 h3 ih=>exact .fro h1 h2 fun i d v e1 e2=>ih i d v e1 e2 (e8.mp hl i d e1)
 | @loc l a h =>
  have hlt:l < ι.length:=Zo hl
  obtain ⟨t,rfl⟩:=hp
  rw [ZE hlt] at h
  exact .loc h
theorem av.low {ds:List D} {vs:List V} (r:av Γ ι H ds vs):D.lows ι.length ds=true:=e8.mpr fun i d e=>let ⟨_,_,r'⟩:=Paired.get r e; r'.low
theorem av.cut (hp:ι <+: ι'):∀ {ds:List D} {vs:List V},av Γ ι' H ds vs->D.lows ι.length ds=true->av Γ ι H ds vs
 | _,_,.nil,_=>.nil
 | _,_,.cons r t,h=>by
  rw [D.lows,Zq] at h
  exact .cons (r.cut hp h.1) (av.cut hp t h.2)
theorem aC.cut (hp:ι <+: ι'):∀ {kvs:List (List Int × D)} {xs ys:List (List Key × V)} {H0:Hp},aC Γ ι' H kvs xs->aC Γ ι H0 kvs ys->aC Γ ι H kvs xs
 | _,_,_,_,.nil,_=>.nil
 | _,_,_,_,.cons r t,.cons r0 t0=>.cons ⟨r.1,r.2.cut hp r0.2.low⟩ (aC.cut hp t t0)
theorem Ext.back (e:Ext ι ι' H H'):Ext ι ι H H':=⟨Xo _,e.tup,e.frz,e.oth,fun _ h n=>absurd h n⟩
theorem ao.back (e:Ext ι ι' H H') (h0:ao Γ ι H S) (h1:ao Γ ι' H' S') (ht:S'.take S.length=S):ao Γ ι H' S:=by
 refine ⟨h0.len,h0.nd,fun l c hc=>?_⟩
 have hl:l < S.length:=(Zh.mp hc).1
 have hc':S'[l]?=some c:=by rw [<- ht,QP hl] at hc; exact hc
 obtain ⟨a,ha,c1⟩:=h1.cell l c hc'
 obtain ⟨b,hb,c0⟩:=h0.cell l c hc
 have:=eZ e.pre hb
 rw [ha] at this; cases this
 refine ⟨a,hb,?_⟩
 cases c with
 | lst ds=>obtain ⟨xs,hx,r⟩:=c1; obtain ⟨ys,_,r0⟩:=c0; exact ⟨xs,hx,av.cut e.pre r r0.low⟩
 | dct kvs=>obtain ⟨xs,hx,r⟩:=c1; obtain ⟨ys,_,r0⟩:=c0; exact ⟨xs,hx,aC.cut e.pre r r0⟩
 | fdc kvs=>obtain ⟨xs,hx,r⟩:=c1; obtain ⟨ys,_,r0⟩:=c0; exact ⟨xs,hx,aC.cut e.pre r r0⟩
theorem tR {xw:XW} {d:D} {v:V} {Q:VK} (h0:ao Γ ι H S) (e:Ext ι ι' H H') (h1:ao Γ ι' H' S') (r:Rep Γ ι' H' d v) (ho:Out Γ xw ι H (leave S d S') fun d _ ι' H'=>∀ v,Rep Γ ι' H' d v->Q v H'):Q v H':=by
 unfold leave at ho
 by_cases ht:S'.take S.length=S
 ·rw [Ze ht] at ho
  by_cases hl:d.low S.length=true
  ·rw [Ze hl] at ho
   exact ho ι H' e.back (ao.back e h0 h1 ht) v (r.cut e.pre (by rw [h0.len]; exact hl))
  ·rw [Zf hl] at ho
   have dflt:Out Γ xw ι H (.ok d S') (fun d _ ι' H'=>∀ v,Rep Γ ι' H' d v->Q v H')->Q v H':=fun ho=>ho ι' H' e h1 v r
   cases d with
   | loc l =>
    dsimp only at ho
    cases q:S'[l]? with
    | none=>rw [q] at ho; exact dflt ho
    | some c =>
     rw [q] at ho
     dsimp only at ho
     by_cases hc:c.low S.length=true
     ·rw [Ze hc] at ho
      cases r with
      | @loc _ a hla =>
       have hge:¬ l < S.length:=fun z=>hl (Zj z)
       have hna:a ∉ ι:=fun z=>by
        obtain ⟨j,hj⟩:=ZL z
        have hj1:=(Zh.mp hj).1
        have:=gy h1.nd hla (eZ e.pre hj)
        rw [h0.len] at hj1
        omega
       have hHa:H a=none:=e.fresh a (Zy hla) hna
       have pre2:ι <+: ι++[a]:=Zl _ _
       refine ho (ι++[a]) H' ⟨pre2,e.tup,e.frz,e.oth,fun b hb hn=>?_⟩ ?_ _ (.loc (by rw [<- h0.len]; simp))
       ·rcases ZR.mp hb with z|z
        ·exact absurd z hn
        ·have:b=a:=by simpa using z
         rw [this]; exact hHa
       ·have hb:=ao.back e h0 h1 ht
        obtain ⟨b,hb2,c1⟩:=h1.cell l c q
        rw [hla] at hb2; cases hb2
        cases c with
        | lst ds =>
         obtain ⟨xs,hx,rr⟩:=c1
         exact hb.take hna hx (av.cut e.pre rr (by rw [h0.len]; exact hc))
        | dct kvs=>cases hc
        | fdc kvs=>cases hc
     ·rw [Zf hc] at ho; exact dflt ho
   | _=>exact dflt ho
 ·rw [Zf ht] at ho
  exact ho ι' H' e h1 v r
end
end EV

namespace PySem
open Sem (wp)
open AutoSeq1 (wpAny_loadPart')
section
variable {prog:Program} {w:World} {A:Around} {E:Value->Shared->Prop} {s:Shared}
end
section
variable {prog:Program} {w:World} {A:Around} {E:Value->Shared->Prop} {s:Shared}
end
end PySem
namespace EV
open PySem PySem.Spec PyProof.Rows L2
section
variable {X:Cx} {Γ:Gx} {xw:XW} {sub:Sub} {a b:PySem.Expr} {ta:TA} {p pos:Pos}
noncomputable def Iv (ta:TA):TE:=fun σ H Q=>ta σ H fun vs H1=>∃ lo hi:Int,((vs=[.int hi]/\lo=0)\/vs=[.int lo,.int hi])/\∀ p,H1 p=none->Q (.ref p) (upd H1 p (.rng lo hi))
end
end EV

namespace EV
open PySem PySem.Spec PyProof.Rows L2
section
variable {X:Cx} {Γ:Gx} {xw:XW} {pins:List (Addr × Obj)} {σ:L2.St} {H:Hp} {s:Shared} {ι:List Addr} {S:af}
theorem ao.tab (hS:ao Γ ι H S) {l:Nat} {kvs:List (List Int × D)} (h:S[l]?=some (.dct kvs)\/S[l]?=some (.fdc kvs)):∃ a xs,ι[l]?=some a/\(H a=some (.dT xs)\/∃ o,H a=some (.frz o (.dT xs)))/\aC Γ ι H kvs xs:=by
 rcases h with h|h
 ·obtain ⟨a,ha,xs,hx,r⟩:=hS.cell l _ h
  exact ⟨a,xs,ha,.inl hx,r⟩
 ·obtain ⟨a,ha,xs,hx,r⟩:=hS.cell l _ h
  exact ⟨a,xs,ha,.inr hx,r⟩
theorem Out.bO {l:Nat} {f:List (List Int × D)->M D} {k:D->af->List Addr->Hp->Prop} (h:Out Γ xw ι H (EV.bO l f S) k):∃ kvs,(S[l]?=some (.dct kvs)\/S[l]?=some (.fdc kvs))/\Out Γ xw ι H (f kvs S) k:=by
 have e:EV.bO l f S=match S[l]? with|some (.dct kvs)=>f kvs S|some (.fdc kvs)=>f kvs S|_=>.bad:=rfl
 rw [e] at h
 cases q:S[l]? with
 | none=>rw [q] at h; exact h.elim
 | some c =>
  rw [q] at h
  cases c with
  | dct kvs=>exact ⟨kvs,.inl rfl,h⟩
  | fdc kvs=>exact ⟨kvs,.inr rfl,h⟩
  | lst ds=>exact h.elim
theorem Rep.key {ds:List D} {k:List Int} {v:V} (r:Rep Γ ι H (.tup ds) v) (q:allInts ds=some k):∃ b,v=.ref b/\H b=some (.tup ((k.map (Sum.inl:Int->Key)).map kV)):=by
 rw [ints_map q] at r
 obtain ⟨b,e,h⟩:=r.trk
 exact ⟨b,e,by rw [<- qv]; exact h⟩
theorem aC.none {k:List Int}:∀ {kvs:List (List Int × D)} {xs:List (List Key × V)},aC Γ ι H kvs xs->bT kvs k=none->bV xs (k.map Sum.inl)=none
 | _,_,.nil,_=>rfl
 | p::r,q::t,.cons e u,h=>by
  unfold bT at h
  unfold bV
  rw [ZN] at h ⊢
  rw [e.1,kI]
  cases c:decide (p.1=k) with
  | true=>rw [c] at h; cases h
  | false=>rw [c] at h; exact aC.none u h
theorem aC.some (k:List Int) {kvs:List (List Int × D)} {xs:List (List Key × V)} (r:aC Γ ι H kvs xs):(bV xs (k.map Sum.inl)).isSome=(bT kvs k).isSome:=by
 cases q:bT kvs k with
 | none=>rw [aC.none r q]; rfl
 | some d=>obtain ⟨v,e,_⟩:=aC.get r q; rw [e]; rfl
theorem uC {a b:Addr} {xs:List (List Key × V)} {k:List Key} (e:H a=some (.dT xs)\/∃ o,H a=some (.frz o (.dT xs))) (eb:H b=some (.tup (k.map kV))):fz H a (.ref b) (bV xs k):=.inr ⟨xs,k,b,e,rfl,eb,rfl⟩
theorem wG {o i:Expr} {pos:Pos} {mo mi:Sg->M D} (hu:X.A.units+1 < cLine) (ho:PE X o (tM Γ xw mo)) (hi:PE X i (tM Γ xw mi)) (hs:lD i):PE X (.Subscript o i pos) (tM Γ xw fun σ=>mo σ>>=fun x=>mi σ>>=fun y=>gZ x y) :=
 PE.imp (DM hu ho hi hs) fun σ H Q h=>by
  obtain ⟨σd,ι,S,he,hs,ho⟩:=h
  refine ⟨σd,ι,S,he,hs,ho.bind.mono fun d S1 ι1 H1 _ _ ⟨s1,e1,o1⟩ x rx=>?_⟩
  refine ⟨σd,ι1,S1,he.ext e1,s1,o1.bind.mono fun d2 S2 ι2 H2 _ _ ⟨s2,e2,o2⟩ y ry=>?_⟩
  have rx:=rx.ext e2
  cases d with
  | loc l =>
   cases d2 with
   | tup ds =>
    obtain ⟨k,q,o2⟩:=Out.opt o2
    obtain ⟨kvs,q2,o2⟩:=Out.bO o2
    obtain ⟨d3,q3,o2⟩:=Out.rC o2
    obtain ⟨b,rfl,hb⟩:=ry.key q
    cases rx with
    | @loc _ a hl =>
     obtain ⟨a',xs,ha,hx,dr⟩:=s2.tab q2
     rw [hl] at ha; cases ha
     obtain ⟨v,hv,rv⟩:=aC.get dr q3
     exact ⟨a,v,rfl,by rw [<- hv]; exact uC hx hb,o2.here s2 v rv⟩
   | _=>exact o2.elim
  | _=>exact o2.elim
theorem rH {neg:Bool} {x y d:D} {S S':af} (h:i_ neg x y S=.ok d S'):∃ k,d=.bl k:=by
 cases x with
 | tup ds =>
  cases y with
  | loc l =>
   have h:(opt (allInts ds)>>=fun k=>bO l fun kvs=>pure (.bl ((bT kvs k).isSome != neg))) S=.ok d S':=h
   cases q:allInts ds with
   | none=>rw [q] at h; cases h
   | some k =>
    rw [q] at h
    have h:bO l (fun kvs=>pure (.bl ((bT kvs k).isSome != neg))) S=.ok d S':=h
    unfold bO at h
    cases q2:S[l]? with
    | none=>rw [q2] at h; cases h
    | some c =>
     rw [q2] at h
     cases c with
     | lst ds=>cases h
     | dct kvs=>cases h; exact ⟨_,rfl⟩
     | fdc kvs=>cases h; exact ⟨_,rfl⟩
  | _=>cases h
 | _=>cases h
theorem q_ {neg:Bool} {dx dy:D} {x y:V} {Q:VK} (hS:ao Γ ι H S) (r1:Rep Γ ι H dx x) (r2:Rep Γ ι H dy y) (ho:Out Γ xw ι H (i_ neg dx dy S) fun d _ ι' H'=>∀ v,Rep Γ ι' H' d v->Q v H') :
  ∃ a o,y=.ref a/\fz H a x o/\Q (.bl (o.isSome != neg)) H:=by
 cases dx with
 | tup ds =>
  cases dy with
  | loc l =>
   obtain ⟨k,q,ho⟩:=Out.opt ho
   obtain ⟨kvs,q2,ho⟩:=Out.bO ho
   obtain ⟨b,rfl,hb⟩:=r1.key q
   cases r2 with
   | @loc _ a hl =>
    obtain ⟨a',xs,ha,hx,dr⟩:=hS.tab q2
    rw [hl] at ha; cases ha
    refine ⟨a,_,rfl,uC hx hb,?_⟩
    rw [aC.some k dr]
    exact Out.val ho hS (.bl _)
  | _=>exact ho.elim
 | _=>exact ho.elim
theorem Aa (hu:X.A.units+1 < cLine):OpR X (compareOp .In) (aU Γ xw (cmD .din)):=by
 intro pins s σ H x y v u Q I rx ry h
 obtain ⟨ι,S,dx,dy,hS,r1,r2,ho⟩:=h
 obtain ⟨a,o,rfl,g,q⟩:=q_ hS r1 r2 ho
 obtain rfl:u=Value.ref a:=ry
 refine Dk hu I g rx fun s3 I3=>⟨.bl o.isSome,H,I3,rfl,?_⟩
 cases o <;> exact q
theorem Gz (hu:X.A.units+1 < cLine):OpR X (compareOp .NotIn) (aU Γ xw (cmD .dnin)):=by
 intro pins s σ H x y v u Q I rx ry h
 obtain ⟨ι,S,dx,dy,hS,r1,r2,ho⟩:=h
 obtain ⟨a,o,rfl,g,q⟩:=q_ hS r1 r2 ho
 obtain rfl:u=Value.ref a:=ry
 refine DP hu I g rx fun s3 I3=>⟨.bl (!o.isSome),H,I3,rfl,?_⟩
 cases o <;> exact q
theorem Ge {o i e:Expr} {pos p:Pos} {mo mi me:Sg->M D} (hu:X.A.units+1 < cLine) (he:PE X e (tM Γ xw me)) (ho:PE X o (tM Γ xw mo)) (hi:PE X i (tM Γ xw mi))
  (hw:swapsWith e (some (.Subscript o i p)) pos.line X.env=pure false) :
  PS X (.Assign [.Subscript o i p] e pos) (tMS Γ xw fun σ=>me σ>>=fun d=>mo σ>>=fun a=>mi σ>>=fun k=>iP a k d>>=fun _=>pure (.nx σ)):=by
 refine PS.imp (yf hu ho hi he hw) fun D σ H h=>?_
 obtain ⟨σd,ι,S,hE,hs,ho⟩:=h
 refine ⟨σd,ι,S,hE,hs,ho.bind.mono fun d S1 ι1 H1 _ _ ⟨s1,e1,o1⟩ v rv=>?_⟩
 refine ⟨σd,ι1,S1,hE.ext e1,s1,o1.bind.mono fun a S2 ι2 H2 _ _ ⟨s2,e2,o2⟩ ov ro=>?_⟩
 refine ⟨σd,ι2,S2,(hE.ext e1).ext e2,s2,o2.bind.mono fun ky S3 ι3 H3 _ _ ⟨s3,e3,o3⟩ kv rk=>?_⟩
 have o3:=o3.bind
 cases ky with
 | tup ds =>
  cases a with
  | loc l =>
   obtain ⟨k,q,o3⟩:=Out.opt o3
   obtain ⟨kvs,q2,o3⟩:=Out.eU o3
   obtain ⟨hz2,o3⟩:=Out.guard o3
   obtain ⟨b,rfl,hb⟩:=rk.key q
   have ro:=ro.ext e3
   cases ro with
   | @loc _ a hl =>
    obtain ⟨a',xs,ha,hx,dr⟩:=s3.dct q2
    rw [hl] at ha; cases ha
    have rv2:=(rv.ext e2).ext e3
    refine ⟨a,_,rfl,ic.t hx hb ?_,?_⟩
    ·have:kvs.length=xs.length:=dr.length
     rw [<- this]
     exact sI hz2
    ·have ew:=Ext.ez (ys:=putK xs (k.map Sum.inl) v) hx (Zy hl)
     obtain ⟨s5,e5,o5⟩:=o3 ι3 _ ew (s3.ez q2 hl hx (aC.put rv2 dr))
     exact o5.here s5 _ ((((hE.ext e1).ext e2).ext e3).ext ew)
  | _=>exact o3.elim
 | _=>exact o3.elim
theorem qY {a b:Addr} {xs:List (List Key × V)} {o:Obj} {u:HO} (h:H a=some (.dT xs)) (e:H b=some u) (hu:u≠.dT xs):upd H a (.frz o (.dT xs)) b=some u:=by
 rw [aA]
 ·exact e
 ·intro z
  rw [z,h] at e
  exact hu (ZW e).symm
theorem Ext.fO {a:Addr} {xs:List (List Key × V)} {o:Obj} (h:H a=some (.dT xs)) (hm:a∈ι):Ext ι ι H (upd H a (.frz o (.dT xs))) where
 pre:=Xo _
 tup:=fun b zs e=>qY h e (fun z=>by cases z)
 frz:=fun b o u e=>qY h e (fun z=>by cases z)
 oth:=fun b o e n=>by rw [aA (fun z=>n (by rw [z]; exact hm))]; exact e
 fresh:=fun _ h n=>absurd h n
theorem ao.fO (hS:ao Γ ι H S) {l:Nat} {a:Addr} {xs:List (List Key × V)} {kvs:List (List Int × D)} {o:Obj} (hl:S[l]?=some (.dct kvs)) (ha:ι[l]?=some a) (h:H a=some (.dT xs)) (r:aC Γ ι H kvs xs):ao Γ ι (upd H a (.frz o (.dT xs))) (S.set l (.fdc kvs)):=by
 have e:=Ext.fO (o:=o) h (Zy ha)
 refine ⟨by rw [XN]; exact hS.len,hS.nd,fun m c hm=>?_⟩
 by_cases em:m=l
 ·subst em
  rw [Xh (Zh.mp hl).1] at hm
  cases hm
  exact ⟨a,ha,xs,⟨o,cg⟩,Paired.imp (fun _ _ q=>⟨q.1,q.2.ext e⟩) r⟩
 ·rw [Z0 (Ne.symm em)] at hm
  obtain ⟨b,hb,c1⟩:=hS.cell m c hm
  have hne:b≠a:=fun z=>em (gy hS.nd hb (z ▸ ha))
  exact ⟨b,hb,c1.ext e fun o ho=>by rw [aA hne]; exact ho⟩
theorem p8 {a:Addr} {xs:List (List Key × V)} {kvs:List (List Int × D)} {o:Obj} (h:H a=some (.frz o (.dT xs))) (r:aC Γ ι H kvs xs):jf Γ ⟨kvs.map fun kv=>.tup (kv.1.map .int),none,[]⟩ (Itd o a xs) ι H:=fun ι1 H1 S1 e s1 st=>by
 have h1:=e.frz _ _ _ h
 refine ⟨fun i d hd=>?_,by rw [Zd,r.length]; exact Zk _,h1⟩
 have hd:(kvs.map fun kv=>D.tup (kv.1.map .int))[i]?=some d:=hd
 rw [ZM,ZC] at hd
 obtain ⟨p,hp,rfl⟩:=hd
 obtain ⟨q,hq,e1,_⟩:=Paired.get r hp
 refine ⟨⟨(Zh.mp hq).1,h1⟩,?_⟩
 rintro x H' ⟨rfl,k,v,b,g1,rfl,g2⟩
 rw [hq] at g1; cases g1
 have e1:k=p.1.map Sum.inl:=e1
 rw [e1,<- qv] at g2
 exact ⟨.refl,s1,.i9 g2 (jX _)⟩
theorem EB {tg a:Expr} {ma:Sg->M D} (ha:PE X a (tM Γ xw ma)):PI X tg a (tMI Γ xw fun σ=>ma σ>>=fun d=>ia d) :=
 PI.imp (An ha) fun σ H R h=>by
  obtain ⟨σd,ι,S,he,hs,ho⟩:=h
  refine ⟨σd,ι,S,he,hs,ho.bind.mono fun d S' ι' H' _ _ ⟨s',e',o'⟩ v r=>?_⟩
  cases d with
  | loc l =>
   have e:ia (.loc l) S'=match S'[l]? with
    | some (.dct kvs)=>.ok ⟨kvs.map fun kv=>.tup (kv.1.map .int),none,[]⟩ (S'.set l (.fdc kvs))
    | some (.fdc kvs)=>.ok ⟨kvs.map fun kv=>.tup (kv.1.map .int),none,[]⟩ S'
    | _=>.bad:=rfl
   rw [e] at o'
   cases r with
   | @loc _ a hl =>
    cases q:S'[l]? with
    | none=>rw [q] at o'; exact o'.elim
    | some c =>
     rw [q] at o'
     cases c with
     | lst ds=>exact o'.elim
     | dct kvs =>
      obtain ⟨a',xs,ha',hx,dr⟩:=s'.dct q
      rw [hl] at ha'; cases ha'
      refine ⟨a,xs,rfl,.inl ⟨hx,fun o=>?_⟩⟩
      have ek:=Ext.fO (o:=o) hx (Zy hl)
      exact o' ι' _ ek (s'.fO q hl hx dr) _ (p8 cg (Paired.imp (fun _ _ q=>⟨q.1,q.2.ext ek⟩) dr))
     | fdc kvs =>
      obtain ⟨a',ha',xs,⟨o,hx⟩,dr⟩:=s'.cell l _ q
      rw [hl] at ha'; cases ha'
      exact ⟨a,xs,rfl,.inr ⟨o,hx,o' ι' _ .refl s' _ (p8 hx dr)⟩⟩
  | _=>exact o'.elim
theorem aC.vals:∀ {kvs:List (List Int × D)} {xs:List (List Key × V)},aC Γ ι H kvs xs->av Γ ι H (kvs.map (·.2)) (xs.map (·.2))
 | _,_,.nil=>.nil
 | _::_,_::_,.cons e u=>.cons e.2 (aC.vals u)
theorem DZ {sub:Sub} {x:Str} {p pos cpos apos:Pos} {o:Expr} {mo:Sg->M D} (hc:X.calm=true) (hg:Gl X x) (hm:X.mg x=none) (hv:bootBuiltins x=some (.type "list")) (ho:PE X o (tM Γ xw mo)) (hnm:∃ y q,o=.Name y q) (hline:(apos.endLine==cpos.line)=true) (hn:x≠"__name__") (hdb:(x==("__debug__" : Str))=false) :
  PE X (.Call (.Name x p) [.Call (.Attribute o "values" apos) [] [] cpos] [] pos) (tM Γ xw fun σ=>mo σ>>=fun d=>bi1 sub .vals d) :=
 PE.imp (DI hc hg hm hv ho hn hdb (by obtain ⟨y,q,rfl⟩:=hnm; rfl) hline) fun σ H Q h=>by
  obtain ⟨σd,ι,S,he,hs,ho⟩:=h
  refine ⟨σd,ι,S,he,hs,ho.bind.mono fun d S' ι' H' _ _ ⟨s',e',o'⟩ v r=>?_⟩
  have o':Out Γ xw ι' H' (qK d S') fun d _ ι' H'=>∀ v,Rep Γ ι' H' d v->Q v H':=o'
  cases d with
  | loc l =>
   obtain ⟨kvs,q,o'⟩:=Out.bO o'
   obtain ⟨hz,o'⟩:=Out.guard o'
   cases r with
   | @loc _ a hl =>
    obtain ⟨a',xs,ha',hx,dr⟩:=s'.tab q
    rw [hl] at ha'; cases ha'
    exact ⟨a,xs,rfl,hx,fun p hp=>Out.alloc o' s' hp (aC.vals dr)⟩
  | _=>exact o'.elim
theorem DV {sub:Sub} {x y:Str} {p p' pos pos':Pos} {a:Expr} {ma:Sg->M D} (hK:Γ.K=X.K) (hc:X.calm=true) (hg:Gl X x) (hm:X.mg x=none) (hv:bootBuiltins x=some (.builtin "len"))
  (hg':Gl X y) (hm':X.mg y=none) (hv':bootBuiltins y=some (.type "set")) (ha:PE X a (tM Γ xw ma)) (hn:x≠"__name__") (hdb:(x==("__debug__" : Str))=false) (hn':y≠"__name__") (hdb':(y==("__debug__" : Str))=false)
  (hs:starEach [a] X.env=(false,eval a X.env)::starEach [] X.env):PE X (.Call (.Name x p) [.Call (.Name y p') [a] [] pos'] [] pos) (tM Γ xw fun σ=>ma σ>>=fun d=>bi1 sub .lenS d) :=
 PE.imp (EH hc hg hm hv hg' hm' hv' ha hn hdb hn' hdb' hs) fun σ H Q h=>by
  obtain ⟨σd,ι,S,he,hs,ho⟩:=h
  refine ⟨σd,ι,S,he,hs,ho.bind.mono fun d S' ι' H' _ _ ⟨s',e',o'⟩ v r=>?_⟩
  obtain ⟨ds,q,o'⟩:=Out.cu o'
  obtain ⟨is,q2,o'⟩:=Out.opt o'
  obtain ⟨hz,o'⟩:=Out.guard o'
  have hz:is.length<=18:=Zo hz
  obtain ⟨_,pa,xs,rfl,sq,rp⟩:=pN s' r q
  rw [ints_map q2] at rp
  have ev:=fL rp
  subst ev
  rw [hK] at sq
  exact ⟨pa,is,rfl,sq,by omega,Out.val o' s' (.int _)⟩
end
end EV

namespace EV
open PySem
inductive GE where|fn|val (d:D)|cls
structure TC where
 sc:Scope
 N:List Str
 inF:Str->Bool
 top:Bool
 gt:List (Str × GE)
noncomputable def idx:List Str->Str->Option Nat
 | [],_=>none
 | y::r,x=>if y=x then some 0 else (idx r x).map (· + 1)
noncomputable def e9 (sc:Scope) (x:Str):Bool:=match sc.names.lookup x with
 | some .local=>true
 | some .cell=>true
 | some .free=>true
 | _=>false
noncomputable def dU (c:TC) (x:Str):Bool:=match c.sc.names.lookup x with
 | some .local=>true
 | some .cell=>c.inF x
 | _=>false
noncomputable def glB (c:TC) (x:Str):Bool:=decide (c.sc.names.lookup x=some .globalImplicit)
noncomputable def dH (x:Str):Bool:=!(x==("__debug__" : Str))&&!(x==("__classdict__" : Str))
noncomputable def op2:Operator->Option Op2
 | .Add=>some .add
 | .Sub=>some .sub
 | .Mult=>some .mul
 | .FloorDiv=>some .fdiv
 | .Mod=>some .mod
 | .Pow=>some .pow
 | _=>none
noncomputable def cmO:CmpOp->Option Cm
 | .Lt=>some .lt
 | .LtE=>some .le
 | .Gt=>some .gt
 | .GtE=>some .ge
 | .Eq=>some .eq
 | .NotEq=>some .ne
 | .In=>some .isin
 | .NotIn=>some .dP
 | _=>none
noncomputable def fX:PySem.Expr->Bool
 | .Name x _=>decide (x = "kept")
 | _=>false
noncomputable def Ga:CmpOp->Option Cm
 | .In=>some .din
 | .NotIn=>some .dnin
 | _=>none
noncomputable def k_ (op:CmpOp) (b:PySem.Expr):Option Cm:=if fX b then Ga op else cmO op
noncomputable def rq:Const->Option E
 | .none=>some (.c .non)
 | .bool b=>some (.c (.bl b))
 | .int i=>some (.c (.int i))
 | .str s=>some (.c (.str s))
 | _=>none
noncomputable def kh (c:TC) (x:Str):Option E :=
 if dH x then
  if e9 c.sc x then (idx c.N x).map .v
  else if glB c x then match c.gt.lookup x with
   | some (.val d)=>some (.c d)
   | _=>none
  else none
 else none
noncomputable def eG (c:TC) (x:Str):Bool:=glB c x&&(c.gt.lookup x).isNone
noncomputable def mZ (x:Str):Option Bi :=
 if x = "len" then some .len else if x = "all" then some .all else if x = "sum" then some .sum else if x = "min" then some .min
 else if x = "max" then some .max else if x = "tuple" then some .tuple else none
noncomputable def mV (x:Str):Option Ty :=
 if x = "int" then some .int else if x = "bool" then some .bool else if x = "str" then some .str else if x = "list" then some .list else if x = "tuple" then some .tuple else if x = "dict" then some .dict else none
noncomputable def mQ (x:Str):Option Me:=if x = "append" then some .append else if x = "extend" then some .extend else none
noncomputable def bS (f:PySem.Expr->Option E):List PySem.Expr->Option E
 | []=>some .nl
 | e::r=>match f e,bS f r with
  | some a,some b=>some (.cs a b)
  | _,_=>none
noncomputable def trO (f:PySem.Expr->Option E):Option PySem.Expr->Option E
 | none=>some .nl
 | some e=>match f e with
  | some .nl=>none
  | o=>o
noncomputable def e_ (c:TC):List PySem.Expr->Option (List Nat)
 | []=>some []
 | .Name x _::r=>if dU c x then match idx c.N x,e_ c r with
   | some i,some is=>some (i::is)
   | _,_=>none
  else none
 | _=>none
noncomputable def g9 (c:TC):PySem.Expr->Option Tg
 | .Name x _=>if dU c x then (idx c.N x).map .one else none
 | .Tuple es _ _=>(e_ c es).map .many
 | _=>none
noncomputable def isTup:PySem.Expr->Bool
 | .Tuple _ _ _=>true
 | _=>false
noncomputable def nu (c:TC) (x:Str):Bool:=eG c x&&decide (x = "range")
noncomputable def m5 (c:TC) (x:Str):Bool:=eG c x&&decide (x = "enumerate")
noncomputable def Iq (c:TC) (x:Str):Bool:=eG c x&&decide (x = "zip")
noncomputable def pair (es:List PySem.Expr):Bool:=decide (es.length=2)
noncomputable def few (es:List PySem.Expr):Bool:=decide (1<=es.length)&&decide (es.length<=3)
noncomputable def nJ:PySem.Expr->Bool
 | .Set _ _ _=>false
 | _=>true
noncomputable def trI (f:PySem.Expr->Option E) (c:TC) (tg:PySem.Expr) (e:PySem.Expr):Option E :=
 if nJ e then match e with
  | .Call (.Name x _) args [] _ =>
   if nu c x then (if few args then (bS f args).map .iRng else none)
   else if m5 c x then match isTup tg,args with
    | true,[a]=>(f a).map .iEnum
    | _,_=>none
   else (f e).map .iSeq
  | _=>if fX e then (f e).map .iDct else (f e).map .iSeq
 else none
noncomputable def mangle (x:Str):Str:=⟨#[0]++x.cps⟩
noncomputable def iE (scope sc:Scope):Scope :=
 { scope with names:=scope.names.map fun (n,k)=>if (k==.free&&sc.kind==.function&&sc.names.lookup n==some .cell) then (n,.cell) else (n,k) }
noncomputable def isFree (scope:Scope) (x:Str):Bool:=scope.names.any fun y=>decide (y.1=x)&&decide (y.2=.free)
noncomputable def own (scope:Scope):List Str:=(scope.names.filter fun y=>decide (y.2=.local)||decide (y.2=.cell)).map (·.1)
noncomputable def fS (scope:Scope) (x:Str):Str:=if isFree scope x then x else mangle x
noncomputable def inComp (c:TC) (scope:Scope):TC:={ c with sc:=iE scope c.sc,N:=c.N.map (fS scope)++own scope,inF:=fun x=>decide (scope.names.lookup x=some .cell),top:=false }
noncomputable def gh:List Str->Bool
 | []=>true
 | x::r=>!(r.any fun y=>decide (y=x))&&gh r
noncomputable def kU (c:TC) (scope:Scope):Bool :=
 scope.names.all (fun y=>!decide (y.2=.free)||(match c.sc.names.lookup y.1 with|some .cell=>true|some .free=>true|_=>false)) &&
 gh (scope.names.map (·.1))&&decide (scope.kind=.function) &&
 scope.names.all (fun y=>!decide (y.2=.local)||decide (scope.names.lookup y.1=some .local)) &&
 gh (c.N.map (fS scope)++own scope) &&
 c.N.all (fun x=>if isFree scope x then !decide ((iE scope c.sc).names.lookup x=some .local) else !e9 (iE scope c.sc) (mangle x))
noncomputable def Tg.nW (n:Nat):Tg->Bool
 | .one i=>decide (n<=i)
 | .many is=>is.all fun i=>decide (n<=i)
noncomputable def pL:PySem.Expr->Bool
 | .Call _ [] [] _=>false
 | _=>true
noncomputable def two (es:List PySem.Expr):Bool:=decide (es.length=1)||decide (es.length=2)
noncomputable def j3 (c:TC) (x:Str):Bool:=eG c x&&decide (x = "set")
noncomputable def uD:List PySem.Expr->Bool
 | [_]=>true
 | _=>false
noncomputable def l6 (c:TC) (x:Str):List PySem.Expr->Option (Bi × List PySem.Expr)
 | [.Call (.Name r _) ra [] _]=>if decide (x = "sorted")&&j3 c r&&uD ra then some (.sortedSet,ra) else if decide (x = "len")&&j3 c r&&uD ra then some (.lenS,ra) else none
 | [.Call (.Attribute o name apos) [] [] cpos]=>if decide (x = "list")&&fX o&&decide (name = "values")&&(apos.endLine==cpos.line) then some (.vals,[o]) else none
 | _=>none
noncomputable def kX:CmpOp->Option Bool
 | .Is=>some true
 | .IsNot=>some false
 | _=>none
noncomputable def pA:PySem.Expr->Bool
 | .Constant k _ _=>(match k with
  | .none=>true
  | _=>false)
 | _=>false
noncomputable def jY:PySem.Expr->Bool
 | .Constant k _ _=>(match k with
  | .str _=>true
  | _=>false)
 | _=>false
noncomputable def z9:List PySem.Expr->Bool
 | [e]=>jY e
 | _=>false
noncomputable def trE:Nat->TC->PySem.Expr->Option E
 | 0,_,_=>none
 | n+1,c,e=>match e with
  | .Name x _=>kh c x
  | .Constant k _ _=>rq k
  | .BinOp a op b _=>match op2 op,trE n c a,trE n c b with
   | some o,some a',some b'=>some (.bin o a' b')
   | _,_,_=>none
  | .UnaryOp op a _=>match op,trE n c a with
   | .Not,some a'=>some (.not a')
   | .USub,some a'=>some (.neg a')
   | _,_=>none
  | .BoolOp op vs p=>match vs with
   | []=>none
   | [a]=>trE n c a
   | a::b::r=>match op,trE n c a,trE n c (.BoolOp op (b::r) p) with
    | .And,some a',some b'=>some (.and a' b')
    | .Or,some a',some b'=>some (.or a' b')
    | _,_,_=>none
  | .IfExp t a b _=>match trE n c t,trE n c a,trE n c b with
   | some t',some a',some b'=>some (.ite t' a' b')
   | _,_,_=>none
  | .Compare a ops cs _=>match ops,cs with
   | [op],[b]=>match kX op with
    | some k=>if pA b then (trE n c a).map (fun x=>bif k then .isN x else .notN x) else none
    | none=>match k_ op b,trE n c a,trE n c b,behindInMarks op b with
     | some o,some a',some b',false=>some (.cmp o a' b')
     | _,_,_,_=>none
   | [op,op'],[b,d]=>match cmO op,cmO op',trE n c a,trE n c b,trE n c d,lastMarks [op,op'] [b,d] with
    | some o,some o',some a',some b',some d',false=>some (.chn o o' a' b' d')
    | _,_,_,_,_,_=>none
   | _,_=>none
  | .Tuple es _ _=>(bS (trE n c) es).map .tup
  | .List es _=>(bS (trE n c) es).map .lst
  | .Dict ks vs _=>match ks,vs with
   | [],[]=>some .dnew
   | _,_=>none
  | .Subscript a i _=>match i with
   | .Slice lo hi none _=>match trE n c a,trO (trE n c) lo,trO (trE n c) hi with
    | some a',some l,some h=>some (.sl a' l h)
    | _,_,_=>none
   | .Slice _ _ (some _) _=>none
   | .Tuple es _ _=>none
   | i=>match trE n c a,trE n c i with
    | some a',some i'=>if fX a then some (.dgv a' i') else some (.ix a' i')
    | _,_=>none
  | .Call f args kws cpos=>match f,kws with
   | .Name x _,[] =>
    if dH x&&glB c x then match c.gt.lookup x with
     | some .fn=>(bS (trE n c) args).map (.call x)
     | some _=>none
     | none =>
      if x = "isinstance" then match args with
       | [a,.Name y _]=>if dH y&&eG c y then match mV y,trE n c a with
         | some t,some a'=>some (.bi (.inst t) (.cs a' .nl))
         | _,_=>none
        else none
       | _=>none
      else match l6 c x args with
       | some (b,ra)=>(bS (trE n c) ra).map (.bi b)
       | none=>match args with
        | []=>none
        | a::r=>match mZ x,bS (trE n c) (a::r) with
         | some b,some es=>some (.bi b es)
         | _,_=>none
    else none
   | .Attribute o name apos,[]=>match args with
    | []=>none
    | a::r=>if pL o&&(apos.endLine==cpos.line)&&decide (args.length < 20) then match mQ name,trE n c o,bS (trE n c) (a::r) with
      | some m,some o',some es=>some (.me m o' es)
      | _,_,_=>none
     else none
   | _,_=>none
  | .ListComp elt gens scope _=>match gens with
   | [⟨tg,iter,ifs,asy⟩]=>if asy=0&&kU c scope then
     match trI (trE n c) c tg iter,g9 (inComp c scope) tg,trE n (inComp c scope) elt,(match ifs with|[]=>some .nl|[t]=>trO (trE n (inComp c scope)) (some t)|_=>none) with
     | some it,some t,some el,some tt=>if t.nW c.N.length then some (.comp (own scope).length el t it tt) else none
     | _,_,_,_=>none
    else none
   | _=>none
  | _=>none
noncomputable def gB:PySem.Expr->Bool
 | .ListComp _ _ _ _=>false
 | .SetComp _ _ _ _=>false
 | .DictComp _ _ _ _ _=>false
 | _=>true
noncomputable def qo:PySem.Expr->PySem.Expr->Bool
 | .Name _ _,_=>true
 | .Tuple _ _ _,v=>!isTup v&&gB v
 | _,_=>false
noncomputable def cJ (f:Stmt->Option S):List Stmt->Option S
 | []=>some .skip
 | [s]=>f s
 | s::r=>match f s,cJ f r with
  | some a,some b=>some (.seq a b)
  | _,_=>none
noncomputable def nH (c:TC):PySem.Expr->Option S
 | .Call f args kws _=>match f,kws with
  | .Name x _,[]=>if z9 args&&(dH x&&glB c x) then match c.gt.lookup x with
    | some .cls=>some (.rais x)
    | _=>none
   else none
  | _,_=>none
 | _=>none
noncomputable def zj:PySem.Expr->Bool
 | .Slice _ _ _ _=>false
 | .Tuple _ _ _=>false
 | _=>true
noncomputable def nj (f:PySem.Expr->Option E) (e:PySem.Expr):PySem.Expr->Option S
 | .Subscript o (.Tuple es _ _) _=>none
 | .Subscript o i _=>if gB e&&zj i then match f o,f i,f e with
   | some a,some b,some d=>if fX o then some (.dsv a b d) else none
   | _,_,_=>none
  else none
 | _=>none
noncomputable def trS (m:Nat):Nat->TC->Stmt->Option S
 | 0,_,_=>none
 | n+1,c,s=>match s with
  | .Return none _=>some .retN
  | .Return (some e) _=>(trE m c e).map .ret
  | .Expr e _=>if jY e then some .skip else if gB e then (trE m c e).map .ex else none
  | .Pass _=>some .skip
  | .Assign ts e _=>match ts with
   | [tg]=>if qo tg e then match g9 c tg,trE m c e with
     | some t,some e'=>some (.set t e')
     | _,_=>none
    else nj (trE m c) e tg
   | _=>none
  | .If t a b _=>match trE m c t,cJ (trS m n c) a,cJ (trS m n c) b with
   | some t',some a',some b'=>some (.ite t' a' b')
   | _,_,_=>none
  | .For tg it body els _=>match els,g9 c tg,trI (trE m c) c tg it,cJ (trS m n c) body with
   | [],some t,some i,some b=>some (.forS t i b)
   | _,_,_,_=>none
  | .While t body els _=>match els,trE m c t,cJ (trS m n c) body with
   | [],some t',some b=>some (.whl t' b)
   | _,_,_=>none
  | .Raise (some e) none _=>nH c e
  | _=>none
noncomputable def depth:Nat:=60
noncomputable def argNames (a:Arguments):List Str:=a.args.map (·.arg)
noncomputable def j4 (a:Arguments):Bool:=a.posonlyargs.isEmpty&&a.vararg.isNone&&a.kwonlyargs.isEmpty&&a.kw_defaults.isEmpty&&a.kwarg.isNone&&a.defaults.isEmpty
noncomputable def namesOf (a:Arguments) (sc:Scope):List Str:=argNames a++(sc.names.filter fun y=>(decide (y.2=.local)||decide (y.2=.cell))&&!((argNames a).any fun x=>decide (x=y.1))).map (·.1)
noncomputable def fu (gt:List (Str × GE)) (a:Arguments) (sc:Scope):TC:=⟨sc,namesOf a sc,fun _=>true,true,gt⟩
noncomputable def c7 (a:Arguments) (sc:Scope):Bool :=
 j4 a&&decide (sc.kind=.function)&&!sc.isCoroutine&&!sc.isGenerator&&gh (namesOf a sc)&&(argNames a).all (fun x=>match sc.names.lookup x with|some .local=>true|some .cell=>true|_=>false)&&sc.names.all fun y=>!decide (y.2=.free)
noncomputable def trF (gt:List (Str × GE)):Stmt->Option Fn
 | .FunctionDef _ a body _ _ _ sc _ _ _=>if c7 a sc then (cJ (trS depth depth (fu gt a sc)) body).map fun b=>⟨(argNames a).length,(namesOf a sc).length,b⟩ else none
 | _=>none
end EV

namespace EV
open PySem PySem.Spec PyProof.Rows L2
theorem iF:∀ {l:List Str} {x:Str} {i:Nat},idx l x=some i->l[i]?=some x
 | [],_,_,h=>by cases h
 | y::r,x,i,h=>by
  unfold idx at h
  by_cases e:y=x
  ·rw [Ze e] at h; cases h; subst e; rfl
  ·rw [Zf e] at h
   cases q:idx r x with
   | none=>rw [q] at h; cases h
   | some j=>rw [q] at h; cases h; show r[j]?=some x; exact iF q
theorem jD:∀ {l:List Str},gh l=true->l.Nodup
 | [],_=>QU
 | x::r,h=>by
  rw [gh,Zq] at h
  refine Xf.mpr ⟨fun m=>?_,jD h.2⟩
  have:(r.any fun y=>decide (y=x))=true:=Q7.mpr ⟨x,m,Zj rfl⟩
  rw [this] at h; exact absurd h.1 (by simp)
theorem E1 {sc:Scope} {x:Str} (h:e9 sc x=true):Vis sc x:=by
 unfold e9 at h
 unfold Vis
 cases q:sc.names.lookup x with
 | none=>rw [q] at h; cases h
 | some k=>rw [q] at h; cases k <;> first|exact .inl rfl|exact .inr (.inl rfl)|exact .inr (.inr rfl)|cases h
theorem wI {sc:Scope} {x:Str} (h:Vis sc x):e9 sc x=true:=by
 unfold e9
 rcases h with h|h|h <;> rw [h]
theorem lI {x:Str} (h:dH x=true):(x==("__debug__" : Str))=false/\(x==("__classdict__" : Str))=false:=by
 unfold dH at h
 rw [Zq] at h
 exact ⟨by simpa using h.1,by simpa using h.2⟩
structure Cok (c:TC) (X:Cx):Prop where
 sc:X.env.scope=c.sc
 N:X.N=c.N
 nd:X.N.Nodup
 kind:c.sc.kind=.function
 fn:∀ x,c.inF x=true->X.fn x=true
 stk:c.top=true->X.stack=X.env::X.outer/\X.env.frame=some X.env.locals
theorem Cok.gl {c:TC} {X:Cx} (C:Cok c X) {x:Str} (h:glB c x=true):Gl X x:=by
 show X.env.scope.names.lookup x=_
 rw [C.sc]; exact Zo h
theorem Cok.loc {c:TC} {X:Cx} (C:Cok c X) {x:Str} (h:dU c x=true):L2.Loc X.env.scope x/\(X.fn x=true\/X.env.scope.names.lookup x=some .local):=by
 unfold dU at h
 unfold L2.Loc
 rw [C.sc]
 cases q:c.sc.names.lookup x with
 | none=>rw [q] at h; cases h
 | some k =>
  rw [q] at h
  cases k with
  | «local»=>exact ⟨.inl rfl,.inr rfl⟩
  | cell=>exact ⟨.inr rfl,.inl (C.fn x h)⟩
  | _=>cases h
theorem FQ {scope:Scope} {env:Env}:relabel scope env=iE scope env.scope:=rfl
noncomputable def dG:List Str:=["len","all","any","sum","min","max","sorted","abs","list","tuple","int","bool","str","dict","range","enumerate","isinstance","set","zip","ValueError"]
section
variable (Γ:Gx) (W:XW->Prop) (CX:CXT) (EW:XW->XK)
noncomputable def spF (g:List D->M D) (n:Nat):Sp:=fun vs H Q E=>vs.length=n/\∃ xw,W xw/\E=EW xw/\∃ ι S ds,ao Γ ι H S/\av Γ ι H ds vs/\Out Γ xw ι H (g ds S) fun d _ ι' H'=>∀ v,Rep Γ ι' H' d v->Q v H'
noncomputable def EWx (K:PySem.W.Frag):XW->XK:=fun xw cls _ H'=>∃ c C,cls=.ref C/\PySem.W.nsIn K mainGlobals c=some (some (.ref C))/\∃ S ι,xw c S ι H'
theorem ewF {K:PySem.W.Frag} {cls:Value} {o:Option Addr} {H:Hp} (h:EWx K XF cls o H):False:=by
 obtain ⟨_,_,_,_,_,_,z⟩:=h
 exact z
noncomputable def ClsAt (K:PySem.W.Frag) (x:Str):Prop:=∃ C newId initId B bmB,PySem.W.nsIn K mainGlobals x=some (some (.ref C))/\PySem.W.excIn K C bmB newId=true/\ExcBaseFacts B newId initId bmB/\PySem.W.kitOne K (.ref C) (.type "ValueError")=some true /\
 (∃ L,PySem.W.nsIn K mainGlobals "LapError" = some (some (.ref L))/\PySem.W.kitOne K (.ref C) (.ref L)=some true) /\
 (x = "NoLoop"->∀ P,PySem.W.nsIn K mainGlobals "NoPlan" = some (some (.ref P))->Ck K C/\PySem.W.kitOne K (.ref C) (.ref P)=some false)
structure Fam (gt:List (Str × GE)) (cf:Str->List D->M D) (X:Cx) (xw:XW):Prop where
 hK:Γ.K=X.K
 calm:X.calm=true
 un:X.A.units+64 < cLine
 blt:∀ x∈dG,gt.lookup x=none->X.mg x=none
 val:∀ x d,gt.lookup x=some (.val d)->∃ u v,X.mg x=some u/\RelV v u/\∀ ι H,Rep Γ ι H d v
 fn:∀ x,gt.lookup x=some .fn->∃ k f fd ps,dO X.prog X.w X.K X.mg X.base CX k f fd ps (spF Γ W EW (cf x) ps.length)/\bP k X.A/\X.mg x=some (.ref f)/\PySem.W.keepIn X.K (.ref f)=true/\Binds X.K fd ps []/\∀ ds S,ds.length≠ps.length->cf x ds S=.bad
 pass:Passes CX X (EW xw)
 rp:Passes (CXr X.prog X.w) X (EW xw)
 cls:∀ x,gt.lookup x=some .cls->ClsAt X.K x/\∀ C,PySem.W.nsIn X.K mainGlobals x=some (some (.ref C))->X.mg x=some (.ref C)
 cx:CX=CXe X.prog X.w
 ew:EW=EWx X.K
 wt:∀ xw,W xw
end
section
variable {Γ:Gx} {W:XW->Prop} {CX:CXT} {EW:XW->XK} {gt:List (Str × GE)} {cf:Str->List D->M D} {X:Cx} {xw:XW}
theorem Fam.noR (F:Fam Γ W CX EW gt cf X xw) {st:Heap->Heap->Addr->Addr->Prop} {outer:List Env} {H:Hp} {s:Shared} {e:Value} {s':Shared} (h:CXg st X.prog X.w outer H s (EW XF) e s'):False:=by
 obtain ⟨_,_,_,_,_,_,_,_,_,_,_,_,z⟩:=h
 rw [F.ew] at z
 exact ewF z
theorem Fam.noF (F:Fam Γ W CX EW gt cf X xw) {outer:List Env} {H:Hp} {s:Shared} {e:Value} {s':Shared} (h:CX outer H s (EW XF) e s'):False:=by
 rw [F.cx] at h
 exact F.noR h
theorem Fam.ok (F:Fam Γ W CX EW gt cf X xw):W xw:=F.wt xw
theorem Fam.nox (F:Fam Γ W CX EW gt cf X xw):Fam Γ W CX EW gt cf X.nox XF :=
 ⟨F.hK,F.calm,F.un,F.blt,F.val,F.fn,fun _ _ _ _ _ _ _ h=>(F.noF h).elim,fun _ _ _ _ _ _ _ h=>(F.noR h).elim,F.cls,F.cx,F.ew,F.wt⟩
theorem Fam.comp (F:Fam Γ W CX EW gt cf X xw) (scope:Scope) (cl:List (Str × Addr)) (N':List Str) (fp:List Addr) (s3:Shared) (H3:Hp):Fam Γ W CX EW gt cf (aM X scope cl N' fp s3 H3) XF :=
 ⟨F.hK,F.calm,F.un,F.blt,F.val,F.fn,fun _ _ _ _ _ _ _ h=>(F.noF h).elim,fun _ _ _ _ _ _ _ h=>(F.noR h).elim,F.cls,F.cx,F.ew,F.wt⟩
theorem Cok.nox {c:TC} (C:Cok c X):Cok c X.nox:=⟨C.sc,C.N,C.nd,C.kind,C.fn,C.stk⟩
end
theorem Bb {scope:Scope} {x:Str} (h:isFree scope x=true):(x,NameKind.free)∈scope.names:=by
 obtain ⟨⟨n,k⟩,m,e⟩:=Q7.mp h
 rw [Zq] at e
 obtain ⟨e1,e2⟩:=e
 have e1:n=x:=Zo e1
 have e2:k=.free:=Zo e2
 subst e1; subst e2; exact m
theorem tY {c:TC} {X:Cx} {scope:Scope} (C:Cok c X) (h:kU c scope=true):eO X scope (inComp c scope).N (own scope).length /\
  ∀ cl fp s3 H3,Cok (inComp c scope) (aM X scope cl (inComp c scope).N fp s3 H3):=by
 unfold kU at h
 simp only [Zq] at h
 obtain ⟨⟨⟨⟨⟨h1,h2⟩,h3⟩,h4⟩,h5⟩,h6⟩:=h
 rw [Z8] at h1 h4 h6
 have hrel:relabel scope X.env=iE scope c.sc:=by rw [FQ,C.sc]
 refine ⟨⟨fun y hy hf=>?_,jD h2,Zo h3,fun y hy hl=>?_,?_,fun i x hi hx hv=>?_⟩,fun cl fp s3 H3=>⟨hrel,rfl,jD h5,?_,fun _ h=>h,fun z=>by cases z⟩⟩
 ·have:=h1 y hy
  rw [Bool.or_eq_true] at this
  rcases this with z|z
  ·rw [hf] at z; simp at z
  ·show X.env.scope.names.lookup y.1=_\/X.env.scope.names.lookup y.1=_
   rw [C.sc]
   cases q:c.sc.names.lookup y.1 with
   | none=>rw [q] at z; cases z
   | some k=>rw [q] at z; cases k <;> first|exact .inl rfl|exact .inr rfl|cases z
 ·have:=h4 y hy
  rw [Bool.or_eq_true] at this
  rcases this with z|z
  ·rw [hl] at z; simp at z
  ·exact Zo z
 ·show (c.N.map (fS scope)++own scope).length=_
  rw [Zv,Zd,C.N]
 ·have hx:(c.N.map (fS scope)++own scope)[i]?=some x:=hx
  have hi':i < c.N.length:=by rw [<- C.N]; exact hi
  rw [ZE (by rw [Zd]; exact hi'),ZM,Zb hi'] at hx
  have hx:fS scope c.N[i]=x:=ZW hx
  have hm:=h6 c.N[i] (Xp hi')
  rw [hrel] at hv ⊢
  unfold fS at hx
  by_cases hf:isFree scope c.N[i]=true
  ·rw [Ze hf] at hx hm
   subst hx
   refine ⟨by rw [C.N]; exact Zb hi',Bb hf,fun z=>?_⟩
   rw [z] at hm; simp at hm
  ·rw [Zf hf] at hx hm
   subst hx
   rw [wI hv] at hm; simp at hm
 ·exact Zo h3
end EV

namespace EV
open PySem PySem.Spec PyProof.Rows L2
theorem bJ {n:Nat} {c:TC} {a:PySem.Expr} {a':E} (h:trE n c a=some a'):∀ es env,starEach (a::es) env=(false,eval a env)::starEach es env:=by
 cases n with
 | zero=>cases h
 | succ n=>cases a <;> first|(intro _ _; rfl)|cases h
theorem b9 {f:PySem.Expr->Option E} {e:PySem.Expr} {r:List PySem.Expr} {es:E} (h:bS f (e::r)=some es):∃ a b,f e=some a/\bS f r=some b/\es=.cs a b:=by
 unfold bS at h
 cases q:f e with
 | none=>rw [q] at h; cases h
 | some a =>
  rw [q] at h
  cases q2:bS f r with
  | none=>rw [q2] at h; cases h
  | some b=>rw [q2] at h; cases h; exact ⟨a,b,rfl,rfl,rfl⟩
theorem gM {n:Nat} {c:TC}:∀ {es:List PySem.Expr} {es':E},bS (trE n c) es=some es'->∀ env pos,(backTo pos (starEach es env)).any (·.1)=false/\(backTo pos (starEach es env)).all (fun x=>!x.1)=true
 | [],_,_,_,_=>⟨rfl,rfl⟩
 | e::r,_,h,env,pos=>by
  obtain ⟨a,b,h1,h2,_⟩:=b9 h
  rw [bJ h1]
  obtain ⟨z1,z2⟩:=gM h2 env pos
  constructor
  ·show (List.map _ ((false,eval e env)::starEach r env)).any _=false
   rw [ZF,XS]
   have:(List.map (fun x:Bool × Sem Value=>(x.1,if x.1=true then do let v <- x.2; standAt pos; pure v else x.2)) (starEach r env)).any (·.1)=false:=z1
   simpa using this
  ·show (List.map _ ((false,eval e env)::starEach r env)).all _=true
   rw [ZF,Wp]
   have:(List.map (fun x:Bool × Sem Value=>(x.1,if x.1=true then do let v <- x.2; standAt pos; pure v else x.2)) (starEach r env)).all (fun x=>!x.1)=true:=z2
   simpa using this
section
variable {Γ:Gx} {W:XW->Prop} {CX:CXT} {EW:XW->XK} {gt:List (Str × GE)} {cf:Str->List D->M D} {sub:Sub} {X:Cx} {xw:XW}
theorem Av (hw:W xw) {ps:List Str} {m:Sg->M (List D)} {i:Str} (hb:∀ ds S,ds.length≠ps.length->cf i ds S=.bad) {σ:L2.St} {H:Hp} {Q:VK} (h:tM Γ xw (fun σ=>m σ>>=cf i) σ H Q) :
  mW (spF Γ W EW (cf i) ps.length) [] (EW xw) (tMA Γ xw m) σ H Q:=by
 obtain ⟨σd,ι,S,he,hs,ho⟩:=h
 refine ⟨σd,ι,S,he,hs,ho.bind.mono fun ds S' ι' H' _ _ ⟨s',e',o'⟩ vs rs=>?_⟩
 show spF Γ W EW (cf i) ps.length (vs++[]) H' Q (EW xw)
 rw [Xz]
 refine ⟨?_,xw,hw,rfl,ι',S',ds,s',rs,o'⟩
 by_cases hl:ds.length=ps.length
 ·rw [<- rs.length]; exact hl
 ·rw [hb ds S' hl] at o'; exact o'.elim
theorem xN (F:Fam Γ W CX EW gt cf X xw) {x:Str} (hx:gt.lookup x=some .fn) (hg:Gl X x) (hdb:(x==("__debug__" : Str))=false) {a:PySem.Expr} {es:List PySem.Expr} {m:Sg->M (List D)} {p pos:Pos}
  (ha:PA X (a::es) (tMA Γ xw m)) (he:starEach (a::es) X.env=(false,eval a X.env)::starEach es X.env) (hpl:(backTo pos (starEach es X.env)).any (·.1)=false) :
  PE X (.Call (.Name x p) (a::es) [] pos) (tM Γ xw fun σ=>m σ>>=cf x):=by
 obtain ⟨k,f,fd,ps,hf,hr,hm,hk,hb,hl⟩:=F.fn x hx
 exact PE.imp (HA hf hr hg hm hk hb .nil F.pass ha hdb he hpl) fun σ H Q h=>Av F.ok hl h
theorem H_ (F:Fam Γ W CX EW gt cf X xw) {x:Str} (hx:gt.lookup x=some .fn) (hg:Gl X x) (hdb:(x==("__debug__" : Str))=false) {p pos:Pos} :
  PE X (.Call (.Name x p) [] [] pos) (tM Γ xw fun _=>cf x []):=by
 obtain ⟨k,f,fd,ps,hf,hr,hm,hk,hb,hl⟩:=F.fn x hx
 refine PE.imp (v_ hf hr hg hm hk hb .nil F.pass hdb) fun σ H Q h=>?_
 obtain ⟨σd,ι,S,he,hs,ho⟩:=h
 have ho:Out Γ xw ι H (cf x [] S) fun d x ι' H'=>∀ (v:V),Rep Γ ι' H' d v->Q v H':=ho
 refine ⟨?_,xw,F.ok,rfl,ι,S,[],hs,.nil,ho⟩
 by_cases hz:([]:List D).length=ps.length
 ·exact hz
 ·rw [hl [] S hz] at ho; exact ho.elim
theorem oj (F:Fam Γ W CX EW gt cf X xw) {x:Str} (h:gt.lookup x=none) (hm:x∈dG):X.mg x=none:=F.blt x hm h
theorem yT (F:Fam Γ W CX EW gt cf X xw) {x:Str} {b:Bi} (hb:mZ x=some b) (hn:gt.lookup x=none) (hg:Gl X x) {a:PySem.Expr} {es:List PySem.Expr} {m:Sg->M (List D)} {p pos:Pos}
  (ha:PA X (a::es) (tMA Γ xw m)) (he:starEach (a::es) X.env=(false,eval a X.env)::starEach es X.env) (hpl:(backTo pos (starEach es X.env)).any (·.1)=false) :
  PE X (.Call (.Name x p) (a::es) [] pos) (tM Γ xw fun σ=>m σ>>=biD sub b):=by
 have hm:x∈dG->X.mg x=none:=oj F hn
 unfold mZ at hb
 by_cases e:x = "len"
 ·subst e; rw [Ze rfl] at hb; cases hb
  exact iS (EF F.hK) hg (hm (by decide +kernel)) PySem.boot_len ha (by decide +kernel) (by decide +kernel) he hpl
 rw [Zf e] at hb; clear e
 by_cases e:x = "all"
 ·subst e; rw [Ze rfl] at hb; cases hb
  exact iS (F3 F.hK F.calm) hg (hm (by decide +kernel)) boot_all ha (by decide +kernel) (by decide +kernel) he hpl
 rw [Zf e] at hb; clear e
 by_cases e:x = "sum"
 ·subst e; rw [Ze rfl] at hb; cases hb
  exact iS (Cr F.hK F.calm) hg (hm (by decide +kernel)) boot_sum ha (by decide +kernel) (by decide +kernel) he hpl
 rw [Zf e] at hb; clear e
 by_cases e:x = "min"
 ·subst e; rw [Ze rfl] at hb; cases hb
  exact iS (AF F.hK F.calm) hg (hm (by decide +kernel)) boot_min ha (by decide +kernel) (by decide +kernel) he hpl
 rw [Zf e] at hb; clear e
 by_cases e:x = "max"
 ·subst e; rw [Ze rfl] at hb; cases hb
  exact iS (yZ F.hK F.calm) hg (hm (by decide +kernel)) boot_max ha (by decide +kernel) (by decide +kernel) he hpl
 rw [Zf e] at hb; clear e
 by_cases e:x = "tuple"
 ·subst e; rw [Ze rfl] at hb; cases hb
  exact yt (Fv F.hK) hg (hm (by decide +kernel)) PyProof.Rows.boot_tuple ha (by decide +kernel) (by decide +kernel) he hpl
 rw [Zf e] at hb; clear e
 cases hb
theorem xJ (F:Fam Γ W CX EW gt cf X xw) {y:Str} {t:Ty} (hb:mV y=some t) (hn:gt.lookup y=none):∃ T,t.name=some T/\bootBuiltins y=some (.type T)/\X.mg y=none/\y≠"__name__"/\(y==("__debug__" : Str))=false:=by
 have hm:y∈dG->X.mg y=none:=oj F hn
 unfold mV at hb
 by_cases e:y = "int"
 ·subst e; rw [Ze rfl] at hb; cases hb
  exact ⟨_,rfl,PyProof.Rows.boot_int,hm (by decide +kernel),by decide +kernel,by decide +kernel⟩
 rw [Zf e] at hb; clear e
 by_cases e:y = "bool"
 ·subst e; rw [Ze rfl] at hb; cases hb
  exact ⟨_,rfl,PyProof.Rows.boot_bool,hm (by decide +kernel),by decide +kernel,by decide +kernel⟩
 rw [Zf e] at hb; clear e
 by_cases e:y = "str"
 ·subst e; rw [Ze rfl] at hb; cases hb
  exact ⟨_,rfl,PyProof.Rows.boot_str,hm (by decide +kernel),by decide +kernel,by decide +kernel⟩
 rw [Zf e] at hb; clear e
 by_cases e:y = "list"
 ·subst e; rw [Ze rfl] at hb; cases hb
  exact ⟨_,rfl,PyProof.Rows.boot_list,hm (by decide +kernel),by decide +kernel,by decide +kernel⟩
 rw [Zf e] at hb; clear e
 by_cases e:y = "tuple"
 ·subst e; rw [Ze rfl] at hb; cases hb
  exact ⟨_,rfl,PyProof.Rows.boot_tuple,hm (by decide +kernel),by decide +kernel,by decide +kernel⟩
 rw [Zf e] at hb; clear e
 by_cases e:y = "dict"
 ·subst e; rw [Ze rfl] at hb; cases hb
  exact ⟨_,rfl,PyProof.Rows.boot_dict,hm (by decide +kernel),by decide +kernel,by decide +kernel⟩
 rw [Zf e] at hb; cases hb
theorem zg (F:Fam Γ W CX EW gt cf X xw) {name:Str} {me:Me} (hb:mQ name=some me) {o a:PySem.Expr} {es:List PySem.Expr} {apos cpos:Pos} {mo:Sg->M D} {m:Sg->M (List D)}
  (ho:PE X o (tM Γ xw mo)) (ha:PA X (a::es) (tMA Γ xw m)) (hc0:pL o=true) (hlen:(a::es).length < 20) (hall:(backTo cpos (starEach (a::es) X.env)).all (fun x=>!x.1)=true)
  (hline:(apos.endLine==cpos.line)=true) (hs:starEach (a::es) X.env=(false,eval a X.env)::starEach es X.env) (hplain:(backTo cpos (starEach es X.env)).any (·.1)=false) :
  PE X (.Call (.Attribute o name apos) (a::es) [] cpos) (tM Γ xw fun σ=>mo σ>>=fun x=>ja x (m σ>>=fun ds=>meD me x ds)):=by
 have hbase:attributeBase o name X.env (eval o X.env)=eval o X.env:=by
  unfold attributeBase
  cases o with
  | Call f as ks p =>
   cases as with
   | cons _ _=>cases f <;> rfl
   | nil =>
    cases ks with
    | nil=>cases hc0
    | cons _ _=>cases f <;> rfl
  | _=>rfl
 have hfew:((backTo cpos (starEach (a::es) X.env)).all (fun x=>!x.1)&&(backToKw cpos (keywordEach [] X.env)).all (fun x=>x.1.isSome)&&decide ((a::es).length+([]:List Keyword).length+(if ([]:List Keyword).isEmpty then 0 else 1) < 30))=true:=by
  rw [hall]
  show (true&&true&&decide ((a::es).length+0+0 < 30))=true
  rw [Zj (show (a::es).length+0+0 < 30 by omega)]
  rfl
 unfold mQ at hb
 by_cases e:name = "append"
 ·subst e; rw [Ze rfl] at hb; cases hb
  exact pR F.hK PySem.F.plainAttrs_list PySem.F.slot_list_append PySem.F.type_list_append EE ho ha hbase hfew hline hs hplain
 rw [Zf e] at hb; clear e
 by_cases e:name = "extend"
 ·subst e; rw [Ze rfl] at hb; cases hb
  exact pR F.hK PySem.F.plainAttrs_list PySem.F.slot_list_extend PySem.F.type_list_extend Ep ho ha hbase hfew hline hs hplain
 rw [Zf e] at hb; cases hb
end
end EV

namespace EV
open PySem PySem.Spec PyProof.Rows L2
section
variable (Γ:Gx) (sub:Sub) (cf:Str->List D->M D)
structure ClE (X:Cx) (xw:XW) (e:PySem.Expr) (e':E):Prop where
 pe:PE X e (tM Γ xw (ev sub cf e'))
 pt:PT X e (tMT Γ xw (evT sub cf e'))
 pw:(∃ op vs p,e=.BoolOp op vs p)->PW X e (tMT Γ xw (evT sub cf e'))
end
section
variable {Γ:Gx} {W:XW->Prop} {CX:CXT} {EW:XW->XK} {gt:List (Str × GE)} {cf:Str->List D->M D} {sub:Sub} {X:Cx} {xw:XW}
theorem oJ {e:PySem.Expr}:PT X e (tMT Γ xw fun _=>bad):=fun _ _ _ _ _ _ h=>by
 obtain ⟨_,_,_,_,_,ho⟩:=h
 exact ho.elim
theorem noBool {e:PySem.Expr} (h:∀ op vs p,e≠.BoolOp op vs p) {P:Prop}:(∃ op vs p,e=.BoolOp op vs p)->P:=fun ⟨op,vs,p,q⟩=>(h op vs p q).elim
theorem bz {e:PySem.Expr} {e':E} (hK:Γ.K=X.K) (h:PE X e (tM Γ xw (ev sub cf e'))) (he:∀ whole,isTrue e X.env whole=(do let v <- whole; standAt e.pos; holding [v] (truthy v)))
  (hb:(evT sub cf e'=fun σ=>ev sub cf e' σ>>=truth)\/evT sub cf e'=fun _=>bad) (hn:∀ op vs p,e≠.BoolOp op vs p):ClE Γ sub cf X xw e e':=by
 refine ⟨h,?_,noBool hn⟩
 rcases hb with q|q
 ·rw [q]; exact yb hK h he
 ·rw [q]; exact oJ
theorem Ag {c:TC} {x:Str} {p:Pos} {e':E} (F:Fam Γ W CX EW c.gt cf X xw) (C:Cok c X) (h:kh c x=some e'):ClE Γ sub cf X xw (.Name x p) e':=by
 unfold kh at h
 by_cases h1:dH x=true
 ·rw [Ze h1] at h
  obtain ⟨d1,d2⟩:=lI h1
  by_cases h2:e9 c.sc x=true
  ·rw [Ze h2] at h
   cases q:idx c.N x with
   | none=>rw [q] at h; cases h
   | some i =>
    rw [q] at h; cases h
    exact bz F.hK (GG (by rw [C.N]; exact iF q) (by rw [C.sc]; exact E1 h2) d1 d2) (fun _=>rfl) (.inl rfl) (fun _ _ _ z=>nomatch z)
  ·rw [Zf h2] at h
   by_cases h3:glB c x=true
   ·rw [Ze h3] at h
    cases q:c.gt.lookup x with
    | none=>rw [q] at h; cases h
    | some g =>
     rw [q] at h
     cases g with
     | val d =>
      cases h
      obtain ⟨u,v,hm,r,hv⟩:=F.val x d q
      exact bz F.hK (iG (HQ (C.gl h3) hm r d1) hv) (fun _=>rfl) (.inl rfl) (fun _ _ _ z=>nomatch z)
     | _=>cases h
   ·rw [Zf h3] at h; cases h
 ·rw [Zf h1] at h; cases h
theorem E0 {k:Const} {j:Nat} {p:Pos} {e':E} (hK:Γ.K=X.K) (h:rq k=some e'):ClE Γ sub cf X xw (.Constant k j p) e':=by
 cases k <;> first|(cases h; done)|skip
 ·cases h; exact bz hK (iG zB fun _ _=>.non) (fun _=>rfl) (.inl rfl) (fun _ _ _ z=>nomatch z)
 ·cases h; exact bz hK (iG CJ fun _ _=>.bl _) (fun _=>rfl) (.inl rfl) (fun _ _ _ z=>nomatch z)
 ·cases h; exact bz hK (iG CB fun _ _=>.int _) (fun _=>rfl) (.inl rfl) (fun _ _ _ z=>nomatch z)
 ·cases h; exact bz hK (iG qJ fun _ _=>.str _) (fun _=>rfl) (.inl rfl) (fun _ _ _ z=>nomatch z)
theorem Ew (hK:Γ.K=X.K) {op:Operator} {o:Op2} (h:op2 op=some o):OpR X (binaryOp op) (aU Γ xw (opD o)):=by
 cases op <;> cases h
 ·exact Ce hK
 ·exact Gi
 ·exact xT hK
 ·exact CZ
 ·exact zL
 ·exact BU
theorem iN (F:Fam Γ W CX EW gt cf X xw) {op:CmpOp} {o:Cm} (h:cmO op=some o):OpR X (compareOp op) (aU Γ xw (cmD o)):=by
 cases op <;> cases h
 ·exact s_eq F.hK F.un
 ·exact zC F.hK F.un
 ·exact zF
 ·exact Dg
 ·exact FD
 ·exact G2
 ·exact B8 F.hK F.un
 ·exact wY F.hK F.un
theorem vp (F:Fam Γ W CX EW gt cf X xw) {op:CmpOp} {b:PySem.Expr} {o:Cm} (h:k_ op b=some o):OpR X (compareOp op) (aU Γ xw (cmD o)):=by
 unfold k_ at h
 split at h
 ·have hu:=F.un
  cases op <;> cases h
  ·exact Aa (by omega)
  ·exact Gz (by omega)
 ·exact iN F h
theorem m_ {o:Cm}:∀ (x y:D) (S:af) (d:D) (S':af),cmD o x y S=.ok d S'->∃ k,d=.bl k:=by
 intro x y S d S' h
 have intc:∀ p:Int->Int->Bool,gb p x y S=.ok d S'->∃ k,d=.bl k:=fun p h=>by
  cases x <;> first|(cases h; done)|skip
  cases y <;> first|(cases h; done)|skip
  cases h; exact ⟨_,rfl⟩
 have inc:∀ neg,inM neg x y S=.ok d S'->∃ k,d=.bl k:=fun neg h=>by
  unfold inM at h
  rcases iC y S with ⟨ds,e⟩|e
  ·rw [aj e] at h
   unfold inA at h
   cases q:inL S x ds with
   | none=>rw [q] at h; cases h
   | some k=>rw [q] at h; cases h; exact ⟨_,rfl⟩
  ·rw [aT e] at h; cases h
 cases o with
 | lt=>exact intc _ h
 | le=>exact intc _ h
 | gt=>exact intc _ h
 | ge=>exact intc _ h
 | eq =>
  have h:(eqM x y>>=fun b=>pure (.bl b)) S=.ok d S':=h
  rw [cT] at h
  unfold eqM at h
  cases q:eqD deep S x y with
  | none=>rw [q] at h; cases h
  | some k=>rw [q] at h; cases h; exact ⟨_,rfl⟩
 | ne =>
  have h:guard (iw x y) (eqM x y>>=fun b=>pure (.bl (!b))) S=.ok d S':=h
  cases q:iw x y with
  | false=>rw [q] at h; cases h
  | true =>
   rw [q] at h
   have h:(eqM x y>>=fun b=>pure (.bl (!b))) S=.ok d S':=h
   rw [cT] at h
   unfold eqM at h
   cases q:eqD deep S x y with
   | none=>rw [q] at h; cases h
   | some k=>rw [q] at h; cases h; exact ⟨_,rfl⟩
 | isin=>exact inc _ h
 | dP=>exact inc _ h
 | din=>exact rH h
 | dnin=>exact rH h
theorem fm {c:TC} {n:Nat} (F:Fam Γ W CX EW c.gt cf X xw) (C:Cok c X) (ih:∀ e e',trE n c e=some e'->ClE Γ sub cf X xw e e'):∀ {es:List PySem.Expr} {es':E},bS (trE n c) es=some es'->PA X es (tMA Γ xw (evs sub cf es'))
 | [],_,h=>by cases h; exact CV
 | e::r,_,h=>by
  obtain ⟨a,b,h1,h2,rfl⟩:=b9 h
  exact E_ (ih e a h1).pe (fm F C ih h2) (bJ h1 r X.env)
theorem qz {c:TC} {n:Nat} (ih:∀ e e',trE n c e=some e'->ClE Γ sub cf X xw e e') {o:Option PySem.Expr} {e':E} (h:trO (trE n c) o=some e'):PO X o (tMO Γ xw fun σ=>if e'.aY=true then pure none else ev sub cf e' σ>>=fK):=by
 cases o with
 | none=>cases h; exact FH
 | some e =>
  have h:(match trE n c e with|some .nl=>none|o=>o)=some e':=h
  cases q:trE n c e with
  | none=>rw [q] at h; cases h
  | some f =>
   rw [q] at h
   have hf:f=e'/\f.aY=false:=by
    cases f <;> first|(cases h; done)|(cases h; exact ⟨rfl,rfl⟩)
   obtain ⟨rfl,hn⟩:=hf
   rw [hn]
   simp only [Zu,ZK]
   exact GS (ih e f q).pe
theorem j7 {c:TC} (hK:Γ.K=X.K) (hc:X.calm=true) (C:Cok c X) {tg:PySem.Expr} {t:Tg} (h:g9 c tg=some t):PG X tg (tMG Γ t):=by
 have names:∀ (es:List PySem.Expr) (is:List Nat),e_ c es=some is->jB X es is:=by
  intro es
  induction es with
  | nil=>intro is h; cases h; exact .nil
  | cons e r ih =>
   intro is h
   cases e with
   | Name x p =>
    unfold e_ at h
    by_cases hl:dU c x=true
    ·rw [Ze hl] at h
     cases q:idx c.N x with
     | none=>rw [q] at h; cases h
     | some i =>
      rw [q] at h
      cases q2:e_ c r with
      | none=>rw [q2] at h; cases h
      | some js =>
       rw [q2] at h; cases h
       exact .cons ⟨x,p,rfl,by rw [C.N]; exact iF q,(C.loc hl).1,(C.loc hl).2⟩ (ih js q2)
    ·rw [Zf hl] at h; cases h
   | _=>cases h
 cases tg with
 | Name x p =>
  have h:(if dU c x=true then (idx c.N x).map Tg.one else none)=some t:=h
  by_cases hl:dU c x=true
  ·rw [Ze hl] at h
   cases q:idx c.N x with
   | none=>rw [q] at h; cases h
   | some i =>
    rw [q] at h; cases h
    exact CP C.nd (by rw [C.N]; exact iF q) (C.loc hl).1 (C.loc hl).2
  ·rw [Zf hl] at h; cases h
 | Tuple es k p =>
  have h:(e_ c es).map Tg.many=some t:=h
  cases q:e_ c es with
  | none=>rw [q] at h; cases h
  | some is =>
   rw [q] at h; cases h
   exact v7 hK hc C.nd (names es is q)
 | _=>cases h
theorem Eo {e:PySem.Expr} (h:nJ e=true) (env:Env):∀ x,foldedSetIterable e env x=pure x:=by
 intro x
 cases e <;> first|rfl|cases h
theorem gH {c:TC} (C:Cok c X) {x:Str} (h:eG c x=true):Gl X x/\c.gt.lookup x=none:=by
 unfold eG at h
 rw [Zq] at h
 exact ⟨C.gl h.1,by simpa using h.2⟩
theorem vQ {f:PySem.Expr->Option E}:∀ {es:List PySem.Expr} {es':E},bS f es=some es'->∀ (σ:Sg) (S:af) (ds:List D) (S':af),evs sub cf es' σ S=.ok ds S'->ds.length=es.length
 | [],_,h,σ,S,ds,S',q=>by
  cases h
  have q:(Res.ok [] S:Res (List D))=.ok ds S':=q
  cases q; rfl
 | e::r,_,h,σ,S,ds,S',q=>by
  obtain ⟨a,b,h1,h2,rfl⟩:=b9 h
  have q:(ev sub cf a σ>>=fun x=>evs sub cf b σ>>=fun xs=>pure (x::xs)) S=.ok ds S':=q
  cases q1:ev sub cf a σ S with
  | ok d S1 =>
   rw [aj q1] at q
   cases q2:evs sub cf b σ S1 with
   | ok xs S2 =>
    rw [aj q2] at q
    cases q
    show xs.length+1=r.length+1
    rw [vQ h2 σ S1 xs _ q2]
   | exc k S2=>rw [cB q2] at q; cases q
   | bad=>rw [aT q2] at q; cases q
  | exc k S2=>rw [cB q1] at q; cases q
  | bad=>rw [aT q1] at q; cases q
theorem ng {c:TC} {n:Nat} (F:Fam Γ W CX EW c.gt cf X xw) (C:Cok c X) (ih:∀ e e',trE n c e=some e'->ClE Γ sub cf X xw e e') {tg e:PySem.Expr} {e':E} (h:trI (trE n c) c tg e=some e') :
  PI X tg e (tMI Γ xw (evI sub cf e'))/\∀ x,foldedSetIterable e X.env x=pure x:=by
 unfold trI at h
 by_cases hs:nJ e=true
 ·rw [Ze hs] at h
  refine ⟨?_,Eo hs X.env⟩
  have seq:(trE n c e).map E.iSeq=some e'->PI X tg e (tMI Γ xw (evI sub cf e')):=fun h=>by
   cases q:trE n c e with
   | none=>rw [q] at h; cases h
   | some a=>rw [q] at h; cases h; exact DO F.hK (ih e a q).pe
  split at h
  ·rename_i x p args pos
   by_cases hr:nu c x=true
   ·rw [Ze hr] at h
    unfold nu at hr
    rw [Zq] at hr
    have hx:x = "range":=Zo hr.2
    subst hx
    obtain ⟨hg,hn⟩:=gH C hr.1
    have hm:X.mg "range" = none:=F.blt _ (by decide +kernel) hn
    by_cases hf:few args=true
    ·rw [Ze hf] at h
     cases q:bS (trE n c) args with
     | none=>rw [q] at h; cases h
     | some es =>
      rw [q] at h; cases h
      have ha:=fm F C ih q
      have hl:=vQ (sub:=sub) (cf:=cf) q
      match args,q,ha,hl,hf with
      | [],_,_,_,hf=>exact absurd hf (by decide)
      | [a],q,ha,hl,_ =>
       obtain ⟨a',b',q1,q2,_⟩:=b9 q
       exact AI hg hm ha (bJ q1 [] X.env) hl
      | [a,b],q,ha,hl,_ =>
       obtain ⟨a',r',q1,q2,_⟩:=b9 q
       obtain ⟨b',r2,q3,q4,_⟩:=b9 q2
       exact wu hg hm ha (by rw [bJ q1,bJ q3]; rfl) (bJ q3 [] X.env) hl
      | [a,b,d],q,ha,hl,_ =>
       obtain ⟨a',r',q1,q2,_⟩:=b9 q
       obtain ⟨b',r2,q3,q4,_⟩:=b9 q2
       obtain ⟨d',r3,q5,q6,_⟩:=b9 q4
       exact wo hg hm ha (by rw [bJ q1,bJ q3,bJ q5]; rfl) (by rw [bJ q3,bJ q5]; rfl) hl
      | _::_::_::_::r,_,_,_,hf =>
       unfold few at hf
       rw [Zq] at hf
       have:=Zo hf.2
       simp at this
    ·rw [Zf hf] at h; cases h
   ·rw [Zf hr] at h
    by_cases he:m5 c x=true
    ·rw [Ze he] at h
     unfold m5 at he
     rw [Zq] at he
     have hx:x = "enumerate":=Zo he.2
     subst hx
     obtain ⟨hg,hn⟩:=gH C he.1
     have hm:X.mg "enumerate" = none:=F.blt _ (by decide +kernel) hn
     cases tg with
     | Tuple es k tp =>
      match args,h with
      | [a],h =>
       have h:(trE n c a).map E.iEnum=some e':=h
       cases q:trE n c a with
       | none=>rw [q] at h; cases h
       | some a'=>rw [q] at h; cases h; exact D9 F.hK hg hm boot_enumerate (ih a a' q).pe (bJ q [] X.env)
      | [],h=>cases h
      | _::_::_,h=>cases h
     | _=>cases h
    ·rw [Zf he] at h
     exact seq h
  ·split at h
   ·cases q:trE n c e with
    | none=>rw [q] at h; cases h
    | some a=>rw [q] at h; cases h; exact EB (ih e a q).pe
   ·exact seq h
 ·rw [Zf hs] at h; cases h
end
end EV

namespace EV
open PySem PySem.Spec PyProof.Rows L2
section
variable {Γ:Gx} {W:XW->Prop} {CX:CXT} {EW:XW->XK} {cf:Str->List D->M D} {sub:Sub}
theorem Hx {α:Type} {m m':M α} (h:∀ S,m S=m' S):m=m':=funext h
theorem jk (m:M D) (f:List D->M D):((m>>=fun x=>(pure []:M (List D))>>=fun xs=>pure (x::xs))>>=f)=(m>>=fun x=>f [x]):=by
 refine Hx fun S=>?_
 rw [cT,cT,cT]
 cases m S <;> rfl
theorem dB {α β:Type} {o:Option α} {f:α->β} {d:β} (h:o.map f=some d):∃ a,o=some a/\d=f a:=by
 cases o with
 | none=>cases h
 | some a=>cases h; exact ⟨a,rfl,rfl⟩
theorem nZ {t:Tg} {n:Nat} (h:t.nW n=true):∀ j,j < n->t.has j=false:=by
 intro j hj
 cases t with
 | one i =>
  have:n<=i:=Zo h
  show (i==j)=false
  simp; omega
 | many is =>
  show is.contains j=false
  have h:(is.all fun i=>decide (n<=i))=true:=h
  rw [Z8] at h
  cases q:is.contains j with
  | false=>rfl
  | true =>
   have hm:j∈is:=Q9.mp q
   have:=Zo (h j hm)
   omega
theorem BS {o:PySem.Expr} (h:fX o=true):∃ x p,o=.Name x p:=by
 cases o with
 | Name x p=>exact ⟨x,p,rfl⟩
 | _=>cases h
theorem zH {c:TC} {n:Nat} {X:Cx} {xw:XW} (F:Fam Γ W CX EW c.gt cf X xw) (C:Cok c X) (ih:∀ e e',trE n c e=some e'->ClE Γ sub cf X xw e e') {x:Str} {args ra:List PySem.Expr} {b:Bi} {es:E} {p pos:Pos} (hn:c.gt.lookup x=none) (hg:Gl X x)
  (h:l6 c x args=some (b,ra)) (h1:bS (trE n c) ra=some es):PE X (.Call (.Name x p) args [] pos) (tM Γ xw (ev sub cf (.bi b es))):=by
 unfold l6 at h
 split at h
 ·rename_i r p1 ra' p2
  split at h
  ·rename_i hx
   simp only [Zq] at hx
   obtain ⟨⟨hx1,hx2⟩,hx3⟩:=hx
   have hx:x = "sorted":=Zo hx1
   subst hx
   unfold j3 at hx2
   rw [Zq] at hx2
   have hr:r = "set":=Zo hx2.2
   subst hr
   obtain ⟨hgr,hnr⟩:=gH C hx2.1
   cases h
   match ra,h1,hx3 with
   | [a],h1,_ =>
    obtain ⟨a',b',q1,q2,q3⟩:=b9 h1
    cases q2
    cases q3
    have key:(fun σ=>ev sub cf (.bi .sortedSet (.cs a' .nl)) σ)=fun σ=>ev sub cf a' σ>>=fun d=>bi1 sub .sortedSet d:=by
     funext σ
     exact jk (ev sub cf a' σ) (biD sub .sortedSet)
    show PE X _ (tM Γ xw (fun σ=>ev sub cf (.bi .sortedSet (.cs a' .nl)) σ))
    rw [key]
    have hu:=F.un
    exact AX F.hK F.calm (by omega) hg (F.blt _ (by decide +kernel) hn) boot_sorted hgr (F.blt _ (by decide +kernel) hnr) boot_set (ih a a' q1).pe (by decide +kernel) (by decide +kernel) (by decide +kernel) (by decide +kernel) (bJ q1 [] X.env)
  ·split at h
   ·rename_i hx
    simp only [Zq] at hx
    obtain ⟨⟨hx1,hx2⟩,hx3⟩:=hx
    have hx:x = "len":=Zo hx1
    subst hx
    unfold j3 at hx2
    rw [Zq] at hx2
    have hr:r = "set":=Zo hx2.2
    subst hr
    obtain ⟨hgr,hnr⟩:=gH C hx2.1
    cases h
    match ra,h1,hx3 with
    | [a],h1,_ =>
     obtain ⟨a',b',q1,q2,q3⟩:=b9 h1
     cases q2
     cases q3
     have key:(fun σ=>ev sub cf (.bi .lenS (.cs a' .nl)) σ)=fun σ=>ev sub cf a' σ>>=fun d=>bi1 sub .lenS d:=by
      funext σ
      exact jk (ev sub cf a' σ) (biD sub .lenS)
     show PE X _ (tM Γ xw (fun σ=>ev sub cf (.bi .lenS (.cs a' .nl)) σ))
     rw [key]
     exact DV F.hK F.calm hg (F.blt _ (by decide +kernel) hn) PySem.boot_len hgr (F.blt _ (by decide +kernel) hnr) boot_set (ih a a' q1).pe (by decide +kernel) (by decide +kernel) (by decide +kernel) (by decide +kernel) (bJ q1 [] X.env)
   ·cases h
 ·rename_i o name apos cpos
  split at h
  ·rename_i hx
   simp only [Zq] at hx
   obtain ⟨⟨⟨hx1,hx2⟩,hx3⟩,hx4⟩:=hx
   have hx:x = "list":=Zo hx1
   subst hx
   have hy:name = "values":=Zo hx3
   subst hy
   cases h
   obtain ⟨a',b',q1,q2,q3⟩:=b9 h1
   cases q2
   cases q3
   have key:(fun σ=>ev sub cf (.bi .vals (.cs a' .nl)) σ)=fun σ=>ev sub cf a' σ>>=fun d=>bi1 sub .vals d:=by
    funext σ
    exact jk (ev sub cf a' σ) (biD sub .vals)
   show PE X _ (tM Γ xw (fun σ=>ev sub cf (.bi .vals (.cs a' .nl)) σ))
   rw [key]
   exact DZ F.calm hg (F.blt _ (by decide +kernel) hn) PyProof.Rows.boot_list (ih o a' q1).pe (BS hx2) hx4 (by decide +kernel) (by decide +kernel)
  ·cases h
 ·cases h
theorem Fx {b:PySem.Expr} (h:pA b=true):∃ j p,b=.Constant .none j p:=by
 cases b with
 | Constant k j p=>cases k <;> first|exact ⟨_,_,rfl⟩|cases h
 | _=>cases h
theorem r_ {b:PySem.Expr} (h:jY b=true):∃ x j p,b=.Constant (.str x) j p:=by
 cases b with
 | Constant k j p=>cases k <;> first|exact ⟨_,_,_,rfl⟩|cases h
 | _=>cases h
theorem BW {op:CmpOp} (h:kX op=some true):op=.Is:=by cases op <;> first|rfl|cases h
theorem A8 {op:CmpOp} (h:kX op=some false):op=.IsNot:=by cases op <;> first|rfl|cases h
theorem gg:∀ (n:Nat) (c:TC) (e:PySem.Expr) (e':E),trE n c e=some e'->∀ (X:Cx) (xw:XW),Fam Γ W CX EW c.gt cf X xw->Cok c X->ClE Γ sub cf X xw e e':=by
 intro n
 induction n with
 | zero=>intro c e e' h; cases h
 | succ n ihn =>
  intro c e e' h X xw F C
  have ih:∀ e e',trE n c e=some e'->ClE Γ sub cf X xw e e':=fun e e' h=>ihn c e e' h X xw F C
  cases e with
  | Name x p=>exact Ag F C h
  | Constant k j p=>exact E0 F.hK h
  | BinOp a op b p =>
   simp only [trE] at h
   split at h
   rotate_left
   ·cases h
   rename_i o a' b' h1 h2 h3
   cases h
   exact bz F.hK (Eu (Ew F.hK h1) (ih a a' h2).pe (ih b b' h3).pe) (fun _=>rfl) (.inr rfl) (fun _ _ _ z=>nomatch z)
  | UnaryOp op a p =>
   cases op with
   | Not =>
    obtain ⟨a',h1,rfl⟩:∃ a',trE n c a=some a'/\e'=.not a':=by
     cases q:trE n c a with
     | none=>simp only [trE,q] at h; cases h
     | some a'=>simp only [trE,q] at h; cases h; exact ⟨a',rfl,rfl⟩
    exact ⟨x9 (ih a a' h1).pe,zv (ih a a' h1).pt,fun ⟨_,_,_,z⟩=>by cases z⟩
   | USub =>
    obtain ⟨a',h1,rfl⟩:∃ a',trE n c a=some a'/\e'=.neg a':=by
     cases q:trE n c a with
     | none=>simp only [trE,q] at h; cases h
     | some a'=>simp only [trE,q] at h; cases h; exact ⟨a',rfl,rfl⟩
    exact bz F.hK (Er (ih a a' h1).pe) (fun _=>rfl) (.inr rfl) (fun _ _ _ z=>nomatch z)
   | _ =>
    exfalso
    cases q:trE n c a with
    | none=>simp only [trE,q] at h; cases h
    | some a'=>simp only [trE,q] at h; cases h
  | BoolOp op vs p =>
   match vs,h with
   | [],h=>cases h
   | [a],h =>
    have h:trE n c a=some e':=h
    have ca:=ih a e' h
    cases op with
    | And=>exact ⟨fun pins s σ H Q I hw=>vD ca.pe pins s σ H Q I hw,(vo ca.pt).pt,fun _=>vo ca.pt⟩
    | Or=>exact ⟨fun pins s σ H Q I hw=>vD ca.pe pins s σ H Q I hw,(uV ca.pt).pt,fun _=>uV ca.pt⟩
   | a::b::r,h =>
    cases op with
    | And =>
     obtain ⟨a',b',h1,h2,rfl⟩:∃ a' b',trE n c a=some a'/\trE n c (.BoolOp .And (b::r) p)=some b'/\e'=.and a' b':=by
      cases q:trE n c a with
      | none=>simp only [trE,q] at h; cases h
      | some a' =>
       cases q2:trE n c (.BoolOp .And (b::r) p) with
       | none=>simp only [trE,q,q2] at h; cases h
       | some b'=>simp only [trE,q,q2] at h; cases h; exact ⟨a',b',rfl,rfl,rfl⟩
     have ca:=ih _ _ h1
     have cb:=ih _ _ h2
     exact ⟨wH ca.pe cb.pe,(tN ca.pt (cb.pw ⟨_,_,_,rfl⟩)).pt,fun _=>tN ca.pt (cb.pw ⟨_,_,_,rfl⟩)⟩
    | Or =>
     obtain ⟨a',b',h1,h2,rfl⟩:∃ a' b',trE n c a=some a'/\trE n c (.BoolOp .Or (b::r) p)=some b'/\e'=.or a' b':=by
      cases q:trE n c a with
      | none=>simp only [trE,q] at h; cases h
      | some a' =>
       cases q2:trE n c (.BoolOp .Or (b::r) p) with
       | none=>simp only [trE,q,q2] at h; cases h
       | some b'=>simp only [trE,q,q2] at h; cases h; exact ⟨a',b',rfl,rfl,rfl⟩
     have ca:=ih _ _ h1
     have cb:=ih _ _ h2
     exact ⟨xK ca.pe cb.pe,(vJ ca.pt (cb.pw ⟨_,_,_,rfl⟩)).pt,fun _=>vJ ca.pt (cb.pw ⟨_,_,_,rfl⟩)⟩
  | IfExp t a b p =>
   simp only [trE] at h
   split at h
   rotate_left
   ·cases h
   rename_i t' a' b' h1 h2 h3
   cases h
   refine ⟨wc (ih t t' h1).pt (ih a a' h2).pe (ih b b' h3).pe,oJ,fun ⟨_,_,_,z⟩=>by cases z⟩
  | Tuple es k p =>
   obtain ⟨es',h1,rfl⟩:=dB (f:=E.tup) h
   exact bz F.hK (Dq (fm F C ih h1)) (fun _=>rfl) (.inr rfl) (fun _ _ _ z=>nomatch z)
  | Dict ks vs p =>
   simp only [trE] at h
   split at h
   ·cases h
    exact bz F.hK F1 (fun _=>rfl) (.inr rfl) (fun _ _ _ z=>nomatch z)
   ·cases h
  | List es p =>
   obtain ⟨es',h1,rfl⟩:=dB (f:=E.lst) h
   exact bz F.hK (xH (fm F C ih h1)) (fun _=>rfl) (.inr rfl) (fun _ _ _ z=>nomatch z)
  | Compare a ops cs p =>
   simp only [trE] at h
   split at h
   ·rename_i op b
    split at h
    ·rename_i k hk
     split at h
     ·rename_i hb
      obtain ⟨j,p',rfl⟩:=Fx hb
      obtain ⟨a',h1,rfl⟩:=dB (f:=fun x=>bif k then E.isN x else E.notN x) h
      cases k with
      | true =>
       cases BW hk
       exact ⟨GC (ih a a' h1).pe,gU (ih a a' h1).pe,fun ⟨_,_,_,z⟩=>by cases z⟩
      | false =>
       cases A8 hk
       exact ⟨zd (ih a a' h1).pe,c5 (ih a a' h1).pe,fun ⟨_,_,_,z⟩=>by cases z⟩
     ·cases h
    ·split at h
     ·rename_i o a' b' h1 h2 h3 h4
      cases h
      exact ⟨C_ (vp F h1) (ih a a' h2).pe (ih b b' h3).pe h4,Cp m_ (vp F h1) (ih a a' h2).pe (ih b b' h3).pe h4,fun ⟨_,_,_,z⟩=>by cases z⟩
     ·cases h
   ·rename_i op op' b d
    split at h
    ·rename_i o o' a' b' d' h1 h2 h3 h4 h5 h6
     cases h
     exact ⟨wC (iN F h1) (iN F h2) (ih a a' h3).pe (ih b b' h4).pe (ih d d' h5).pe h6,HF m_ m_ (iN F h1) (iN F h2) (ih a a' h3).pe (ih b b' h4).pe (ih d d' h5).pe h6,fun ⟨_,_,_,z⟩=>by cases z⟩
    ·cases h
   ·cases h
  | Subscript a i p =>
   simp only [trE] at h
   split at h
   ·rename_i lo hi p2
    split at h
    ·rename_i a' l u h1 h2 h3
     cases h
     exact bz F.hK (xr F.hK (ih a a' h1).pe (qz ih h2) (qz ih h3)) (fun _=>rfl) (.inr rfl) (fun _ _ _ z=>nomatch z)
    ·cases h
   ·cases h
   ·cases h
   ·rename_i hs1 hs2 hs3
    split at h
    ·rename_i a' i' h1 h2
     have hp:mS i:=by
      intro o j
      cases i with
      | Slice lo hi st p2 =>
       cases st with
       | none=>exact (hs1 lo hi p2 rfl).elim
       | some x=>exact (hs2 lo hi x p2 rfl).elim
      | _=>rfl
     split at h
     ·cases h
      exact bz F.hK (wG (by have:=F.un; omega) (ih a a' h1).pe (ih i i' h2).pe hp) (fun _=>rfl) (.inr rfl) (fun _ _ _ z=>nomatch z)
     ·cases h
      exact bz F.hK (Bm F.hK (ih a a' h1).pe (ih i i' h2).pe hp) (fun _=>rfl) (.inl rfl) (fun _ _ _ z=>nomatch z)
    ·cases h
  | Call f args kws cpos =>
   simp only [trE] at h
   split at h
   ·rename_i x p
    by_cases hx:(dH x&&glB c x)=true
    ·rw [Ze hx] at h
     rw [Zq] at hx
     have hd:=(lI hx.1).1
     have hg:=C.gl hx.2
     split at h
     ·rename_i hi
      obtain ⟨es',h1,rfl⟩:=dB (f:=E.call x) h
      cases args with
      | nil =>
       cases h1
       refine bz F.hK ?_ (fun _=>rfl) (.inl rfl) (fun _ _ _ z=>nomatch z)
       exact H_ F hi hg hd
      | cons a r =>
       obtain ⟨a',b',q1,q2,_⟩:=b9 h1
       exact bz F.hK (xN F hi hg hd (fm F C ih h1) (bJ q1 r X.env) (gM q2 X.env cpos).1) (fun _=>rfl) (.inl rfl) (fun _ _ _ z=>nomatch z)
     ·cases h
     ·rename_i hn
      by_cases hi:x = "isinstance"
      ·rw [Ze hi] at h
       subst hi
       split at h
       ·rename_i a y p2
        by_cases hy:(dH y&&eG c y)=true
        ·rw [Ze hy] at h
         rw [Zq] at hy
         split at h
         ·rename_i t a' h1 h2
          cases h
          obtain ⟨hg2,hn2⟩:=gH C hy.2
          obtain ⟨T,t1,t2,t3,t4,t5⟩:=xJ F h1 hn2
          have hm:X.mg "isinstance" = none:=F.blt _ (by decide +kernel) hn
          have key:(fun σ=>ev sub cf (.bi (.inst t) (.cs a' .nl)) σ)=fun σ=>ev sub cf a' σ>>=fun d=>iU sub t d:=by
           funext σ
           exact jk (ev sub cf a' σ) (biD sub (.inst t))
          refine bz F.hK ?_ (fun _=>rfl) (.inl rfl) (fun _ _ _ z=>nomatch z)
          show PE X _ (tM Γ xw (fun σ=>ev sub cf (.bi (.inst t) (.cs a' .nl)) σ))
          rw [key]
          exact Ds F.hK t1 hg hm boot_isinstance hg2 t3 t2 (ih a a' h2).pe (by decide +kernel) (by decide +kernel) t4 t5 (bJ h2 _ X.env)
         ·cases h
        ·rw [Zf hy] at h; cases h
       ·cases h
      ·rw [Zf hi] at h
       split at h
       ·rename_i b ra hr
        obtain ⟨es,h1,rfl⟩:=dB (f:=E.bi b) h
        exact bz F.hK (zH F C ih hn hg hr h1) (fun _=>rfl) (.inl rfl) (fun _ _ _ z=>nomatch z)
       ·split at h
        ·cases h
        ·rename_i a r hrn
         split at h
         ·rename_i b es h1 h2
          cases h
          obtain ⟨a',b',q1,q2,_⟩:=b9 h2
          exact bz F.hK (yT F h1 hn hg (fm F C ih h2) (bJ q1 r X.env) (gM q2 X.env cpos).1) (fun _=>rfl) (.inl rfl) (fun _ _ _ z=>nomatch z)
         ·cases h
    ·rw [Zf hx] at h; cases h
   ·rename_i o name apos
    split at h
    ·cases h
    ·rename_i a r
     split at h
     ·rename_i hx
      simp only [Zq] at hx
      obtain ⟨⟨x1,x2⟩,x3⟩:=hx
      split at h
      ·rename_i m o' es h1 h2 h3
       cases h
       obtain ⟨a',b',q1,q2,_⟩:=b9 h3
       exact bz F.hK (zg F h1 (ih o o' h2).pe (fm F C ih h3) x1 (Zo x3) (gM h3 X.env cpos).2 x2 (bJ q1 r X.env) (gM q2 X.env cpos).1) (fun _=>rfl) (.inr rfl) (fun _ _ _ z=>nomatch z)
      ·cases h
     ·cases h
   ·cases h
  | ListComp elt gens scope p =>
   simp only [trE] at h
   split at h
   ·rename_i tg iter ifs asy
    split at h
    ·rename_i hx
     rw [Zq] at hx
     have ha:asy=0:=Zo hx.1
     subst ha
     obtain ⟨CO,CK⟩:=tY C hx.2
     split at h
     ·rename_i it t el tt h1 h2 h3 h4
      split at h
      ·rename_i hge
       cases h
       obtain ⟨PI1,hs⟩:=ng F C ih h1
       have ihc:∀ cl fp s3 H3 e e',trE n (inComp c scope) e=some e'->ClE Γ sub cf (aM X scope cl (inComp c scope).N fp s3 H3) XF e e' :=
        fun cl fp s3 H3 e e' h=>ihn (inComp c scope) e e' h _ XF (F.comp scope cl _ fp s3 H3) (CK cl fp s3 H3)
       have htt:∀ cl fp s3 H3,PF (aM X scope cl (inComp c scope).N fp s3 H3) ifs (tMT Γ XF fun σ=>if tt.aY=true then pure true else evT sub cf tt σ):=fun cl fp s3 H3=>by
        match ifs,h4 with
        | [],h4 =>
         cases h4
         exact fun pins s σ H Q I h=>pG pins s σ H Q I (by
          obtain ⟨σd,ι,S,he,hs,ho⟩:=h
          exact ho.here hs)
        | [t0],h4 =>
         have h4:(match trE n (inComp c scope) t0 with|some .nl=>none|o=>o)=some tt:=h4
         cases q:trE n (inComp c scope) t0 with
         | none=>rw [q] at h4; cases h4
         | some f =>
          rw [q] at h4
          have hf:f=tt/\f.aY=false:=by
           cases f <;> first|(cases h4; done)|(cases h4; exact ⟨rfl,rfl⟩)
          obtain ⟨rfl,hn⟩:=hf
          rw [hn]
          simp only [Zu,ZK]
          exact sG (ihc cl fp s3 H3 t0 f q).pt
        | _::_::_,h4=>cases h4
       refine bz F.hK ?_ (fun _=>rfl) (.inr rfl) (fun _ _ _ z=>nomatch z)
       exact CG CO F.calm (by rw [C.N]; exact nZ hge) PI1 (fun cl fp s3 H3=>j7 (X:=aM X scope cl (inComp c scope).N fp s3 H3) F.hK F.calm (CK cl fp s3 H3) h2) htt (fun cl fp s3 H3=>(ihc cl fp s3 H3 elt el h3).pe) hs
      ·cases h
     ·cases h
    ·cases h
   ·cases h
  | _=>cases h
end
end EV

namespace EV
open PySem PySem.Spec PyProof.Rows L2
section
variable {Γ:Gx} {W:XW->Prop} {CX:CXT} {EW:XW->XK} {cf:Str->List D->M D} {sub:Sub}
theorem Gj {n:Nat} {c:TC} {elt:PySem.Expr} {gens:List Comprehension} {scope:Scope} {p:Pos} {e':E} (h:trE n c (.ListComp elt gens scope p)=some e') {X:Cx} {xw:XW} (F:Fam Γ W CX EW c.gt cf X xw) (C:Cok c X) :
  ∃ tg iter ifs it t el tt,gens=[⟨tg,iter,ifs,0⟩]/\e'=.comp (own scope).length el t it tt/\eO X scope (inComp c scope).N (own scope).length/\(∀ j,j < X.N.length->t.has j=false)/\PI X tg iter (tMI Γ xw (evI sub cf it)) /\
   (∀ cl fp s3 H3,PG (aM X scope cl (inComp c scope).N fp s3 H3) tg (tMG Γ t))/\(∀ cl fp s3 H3,PF (aM X scope cl (inComp c scope).N fp s3 H3) ifs (tMT Γ XF fun σ=>if tt.aY=true then pure true else evT sub cf tt σ)) /\
   (∀ cl fp s3 H3,PE (aM X scope cl (inComp c scope).N fp s3 H3) elt (tM Γ XF (ev sub cf el)))/\∀ x,foldedSetIterable iter X.env x=pure x:=by
 cases n with
 | zero=>cases h
 | succ n =>
  have ih:∀ e e',trE n c e=some e'->ClE Γ sub cf X xw e e':=fun e e' h=>gg n c e e' h X xw F C
  simp only [trE] at h
  split at h
  ·rename_i tg iter ifs asy
   split at h
   ·rename_i hx
    rw [Zq] at hx
    have ha:asy=0:=Zo hx.1
    subst ha
    obtain ⟨CO,CK⟩:=tY C hx.2
    split at h
    ·rename_i it t el tt h1 h2 h3 h4
     split at h
     ·rename_i hge
      cases h
      obtain ⟨PI1,hs⟩:=ng F C ih h1
      have ihc:∀ cl fp s3 H3 e e',trE n (inComp c scope) e=some e'->ClE Γ sub cf (aM X scope cl (inComp c scope).N fp s3 H3) XF e e' :=
       fun cl fp s3 H3 e e' h=>gg n (inComp c scope) e e' h _ XF (F.comp scope cl _ fp s3 H3) (CK cl fp s3 H3)
      have htt:∀ cl fp s3 H3,PF (aM X scope cl (inComp c scope).N fp s3 H3) ifs (tMT Γ XF fun σ=>if tt.aY=true then pure true else evT sub cf tt σ):=fun cl fp s3 H3=>by
       match ifs,h4 with
       | [],h4 =>
        cases h4
        exact fun pins s σ H Q I h=>pG pins s σ H Q I (by
         obtain ⟨σd,ι,S,he,hs,ho⟩:=h
         exact ho.here hs)
       | [t0],h4 =>
        have h4:(match trE n (inComp c scope) t0 with|some .nl=>none|o=>o)=some tt:=h4
        cases q:trE n (inComp c scope) t0 with
        | none=>rw [q] at h4; cases h4
        | some f =>
         rw [q] at h4
         have hf:f=tt/\f.aY=false:=by
          cases f <;> first|(cases h4; done)|(cases h4; exact ⟨rfl,rfl⟩)
         obtain ⟨rfl,hn⟩:=hf
         rw [hn]
         simp only [Zu,ZK]
         exact sG (ihc cl fp s3 H3 t0 f q).pt
       | _::_::_,h4=>cases h4
      exact ⟨tg,iter,ifs,it,t,el,tt,rfl,rfl,CO,by rw [C.N]; exact nZ hge,PI1,fun cl fp s3 H3=>j7 (X:=aM X scope cl (inComp c scope).N fp s3 H3) F.hK F.calm (CK cl fp s3 H3) h2,htt,fun cl fp s3 H3=>(ihc cl fp s3 H3 elt el h3).pe,hs⟩
     ·cases h
    ·cases h
   ·cases h
  ·cases h
theorem je {e:PySem.Expr} (h:gB e=true) (t:Option PySem.Expr) (l:Nat) (env:Env):swapsWith e t l env=pure false:=by
 cases e <;> first|rfl|cases h
theorem wV {m:Nat} {c:TC} {X:Cx} {xw:XW} (F:Fam Γ W CX EW c.gt cf X xw) (C:Cok c X) {tg e:PySem.Expr} {t:Tg} {e':E} {pos:Pos} (ha:qo tg e=true) (h1:g9 c tg=some t) (h2:trE m c e=some e') :
  PS X (.Assign [tg] e pos) (tMS Γ xw (exec sub cf (.set t e'))):=by
 have hg:PG X tg (tMG Γ t):=j7 F.hK F.calm C h1
 have he:=(gg (sub:=sub) m c e e' h2 X xw F C).pe
 cases tg with
 | Name y py =>
  by_cases hc:gB e=true
  ·exact k6 he hg (show swapsWithSole [.Name y py] e pos.line X.env=pure false from je hc (some (.Name y py)) pos.line X.env) rfl rfl
  ·cases e with
   | ListComp elt gens scope p =>
    obtain ⟨tg,iter,ifs,it,t2,el,tt,rfl,rfl,CO,hslot,PI1,PG1,PF1,PE1,hs⟩:=Gj (sub:=sub) h2 F C
    have h1':(if dU c y=true then (idx c.N y).map Tg.one else none)=some t:=h1
    by_cases hl:dU c y=true
    ·rw [Ze hl] at h1'
     obtain ⟨j,hj,rfl⟩:=dB h1'
     have sw:swapsWith (.ListComp elt [⟨tg,iter,ifs,0⟩] scope p) (some (.Name y py)) pos.line X.env=pure (X.env.blockKind==.function&&X.env.kindOf y==some .local&&py.line==p.line
      &&!(scope.names.any fun (n,k)=>n==y&&(k==.local||k==.cell))):=rfl
     cases q:(X.env.blockKind==.function&&X.env.kindOf y==some .local&&py.line==p.line&&!(scope.names.any fun (n,k)=>n==y&&(k==.local||k==.cell))) with
     | true =>
      rw [q] at sw
      simp only [Zq] at q
      have hy:X.env.scope.names.lookup y=some .local:=eq_of_beq q.1.1.2
      exact zJ CO F.calm hslot PI1 PG1 PF1 PE1 C.nd (by rw [C.N]; exact iF hj) hy sw hs
     | false =>
      rw [q] at sw
      exact k6 he hg sw rfl rfl
    ·rw [Zf hl] at h1'; cases h1'
   | SetComp _ _ _ _=>cases m <;> cases h2
   | DictComp _ _ _ _ _=>cases m <;> cases h2
   | _=>exact absurd rfl hc
 | Tuple es k p =>
  have ha:(!isTup e&&gB e)=true:=ha
  rw [Zq] at ha
  refine k6 he hg (show swapsWithSole [.Tuple es k p] e pos.line X.env=pure false from je ha.2 (some (.Tuple es k p)) pos.line X.env) ?_ rfl
  cases e <;> first|rfl|exact absurd ha.1 (by simp [isTup])
 | _=>cases ha
theorem yR {m:Nat} {c:TC} {X:Cx} {xw:XW} (F:Fam Γ W CX EW c.gt cf X xw) (C:Cok c X) {tg e:PySem.Expr} {s':S} {pos:Pos} (h:nj (trE m c) e tg=some s'):PS X (.Assign [tg] e pos) (tMS Γ xw (exec sub cf s')):=by
 have ce:∀ {e e'},trE m c e=some e'->PE X e (tM Γ xw (ev sub cf e')):=fun {e e'} h=>(gg m c e e' h X xw F C).pe
 unfold nj at h
 split at h
 ·cases h
 ·rename_i o i p _
  split at h
  ·rename_i ha
   rw [Zq] at ha
   split at h
   ·rename_i a b d h1 h2 h3
    split at h
    ·cases h
     exact Ge (by have:=F.un; omega) (ce h3) (ce h1) (ce h2) (je ha.1 (some (.Subscript o i p)) pos.line X.env)
    ·cases h
   ·cases h
  ·cases h
 ·cases h
theorem fN {f:Stmt->Option S} {X:Cx} {xw:XW} (ih:∀ s s',f s=some s'->PS X s (tMS Γ xw (exec sub cf s'))):∀ {ss:List Stmt} {s':S},cJ f ss=some s'->PSs X ss (tMS Γ xw (exec sub cf s'))
 | [],_,h=>by cases h; exact FZ
 | [s],_,h=>wN (ih _ _ h)
 | s::s2::r,s',h=>by
  have h:(match f s,cJ f (s2::r) with|some a,some b=>some (.seq a b)|_,_=>none)=some s':=h
  split at h
  ·rename_i a b h1 h2
   cases h
   exact DK (ih s a h1) (fN ih h2)
  ·cases h
theorem EC {c:TC} {X:Cx} {xw:XW} {e:PySem.Expr} {s':S} {pos:Pos} (F:Fam Γ W CX EW c.gt cf X xw) (C:Cok c X) (h:nH c e=some s'):PS X (.Raise (some e) none pos) (tMS Γ xw (exec sub cf s')):=by
 unfold nH at h
 split at h
 case h_2=>cases h
 rename_i f args kws cpos
 split at h
 case h_2=>cases h
 rename_i x np
 split at h
 case isFalse=>cases h
 rename_i hc
 rw [Zq,Zq] at hc
 split at h
 case h_2=>cases h
 rename_i hl
 cases h
 match args,hc.1 with
 | [a],hd =>
  obtain ⟨v,j,q,rfl⟩:=r_ (show jY a=true from hd)
  obtain ⟨⟨C1,newId,initId,B,bmB,hns,hex,FB,_⟩,hmg⟩:=F.cls x hl
  refine PS.imp (Gb (E:=EW xw) FB hex (hmg C1 hns) (C.gl hc.2.2) F.calm (lI hc.2.1).1 qJ rfl F.rp) fun D σ H h=>?_
  obtain ⟨σd,ι,S,hE,hs,ho⟩:=h
  have hx:xw x S ι H:=ho ι H .refl hs
  rw [F.ew]
  exact ⟨x,C1,rfl,hns,S,ι,hx⟩
theorem AO (m:Nat):∀ (n:Nat) (c:TC) (s:Stmt) (s':S),trS m n c s=some s'->∀ (X:Cx) (xw:XW),Fam Γ W CX EW c.gt cf X xw->Cok c X->PS X s (tMS Γ xw (exec sub cf s')):=by
 intro n
 induction n with
 | zero=>intro c s s' h; cases h
 | succ n ihn =>
  intro c s s' h X xw F C
  have ih:∀ s s',trS m n c s=some s'->PS X s (tMS Γ xw (exec sub cf s')):=fun s s' h=>ihn c s s' h X xw F C
  have ihx:∀ s s',trS m n c s=some s'->PS X.nox s (tMS Γ XF (exec sub cf s')):=fun s s' h=>ihn c s s' h X.nox XF F.nox C.nox
  have ce:∀ {e e'},trE m c e=some e'->ClE Γ sub cf X xw e e':=fun {e e'} h=>gg m c e e' h X xw F C
  have cx:∀ {e e'},trE m c e=some e'->ClE Γ sub cf X.nox XF e e':=fun {e e'} h=>gg m c e e' h X.nox XF F.nox C.nox
  cases s with
  | Return v p =>
   cases v with
   | none=>cases h; exact F7
   | some e =>
    obtain ⟨e',h1,rfl⟩:=dB (f:=S.ret) h
    exact AE (ce h1).pe
  | Expr e p =>
   simp only [trS] at h
   split at h
   ·rename_i hd
    obtain ⟨x,j,q,rfl⟩:=r_ hd
    cases h; exact DW
   ·split at h
    ·rename_i hn
     obtain ⟨e',h1,rfl⟩:=dB (f:=S.ex) h
     exact DY (ce h1).pe (je hn _ _ _)
    ·cases h
  | Pass p=>cases h; exact yh
  | Assign ts e p =>
   simp only [trS] at h
   split at h
   ·rename_i tg
    split at h
    ·rename_i ha
     split at h
     ·rename_i t e' h1 h2
      cases h
      exact wV F C ha h1 h2
     ·cases h
    ·exact yR F C h
   ·cases h
  | If t a b p =>
   simp only [trS] at h
   split at h
   ·rename_i t' a' b' h1 h2 h3
    cases h
    exact vX (ce h1).pt (fN ih h2) (fN ih h3)
   ·cases h
  | For tg it body els p =>
   simp only [trS] at h
   split at h
   ·rename_i t i b h1 h2 h3
    cases h
    obtain ⟨PI1,hs⟩:=ng (X:=X.nox) (xw:=XF) F.nox C.nox (fun e e' h=>cx h) h2
    exact EX F.calm PI1 (j7 (X:=X.nox) F.hK F.calm C.nox h1) (fN ihx h3) hs
   ·cases h
  | While t body els p =>
   simp only [trS] at h
   split at h
   ·rename_i t' b h1 h2
    cases h
    exact Bc (cx h1).pt (fN ihx h2)
   ·cases h
  | Raise e cause p =>
   cases e with
   | none=>cases cause <;> cases h
   | some e =>
    cases cause with
    | none=>exact EC F C h
    | some _=>cases h
  | _=>cases h
end
end EV

namespace EV
open PySem PySem.Spec PyProof.Rows L2
theorem m8:∀ {ns:List Str} {us:List Value} {i:Nat} {x:Str} {u:Value},ns.Nodup->ns[i]?=some x->us[i]?=some u->(ns.zip us).lookup x=some u
 | [],_,_,_,_,_,h,_=>by simp at h
 | _::_,[],_,_,_,_,_,h=>by simp at h
 | y::ns,v::us,0,x,u,_,h1,h2=>by
  simp at h1 h2; subst h1; subst h2
  simp [List.lookup]
 | y::ns,v::us,i+1,x,u,nd,h1,h2=>by
  have h1':ns[i]?=some x:=by simpa using h1
  have hne:¬ x=y:=fun e=>by
   subst e; exact (Xf.mp nd).1 (Zy h1')
  have hb:(x==y)=false:=by simpa using hne
  show List.lookup x ((y,v)::ns.zip us)=some u
  rw [ZZ,hb]
  exact m8 (Xf.mp nd).2 h1' (by simpa using h2)
theorem Bl {ns:List Str} {us:List Value} (nd:ns.Nodup) (hl:us.length=ns.length):ns.filterMap (fun n=>((ns.zip us).lookup n).map (n,·))=ns.zip us:=by
 have all:∀ (ms:List Str) (vs:List Value),vs.length=ms.length->(∀ (i:Nat) x u,ms[i]?=some x->vs[i]?=some u->(ns.zip us).lookup x=some u)->ms.filterMap (fun n=>((ns.zip us).lookup n).map (n,·))=ms.zip vs:=by
  intro ms
  induction ms with
  | nil=>intro vs _ _; rfl
  | cons m ms ih =>
   intro vs hl h
   cases vs with
   | nil=>simp at hl
   | cons v vs =>
    rw [Xt,h 0 m v rfl rfl]
    show (m,v)::_=(m,v)::ms.zip vs
    rw [ih vs (by simpa using hl) fun i x u h1 h2=>h (i+1) x u (by simpa using h1) (by simpa using h2)]
 exact all ns us hl fun i x u h1 h2=>m8 nd h1 h2
theorem tX {x qual:Str} {a:Arguments} {body:List Stmt} {sc:Scope} {kV doc pm cdv ct:Value} {an:Option Addr} (hp:j4 a=true) (nd:(argNames a).Nodup) {us:List Value} (hl:us.length=(argNames a).length) :
  bindArgs (PySem.W.fnOf x qual a body sc .none kV doc pm an cdv ct) ⟨us,[]⟩=pure ((argNames a).zip us):=by
 obtain ⟨po,as,va,ko,kd,kw,df⟩:=a
 unfold j4 at hp
 simp only [Zq,List.isEmpty_iff,Option.isNone_iff_eq_none] at hp
 obtain ⟨⟨⟨⟨⟨rfl,rfl⟩,rfl⟩,rfl⟩,rfl⟩,rfl⟩:=hp
 have nd:(as.map (·.arg)).Nodup:=nd
 have hl:us.length=(as.map (·.arg)).length:=hl
 show bindArgs _ _=pure ((as.map (·.arg)).zip us)
 unfold bindArgs
 simp only [PySem.W.fnOf,Qz,Qq,Xz]
 generalize as.map (·.arg)=ns at nd hl
 have hnot:¬ us.length > ns.length:=by rw [hl]; exact XB _
 have hmiss:(List.take ns.length ns).filter (fun n=>((ns.zip us).lookup n).isNone)=[]:=by
  rw [List.filter_eq_nil_iff]
  intro n hn
  obtain ⟨i,hi⟩:=ZL (Wf hn)
  have hi':i < us.length:=by rw [hl]; exact (Zh.mp hi).1
  rw [m8 nd hi (Zb hi')]
  simp
 have hb:=Bl nd hl
 have hd:seqItems? .none=pure none:=rfl
 rw [hd]
 have hz:(#[]:Array Value).toList=[]:=rfl
 have hdec:decide (us.length > ns.length)=false:=Zz hnot
 simp only [List.forIn_nil,pure_bind,Option.getD_none,hz,X2,Nat.zero_sub,List.drop_nil,Nat.sub_zero,hmiss,hdec,Bool.false_and,Zu,ZK,List.isEmpty_nil,X7,List.zip_nil_right,hb]
noncomputable def ni (xw:XW):XW:=fun c _ _ H=>∃ S ι,xw c S ι H
structure Txt (K:PySem.W.Frag) (mg:Str->Option Value) (gt:List (Str × GE)) (defs:List (Str × Stmt)):Prop where
 fn:∀ x,gt.lookup x=some .fn->∃ st f fd,defs.lookup x=some st/\mg x=some (.ref f)/\Fun K x x st f fd
 blt:∀ x∈dG,gt.lookup x=none->mg x=none
 val:∀ x d,gt.lookup x=some (.val d)->∃ u v,mg x=some u/\RelV v u/\∀ ι H,Rep ⟨K⟩ ι H d v
 cls:∀ x,gt.lookup x=some .cls->ClsAt K x/\∀ C,PySem.W.nsIn K mainGlobals x=some (some (.ref C))->mg x=some (.ref C)
theorem Ak {Γ:Gx} {ι:List Addr} {H:Hp} {ds:List D} {vs:List V} (rs:av Γ ι H ds vs) (N:List Str) {k:Nat} (hk:k=N.length):aQ Γ ι H (L2.start N vs) (ds.map some++List.replicate (k - ds.length) none):=by
 have hl:=rs.length
 refine ⟨by unfold L2.start; simp [hl,hk],fun i d h=>?_⟩
 by_cases hi:i < ds.length
 ·rw [ZE (by simpa using hi),ZM] at h
  have h:ds[i]?=some d:=by
   rw [Zb hi] at h ⊢
   simpa using h
  obtain ⟨v,hv,r⟩:=Paired.get rs h
  refine ⟨v,?_,r⟩
  unfold L2.start
  rw [ZE (by rw [Zd,<- hl]; exact hi),ZM,hv]
  rfl
 ·rw [ZJ (by simpa using hi),XU] at h
  split at h <;> cases h
theorem lM {a:Arguments} {sc:Scope} (h:c7 a sc=true):lT (namesOf a sc) (argNames a) sc/\j4 a=true:=by
 unfold c7 at h
 simp only [Zq] at h
 obtain ⟨⟨⟨⟨⟨⟨h1,h2⟩,h3⟩,h4⟩,h5⟩,h6⟩,h7⟩:=h
 rw [Z8] at h6 h7
 refine ⟨⟨Zo h2,by simpa using h3,by simpa using h4,jD h5,?_,fun x hx=>?_,fun y hy hf=>?_⟩,h1⟩
 ·unfold namesOf; rw [List.take_append_of_le_length (Zk _),Z4]
 ·have:=h6 x hx
  cases q:sc.names.lookup x with
  | none=>rw [q] at this; cases this
  | some k=>rw [q] at this; cases k <;> first|exact .inl rfl|exact .inr rfl|cases this
 ·have:=h7 y hy
  rw [hf] at this; simp at this
theorem vL {CX:CXT} {P:Program} {w:World} {K:PySem.W.Frag} {mg:Str->Option Value} {base:Heap} {N:List Str} {qual:Str} {scope:Scope} {f:Addr} {cd:Value} {A:Around} {outer:List Env} {s:Shared} {H:Hp} {E:XK} {pins:List (Addr × Obj)} {σ:L2.St} {H1:Hp} {s1:Shared} (I:Inv (cN CX P w K mg base N qual scope f cd A outer s H E) pins σ H1 s1):A.frames=some outer:=by
 have z:A.frames.map (envOfC qual scope s.heap.objs.size f cd :: ·)=some (envOfC qual scope s.heap.objs.size f cd::outer):=I.ok.frames
 cases q:A.frames with
 | none=>rw [q] at z; cases z
 | some l=>rw [q] at z; cases z; rfl
section
variable {P:Program} {w:World} {K:PySem.W.Frag} {mg:Str->Option Value} {base:Heap} {W:XW->Prop} {sub:Sub} {gt:List (Str × GE)} {defs:List (Str × Stmt)} {Pd:Prg}
theorem Ab (T:Txt K mg gt defs) (hW:∀ xw,W xw) (hP:∀ x st,defs.lookup x=some st->∃ F,trF gt st=some F/\Pd.lookup x=some F) :
  ∀ (n:Nat) (x:Str) (st:Stmt) (f:Addr) (fd:FuncData),defs.lookup x=some st->Fun K x x st f fd->dO P w K mg base (CXe P w) n f fd (argNames (cW st)) (spF ⟨K⟩ W (EWx K) (ah sub Pd n x) (argNames (cW st)).length):=by
 intro n
 induction n with
 | zero =>
  intro x st f fd _ _
  refine ⟨fun vs H Q E h=>h.1,fun A outer s H args us vs Q E _ _ _ _ h=>?_⟩
  obtain ⟨_,_,_,_,_,_,_,_,_,ho⟩:=h
  exact ho.elim
 | succ n ih =>
  intro x st f fd hst Fu
  obtain ⟨F,hF,hPi⟩:=hP x st hst
  cases st with
  | FunctionDef x0 a body d1 d2 d3 sc d4 d5 d6 =>
   have hF:(if c7 a sc=true then (cJ (trS depth depth (fu gt a sc)) body).map fun b=>(⟨(argNames a).length,(namesOf a sc).length,b⟩:Fn) else none)=some F:=hF
   by_cases hs:c7 a sc=true
   ·rw [Ze hs] at hF
    obtain ⟨b,hb,rfl⟩:=dB hF
    obtain ⟨SC,hpl⟩:=lM hs
    obtain ⟨oc,od,kV,doc,pm,an,cdv,ct,osl,rfl,lk,hcd⟩:=Fu.ex
    refine Ai (N:=namesOf a sc) lk hcd SC (fun vs H Q E h=>h.1) fun A outer s H vs Q E hr hsp=>?_
    obtain ⟨hl,xw,hw,rfl,ι,S,ds,hS,rs,ho⟩:=hsp
    have hew:∀ C H,EWx K (ni xw) (.ref C) none H->EWx K xw (.ref C) none H:=fun C H z=>by
     obtain ⟨c,C',z1,z2,_,_,S',ι',z3⟩:=z
     exact ⟨c,C',z1,z2,S',ι',z3⟩
    have FM:Fam ⟨K⟩ W (CXe P w) (EWx K) gt (ah sub Pd n) (cN (CXe P w) P w K mg base (namesOf a sc) x sc f cdv A outer s H (EWx K xw)) (ni xw):=by
     refine ⟨rfl,rfl,hr.units,T.blt,T.val,fun y hy=>?_,fun pins σ H1 s1 v s2 I hx=>qD (fun _ _ _ _ z=>.inr z) hew (vL I) I hx,fun pins σ H1 s1 v s2 I hx=>qD (fun _ _ _ _ z=>.inl z) hew (vL I) I hx,T.cls,rfl,rfl,hW⟩
     obtain ⟨st2,f2,fd2,h1,h2,h3⟩:=T.fn y hy
     obtain ⟨F2,hF2,hPj⟩:=hP y st2 h1
     have hb2:Binds K fd2 (argNames (cW st2)) []:=by
      cases st2 with
      | FunctionDef x1 a1 dI e1 e2 e3 sc1 e4 e5 e6 =>
       have hF2:(if c7 a1 sc1=true then (cJ (trS depth depth (fu gt a1 sc1)) dI).map fun b=>(⟨(argNames a1).length,(namesOf a1 sc1).length,b⟩:Fn) else none)=some F2:=hF2
       by_cases hs1:c7 a1 sc1=true
       ·obtain ⟨SC1,hpl1⟩:=lM hs1
        refine h3.binds fun _ _ _ _ _ _ us hl=>?_
        have nd1:(argNames a1).Nodup:=by rw [<- SC1.pre]; exact SC1.nd.sublist (Wr _ _)
        exact tX hpl1 nd1 hl
       ·rw [Zf hs1] at hF2; cases hF2
      | _=>cases hF2
     refine ⟨n,f2,fd2,argNames (cW st2),ih y st2 f2 fd2 h1 h3,hr,h2,h3.kp,hb2,fun ds S hne=>?_⟩
     cases n with
     | zero=>rfl
     | succ n =>
      have hpar:F2.par=(argNames (cW st2)).length:=by
       cases st2 with
       | FunctionDef x1 a1 dI e1 e2 e3 sc1 e4 e5 e6 =>
        have hF2:(if c7 a1 sc1=true then (cJ (trS depth depth (fu gt a1 sc1)) dI).map fun b=>(⟨(argNames a1).length,(namesOf a1 sc1).length,b⟩:Fn) else none)=some F2:=hF2
        by_cases hs1:c7 a1 sc1=true
        ·rw [Ze hs1] at hF2
         obtain ⟨b1,_,rfl⟩:=dB hF2
         rfl
        ·rw [Zf hs1] at hF2; cases hF2
       | _=>cases hF2
      exact HL hPj (by rw [hpar]; exact hne)
    have CK:Cok (fu gt a sc) (cN (CXe P w) P w K mg base (namesOf a sc) x sc f cdv A outer s H (EWx K xw)):=⟨rfl,rfl,SC.nd,SC.kind,fun _ _=>rfl,fun _=>⟨rfl,rfl⟩⟩
    refine ⟨tMS ⟨K⟩ (ni xw) (exec sub (ah sub Pd n) b),fN (fun s s' h=>AO depth depth (fu gt a sc) s s' h _ _ FM CK) hb,?_⟩
    have hdl:ds.length=(argNames a).length:=rs.length.trans hl
    refine ⟨ds.map some++List.replicate ((namesOf a sc).length - ds.length) none,ι,S,Ak rs _ rfl,hS,?_⟩
    have ho:Out ⟨K⟩ xw ι H (ah sub Pd (n+1) x ds S) _:=ho
    rw [tU hPi hdl] at ho
    unfold frame at ho
    cases q:exec sub (ah sub Pd n) b (ds.map some++List.replicate ((namesOf a sc).length - ds.length) none) S with
    | bad=>rw [q] at ho; exact ho.elim
    | exc k S' =>
     rw [q] at ho
     intro ι' H' e' s'
     have ho:Out ⟨K⟩ xw ι H (if S'.take S.length=S then .exc k S else .exc k S') _:=ho
     by_cases ht:S'.take S.length=S
     ·rw [Ze ht] at ho
      exact ⟨S,ι,ho ι H' e'.back (ao.back e' hS s' ht)⟩
     ·rw [Zf ht] at ho
      exact ⟨S',ι',ho ι' H' e' s'⟩
    | ok fl S' =>
     rw [q] at ho
     intro ι' H' e' s'
     cases fl with
     | nx σ'=>exact fun σv hv=>tR hS e' s' .non ho
     | rt d=>exact fun v r=>tR hS e' s' r ho
     | bk σ'=>exact ho.elim
     | ct σ'=>exact ho.elim
   ·rw [Zf hs] at hF; cases hF
  | _=>cases hF
end
end EV

namespace EV
open PySem PySem.Spec PyProof.Rows L2
inductive dD (K:PySem.W.Frag):List (Str × Stmt)->Prop
 | nil:dD K []
 | cons {x:Str} {st:Stmt} {r:List (Str × Stmt)} {f:Addr} {oc:Value} {od an:Option Addr} {osl:Array (Option Value)} {kV doc pm cdv ct:Value} :
   PySem.W.nsIn K mainGlobals x=some (some (.ref f)) ->
   K.lookup f=some ⟨oc,od,.func (PySem.W.fnOf x x (cW st) (iX st) (ir st) .none kV doc pm an cdv ct),osl⟩ ->
   PySem.W.codeIn K cdv x=true->PySem.W.keepIn K (.ref f)=true->dD K r->dD K ((x,st)::r)
inductive ef:D->Value->Prop
 | non:ef .non .none
 | bl (b:Bool):ef (.bl b) (.bool b)
 | int (i:Int) (t:Tok):ef (.int i) (.int i t)
 | str (x:Str) (t:Tok):ef (.str x) (.str x t)
inductive eS:List D->List Value->Prop
 | nil:eS [] []
 | cons {d:D} {u:Value} {ds:List D} {us:List Value}:ef d u->eS ds us->eS (d::ds) (u::us)
inductive cj (K:PySem.W.Frag):List (Str × D)->Prop
 | nil:cj K []
 | flat {x:Str} {d:D} {u:Value} {r:List (Str × D)}:PySem.W.nsIn K mainGlobals x=some (some u)->ef d u->cj K r->cj K ((x,d)::r)
 | tup {x:Str} {ds:List D} {a:Addr} {od:Option Addr} {us:List Value} {n:Nat} {sl:Array (Option Value)} {r:List (Str × D)}:PySem.W.nsIn K mainGlobals x=some (some (.ref a)) ->
   K.lookup a=some ⟨.type "tuple",od,.seq us.toArray n,sl⟩->us.length<=1000->allInts ds=none->eS ds us->cj K r->cj K ((x,.tup ds)::r)
inductive dN (K:PySem.W.Frag):List Str->Prop
 | nil:dN K []
 | cons {x:Str} {r:List Str}:PySem.W.nsIn K mainGlobals x=some none->dN K r->dN K (x::r)
noncomputable def j5:D->V
 | .bl b=>.bl b
 | .int i=>.int i
 | .str x=>.str x
 | _=>.non
theorem ef.rel {d:D} {u:Value} (h:ef d u):RelV (j5 d) u/\∀ Γ ι H,Rep Γ ι H d (j5 d):=by
 cases h with
 | non=>exact ⟨rfl,fun _ _ _=>.non⟩
 | bl b=>exact ⟨rfl,fun _ _ _=>.bl b⟩
 | int i t=>exact ⟨⟨t,rfl⟩,fun _ _ _=>.int i⟩
 | str x t=>exact ⟨⟨t,rfl⟩,fun _ _ _=>.str x⟩
theorem eS.rel:∀ {ds:List D} {us:List Value},eS ds us->Vals (ds.map j5) us/\∀ Γ ι H,av Γ ι H ds (ds.map j5)
 | _,_,.nil=>⟨.nil,fun _ _ _=>.nil⟩
 | _,_,.cons h r=>⟨.cons h.rel.1 (eS.rel r).1,fun Γ ι H=>.cons (h.rel.2 Γ ι H) ((eS.rel r).2 Γ ι H)⟩
theorem dD.get {K:PySem.W.Frag}:∀ {fns:List (Str × Stmt)} {x:Str} {st:Stmt},dD K fns->(x,st)∈fns->∃ f fd,PySem.W.nsIn K mainGlobals x=some (some (.ref f))/\Fun K x x st f fd
 | _,_,_,.nil,h=>by simp at h
 | _,_,_,.cons a l c k r,h=>by
  rcases Zt.mp h with e|h
  ·cases e; exact ⟨_,_,a,Cz l c k⟩
  ·exact dD.get r h
theorem cj.get {K:PySem.W.Frag}:∀ {vals:List (Str × D)} {x:Str} {d:D},cj K vals->(x,d)∈vals->∃ u v,PySem.W.nsIn K mainGlobals x=some (some u)/\RelV v u/\∀ ι H,Rep ⟨K⟩ ι H d v
 | _,_,_,.nil,h=>by simp at h
 | _,x,d,.flat a f r,h=>by
  rcases Zt.mp h with e|h
  ·cases e; exact ⟨_,_,a,f.rel.1,fun ι H=>f.rel.2 _ ι H⟩
  ·exact cj.get r h
 | _,x,d,.tup a l z no f r,h=>by
  rcases Zt.mp h with e|h
  ·cases e
   refine ⟨_,.ref _,a,rfl,fun ι H=>?_⟩
   have hz:∀ {us:List Value},us.length<=1000->us.toArray.size<=sizeLine:=fun {us} h=>by rw [Zi,Qb]; omega
   exact .u5 (.inr ⟨_,_,_,l,rfl,rfl,hz z,by simpa using f.rel.1⟩) (f.rel.2 _ ι H) fun k q=>by rw [no] at q; cases q
  ·exact cj.get r h
theorem dN.get {K:PySem.W.Frag}:∀ {l:List Str} {x:Str},dN K l->x∈l->PySem.W.nsIn K mainGlobals x=some none
 | _,_,.nil,h=>by simp at h
 | _,_,.cons a r,h=>by
  rcases Zt.mp h with rfl|h
  ·exact a
  ·exact dN.get r h
inductive bQ (K:PySem.W.Frag):List Str->Prop
 | nil:bQ K []
 | cons {x:Str} {r:List Str} {C L:Addr} (a:PySem.W.nsIn K mainGlobals x=some (some (.ref C))) (b:PySem.W.excIn K C [.type "ValueError",.type "Exception",.type "BaseException",.type "object"] "ValueError.__new__" = true)
   (v:PySem.W.kitOne K (.ref C) (.type "ValueError")=some true) (l1:PySem.W.nsIn K mainGlobals "LapError" = some (some (.ref L))) (l2:PySem.W.kitOne K (.ref C) (.ref L)=some true) (n:x≠"NoLoop") (c:bQ K r):bQ K (x::r)
 | consN {r:List Str} {C L:Addr} (a:PySem.W.nsIn K mainGlobals "NoLoop" = some (some (.ref C))) (b:PySem.W.excIn K C [.type "ValueError",.type "Exception",.type "BaseException",.type "object"] "ValueError.__new__" = true)
   (v:PySem.W.kitOne K (.ref C) (.type "ValueError")=some true) (l1:PySem.W.nsIn K mainGlobals "LapError" = some (some (.ref L))) (l2:PySem.W.kitOne K (.ref C) (.ref L)=some true) (n:PySem.W.nsIn K mainGlobals "NoPlan" = some none) (c:bQ K r):bQ K ("NoLoop" :: r)
 | consP {r:List Str} {C L P:Addr} (a:PySem.W.nsIn K mainGlobals "NoLoop" = some (some (.ref C))) (b:PySem.W.excIn K C [.type "ValueError",.type "Exception",.type "BaseException",.type "object"] "ValueError.__new__" = true)
   (v:PySem.W.kitOne K (.ref C) (.type "ValueError")=some true) (l1:PySem.W.nsIn K mainGlobals "LapError" = some (some (.ref L))) (l2:PySem.W.kitOne K (.ref C) (.ref L)=some true)
   (n:PySem.W.nsIn K mainGlobals "NoPlan" = some (some (.ref P))) (p:PySem.W.kitOne K (.ref C) (.ref P)=some false)
   (e1:PySem.W.findIn K (.ref C) "__getattribute__" = some (some (.builtin "BaseException.__getattribute__")))
   (e2:PySem.W.findIn K (.ref C) "__getattr__" = some none)
   (e3:PySem.W.findIn K (.ref C) "__class__" = some (some (.builtin "object.__class__")))
   (e4:PySem.W.specialIn K (.builtin "object.__class__") "__get__" = some (some (.builtin "getset_descriptor.__get__")))
   (e5:PySem.W.takesIn K (.builtin "object.__class__")=some true)
   (e6:PySem.W.mroIn K C (.type "object")=some true)
   (e7:PySem.W.mroIn K C (.type "BaseException")=some true) (c:bQ K r):bQ K ("NoLoop" :: r)
theorem bQ.get {K:PySem.W.Frag}:∀ {l:List Str} {x:Str},bQ K l->x∈l->ClsAt K x
 | _,_,.nil,h=>by cases h
 | _,_,.cons a b v l1 l2 n r,h=>by
  rcases Zt.mp h with rfl|h
  ·exact ⟨_,_,_,_,_,a,b,QK,v,⟨_,l1,l2⟩,fun z=>absurd z n⟩
  ·exact bQ.get r h
 | _,_,.consN a b v l1 l2 n r,h=>by
  rcases Zt.mp h with rfl|h
  ·exact ⟨_,_,_,_,_,a,b,QK,v,⟨_,l1,l2⟩,fun _ P z=>by rw [n] at z; cases z⟩
  ·exact bQ.get r h
 | _,_,.consP a b v l1 l2 n p e1 e2 e3 e4 e5 e6 e7 r,h=>by
  rcases Zt.mp h with rfl|h
  ·exact ⟨_,_,_,_,_,a,b,QK,v,⟨_,l1,l2⟩,fun _ P z=>by rw [n] at z; cases z; exact ⟨⟨e1,e2,e3,e4,e5,e6,e7,by obtain ⟨cd,q,_⟩:=Option.bind_eq_some_iff.mp e6; rw [q]; rfl⟩,p⟩⟩
  ·exact bQ.get r h
noncomputable def dZ (fns:List (Str × Stmt)) (vals:List (Str × D)) (cls:List Str):List (Str × GE):=(fns.map fun p=>(p.1,.fn))++(vals.map fun p=>(p.1,.val p.2))++cls.map fun x=>(x,.cls)
theorem kq {α β γ:Type} {f:Str × α->Str × β} (hf:∀ p,(f p).1=p.1) {g:Str × α->γ}:∀ {l:List (Str × α)} {x:Str} {b:β},(l.map f).lookup x=some b->∃ p∈l,p.1=x/\(f p).2=b/\l.lookup x=some p.2
 | [],_,_,h=>by simp at h
 | p::r,x,b,h=>by
  have e:f p=(p.1,(f p).2):=by rw [<- hf p]
  rw [ZF,e,ZZ] at h
  obtain ⟨y,a⟩:=p
  cases q:x==y with
  | true =>
   simp only [q] at h
   have e:x=y:=by simpa using q
   subst e
   exact ⟨(x,a),Zn,rfl,by simpa using h,by rw [ZZ,q]⟩
  | false =>
   simp only [q] at h
   obtain ⟨p,h1,h2,h3,h4⟩:=kq hf (g:=g) h
   exact ⟨p,Zm _ h1,h2,h3,by rw [ZZ,q]; exact h4⟩
theorem mX {β:Type}:∀ {l m:List (Str × β)} {x:Str},(l++m).lookup x=(match l.lookup x with|some b=>some b|none=>m.lookup x)
 | [],m,x=>by simp
 | (y,a)::r,m,x=>by
  rw [XE,ZZ,ZZ]
  cases x==y with
  | true=>rfl
  | false=>exact mX
theorem iZ {α:Type}:∀ {l:List (Str × α)} {x:Str} {a:α},l.lookup x=some a->(x,a)∈l
 | [],_,_,h=>by simp at h
 | (y,b)::r,x,a,h=>by
  rw [ZZ] at h
  cases q:x==y with
  | true =>
   rw [q] at h
   have e:x=y:=by simpa using q
   subst e
   have e:b=a:=by simpa using h
   subst e
   exact Zn
  | false=>rw [q] at h; exact Zm _ (iZ h)
theorem vI {K:PySem.W.Frag} {h:Heap} {mg:Str->Option Value} {fns:List (Str × Stmt)} {vals:List (Str × D)} {cls:List Str} (X:K.In h) (G:h.Ns mainGlobals mg) (hd:dD K fns) (hv:cj K vals) (hc:∀ x∈cls,ClsAt K x)
  (hb:∀ x∈dG,(dZ fns vals cls).lookup x=none->PySem.W.nsIn K mainGlobals x=some none):Txt K mg (dZ fns vals cls) fns where
 fn:=fun x hx=>by
  unfold dZ at hx
  rw [mX,mX] at hx
  cases q:(fns.map fun p=>(p.1,GE.fn)).lookup x with
  | some b =>
   obtain ⟨p,h1,h2,_,h4⟩:=kq (g:=fun _=>()) (f:=fun p=>(p.1,GE.fn)) (fun _=>rfl) q
   obtain ⟨y,st⟩:=p
   have h2:y=x:=h2
   subst h2
   obtain ⟨f,fd,a,F⟩:=hd.get h1
   exact ⟨st,f,fd,h4,Wq X G a,F⟩
  | none =>
   rw [q] at hx
   cases q2:(vals.map fun p=>(p.1,GE.val p.2)).lookup x with
   | some b =>
    rw [q2] at hx
    obtain ⟨p,h1,h2,h3,_⟩:=kq (g:=fun _=>()) (f:=fun p=>(p.1,GE.val p.2)) (fun _=>rfl) q2
    have hx:b=.fn:=by simpa using hx
    rw [hx] at h3; cases h3
   | none =>
    rw [q2] at hx
    have hm:=iZ hx
    obtain ⟨p,_,e⟩:=ZA.mp hm; cases e
 blt:=fun x hx hn=>PySem.W.mg_none_of X G (hb x hx hn)
 val:=fun x d hx=>by
  have hm:=iZ hx
  unfold dZ at hm
  rcases ZR.mp hm with hm|hm
  ·rcases ZR.mp hm with hm|hm
   ·obtain ⟨p,hp,e⟩:=ZA.mp hm; cases e
   ·obtain ⟨p,hp,e⟩:=ZA.mp hm
    cases e
    obtain ⟨u,v,a,r,q⟩:=hv.get hp
    exact ⟨u,v,Wq X G a,r,q⟩
  ·obtain ⟨p,_,e⟩:=ZA.mp hm; cases e
 cls:=fun x hx=>by
  have hm:=iZ hx
  unfold dZ at hm
  have hx:x∈cls:=by
   rcases ZR.mp hm with hm|hm
   ·rcases ZR.mp hm with hm|hm
    ·obtain ⟨p,_,e⟩:=ZA.mp hm; cases e
    ·obtain ⟨p,_,e⟩:=ZA.mp hm; cases e
   ·obtain ⟨p,hp,e⟩:=ZA.mp hm; cases e; exact hp
  exact ⟨hc x hx,fun C a=>Wq X G a⟩
theorem E6 {K:PySem.W.Frag} {H:Hp} {a:Addr} {ns:List Int} (hO:gO H) (hS:SqL K H a (ns.map V.int)):ao ⟨K⟩ [] H []/\av ⟨K⟩ [] H [.fro (ns.map .int)] [.ref a]:=by
 refine ⟨⟨rfl,QU,fun l c h=>by simp at h⟩,.cons ?_ .nil⟩
 have hp:av ⟨K⟩ [] H (ns.map D.int) (ns.map V.int):=jX ns
 have hf:Fro K H a (ns.map V.int):=by
  rcases hS with (h|⟨o,h⟩)|h
  ·rcases hO a with z|⟨o,xs,z⟩
   ·rw [h] at z; cases z
   ·rw [h] at z; cases z
  ·exact .inl ⟨o,h⟩
  ·exact .inr fun H=>.inr h
 exact .fro hf (by simp) fun i d v e1 e2=>by
  obtain ⟨y,e,f⟩:=Paired.get hp e1
  rw [e2] at e; cases e; exact f
theorem CT {fns:List (Str × Stmt)} {gt:List (Str × GE)} {Pd:Prg} (hP:fns.map (fun p=>(p.1,trF gt p.2))=Pd.map fun p=>(p.1,some p.2)):∀ x st,fns.lookup x=some st->∃ F,trF gt st=some F/\Pd.lookup x=some F:=by
 have all:∀ (fns:List (Str × Stmt)) (Pd:Prg),(fns.map (fun p=>(p.1,trF gt p.2))=Pd.map fun p=>(p.1,some p.2))->∀ x st,fns.lookup x=some st->∃ F,trF gt st=some F/\Pd.lookup x=some F:=by
  intro fns
  induction fns with
  | nil=>intro Pd _ x st h; simp at h
  | cons p r ih =>
   intro Pd hP x st h
   cases Pd with
   | nil=>simp at hP
   | cons F Pd =>
    obtain ⟨y,st0⟩:=p
    obtain ⟨y2,F⟩:=F
    rw [ZF,ZF] at hP
    injection hP with e1 e2
    have e1a:y=y2:=Xm Prod.fst e1
    have e1b:trF gt st0=some F:=Xm Prod.snd e1
    subst e1a
    rw [ZZ] at h
    rw [ZZ]
    cases q:x==y with
    | true =>
     rw [q] at h
     have h:st0=st:=by simpa using h
     subst h
     exact ⟨F,e1b,rfl⟩
    | false=>rw [q] at h; exact ih Pd e2 x st h
 exact all fns Pd hP
theorem Fg {l:PySem.W.OpenLaw} {q:Program} {loose:List Str} {XP:(Str->Option Value)->Heap->Prop} {YP:World->Heap->Prop} {d:DefRec} {K:Params->PySem.W.Frag} {fns:List (Str × Stmt)} {vals:List (Str × D)} {cls:List Str} {Pd:Prg} {sub:Sub} {n:Nat} {st:Stmt} {x:Str}
  (hn:l.most=some 63) (hdf:d.params.defaults=[]) (hr:bP n callerA) (hY:∀ (w:World) (h:Heap),YP w h->(K w.params).In h)
  (hP:fns.map (fun p=>(p.1,trF (dZ fns vals cls) p.2))=Pd.map fun p=>(p.1,some p.2)) (hL:fns.lookup d.name=some st) (hx:argNames (cW st)=[x])
  (hT:∀ w:World,∀ h:Heap,(K w.params).In h->dD (K w.params) fns/\cj (K w.params) vals/\bQ (K w.params) cls/\∀ x∈dG,(dZ fns vals cls).lookup x=none->PySem.W.nsIn (K w.params) mainGlobals x=some none)
  (hmain:∀ ns:List Int,ns.length<=63->∃ S',ah sub Pd n d.name [.fro (ns.map .int)] []=.ok (.bl true) S') :
  PySem.W.WalkO q loose XP YP l.row.toRowW d [] (fun f vs=>PySem.call f vs):=by
 have hP':=CT hP
 refine L2.o6 (n:=63) (k:=n) (x:=x) (CX:=fun w=>CXe l.prog w) (sp:=fun w=>spF ⟨K w.params⟩ (fun _=>True) (EWx (K w.params)) (ah sub Pd n d.name) 1) hn (by decide) hdf hr hY (fun w mg fa h KX G hmg=>?_) (fun w H a ns hl hO hS=>?_) fun _ _ _ _ _ ⟨_,_,_,_,_,_,_,_,_,_,_,_,z⟩=>z
 ·obtain ⟨h1,h2,h4,h3⟩:=hT w h KX
  have T:=vI KX G h1 h2 (fun x hx=>h4.get hx) h3
  obtain ⟨f,fd,a,F⟩:=h1.get (iZ hL)
  have e:=hmg.symm.trans (Wq KX G a)
  cases e
  refine ⟨fd,fun s u=>?_,fun base kb nb=>?_⟩
  ·obtain ⟨F2,hF2,_⟩:=hP' d.name st hL
   obtain ⟨oc,od,kV,doc,pm,an,cdv,ct,osl,rfl,lk,hcd⟩:=F.ex
   cases st with
   | FunctionDef x1 a1 dI e1 e2 e3 sc1 e4 e5 e6 =>
    have hF2:(if c7 a1 sc1=true then (cJ (trS depth depth (fu (dZ fns vals cls) a1 sc1)) dI).map fun b=>(⟨(argNames a1).length,(namesOf a1 sc1).length,b⟩:Fn) else none)=some F2:=hF2
    by_cases hs1:c7 a1 sc1=true
    ·obtain ⟨SC1,hpl1⟩:=lM hs1
     have nd1:(argNames a1).Nodup:=by rw [<- SC1.pre]; exact SC1.nd.sublist (Wr _ _)
     have hx:argNames a1=[x]:=hx
     have:=tX (x:=d.name) (qual:=d.name) (body:=dI) (sc:=sc1) (kV:=kV) (doc:=doc) (pm:=pm) (cdv:=cdv) (ct:=ct) (an:=an) hpl1 nd1 (us:=[u]) (by rw [hx]; rfl)
     rw [hx] at this
     exact .of_eq this
    ·rw [Zf hs1] at hF2; cases hF2
   | _=>cases hF2
  ·have T':=vI kb nb h1 h2 (fun x hx=>h4.get hx) h3
   have:=Ab (sub:=sub) (P:=l.prog) (w:=w) (base:=base) T' (W:=fun _=>True) (fun _=>trivial) hP' n d.name st fa fd hL F
   rw [hx] at this
   exact this
 ·obtain ⟨hs,rs⟩:=E6 hO hS
  obtain ⟨S',hm⟩:=hmain ns hl
  refine ⟨rfl,XF,trivial,funext fun _=>funext fun _=>funext fun _=>propext ⟨fun z=>z.elim,fun z=>(ewF z).elim⟩,[],[],[.fro (ns.map .int)],hs,rs,?_⟩
  rw [hm]
  intro ι' H' _ _ v r
  cases r
  rfl
end EV

namespace EV
open PySem
variable {α β:Type}
noncomputable def Res.bind (r:Res α) (f:α->af->Res β):Res β:=match r with
 | .ok a S=>f a S
 | .exc c S=>.exc c S
 | .bad=>.bad
@[simp] theorem Res.aj (a:α) (S:af) (f:α->af->Res β):(Res.ok a S).bind f=f a S:=id rfl
@[simp] theorem Res.cB (c:Str) (S:af) (f:α->af->Res β):(Res.exc c S:Res α).bind f=.exc c S:=id rfl
@[simp] theorem Res.aT (f:α->af->Res β):(Res.bad:Res α).bind f=.bad:=id rfl
theorem aq (m:M α) (f:α->M β) (S:af):(m>>=f) S=(m S).bind fun a S'=>f a S':=by
 rw [cT]; cases m S <;> rfl
@[simp] theorem F6 (a:α) (S:af):(pure a:M α) S=.ok a S:=id rfl
@[simp] theorem jV (b:Bool) (m:M α) (S:af):guard b m S=if b=true then m S else .bad:=by cases b <;> rfl
@[simp] theorem cD (a:α) (S:af):opt (some a) S=.ok a S:=id rfl
@[simp] theorem oO (c:Cell) (S:af):alloc c S=.ok (.loc S.length) (S++[c]):=id rfl
theorem G9 (m:M α) (S:af):quiet m S=match m S with|.ok a S'=>.ok a S'|_=>.bad:=rfl
theorem eu {m:M α} {S S':af} {a:α} (h:m S=.ok a S'):quiet m S=.ok a S':=by rw [G9,h]
section
variable (sub:Sub) (cf:Str->List D->M D) (σ:Sg) (S:af)
@[simp] theorem xZ (i:Nat):ev sub cf (.v i) σ S=bx σ i S:=id rfl
@[simp] theorem xq (o:Op2) (a b:E):ev sub cf (.bin o a b) σ S=(ev sub cf a σ S).bind fun x S1=>(ev sub cf b σ S1).bind fun y S2=>opD o x y S2:=by
 show (ev sub cf a σ>>=fun x=>ev sub cf b σ>>=fun y=>opD o x y) S=_
 simp only [aq]
@[simp] theorem qa (o:Cm) (a b:E):ev sub cf (.cmp o a b) σ S=(ev sub cf a σ S).bind fun x S1=>(ev sub cf b σ S1).bind fun y S2=>cmD o x y S2:=by
 show (ev sub cf a σ>>=fun x=>ev sub cf b σ>>=fun y=>cmD o x y) S=_
 simp only [aq]
@[simp] theorem yy (o o':Cm) (a b c:E):ev sub cf (.chn o o' a b c) σ S=(ev sub cf a σ S).bind fun x S1=>(ev sub cf b σ S1).bind fun y S2=>(cmD o x y S2).bind fun r S3=>match r with
  | .bl true=>(ev sub cf c σ S3).bind fun z S4=>cmD o' y z S4
  | .bl false=>.ok (.bl false) S3
  | _=>.bad:=by
 show (ev sub cf a σ>>=fun x=>ev sub cf b σ>>=fun y=>cmD o x y>>=fun r=>match r with|.bl true=>ev sub cf c σ>>=fun z=>cmD o' y z|.bl false=>pure (D.bl false)|_=>bad) S=_
 simp only [aq]
 congr 1; funext x S1; congr 1; funext y S2; congr 1; funext r S3
 cases r <;> first|rfl|(rename_i b; cases b <;> simp [aq])
@[simp] theorem xV (a b:E):ev sub cf (.and a b) σ S=(ev sub cf a σ S).bind fun r S1=>match r with|.bl true=>ev sub cf b σ S1|.bl false=>.ok (.bl false) S1|_=>.bad:=by
 show (ev sub cf a σ>>=fun r=>match r with|.bl true=>ev sub cf b σ|.bl false=>pure (D.bl false)|_=>bad) S=_
 rw [aq]; congr 1; funext r S1
 cases r <;> first|rfl|(rename_i b; cases b <;> rfl)
@[simp] theorem FN (a:E):ev sub cf (.neg a) σ S=(ev sub cf a σ S).bind fun r S1=>match r with|.int i=>.ok (.int (-i)) S1|_=>.bad:=by
 show (ev sub cf a σ>>=fun r=>match r with|.int i=>pure (D.int (-i))|_=>bad) S=_
 rw [aq]; congr 1; funext r S1; cases r <;> rfl
@[simp] theorem oh (c a b:E):ev sub cf (.ite c a b) σ S=(evT sub cf c σ S).bind fun k S1=>if k=true then ev sub cf a σ S1 else ev sub cf b σ S1:=by
 show (evT sub cf c σ>>=fun k=>if k=true then ev sub cf a σ else ev sub cf b σ) S=_
 rw [aq]; congr 1; funext k S1; cases k <;> rfl
@[simp] theorem BZ:evs sub cf .nl σ S=.ok [] S:=id rfl
@[simp] theorem vB (a r:E):evs sub cf (.cs a r) σ S=(ev sub cf a σ S).bind fun x S1=>(evs sub cf r σ S1).bind fun xs S2=>.ok (x::xs) S2:=by
 show (ev sub cf a σ>>=fun x=>evs sub cf r σ>>=fun xs=>pure (x::xs)) S=_
 simp only [aq]; rfl
@[simp] theorem zQ (es:E):ev sub cf (.tup es) σ S=(evs sub cf es σ S).bind fun ds S1=>if fits ds.length=true then .ok (.tup ds) S1 else .bad:=by
 show (evs sub cf es σ>>=fun ds=>guard (fits ds.length) (pure (D.tup ds))) S=_
 rw [aq]; simp only [jV,F6]
@[simp] theorem xW (es:E):ev sub cf (.lst es) σ S=(evs sub cf es σ S).bind fun ds S1=>if fits ds.length=true then .ok (.loc S1.length) (S1++[.lst ds]) else .bad:=by
 show (evs sub cf es σ>>=fun ds=>guard (fits ds.length) (alloc (.lst ds))) S=_
 rw [aq]; simp only [jV,oO]
@[simp] theorem Gd (a i:E):ev sub cf (.ix a i) σ S=(ev sub cf a σ S).bind fun x S1=>(ev sub cf i σ S1).bind fun y S2=>ixD x y S2:=by
 show (ev sub cf a σ>>=fun x=>ev sub cf i σ>>=fun y=>ixD x y) S=_
 simp only [aq]
noncomputable def gP (e:E) (S:af):Res (Option Int):=if e.aY=true then .ok none S else (ev sub cf e σ S).bind fun d S1=>fK d S1
@[simp] theorem Es (a lo hi:E):ev sub cf (.sl a lo hi) σ S=(ev sub cf a σ S).bind fun x S1=>(gP sub cf σ lo S1).bind fun l S2=>(gP sub cf σ hi S2).bind fun h S3=>slD x l h S3:=by
 show (ev sub cf a σ>>=fun x=>(if lo.aY=true then pure none else ev sub cf lo σ>>=fK)>>=fun l=>(if hi.aY=true then pure none else ev sub cf hi σ>>=fK)>>=fun h=>slD x l h) S=_
 simp only [aq]
 congr 1; funext x S1
 unfold gP
 cases lo.aY <;> cases hi.aY <;> simp [aq]
@[simp] theorem FE (f:Str) (es:E):ev sub cf (.call f es) σ S=(evs sub cf es σ S).bind fun ds S1=>cf f ds S1:=by
 show (evs sub cf es σ>>=fun ds=>cf f ds) S=_
 rw [aq]
@[simp] theorem Bg (b:Bi) (es:E):ev sub cf (.bi b es) σ S=(evs sub cf es σ S).bind fun ds S1=>biD sub b ds S1:=by
 show (evs sub cf es σ>>=fun ds=>biD sub b ds) S=_
 rw [aq]
@[simp] theorem oE (m:Me) (o es:E):ev sub cf (.me m o es) σ S=(ev sub cf o σ S).bind fun x S1=>if x.c_ S1=true then (evs sub cf es σ S1).bind fun ds S2=>meD m x ds S2 else .bad:=by
 show (ev sub cf o σ>>=fun x=>ja x (evs sub cf es σ>>=fun ds=>meD m x ds)) S=_
 rw [aq]; congr 1; funext x S1
 show guard (x.c_ S1) (evs sub cf es σ>>=fun ds=>meD m x ds) S1=_
 rw [jV,aq]
theorem gJ (k:Nat) (el:E) (t:Tg) (it tt:E):ev sub cf (.comp k el t it tt) σ S=(evI sub cf it σ S).bind fun s S1=>(quiet (br s (fun d=>aO t d (σ++List.replicate k none)>>=fun σ'=>(if tt.aY=true then pure true else evT sub cf tt σ')>>=fun b=>if b=true then ev sub cf el σ'>>=fun y=>pure (some y) else pure none) s.its) S1).bind fun ys S2=>if fits ys.length=true then .ok (.loc S2.length) (S2++[.lst ys]) else .bad:=by
 show (evI sub cf it σ>>=fun s=>quiet (br s (fun d=>aO t d (σ++List.replicate k none)>>=fun σ'=>(if tt.aY=true then pure true else evT sub cf tt σ')>>=fun b=>if b=true then ev sub cf el σ'>>=fun y=>pure (some y) else pure none) s.its)>>=fun ys=>guard (fits ys.length) (alloc (.lst ys))) S=_
 simp only [aq,jV,oO]
@[simp] theorem ur (a b:E):evT sub cf (.and a b) σ S=(evT sub cf a σ S).bind fun k S1=>if k=true then evT sub cf b σ S1 else .ok false S1:=by
 show (evT sub cf a σ>>=fun k=>if k=true then evT sub cf b σ else pure false) S=_
 rw [aq]; congr 1; funext k S1; cases k <;> rfl
@[simp] theorem qZ (a b:E):evT sub cf (.or a b) σ S=(evT sub cf a σ S).bind fun k S1=>if k=true then .ok true S1 else evT sub cf b σ S1:=by
 show (evT sub cf a σ>>=fun k=>if k=true then pure true else evT sub cf b σ) S=_
 rw [aq]; congr 1; funext k S1; cases k <;> rfl
@[simp] theorem Gs (a:E):evT sub cf (.not a) σ S=(evT sub cf a σ S).bind fun k S1=>.ok (!k) S1:=by
 show (evT sub cf a σ>>=fun k=>pure (!k)) S=_
 rw [aq]; rfl
@[simp] theorem Et (o:Cm) (a b:E):evT sub cf (.cmp o a b) σ S=(ev sub cf a σ S).bind fun x S1=>(ev sub cf b σ S1).bind fun y S2=>(cmD o x y S2).bind fun r S3=>truth r S3:=by
 show (ev sub cf a σ>>=fun x=>ev sub cf b σ>>=fun y=>cmD o x y>>=fun r=>truth r) S=_
 simp only [aq]
@[simp] theorem GV (o o':Cm) (a b c:E):evT sub cf (.chn o o' a b c) σ S=(ev sub cf a σ S).bind fun x S1=>(ev sub cf b σ S1).bind fun y S2=>(cmD o x y S2).bind fun r S3=>(truth r S3).bind fun k S4=>if k=true then (ev sub cf c σ S4).bind fun z S5=>(cmD o' y z S5).bind fun r S6=>truth r S6 else .ok false S4:=by
 show (ev sub cf a σ>>=fun x=>ev sub cf b σ>>=fun y=>cmD o x y>>=fun r=>truth r>>=fun k=>if k=true then ev sub cf c σ>>=fun z=>cmD o' y z>>=fun r=>truth r else pure false) S=_
 simp only [aq]
 congr 1; funext x S1; congr 1; funext y S2; congr 1; funext r S3; congr 1; funext k S4
 cases k <;> simp [aq]
@[simp] theorem BF (a:E):evT sub cf (.isN a) σ S=(ev sub cf a σ S).bind fun r S1=>.ok (decide (r=.non)) S1:=by
 show (ev sub cf a σ>>=fun r=>pure (decide (r=.non))) S=_
 rw [aq]; rfl
@[simp] theorem Gq (a:E):evT sub cf (.notN a) σ S=(ev sub cf a σ S).bind fun r S1=>.ok (!decide (r=.non)) S1:=by
 show (ev sub cf a σ>>=fun r=>pure (!decide (r=.non))) S=_
 rw [aq]; rfl
@[simp] theorem w6 (f:Str) (es:E):evT sub cf (.call f es) σ S=(ev sub cf (.call f es) σ S).bind fun d S1=>truth d S1:=by
 show (ev sub cf (.call f es) σ>>=truth) S=_
 rw [aq]
@[simp] theorem w4 (b:Bi) (es:E):evT sub cf (.bi b es) σ S=(ev sub cf (.bi b es) σ S).bind fun d S1=>truth d S1:=by
 show (ev sub cf (.bi b es) σ>>=truth) S=_
 rw [aq]
@[simp] theorem EM (a:E):evI sub cf (.iSeq a) σ S=(ev sub cf a σ S).bind fun d S1=>srcOf d S1:=by
 show (ev sub cf a σ>>=srcOf) S=_
 rw [aq]
@[simp] theorem vh (a:E):evI sub cf (.iEnum a) σ S=(ev sub cf a σ S).bind fun d S1=>(srcOf d S1).bind fun s S2=>.ok { s with its:=num 0 s.its } S2:=by
 show (ev sub cf a σ>>=fun d=>srcOf d>>=fun s=>pure { s with its:=num 0 s.its }) S=_
 simp only [aq]; rfl
@[simp] theorem AQ (es:E):evI sub cf (.iRng es) σ S=(evs sub cf es σ S).bind fun ds S1=>(opt (b_ ds) S1).bind fun is S2=>.ok ⟨is.map .int,none,[]⟩ S2:=by
 show (evs sub cf es σ>>=fun ds=>opt (b_ ds)>>=fun is=>pure (⟨is.map .int,none,[]⟩:Src)) S=_
 simp only [aq]; rfl
@[simp] theorem DJ (e:E):exec sub cf (.ret e) σ S=(ev sub cf e σ S).bind fun d S1=>.ok (.rt d) S1:=by
 show (ev sub cf e σ>>=fun d=>pure (Fl.rt d)) S=_
 rw [aq]; rfl
@[simp] theorem rZ (t:Tg) (e:E):exec sub cf (.set t e) σ S=(ev sub cf e σ S).bind fun d S1=>(aO t d σ S1).bind fun σ' S2=>.ok (.nx σ') S2:=by
 show (ev sub cf e σ>>=fun d=>aO t d σ>>=fun σ'=>pure (Fl.nx σ')) S=_
 simp only [aq]; rfl
@[simp] theorem oB (e:E):exec sub cf (.ex e) σ S=(ev sub cf e σ S).bind fun _ S1=>.ok (.nx σ) S1:=by
 show (ev sub cf e σ>>=fun _=>pure (Fl.nx σ)) S=_
 rw [aq]; rfl
@[simp] theorem vF (c:E) (a b:EV.S):exec sub cf (.ite c a b) σ S=(evT sub cf c σ S).bind fun k S1=>if k=true then exec sub cf a σ S1 else exec sub cf b σ S1:=by
 show (evT sub cf c σ>>=fun k=>if k=true then exec sub cf a σ else exec sub cf b σ) S=_
 rw [aq]; congr 1; funext k S1; cases k <;> rfl
theorem wZ (t:Tg) (it:E) (b:EV.S):exec sub cf (.forS t it b) σ S=quiet (evI sub cf it σ>>=fun s=>forL s (fun d σ=>aO t d σ>>=fun σ'=>exec sub cf b σ') s.its σ) S:=rfl
noncomputable def ji (b:EV.S) (r:Res Fl):Res Fl:=r.bind fun f S1=>match f with|.nx σ'=>exec sub cf b σ' S1|f=>.ok f S1
@[simp] theorem zp (b:EV.S) (σ':Sg) (S1:af):ji sub cf b (.ok (.nx σ') S1)=exec sub cf b σ' S1:=id rfl
@[simp] theorem w9 (b:EV.S) (d:D) (S1:af):ji sub cf b (.ok (.rt d) S1)=.ok (.rt d) S1:=id rfl
@[simp] theorem qQ (a b:EV.S):exec sub cf (.seq a b) σ S=ji sub cf b (exec sub cf a σ S):=by
 show (exec sub cf a σ>>=fun f=>match f with|.nx σ'=>exec sub cf b σ'|f=>pure f) S=_
 rw [aq]; unfold ji; congr 1; funext f S1; cases f <;> rfl
end
theorem Cg {sub:Sub} {cf:Str->List D->M D} {σ σ':Sg} {S S':af} {a r:EV.S} (h:exec sub cf a σ S=.ok (.nx σ') S'):exec sub cf (.seq a r) σ S=exec sub cf r σ' S':=by
 rw [qQ,h,zp]
theorem Gw (σ:Sg) (i:Nat) (S:af):bx σ i S=match σ[i]? with|some (some d)=>.ok d S|_=>.bad:=by
 unfold bx
 cases σ[i]? with
 | none=>rfl
 | some x=>cases x <;> rfl
@[simp] theorem IA (d:D) (σ:Sg) (S:af):bx (some d::σ) 0 S=.ok d S:=id rfl
@[simp] theorem Iw (x:Option D) (σ:Sg) (i:Nat) (S:af):bx (x::σ) (i+1) S=bx σ i S:=id rfl
@[simp] theorem iK (i:Nat) (d:D) (σ:Sg) (S:af):aO (.one i) d σ S=.ok (σ.set i (some d)) S:=id rfl
@[simp] theorem lz (is:List Nat) (ds:List D) (σ:Sg) (S:af):aO (.many is) (.tup ds) σ S=if ds.length=is.length then .ok (bY is ds σ) S else .bad:=by
 show guard (decide (ds.length=is.length)) (pure (bY is ds σ)) S=_
 simp
@[simp] theorem fh (i j:Int) (S:af):opD .add (.int i) (.int j) S=.ok (.int (i+j)) S:=id rfl
@[simp] theorem dR (i j:Int) (S:af):opD .sub (.int i) (.int j) S=.ok (.int (i - j)) S:=id rfl
@[simp] theorem BY (i j:Int) (S:af):opD .mul (.int i) (.int j) S=if (small i||small j)=true then .ok (.int (i * j)) S else .bad:=by
 show guard _ _ S=_
 simp
@[simp] theorem Bd (i j:Int) (S:af):opD .fdiv (.int i) (.int j) S=if (decide (0 < j)&&decide (j < 1073741824))=true then .ok (.int (i / j)) S else .bad:=by
 show guard _ _ S=_
 simp
theorem Io (i j:Int) (S:af):opD .pow (.int i) (.int j) S=if (decide (0<=j)&&decide (j<=1000)&&decide (i.natAbs < 2 ^ 64))=true then .ok (.int (i ^ j.toNat)) S else .bad:=by
 show guard _ _ S=_
 simp
@[simp] theorem Fz (i j:Int) (S:af):opD .mod (.int i) (.int j) S=if 0 < j then .ok (.int (i % j)) S else .bad:=by
 show guard _ _ S=_
 simp
@[simp] theorem Hq {n:Nat} (h:n<=1000):fits n=true:=Zj (by unfold aI; omega)
@[simp] theorem kG (i j:Int) (S:af):cmD .lt (.int i) (.int j) S=.ok (.bl (decide (i < j))) S:=id rfl
@[simp] theorem iJ (i j:Int) (S:af):cmD .le (.int i) (.int j) S=.ok (.bl (decide (i<=j))) S:=id rfl
@[simp] theorem fD (i j:Int) (S:af):cmD .gt (.int i) (.int j) S=.ok (.bl (decide (j < i))) S:=id rfl
@[simp] theorem xF (i j:Int) (S:af):cmD .ge (.int i) (.int j) S=.ok (.bl (decide (j<=i))) S:=id rfl
theorem l_ (x y:D) (S:af):cmD .eq x y S=match eqD deep S x y with|some k=>.ok (.bl k) S|none=>.bad:=by
 show (eqM x y>>=fun b=>pure (D.bl b)) S=_
 rw [aq]
 unfold eqM
 cases eqD deep S x y <;> rfl
@[simp] theorem eF (i j:Int) (S:af):cmD .eq (.int i) (.int j) S=.ok (.bl (i==j)) S:=id rfl
@[simp] theorem mO (i j:Str) (S:af):cmD .eq (.str i) (.str j) S=.ok (.bl (i==j)) S:=id rfl
@[simp] theorem G_ (i j:Int) (S:af):cmD .ne (.int i) (.int j) S=.ok (.bl (!(i==j))) S:=id rfl
theorem cR {l:Nat} {ds:List D} {S:af} (h:S[l]?=some (.lst ds)):items (.loc l) S=.ok ds S:=by
 show (match listAt S l with|some ds=>Res.ok ds S|none=>.bad)=_
 unfold listAt; rw [h]
theorem kM (a:D) (j:Int) (S:af):ixD a (.int j) S=(items a S).bind fun xs S1=>opt (atI xs j) S1:=by
 show (items a>>=fun xs=>opt (atI xs j)) S=_
 rw [aq]
@[simp] theorem CC (xs:List D) (j:Int) (S:af):ixD (.tup xs) (.int j) S=opt (atI xs j) S:=by rw [kM]; rfl
@[simp] theorem xG (xs:List D) (j:Int) (S:af):ixD (.fro xs) (.int j) S=opt (atI xs j) S:=by rw [kM]; rfl
theorem ER {l:Nat} {xs:List D} {j:Int} {S:af} (h:S[l]?=some (.lst xs)):ixD (.loc l) (.int j) S=opt (atI xs j) S:=by rw [kM,cR h]; rfl
theorem kR {xs:List D} {j:Nat}:atI xs (j:Int)=xs[j]?:=by
 unfold atI ixN
 rw [Ze (by omega)]
 by_cases h:j < xs.length
 ·rw [Ze (by omega)]; simp
 ·rw [Zf (by omega)]; rw [X4 (by omega)]; rfl
@[simp] theorem kZ (xs:List D):atI xs 0=xs[0]?:=kR (j:=0)
@[simp] theorem lO (sub:Sub) (d:D) (S:af):biD sub .len [d] S=(items d S).bind fun ds S1=>.ok (.int ds.length) S1:=by
 show (items d>>=fun ds=>pure (D.int ds.length)) S=_
 rw [aq]; rfl
@[simp] theorem xh (sub:Sub) (t:Ty) (d:D) (S:af):biD sub (.inst t) [d] S=match fZ sub S d t with|some k=>.ok (.bl k) S|none=>.bad:=id rfl
@[simp] theorem yz (sub:Sub) (d:D) (S:af):biD sub .tuple [d] S=(items d S).bind fun ds S1=>.ok (.tup ds) S1:=by
 show (items d>>=fun ds=>pure (D.tup ds)) S=_
 rw [aq]; rfl
theorem qc (sub:Sub) (d:D) (S:af):biD sub .all [d] S=(items d S).bind fun ds S1=>(opt (cI ds) S1).bind fun bs S2=>.ok (.bl (bs.all id)) S2:=by
 show (items d>>=fun ds=>opt (cI ds)>>=fun bs=>pure (D.bl (bs.all id))) S=_
 simp only [aq]; rfl
theorem A5 (sub:Sub) (d:D) (S:af):biD sub .sum [d] S=(items d S).bind fun ds S1=>(opt (allInts ds) S1).bind fun is S2=>.ok (.int is.sum) S2:=by
 show (items d>>=fun ds=>opt (allInts ds)>>=fun is=>pure (D.int is.sum)) S=_
 simp only [aq]; rfl
theorem yL (sub:Sub) (d:D) (S:af):biD sub .max [d] S=(items d S).bind fun ds S1=>(opt (allInts ds) S1).bind fun is S2=>kQ is S2:=by
 show (items d>>=fun ds=>opt (allInts ds)>>=fun is=>kQ is) S=_
 simp only [aq]
theorem t_ {l:Nat} {ds:List D} {d:D} {S:af} (h:S[l]?=some (.lst ds)) (hz:ds.length < aI):meD .append (.loc l) [d] S=.ok .non (S.set l (.lst (ds++[d]))):=by
 show a_ l (fun ds=>guard (eN ds.length) (put l (.lst (ds++[d])))) S=_
 unfold a_
 rw [h]
 simp [eN,hz,put]
theorem sj {l k:Nat} {ds es:List D} {S:af} (h:S[l]?=some (.lst ds)) (h2:S[k]?=some (.lst es)) (hz:ds.length+es.length<=aI):meD .extend (.loc l) [.loc k] S=.ok .non (S.set l (.lst (ds++es))):=by
 show a_ l (fun ds=>a_ k fun es=>guard (fits (ds.length+es.length)) (put l (.lst (ds++es)))) S=_
 unfold a_
 rw [h]
 simp only
 rw [h2]
 simp [fits,hz,put]
@[simp] theorem dW (S T:af) (c:Cell):(S++c::T)[S.length]?=some c:=by simp
@[simp] theorem D4 (S T:af) (k:Nat):(S++T)[S.length+k]?=T[k]?:=by
 rw [ZJ (by omega)]; congr 1; omega
@[simp] theorem iB (S T:af) (c d:Cell):(S++c::T).set S.length d=S++d::T:=by simp
@[simp] theorem cF (S T:af):(S++T).take S.length=S:=by simp
theorem Ih {S T:af} {xs:List D} {d:D} (h:xs.length<=1000000):meD .append (.loc S.length) [d] (S++.lst xs::T)=.ok .non (S++.lst (xs++[d])::T):=by
 rw [t_ (ds:=xs) (dW S T _) (by unfold aI; omega),iB]
theorem d8 {s:Src} {S:af} (h:s.l=none\/∃ l,s.l=some l/\S[l]?=some (.lst s.raw)):aD s S=.ok () S:=by
 unfold aD
 rcases h with h|⟨l,h,h2⟩
 ·rw [h]; rfl
 ·rw [h]; unfold listAt; simp [h2]
theorem jh (s:Src) (f:D->Sg->M Fl) (σ:Sg) (S:af):forL s f [] σ S=(aD s S).bind fun _ S1=>.ok (.nx σ) S1:=by
 show (aD s>>=fun _=>pure (Fl.nx σ)) S=_
 rw [aq]; rfl
theorem gW (s:Src) (f:D->Sg->M Fl) (d:D) (ds:List D) (σ:Sg) (S:af):forL s f (d::ds) σ S=(aD s S).bind fun _ S1=>(f d σ S1).bind fun fl S2=>match fl with
  | .nx σ'=>forL s f ds σ' S2|.ct σ'=>forL s f ds σ' S2|.bk σ'=>.ok (.nx σ') S2|.rt d=>.ok (.rt d) S2:=by
 show (aD s>>=fun _=>f d σ>>=fun fl=>match fl with|.nx σ'=>forL s f ds σ'|.ct σ'=>forL s f ds σ'|.bk σ'=>pure (Fl.nx σ')|.rt d=>pure (Fl.rt d)) S=_
 simp only [aq]
 congr 1; funext _ S1; congr 1; funext fl S2; cases fl <;> rfl
theorem k9 (s:Src) (f:D->M (Option D)) (S:af):br s f [] S=(aD s S).bind fun _ S1=>.ok [] S1:=by
 show (aD s>>=fun _=>pure []) S=_
 rw [aq]; rfl
theorem j6 (s:Src) (f:D->M (Option D)) (d:D) (ds:List D) (S:af):br s f (d::ds) S=(aD s S).bind fun _ S1=>(f d S1).bind fun y S2=>(br s f ds S2).bind fun ys S3=>.ok (match y with|some y=>y::ys|none=>ys) S3:=by
 show (aD s>>=fun _=>f d>>=fun y=>br s f ds>>=fun ys=>pure (match y with|some y=>y::ys|none=>ys)) S=_
 simp only [aq]; rfl
theorem mq {s:Src} {f:D->M (Option D)} {g:D->Option D} {S:af} (hs:aD s S=.ok () S):∀ {its:List D},(∀ d∈its,f d S=.ok (g d) S)->br s f its S=.ok (its.filterMap g) S
 | [],_=>by rw [k9,hs]; rfl
 | d::ds,h=>by
  rw [j6,hs]
  simp only [Res.aj]
  rw [h d Zn]
  simp only [Res.aj]
  rw [mq hs fun e he=>h e (Zm _ he)]
  simp only [Res.aj,Xt]
  cases g d <;> rfl
theorem EI (S S':af) (d:D):iV S (.ok (.rt d) S')=leave S d S':=rfl
mutual
theorem vg:∀ {d:D} {n m:Nat},n<=m->d.low n=true->d.low m=true
 | .tup ds,n,m,h,q=>gF h q
 | .fro ds,n,m,h,q=>gF h q
 | .loc l,n,m,h,q=>Zj (ZI (Zo q) h)
 | .non,_,_,_,_=>rfl
 | .bl _,_,_,_,_=>rfl
 | .int _,_,_,_,_=>rfl
 | .str _,_,_,_,_=>rfl
 | .exn _,_,_,_,_=>rfl
theorem gF:∀ {ds:List D} {n m:Nat},n<=m->D.lows n ds=true->D.lows m ds=true
 | [],_,_,_,_=>rfl
 | d::r,n,m,h,q=>by
  rw [D.lows,Zq] at q ⊢
  exact ⟨vg h q.1,gF h q.2⟩
end
abbrev D.cl (d:D):Prop:=d.low 0=true
theorem bN {S S':af} {d:D} (h:d.cl) (ht:S'.take S.length=S):leave S d S'=.ok d S:=by
 unfold leave
 rw [Ze ht,Ze (vg (Xs _) h)]
theorem leave_new {S T:af} {ds:List D} {k:Nat} (h:T[k]?=some (.lst ds)) (hc:D.lows 0 ds=true):leave S (.loc (S.length+k)) (S++T)=.ok (.loc S.length) (S++[.lst ds]):=by
 unfold leave
 rw [Ze (by simp)]
 rw [Zf (by show ¬ decide (S.length+k < S.length)=true; simp)]
 simp only
 rw [D4,h]
 simp only
 rw [Ze (show Cell.low S.length (.lst ds)=true from gF (Xs _) hc)]
theorem mD {n:Nat}:∀ {ds:List D},D.lows n ds=true ↔ ∀ d∈ds,d.low n=true
 | []=>by simp [D.lows]
 | d::r=>by rw [D.lows,Zq,mD]; simp
theorem G6 {n:Nat} (is:List Int):D.lows n (is.map .int)=true:=mD.mpr fun d h=>by
 obtain ⟨i,_,rfl⟩:=ZA.mp h; rfl
theorem jU {α:Type} {n:Nat} {f:α->D} (hf:∀ a,(f a).low n=true) (l:List α):D.lows n (l.map f)=true:=mD.mpr fun d h=>by
 obtain ⟨i,_,rfl⟩:=ZA.mp h; exact hf i
theorem EO (is:List Bool):cI (is.map .bl)=some is:=by
 induction is with
 | nil=>rfl
 | cons i r ih=>simp [cI,ih]
section
variable {sub:Sub} {cf:Str->List D->M D} {σ:Sg} {S S1:af} {k i:Nat} {el it tt:E} {s:Src}
theorem De {g:D->D} {p:D->Bool} (hn:tt.aY=false) (hi:evI sub cf it σ S=.ok s S1) (hs:aD s S1=.ok () S1) (hp:∀ d∈s.its,evT sub cf tt ((σ++List.replicate k none).set i (some d)) S1=.ok (p d) S1)
  (hg:∀ d∈s.its,p d=true->ev sub cf el ((σ++List.replicate k none).set i (some d)) S1=.ok (g d) S1) (hz:s.its.length<=aI) :
  ev sub cf (.comp k el (.one i) it tt) σ S=.ok (.loc S1.length) (S1++[.lst ((s.its.filter p).map g)]):=by
 rw [gJ,hi]
 simp only [Res.aj]
 have:=mq (s:=s) (f:=fun d=>aO (.one i) d (σ++List.replicate k none)>>=fun σ'=>(if tt.aY=true then pure true else evT sub cf tt σ')>>=fun b=>if b=true then ev sub cf el σ'>>=fun y=>pure (some y) else pure none) (g:=fun d=>if p d=true then some (g d) else none) (S:=S1) hs (its:=s.its) (fun d hd=>by
  simp only [aq,iK,Res.aj,hn,Zu,ZK]
  rw [hp d hd]
  cases q:p d with
  | false=>simp
  | true=>simp [aq,hg d hd q])
 rw [eu this]
 have e:s.its.filterMap (fun d=>if p d=true then some (g d) else none)=(s.its.filter p).map g:=by
  induction s.its with
  | nil=>rfl
  | cons a r ih=>cases q:p a <;> simp [q,ih]
 rw [e]
 have hz':((s.its.filter p).map g).length<=aI:=by
  rw [Zd]; exact ZY (X5 _ _) hz
 simp only [Res.aj]
 rw [Ze (show fits ((s.its.filter p).map g).length=true from Zj hz')]
theorem uw {is:List Nat} {g:D->D} (hi:evI sub cf it σ S=.ok s S1) (hs:aD s S1=.ok () S1) (hg:∀ d∈s.its,∃ ds,d=.tup ds/\ds.length=is.length/\ev sub cf el (bY is ds (σ++List.replicate k none)) S1=.ok (g d) S1) (hz:s.its.length<=aI) :
  ev sub cf (.comp k el (.many is) it .nl) σ S=.ok (.loc S1.length) (S1++[.lst (s.its.map g)]):=by
 rw [gJ,hi]
 simp only [Res.aj]
 have:=mq (s:=s) (f:=fun d=>aO (.many is) d (σ++List.replicate k none)>>=fun σ'=>(if E.aY .nl=true then pure true else evT sub cf .nl σ')>>=fun b=>if b=true then ev sub cf el σ'>>=fun y=>pure (some y) else pure none) (g:=fun d=>some (g d)) (S:=S1) hs (its:=s.its) (fun d hd=>by
  obtain ⟨ds,rfl,hl,hd⟩:=hg d hd
  simp only [aq,lz,hl,Xj,Res.aj]
  show (ev sub cf el (bY is ds (σ++List.replicate k none))>>=fun y=>pure (some y)) S1=_
  rw [aq,hd]; rfl)
 rw [eu this]
 have e:s.its.filterMap (fun d=>some (g d))=s.its.map g:=by rw [<- List.filterMap_eq_map]; rfl
 rw [e]
 simp [fits,hz]
end
@[simp] theorem Ir (ds:List D) (S:af):srcOf (.tup ds) S=.ok ⟨ds,none,ds⟩ S:=id rfl
theorem eT {l:Nat} {ds:List D} {S:af} (h:S[l]?=some (.lst ds)):srcOf (.loc l) S=.ok ⟨ds,some l,ds⟩ S:=by
 show (items (.loc l)>>=fun ds=>pure (⟨ds,some l,ds⟩:Src)) S=_
 rw [aq,cR h]; rfl
theorem oX {sub:Sub} {S:af} {α:Type} (l:List α) (g:α->Bool):biD sub .all [.loc S.length] (S++[.lst (l.map fun a=>.bl (g a))])=.ok (.bl (l.all g)) (S++[.lst (l.map fun a=>.bl (g a))]):=by
 rw [qc,cR (ds:=l.map fun a=>D.bl (g a)) (dW S [] _)]
 simp only [Res.aj]
 rw [show cI (l.map fun a=>D.bl (g a))=some (l.map g) from by rw [<- EO,Z2]; rfl]
 simp [Wv]
section
variable {sub:Sub} {cf:Str->List D->M D} {σ:Sg} {S S1 S2:af} {t:Tg} {it:E} {b:EV.S} {s:Src} {fl:Fl}
noncomputable def bq (sub:Sub) (cf:Str->List D->M D) (t:Tg) (b:EV.S):D->Sg->M Fl:=fun d σ=>aO t d σ>>=fun σ'=>exec sub cf b σ'
theorem lF (i:Nat) (b:EV.S) (d:D) (σ:Sg) (S:af):bq sub cf (.one i) b d σ S=exec sub cf b (σ.set i (some d)) S:=by
 unfold bq; rw [aq]; rfl
theorem xS (is:List Nat) (b:EV.S) (ds:List D) (σ:Sg) (S:af) (h:ds.length=is.length):bq sub cf (.many is) b (.tup ds) σ S=exec sub cf b (bY is ds σ) S:=by
 unfold bq; rw [aq,lz,Ze h]; rfl
theorem dQ (hi:evI sub cf it σ S=.ok s S1) (hf:forL s (bq sub cf t b) s.its σ S1=.ok fl S2):exec sub cf (.forS t it b) σ S=.ok fl S2:=by
 rw [wZ]
 apply eu
 rw [aq,hi]
 exact hf
end
section
variable {sub:Sub} {cf:Str->List D->M D} {s:Src} {i j l:Nat} {e:E} {g:D->D}
noncomputable def fk (i:Nat) (its:List D) (σ:Sg):Sg:=match its.getLast? with
 | some d=>σ.set i (some d)
 | none=>σ
@[simp] theorem Ij (i:Nat) (σ:Sg):fk i [] σ=σ:=id rfl
theorem FL (i:Nat) (d:D) (its:List D) (σ:Sg):fk i (d::its) σ=fk i its (σ.set i (some d)):=by
 unfold fk
 rw [List.getLast?_cons]
 cases q:its.getLast? with
 | none=>rfl
 | some e=>simp [Wg]
theorem iy {α:Type} {S:List α} {l:Nat} {c:α} (h:S[l]?=some c):S.set l c=S:=by
 apply Q2
 intro k
 rw [List.getElem?_set]
 split
 ·rename_i e; subst e
  split
  ·exact h.symm
  ·rename_i h2; exact absurd (Zh.mp h).1 h2
 ·rfl
theorem get_set {α:Type} {S:List α} {l:Nat} {c d:α} (h:S[l]?=some c):(S.set l d)[l]?=some d:=by
 rw [Xh (Zh.mp h).1]
theorem Cd {σ:Sg} {S:af} {xs:List D} {d:D} (hj:σ[j]?=some (some (.loc l))) (hS:S[l]?=some (.lst xs)) (he:ev sub cf e σ S=.ok d S) (hz:xs.length < aI) :
  exec sub cf (.ex (.me .append (.v j) (.cs e .nl))) σ S=.ok (.nx σ) (S.set l (.lst (xs++[d]))):=by
 have hv:bx σ j S=.ok (.loc l) S:=by rw [Gw,hj]
 have hL:(D.loc l).c_ S=true:=by show (match S[l]? with|some (.lst _)=>true|_=>false)=true; rw [hS]
 simp only [oB,oE,xZ,hv,Res.aj,hL,Xj,vB,he,BZ,t_ hS hz]
theorem oA {α:Type} {f g:α->D} (hij:i≠j):∀ {ks:List α} {σ:Sg} {S:af} {xs:List D},σ[j]?=some (some (.loc l))->S[l]?=some (.lst xs)->(∀ ys,aD s (S.set l (.lst ys))=.ok () (S.set l (.lst ys))) ->
  (∀ a∈ks,∀ ys,ev sub cf e (σ.set i (some (f a))) (S.set l (.lst ys))=.ok (g a) (S.set l (.lst ys)))->xs.length+ks.length<=aI ->
  forL s (bq sub cf (.one i) (.ex (.me .append (.v j) (.cs e .nl)))) (ks.map f) σ S=.ok (.nx (fk i (ks.map f) σ)) (S.set l (.lst (xs++ks.map g)))
 | [],σ,S,xs,h1,h2,h3,h4,h5=>by
  have:=h3 xs
  rw [iy h2] at this
  rw [Qz,jh,this]
  simp [iy h2]
 | d::ks,σ,S,xs,h1,h2,h3,h4,h5=>by
  have hst:=h3 xs
  rw [iy h2] at hst
  rw [ZF,gW,hst]
  simp only [Res.aj,lF]
  have h1':(σ.set i (some (f d)))[j]?=some (some (.loc l)):=by rw [Z0 hij]; exact h1
  have hd:=h4 d Zn xs
  rw [iy h2] at hd
  rw [Cd h1' h2 hd (by simp at h5; omega)]
  simp only [Res.aj]
  rw [oA hij (xs:=xs++[g d]) h1' (get_set h2) (fun ys=>by rw [Wg]; exact h3 ys)
   (fun a ha ys=>by rw [Wg,Wg]; exact h4 a (Zm _ ha) ys) (by simp at h5 ⊢; omega)]
  rw [FL,Wg,ZF,Zr]
  rfl
end
theorem xj {i:Nat} {its:List D} {σ:Sg} (h:i < σ.length):∃ x,fk i its σ=σ.set i x:=by
 unfold fk
 cases its.getLast? with
 | some d=>exact ⟨_,rfl⟩
 | none=>exact ⟨σ[i],(iy (Zb h)).symm⟩
theorem BV {i:Int} (h1:-1000000000<=i) (h2:i<=1000000000):near i=true:=Zj ⟨by omega,by omega⟩
theorem GH (j:Int):rng 0 j 1=(List.range j.toNat).map fun (k:Nat)=>(k:Int):=by
 unfold rng
 rw [Ze (by decide)]
 have:(j - 0+1 - 1) / 1=j:=by rw [Qy]; omega
 rw [this]
 simp
theorem rY (i j:Int):rng i j 1=(List.range (j - i).toNat).map fun (k:Nat)=>i+(k:Int):=by
 unfold rng
 rw [Ze (by decide)]
 have:(j - i+1 - 1) / 1=j - i:=by rw [Qy]; omega
 rw [this]
 simp
theorem DR {j:Int} (h1:-1000000000<=j) (h2:j<=1000000000):b_ [.int j]=some ((List.range j.toNat).map fun (k:Nat)=>(k:Int)):=by
 show (if near j=true then some (rng 0 j 1) else none)=_
 rw [Ze (BV h1 h2),GH]
theorem mK {sub:Sub} {cf:Str->List D->M D} {i j l:Nat} {it e:E} {σ:Sg} {S S1:af} {xs:List D} {α:Type} {ks:List α} {f g:α->D} {o:Option Nat} {raw:List D}
  (hit:evI sub cf it σ S=.ok ⟨ks.map f,o,raw⟩ S1) (hj:σ[j]?=some (some (.loc l))) (hS:S1[l]?=some (.lst xs)) (hij:i≠j) (hi:i < σ.length) (hst:∀ ys,aD ⟨ks.map f,o,raw⟩ (S1.set l (.lst ys))=.ok () (S1.set l (.lst ys)))
  (he:∀ a∈ks,∀ ys,ev sub cf e (σ.set i (some (f a))) (S1.set l (.lst ys))=.ok (g a) (S1.set l (.lst ys))) (hz:xs.length+ks.length<=aI) :
  ∃ x,exec sub cf (.forS (.one i) it (.ex (.me .append (.v j) (.cs e .nl)))) σ S=.ok (.nx (σ.set i x)) (S1.set l (.lst (xs++ks.map g))):=by
 obtain ⟨x,hx⟩:=xj (i:=i) (its:=ks.map f) (σ:=σ) hi
 refine ⟨x,?_⟩
 rw [<- hx]
 exact dQ hit (oA hij hj hS hst he hz)
theorem DN {S:af} {a b:Nat} {xs ys:List D} (ha:S[a]?=some (.lst xs)) (hb:S[b]?=some (.lst ys)):eqD deep S (.loc a) (.loc b)=if xs.length=ys.length then bC (eqD 11 S) xs ys else some false:=by
 have e1:listAt S a=some xs:=by unfold listAt; rw [ha]
 have e2:listAt S b=some ys:=by unfold listAt; rw [hb]
 show (match listAt S a,listAt S b with|some xs,some ys=>if xs.length=ys.length then bC (eqD 11 S) xs ys else some false|_,_=>none)=_
 rw [e1,e2]
theorem o_ {S:af} {a b:Nat} {xs:List D} (ha:S[a]?=some (.lst xs)) (hb:S[b]?=some (.lst [])):cmD .eq (.loc a) (.loc b) S=.ok (.bl xs.isEmpty) S:=by
 rw [l_,DN ha hb]
 cases xs <;> simp [bC]
theorem rz {s:Src} {f:D->Sg->M Fl}:∀ {its:List D} (I:Nat->Sg->af->Prop) {σ:Sg} {S:af},I 0 σ S->(∀ i σ T,I i σ T->aD s T=.ok () T) ->
  (∀ i (h:i < its.length) σ T,I i σ T->∃ σ' T',f its[i] σ T=.ok (.nx σ') T'/\I (i+1) σ' T')->∃ σ' T',forL s f its σ S=.ok (.nx σ') T'/\I its.length σ' T'
 | [],I,σ,S,h0,h1,_=>⟨σ,S,by rw [jh,h1 0 σ S h0]; rfl,h0⟩
 | d::ds,I,σ,S,h0,h1,h2=>by
  obtain ⟨σ1,T1,e1,i1⟩:=h2 0 (by simp) σ S h0
  obtain ⟨σ2,T2,e2,i2⟩:=rz (its:=ds) (fun i=>I (i+1)) i1 (fun i=>h1 (i+1)) fun i hi=>h2 (i+1) (by simpa using hi)
  refine ⟨σ2,T2,?_,i2⟩
  rw [gW,h1 0 σ S h0]
  simp only [Res.aj]
  rw [show f d σ S=.ok (.nx σ1) T1 from e1]
  exact e2
theorem i6 {sub:Sub} {cf:Str->List D->M D} {t:Tg} {it:E} {b:EV.S} {σ:Sg} {S S1:af} {s:Src} (I:Nat->Sg->af->Prop) (hi:evI sub cf it σ S=.ok s S1) (h0:I 0 σ S1) (h1:∀ i σ T,I i σ T->aD s T=.ok () T)
  (h2:∀ i (h:i < s.its.length) σ T,I i σ T->∃ σ' T',bq sub cf t b s.its[i] σ T=.ok (.nx σ') T'/\I (i+1) σ' T'):∃ σ' T',exec sub cf (.forS t it b) σ S=.ok (.nx σ') T'/\I s.its.length σ' T':=by
 obtain ⟨σ',T',e,i⟩:=rz I h0 h1 h2
 exact ⟨σ',T',dQ hi e,i⟩
theorem kN {α:Type} {s:Src} {fn:D->M (Option D)} {f:α->D} {g:α->Option D} {S:af} (hs:aD s S=.ok () S):∀ {ks:List α},(∀ a∈ks,fn (f a) S=.ok (g a) S)->br s fn (ks.map f) S=.ok (ks.filterMap g) S
 | [],_=>by rw [Qz,k9,hs]; rfl
 | d::ds,h=>by
  rw [ZF,j6,hs]
  simp only [Res.aj]
  rw [h d Zn]
  simp only [Res.aj]
  rw [kN hs fun e he=>h e (Zm _ he)]
  simp only [Res.aj,Xt]
  cases g d <;> rfl
theorem fH {sub:Sub} {cf:Str->List D->M D} {σ:Sg} {S S1:af} {k i:Nat} {el it:E} {α:Type} {ks:List α} {f g:α->D} {o:Option Nat} {raw:List D} (hi:evI sub cf it σ S=.ok ⟨ks.map f,o,raw⟩ S1) (hs:aD ⟨ks.map f,o,raw⟩ S1=.ok () S1)
  (hg:∀ a∈ks,ev sub cf el ((σ++List.replicate k none).set i (some (f a))) S1=.ok (g a) S1) (hz:ks.length<=aI) :
  ev sub cf (.comp k el (.one i) it .nl) σ S=.ok (.loc S1.length) (S1++[.lst (ks.map g)]):=by
 rw [gJ,hi]
 simp only [Res.aj]
 have:=kN (s:=⟨ks.map f,o,raw⟩) (f:=f) (fn:=fun d=>aO (.one i) d (σ++List.replicate k none)>>=fun σ'=>(if E.aY .nl=true then pure true else evT sub cf .nl σ')>>=fun b=>if b=true then ev sub cf el σ'>>=fun y=>pure (some y) else pure none) (g:=fun a=>some (g a)) (S:=S1) hs (ks:=ks) (fun d hd=>by
  simp only [aq,iK,Res.aj]
  show (ev sub cf el ((σ++List.replicate k none).set i (some (f d)))>>=fun y=>pure (some y)) S1=_
  rw [aq,hg d hd]; rfl)
 rw [eu this]
 have e:ks.filterMap (fun d=>some (g d))=ks.map g:=by rw [<- List.filterMap_eq_map]; rfl
 rw [e]
 simp only [Res.aj]
 rw [Ze (show fits (ks.map g).length=true from Zj (by rw [Zd]; exact hz))]
section
variable {sub:Sub} {cf:Str->List D->M D} {σ:Sg} {S:af}
end
theorem nI (ds:List D):∀ (k i:Nat) (h:i < (num k ds).length),(num k ds)[i]=.tup [.int ((k+i:Nat):Int),ds[i]'(by have:(num k ds).length=ds.length:=(by clear h; induction ds generalizing k with|nil=>rfl|cons _ _ ih=>simp [num,ih]); omega)]:=by
 induction ds with
 | nil=>intro k i h; simp [num] at h
 | cons d r ih =>
  intro k i h
  cases i with
  | zero=>simp [num]
  | succ i =>
   simp only [num,List.getElem_cons_succ]
   rw [ih (k+1) i (by simpa [num] using h)]
   congr 3
   omega
theorem f6:∀ (ds:List D) (k:Nat),(num k ds).length=ds.length
 | [],_=>rfl
 | _::r,k=>by simp [num,f6 r]
end EV

namespace GO
open PySem EV
theorem jL {S:af} {l:Nat} {ds:List D} (h:S[l]?=some (.lst ds)):(D.loc l).c_ S=true:=by show (match S[l]? with|some (.lst _)=>true|_=>false)=true; rw [h]
theorem GZ (T:af) (ds:List D):(D.loc T.length).c_ (T++[.lst ds])=true:=jL (ds:=ds) (by simp)
theorem uX (T:af) (ds:List D) (G:af):(D.loc T.length).c_ (T++.lst ds::G)=true:=jL (ds:=ds) (by simp)
theorem Ig (T:af) (ds:List D) (G U:af):(D.loc T.length).c_ ((T++.lst ds::G)++U)=true:=by rw [Zr,XE]; exact uX _ _ _
section
variable {sub:Sub} {cf:Str->List D->M D} {σ σ1:Sg} {S S1 S2 S3:af} {R:Res D} {RF:Res Fl} {x y z d:D} {ds:List D} {a b c r es:E} {u v w:EV.S}
theorem r_v {i:Nat} (h:bx σ i S=.ok d S):ev sub cf (.v i) σ S=.ok d S:=h
theorem r_c:ev sub cf (.c d) σ S=.ok d S:=id rfl
theorem bg {o:Op2} (ha:ev sub cf a σ S=.ok x S1) (hb:ev sub cf b σ S1=.ok y S2) (h:opD o x y S2=R):ev sub cf (.bin o a b) σ S=R:=by rw [xq,ha,Res.aj,hb,Res.aj,h]
theorem aW {o:Cm} (ha:ev sub cf a σ S=.ok x S1) (hb:ev sub cf b σ S1=.ok y S2) (h:cmD o x y S2=R):ev sub cf (.cmp o a b) σ S=R:=by rw [qa,ha,Res.aj,hb,Res.aj,h]
theorem cZ (ha:ev sub cf a σ S=.ok (.bl true) S1) (hb:ev sub cf b σ S1=R):ev sub cf (.and a b) σ S=R:=by rw [xV,ha]; exact hb
theorem iY {i:Int} (ha:ev sub cf a σ S=.ok (.int i) S1):ev sub cf (.neg a) σ S=.ok (.int (-i)) S1:=by rw [FN,ha]; rfl
theorem BD (hc:evT sub cf c σ S=.ok true S1) (ha:ev sub cf a σ S1=R):ev sub cf (.ite c a b) σ S=R:=by rw [oh,hc,Res.aj,Ze rfl,ha]
theorem Ef (hc:evT sub cf c σ S=.ok false S1) (hb:ev sub cf b σ S1=R):ev sub cf (.ite c a b) σ S=R:=by rw [oh,hc,Res.aj,Zf (by decide),hb]
theorem ai:evs sub cf .nl σ S=.ok [] S:=id rfl
theorem aa (ha:ev sub cf a σ S=.ok x S1) (hr:evs sub cf r σ S1=.ok ds S2):evs sub cf (.cs a r) σ S=.ok (x::ds) S2:=by rw [vB,ha,Res.aj,hr,Res.aj]
theorem gp (hs:evs sub cf es σ S=.ok ds S1) (hz:fits ds.length=true):ev sub cf (.tup es) σ S=.ok (.tup ds) S1:=by rw [zQ,hs,Res.aj,Ze hz]
theorem cV (hs:evs sub cf es σ S=.ok ds S1) (hz:fits ds.length=true):ev sub cf (.lst es) σ S=.ok (.loc S1.length) (S1++[.lst ds]):=by rw [xW,hs,Res.aj,Ze hz]
theorem az (ha:ev sub cf a σ S=.ok x S1) (hb:ev sub cf b σ S1=.ok y S2) (h:ixD x y S2=R):ev sub cf (.ix a b) σ S=R:=by rw [Gd,ha,Res.aj,hb,Res.aj,h]
theorem u0 {lo hi:E} {p q:Option Int} (ha:ev sub cf a σ S=.ok x S1) (hl:gP sub cf σ lo S1=.ok p S2) (hh:gP sub cf σ hi S2=.ok q S3) (h:slD x p q S3=R):ev sub cf (.sl a lo hi) σ S=R:=by
 rw [Es,ha,Res.aj,hl,Res.aj,hh,Res.aj,h]
theorem au {f:Str} (hs:evs sub cf es σ S=.ok ds S1) (h:cf f ds S1=R):ev sub cf (.call f es) σ S=R:=by rw [FE,hs,Res.aj,h]
theorem aN {o:Bi} (hs:evs sub cf es σ S=.ok ds S1) (h:biD sub o ds S1=R):ev sub cf (.bi o es) σ S=R:=by rw [Bg,hs,Res.aj,h]
theorem lC {m:Me} {l:Nat} (ha:ev sub cf a σ S=.ok (.loc l) S1) (hs:evs sub cf es σ S1=.ok ds S2) (h:meD m (.loc l) ds S2=R) (hL:(D.loc l).c_ S1=true:=by first|assumption|exact GZ _ _|exact uX _ _ _|exact jL (by assumption)):ev sub cf (.me m a es) σ S=R:=by
 rw [oE,ha,Res.aj,Ze hL,hs,Res.aj,h]
theorem lH {k:Bool} (h:ev sub cf a σ S=.ok (.bl k) S1) (ht:evT sub cf a σ S=(ev sub cf a σ S).bind fun d S1=>truth d S1):evT sub cf a σ S=.ok k S1:=by rw [ht,h]; rfl
theorem bH {f:Str} {k:Bool} (h:ev sub cf (.call f es) σ S=.ok (.bl k) S1):evT sub cf (.call f es) σ S=.ok k S1:=lH h (w6 _ _ _ _ _ _)
theorem eY {o:Bi} {k:Bool} (h:ev sub cf (.bi o es) σ S=.ok (.bl k) S1):evT sub cf (.bi o es) σ S=.ok k S1:=lH h (w4 _ _ _ _ _ _)
theorem aX {o:Cm} {k:Bool} (h:ev sub cf (.cmp o a b) σ S=.ok (.bl k) S1):evT sub cf (.cmp o a b) σ S=.ok k S1:=lH h (by
 rw [Et,qa]; cases ev sub cf a σ S <;> simp [Res.bind]; rename_i q Q; cases ev sub cf b σ Q <;> simp [Res.bind])
theorem dz {k:Bool} (ha:evT sub cf a σ S=.ok true S1) (hb:evT sub cf b σ S1=.ok k S2):evT sub cf (.and a b) σ S=.ok k S2:=by rw [ur,ha,Res.aj,Ze rfl,hb]
theorem fG (ha:evT sub cf a σ S=.ok false S1):evT sub cf (.and a b) σ S=.ok false S1:=by rw [ur,ha,Res.aj,Zf (by decide)]
theorem qB (ha:evT sub cf a σ S=.ok true S1):evT sub cf (.or a b) σ S=.ok true S1:=by rw [qZ,ha,Res.aj,Ze rfl]
theorem b6 {k:Bool} (ha:evT sub cf a σ S=.ok false S1) (hb:evT sub cf b σ S1=.ok k S2):evT sub cf (.or a b) σ S=.ok k S2:=by rw [qZ,ha,Res.aj,Zf (by decide),hb]
theorem bf {k:Bool} (ha:evT sub cf a σ S=.ok k S1):evT sub cf (.not a) σ S=.ok (!k) S1:=by rw [Gs,ha,Res.aj]
theorem t_k {k k':Bool} (h:evT sub cf a σ S=.ok k' S1) (e:k'=k):evT sub cf a σ S=.ok k S1:=by rw [h,e]
theorem zz (h:Nat.ble ds.length 1000=true):fits ds.length=true:=Hq (Nat.le_of_ble_eq_true h)
theorem lK {i j:Int} (h:0 < j):opD .mod (.int i) (.int j) S=.ok (.int (i % j)) S:=by rw [Fz,Ze h]
theorem u7 {i j:Int} (h:(small i||small j)=true):opD .mul (.int i) (.int j) S=.ok (.int (i * j)) S:=by rw [BY,Ze h]
theorem uR {i:Int} (h:-1000000000000 < i/\i < 1000000000000):small i=true:=Zj ⟨by omega,by omega⟩
theorem jd {i j:Int} (h:-1000000000000 < i/\i < 1000000000000):opD .mul (.int i) (.int j) S=.ok (.int (i * j)) S:=u7 (by rw [uR h,Bool.true_or])
theorem sR {i j:Int} (h:-1000000000000 < j/\j < 1000000000000):opD .mul (.int i) (.int j) S=.ok (.int (i * j)) S:=u7 (by rw [uR h,Bool.or_true])
theorem uB {i j:Int} (h:0 < j/\j < 1073741824):opD .fdiv (.int i) (.int j) S=.ok (.int (i / j)) S:=by rw [Bd,Ze (by rw [Zj h.1,Zj h.2]; rfl)]
theorem aB {xs:List D} {j:Int} (h:atI xs j=some d):ixD (.tup xs) (.int j) S=.ok d S:=by rw [CC,h,cD]
theorem nY {xs:List D} {j:Int} (h:atI xs j=some d):ixD (.fro xs) (.int j) S=.ok d S:=by rw [xG,h,cD]
theorem i8 {xs:List D} {j:Int} {l:Nat} (hl:S[l]?=some (.lst xs)) (h:atI xs j=some d):ixD (.loc l) (.int j) S=.ok d S:=by rw [ER hl,h,cD]
theorem eW {xs:List D}:biD sub .len [.tup xs] S=.ok (.int xs.length) S:=by rw [lO]; rfl
theorem uK {xs:List D}:biD sub .len [.fro xs] S=.ok (.int xs.length) S:=by rw [lO]; rfl
theorem jR {xs:List D} {l:Nat} (hl:S[l]?=some (.lst xs)):biD sub .len [.loc l] S=.ok (.int xs.length) S:=by rw [lO,cR hl]; rfl
theorem eB {xs:List D} {l:Nat} (hl:S[l]?=some (.lst xs)):biD sub .tuple [.loc l] S=.ok (.tup xs) S:=by rw [yz,cR hl]; rfl
theorem f7 {t:Ty} {k:Bool} (h:fZ sub S x t=some k):biD sub (.inst t) [x] S=.ok (.bl k) S:=by rw [xh,h]
theorem aG {α:Type} (T:List α) (c:α):(T++[c])[T.length]?=some c:=by simp
theorem Ff {T:af} {xs:List D} {j:Int} (h:atI xs j=some d):ixD (.loc T.length) (.int j) (T++[.lst xs])=.ok d (T++[.lst xs]):=i8 (aG T _) h
theorem uT {T:af} {xs:List D}:biD sub .tuple [.loc T.length] (T++[.lst xs])=.ok (.tup xs) (T++[.lst xs]):=eB (aG T _)
theorem uY {T:af} {xs:List D}:biD sub .len [.loc T.length] (T++[.lst xs])=.ok (.int xs.length) (T++[.lst xs]):=jR (aG T _)
theorem cy {s:Src} (ha:ev sub cf a σ S=.ok x S1) (h:srcOf x S1=.ok s S2):evI sub cf (.iSeq a) σ S=.ok s S2:=by rw [EM,ha,Res.aj,h]
theorem n9 {is:List Int} (hs:evs sub cf es σ S=.ok ds S1) (h:b_ ds=some is):evI sub cf (.iRng es) σ S=.ok ⟨is.map .int,none,[]⟩ S1:=by rw [AQ,hs,Res.aj,h,cD,Res.aj]
theorem gA {j:Int} {k:Nat} {f:Nat->D} (hs:evs sub cf es σ S=.ok [.int j] S1) (hj:j=(k:Int)) (hk:k<=1000000) (hf:∀ i:Nat,f i=.int (i:Int)):evI sub cf (.iRng es) σ S=.ok ⟨(List.range k).map f,none,[]⟩ S1:=by
 subst hj
 rw [n9 hs (DR (by omega) (by omega)),Z5,Z2,show (D.int ∘ fun k:Nat=>(k:Int))=f from funext fun i=>(hf i).symm]
theorem aF {i:Nat} (h:ev sub cf a σ S=.ok d S1):exec sub cf (.set (.one i) a) σ S=.ok (.nx (σ.set i (some d))) S1:=by rw [rZ,h,Res.aj,iK,Res.aj]
theorem Ba {is:List Nat} (h:ev sub cf a σ S=.ok (.tup ds) S1) (hl:ds.length=is.length):exec sub cf (.set (.many is) a) σ S=.ok (.nx (bY is ds σ)) S1:=by rw [rZ,h,Res.aj,lz,Ze hl,Res.aj]
theorem fq (h:ev sub cf a σ S=.ok d S1):exec sub cf (.ex a) σ S=.ok (.nx σ) S1:=by rw [oB,h,Res.aj]
theorem aE (h:ev sub cf a σ S=.ok d S1):exec sub cf (.ret a) σ S=.ok (.rt d) S1:=by rw [DJ,h,Res.aj]
theorem cM (hc:evT sub cf c σ S=.ok true S1) (h:exec sub cf u σ S1=RF):exec sub cf (.ite c u v) σ S=RF:=by rw [vF,hc,Res.aj,Ze rfl,h]
theorem aK (hc:evT sub cf c σ S=.ok false S1) (h:exec sub cf v σ S1=RF):exec sub cf (.ite c u v) σ S=RF:=by rw [vF,hc,Res.aj,Zf (by decide),h]
theorem ak (hu:exec sub cf u σ S=.ok (.nx σ1) S1) (h:exec sub cf v σ1 S1=RF):exec sub cf (.seq u v) σ S=RF:=(Cg hu).trans h
theorem dm (hu:exec sub cf u σ S=.ok (.rt d) S1):exec sub cf (.seq u v) σ S=.ok (.rt d) S1:=by rw [qQ,hu,w9]
theorem aL:exec sub cf .skip σ S=.ok (.nx σ) S:=id rfl
theorem x_call {P:Prg} {n:Nat} {f:Str} {F:Fn} (hP:P.lookup f=some F) (hl:ds.length=F.par) (hb:exec sub (ah sub P n) F.body (frame F ds) S=.ok (.rt d) S1) (h:leave S d S1=R):ah sub P (n+1) f ds S=R:=by
 rw [tU hP hl,hb,EI,h]
theorem fQ {s:Src} {f:D->Sg->M Fl} {ds:List D} (hs:aD s S=.ok () S) (hb:f d σ S=.ok (.nx σ1) S1) (h:forL s f ds σ1 S1=RF):forL s f (d::ds) σ S=RF:=by
 rw [gW,hs,Res.aj,hb]; exact h
theorem d7 {i:Nat} (h:exec sub cf u (σ.set i (some d)) S=RF):bq sub cf (.one i) u d σ S=RF:=(lF i u d σ S).trans h
theorem nv {is:List Nat} (hl:ds.length=is.length) (h:exec sub cf u (bY is ds σ) S=RF):bq sub cf (.many is) u (.tup ds) σ S=RF:=(xS is u ds σ S hl).trans h
theorem xY {P:Prg} {n:Nat} {f:Str} {F:Fn} (hP:P.lookup f=some F) (hl:ds.length=F.par) (hb:exec sub (ah sub P n) F.body (frame F ds) S=RF) (h:∃ S',RF=.ok (.rt d) S'/\S'.take S.length=S) (hc:d.cl):ah sub P (n+1) f ds S=.ok d S:=by
 obtain ⟨S',e,ht⟩:=h
 exact x_call hP hl (hb.trans e) (bN hc ht)
end
end GO

namespace RL
open PySem EV GO
noncomputable def mT:Fn:=⟨3,3,(.seq (.ite (.or (.not (.bi (.inst .int) (.cs (.v 0) .nl))) (.bi (.inst .bool) (.cs (.v 0) .nl)))
  (.ret (.c (.bl false)))
  .skip)
 (.ret (.chn .le .le (.v 1) (.v 0) (.v 2))))⟩
noncomputable def t7:Fn:=⟨1,1,(.ret (.call "is_whole" (.cs (.v 0) (.cs (.c (.int 0)) (.cs (.bin .sub (.c (.int 9973)) (.c (.int 1))) .nl)))))⟩
noncomputable def jM:Fn:=⟨3,3,(.ret (.and (.bi (.inst .tuple) (.cs (.v 0) .nl)) (.chn .le .le (.v 1) (.bi .len (.cs (.v 0) .nl)) (.v 2))))⟩
noncomputable def nU:Fn:=⟨1,1,(.ret (.and (.call "is_row" (.cs (.v 0) (.cs (.c (.int 2)) (.cs (.c (.int 2)) .nl)))) (.and (.call "is_whole" (.cs (.ix (.v 0) (.c (.int 0))) (.cs (.c (.int 1)) (.cs (.c (.int 3)) .nl)))) (.call "is_whole" (.cs (.ix (.v 0) (.c (.int 1))) (.cs (.c (.int 1)) (.cs (.c (.int 4)) .nl)))))))⟩
noncomputable def uS:Fn:=⟨1,1,(.ret (.and (.call "is_row" (.cs (.v 0) (.cs (.c (.int 1)) (.cs (.c (.int 3)) .nl)))) (.bi .all (.cs (.comp 2 (.call "is_crew" (.cs (.v 2) .nl)) (.one 2) (.iSeq (.v 0)) .nl) .nl))))⟩
noncomputable def p7:Fn:=⟨3,4,(.seq (.ite (.or (.not (.call "is_row" (.cs (.v 0) (.cs (.c (.int 3)) (.cs (.c (.int 3)) .nl))))) (.not (.call "is_whole" (.cs (.ix (.v 0) (.c (.int 2))) (.cs (.c (.int 0)) (.cs (.c (.int 3)) .nl))))))
  (.ret (.c (.bl false)))
  .skip)
 (.seq (.set (.one 3) (.ite (.cmp .eq (.ix (.v 0) (.c (.int 2))) (.c (.int 0))) (.v 1) (.v 2)))
 (.ret (.call "is_whole" (.cs (.ix (.v 0) (.c (.int 1))) (.cs (.c (.int 0)) (.cs (.bin .sub (.v 3) (.c (.int 1))) .nl)))))))⟩
noncomputable def qH:Fn:=⟨4,4,(.seq (.ite (.or (.not (.call "is_row" (.cs (.v 0) (.cs (.c (.int 2)) (.cs (.c (.int 3)) .nl))))) (.not (.bi (.inst .str) (.cs (.ix (.v 0) (.c (.int 0))) .nl))))
  (.ret (.c (.bl false)))
  .skip)
 (.seq (.ite (.cmp .eq (.ix (.v 0) (.c (.int 0))) (.c (.str "work")))
  (.ret (.call "is_work_source" (.cs (.v 0) (.cs (.v 1) (.cs (.v 2) .nl)))))
  .skip)
 (.seq (.ite (.cmp .ne (.bi .len (.cs (.v 0) .nl)) (.c (.int 2)))
  (.ret (.c (.bl false)))
  .skip)
 (.seq (.ite (.cmp .eq (.ix (.v 0) (.c (.int 0))) (.c (.str "input")))
  (.ret (.call "is_whole" (.cs (.ix (.v 0) (.c (.int 1))) (.cs (.c (.int 0)) (.cs (.bin .sub (.v 3) (.c (.int 1))) .nl)))))
  .skip)
 (.ret (.and (.cmp .eq (.ix (.v 0) (.c (.int 0))) (.c (.str "value"))) (.call "is_value" (.cs (.ix (.v 0) (.c (.int 1))) .nl))))))))⟩
noncomputable def pH:Fn:=⟨1,1,(.ret (.and (.call "is_row" (.cs (.v 0) (.cs (.c (.int 3)) (.cs (.c (.int 3)) .nl)))) (.bi .all (.cs (.comp 2 (.call "is_value" (.cs (.v 2) .nl)) (.one 2) (.iSeq (.v 0)) .nl) .nl))))⟩
noncomputable def rG:Fn:=⟨5,6,(.seq (.ite (.not (.call "is_row" (.cs (.v 0) (.cs (.c (.int 5)) (.cs (.c (.int 5)) .nl)))))
  (.ret (.c (.bl false)))
  .skip)
 (.seq (.ite (.or (.not (.call "is_whole" (.cs (.ix (.v 0) (.c (.int 0))) (.cs (.c (.int 0)) (.cs (.bin .sub (.v 4) (.c (.int 1))) .nl))))) (.not (.call "is_whole" (.cs (.ix (.v 0) (.c (.int 1))) (.cs (.c (.int 1)) (.cs (.c (.int 8)) .nl))))))
  (.ret (.c (.bl false)))
  .skip)
 (.seq (.ite (.or (.not (.bi (.inst .str) (.cs (.ix (.v 0) (.c (.int 2))) .nl))) (.cmp .dP (.ix (.v 0) (.c (.int 2))) (.c (.tup [(.str "plus"),(.str "less"),(.str "times"),(.str "least"),(.str "greatest")]))))
  (.ret (.c (.bl false)))
  .skip)
 (.seq (.set (.one 5) (.ix (.v 0) (.c (.int 3))))
 (.seq (.ite (.or (.not (.call "is_row" (.cs (.v 5) (.cs (.c (.int 1)) (.cs (.c (.int 3)) .nl))))) (.not (.call "are_starts" (.cs (.ix (.v 0) (.c (.int 4))) .nl))))
  (.ret (.c (.bl false)))
  .skip)
 (.ret (.bi .all (.cs (.comp 2 (.call "is_source" (.cs (.v 7) (.cs (.v 1) (.cs (.v 2) (.cs (.v 3) .nl))))) (.one 7) (.iSeq (.v 5)) .nl) .nl))))))))⟩
noncomputable def ou:Fn:=⟨3,4,(.seq (.ite (.not (.call "is_row" (.cs (.v 0) (.cs (.c (.int 1)) (.cs (.c (.int 8)) .nl)))))
  (.ret (.c (.bl false)))
  .skip)
 (.seq (.set (.one 3) (.bi .len (.cs (.v 0) .nl)))
 (.ret (.bi .all (.cs (.comp 3 (.call "is_work" (.cs (.v 6) (.cs (.v 5) (.cs (.v 3) (.cs (.v 1) (.cs (.v 2) .nl)))))) (.many [5,6]) (.iEnum (.v 0)) .nl) .nl)))))⟩
noncomputable def pP:Fn:=⟨2,4,(.seq (.ite (.not (.call "is_row" (.cs (.v 0) (.cs (.c (.int 1)) (.cs (.v 1) .nl)))))
  (.ret (.c (.bl false)))
  .skip)
 (.seq (.set (.one 2) (.c (.int 0)))
 (.seq (.forS (.one 3) (.iSeq (.v 0))
  (.seq (.ite (.not (.call "is_whole" (.cs (.v 3) (.cs (.v 2) (.cs (.bin .sub (.v 1) (.c (.int 1))) .nl)))))
  (.ret (.c (.bl false)))
  .skip)
 (.set (.one 2) (.bin .add (.v 3) (.c (.int 1))))))
 (.ret (.c (.bl true))))))⟩
noncomputable def qN:Fn:=⟨1,1,(.seq (.ite (.not (.call "is_row" (.cs (.v 0) (.cs (.c (.int 4)) (.cs (.c (.int 4)) .nl)))))
  (.ret (.c (.bl false)))
  .skip)
 (.seq (.ite (.or (.not (.call "is_whole" (.cs (.ix (.v 0) (.c (.int 0))) (.cs (.c (.int 0)) (.cs (.c (.int 6)) .nl))))) (.not (.call "are_crews" (.cs (.ix (.v 0) (.c (.int 1))) .nl))))
  (.ret (.c (.bl false)))
  .skip)
 (.ret (.and (.call "are_works" (.cs (.ix (.v 0) (.c (.int 2))) (.cs (.ix (.v 0) (.c (.int 0))) (.cs (.bi .len (.cs (.ix (.v 0) (.c (.int 1))) .nl)) .nl)))) (.call "are_outs" (.cs (.ix (.v 0) (.c (.int 3))) (.cs (.bi .len (.cs (.ix (.v 0) (.c (.int 2))) .nl)) .nl)))))))⟩
noncomputable def rQ:Fn:=⟨1,1,(.seq (.ite (.not (.call "is_loop" (.cs (.v 0) .nl)))
  (.rais "NoLoop")
  .skip)
 (.ret (.v 0)))⟩
noncomputable def c8:List Str:=["plus","less","times","least","greatest"]
noncomputable def IB (S:af):Prop:=∀ (l:Nat) c,S[l]?=some c->∃ ds,c=.lst ds
noncomputable def Has (P:Prg) (x:String) (F:Fn):Prop:=P.lookup (Str.ofString x)=some F
inductive Srs where|val (v:Int)|inp (k:Nat)|wrk (w b:Nat)
noncomputable def Srs.toD:Srs->D
 | .val v=>.tup [.str "value",.int v]
 | .inp k=>.tup [.str "input",.int k]
 | .wrk w b=>.tup [.str "work",.int w,.int b]
structure Wk where
 crew:Nat
 long:Nat
 doing:Str
 srcs:List Srs
 starts:List Int
noncomputable def Wk.toD (w:Wk):D:=.tup [.int w.crew,.int w.long,.str w.doing,.tup (w.srcs.map Srs.toD),.tup (w.starts.map .int)]
structure Lp where
 streams:Nat
 crews:List (Nat × Nat)
 works:List Wk
 outs:List Nat
noncomputable def aP (c:Nat × Nat):D:=.tup [.int c.1,.int c.2]
noncomputable def bw (k:Nat):D:=.int k
noncomputable def Lp.toD (l:Lp):D:=.tup [.int l.streams,.tup (l.crews.map aP),.tup (l.works.map Wk.toD),.tup (l.outs.map bw)]
noncomputable def Srs.WF (own many streams:Nat):Srs->Prop
 | .val v=>0<=v/\v<=9972
 | .inp k=>k < streams
 | .wrk w b=>b<=3/\w < (if b=0 then own else many)
structure Wk.WF (own many streams ncrews:Nat) (w:Wk):Prop where
 crew:w.crew < ncrews
 long:1<=w.long/\w.long<=8
 doing:w.doing∈c8
 some:1<=w.srcs.length/\w.srcs.length<=3
 srcs:∀ s∈w.srcs,s.WF own many streams
 three:w.starts.length=3
 starts:∀ v∈w.starts,0<=v/\v<=9972
noncomputable def dY:Nat->Nat->List Nat->Prop
 | _,_,[]=>True
 | many,least,k::r=>least<=k/\k < many/\dY many (k+1) r
structure Lp.WF (l:Lp):Prop where
 streams:l.streams<=6
 ncrews:1<=l.crews.length/\l.crews.length<=3
 crews:∀ c∈l.crews,(1<=c.1/\c.1<=3)/\(1<=c.2/\c.2<=4)
 nworks:1<=l.works.length/\l.works.length<=8
 works:∀ (i:Nat) w,l.works[i]?=some w->w.WF i l.works.length l.streams l.crews.length
 nouts:1<=l.outs.length
 outs:dY l.works.length 0 l.outs
structure HB (P:Prg):Prop where
 whole:Has P "is_whole" mT
 value:Has P "is_value" t7
 row:Has P "is_row" jM
 crew:Has P "is_crew" nU
 crews:Has P "are_crews" uS
 worksource:Has P "is_work_source" p7
 source:Has P "is_source" qH
 starts:Has P "are_starts" pH
 work:Has P "is_work" rG
 works:Has P "are_works" ou
 outs:Has P "are_outs" pP
 loop:Has P "is_loop" qN
 checked:Has P "checked" rQ
variable {sub:Sub} {P:Prg} {n:Nat} {S:af}
@[simp] theorem fY (S T:af) (b:Bool):leave S (.bl b) (S++T)=.ok (.bl b) S:=bN rfl (cF _ _)
@[simp] theorem dj (S:af) (b:Bool):leave S (.bl b) S=.ok (.bl b) S:=bN rfl (Z4)
@[simp] theorem gf (S T:af) (b:Int):leave S (.int b) (S++T)=.ok (.int b) S:=bN rfl (cF _ _)
@[simp] theorem gk (S:af) (b:Int):leave S (.int b) S=.ok (.int b) S:=bN rfl (Z4)
theorem short {ds:List D} {k:Int} (h:(ds.length:Int)<=k) (hk:k<=1000):ds.length<=aI:=by unfold aI; omega
theorem uz {σ:Sg} {cf:Str->List D->M D} {a b c:E} {i j k:Int} (ha:ev sub cf a σ S=.ok (.int i) S) (hb:ev sub cf b σ S=.ok (.int j) S) (hc:ev sub cf c σ S=.ok (.int k) S) (h1:i<=j) (h2:j<=k) :
  ev sub cf (.chn .le .le a b c) σ S=.ok (.bl true) S:=by
 rw [yy,ha,Res.aj,hb,Res.aj,iJ,Res.aj,Zj h1]
 show (ev sub cf c σ S).bind _=_
 rw [hc,Res.aj,iJ,Zj h2]
theorem cH (h:Has P "is_whole" mT) {i lo hi:Int} (h1:lo<=i) (h2:i<=hi):ah sub P (n+1) "is_whole" [.int i,.int lo,.int hi] S=.ok (.bl true) S :=
 x_call h rfl (ak (aK (b6 (bf (k:=true) (eY (aN (aa (r_v rfl) ai) (f7 rfl)))) (k:=false) (eY (aN (aa (r_v rfl) ai) (f7 rfl)))) aL) (aE (uz (r_v rfl) (r_v rfl) (r_v rfl) h1 h2))) (dj _ _)
theorem nS (h:HB P) {v:Int} (h1:0<=v) (h2:v<=9972):ah sub P (n+2) "is_value" [.int v] S=.ok (.bl true) S :=
 x_call h.value rfl (aE (au (aa (r_v rfl) (aa r_c (aa (bg r_c r_c (dR _ _ _)) ai))) (cH h.whole h1 h2))) (dj _ _)
theorem fT (h:Has P "is_row" jM) {ds:List D} {lo hi:Int} (h1:lo<=(ds.length:Int)) (h2:(ds.length:Int)<=hi):ah sub P (n+1) "is_row" [.tup ds,.int lo,.int hi] S=.ok (.bl true) S :=
 x_call h rfl (aE (cZ (aN (aa (r_v rfl) ai) (f7 rfl)) (uz (r_v rfl) (aN (aa (r_v rfl) ai) eW) (r_v rfl) h1 h2))) (dj _ _)
theorem fW (h:Has P "is_row" jM) {ds:List D} {lo hi:Int} (m:Nat) (hm:ds.length=m) (h1:lo<=(m:Int)) (h2:(m:Int)<=hi):ah sub P (n+1) "is_row" [.tup ds,.int lo,.int hi] S=.ok (.bl true) S :=
 fT h (by rw [hm]; exact h1) (by rw [hm]; exact h2)
theorem Ex (h:HB P) {c:Nat × Nat} (hc:(1<=c.1/\c.1<=3)/\(1<=c.2/\c.2<=4)):ah sub P (n+2) "is_crew" [aP c] S=.ok (.bl true) S :=
 x_call h.crew rfl (aE (cZ (au (aa (r_v rfl) (aa r_c (aa r_c ai))) (fW h.row 2 rfl (by decide) (by decide)))
  (cZ (au (aa (az (r_v rfl) r_c (aB rfl)) (aa r_c (aa r_c ai))) (cH h.whole (XO.mpr hc.1.1) (XO.mpr hc.1.2)))
   (au (aa (az (r_v rfl) r_c (aB rfl)) (aa r_c (aa r_c ai))) (cH h.whole (XO.mpr hc.2.1) (XO.mpr hc.2.2)))))) (dj _ _)
theorem kr {cf:Str->List D->M D} {σ:Sg} {i k:Nat} {el a:E} {α:Type} {l:List α} {f:α->D} (ha:ev sub cf a σ S=.ok (.tup (l.map f)) S) (hn:l.length<=1000) (h:∀ x∈l,ev sub cf el ((σ++List.replicate k none).set i (some (f x))) S=.ok (.bl true) S) :
  ∃ T,ev sub cf (.bi .all (.cs (.comp k el (.one i) (.iSeq a) .nl) .nl)) σ S=.ok (.bl true) (S++T):=by
 have hc:=fH (sub:=sub) (cf:=cf) (k:=k) (i:=i) (el:=el) (it:=.iSeq a) (σ:=σ) (S:=S) (S1:=S) (ks:=l) (f:=f) (g:=fun _=>.bl true) (o:=none) (raw:=l.map f) (cy ha rfl) rfl h (by unfold aI; omega)
 refine ⟨[.lst (l.map fun _=>.bl true)],aN (R:=.ok (.bl true) _) (aa hc ai) ((oX l fun _=>true).trans ?_)⟩
 rw [Z8.mpr fun _ _=>rfl]
theorem AB (h:HB P) {cs:List (Nat × Nat)} (h1:1<=cs.length) (h2:cs.length<=3) (hc:∀ c∈cs,(1<=c.1/\c.1<=3)/\(1<=c.2/\c.2<=4)):ah sub P (n+3) "are_crews" [.tup (cs.map aP)] S=.ok (.bl true) S:=by
 obtain ⟨T,e⟩:=kr (sub:=sub) (cf:=ah sub P (n+2)) (σ:=[some (.tup (cs.map aP))]) (S:=S) (i:=2) (k:=2) (el:=.call "is_crew" (.cs (.v 2) .nl)) (a:=.v 0) (l:=cs) (f:=aP) (r_v rfl) (by omega) (fun c hm=>au (aa (r_v rfl) ai) (Ex h (hc c hm)))
 exact x_call h.crews rfl (aE (cZ (au (aa (r_v rfl) (aa r_c (aa r_c ai))) (fT h.row (by rw [Zd]; omega) (by rw [Zd]; omega))) e)) (fY _ _ _)
theorem GD (h:HB P) {vs:List Int} (h1:vs.length=3) (hv:∀ v∈vs,0<=v/\v<=9972):ah sub P (n+3) "are_starts" [.tup (vs.map .int)] S=.ok (.bl true) S:=by
 obtain ⟨T,e⟩:=kr (sub:=sub) (cf:=ah sub P (n+2)) (σ:=[some (.tup (vs.map .int))]) (S:=S) (i:=2) (k:=2) (el:=.call "is_value" (.cs (.v 2) .nl)) (a:=.v 0) (l:=vs) (f:=.int) (r_v rfl) (by omega) (fun c hm=>au (aa (r_v rfl) ai) (nS h (hv c hm).1 (hv c hm).2))
 exact x_call h.starts rfl (aE (cZ (au (aa (r_v rfl) (aa r_c (aa r_c ai))) (fT h.row (by rw [Zd,h1]; decide) (by rw [Zd,h1]; decide))) e)) (fY _ _ _)
theorem Eh (h:HB P) {x:D} {w b own many:Nat} (hb:b<=3) (hw:w < (if b=0 then own else many)):ah sub P (n+2) "is_work_source" [.tup [x,.int w,.int b],.int own,.int many] S=.ok (.bl true) S:=by
 have h0:∀ k:Nat,(0:Int)<=(k:Int):=fun k=>Qt k
 refine x_call h.worksource rfl (ak (aK (b6 (bf (k:=true) (bH (au (aa (r_v rfl) (aa r_c (aa r_c ai))) (fW h.row 3 rfl (by decide) (by decide)))))
  (k:=false) (bf (k:=true) (bH (au (aa (az (r_v rfl) r_c (aB rfl)) (aa r_c (aa r_c ai))) (cH h.whole (h0 b) (XO.mpr hb)))))) aL)
  (ak (aF (d:=.int ((if b=0 then own else many:Nat):Int)) (S1:=S) ?_) (aE (au (aa (az (r_v rfl) r_c (aB rfl)) (aa r_c (aa (bg (r_v rfl) r_c (dR _ _ _)) ai))) (cH h.whole (h0 w) (by omega)))))) (dj _ _)
 by_cases z:b=0
 ·rw [Ze z]; subst z
  exact BD (S1:=S) (aX (aW (az (r_v rfl) r_c (aB rfl)) r_c (eF _ _ _))) (r_v rfl)
 ·rw [Zf z]
  exact Ef (S1:=S) (t_k (aX (aW (az (r_v rfl) r_c (aB rfl)) r_c (eF _ _ _))) (Qr (by omega))) (r_v rfl)
theorem FI (h:HB P) {s:Srs} {own many streams:Nat} (hs:s.WF own many streams):ah sub P (n+3) "is_source" [s.toD,.int own,.int many,.int streams] S=.ok (.bl true) S:=by
 have first:∀ {x:Str} {r:List D} {σ:Sg} (e:bx σ 0 S=.ok (.tup (.str x::r)) S) (m:Nat) (hm:(D.str x::r).length=m) (h1:2<=(m:Int)) (h2:(m:Int)<=3),evT sub (ah sub P (n+2)) (.or (.not (.call "is_row" (.cs (.v 0) (.cs (.c (.int 2)) (.cs (.c (.int 3)) .nl))))) (.not (.bi (.inst .str) (.cs (.ix (.v 0) (.c (.int 0))) .nl)))) σ S=.ok false S:=fun {x r σ} e m hm h1 h2 =>
  b6 (bf (k:=true) (bH (au (aa (r_v e) (aa r_c (aa r_c ai))) (fW h.row m hm h1 h2)))) (k:=false) (bf (k:=true) (eY (aN (aa (az (r_v e) r_c (aB (d:=.str x) (kZ _))) ai) (f7 rfl))))
 have word:∀ {x:Str} {r:List D} {σ:Sg} (y:Str) {k:Bool} (e:bx σ 0 S=.ok (.tup (.str x::r)) S) (hk:(x==y)=k),ev sub (ah sub P (n+2)) (.cmp .eq (.ix (.v 0) (.c (.int 0))) (.c (.str y))) σ S=.ok (.bl k) S:=fun y k e hk=>by
  rw [<- hk]; exact aW (az (r_v e) r_c (aB (kZ _))) r_c (mO _ _ _)
 have two:∀ {x y:D} {σ:Sg} (e:bx σ 0 S=.ok (.tup [x,y]) S),evT sub (ah sub P (n+2)) (.cmp .ne (.bi .len (.cs (.v 0) .nl)) (.c (.int 2))) σ S=.ok false S:=fun e =>
  aX (aW (aN (aa (r_v e) ai) eW) r_c (G_ _ _ _))
 cases s with
 | val v =>
  exact x_call h.source rfl (ak (aK (first (x:="value") rfl 2 rfl (by decide) (by decide)) aL) (ak (aK (aX (word "work" (x:="value") rfl (by decide +kernel))) aL) (ak (aK (two rfl) aL) (ak (aK (aX (word "input" (x:="value") rfl (by decide +kernel))) aL)
   (aE (cZ (word "value" (x:="value") rfl (by decide +kernel)) (au (aa (az (r_v rfl) r_c (aB rfl)) ai) (nS h hs.1 hs.2)))))))) (dj _ _)
 | inp k =>
  have hk:k < streams:=hs
  exact x_call h.source rfl (ak (aK (first (x:="input") rfl 2 rfl (by decide) (by decide)) aL) (ak (aK (aX (word "work" (x:="input") rfl (by decide +kernel))) aL) (ak (aK (two rfl) aL) (dm (cM (aX (word "input" (x:="input") rfl (by decide +kernel)))
   (aE (au (aa (az (r_v rfl) r_c (aB rfl)) (aa r_c (aa (bg (r_v rfl) r_c (dR _ _ _)) ai))) (cH h.whole (Qt k) (by omega))))))))) (dj _ _)
 | wrk w b =>
  exact x_call h.source rfl (ak (aK (first (x:="work") rfl 3 rfl (by decide) (by decide)) aL) (dm (cM (aX (word "work" (x:="work") rfl (by decide +kernel))) (aE (au (aa (r_v rfl) (aa (r_v rfl) (aa (r_v rfl) ai))) (Eh h hs.1 hs.2)))))) (dj _ _)
theorem AM {x:Str} (h:x∈c8):cmD .dP (.str x) (.tup [(.str "plus"),(.str "less"),(.str "times"),(.str "least"),(.str "greatest")]) S=.ok (.bl false) S:=by
 have h:x = "plus"\/x = "less"\/x = "times"\/x = "least"\/x = "greatest":=by simpa [c8] using h
 rcases h with rfl|rfl|rfl|rfl|rfl <;> rfl
theorem Bp (h:HB P) {w:Wk} {own many streams ncrews:Nat} (hw:w.WF own many streams ncrews):ah sub P (n+4) "is_work" [w.toD,.int own,.int many,.int streams,.int ncrews] S=.ok (.bl true) S:=by
 have hc:=hw.crew
 obtain ⟨T,e⟩:=kr (sub:=sub) (cf:=ah sub P (n+3)) (σ:=[some w.toD,some (.int own),some (.int many),some (.int streams),some (.int ncrews),some (.tup (w.srcs.map Srs.toD))]) (S:=S) (i:=7) (k:=2) (el:=.call "is_source" (.cs (.v 7) (.cs (.v 1) (.cs (.v 2) (.cs (.v 3) .nl))))) (a:=.v 5) (l:=w.srcs) (f:=Srs.toD) (r_v rfl) (by have:=hw.some; omega) (fun s hm=>au (aa (r_v rfl) (aa (r_v rfl) (aa (r_v rfl) (aa (r_v rfl) ai)))) (FI h (hw.srcs s hm)))
 refine x_call h.work rfl (ak (aK (bf (k:=true) (bH (au (aa (r_v rfl) (aa r_c (aa r_c ai))) (fW h.row 5 rfl (by decide) (by decide))))) aL)
  (ak (aK (b6 (bf (k:=true) (bH (au (aa (az (r_v rfl) r_c (aB rfl)) (aa r_c (aa (bg (r_v rfl) r_c (dR _ _ _)) ai))) (cH h.whole (Qt _) (by omega))))) (k:=false)
   (bf (k:=true) (bH (au (aa (az (r_v rfl) r_c (aB rfl)) (aa r_c (aa r_c ai))) (cH h.whole (XO.mpr hw.long.1) (XO.mpr hw.long.2)))))) aL)
  (ak (aK (b6 (bf (k:=true) (eY (aN (aa (az (r_v rfl) r_c (aB rfl)) ai) (f7 rfl)))) (aX (aW (az (r_v rfl) r_c (aB rfl)) r_c (AM hw.doing)))) aL)
  (ak (aF (az (r_v rfl) r_c (aB rfl)))
  (ak (aK (b6 (bf (k:=true) (bH (au (aa (r_v rfl) (aa r_c (aa r_c ai))) (fT h.row (ds:=w.srcs.map Srs.toD) ?_ ?_)))) (k:=false) (bf (k:=true) (bH (au (aa (az (r_v rfl) r_c (aB rfl)) ai) (GD h hw.three hw.starts))))) aL)
  (aE e)))))) (fY _ _ _)
 ·rw [Zd]; have:=hw.some; omega
 ·rw [Zd]; have:=hw.some; omega
theorem Di (h:HB P) {ws:List Wk} {streams ncrews:Nat} (h1:1<=ws.length) (h2:ws.length<=8) (hw:∀ (i:Nat) w,ws[i]?=some w->w.WF i ws.length streams ncrews):ah sub P (n+5) "are_works" [.tup (ws.map Wk.toD),.int streams,.int ncrews] S=.ok (.bl true) S:=by
 have hc:=uw (sub:=sub) (cf:=ah sub P (n+4)) (k:=3) (is:=[5,6]) (el:=.call "is_work" (.cs (.v 6) (.cs (.v 5) (.cs (.v 3) (.cs (.v 1) (.cs (.v 2) .nl)))))) (it:=.iEnum (.v 0))
  (σ:=[some (.tup (ws.map Wk.toD)),some (.int streams),some (.int ncrews),some (.int ws.length)]) (S:=S) (S1:=S) (s:=⟨num 0 (ws.map Wk.toD),none,ws.map Wk.toD⟩) (g:=fun _=>.bl true) rfl rfl (fun d hd=>by
   obtain ⟨i,hi,rfl⟩:=List.mem_iff_getElem.mp hd
   have hi':i < ws.length:=by rw [f6,Zd] at hi; exact hi
   refine ⟨_,nI _ 0 i hi,rfl,?_⟩
   rw [QG,Xq]
   exact au (aa (r_v rfl) (aa (r_v rfl) (aa (r_v rfl) (aa (r_v rfl) (aa (r_v rfl) ai))))) (Bp h (hw i _ (Zb hi')))) (by unfold aI; rw [f6,Zd]; omega)
 have ha:ev sub (ah sub P (n+4)) (.bi .all (.cs (.comp 3 (.call "is_work" (.cs (.v 6) (.cs (.v 5) (.cs (.v 3) (.cs (.v 1) (.cs (.v 2) .nl)))))) (.many [5,6]) (.iEnum (.v 0)) .nl) .nl)) [some (.tup (ws.map Wk.toD)),some (.int streams),some (.int ncrews),some (.int ws.length)] S=.ok (.bl true) (S++[.lst ((num 0 (ws.map Wk.toD)).map fun _=>.bl true)]) :=
  aN (aa hc ai) ((oX _ fun _=>true).trans (by rw [Z8.mpr fun _ _=>rfl]))
 refine x_call h.works rfl (ak (aK (bf (k:=true) (bH (au (aa (r_v rfl) (aa r_c (aa r_c ai))) (fT h.row (ds:=ws.map Wk.toD) ?_ ?_)))) aL)
  (ak (aF (d:=.int ws.length) (S1:=S) ?_) (aE ha))) (fY _ _ _)
 ·rw [Zd]; omega
 ·rw [Zd]; omega
 ·have:=eW (sub:=sub) (S:=S) (xs:=ws.map Wk.toD)
  rw [Zd] at this
  exact aN (aa (r_v rfl) ai) this
theorem sE (h:HB P) {d0:D} {many:Nat} {s:Src} (hs:∀ T,aD s T=.ok () T):∀ (l:List Nat) (least:Nat) (x:Option D),dY many least l->∃ σ',forL s (bq sub (ah sub P (n+1)) (.one 3) (.seq (.ite (.not (.call "is_whole" (.cs (.v 3) (.cs (.v 2) (.cs (.bin .sub (.v 1) (.c (.int 1))) .nl))))) (.ret (.c (.bl false))) .skip) (.set (.one 2) (.bin .add (.v 3) (.c (.int 1))))))
   (l.map bw) [some d0,some (.int many),some (.int least),x] S=.ok (.nx σ') S
 | [],least,x,_=>⟨_,by rw [Qz,jh,hs,Res.aj]⟩
 | k::r,least,x,⟨h1,h2,h3⟩=>by
  obtain ⟨σ',e⟩:=sE h hs r (k+1) (some (bw k)) h3
  refine ⟨σ',?_⟩
  rw [ZF,gW,hs,Res.aj,lF,ak (aK (bf (k:=true) (bH (au (aa (r_v rfl) (aa (r_v rfl) (aa (bg (r_v rfl) r_c (dR _ _ _)) ai))) (cH h.whole (XO.mpr h1) (by omega))))) aL) (aF (bg (r_v rfl) r_c (fh _ _ _)))]
  exact e
theorem oY {many:Nat}:∀ {l:List Nat} {least:Nat},dY many least l->least<=many->l.length+least<=many
 | [],_,_,h=>by simpa using h
 | k::r,least,⟨h1,h2,h3⟩,_=>by
  have:=oY h3 (by omega)
  simp only [ZB]; omega
theorem AK (h:HB P) {os:List Nat} {many:Nat} (h1:1<=os.length) (hr:dY many 0 os):ah sub P (n+2) "are_outs" [.tup (os.map bw),.int many] S=.ok (.bl true) S:=by
 have hl:=oY hr (Xs _)
 obtain ⟨σ',e⟩:=sE (sub:=sub) (n:=n) (S:=S) (d0:=.tup (os.map bw)) (s:=⟨os.map bw,none,os.map bw⟩) h (fun _=>rfl) os 0 none hr
 exact x_call h.outs rfl (ak (aK (bf (k:=true) (bH (au (aa (r_v rfl) (aa r_c (aa (r_v rfl) ai))) (fT h.row (ds:=os.map bw) (by rw [Zd]; omega) (by rw [Zd]; omega))))) aL)
  (ak (aF r_c) (ak (dQ (cy (r_v rfl) rfl) e) (aE r_c)))) (dj _ _)
theorem GB (h:HB P) {l:Lp} (hl:l.WF):ah sub P (n+6) "is_loop" [l.toD] S=.ok (.bl true) S:=by
 have e1:=eW (sub:=sub) (S:=S) (xs:=l.crews.map aP)
 have e2:=eW (sub:=sub) (S:=S) (xs:=l.works.map Wk.toD)
 rw [Zd] at e1 e2
 exact x_call h.loop rfl (ak (aK (bf (k:=true) (bH (au (aa (r_v rfl) (aa r_c (aa r_c ai))) (fW h.row 4 rfl (by decide) (by decide))))) aL)
  (ak (aK (b6 (bf (k:=true) (bH (au (aa (az (r_v rfl) r_c (aB rfl)) (aa r_c (aa r_c ai))) (cH h.whole (Qt _) (XO.mpr hl.streams))))) (k:=false)
   (bf (k:=true) (bH (au (aa (az (r_v rfl) r_c (aB rfl)) ai) (AB h hl.ncrews.1 hl.ncrews.2 hl.crews))))) aL)
  (aE (cZ (au (aa (az (r_v rfl) r_c (aB rfl)) (aa (az (r_v rfl) r_c (aB rfl)) (aa (aN (aa (az (r_v rfl) r_c (aB rfl)) ai) e1) ai))) (Di h hl.nworks.1 hl.nworks.2 hl.works))
   (au (aa (az (r_v rfl) r_c (aB rfl)) (aa (aN (aa (az (r_v rfl) r_c (aB rfl)) ai) e2) ai)) (AK h hl.nouts hl.outs)))))) (dj _ _)
end RL

namespace RL
open PySem EV GO
section
local macro_rules|`(tactic| done)=>`(tactic| (first|with_reducible exact r_c|((with_reducible apply r_v); exact rfl)|with_reducible apply bg|with_reducible apply aW|with_reducible apply az|with_reducible apply au|with_reducible exact ai|with_reducible apply aa|with_reducible apply aN|with_reducible apply lC|with_reducible apply gp|with_reducible apply cV|((with_reducible apply zz); exact rfl)|with_reducible apply iY|with_reducible apply bH|with_reducible apply eY|with_reducible apply aX|with_reducible exact fh _ _ _|with_reducible exact dR _ _ _|((with_reducible apply lK); first|decide|assumption|omega)|((with_reducible apply jd); first|decide|omega)|((with_reducible apply sR); first|decide|omega)|((with_reducible apply uB); decide)|with_reducible exact kG _ _ _|with_reducible exact iJ _ _ _|with_reducible exact fD _ _ _|with_reducible exact xF _ _ _|with_reducible exact eF _ _ _|with_reducible exact mO _ _ _|((with_reducible apply Ff); assumption)|with_reducible exact uT|with_reducible exact uY|with_reducible exact eW|with_reducible exact uK|((with_reducible apply aB); exact rfl)|with_reducible assumption|((apply lK); first|decide|assumption)|apply eF|apply mO))
noncomputable def uO:Fn:=⟨2,2,(.seq (.ite (.cmp .lt (.v 1) (.bi .len (.cs (.v 0) .nl)))
  (.ret (.ix (.v 0) (.v 1)))
  .skip)
 (.seq (.ite (.cmp .eq (.v 0) (.lst .nl))
  (.ret (.c (.int 0)))
  .skip)
 (.ret (.bin .add (.bin .mul (.ix (.v 0) (.bin .mod (.v 1) (.bi .len (.cs (.v 0) .nl)))) (.c (.int 31))) (.v 1)))))⟩
noncomputable def vG:Fn:=⟨3,4,(.seq (.set (.one 3) (.bin .mod (.bin .mul (.bin .add (.bin .add (.call "_law_cell_at" (.cs (.v 0) (.cs (.v 1) .nl))) (.bin .mul (.c (.int 7919)) (.v 1))) (.c (.int 1))) (.c (.int 48271))) (.c (.int 2147483647))))
 (.ret (.bin .mod (.bin .mod (.bin .add (.bin .add (.bin .mul (.v 3) (.v 3)) (.bin .mul (.c (.int 7)) (.v 3))) (.v 1)) (.c (.int 2147483629))) (.v 2))))⟩
noncomputable def qi:Fn:=⟨5,7,(.seq (.set (.one 5) (.call "_law_mixed" (.cs (.v 0) (.cs (.v 1) (.cs (.c (.int 7)) .nl)))))
 (.seq (.ite (.or (.cmp .eq (.v 5) (.c (.int 0))) (.and (.cmp .eq (.v 5) (.c (.int 1))) (.cmp .eq (.v 2) (.c (.int 0)))))
  (.ret (.tup (.cs (.c (.str "value")) (.cs (.call "_law_mixed" (.cs (.v 0) (.cs (.bin .add (.v 1) (.c (.int 1))) (.cs (.c (.int 9973)) .nl)))) .nl))))
  .skip)
 (.seq (.ite (.cmp .eq (.v 5) (.c (.int 1)))
  (.ret (.tup (.cs (.c (.str "input")) (.cs (.call "_law_mixed" (.cs (.v 0) (.cs (.bin .add (.v 1) (.c (.int 1))) (.cs (.v 2) .nl)))) .nl))))
  .skip)
 (.seq (.set (.one 6) (.call "_law_mixed" (.cs (.v 0) (.cs (.bin .add (.v 1) (.c (.int 1))) (.cs (.v 3) .nl)))))
 (.seq (.ite (.and (.cmp .lt (.v 6) (.v 4)) (.cmp .lt (.v 5) (.c (.int 5))))
  (.ret (.tup (.cs (.c (.str "work")) (.cs (.v 6) (.cs (.c (.int 0)) .nl)))))
  .skip)
 (.ret (.tup (.cs (.c (.str "work")) (.cs (.v 6) (.cs (.bin .add (.c (.int 1)) (.call "_law_mixed" (.cs (.v 0) (.cs (.bin .add (.v 1) (.c (.int 2))) (.cs (.c (.int 3)) .nl))))) .nl))))))))))⟩
noncomputable def u_:Fn:=⟨4,12,(.seq (.set (.many [4,5,6]) (.v 2))
 (.seq (.set (.one 7) (.lst .nl))
 (.seq (.forS (.one 8) (.iRng (.cs (.bin .add (.c (.int 1)) (.call "_law_mixed" (.cs (.v 0) (.cs (.bin .add (.v 1) (.c (.int 2))) (.cs (.c (.int 2)) .nl))))) .nl))
  (.ex (.me .append (.v 7) (.cs (.call "_law_source" (.cs (.v 0) (.cs (.bin .add (.bin .add (.v 1) (.c (.int 3))) (.bin .mul (.c (.int 3)) (.v 8))) (.cs (.v 4) (.cs (.v 6) (.cs (.v 3) .nl)))))) .nl))))
 (.seq (.set (.one 9) (.ix (.lst (.cs (.c (.str "plus")) (.cs (.c (.str "less")) (.cs (.c (.str "times")) (.cs (.c (.str "least")) (.cs (.c (.str "greatest")) .nl)))))) (.call "_law_mixed" (.cs (.v 0) (.cs (.v 1) (.cs (.c (.int 5)) .nl))))))
 (.seq (.set (.one 10) (.bin .add (.c (.int 1)) (.call "_law_mixed" (.cs (.v 0) (.cs (.bin .add (.v 1) (.c (.int 1))) (.cs (.ix (.lst (.cs (.c (.int 2)) (.cs (.c (.int 5)) .nl))) (.call "_law_mixed" (.cs (.v 0) (.cs (.bin .add (.v 1) (.c (.int 2))) (.cs (.c (.int 2)) .nl))))) .nl))))))
 (.seq (.set (.one 11) (.bi .tuple (.cs (.comp 2 (.call "_law_mixed" (.cs (.v 0) (.cs (.bin .add (.v 1) (.v 13)) (.cs (.c (.int 9973)) .nl)))) (.one 13) (.iSeq (.tup (.cs (.c (.int 0)) (.cs (.c (.int 5)) (.cs (.c (.int 6)) .nl))))) .nl) .nl)))
 (.ret (.tup (.cs (.call "_law_mixed" (.cs (.v 0) (.cs (.bin .add (.v 1) (.c (.int 7))) (.cs (.v 5) .nl)))) (.cs (.v 10) (.cs (.v 9) (.cs (.bi .tuple (.cs (.v 7) .nl)) (.cs (.v 11) .nl)))))))))))))⟩
noncomputable def uo:Fn:=⟨3,9,(.seq (.set (.one 3) (.call "_law_mixed" (.cs (.v 0) (.cs (.v 1) (.cs (.c (.int 3)) .nl)))))
 (.seq (.set (.one 4) (.bin .add (.c (.int 1)) (.call "_law_mixed" (.cs (.v 0) (.cs (.bin .add (.v 1) (.c (.int 1))) (.cs (.v 2) .nl))))))
 (.seq (.set (.one 5) (.lst .nl))
 (.seq (.forS (.one 6) (.iRng (.cs (.bin .add (.c (.int 1)) (.call "_law_mixed" (.cs (.v 0) (.cs (.bin .add (.v 1) (.c (.int 2))) (.cs (.c (.int 2)) .nl))))) .nl))
  (.ex (.me .append (.v 5) (.cs (.tup (.cs (.bin .add (.c (.int 1)) (.call "_law_mixed" (.cs (.v 0) (.cs (.bin .add (.bin .add (.v 1) (.c (.int 3))) (.v 6)) (.cs (.c (.int 2)) .nl))))) (.cs (.bin .add (.c (.int 1)) (.bin .fdiv (.call "_law_mixed" (.cs (.v 0) (.cs (.bin .add (.bin .add (.v 1) (.c (.int 5))) (.v 6)) (.cs (.c (.int 5)) .nl)))) (.c (.int 2)))) .nl))) .nl))))
 (.seq (.set (.one 7) (.lst .nl))
 (.seq (.forS (.one 6) (.iRng (.cs (.v 4) .nl))
  (.ex (.me .append (.v 7) (.cs (.call "_law_work" (.cs (.v 0) (.cs (.bin .add (.bin .add (.v 1) (.c (.int 7))) (.bin .mul (.c (.int 9)) (.v 6))) (.cs (.tup (.cs (.v 3) (.cs (.bi .len (.cs (.v 5) .nl)) (.cs (.v 4) .nl)))) (.cs (.v 6) .nl))))) .nl))))
 (.seq (.set (.one 8) (.comp 2 (.v 10) (.one 10) (.iRng (.cs (.v 4) .nl)) (.cmp .gt (.call "_law_mixed" (.cs (.v 0) (.cs (.bin .add (.bin .add (.v 1) (.c (.int 7))) (.v 10)) (.cs (.c (.int 3)) .nl)))) (.c (.int 0)))))
 (.seq (.ite (.cmp .eq (.v 8) (.lst .nl))
  (.set (.one 8) (.lst (.cs (.bin .sub (.v 4) (.c (.int 1))) .nl)))
  .skip)
 (.ret (.tup (.cs (.v 3) (.cs (.bi .tuple (.cs (.v 5) .nl)) (.cs (.bi .tuple (.cs (.v 7) .nl)) (.cs (.bi .tuple (.cs (.v 8) .nl)) .nl))))))))))))))⟩
theorem Srs.cl (s:Srs):s.toD.cl:=by cases s <;> rfl
theorem Wk.cl (w:Wk):w.toD.cl:=by
 show (true&&(true&&(true&&(D.lows 0 (w.srcs.map Srs.toD)&&(D.lows 0 (w.starts.map .int)&&true)))))=true
 rw [jU Srs.cl,G6]; rfl
theorem Lp.cl (l:Lp):l.toD.cl:=by
 show (true&&(D.lows 0 (l.crews.map aP)&&(D.lows 0 (l.works.map Wk.toD)&&(D.lows 0 (l.outs.map bw)&&true))))=true
 rw [jU (f:=aP) fun _=>rfl,jU Wk.cl,jU (f:=bw) fun _=>rfl]; rfl
theorem g_ {sub:Sub} {P:Prg} {n:Nat} {S:af} (h:HB P) {l:Lp} (hw:l.WF):ah sub P (n+7) "checked" [l.toD] S=.ok l.toD S :=
 x_call h.checked rfl (ak (aK (bf (k:=true) (bH (au (aa (r_v rfl) ai) (GB h hw)))) aL) (aE (r_v rfl))) (bN l.cl Z4)
noncomputable def cellAt (ns:List Int) (k:Int):Int:=if k < ns.length then ns.getD k.toNat 0 else if ns.length=0 then 0 else ns.getD (k % (ns.length:Int)).toNat 0 * 31+k
noncomputable def drawn (ns:List Int) (k:Int):Int:=(cellAt ns k+7919 * k+1) * 48271 % 2147483647
noncomputable def mixed (ns:List Int) (k m:Int):Int:=(drawn ns k * drawn ns k+7 * drawn ns k+k) % 2147483629 % m
theorem BQ (ns:List Int) (k:Int) {m:Int} (h:0 < m):0<=mixed ns k m/\mixed ns k m < m:=⟨QO _ (by omega),Qo _ h⟩
structure HG (P:Prg):Prop where
 cell:Has P "_law_cell_at" uO
 mix:Has P "_law_mixed" vG
 source:Has P "_law_source" qi
 work:Has P "_law_work" u_
 loop:Has P "_law_loop" uo
variable {sub:Sub} {P:Prg} {n:Nat} {S:af}
theorem uP {ns:List Int} {k:Int} (h0:0<=k) (h:k < ns.length):atI (ns.map D.int) k=some (.int (ns.getD k.toNat 0)):=by
 obtain ⟨j,rfl⟩:=Int.eq_ofNat_of_zero_le h0
 rw [kR]
 have hj:j < ns.length:=by omega
 simp [hj]
theorem eq_empty (ns:List Int) (S:af):cmD .eq (.fro (ns.map .int)) (.loc S.length) (S++[.lst []])=.ok (.bl (decide (ns.length=0))) (S++[.lst []]):=by
 rw [l_]
 have:eqD deep (S++[.lst []]) (.fro (ns.map .int)) (.loc S.length)=some (decide (ns.length=0)):=by
  show (match some (ns.map D.int),listAt (S++[.lst []]) S.length with|some xs,some ys=>if xs.length=ys.length then bC _ xs ys else some false|_,_=>none)=_
  have e:listAt (S++[.lst []]) S.length=some []:=by unfold listAt; simp
  rw [e]
  cases ns <;> simp [bC]
 rw [this]
theorem zR (h:HG P) (ns:List Int) {k:Int} (hk:0<=k):ah sub P (n+1) "_law_cell_at" [.fro (ns.map .int),.int k] S=.ok (.int (cellAt ns k)) S:=by
 have hl:∀ S:af,biD sub .len [.fro (ns.map .int)] S=.ok (.int ns.length) S:=fun S=>by
  have:=uK (sub:=sub) (S:=S) (xs:=ns.map .int)
  rw [Zd] at this
  exact this
 have e1:∀ {b:Bool},decide (k < (ns.length:Int))=b->evT sub (ah sub P n) (.cmp .lt (.v 1) (.bi .len (.cs (.v 0) .nl))) [some (.fro (ns.map .int)),some (.int k)] S=.ok b S:=fun e=>t_k (aX (aW (r_v rfl) (aN (aa (r_v rfl) ai) (hl _)) (kG _ _ _))) e
 have e2:∀ {b:Bool},decide (ns.length=0)=b->evT sub (ah sub P n) (.cmp .eq (.v 0) (.lst .nl)) [some (.fro (ns.map .int)),some (.int k)] S=.ok b (S++[.lst []]):=fun e=>t_k (aX (aW (r_v rfl) (cV ai rfl) (eq_empty ns S))) e
 unfold cellAt
 by_cases h1:k < ns.length
 ·rw [Ze h1]
  exact x_call h.cell rfl (dm (cM (e1 (Zj h1)) (aE (az (r_v rfl) (r_v rfl) (nY (uP hk h1)))))) (gk _ _)
 rw [Zf h1]
 by_cases h2:ns.length=0
 ·rw [Ze h2]
  exact x_call h.cell rfl (ak (aK (e1 (Zz h1)) aL) (dm (cM (e2 (Zj h2)) (aE r_c)))) (gf _ _ _)
 ·rw [Zf h2]
  have h3:0 < (ns.length:Int):=by omega
  exact x_call h.cell rfl (ak (aK (e1 (Zz h1)) aL) (ak (aK (e2 (Zz h2)) aL) (aE (bg (bg (az (r_v rfl) (bg (r_v rfl) (aN (aa (r_v rfl) ai) (hl _)) (lK h3)) (nY (uP (QO k (by omega)) (Qo k h3)))) r_c (sR (by decide))) (r_v rfl) (fh _ _ _))))) (gf _ _ _)
theorem wQ (h:HG P) (ns:List Int) {k m:Int} (hk:0<=k) (hm:0 < m):ah sub P (n+2) "_law_mixed" [.fro (ns.map .int),.int k,.int m] S=.ok (.int (mixed ns k m)) S:=by
 have hc:=zR (sub:=sub) (n:=n) (S:=S) h ns hk
 have h1:0<=drawn ns k:=QO _ (by decide)
 have h2:drawn ns k < 2147483647:=Qo _ (by decide)
 refine x_call h.mix rfl (ak (aF (d:=.int (drawn ns k)) (S1:=S) ?_) (aE (d:=.int (mixed ns k m)) (S1:=S) ?_)) (bN rfl (by simp)) <;> (repeat' done)
structure Mix (P:Prg) (mx:List Int->Int->Int->Int):Prop where
 ok:∀ {sub:Sub} {n:Nat} {S:af} (ns:List Int) {k m:Int},0<=k->0 < m->ah sub P (n+2) "_law_mixed" [.fro (ns.map .int),.int k,.int m] S=.ok (.int (mx ns k m)) S
 rng:∀ (ns:List Int) (k:Int) {m:Int},0 < m->0<=mx ns k m/\mx ns k m < m
theorem HH (h:HG P):∃ mx,Mix P mx:=⟨mixed,fun ns _ _ hk hm=>wQ h ns hk hm,fun ns k _ h=>BQ ns k h⟩
variable {mx:List Int->Int->Int->Int}
noncomputable def dM (mx:List Int->Int->Int->Int) (ns:List Int) (at':Int) (streams many own:Nat):Srs :=
 if mx ns at' 7=0\/(mx ns at' 7=1/\streams=0) then .val (mx ns (at' + 1) 9973)
 else if mx ns at' 7=1 then .inp (mx ns (at' + 1) streams).toNat
 else if (mx ns (at' + 1) many).toNat < own/\mx ns at' 7 < 5 then .wrk (mx ns (at' + 1) many).toNat 0
 else .wrk (mx ns (at' + 1) many).toNat (1+mx ns (at' + 2) 3).toNat
theorem xD (S:af) (s:Srs):leave S s.toD S=.ok s.toD S:=bN s.cl (by simp)
theorem toNat_cast {i:Int} (h:0<=i):((i.toNat:Nat):Int)=i:=Int.toNat_of_nonneg h
theorem Gg (h:HG P) (M:Mix P mx) (ns:List Int) {at':Int} {streams many own:Nat} (hat:0<=at') (hm:0 < many):ah sub P (n+3) "_law_source" [.fro (ns.map .int),.int at',.int streams,.int many,.int own] S=.ok (dM mx ns at' streams many own).toD S:=by
 have hm':(0:Int) < many:=by omega
 have a1:0<=at' + 1:=by omega
 have a2:0<=at' + 2:=by omega
 have m0:=M.ok (sub:=sub) (n:=n) (S:=S) ns (k:=at') (m:=7) hat (by decide)
 have r3:=M.rng ns (at' + 1) hm'
 have m1:=M.ok (sub:=sub) (n:=n) (S:=S) ns (k:=at' + 1) (m:=9973) a1 (by decide)
 have m3:=M.ok (sub:=sub) (n:=n) (S:=S) ns (k:=at' + 1) (m:=many) a1 hm'
 have m4:=M.ok (sub:=sub) (n:=n) (S:=S) ns (k:=at' + 2) (m:=3) a2 (by decide)
 have r4:=M.rng ns (at' + 2) (show (0:Int) < 3 by decide)
 unfold dM
 generalize hw:mx ns at' 7=w at m0
 refine x_call (S1:=S) h.source rfl (ak (aF (d:=.int w) (S1:=S) (by (repeat' done))) ?_) (xD S _)
 by_cases w0:w=0\/(w=1/\streams=0)
 ·rw [Ze w0]
  refine dm (cM (S1:=S) ?_ (show _=Res.ok (Fl.rt (.tup [.str "value",.int _])) S from aE (by (repeat' done))))
  rcases w0 with rfl|⟨rfl,rfl⟩
  ·exact qB (t_k (by (repeat' done)) rfl)
  ·exact b6 (t_k (S1:=S) (by (repeat' done)) rfl) (dz (t_k (S1:=S) (by (repeat' done)) rfl) (t_k (by (repeat' done)) rfl))
 ·rw [Zf w0]
  refine ak (aK (S1:=S) ?_ aL) ?_
  ·by_cases z:w=0
   ·exact (w0 (.inl z)).elim
   ·by_cases z1:w=1
    ·have hs2:¬ (streams=0):=fun q=>w0 (.inr ⟨z1,q⟩)
     exact b6 (t_k (S1:=S) (by (repeat' done)) (Qr z)) (dz (t_k (S1:=S) (by (repeat' done)) (QV.mpr z1)) (t_k (by (repeat' done)) (by simp [hs2])))
    ·exact b6 (t_k (S1:=S) (by (repeat' done)) (Qr z)) (fG (t_k (by (repeat' done)) (Qr z1)))
  ·by_cases w1:w=1
   ·have hs':(0:Int) < streams:=by have:¬ streams=0:=fun q=>w0 (.inr ⟨w1,q⟩); omega
    have m2:=M.ok (sub:=sub) (n:=n) (S:=S) ns (k:=at' + 1) (m:=streams) a1 hs'
    have r2:=toNat_cast (M.rng ns (at' + 1) hs').1
    rw [Ze w1]
    refine dm (cM (S1:=S) (t_k (by (repeat' done)) (QV.mpr w1)) ?_)
    show _=Res.ok (Fl.rt (.tup [.str "input",.int _])) S
    rw [r2]
    exact aE (by (repeat' done))
   ·rw [Zf w1]
    have t3:=toNat_cast r3.1
    generalize hv:mx ns (at' + 1) many=v at m3 r3 t3
    refine ak (aK (S1:=S) (t_k (by (repeat' done)) (Qr w1)) aL) (ak (aF (d:=.int v) (S1:=S) (by (repeat' done))) ?_)
    by_cases w2:v.toNat < own/\w < 5
    ·rw [Ze w2]
     refine dm (cM (S1:=S) (dz (t_k (S1:=S) (by (repeat' done)) (Zj (by omega))) (t_k (by (repeat' done)) (Zj w2.2))) ?_)
     show _=Res.ok (Fl.rt (.tup [.str "work",.int _,.int 0])) S
     rw [t3]
     exact aE (by (repeat' done))
    ·rw [Zf w2]
     refine ak (aK (S1:=S) ?_ aL) ?_
     ·by_cases w3:v < own
      ·exact dz (t_k (S1:=S) (by (repeat' done)) (Zj w3)) (t_k (by (repeat' done)) (Zz fun z=>w2 ⟨by omega,z⟩))
      ·exact fG (t_k (by (repeat' done)) (Zz w3))
     ·show _=Res.ok (Fl.rt (.tup [.str "work",.int _,.int _])) S
      rw [t3,toNat_cast (show 0<=1+mx ns (at' + 2) 3 by omega)]
      exact aE (by (repeat' done))
theorem Dr (M:Mix P mx) (ns:List Int) (at':Int) {streams many own:Nat} (hm:0 < many):(dM mx ns at' streams many own).WF own many streams:=by
 have r1:=M.rng ns (at' + 1) (show (0:Int) < 9973 by decide)
 have r3:=M.rng ns (at' + 1) (show (0:Int) < many by omega)
 have r4:=M.rng ns (at' + 2) (show (0:Int) < 3 by decide)
 unfold dM
 by_cases w0:mx ns at' 7=0\/(mx ns at' 7=1/\streams=0)
 ·rw [Ze w0]; exact ⟨r1.1,by omega⟩
 ·rw [Zf w0]
  by_cases w1:mx ns at' 7=1
  ·rw [Ze w1]
   have hs:streams≠0:=fun z=>w0 (.inr ⟨w1,z⟩)
   have r2:=M.rng ns (at' + 1) (show (0:Int) < streams by omega)
   show _ < streams
   omega
  ·rw [Zf w1]
   split
   ·rename_i h; exact ⟨by omega,by simpa using h.1⟩
   ·refine ⟨by omega,?_⟩
    rw [Zf (by omega)]
    omega
noncomputable def cK (i:Int):Int:=if i=0 then 2 else 5
noncomputable def dg (mx:List Int->Int->Int->Int) (ns:List Int) (at':Int) (streams ncrews many own:Nat):Wk where
 crew:=(mx ns (at' + 7) ncrews).toNat
 long:=(1+mx ns (at' + 1) (cK (mx ns (at' + 2) 2))).toNat
 doing:=c8.getD (mx ns at' 5).toNat "plus"
 srcs:=(List.range (1+mx ns (at' + 2) 2).toNat).map fun (k:Nat)=>dM mx ns (at' + 3+3 * (k:Int)) streams many own
 starts:=[mx ns (at' + 0) 9973,mx ns (at' + 5) 9973,mx ns (at' + 6) 9973]
theorem dS (k:Nat):bw k=.int (k:Int):=rfl
theorem Ao {i:Int} (h:0<=i/\i < 2):atI [D.int 2,D.int 5] i=some (.int (cK i)):=by
 rcases (show i=0\/i=1 by omega) with rfl|rfl <;> rfl
theorem zw {i:Int} (h:0<=i/\i < 5):atI [D.str "plus",D.str "less",D.str "times",D.str "least",D.str "greatest"] i=some (.str (c8.getD i.toNat "plus")):=by
 obtain ⟨k,rfl⟩:=Int.eq_ofNat_of_zero_le h.1
 rw [kR]
 have hk:k < 5:=by omega
 exact (by decide:∀ k:Fin 5,[D.str "plus",D.str "less",D.str "times",D.str "least",D.str "greatest"][k.1]?=some (.str (c8.getD ((k.1:Nat):Int).toNat "plus"))) ⟨k,hk⟩
theorem wz (h:HG P) (M:Mix P mx) (ns:List Int) {at':Int} {streams ncrews many own:Nat} (hat:0<=at') (hm:0 < many) (hc:0 < ncrews) :
  ah sub P (n+4) "_law_work" [.fro (ns.map .int),.int at',.tup [.int streams,.int ncrews,.int many],.int own] S=.ok (dg mx ns at' streams ncrews many own).toD S:=by
 have r2:=M.rng ns (at' + 2) (show (0:Int) < 2 by decide)
 have rl:0 < cK (mx ns (at' + 2) 2):=by unfold cK; split <;> decide
 have hn:(0:Int) < ncrews:=by omega
 have m (k m:Int) (hk:0<=k) (hm:0 < m) (S:af):ah sub P (n+3) "_law_mixed" [.fro (ns.map .int),.int k,.int m] S=.ok (.int (mx ns k m)) S:=M.ok ns hk hm
 have m2:=m (at' + 2) 2 (by omega) (by decide)
 have m0:=m at' 5 hat (by decide)
 have m7:=m (at' + 7) ncrews (by omega) hn
 have m1:=m (at' + 1) (cK (mx ns (at' + 2) 2)) (by omega) rl
 have hw:=zw (M.rng ns at' (show (0:Int) < 5 by decide))
 have h25:=Ao r2
 have val:(dg mx ns at' streams ncrews many own).toD=.tup [.int (mx ns (at' + 7) ncrews),.int (1+mx ns (at' + 1) (cK (mx ns (at' + 2) 2))),.str (c8.getD (mx ns at' 5).toNat "plus"),
   .tup ((List.range (1+mx ns (at' + 2) 2).toNat).map fun (k:Nat)=>(dM mx ns (at' + 3+3 * (k:Int)) streams many own).toD),.tup [.int (mx ns (at' + 0) 9973),.int (mx ns (at' + 5) 9973),.int (mx ns (at' + 6) 9973)]]:=by
  have e1:=toNat_cast (M.rng ns (at' + 7) hn).1
  have e2:=toNat_cast (i:=1+mx ns (at' + 1) (cK (mx ns (at' + 2) 2))) (by have:=M.rng ns (at' + 1) rl; omega)
  unfold dg Wk.toD
  rw [e1,e2,Z2]; rfl
 have hcl:=(dg mx ns at' streams ncrews many own).cl
 rw [val] at hcl ⊢
 generalize hq:(1+mx ns (at' + 2) 2).toNat=q at hcl
 have hq':(1+mx ns (at' + 2) 2)=(q:Int):=by omega
 obtain ⟨x,loop⟩:=mK (sub:=sub) (cf:=ah sub P (n+3)) (i:=8) (j:=7) (l:=S.length)
   (it:=.iRng (.cs (.bin .add (.c (.int 1)) (.call "_law_mixed" (.cs (.v 0) (.cs (.bin .add (.v 1) (.c (.int 2))) (.cs (.c (.int 2)) .nl))))) .nl))
   (e:=.call "_law_source" (.cs (.v 0) (.cs (.bin .add (.bin .add (.v 1) (.c (.int 3))) (.bin .mul (.c (.int 3)) (.v 8))) (.cs (.v 4) (.cs (.v 6) (.cs (.v 3) .nl))))))
   (σ:=[some (.fro (ns.map .int)),some (.int at'),some (.tup [.int streams,.int ncrews,.int many]),some (.int own),some (.int streams),some (.int ncrews),some (.int many),some (.loc S.length),none,none,none,none])
   (S:=S++[.lst []]) (S1:=S++[.lst []]) (xs:=[]) (ks:=List.range q) (f:=bw) (g:=fun (k:Nat)=>(dM mx ns (at' + 3+3 * (k:Int)) streams many own).toD) (o:=none) (raw:=[])
   (gA (by (repeat' (first|done|with_reducible exact m2 _))) hq' (by omega) dS) rfl (aG _ _) (by decide) (Wu (by exact Qg 3)) (fun _=>rfl)
   (fun k _ ys=>by
    have:=Gg (sub:=sub) (n:=n) (S:=List.set (S++[.lst []]) S.length (.lst ys)) h M ns (at':=at' + 3+3 * (k:Int)) (streams:=streams) (many:=many) (own:=own) (by omega) hm
    rw [dS]
    (repeat' done)) (by unfold aI; rw [ZO,X2]; omega)
 rw [iB,Qq] at loop
 have comp:∀ (y:Option D) (d1 d2:D) (T:af),ev sub (ah sub P (n+3)) (.comp 2 (.call "_law_mixed" (.cs (.v 0) (.cs (.bin .add (.v 1) (.v 13)) (.cs (.c (.int 9973)) .nl)))) (.one 13) (.iSeq (.tup (.cs (.c (.int 0)) (.cs (.c (.int 5)) (.cs (.c (.int 6)) .nl))))) .nl)
   [some (.fro (ns.map .int)),some (.int at'),some (.tup [.int streams,.int ncrews,.int many]),some (.int own),some (.int streams),some (.int ncrews),some (.int many),some (.loc S.length),y,some d1,some d2,none] T =
   .ok (.loc T.length) (T++[.lst [.int (mx ns (at' + 0) 9973),.int (mx ns (at' + 5) 9973),.int (mx ns (at' + 6) 9973)]]):=fun y d1 d2 T =>
  fH (ks:=[0,5,6]) (f:=D.int) (g:=fun k=>.int (mx ns (at' + k) 9973)) (cy (x:=.tup [.int 0,.int 5,.int 6]) (by (repeat' done)) rfl) rfl (fun k hk=>by
   have hk:0<=k:=by
    have:k=0\/k=5\/k=6:=by simpa using hk
    omega
   have:=m (at' + k) 9973 (by omega) (by decide) T
   (repeat' done)) (by decide)
 have go:∀ (T:af),(S++.lst ((List.range q).map fun (k:Nat)=>(dM mx ns (at' + 3+3 * (k:Int)) streams many own).toD)::T)[S.length]?=some (.lst ((List.range q).map fun (k:Nat)=>(dM mx ns (at' + 3+3 * (k:Int)) streams many own).toD)):=fun T=>dW S T _
 refine x_call h.work rfl (ak (Ba (ds:=[.int streams,.int ncrews,.int many]) (r_v rfl) rfl) (ak (aF (cV ai rfl)) (ak loop (ak (aF (by (repeat' (first|done|with_reducible exact m0 _))))
  (ak (aF (by (repeat' (first|done|with_reducible exact m2 _|with_reducible exact m1 _)))) (ak (aF (aN (aa (comp _ _ _ _) ai) uT)) (aE (gp (aa (by (repeat' (first|done|with_reducible exact m7 _))) (aa (r_v rfl) (aa (r_v rfl) (aa (aN (aa (r_v rfl) ai) (eB (by rw [Zr,Zr,Zr]; exact go _))) (aa (r_v rfl) ai))))) rfl)))))))) (bN hcl (by rw [Zr,Zr,Zr]; exact cF _ _))
theorem yr (M:Mix P mx) (ns:List Int) (at':Int) {streams ncrews many own:Nat} (hm:0 < many) (hc:0 < ncrews):(dg mx ns at' streams ncrews many own).WF own many streams ncrews:=by
 have r2:=M.rng ns (at' + 2) (show (0:Int) < 2 by decide)
 have r5:=M.rng ns at' (show (0:Int) < 5 by decide)
 have rl:0 < cK (mx ns (at' + 2) 2)/\cK (mx ns (at' + 2) 2)<=5:=by unfold cK; split <;> decide
 have r1:=M.rng ns (at' + 1) rl.1
 have r7:=M.rng ns (at' + 7) (show (0:Int) < ncrews by omega)
 refine ⟨?_,⟨?_,?_⟩,?_,⟨?_,?_⟩,fun s hs=>?_,rfl,fun v hv=>?_⟩
 ·show (mx ns (at' + 7) ncrews).toNat < ncrews; omega
 ·show 1<=(1+mx ns (at' + 1) (cK (mx ns (at' + 2) 2))).toNat; omega
 ·show (1+mx ns (at' + 1) (cK (mx ns (at' + 2) 2))).toNat<=8; omega
 ·show c8.getD (mx ns at' 5).toNat "plus"∈c8
  rw [ZG,Zb (show (mx ns at' 5).toNat < c8.length by show _ < 5; omega)]
  exact Xp _
 ·show 1<=((List.range (1+mx ns (at' + 2) 2).toNat).map _).length
  rw [Zd,ZO]; omega
 ·show ((List.range (1+mx ns (at' + 2) 2).toNat).map _).length<=3
  rw [Zd,ZO]; omega
 ·obtain ⟨k,_,rfl⟩:=ZA.mp hs
  exact Dr M ns _ hm
 ·have:∀ k,0<=mx ns k 9973/\mx ns k 9973<=9972:=fun k=>by have:=M.rng ns k (show (0:Int) < 9973 by decide); omega
  have hv:v∈[mx ns (at' + 0) 9973,mx ns (at' + 5) 9973,mx ns (at' + 6) 9973]:=hv
  simp at hv
  rcases hv with rfl|rfl|rfl <;> exact this _
noncomputable def f9 (mx:List Int->Int->Int->Int) (ns:List Int) (at':Int) (k:Nat):Nat × Nat:=((1+mx ns (at' + 3+(k:Int)) 2).toNat,(1+mx ns (at' + 5+(k:Int)) 5 / 2).toNat)
noncomputable def cA (mx:List Int->Int->Int->Int) (ns:List Int) (at':Int) (many:Nat):List Nat:=(List.range many).filter fun k=>decide (0 < mx ns (at' + 7+(k:Int)) 3)
noncomputable def cQ (mx:List Int->Int->Int->Int) (ns:List Int) (at' most:Int):Lp where
 streams:=(mx ns at' 3).toNat
 crews:=(List.range (1+mx ns (at' + 2) 2).toNat).map (f9 mx ns at')
 works:=(List.range (1+mx ns (at' + 1) most).toNat).map fun (k:Nat)=>dg mx ns (at' + 7+9 * (k:Int)) (mx ns at' 3).toNat (1+mx ns (at' + 2) 2).toNat (1+mx ns (at' + 1) most).toNat k
 outs:=if cA mx ns at' (1+mx ns (at' + 1) most).toNat=[] then [(1+mx ns (at' + 1) most).toNat - 1] else cA mx ns at' (1+mx ns (at' + 1) most).toNat
theorem Gh (M:Mix P mx) (ns:List Int) {at' most:Int} {nc many:Nat} {os:List Nat} (hq:(1+mx ns (at' + 2) 2).toNat=nc) (hw:(1+mx ns (at' + 1) most).toNat=many) (ho:(if cA mx ns at' many=[] then [many - 1] else cA mx ns at' many)=os):(cQ mx ns at' most).toD =
  .tup [.int (mx ns at' 3),.tup ((List.range nc).map fun (k:Nat)=>aP (f9 mx ns at' k)),.tup ((List.range many).map fun (k:Nat)=>(dg mx ns (at' + 7+9 * (k:Int)) (mx ns at' 3).toNat nc many k).toD),.tup (os.map bw)]:=by
 have e0:=toNat_cast (M.rng ns at' (show (0:Int) < 3 by decide)).1
 unfold cQ Lp.toD
 simp only [hq,hw,ho,e0,Z2]
 rfl
theorem yO (h:HG P) (M:Mix P mx) (ns:List Int) {at' most:Int} (hat:0<=at') (hmo:0 < most) (hmo2:most<=8) :
  ah sub P (n+5) "_law_loop" [.fro (ns.map .int),.int at',.int most] S=.ok (cQ mx ns at' most).toD S:=by
 have r1:=M.rng ns (at' + 1) hmo
 have r2:=M.rng ns (at' + 2) (show (0:Int) < 2 by decide)
 have m (k m:Int) (hk:0<=k) (hm:0 < m) (S:af):ah sub P (n+4) "_law_mixed" [.fro (ns.map .int),.int k,.int m] S=.ok (.int (mx ns k m)) S:=M.ok ns hk hm
 have m0:=m at' 3 hat (by decide)
 have m1:=m (at' + 1) most (by omega) hmo
 have m2:=m (at' + 2) 2 (by omega) (by decide)
 have e0:=toNat_cast (M.rng ns at' (show (0:Int) < 3 by decide)).1
 generalize hq:(1+mx ns (at' + 2) 2).toNat=nc
 generalize hw:(1+mx ns (at' + 1) most).toNat=many
 have hq':(1+mx ns (at' + 2) 2)=(nc:Int):=by omega
 have hw':(1+mx ns (at' + 1) most)=(many:Int):=by omega
 have hcl:=(cQ mx ns at' most).cl
 generalize ho:(if cA mx ns at' many=[] then [many - 1] else cA mx ns at' many)=os
 rw [Gh M ns hq hw ho] at hcl ⊢
 generalize hs:(mx ns at' 3).toNat=streams at e0 hcl ⊢
 obtain ⟨x,iQ⟩:=mK (sub:=sub) (cf:=ah sub P (n+4)) (i:=6) (j:=5) (l:=S.length) (it:=.iRng (.cs (.bin .add (.c (.int 1)) (.call "_law_mixed" (.cs (.v 0) (.cs (.bin .add (.v 1) (.c (.int 2))) (.cs (.c (.int 2)) .nl))))) .nl))
   (e:=.tup (.cs (.bin .add (.c (.int 1)) (.call "_law_mixed" (.cs (.v 0) (.cs (.bin .add (.bin .add (.v 1) (.c (.int 3))) (.v 6)) (.cs (.c (.int 2)) .nl))))) (.cs (.bin .add (.c (.int 1)) (.bin .fdiv (.call "_law_mixed" (.cs (.v 0) (.cs (.bin .add (.bin .add (.v 1) (.c (.int 5))) (.v 6)) (.cs (.c (.int 5)) .nl)))) (.c (.int 2)))) .nl)))
   (σ:=[some (.fro (ns.map .int)),some (.int at'),some (.int most),some (.int (mx ns at' 3)),some (.int (1+mx ns (at' + 1) most)),some (.loc S.length),none,none,none])
   (S:=S++[.lst []]) (S1:=S++[.lst []]) (xs:=[]) (ks:=List.range nc) (f:=bw) (g:=fun (k:Nat)=>aP (f9 mx ns at' k)) (o:=none) (raw:=[])
   (gA (by (repeat' (first|done|with_reducible exact m2 _))) hq' (by omega) dS) rfl (aG _ _) (by decide) (Wu (by exact Qg 2)) (fun _=>rfl)
   (fun k _ ys=>by
    have q1:=m (at' + 3+(k:Int)) 2 (by omega) (by decide)
    have q2:=m (at' + 5+(k:Int)) 5 (by omega) (by decide)
    have g1:=M.rng ns (at' + 3+(k:Int)) (show (0:Int) < 2 by decide)
    have g2:=M.rng ns (at' + 5+(k:Int)) (show (0:Int) < 5 by decide)
    have t1:=toNat_cast (i:=1+mx ns (at' + 3+(k:Int)) 2) (by omega)
    have t2:=toNat_cast (i:=1+mx ns (at' + 5+(k:Int)) 5 / 2) (by omega)
    rw [dS]
    unfold aP f9
    rw [t1,t2]
    (repeat' (first|done|with_reducible exact q1 _|with_reducible exact q2 _))) (by unfold aI; rw [ZO,X2]; omega)
 rw [iB,Qq] at iQ
 generalize hcr:((List.range nc).map fun (k:Nat)=>aP (f9 mx ns at' k))=cr at iQ hcl ⊢
 have hcrl:cr.length=nc:=by rw [<- hcr,Zd,ZO]
 obtain ⟨y,gr⟩:=mK (sub:=sub) (cf:=ah sub P (n+4)) (i:=6) (j:=7) (l:=(S++[Cell.lst cr]).length) (it:=.iRng (.cs (.v 4) .nl))
   (e:=.call "_law_work" (.cs (.v 0) (.cs (.bin .add (.bin .add (.v 1) (.c (.int 7))) (.bin .mul (.c (.int 9)) (.v 6))) (.cs (.tup (.cs (.v 3) (.cs (.bi .len (.cs (.v 5) .nl)) (.cs (.v 4) .nl)))) (.cs (.v 6) .nl)))))
   (σ:=[some (.fro (ns.map .int)),some (.int at'),some (.int most),some (.int (mx ns at' 3)),some (.int (1+mx ns (at' + 1) most)),some (.loc S.length),x,some (.loc (S++[Cell.lst cr]).length),none])
   (S:=(S++[.lst cr])++[.lst []]) (S1:=(S++[.lst cr])++[.lst []]) (xs:=[]) (ks:=List.range many) (f:=bw)
   (g:=fun (k:Nat)=>(dg mx ns (at' + 7+9 * (k:Int)) streams nc many k).toD) (o:=none) (raw:=[])
   (gA (by (repeat' done)) hw' (by omega) dS) rfl (aG _ _) (by decide) (Wu (by exact Qg 2)) (fun _=>rfl)
   (fun k _ ys=>by
    rw [iB,dS]
    have hd:=wz (sub:=sub) (n:=n) (S:=(S++[.lst cr])++[.lst ys]) h M ns (at':=at' + 7+9 * (k:Int)) (streams:=streams) (ncrews:=nc) (many:=many) (own:=k) (by omega) (by omega) (by omega)
    rw [e0,<- hw'] at hd
    have hl:biD sub .len [.loc S.length] ((S++[.lst cr])++[.lst ys])=.ok (.int (nc:Int)) ((S++[.lst cr])++[.lst ys]):=by
     rw [<- hcrl]; exact jR (by rw [Zr]; exact dW _ _ _)
    (repeat' done)) (by unfold aI; rw [ZO,X2]; omega)
 rw [iB,Qq] at gr
 generalize hwk:((List.range many).map fun (k:Nat)=>(dg mx ns (at' + 7+9 * (k:Int)) streams nc many k).toD)=wk at gr hcl ⊢
 generalize hT:(S++[Cell.lst cr])++[Cell.lst wk]=T at gr
 have gc:∀ U:af,(T++U)[S.length]?=some (.lst cr):=fun U=>by rw [<- hT,Zr,Zr]; exact dW _ _ _
 have gw:∀ U:af,(T++U)[(S++[Cell.lst cr]).length]?=some (.lst wk):=fun U=>by rw [<- hT,Zr]; exact dW _ _ _
 have tk:∀ U:af,(T++U).take S.length=S:=fun U=>by rw [<- hT,Zr,Zr]; exact cF _ _
 have comp:=De (sub:=sub) (cf:=ah sub P (n+4)) (k:=2) (i:=10) (el:=.v 10) (it:=.iRng (.cs (.v 4) .nl)) (tt:=.cmp .gt (.call "_law_mixed" (.cs (.v 0) (.cs (.bin .add (.bin .add (.v 1) (.c (.int 7))) (.v 10)) (.cs (.c (.int 3)) .nl)))) (.c (.int 0)))
   (σ:=[some (.fro (ns.map .int)),some (.int at'),some (.int most),some (.int (mx ns at' 3)),some (.int (1+mx ns (at' + 1) most)),some (.loc S.length),y,some (.loc (S++[Cell.lst cr]).length),none]) (S:=T) (S1:=T) (s:=⟨(List.range many).map bw,none,[]⟩) (g:=id) (p:=fun d=>match d with|.int k=>decide (0 < mx ns (at' + 7+k) 3)|_=>false) rfl
   (gA (by (repeat' done)) hw' (by omega) dS) rfl
   (fun d hd=>by
    obtain ⟨k,_,rfl⟩:=ZA.mp hd
    have:=m (at' + 7+(k:Int)) 3 (by omega) (by decide) T
    rw [dS]
    (repeat' done))
   (fun d hd _=>r_v rfl) (by unfold aI; rw [Zd,ZO]; omega)
 rw [List.map_id,List.filter_map,show List.filter ((fun d=>match d with|.int k=>decide (0 < mx ns (at' + 7+k) 3)|_=>false) ∘ bw) (List.range many)=cA mx ns at' many from rfl] at comp
 refine xY h.loop rfl (ak (aF (by (repeat' (first|done|with_reducible exact m0 _)))) (ak (aF (by (repeat' (first|done|with_reducible exact m1 _)))) (ak (aF (cV ai rfl)) (ak iQ (ak (aF (cV ai rfl)) (ak gr (ak (aF comp) rfl))))))) ?_ hcl
 cases hu:cA mx ns at' many with
 | nil =>
  rw [hu,Ze rfl] at ho
  subst ho
  have t3:((many - 1:Nat):Int)=1+mx ns (at' + 1) most - 1:=by omega
  have hE:cmD .eq (.loc T.length) (.loc (T++[Cell.lst []]).length) ((T++[.lst []])++[.lst []])=.ok (.bl true) ((T++[.lst []])++[.lst []]):=o_ (xs:=[]) (by rw [Zr]; exact dW _ _ _) (aG _ _)
  refine ⟨_,ak (cM (aX (aW (r_v rfl) (cV ai rfl) hE)) (aF (by (repeat' done)))) (aE (gp (aa (r_v rfl) (aa (aN (aa (r_v rfl) ai) (eB ?_)) (aa (aN (aa (r_v rfl) ai) (eB ?_)) (aa (aN (aa (r_v rfl) ai) (eB ?_)) ai)))) rfl)),?_⟩
  ·rw [Zr,Zr]; exact gc _
  ·rw [Zr,Zr]; exact gw _
  ·rw [ZF,dS,t3]; exact aG _ _
  ·rw [Zr,Zr]; exact tk _
 | cons a r =>
  rw [hu,Zf (by intro z; cases z)] at ho
  subst ho
  have hE:cmD .eq (.loc T.length) (.loc (T++[Cell.lst ((a::r).map bw)]).length) ((T++[.lst ((a::r).map bw)])++[.lst []])=.ok (.bl false) ((T++[.lst ((a::r).map bw)])++[.lst []]):=o_ (xs:=(a::r).map bw) (by rw [Zr]; exact dW _ _ _) (aG _ _)
  refine ⟨_,ak (aK (aX (aW (r_v rfl) (cV ai rfl) hE)) aL) (aE (gp (aa (r_v rfl) (aa (aN (aa (r_v rfl) ai) (eB ?_)) (aa (aN (aa (r_v rfl) ai) (eB ?_)) (aa (aN (aa (r_v rfl) ai) (eB ?_)) ai)))) rfl)),?_⟩
  ·rw [Zr]; exact gc _
  ·rw [Zr]; exact gw _
  ·rw [Zr]; exact dW _ _ _
  ·rw [Zr]; exact tk _
theorem qy (p:Nat->Bool) (many:Nat):∀ (k c:Nat),k+c<=many->dY many k ((List.range' k c).filter p)
 | k,0,_=>trivial
 | k,c+1,h=>by
  rw [List.range'_succ,List.filter_cons]
  have:=qy p many (k+1) c (by omega)
  split
  ·exact ⟨Zk _,by omega,this⟩
  ·have low:∀ (l:List Nat) (a b:Nat),a<=b->dY many b l->dY many a l:=by
    intro l
    cases l with
    | nil=>intros; trivial
    | cons x r=>intro a b hab ⟨h1,h2,h3⟩; exact ⟨by omega,h2,h3⟩
   exact low _ _ _ (QL _) this
theorem Gn (M:Mix P mx) (ns:List Int) {at' most:Int} (hmo:0 < most) (hmo2:most<=8):(cQ mx ns at' most).WF:=by
 have r0:=M.rng ns at' (show (0:Int) < 3 by decide)
 have r1:=M.rng ns (at' + 1) hmo
 have r2:=M.rng ns (at' + 2) (show (0:Int) < 2 by decide)
 have hw:(cQ mx ns at' most).works.length=(1+mx ns (at' + 1) most).toNat:=by simp [cQ]
 have hc:(cQ mx ns at' most).crews.length=(1+mx ns (at' + 2) 2).toNat:=by simp [cQ]
 refine ⟨?_,?_,fun c hcm=>?_,?_,fun i w hi=>?_,?_,?_⟩
 ·show (mx ns at' 3).toNat<=6; omega
 ·rw [hc]; omega
 ·obtain ⟨k,_,rfl⟩:=ZA.mp hcm
  have q1:=M.rng ns (at' + 3+(k:Int)) (show (0:Int) < 2 by decide)
  have q2:=M.rng ns (at' + 5+(k:Int)) (show (0:Int) < 5 by decide)
  simp only [f9]
  omega
 ·rw [hw]; omega
 ·rw [hw,hc]
  have hi':i < (1+mx ns (at' + 1) most).toNat:=by rw [<- hw]; exact (Zh.mp hi).1
  have hi:((List.range (1+mx ns (at' + 1) most).toNat).map fun (k:Nat)=>dg mx ns (at' + 7+9 * (k:Int)) (mx ns at' 3).toNat (1+mx ns (at' + 2) 2).toNat (1+mx ns (at' + 1) most).toNat k)[i]?=some w:=hi
  rw [ZM,List.getElem?_range hi'] at hi
  cases hi
  exact yr M ns _ (by omega) (by omega)
 ·show 1<=(if cA mx ns at' (1+mx ns (at' + 1) most).toNat=[] then [(1+mx ns (at' + 1) most).toNat - 1] else cA mx ns at' (1+mx ns (at' + 1) most).toNat).length
  split
  ·simp
  ·rename_i h; exact List.length_pos_iff.mpr h
 ·rw [hw]
  show dY _ 0 (if cA mx ns at' (1+mx ns (at' + 1) most).toNat=[] then [(1+mx ns (at' + 1) most).toNat - 1] else cA mx ns at' (1+mx ns (at' + 1) most).toNat)
  split
  ·exact ⟨Xs _,by omega,trivial⟩
  ·unfold cA
   rw [List.range_eq_range']
   exact qy _ _ 0 _ (by omega)
end
end RL

namespace RL
open PySem EV GO
noncomputable def jE:Fn:=⟨1,5,(.seq (.set (.one 1) (.ix (.call "checked" (.cs (.v 0) .nl)) (.c (.int 2))))
 (.seq (.set (.one 2) (.lst .nl))
 (.seq (.forS (.many [3,4]) (.iEnum (.v 1))
  (.ex (.me .extend (.v 2) (.cs (.comp 2 (.tup (.cs (.ix (.v 6) (.c (.int 1))) (.cs (.v 3) (.cs (.ix (.v 6) (.c (.int 2))) .nl)))) (.one 6) (.iSeq (.ix (.v 4) (.c (.int 3)))) (.cmp .eq (.ix (.v 6) (.c (.int 0))) (.c (.str "work")))) .nl))))
 (.ret (.bi .sortedSet (.cs (.v 2) .nl))))))⟩
noncomputable def tupI (t:List Int):D:=.tup (t.map .int)
noncomputable def gv (behind:Nat):Srs->Option (List Int)
 | .wrk w b=>some [(w:Int),(behind:Int),(b:Int)]
 | _=>none
noncomputable def bM:Nat->List Wk->List (List Int)
 | _,[]=>[]
 | k,w::r=>w.srcs.filterMap (gv k)++bM (k+1) r
theorem u6 {sub:Sub} {cf:Str->List D->M D} {σ:Sg} {S S1:af} {k i:Nat} {el it tt:E} {α:Type} {ks:List α} {f:α->D} {g:α->Option D} {o:Option Nat} {raw:List D} (hn:tt.aY=false) (hi:evI sub cf it σ S=.ok ⟨ks.map f,o,raw⟩ S1) (hs:aD ⟨ks.map f,o,raw⟩ S1=.ok () S1)
  (hp:∀ a∈ks,evT sub cf tt ((σ++List.replicate k none).set i (some (f a))) S1=.ok (g a).isSome S1) (hg:∀ a∈ks,∀ d,g a=some d->ev sub cf el ((σ++List.replicate k none).set i (some (f a))) S1=.ok d S1) (hz:ks.length<=aI) :
  ev sub cf (.comp k el (.one i) it tt) σ S=.ok (.loc S1.length) (S1++[.lst (ks.filterMap g)]):=by
 rw [gJ,hi]
 simp only [Res.aj]
 have:=kN (s:=⟨ks.map f,o,raw⟩) (f:=f) (fn:=fun d=>aO (.one i) d (σ++List.replicate k none)>>=fun σ'=>(if tt.aY=true then pure true else evT sub cf tt σ')>>=fun b=>if b=true then ev sub cf el σ'>>=fun y=>pure (some y) else pure none) (g:=g) (S:=S1) hs (ks:=ks) (fun d hd=>by
  simp only [aq,iK,Res.aj,hn,Zu,ZK]
  rw [hp d hd]
  cases q:g d with
  | none=>rfl
  | some y=>simp [aq,hg d hd y q])
 rw [eu this]
 simp only [Res.aj]
 rw [Ze (show fits (ks.filterMap g).length=true from Zj (ZY (List.length_filterMap_le _ _) hz))]
theorem lY:∀ (ws:List Wk) (k i:Nat) (h:i < ws.length),bM k (ws.take (i+1))=bM k (ws.take i)++(ws[i]).srcs.filterMap (gv (k+i))
 | w::r,k,0,_=>by simp [bM]
 | w::r,k,i+1,h=>by
  have:=lY r (k+1) i (by simpa using h)
  simp only [List.take_succ_cons,bM,List.getElem_cons_succ]
  rw [this,Zr,show k+1+i=k+(i+1) by omega]
theorem nG:∀ (ws:List Wk) (k:Nat),(∀ w∈ws,w.srcs.length<=3)->(bM k ws).length<=3 * ws.length
 | [],_,_=>Zk _
 | w::r,k,h=>by
  have h1:=nG r (k+1) fun v hv=>h v (Zm _ hv)
  have h2:=h w Zn
  have h3:(w.srcs.filterMap (gv k)).length<=w.srcs.length:=List.length_filterMap_le _ _
  simp only [bM,Zv,ZB]
  omega
theorem mj:∀ {ws:List Wk} {k:Nat} {t:List Int},t∈bM k ws->∃ i w b x,ws[i]?=some w/\Srs.wrk x b∈w.srcs/\t=[(x:Int),((k+i:Nat):Int),(b:Int)]
 | w::r,k,t,h=>by
  rcases ZR.mp h with h|h
  ·obtain ⟨s,hs,e⟩:=Qk.mp h
   cases s with
   | wrk x b=>cases e; exact ⟨0,w,b,x,rfl,hs,rfl⟩
   | _=>cases e
  ·obtain ⟨i,v,b,x,h1,h2,h3⟩:=mj h
   exact ⟨i+1,v,b,x,h1,h2,by rw [h3,show k+1+i=k+(i+1) by omega]⟩
theorem allI (t:List Int):allInts (t.map .int)=some t:=by
 induction t with
 | nil=>rfl
 | cons a r ih=>show (allInts (r.map .int)).map (a :: ·)=_; rw [ih]; rfl
theorem rW:∀ ts:List (List Int),tups (ts.map tupI)=some ts
 | []=>rfl
 | t::r=>by
  show (match allInts (t.map .int),tups (r.map tupI) with|some t,some q=>some (t::q)|_,_=>none)=_
  rw [allI,rW r]
theorem yF (t:List Int):D.lows 0 (t.map .int)=true:=by
 induction t with
 | nil=>rfl
 | cons a r ih=>show (D.low 0 (.int a)&&D.lows 0 (r.map .int))=true; rw [ih]; rfl
theorem l9 (ts:List (List Int)):D.lows 0 (ts.map tupI)=true:=by
 induction ts with
 | nil=>rfl
 | cons t r ih=>show (D.lows 0 (t.map .int)&&D.lows 0 (r.map tupI))=true; rw [yF,ih]; rfl
section
variable {sub:Sub} {P:Prg} {n:Nat} {S:af}
theorem wA {cf:Str->List D->M D} {x0 x1 x2:Option D} {i:Nat} {w:Wk} {T:af} (hw:w.srcs.length<=3) :
  ev sub cf (.comp 2 (.tup (.cs (.ix (.v 6) (.c (.int 1))) (.cs (.v 3) (.cs (.ix (.v 6) (.c (.int 2))) .nl)))) (.one 6) (.iSeq (.ix (.v 4) (.c (.int 3)))) (.cmp .eq (.ix (.v 6) (.c (.int 0))) (.c (.str "work"))))
   [x0,x1,x2,some (.int (i:Int)),some w.toD] T=.ok (.loc T.length) (T++[.lst ((w.srcs.filterMap (gv i)).map tupI)]):=by
 have h:=u6 (sub:=sub) (cf:=cf) (k:=2) (i:=6) (el:=.tup (.cs (.ix (.v 6) (.c (.int 1))) (.cs (.v 3) (.cs (.ix (.v 6) (.c (.int 2))) .nl)))) (it:=.iSeq (.ix (.v 4) (.c (.int 3)))) (tt:=.cmp .eq (.ix (.v 6) (.c (.int 0))) (.c (.str "work")))
  (σ:=[x0,x1,x2,some (.int (i:Int)),some w.toD]) (S:=T) (S1:=T) (ks:=w.srcs) (f:=Srs.toD) (g:=fun s=>(gv i s).map tupI) (o:=none) (raw:=w.srcs.map Srs.toD) rfl (cy (az (r_v rfl) r_c (aB rfl)) rfl) rfl
  (fun s _=>by
   cases s with
   | val v=>exact aX (aW (az (r_v rfl) r_c (aB rfl)) r_c rfl)
   | inp k=>exact aX (aW (az (r_v rfl) r_c (aB rfl)) r_c rfl)
   | wrk x b=>exact aX (aW (az (r_v rfl) r_c (aB rfl)) r_c rfl))
  (fun s _ d hd=>by
   cases s with
   | val v=>cases hd
   | inp k=>cases hd
   | wrk x b =>
    cases hd
    exact gp (aa (az (r_v rfl) r_c (aB rfl)) (aa (r_v rfl) (aa (az (r_v rfl) r_c (aB rfl)) ai))) rfl)
  (by unfold aI; omega)
 rw [h,List.map_filterMap]
theorem vS {T:af} {a b:Cell} {G:af}:(T++a::G).set T.length b=T++b::G:=by
 rw [List.set_append_right _ _ (Zk _),We]; rfl
theorem fP {T:af} {a:Cell} {G:af}:(T++a::G)[T.length]?=some a:=by
 rw [ZJ (Zk _),We]; rfl
theorem xM {T:af} {k:Nat} {ts:List (List Int)} (hk:T[k]?=some (.lst (ts.map tupI))) (h1:ts.length<=18) (h2:(ts.all fun t=>!t.isEmpty)=true):biD sub .sortedSet [.loc k] T=.ok (.loc T.length) (T++[.lst ((bA ts).map tupI)]):=by
 show (cu (.loc k)>>=fun ds=>opt (tups ds)>>=fun ts=>guard (decide (ts.length<=18)&&ts.all fun t=>!t.isEmpty) (alloc (.lst ((bA ts).map fun t=>.tup (t.map .int))))) T=_
 have e:cu (.loc k) T=.ok (ts.map tupI) T:=cR hk
 rw [aq,e]
 simp only [Res.aj]
 rw [aq,rW]
 simp only [cD,Res.aj]
 rw [h2,Zj h1]
 rfl
theorem jv {T:af} {ds:List D} {m:Nat} (hm:S.length<=m) (ht:T.take S.length=S) (h:T[m]?=some (.lst ds)) (hc:D.lows 0 ds=true):leave S (.loc m) T=.ok (.loc S.length) (S++[.lst ds]):=by
 unfold leave
 rw [Ze ht,Zf (by show ¬ decide (m < S.length)=true; simp; omega)]
 simp only [h]
 rw [Ze (show Cell.low S.length (.lst ds)=true from gF (Xs _) hc)]
theorem uL (h:HB P) (hn:Has P "needs" jE) {l:Lp} (hl:l.WF) (h6:l.works.length<=6):ah sub P (n+8) "needs" [l.toD] S=.ok (.loc S.length) (S++[.lst ((bA (bM 0 l.works)).map tupI)]):=by
 have h3:∀ w∈l.works,w.srcs.length<=3:=fun w hw=>by
  obtain ⟨i,hi⟩:=ZL hw
  exact (hl.works i w hi).some.2
 have hnl:∀ i,(bM 0 (l.works.take i)).length<=18:=fun i=>by
  have:=nG (l.works.take i) 0 fun w hw=>h3 w (Wf hw)
  rw [XD] at this
  omega
 have hnum:(num 0 (l.works.map Wk.toD)).length=l.works.length:=by rw [f6,Zd]
 obtain ⟨σ',T',e,x3,x4,G,rfl,rfl⟩:=i6 (sub:=sub) (cf:=ah sub P (n+7)) (t:=.many [3,4]) (it:=.iEnum (.v 1)) (b:=.ex (.me .extend (.v 2) (.cs (.comp 2 (.tup (.cs (.ix (.v 6) (.c (.int 1))) (.cs (.v 3) (.cs (.ix (.v 6) (.c (.int 2))) .nl)))) (.one 6) (.iSeq (.ix (.v 4) (.c (.int 3)))) (.cmp .eq (.ix (.v 6) (.c (.int 0))) (.c (.str "work")))) .nl)))
  (σ:=[some l.toD,some (.tup (l.works.map Wk.toD)),some (.loc S.length),none,none]) (S:=S++[.lst []]) (S1:=S++[.lst []]) (s:=⟨num 0 (l.works.map Wk.toD),none,l.works.map Wk.toD⟩)
  (fun i σ T=>∃ x3 x4 G,σ=[some l.toD,some (.tup (l.works.map Wk.toD)),some (.loc S.length),x3,x4]/\T=S++.lst ((bM 0 (l.works.take i)).map tupI)::G)
  (by simp) ⟨none,none,[],rfl,rfl⟩ (fun _ _ _ _=>rfl) (fun i hi σ T ⟨x3,x4,G,hσ,hT⟩=>by
   subst hσ; subst hT
   have hi':i < l.works.length:=by rw [<- hnum]; exact hi
   have hit:(num 0 (l.works.map Wk.toD))[i]=.tup [.int (i:Int),(l.works[i]).toD]:=by
    rw [nI]; simp
   show ∃ σ' T',bq sub (ah sub P (n+7)) _ _ (num 0 (l.works.map Wk.toD))[i] _ _=_/\_
   rw [hit]
   refine ⟨_,_,nv rfl (fq (lC (r_v rfl) (aa (wA (h3 _ (Xp hi'))) ai) (sj (l:=S.length) (ds:=(bM 0 (l.works.take i)).map tupI) (k:=(S++.lst ((bM 0 (l.works.take i)).map tupI)::G).length) ?_ (aG _ _) ?_))),some (.int (i:Int)),some (l.works[i]).toD,G++[.lst (((l.works[i]).srcs.filterMap (gv i)).map tupI)],rfl,?_⟩
   ·exact (ZE (by simp)).trans fP
   ·have h1:=hnl (i+1)
    rw [lY _ _ _ hi',Zv,Xq] at h1
    rw [Zd,Zd]
    unfold aI; omega
   ·rw [Zr,XE,vS,<- XA,lY _ _ _ hi',Xq])
 rw [hnum,Z4] at e
 have ne:((bM 0 l.works).all fun t=>!t.isEmpty)=true:=Z8.mpr fun t ht=>by
  obtain ⟨i,w,b,x,_,_,rfl⟩:=mj ht
  rfl
 have hl18:=hnl l.works.length
 rw [Z4] at hl18
 refine x_call (ds:=[l.toD]) hn rfl (ak (aF (az (au (aa (r_v rfl) ai) (g_ h hl)) r_c (aB rfl))) (ak (aF (cV ai rfl)) (ak e (aE (aN (aa (r_v rfl) ai) (xM fP hl18 ne)))))) (jv (by simp) ?_ (aG _ _) (l9 _))
 rw [Zr,cF]
end
end RL

namespace RL
open PySem EV GO
noncomputable def tS:Fn:=⟨1,1,(.seq (.ite (.not (.call "is_whole" (.cs (.v 0) (.cs (.c (.int 1)) (.cs (.c (.int 200)) .nl)))))
  (.rais "NoGap")
  .skip)
 (.ret (.v 0)))⟩
section
variable {sub:Sub} {P:Prg} {n:Nat} {S:af}
theorem n_ {xs:List D} {k:Nat} {d:D} (h:xs[k]?=some d):atI xs (k:Int)=some d:=by
 unfold atI ixN
 have hk:=(Zh.mp h).1
 rw [Ze (Qt k),Ze (Int.ofNat_lt.mpr hk),Z5]
 exact h
theorem CY {l:Lp} {i:Nat} (h:i < l.works.length):atI (l.works.map Wk.toD) (i:Int)=some (l.works.getD i ⟨0,0,"",[],[]⟩).toD:=n_ (by rw [ZM,ZG,Zb h]; rfl)
theorem GF {l:Lp} {k:Nat} {c:Nat × Nat} (h:l.crews[k]?=some c):atI (l.crews.map aP) (k:Int)=some (aP c):=n_ (by rw [ZM,h]; rfl)
theorem mU {s:Src} {f:D->Sg->M Fl} {d y:D} {ds:List D} {σ:Sg} {S1:af} (hs:aD s S=.ok () S) (hb:f d σ S=.ok (.rt y) S1):forL s f (d::ds) σ S=.ok (.rt y) S1:=by
 rw [gW,hs,Res.aj,hb]; rfl
theorem kC {s:Src} {f:D->Sg->M Fl} {σ:Sg} (hs:aD s S=.ok () S):forL s f [] σ S=.ok (.nx σ) S:=by
 rw [jh,hs]; rfl
theorem c5 {cf:Str->List D->M D} {σ:Sg} {a:E} {x:D} {S1:af} (h:ev sub cf a σ S=.ok x S1):evT sub cf (.notN a) σ S=.ok (!decide (x=.non)) S1:=by
 rw [Gq,h]; rfl
theorem CS {l:Lp} (hl:l.WF) {i:Nat} {w:Wk} (h:l.works[i]?=some w):l.crews[w.crew]?=some (l.crews.getD w.crew (0,0)):=by
 have:=(hl.works i w h).crew
 rw [ZG,Zb this]; rfl
end
end RL

namespace WK
abbrev Nd:=List Int
abbrev Wlk:=List Nd
noncomputable def nA (t:Nd):Int:=t.getD 0 0
noncomputable def nB (t:Nd):Int:=t.getD 1 0
noncomputable def nC (t:Nd):Int:=t.getD 2 0
noncomputable def fst (w:Wlk):Int:=match w with|t::_=>nA t|[]=>0
noncomputable def lst:Wlk->Int
 | []=>0
 | [t]=>nB t
 | _::r=>lst r
noncomputable def Chn:Wlk->Prop
 | []=>True
 | [_]=>True
 | t::u::r=>nB t=nA u/\Chn (u::r)
noncomputable def ends (w:Wlk):List Int:=[fst w,lst w]
theorem zc (t u:Nd) (r:Wlk):lst (t::u::r)=lst (u::r):=rfl
theorem nM:∀ {p r:Wlk},p≠[]->fst (p++r)=fst p
 | [],_,h=>absurd rfl h
 | _::_,_,_=>rfl
theorem fU:∀ (p:Wlk) {r:Wlk},r≠[]->lst (p++r)=lst r
 | [],_,_=>rfl
 | [t],u::r,_=>rfl
 | [t],[],h=>absurd rfl h
 | t::u::p,r,h=>by
  show lst (t::((u::p)++r))=_
  rw [XE,zc,<- XE]
  exact fU (u::p) h
theorem fj:∀ {p r:Wlk},p≠[]->r≠[]->(Chn (p++r) ↔ Chn p/\lst p=fst r/\Chn r)
 | [],_,h,_=>absurd rfl h
 | [t],[],_,h=>absurd rfl h
 | [t],u::r,_,_=>⟨fun h=>⟨trivial,h.1,h.2⟩,fun h=>⟨h.2.1,h.2.2⟩⟩
 | t::u::p,r,_,h=>by
  have ih:=fj (p:=u::p) (r:=r) (by simp) h
  show (nB t=nA u/\Chn ((u::p)++r)) ↔ (nB t=nA u/\Chn (u::p))/\lst (u::p)=fst r/\Chn r
  rw [ih,and_assoc]
theorem twice:∀ {w:Wlk},¬ (w.map nA).Nodup->∃ p t q u r,w=p++(t::q)++(u::r)/\nA t=nA u
 | [],h=>absurd QU h
 | t::r,h=>by
  by_cases hm:nA t∈r.map nA
  ·obtain ⟨u,hu,e⟩:=ZA.mp hm
   obtain ⟨a,b,rfl⟩:=List.append_of_mem hu
   exact ⟨[],t,a,u,b,rfl,e.symm⟩
  ·have h':¬ (r.map nA).Nodup:=fun z=>h (by rw [ZF,Xf]; exact ⟨hm,z⟩)
   obtain ⟨p,a,q,u,b,rfl,e⟩:=twice h'
   exact ⟨t::p,a,q,u,b,rfl,e⟩
section
variable (lg:Int->Int) (g:Int)
noncomputable def bG (w:Wlk):Int:=(w.map fun t=>lg (nA t)).sum
noncomputable def aV (w:Wlk):Int:=(w.map nC).sum
noncomputable def wt (w:Wlk):Int:=bG lg w - g * aV w
theorem Bo (a b:Wlk):bG lg (a++b)=bG lg a+bG lg b:=by unfold bG; rw [XA,List.sum_append]
theorem w_ (a b:Wlk):aV (a++b)=aV a+aV b:=by unfold aV; rw [XA,List.sum_append]
theorem iA (a b:Wlk):wt lg g (a++b)=wt lg g a+wt lg g b:=by
 unfold wt; rw [Bo,w_,Int.mul_add]; omega
structure Walk (st:List Nd) (w:Wlk):Prop where
 ne:w≠[]
 mem:∀ t∈w,t∈st
 chn:Chn w
variable {lg g} {st:List Nd}
theorem Walk.one {t:Nd} (h:t∈st):Walk st [t]:=⟨by simp,fun u hu=>by rw [ZV.mp hu]; exact h,trivial⟩
theorem Walk.snoc {w:Wlk} {t:Nd} (h:Walk st w) (ht:t∈st) (e:nA t=lst w):Walk st (w++[t]) :=
 ⟨by simp,fun u hu=>by
  rcases ZR.mp hu with z|z
  ·exact h.mem u z
  ·rw [ZV.mp z]; exact ht,(fj h.ne (by simp)).mpr ⟨h.chn,e.symm,trivial⟩⟩
theorem Walk.Cq {w:Wlk} {t:Nd} (hw:w≠[]) (h:Walk st (w++[t])):Walk st w/\t∈st/\nA t=lst w:=by
 obtain ⟨h1,h2,_⟩:=(fj hw (by simp)).mp h.chn
 exact ⟨⟨hw,fun u hu=>h.mem u (X9 _ hu),h1⟩,h.mem t (by simp),h2.symm⟩
noncomputable def ck (w:Wlk):Prop:=fst w=lst w
noncomputable def fJ (lg:Int->Int) (g:Int) (st:List Nd) (m:Nat):Prop:=∀ w,Walk st w->w.length=m->ck w->wt lg g w<=0
theorem xC {w:Wlk} (h:Walk st w) (hc:ck w) (hp:0 < wt lg g w) (hf:∀ m,0 < m->m < w.length->fJ lg g st m):(w.map nA).Nodup:=by
 refine Xv fun hn=>?_
 obtain ⟨p,t,q,u,r,rfl,e⟩:=twice hn
 have c1:=(fj (p:=p++(t::q)) (r:=u::r) (by simp) (by simp)).mp h.chn
 have hq:Chn (t::q):=by
  by_cases hp0:p=[]
  ·subst hp0; exact c1.1
  ·exact ((fj hp0 (by simp)).mp c1.1).2.2
 have lq:lst (t::q)=nA u:=by
  have:=c1.2.1
  rw [fU p (by simp)] at this
  exact this
 have hmem:∀ x,x∈p\/x∈t::q\/x∈u::r->x∈st:=fun x hx=>h.mem x (by
  simp only [ZR]
  rcases hx with z|z|z
  ·exact .inl (.inl z)
  ·exact .inl (.inr z)
  ·exact .inr z)
 have wq:Walk st (t::q):=⟨by simp,fun x hx=>hmem x (.inr (.inl hx)),hq⟩
 have wpr:Walk st (p++(u::r)):=⟨by simp,fun x hx=>by
  rcases ZR.mp hx with z|z
  ·exact hmem x (.inl z)
  ·exact hmem x (.inr (.inr z)),by
  by_cases hp0:p=[]
  ·subst hp0; exact c1.2.2
  ·have:=(fj hp0 (by simp)).mp c1.1
   exact (fj hp0 (by simp)).mpr ⟨this.1,by rw [this.2.1]; exact e,c1.2.2⟩⟩
 have cq:ck (t::q):=by show nA t=lst (t::q); rw [lq,e]
 have cpr:ck (p++(u::r)):=by
  have hc:fst (p++(t::q)++(u::r))=lst (p++(t::q)++(u::r)):=hc
  rw [fU _ (by simp)] at hc
  show fst (p++(u::r))=lst (p++(u::r))
  rw [fU _ (by simp),<- hc]
  by_cases hp0:p=[]
  ·subst hp0; show nA u=nA t; exact e.symm
  ·rw [nM hp0,Zr,nM hp0]
 have f1:=hf (t::q).length (by rw [ZB]; omega) (by simp only [Zv,ZB]; omega) _ wq rfl cq
 have f2:=hf (p++(u::r)).length (by simp only [Zv,ZB]; omega) (by simp only [Zv,ZB]; omega) _ wpr rfl cpr
 have e1:wt lg g (p++(t::q)++(u::r))=wt lg g p+wt lg g (t::q)+wt lg g (u::r):=by rw [iA,iA]
 have e2:wt lg g (p++(u::r))=wt lg g p+wt lg g (u::r):=by rw [iA]
 omega
end
section
variable {α:Type}
noncomputable def aJ (K:List (List Int × α)) (k:List Int):Option α:=(K.find? fun e=>decide (e.1=k)).map (·.2)
noncomputable def bK (K:List (List Int × α)) (k:List Int) (d:α):List (List Int × α) :=
 if (K.any fun e=>decide (e.1=k))=true then K.map (fun e=>if e.1=k then (e.1,d) else e) else K++[(k,d)]
theorem ee:∀ {K:List (List Int × α)} {k:List Int} {a:α},aJ K k=some a->(k,a)∈K
 | [],_,_,h=>by cases h
 | e::r,k,a,h=>by
  unfold aJ at h
  rw [ZN] at h
  by_cases q:e.1=k
  ·rw [Zj q] at h
   cases h
   subst q
   exact Zn
  ·rw [Zz q] at h
   exact Zm _ (ee h)
theorem nO {k:List Int} {x:α} {Y:List (List Int × α)}:∀ {K:List (List Int × α)},aJ K k=some x->aJ (K++Y) k=some x
 | [],h=>by cases h
 | e::r,h=>by
  unfold aJ at h ⊢
  rw [XE,ZN]
  rw [ZN] at h
  by_cases q:e.1=k
  ·rw [Zj q] at h ⊢; exact h
  ·rw [Zz q] at h ⊢; exact nO h
theorem qu {k:List Int}:∀ {K:List (List Int × α)},aJ K k=none->(K.any fun e=>decide (e.1=k))=false
 | [],_=>rfl
 | e::r,h=>by
  unfold aJ at h
  rw [ZN] at h
  rw [XS]
  by_cases q:e.1=k
  ·rw [Zj q] at h; cases h
  ·rw [Zz q] at h ⊢; exact qu h
theorem uF {k:List Int} {a:α}:∀ {K:List (List Int × α)},aJ K k=some a->(K.any fun e=>decide (e.1=k))=true
 | [],h=>by cases h
 | e::r,h=>by
  unfold aJ at h
  rw [ZN] at h
  rw [XS]
  by_cases q:e.1=k
  ·rw [Zj q]; rfl
  ·rw [Zz q] at h ⊢; exact uF h
theorem qd {k:List Int} {a:α}:∀ {K:List (List Int × α)},aJ K k=none->aJ (K++[(k,a)]) k=some a
 | [],_=>by unfold aJ; rw [Qq,ZN,Zj rfl]; rfl
 | e::r,h=>by
  unfold aJ at h ⊢
  rw [XE,ZN]
  rw [ZN] at h
  by_cases q:e.1=k
  ·rw [Zj q] at h; cases h
  ·rw [Zz q] at h ⊢; exact qd h
theorem lA {k:List Int} {a x:α} {j:List Int}:∀ {K:List (List Int × α)},aJ K j=some x->aJ (K.map fun e=>if e.1=k then (e.1,a) else e) j=some (if j=k then a else x)
 | [],h=>by cases h
 | e::r,h=>by
  unfold aJ at h ⊢
  rw [ZF,ZN]
  rw [ZN] at h
  have e1:(if e.1=k then (e.1,a) else e).1=e.1:=by split <;> rfl
  rw [e1]
  by_cases q:e.1=j
  ·rw [Zj q] at h ⊢
   cases h
   by_cases z:e.1=k
   ·rw [Ze z,Ze (by rw [<- q]; exact z)]; rfl
   ·rw [Zf z,Zf (by rw [<- q]; exact z)]; rfl
  ·rw [Zz q] at h ⊢
   exact lA h
theorem vU {K:List (List Int × α)} {k:List Int} {a:α}:aJ (bK K k a) k=some a:=by
 unfold bK
 cases q:aJ K k with
 | none=>rw [qu q,Zf (by decide)]; exact qd q
 | some x=>rw [uF q,Ze rfl,lA q,Ze rfl]
theorem AG {K:List (List Int × α)} {k j:List Int} {a x:α} (h:aJ K j=some x) (hj:j≠k):aJ (bK K k a) j=some x:=by
 unfold bK
 split
 ·rw [lA h,Zf hj]
 ·exact nO h
theorem Fd {K:List (List Int × α)} {k:List Int} {a:α} {e:List Int × α} (h:e∈bK K k a):e∈K\/e=(k,a):=by
 unfold bK at h
 split at h
 ·obtain ⟨x,hx,rfl⟩:=ZA.mp h
  by_cases q:x.1=k
  ·rw [Ze q,q]; exact .inr rfl
  ·rw [Zf q]; exact .inl hx
 ·rcases ZR.mp h with z|z
  ·exact .inl z
  ·exact .inr (ZV.mp z)
theorem GK (K:List (List Int × α)) (k:List Int) (a:α):(bK K k a).length<=K.length+1:=by
 unfold bK
 split
 ·rw [Zd]; omega
 ·rw [Zv]; exact Zk _
theorem get_map {β:Type} (f:α->β) (k:List Int):∀ K:List (List Int × α),aJ (K.map fun e=>(e.1,f e.2)) k=(aJ K k).map f
 | []=>rfl
 | e::r=>by
  have ih:=get_map f k r
  unfold aJ at ih ⊢
  rw [ZF,ZN,ZN]
  cases q:decide (e.1=k) with
  | true=>rfl
  | false=>exact ih
theorem Dc {β:Type} (f:α->β) (k:List Int) (a:α) (K:List (List Int × α)):bK (K.map fun e=>(e.1,f e.2)) k (f a)=(bK K k a).map fun e=>(e.1,f e.2):=by
 unfold bK
 rw [List.any_map]
 have e1:((fun e:List Int × β=>decide (e.1=k)) ∘ fun e:List Int × α=>(e.1,f e.2))=fun e=>decide (e.1=k):=rfl
 rw [e1]
 split
 ·rw [Z2,Z2]
  refine Wh fun e _=>?_
  show (if e.1=k then (e.1,f a) else (e.1,f e.2))=_
  by_cases q:e.1=k
  ·rw [Ze q]; show _=((if e.1=k then (e.1,a) else e).1,f (if e.1=k then (e.1,a) else e).2); rw [Ze q]
  ·rw [Zf q]; show _=((if e.1=k then (e.1,a) else e).1,f (if e.1=k then (e.1,a) else e).2); rw [Zf q]
 ·rw [XA]; rfl
noncomputable def cS (en:α->List Int) (wf:α->Int) (K:List (List Int × α)) (q:α):List (List Int × α):=match aJ K (en q) with
 | none=>bK K (en q) q
 | some x=>if wf x < wf q then bK K (en q) q else K
structure KOk (en:α->List Int) (wf:α->Int) (Q:List α) (K:List (List Int × α)):Prop where
 mem:∀ e∈K,e.2∈Q/\e.1=en e.2
 all:∀ q∈Q,∃ x,aJ K (en q)=some x/\wf q<=wf x
 len:K.length<=Q.length
variable {en:α->List Int} {wf:α->Int}
theorem KOk.nil:KOk en wf [] []:=⟨fun _ h=>(by cases h),fun _ h=>(by cases h),Zk _⟩
theorem KOk.step {Q:List α} {K:List (List Int × α)} (h:KOk en wf Q K) (q:α):KOk en wf (Q++[q]) (cS en wf K q):=by
 have put:(∀ x,aJ K (en q)=some x->wf x<=wf q)->KOk en wf (Q++[q]) (bK K (en q) q):=fun hx=>by
  refine ⟨fun e he=>?_,fun p hp=>?_,?_⟩
  ·rcases Fd he with z|z
   ·exact ⟨X9 _ (h.mem e z).1,(h.mem e z).2⟩
   ·subst z; exact ⟨by simp,rfl⟩
  ·rcases ZR.mp hp with z|z
   ·obtain ⟨x,h1,h2⟩:=h.all p z
    by_cases e:en p=en q
    ·rw [e] at h1 ⊢
     exact ⟨q,vU,Int.le_trans h2 (hx x h1)⟩
    ·exact ⟨x,AG h1 e,h2⟩
   ·rw [ZV.mp z]
    exact ⟨q,vU,QM _⟩
  ·have:=GK K (en q) q
   have:=h.len
   rw [Zv]; simp; omega
 unfold cS
 cases e:aJ K (en q) with
 | none=>exact put fun x hx=>by rw [e] at hx; cases hx
 | some x =>
  simp only
  split
  ·rename_i hlt
   exact put fun y hy=>by rw [e] at hy; cases hy; omega
  ·rename_i hlt
   refine ⟨fun e he=>⟨X9 _ (h.mem e he).1,(h.mem e he).2⟩,fun p hp=>?_,?_⟩
   ·rcases ZR.mp hp with z|z
    ·exact h.all p z
    ·rw [ZV.mp z]
     exact ⟨x,e,by omega⟩
   ·have:=h.len
    rw [Zv]; omega
theorem KOk.fold:∀ (R Q:List α) (K:List (List Int × α)),KOk en wf Q K->KOk en wf (Q++R) (R.foldl (cS en wf) K)
 | [],Q,K,h=>by rw [Xz]; exact h
 | q::R,Q,K,h=>by
  have:=KOk.fold R (Q++[q]) _ (h.step q)
  rw [Zr] at this
  exact this
theorem KOk.of (Q:List α):KOk en wf Q (Q.foldl (cS en wf) []):=KOk.fold Q [] [] .nil
end
section
variable {lg:Int->Int} {g:Int} {st:List Nd}
structure eV (lg:Int->Int) (g:Int) (st:List Nd) (m:Nat) (Q:List Wlk):Prop where
 mem:∀ w∈Q,Walk st w/\w.length=m
 all:∀ w,Walk st w->w.length=m->∃ x∈Q,ends x=ends w/\wt lg g w<=wt lg g x
theorem eV.one:eV lg g st 1 (st.map fun t=>[t]):=⟨fun w hw=>by
  obtain ⟨t,ht,rfl⟩:=ZA.mp hw
  exact ⟨.one ht,rfl⟩,fun w hw hl=>by
  match w,hl with
  | [t],_=>exact ⟨[t],ZA.mpr ⟨t,hw.mem t (by simp),rfl⟩,rfl,QM _⟩⟩
theorem rF {w:Wlk} (hw:w≠[]) (t:Nd):ends (w++[t])=[fst w,nB t]:=by unfold ends; rw [nM hw,fU _ (by simp)]; rfl
theorem vc {w x:Wlk} (h:ends w=ends x):fst w=fst x/\lst w=lst x:=by
 unfold ends at h
 obtain ⟨h1,h2⟩:=Q6 h
 exact ⟨h1,(Q6 h2).1⟩
theorem eV.next {m:Nat} {V:List Wlk} (hm:0 < m) (h1:∀ w∈V,Walk st w/\w.length=m) (h2:∀ w,Walk st w->w.length=m->∃ x∈V,ends x=ends w/\wt lg g w<=wt lg g x) {Q:List Wlk}
  (hQ:∀ w,w∈Q ↔ ∃ v∈V,∃ t∈st,nA t=lst v/\w=v++[t]):eV lg g st (m+1) Q:=by
 refine ⟨fun w hw=>?_,fun w hw hl=>?_⟩
 ·obtain ⟨v,hv,t,ht,e,rfl⟩:=(hQ w).mp hw
  obtain ⟨a,b⟩:=h1 v hv
  exact ⟨a.snoc ht e,by rw [Zv,b]; rfl⟩
 ·obtain ⟨v,t,rfl⟩:∃ v t,w=v++[t]:=⟨w.dropLast,w.getLast hw.ne,(List.dropLast_concat_getLast hw.ne).symm⟩
  have hl':v.length=m:=by rw [Zv] at hl; simpa using hl
  have hv:v≠[]:=fun z=>by subst z; simp at hl'; omega
  obtain ⟨a,b,c⟩:=hw.Cq hv
  obtain ⟨x,hx,e,le⟩:=h2 v a hl'
  obtain ⟨e1,e2⟩:=vc e
  refine ⟨x++[t],(hQ _).mpr ⟨x,hx,t,b,by rw [e2]; exact c,rfl⟩,?_,?_⟩
  ·rw [rF hv,rF (h1 x hx).1.ne,e1]
  ·rw [iA,iA]; omega
end
end WK

namespace RL
open PySem EV GO WK
noncomputable def sP:Fn:=⟨2,2,(.ret (.bi .sum (.cs (.comp 2 (.ix (.ix (.ix (.v 0) (.c (.int 2))) (.ix (.v 3) (.c (.int 0)))) (.c (.int 1))) (.one 3) (.iSeq (.v 1)) .nl) .nl)))⟩
noncomputable def vK:Fn:=⟨1,1,(.ret (.bi .sum (.cs (.comp 2 (.ix (.v 2) (.c (.int 2))) (.one 2) (.iSeq (.v 0)) .nl) .nl)))⟩
noncomputable def vR:Fn:=⟨3,3,(.ret (.bin .sub (.call "longs_of" (.cs (.v 0) (.cs (.v 2) .nl))) (.bin .mul (.v 1) (.call "backs_of" (.cs (.v 2) .nl)))))⟩
noncomputable def rM:Fn:=⟨3,6,(.seq (.set (.one 3) .dnew)
 (.seq (.forS (.one 4) (.iSeq (.v 2))
  (.seq (.set (.one 5) (.tup (.cs (.ix (.ix (.v 4) (.c (.int 0))) (.c (.int 0))) (.cs (.ix (.ix (.v 4) (.neg (.c (.int 1)))) (.c (.int 1))) .nl))))
 (.ite (.or (.cmp .dnin (.v 5) (.v 3)) (.cmp .lt (.call "surplus" (.cs (.v 0) (.cs (.v 1) (.cs (.dgv (.v 3) (.v 5)) .nl)))) (.call "surplus" (.cs (.v 0) (.cs (.v 1) (.cs (.v 4) .nl))))))
  (.dsv (.v 3) (.v 5) (.v 4))
  .skip)))
 (.ret (.v 3))))⟩
noncomputable def jm:Fn:=⟨2,4,(.seq (.set (.one 2) (.lst .nl))
 (.seq (.forS (.one 3) (.iSeq (.v 0))
  (.ex (.me .extend (.v 2) (.cs (.comp 2 (.bin .add (.v 3) (.lst (.cs (.v 5) .nl))) (.one 5) (.iSeq (.v 1)) (.cmp .eq (.ix (.v 5) (.c (.int 0))) (.ix (.ix (.v 3) (.neg (.c (.int 1)))) (.c (.int 1))))) .nl))))
 (.ret (.v 2))))⟩
structure HW (P:Prg):Prop where
 bG:Has P "longs_of" sP
 aV:Has P "backs_of" vK
 surplus:Has P "surplus" vR
 longest:Has P "longest_walks" rM
 lengthened:Has P "lengthened" jm
noncomputable def aH (l:Lp) (x:Int):Int:=((l.works.getD x.toNat ⟨0,0,"",[],[]⟩).long:Int)
noncomputable def b8 (l:Lp) (t:Nd):Prop:=∃ x i b:Nat,t=[(x:Int),(i:Int),(b:Int)]/\x < l.works.length/\i < l.works.length/\b<=3/\(b=0->x < i)
theorem Gu {l:Lp} (hl:l.WF) {t:Nd} (h:t∈bM 0 l.works):b8 l t:=by
 obtain ⟨i,w,b,x,h1,h2,h3⟩:=mj h
 have hi:i < l.works.length:=(Zh.mp h1).1
 have hs:=(hl.works i w h1).srcs _ h2
 obtain ⟨hb,hx⟩:b<=3/\x < (if b=0 then i else l.works.length):=hs
 refine ⟨x,i,b,by rw [h3,Xq],?_,hi,hb,fun e=>by rw [Ze e] at hx; exact hx⟩
 split at hx <;> omega
noncomputable def AtW (T:af) (q:Wlk × Nat):Prop:=T[q.2]?=some (.lst (q.1.map tupI))
theorem bI {T T':af} (h:T <+: T') {i:Nat} {c:Cell} (e:T[i]?=some c):T'[i]?=some c:=by
 obtain ⟨t,rfl⟩:=h
 rw [ZE (Zh.mp e).1]; exact e
theorem AtW.pre {T T':af} {q:Wlk × Nat} (h:AtW T q) (p:T <+: T'):AtW T' q:=bI p h
section
variable {sub:Sub} {P:Prg} {n:Nat} {S T:af} {l:Lp}
theorem t9 {c:Nat} {is:List Int} (h:S[c]?=some (.lst (is.map .int))):biD sub .sum [.loc c] S=.ok (.int is.sum) S:=by
 rw [A5,cR h,Res.aj,allI,cD,Res.aj]
theorem jO {t:Nd} (h:b8 l t):(∃ r,t.map D.int=.int (nA t)::.int (nB t)::.int (nC t)::r)/\0<=nA t/\(nA t).toNat < l.works.length/\0<=nB t/\(nB t).toNat < l.works.length/\0<=nC t/\nC t<=3/\(nC t=0->nA t < nB t):=by
 obtain ⟨x,i,b,rfl,h1,h2,h3,h4⟩:=h
 refine ⟨⟨[],rfl⟩,?_⟩
 show 0<=(x:Int)/\(x:Int).toNat < _/\0<=(i:Int)/\(i:Int).toNat < _/\0<=(b:Int)/\(b:Int)<=3/\((b:Int)=0->(x:Int) < (i:Int))
 omega
theorem jI {t:Nd} (h:b8 l t):ixD (tupI t) (.int 0) T=.ok (.int (nA t)) T:=by
 obtain ⟨x,i,b,rfl,_⟩:=h; exact aB rfl
theorem nN {t:Nd} (h:b8 l t):ixD (tupI t) (.int 1) T=.ok (.int (nB t)) T:=by
 obtain ⟨x,i,b,rfl,_⟩:=h; exact aB rfl
theorem wJ {t:Nd} (h:b8 l t):ixD (tupI t) (.int 2) T=.ok (.int (nC t)) T:=by
 obtain ⟨x,i,b,rfl,_⟩:=h; exact aB rfl
theorem Fp {x:Int} (h0:0<=x) (h:x.toNat < l.works.length):atI (l.works.map Wk.toD) x=some (l.works.getD x.toNat ⟨0,0,"",[],[]⟩).toD:=by
 have:=CY h
 rw [Int.toNat_of_nonneg h0] at this
 exact this
theorem oW (hw:HW P) {w:Wlk} {k:Nat} (h:AtW S (w,k)) (hn:∀ t∈w,b8 l t) (hz:w.length<=1000):ah sub P (n+1) "longs_of" [l.toD,.loc k] S=.ok (.int (bG (aH l) w)) S:=by
 have h:S[k]?=some (.lst (w.map tupI)):=h
 have e:ev sub (ah sub P n) (.comp 2 (.ix (.ix (.ix (.v 0) (.c (.int 2))) (.ix (.v 3) (.c (.int 0)))) (.c (.int 1))) (.one 3) (.iSeq (.v 1)) .nl) [some l.toD,some (.loc k)] S=.ok (.loc S.length) (S++[.lst (w.map fun t=>.int (aH l (nA t)))]) :=
  fH (ks:=w) (f:=tupI) (g:=fun t=>.int (aH l (nA t))) (o:=some k) (raw:=w.map tupI) (cy (r_v rfl) (eT h)) (d8 (.inr ⟨k,rfl,h⟩)) (fun t ht=>by
   obtain ⟨_,h0,h1,_⟩:=jO (hn t ht)
   exact az (az (az (r_v rfl) r_c (aB rfl)) (az (r_v rfl) r_c (jI (hn t ht))) (aB (Fp h0 h1))) r_c (aB rfl)) (by unfold aI; omega)
 have e2:(w.map fun t=>D.int (aH l (nA t)))=(w.map fun t=>aH l (nA t)).map .int:=by rw [Z2]; rfl
 rw [e2] at e
 exact x_call (ds:=[l.toD,.loc k]) hw.bG rfl (aE (aN (aa e ai) (t9 (aG _ _)))) (gf _ _ _)
theorem pD (hw:HW P) {w:Wlk} {k:Nat} (h:AtW S (w,k)) (hn:∀ t∈w,b8 l t) (hz:w.length<=1000):ah sub P (n+1) "backs_of" [.loc k] S=.ok (.int (aV w)) S:=by
 have h:S[k]?=some (.lst (w.map tupI)):=h
 have e:ev sub (ah sub P n) (.comp 2 (.ix (.v 2) (.c (.int 2))) (.one 2) (.iSeq (.v 0)) .nl) [some (.loc k)] S=.ok (.loc S.length) (S++[.lst (w.map fun t=>.int (nC t))]) :=
  fH (ks:=w) (f:=tupI) (g:=fun t=>.int (nC t)) (o:=some k) (raw:=w.map tupI) (cy (r_v rfl) (eT h)) (d8 (.inr ⟨k,rfl,h⟩)) (fun t ht=>az (r_v rfl) r_c (wJ (hn t ht))) (by unfold aI; omega)
 have e2:(w.map fun t=>D.int (nC t))=(w.map nC).map .int:=by rw [Z2]; rfl
 rw [e2] at e
 exact x_call (ds:=[.loc k]) hw.aV rfl (aE (aN (aa e ai) (t9 (aG _ _)))) (gf _ _ _)
theorem j9 (hw:HW P) {w:Wlk} {k:Nat} {g:Int} (hg:0<=g/\g<=1000) (h:AtW S (w,k)) (hn:∀ t∈w,b8 l t) (hz:w.length<=1000):ah sub P (n+2) "surplus" [l.toD,.int g,.loc k] S=.ok (.int (wt (aH l) g w)) S :=
 x_call (ds:=[l.toD,.int g,.loc k]) hw.surplus rfl (aE (bg (au (aa (r_v rfl) (aa (r_v rfl) ai)) (oW hw h hn hz)) (bg (r_v rfl) (au (aa (r_v rfl) ai) (pD hw h hn hz)) (jd (by omega))) (dR _ _ _))) (gk _ _)
noncomputable def TabAt (T:af) (l:Nat) (kvs:List (List Int × D)):Prop:=T[l]?=some (.dct kvs)\/T[l]?=some (.fdc kvs)
theorem lU {T:af} {l:Nat} {kvs:List (List Int × D)} (h:TabAt T l kvs) (f:List (List Int × D)->M D):bO l f T=f kvs T:=by
 unfold bO
 rcases h with h|h <;> rw [h]
theorem qX {l:Nat} {kvs:List (List Int × D)} {k:List Int} {d:D} (h:TabAt T l kvs) (e:aJ kvs k=some d):gZ (.loc l) (tupI k) T=.ok d T:=by
 show (opt (allInts (k.map .int))>>=fun k=>bO l fun kvs=>opt (bT kvs k)) T=_
 rw [aq,allI,cD,Res.aj,lU h,show bT kvs k=some d from e,cD]
theorem GW {l:Nat} {kvs:List (List Int × D)} {k:List Int} (h:TabAt T l kvs):cmD .dnin (tupI k) (.loc l) T=.ok (.bl (!(aJ kvs k).isSome)) T:=by
 show (opt (allInts (k.map .int))>>=fun k=>bO l fun kvs=>pure (.bl ((bT kvs k).isSome != true))) T=_
 rw [aq,allI,cD,Res.aj,lU h]
 show Res.ok (D.bl ((bT kvs k).isSome != true)) T=_
 rw [show bT kvs k=aJ kvs k from rfl]
 cases (aJ kvs k).isSome <;> rfl
theorem Gk {l:Nat} {kvs:List (List Int × D)} {k:List Int} {d:D} (h:T[l]?=some (.dct kvs)) (hz:kvs.length<=1000000):iP (.loc l) (tupI k) d T=.ok .non (T.set l (.dct (bK kvs k d))):=by
 show (opt (allInts (k.map .int))>>=fun k=>eU l fun kvs=>guard (eN kvs.length) (put l (.dct (iu kvs k d)))) T=_
 rw [aq,allI,cD,Res.aj]
 unfold eU
 rw [h]
 show guard (eN kvs.length) (put l (.dct (iu kvs k d))) T=_
 rw [show eN kvs.length=true from Zj (by unfold aI; omega)]
 rfl
theorem lu {cf:Str->List D->M D} {σ:Sg} {a b:E} {x y:D} {S1 S2:af} {R:Res D} (ha:ev sub cf a σ S=.ok x S1) (hb:ev sub cf b σ S1=.ok y S2) (h:gZ x y S2=R):ev sub cf (.dgv a b) σ S=R:=by
 show (ev sub cf a σ>>=fun x=>ev sub cf b σ>>=fun y=>gZ x y) S=R
 rw [aq,ha,Res.aj,aq,hb,Res.aj,h]
theorem AW {cf:Str->List D->M D} {σ:Sg} {a b e:E} {x y d r:D} {S1 S2 S3 S4:af} (he:ev sub cf e σ S=.ok d S1) (ha:ev sub cf a σ S1=.ok x S2) (hb:ev sub cf b σ S2=.ok y S3) (h:iP x y d S3=.ok r S4):exec sub cf (.dsv a b e) σ S=.ok (.nx σ) S4:=by
 show (ev sub cf e σ>>=fun d=>ev sub cf a σ>>=fun x=>ev sub cf b σ>>=fun y=>iP x y d>>=fun _=>pure (Fl.nx σ)) S=_
 rw [aq,he,Res.aj,aq,ha,Res.aj,aq,hb,Res.aj,aq,h,Res.aj]; rfl
theorem EJ {cf:Str->List D->M D} {σ:Sg}:ev sub cf .dnew σ S=.ok (.loc S.length) (S++[.dct []]):=id rfl
noncomputable def kv (e:List Int × (Wlk × Nat)):List Int × D:=(e.1,.loc e.2.2)
noncomputable def wfQ (l:Lp) (g:Int) (q:Wlk × Nat):Int:=wt (aH l) g q.1
noncomputable def enQ (q:Wlk × Nat):List Int:=ends q.1
theorem rj {w:Wlk} (h:w≠[]):∃ t,w.getLast?=some t/\t∈w/\lst w=nB t/\atI (w.map tupI) (-1)=some (tupI t):=by
 obtain ⟨v,t,rfl⟩:∃ v t,w=v++[t]:=⟨w.dropLast,w.getLast h,(List.dropLast_concat_getLast h).symm⟩
 refine ⟨t,by simp,by simp,by rw [fU _ (by simp)]; rfl,?_⟩
 unfold atI ixN
 rw [Zf (by decide),Ze (by rw [Zd,Zv]; simp; omega)]
 have e:(-1+((List.map tupI (v++[t])).length:Int)).toNat=v.length:=by rw [Zd,Zv]; simp; omega
 rw [e]
 show (List.map tupI (v++[t]))[v.length]?=_
 simp
theorem xE {w:Wlk} (h:w≠[]):∃ t,t∈w/\fst w=nA t/\atI (w.map tupI) 0=some (tupI t):=by
 cases w with
 | nil=>exact absurd rfl h
 | cons t r=>exact ⟨t,by simp,rfl,by rw [kZ]; rfl⟩
theorem uI {T:af} {a b:Cell}:(T++[a]).set T.length b=T++[b]:=by rw [List.set_append_right _ _ (Zk _),We]; rfl
noncomputable def mw:EV.S:=.seq (.set (.one 5) (.tup (.cs (.ix (.ix (.v 4) (.c (.int 0))) (.c (.int 0))) (.cs (.ix (.ix (.v 4) (.neg (.c (.int 1)))) (.c (.int 1))) .nl))))
 (.ite (.or (.cmp .dnin (.v 5) (.v 3)) (.cmp .lt (.call "surplus" (.cs (.v 0) (.cs (.v 1) (.cs (.dgv (.v 3) (.v 5)) .nl)))) (.call "surplus" (.cs (.v 0) (.cs (.v 1) (.cs (.v 4) .nl))))))
  (.dsv (.v 3) (.v 5) (.v 4))
  .skip)
structure cX (l:Lp) (T:af) (q:Wlk × Nat):Prop where
 at':AtW T q
 ne:q.1≠[]
 nd:∀ t∈q.1,b8 l t
 len:q.1.length<=1000
theorem cX.pre {q:Wlk × Nat} {T':af} (h:cX l T q) (p:T <+: T'):cX l T' q:=⟨h.at'.pre p,h.ne,h.nd,h.len⟩
theorem CA (hw:HW P) {g:Int} (hg:0<=g/\g<=1000) {K:List (List Int × (Wlk × Nat))} {q:Wlk × Nat} {x2 x5:Option D} (hq:cX l S q) (hK:∀ e∈K,cX l S e.2) (hz:K.length<=1000000) :
  exec sub (ah sub P (n+2)) mw [some l.toD,some (.int g),x2,some (.loc S.length),some (.loc q.2),x5] (S++[.dct (K.map kv)]) =
   .ok (.nx [some l.toD,some (.int g),x2,some (.loc S.length),some (.loc q.2),some (tupI (enQ q))]) (S++[.dct ((cS enQ (wfQ l g) K q).map kv)]):=by
 have pre:S <+: S++[.dct (K.map kv)]:=Zl _ _
 have hq':=hq.pre pre
 obtain ⟨t,ht,e1,a1⟩:=xE hq.ne
 obtain ⟨u,_,hu,e2,a2⟩:=rj hq.ne
 have hL:(S++[Cell.dct (K.map kv)])[q.2]?=some (.lst (q.1.map tupI)):=hq'.at'
 have s1:exec sub (ah sub P (n+2)) (.set (.one 5) (.tup (.cs (.ix (.ix (.v 4) (.c (.int 0))) (.c (.int 0))) (.cs (.ix (.ix (.v 4) (.neg (.c (.int 1)))) (.c (.int 1))) .nl))))
   [some l.toD,some (.int g),x2,some (.loc S.length),some (.loc q.2),x5] (S++[.dct (K.map kv)])=.ok (.nx [some l.toD,some (.int g),x2,some (.loc S.length),some (.loc q.2),some (tupI (enQ q))]) (S++[.dct (K.map kv)]):=by
  have:=aF (sub:=sub) (cf:=ah sub P (n+2)) (σ:=[some l.toD,some (.int g),x2,some (.loc S.length),some (.loc q.2),x5]) (S:=S++[.dct (K.map kv)]) (i:=5) (gp (aa (az (az (r_v (i:=4) rfl) r_c (i8 hL a1)) r_c (jI (hq.nd t ht))) (aa (az (az (r_v (i:=4) rfl) (iY r_c) (i8 hL a2)) r_c (nN (hq.nd u hu))) ai)) rfl)
  rw [<- e1,<- e2] at this
  exact this
 have hT:TabAt (S++[.dct (K.map kv)]) S.length (K.map kv):=.inl (aG _ _)
 have hg2:aJ (K.map kv) (enQ q)=(aJ K (enQ q)).map fun q=>D.loc q.2:=get_map (fun q:Wlk × Nat=>D.loc q.2) (enQ q) K
 have s2:=j9 (sub:=sub) (n:=n) hw hg hq'.at' hq.nd hq.len
 have hin:=GW (k:=enQ q) hT
 rw [hg2,QY] at hin
 have put:exec sub (ah sub P (n+2)) (.dsv (.v 3) (.v 5) (.v 4)) [some l.toD,some (.int g),x2,some (.loc S.length),some (.loc q.2),some (tupI (enQ q))] (S++[.dct (K.map kv)]) =
   .ok (.nx [some l.toD,some (.int g),x2,some (.loc S.length),some (.loc q.2),some (tupI (enQ q))]) (S++[.dct ((bK K (enQ q) q).map kv)]):=by
  have:=AW (sub:=sub) (cf:=ah sub P (n+2)) (σ:=[some l.toD,some (.int g),x2,some (.loc S.length),some (.loc q.2),some (tupI (enQ q))]) (r_v (i:=4) rfl) (r_v (i:=3) rfl) (r_v (i:=5) rfl) (Gk (k:=enQ q) (d:=.loc q.2) (aG S (.dct (K.map kv))) (by rw [Zd]; exact hz))
  rw [uI,show bK (K.map kv) (enQ q) (.loc q.2)=(bK K (enQ q) q).map kv from Dc (fun q:Wlk × Nat=>D.loc q.2) (enQ q) q K] at this
  exact this
 refine ak s1 ?_
 unfold cS
 cases e:aJ K (enQ q) with
 | none =>
  rw [e] at hin
  exact cM (qB (aX (aW (r_v rfl) (r_v rfl) hin))) put
 | some y =>
  rw [e] at hin hg2
  have hy:=(hK _ (ee e)).pre pre
  have s3:=j9 (sub:=sub) (n:=n) hw hg hy.at' hy.nd hy.len
  have ht:evT sub (ah sub P (n+2)) (.or (.cmp .dnin (.v 5) (.v 3)) (.cmp .lt (.call "surplus" (.cs (.v 0) (.cs (.v 1) (.cs (.dgv (.v 3) (.v 5)) .nl)))) (.call "surplus" (.cs (.v 0) (.cs (.v 1) (.cs (.v 4) .nl))))))
    [some l.toD,some (.int g),x2,some (.loc S.length),some (.loc q.2),some (tupI (enQ q))] (S++[.dct (K.map kv)])=.ok (decide (wfQ l g y < wfQ l g q)) (S++[.dct (K.map kv)]) :=
   b6 (aX (aW (r_v rfl) (r_v rfl) hin)) (aX (aW (au (aa (r_v rfl) (aa (r_v rfl) (aa (lu (r_v rfl) (r_v rfl) (qX hT hg2)) ai))) s3) (au (aa (r_v rfl) (aa (r_v rfl) (aa (r_v rfl) ai))) s2) (kG _ _ _)))
  simp only
  by_cases hlt:wfQ l g y < wfQ l g q
  ·rw [Ze hlt]
   rw [Zj hlt] at ht
   exact cM ht put
  ·rw [Zf hlt]
   rw [Zz hlt] at ht
   exact aK ht aL
theorem FU {α:Type} {en:α->List Int} {wf:α->Int} {Q:List α} {e:List Int × α} (h:e∈Q.foldl (cS en wf) []):e.2∈Q:=((KOk.of (en:=en) (wf:=wf) Q).mem e h).1
theorem GN (hw:HW P) {g:Int} (hg:0<=g/\g<=1000) {Q:List (Wlk × Nat)} {k:Nat} (hk:S[k]?=some (.lst (Q.map fun q=>.loc q.2))) (hQ:∀ q∈Q,cX l S q) (hz:Q.length<=1000000) :
  ah sub P (n+3) "longest_walks" [l.toD,.int g,.loc k] S=.ok (.loc S.length) (S++[.dct ((Q.foldl (cS enQ (wfQ l g)) []).map kv)]):=by
 have hkl:k < S.length:=(Zh.mp hk).1
 obtain ⟨σ',T',e,x4,x5,rfl,rfl⟩:=i6 (sub:=sub) (cf:=ah sub P (n+2)) (t:=.one 4) (it:=.iSeq (.v 2)) (b:=mw) (σ:=[some l.toD,some (.int g),some (.loc k),some (.loc S.length),none,none]) (S:=S++[.dct []]) (S1:=S++[.dct []]) (s:=⟨Q.map fun q=>.loc q.2,some k,Q.map fun q=>.loc q.2⟩)
  (fun i σ T=>∃ x4 x5,σ=[some l.toD,some (.int g),some (.loc k),some (.loc S.length),x4,x5]/\T=S++[.dct (((Q.take i).foldl (cS enQ (wfQ l g)) []).map kv)])
  (cy (r_v rfl) (eT (by rw [ZE hkl]; exact hk))) ⟨none,none,rfl,rfl⟩
  (fun i σ T ⟨_,_,_,hT⟩=>by subst hT; exact d8 (.inr ⟨k,rfl,by rw [ZE hkl]; exact hk⟩))
  (fun i hi σ T ⟨x4,x5,hσ,hT⟩=>by
   subst hσ; subst hT
   have hi':i < Q.length:=by simpa using hi
   have hit:(Q.map fun q=>D.loc q.2)[i]'hi=.loc (Q[i]).2:=QG _
   show ∃ σ' T',bq sub (ah sub P (n+2)) (.one 4) mw ((Q.map fun q=>D.loc q.2)[i]'hi) _ _=_/\_
   rw [hit]
   have hl:=(KOk.of (en:=enQ) (wf:=wfQ l g) (Q.take i)).len
   rw [XD] at hl
   refine ⟨_,_,d7 (CA hw hg (x2:=some (.loc k)) (hQ _ (Xp hi')) (fun e he=>hQ _ (Wf (FU he))) (by omega)),some (.loc (Q[i]).2),some (tupI (enQ Q[i])),rfl,?_⟩
   rw [Q8 hi',List.foldl_append]; rfl)
 rw [Zd,Z4] at e
 refine x_call (ds:=[l.toD,.int g,.loc k]) hw.longest rfl (ak (aF EJ) (ak e (aE (r_v rfl)))) ?_
 unfold leave
 rw [Ze (cF _ _),Zf (by show ¬ decide (S.length < S.length)=true; simp)]
 simp only [aG]
 rw [Zf (by show ¬ Cell.low S.length (.dct _)=true; exact Zx)]
end
end RL

namespace RL
open PySem EV GO WK
section
variable {sub:Sub} {P:Prg} {n:Nat} {S T:af} {l:Lp}
theorem nE {α:Type} {s:Src} {fn:D->M (Option D)} {f:α->D} {p:α->Bool} {h:α->Wlk} {S0:af} (hs:∀ T,S0 <+: T->aD s T=.ok () T):∀ (ks:List α) (T:af),S0 <+: T ->
  (∀ a∈ks,∀ T,S0 <+: T->(p a=false->fn (f a) T=.ok none T)/\(p a=true->∃ T' l,fn (f a) T=.ok (some (.loc l)) T'/\T <+: T'/\S0.length<=l/\AtW T' (h a,l))) ->
  ∃ (T':af) (Q:List (Wlk × Nat)),br s fn (ks.map f) T=.ok (Q.map fun q=>.loc q.2) T'/\T <+: T'/\Q.map (·.1)=(ks.filter p).map h/\∀ q∈Q,AtW T' q/\S0.length<=q.2
 | [],T,hT,_=>⟨T,[],by rw [Qz,k9,hs T hT]; rfl,Xo _,rfl,fun _ h=>by cases h⟩
 | a::r,T,hT,H=>by
  obtain ⟨h1,h2⟩:=H a Zn T hT
  cases q:p a with
  | false =>
   obtain ⟨T',Q,e,t1,t2,t3⟩:=nE hs r T hT fun b hb=>H b (Zm _ hb)
   refine ⟨T',Q,?_,t1,by rw [List.filter_cons_of_neg (by rw [q]; decide)]; exact t2,t3⟩
   rw [ZF,j6,hs T hT,Res.aj,h1 q,Res.aj,e]; rfl
  | true =>
   obtain ⟨T1,m,e1,p1,lm,a1⟩:=h2 q
   obtain ⟨T',Q,e,t1,t2,t3⟩:=nE hs r T1 (hT.trans p1) fun b hb=>H b (Zm _ hb)
   refine ⟨T',(h a,m)::Q,?_,p1.trans t1,?_,fun x hx=>?_⟩
   ·rw [ZF,j6,hs T hT,Res.aj,e1,Res.aj,e]; rfl
   ·rw [List.filter_cons_of_pos q,ZF,ZF,t2]
   ·rcases Zt.mp hx with rfl|hx
    ·exact ⟨a1.pre t1,lm⟩
    ·exact t3 x hx
theorem rL {cf:Str->List D->M D} {σ:Sg} {k i:Nat} {el it tt:E} {α:Type} {ks:List α} {f:α->D} {p:α->Bool} {h:α->Wlk} {o:Option Nat} {raw:List D} (hi:evI sub cf it σ S=.ok ⟨ks.map f,o,raw⟩ S) (hs:∀ T,S <+: T->aD ⟨ks.map f,o,raw⟩ T=.ok () T)
  (hp:∀ a∈ks,∀ T,S <+: T->(if tt.aY=true then (pure true:M Bool) else evT sub cf tt ((σ++List.replicate k none).set i (some (f a)))) T=.ok (p a) T)
  (hg:∀ a∈ks,p a=true->∀ T,S <+: T->∃ T' l,ev sub cf el ((σ++List.replicate k none).set i (some (f a))) T=.ok (.loc l) T'/\T <+: T'/\S.length<=l/\AtW T' (h a,l)) (hz:ks.length<=aI) :
  ∃ (T':af) (Q:List (Wlk × Nat)),ev sub cf (.comp k el (.one i) it tt) σ S=.ok (.loc T'.length) (T'++[.lst (Q.map fun q=>.loc q.2)])/\S <+: T'/\Q.map (·.1)=(ks.filter p).map h/\∀ q∈Q,AtW T' q/\S.length<=q.2:=by
 obtain ⟨T',Q,e,t1,t2,t3⟩:=nE (s:=⟨ks.map f,o,raw⟩) (fn:=fun d=>aO (.one i) d (σ++List.replicate k none)>>=fun σ'=>(if tt.aY=true then pure true else evT sub cf tt σ')>>=fun b=>if b=true then ev sub cf el σ'>>=fun y=>pure (some y) else pure none) (f:=f) (p:=p) (h:=h) (S0:=S) hs ks S (Xo _) (fun a ha T hT=>by
  have e0:=hp a ha T hT
  have key:∀ b,p a=b->(aO (.one i) (f a) (σ++List.replicate k none)>>=fun σ'=>(if tt.aY=true then pure true else evT sub cf tt σ')>>=fun b=>if b=true then ev sub cf el σ'>>=fun y=>pure (some y) else pure none) T=(if b=true then ev sub cf el ((σ++List.replicate k none).set i (some (f a)))>>=fun y=>pure (some y) else (pure none:M (Option D))) T:=fun b hb=>by
   rw [aq,iK,Res.aj,aq,e0,Res.aj,hb]
  refine ⟨fun q=>?_,fun q=>?_⟩
  ·rw [key false q]; rfl
  ·obtain ⟨T',l,e1,p1,lm,a1⟩:=hg a ha q T hT
   refine ⟨T',l,?_,p1,lm,a1⟩
   rw [key true q,Ze rfl,aq,e1,Res.aj]; rfl)
 have hl:Q.length<=aI:=by
  have:=Xm List.length t2
  rw [Zd,Zd] at this
  rw [this]
  exact ZY (X5 _ _) hz
 refine ⟨T',Q,?_,t1,t2,t3⟩
 rw [gJ,hi]
 simp only [Res.aj]
 rw [eu e]
 simp only [Res.aj]
 rw [Ze (show fits _=true from Zj (by rw [Zd]; exact hl))]
noncomputable def fB (v:Wlk) (t:Nd):Bool:=nA t==lst v
noncomputable def longer (st:List Nd) (V:List Wlk):List Wlk:=V.flatMap fun v=>(st.filter (fB v)).map fun t=>v++[t]
theorem xO {st:List Nd} {V:List Wlk} (w:Wlk):w∈longer st V ↔ ∃ v∈V,∃ t∈st,nA t=lst v/\w=v++[t]:=by
 unfold longer fB
 rw [List.mem_flatMap]
 constructor
 ·rintro ⟨v,hv,h⟩
  obtain ⟨t,ht,rfl⟩:=ZA.mp h
  obtain ⟨h1,h2⟩:=Qj.mp ht
  exact ⟨v,hv,t,h1,eq_of_beq h2,rfl⟩
 ·rintro ⟨v,hv,t,ht,e,rfl⟩
  exact ⟨v,hv,ZA.mpr ⟨t,Qj.mpr ⟨ht,QV.mpr e⟩,rfl⟩⟩
theorem lN (st:List Nd):∀ V:List Wlk,(longer st V).length<=V.length * st.length
 | []=>by unfold longer; simp
 | v::r=>by
  have ih:=lN st r
  unfold longer at ih ⊢
  rw [List.flatMap_cons,Zv,Zd,ZB,Nat.add_mul,Nat.one_mul]
  have:=X5 (fB v) st
  omega
noncomputable def rf:E:=.comp 2 (.bin .add (.v 3) (.lst (.cs (.v 5) .nl))) (.one 5) (.iSeq (.v 1)) (.cmp .eq (.ix (.v 5) (.c (.int 0))) (.ix (.ix (.v 3) (.neg (.c (.int 1)))) (.c (.int 1))))
theorem o7 {a b:Nat} {xs ys:List D} (ha:T[a]?=some (.lst xs)) (hb:T[b]?=some (.lst ys)) (hz:xs.length+ys.length<=1000000):opD .add (.loc a) (.loc b) T=.ok (.loc T.length) (T++[.lst (xs++ys)]):=by
 show a_ a (fun xs=>a_ b fun ys=>guard (fits (xs.length+ys.length)) (alloc (.lst (xs++ys)))) T=_
 unfold a_
 rw [ha]
 show (match T[b]? with|some (.lst ds)=>_|_=>Res.bad)=_
 rw [hb]
 show guard (fits (xs.length+ys.length)) (alloc (.lst (xs++ys))) T=_
 rw [show fits (xs.length+ys.length)=true from Zj (by unfold aI; omega)]; rfl
theorem Br {cf:Str->List D->M D} {st:List Nd} {k:Nat} (hk:T[k]?=some (.lst (st.map tupI))) (hst:∀ t∈st,b8 l t) (hz:st.length<=1000) {v:Wlk × Nat} (hv:cX l T v) {x0 x2:Option D} :
  ∃ (T':af) (Q:List (Wlk × Nat)),ev sub cf rf [x0,some (.loc k),x2,some (.loc v.2)] T=.ok (.loc T'.length) (T'++[.lst (Q.map fun q=>.loc q.2)])/\T <+: T'/\Q.map (·.1)=(st.filter (fB v.1)).map (fun t=>v.1++[t])/\∀ q∈Q,AtW T' q/\T.length<=q.2:=by
 obtain ⟨u,_,hu,e2,a2⟩:=rj hv.ne
 refine rL (ks:=st) (f:=tupI) (p:=fB v.1) (h:=fun t=>v.1++[t]) (o:=some k) (raw:=st.map tupI) (cy (r_v rfl) (eT hk)) (fun T' hT=>d8 (.inr ⟨k,rfl,bI hT hk⟩)) (fun t ht T' hT=>?_) (fun t ht _ T' hT=>?_) (by unfold aI; omega)
 ·have hv':T'[v.2]?=some (.lst (v.1.map tupI)):=hv.at'.pre hT
  show evT sub cf _ _ T'=_
  have:=aX (sub:=sub) (cf:=cf) (aW (o:=.eq) (σ:=[x0,some (.loc k),x2,some (.loc v.2),none,some (tupI t)]) (S:=T') (az (r_v (i:=5) rfl) r_c (jI (hst t ht))) (az (az (r_v (i:=3) rfl) (iY (r_c (d:=.int 1))) (i8 hv' a2)) (r_c (d:=.int 1)) (nN (hv.nd u hu))) (eF _ _ _))
  unfold fB
  rw [e2]
  exact this
 ·have hv':T'[v.2]?=some (.lst (v.1.map tupI)):=hv.at'.pre hT
  have hv2:(T'++[Cell.lst [tupI t]])[v.2]?=some (.lst (v.1.map tupI)):=bI (Zl _ _) hv'
  have hlen:=hv.len
  have:=bg (sub:=sub) (cf:=cf) (o:=.add) (σ:=[x0,some (.loc k),x2,some (.loc v.2),none,some (tupI t)]) (S:=T') (r_v (i:=3) rfl) (cV (aa (r_v (i:=5) rfl) ai) rfl) (o7 hv2 (aG _ _) (by rw [Zd]; simp; omega))
  refine ⟨_,_,this,(Zl _ _).trans (Zl _ _),?_,?_⟩
  ·rw [Zv]
   have:=hT.length_le
   omega
  ·show _[_]?=some (Cell.lst ((v.1++[t]).map tupI))
   rw [aG,XA]; rfl
theorem pC {T:af} {k:Nat} {q:Wlk × Nat} {c:Cell} (h:AtW T q) (hk:k≠q.2):AtW (T.set k c) q:=by
 show (T.set k c)[q.2]?=_
 rw [Z0 hk]; exact h
theorem Fw (hw:HW P) {st:List Nd} {k m:Nat} {V:List (Wlk × Nat)} (hk:S[k]?=some (.lst (st.map tupI))) (hst:∀ t∈st,b8 l t) (hm:S[m]?=some (.lst (V.map fun q=>.loc q.2))) (hV:∀ q∈V,cX l S q) (hz:st.length<=1000) (hz2:V.length * st.length<=1000000) :
  ∃ (T:af) (Q:List (Wlk × Nat)),ah sub P (n+1) "lengthened" [.loc m,.loc k] S=.ok (.loc S.length) T/\S <+: T/\T[S.length]?=some (.lst (Q.map fun q=>.loc q.2))/\Q.map (·.1)=longer st (V.map (·.1))/\∀ q∈Q,AtW T q/\S.length < q.2:=by
 have hml:m < S.length:=(Zh.mp hm).1
 obtain ⟨σ',T',e,x3,Q,G,rfl,rfl,hQ,hA⟩:=i6 (sub:=sub) (cf:=ah sub P n) (t:=.one 3) (it:=.iSeq (.v 0)) (b:=.ex (.me .extend (.v 2) (.cs rf .nl))) (σ:=[some (.loc m),some (.loc k),some (.loc S.length),none]) (S:=S++[.lst []]) (S1:=S++[.lst []]) (s:=⟨V.map fun q=>.loc q.2,some m,V.map fun q=>.loc q.2⟩)
  (fun i σ T=>∃ (x3:Option D) (Q:List (Wlk × Nat)) (G:af),σ=[some (.loc m),some (.loc k),some (.loc S.length),x3]/\T=S++.lst (Q.map fun q=>.loc q.2)::G/\Q.map (·.1)=longer st ((V.take i).map (·.1))/\∀ q∈Q,AtW T q/\S.length < q.2)
  (cy (r_v rfl) (eT (bI (Zl _ _) hm))) ⟨none,[],[],rfl,rfl,rfl,fun _ h=>by cases h⟩
  (fun i σ T ⟨_,_,_,_,hT,_⟩=>by subst hT; exact d8 (.inr ⟨m,rfl,bI (Zl _ _) hm⟩))
  (fun i hi σ T ⟨x3,Q,G,hσ,hT,hQ,hA⟩=>by
   subst hσ
   have hi':i < V.length:=by simpa using hi
   have hit:(V.map fun q=>D.loc q.2)[i]'hi=.loc (V[i]).2:=QG _
   show ∃ σ' T',bq sub (ah sub P n) (.one 3) _ ((V.map fun q=>D.loc q.2)[i]'hi) _ _=_/\_
   rw [hit]
   have hpre:S <+: T:=by subst hT; exact Zl _ _
   obtain ⟨T1,Q1,e1,p1,q1,a1⟩:=Br (sub:=sub) (cf:=ah sub P n) (l:=l) (x0:=some (.loc m)) (x2:=some (.loc S.length)) (bI hpre hk) hst hz ((hV _ (Xp hi')).pre hpre)
   obtain ⟨G1,rfl⟩:=p1
   have hTl:S.length < T.length:=by subst hT; rw [Zv,ZB]; omega
   have hlst:T[S.length]?=some (.lst (Q.map fun q=>.loc q.2)):=by subst hT; exact fP
   have hlst2:(T++G1++[Cell.lst (Q1.map fun q=>.loc q.2)])[S.length]?=some (.lst (Q.map fun q=>.loc q.2)):=bI ((Zl _ _).trans (Zl _ _)) hlst
   have n1:Q.length<=V.length * st.length:=by
    have h1:=Xm List.length hQ
    rw [Zd] at h1
    have h2:=lN st ((V.take i).map (·.1))
    rw [Zd,XD] at h2
    have h3:min i V.length * st.length<=V.length * st.length:=Nat.mul_le_mul_right _ (Nat.min_le_right _ _)
    omega
   have n2:Q1.length<=st.length:=by
    have h1:=Xm List.length q1
    rw [Zd,Zd] at h1
    have:=X5 (fB (V[i]).1) st
    omega
   have ex:=sj (S:=T++G1++[Cell.lst (Q1.map fun q=>.loc q.2)]) hlst2 (aG _ _) (by rw [Zd,Zd]; unfold aI; omega)
   refine ⟨_,_,d7 (fq (lC (l:=S.length) (r_v rfl) (aa e1 ai) ex (jL hlst))),some (.loc (V[i]).2),Q++Q1,(G++G1)++[Cell.lst (Q1.map fun q=>.loc q.2)],rfl,?_,?_,?_⟩
   ·subst hT
    rw [Zr,Zr,XE,vS,XA,Zr]
   ·rw [XA,hQ,q1,Q8 hi',XA]
    unfold longer
    rw [List.flatMap_append]
    simp
   ·intro q hq
    rcases ZR.mp hq with hq|hq
    ·obtain ⟨b1,b2⟩:=hA q hq
     exact ⟨pC (b1.pre ((Zl _ _).trans (Zl _ _))) (by omega),b2⟩
    ·obtain ⟨b1,b2⟩:=a1 q hq
     exact ⟨pC (b1.pre (Zl _ _)) (by omega),by omega⟩)
 rw [Zd,Z4] at hQ
 have body:exec sub (ah sub P n) jm.body (frame jm [.loc m,.loc k]) S=.ok (.rt (.loc S.length)) (S++.lst (Q.map fun q=>.loc q.2)::G):=ak (aF (cV ai rfl)) (ak e (aE (r_v rfl)))
 by_cases hQ0:Q=[]
 ·subst hQ0
  refine ⟨S++[.lst []],[],x_call (ds:=[.loc m,.loc k]) hw.lengthened rfl body ?_,Zl _ _,aG _ _,hQ,fun _ h=>by cases h⟩
  exact jv (Zk _) (cF _ _) fP rfl
 ·refine ⟨_,Q,x_call (ds:=[.loc m,.loc k]) hw.lengthened rfl body ?_,Zl _ _,fP,hQ,hA⟩
  unfold leave
  rw [Ze (cF _ _),Zf (by show ¬ decide (S.length < S.length)=true; simp)]
  simp only [fP]
  rw [Zf]
  intro z
  obtain ⟨q,r,rfl⟩:=QI hQ0
  have z:(decide (q.2 < S.length)&&D.lows S.length (r.map fun q=>.loc q.2))=true:=z
  rw [Zq] at z
  have:=Zo z.1
  have:=(hA q Zn).2
  omega
end
end RL

namespace RL
open PySem EV GO WK
noncomputable def nD:Fn:=⟨2,7,(.seq (.set (.one 2) (.call "needs" (.cs (.v 0) .nl)))
 (.seq (.set (.one 3) (.comp 2 (.lst (.cs (.v 8) .nl)) (.one 8) (.iSeq (.v 2)) .nl))
 (.seq (.forS (.one 4) (.iRng (.cs (.bi .len (.cs (.ix (.v 0) (.c (.int 2))) .nl)) .nl))
  (.seq (.set (.one 5) (.call "longest_walks" (.cs (.v 0) (.cs (.v 1) (.cs (.v 3) .nl)))))
 (.seq (.forS (.one 6) (.iDct (.v 5))
  (.ite (.and (.cmp .eq (.ix (.v 6) (.c (.int 0))) (.ix (.v 6) (.c (.int 1)))) (.cmp .gt (.call "surplus" (.cs (.v 0) (.cs (.v 1) (.cs (.dgv (.v 5) (.v 6)) .nl)))) (.c (.int 0))))
  (.ret (.dgv (.v 5) (.v 6)))
  .skip))
 (.set (.one 3) (.call "lengthened" (.cs (.bi .vals (.cs (.v 5) .nl)) (.cs (.v 2) .nl)))))))
 (.ret (.c .non)))))⟩
noncomputable def ju:EV.S:=.ite (.and (.cmp .eq (.ix (.v 6) (.c (.int 0))) (.ix (.v 6) (.c (.int 1)))) (.cmp .gt (.call "surplus" (.cs (.v 0) (.cs (.v 1) (.cs (.dgv (.v 5) (.v 6)) .nl)))) (.c (.int 0))))
  (.ret (.dgv (.v 5) (.v 6)))
  .skip
noncomputable def jq:EV.S:=.seq (.set (.one 5) (.call "longest_walks" (.cs (.v 0) (.cs (.v 1) (.cs (.v 3) .nl)))))
 (.seq (.forS (.one 6) (.iDct (.v 5)) ju)
 (.set (.one 3) (.call "lengthened" (.cs (.bi .vals (.cs (.v 5) .nl)) (.cs (.v 2) .nl)))))
theorem iI (t:List Int):∀ ts:List (List Int),(bL t ts).length<=ts.length+1
 | []=>Zk _
 | u::r=>by
  unfold bL
  split
  ·exact QL _
  ·split
   ·exact Zk _
   ·have:=iI t r
    rw [ZB,ZB]; omega
theorem iR:∀ ts:List (List Int),(bA ts).length<=ts.length
 | []=>Zk _
 | t::r=>by
  have h1:=iI t (bA r)
  have h2:=iR r
  show (bL t (bA r)).length<=r.length+1
  omega
theorem fM (t x:List Int):∀ ts:List (List Int),x∈bL t ts ↔ x=t\/x∈ts
 | []=>by unfold bL; simp
 | u::r=>by
  unfold bL
  split
  ·rename_i h
   subst h
   constructor
   ·exact .inr
   ·rintro (rfl|h)
    ·exact Zn
    ·exact h
  ·split
   ·exact Zt
   ·rw [Zt,Zt,fM t x r]
    constructor
    ·rintro (h|h|h)
     ·exact .inr (.inl h)
     ·exact .inl h
     ·exact .inr (.inr h)
    ·rintro (h|h|h)
     ·exact .inr (.inl h)
     ·exact .inl h
     ·exact .inr (.inr h)
theorem qI (x:List Int):∀ ts:List (List Int),x∈bA ts ↔ x∈ts
 | []=>Iff.rfl
 | t::r=>by
  show x∈bL t (bA r) ↔ _
  rw [fM,qI x r,Zt]
noncomputable def aR (l:Lp):List Nd:=bA (bM 0 l.works)
theorem cE {l:Lp} (hl:l.WF):∀ t∈aR l,b8 l t:=fun t ht=>Gu hl ((qI t _).mp ht)
theorem pT {l:Lp} (hl:l.WF) (h4:l.works.length<=4):(aR l).length<=12:=by
 have h1:=iR (bM 0 l.works)
 have h2:=nG l.works 0 fun w hw=>by
  obtain ⟨i,hi⟩:=ZL hw
  exact (hl.works i w hi).some.2
 unfold aR
 omega
section
variable {sub:Sub} {P:Prg} {n:Nat} {S T:af} {l:Lp}
theorem Ek {α:Type} {en:α->List Int} {wf:α->Int} {Q:List α} {K:List (List Int × α)} (h:KOk en wf Q K):∀ e∈K,∃ x,aJ K e.1=some x/\en x=e.1:=fun e he=>by
 obtain ⟨h1,h2⟩:=h.mem e he
 obtain ⟨x,hx,_⟩:=h.all _ h1
 rw [<- h2] at hx
 exact ⟨x,hx,((h.mem _ (ee hx)).2).symm⟩
theorem qj (hw:HW P) {g:Int} (hg:0<=g/\g<=1000) {Q:List (Wlk × Nat)} {K:List (List Int × (Wlk × Nat))} {k:Nat} {x2 x3 x4:Option D} (hT:TabAt T k (K.map kv)) (hK:KOk enQ (wfQ l g) Q K) (hQ:∀ q∈Q,cX l T q) {s:Src} (hs:aD s T=.ok () T) :
  ∀ (E:List (List Int × (Wlk × Nat))) (x6:Option D),(∀ e∈E,e∈K) ->
   (∃ q∈Q,forL s (bq sub (ah sub P (n+2)) (.one 6) ju) (E.map fun e=>tupI e.1) [some l.toD,some (.int g),x2,x3,x4,some (.loc k),x6] T=.ok (.rt (.loc q.2)) T/\ck q.1/\0 < wfQ l g q) \/
   (∃ x6',forL s (bq sub (ah sub P (n+2)) (.one 6) ju) (E.map fun e=>tupI e.1) [some l.toD,some (.int g),x2,x3,x4,some (.loc k),x6] T=.ok (.nx [some l.toD,some (.int g),x2,x3,x4,some (.loc k),x6']) T/\∀ e∈E,∀ q,aJ K e.1=some q->ck q.1->wfQ l g q<=0)
 | [],x6,_=>.inr ⟨x6,kC hs,fun _ h=>by cases h⟩
 | e::E,x6,hE=>by
  obtain ⟨q,hq,he⟩:=Ek hK e (hE e Zn)
  have hqQ:=(hK.mem _ (ee hq)).1
  have gq:=hQ q hqQ
  have he:e.1=[fst q.1,lst q.1]:=he.symm
  have hget:aJ (K.map kv) e.1=some (.loc q.2):=by
   rw [show aJ (K.map kv) e.1=(aJ K e.1).map fun q=>D.loc q.2 from get_map (fun q:Wlk × Nat=>D.loc q.2) e.1 K,hq]; rfl
  have d1:=qX hT hget
  have s1:=j9 (sub:=sub) (n:=n) hw hg gq.at' gq.nd gq.len
  have i0:ixD (tupI e.1) (.int 0) T=.ok (.int (fst q.1)) T:=by rw [he]; exact aB rfl
  have i1:ixD (tupI e.1) (.int 1) T=.ok (.int (lst q.1)) T:=by rw [he]; exact aB rfl
  have t1:evT sub (ah sub P (n+2)) (.cmp .eq (.ix (.v 6) (.c (.int 0))) (.ix (.v 6) (.c (.int 1)))) [some l.toD,some (.int g),x2,x3,x4,some (.loc k),some (tupI e.1)] T=.ok (fst q.1==lst q.1) T:=aX (aW (az (r_v rfl) r_c i0) (az (r_v rfl) r_c i1) (eF _ _ _))
  have t2:evT sub (ah sub P (n+2)) (.cmp .gt (.call "surplus" (.cs (.v 0) (.cs (.v 1) (.cs (.dgv (.v 5) (.v 6)) .nl)))) (.c (.int 0))) [some l.toD,some (.int g),x2,x3,x4,some (.loc k),some (tupI e.1)] T=.ok (decide (0 < wfQ l g q)) T:=aX (aW (au (aa (r_v rfl) (aa (r_v rfl) (aa (lu (r_v rfl) (r_v rfl) d1) ai))) s1) r_c (fD _ _ _))
  have go:((fst q.1==lst q.1)&&decide (0 < wfQ l g q))=false->bq sub (ah sub P (n+2)) (.one 6) ju (tupI e.1) [some l.toD,some (.int g),x2,x3,x4,some (.loc k),x6] T=.ok (.nx [some l.toD,some (.int g),x2,x3,x4,some (.loc k),some (tupI e.1)]) T:=fun hb=>by
   refine d7 (aK ?_ aL)
   cases c:(fst q.1==lst q.1) with
   | false=>rw [c] at t1; exact fG t1
   | true =>
    rw [c] at t1 hb
    rw [Bool.true_and] at hb
    rw [hb] at t2
    exact dz t1 t2
  by_cases hb:((fst q.1==lst q.1)&&decide (0 < wfQ l g q))=true
  ·rw [Zq] at hb
   rw [hb.1] at t1
   rw [hb.2] at t2
   refine .inl ⟨q,hqQ,?_,eq_of_beq hb.1,Zo hb.2⟩
   exact mU hs (d7 (cM (dz t1 t2) (aE (lu (r_v rfl) (r_v rfl) d1))))
  ·have hb:((fst q.1==lst q.1)&&decide (0 < wfQ l g q))=false:=by cases c:((fst q.1==lst q.1)&&decide (0 < wfQ l g q)) with|true=>exact absurd c hb|false=>rfl
   rcases qj hw hg hT hK hQ hs E (some (tupI e.1)) fun a ha=>hE a (Zm _ ha) with ⟨y,hy,e1,e2,e3⟩|⟨x6',e1,e2⟩
   ·exact .inl ⟨y,hy,fQ hs (go hb) e1,e2,e3⟩
   ·refine .inr ⟨x6',fQ hs (go hb) e1,fun a ha y hy hc=>?_⟩
    rcases Zt.mp ha with rfl|ha
    ·rw [hq] at hy; cases hy
     have hc:(fst q.1==lst q.1)=true:=QV.mpr hc
     rw [hc,Bool.true_and] at hb
     have:=Wn hb
     omega
    ·exact e2 a ha y hy hc
theorem A_ {k:Nat} {K:List (List Int × (Wlk × Nat))} (hT:TabAt T k (K.map kv)) (hz:K.length<=1000000):biD sub .vals [.loc k] T=.ok (.loc T.length) (T++[.lst ((K.map (·.2)).map fun q=>.loc q.2)]):=by
 show bO k (fun kvs=>guard (fits kvs.length) (alloc (.lst (kvs.map (·.2))))) T=_
 rw [lU hT]
 rw [show fits (K.map kv).length=true from Zj (by rw [Zd]; unfold aI; omega)]
 show Res.ok (D.loc T.length) (T++[.lst ((K.map kv).map (·.2))])=_
 rw [Z2,Z2]; rfl
theorem DL {cf:Str->List D->M D} {σ:Sg} {a:E} {k:Nat} {K:List (List Int × (Wlk × Nat))} (ha:ev sub cf a σ (T++[.dct (K.map kv)])=.ok (.loc T.length) (T++[.dct (K.map kv)])):evI sub cf (.iDct a) σ (T++[.dct (K.map kv)])=.ok ⟨K.map fun e=>tupI e.1,none,[]⟩ (T++[.fdc (K.map kv)]):=by
 show (ev sub cf a σ>>=fun d=>ia d) (T++[.dct (K.map kv)])=_
 rw [aq,ha,Res.aj]
 unfold ia
 simp only [aG]
 rw [uI,Z2]; rfl
structure RSt (l:Lp) (g:Int) (S0 T:af) (m:Nat) (Q:List (Wlk × Nat)):Prop where
 best:eV (aH l) g (aR l) m (Q.map (·.1))
 at':∀ q∈Q,AtW T q/\S0.length<=q.2
 len:Q.length<=12 ^ m
theorem RSt.good {S0:af} {g:Int} {m:Nat} {Q:List (Wlk × Nat)} (hl:l.WF) (h:RSt l g S0 T m Q) (hm:m<=1000):∀ q∈Q,cX l T q:=fun q hq=>by
 obtain ⟨h1,h2⟩:=h.best.mem q.1 (ZA.mpr ⟨q,hq,rfl⟩)
 exact ⟨(h.at' q hq).1,h1.ne,fun t ht=>cE hl t (h1.mem t ht),by omega⟩
theorem rO {m:Nat} (h:m<=5):12 ^ m<=248832:=ZY (Nat.pow_le_pow_right (by decide) h) (by decide)
theorem BC (hw:HW P) (hl:l.WF) (h4:l.works.length<=4) {g:Int} (hg:0<=g/\g<=1000) {S0:af} {m k:Nat} {Q:List (Wlk × Nat)} {x4 x5 x6:Option D} (hm:1<=m/\m<=4) (hR:RSt l g S0 T m Q) (hk:T[k]?=some (.lst (Q.map fun q=>.loc q.2))) (h0:S0.length < T.length) (hp:S0 <+: T) (hs:T[S0.length]?=some (.lst ((aR l).map tupI))) :
  (∃ q T',exec sub (ah sub P (n+3)) jq [some l.toD,some (.int g),some (.loc S0.length),some (.loc k),x4,x5,x6] T=.ok (.rt (.loc q.2)) T'/\S0 <+: T'/\AtW T' q/\S0.length<=q.2/\Walk (aR l) q.1/\q.1.length=m/\ck q.1/\0 < wt (aH l) g q.1) \/
  (fJ (aH l) g (aR l) m/\∃ T' k' Q' x5' x6',exec sub (ah sub P (n+3)) jq [some l.toD,some (.int g),some (.loc S0.length),some (.loc k),x4,x5,x6] T=.ok (.nx [some l.toD,some (.int g),some (.loc S0.length),some (.loc k'),x4,x5',x6']) T'/\T <+: T'/\RSt l g S0 T' (m+1) Q'/\T'[k']?=some (.lst (Q'.map fun q=>.loc q.2))):=by
 have gQ:=hR.good hl (by omega)
 have hQz:Q.length<=248832:=ZY hR.len (rO (by omega))
 have hst:=pT hl h4
 have e1:=GN (sub:=sub) (n:=n) hw hg hk gQ (by omega)
 have hK:KOk enQ (wfQ l g) Q (Q.foldl (cS enQ (wfQ l g)) []):=KOk.of Q
 generalize hKe:Q.foldl (cS enQ (wfQ l g)) []=K at e1 hK
 have hKz:=hK.len
 have pre:T <+: T++[.fdc (K.map kv)]:=Zl _ _
 have hT:TabAt (T++[.fdc (K.map kv)]) T.length (K.map kv):=.inr (aG _ _)
 have a1:=aF (sub:=sub) (cf:=ah sub P (n+3)) (σ:=[some l.toD,some (.int g),some (.loc S0.length),some (.loc k),x4,x5,x6]) (i:=5) (S:=T) (au (aa (r_v (i:=0) rfl) (aa (r_v (i:=1) rfl) (aa (r_v (i:=3) rfl) ai))) e1)
 have it:=DL (sub:=sub) (cf:=ah sub P (n+3)) (σ:=[some l.toD,some (.int g),some (.loc S0.length),some (.loc k),x4,some (.loc T.length),x6]) (T:=T) (K:=K) (k:=0) (r_v (i:=5) rfl)
 rcases qj (sub:=sub) (n:=n+1) (x2:=some (.loc S0.length)) (x3:=some (.loc k)) (x4:=x4) hw hg hT hK (fun q hq=>(gQ q hq).pre pre) (s:=⟨K.map fun e=>tupI e.1,none,[]⟩) rfl K x6 (fun _ h=>h) with ⟨q,hq,e2,c1,c2⟩|⟨x6',e2,c1⟩
 ·obtain ⟨w1,w2⟩:=hR.best.mem q.1 (ZA.mpr ⟨q,hq,rfl⟩)
  exact .inl ⟨q,_,ak a1 (dm (dQ it e2)),hp.trans pre,(hR.at' q hq).1.pre pre,(hR.at' q hq).2,w1,w2,c1,c2⟩
 ·refine .inr ⟨fun w hw' hlw hc=>?_,?_⟩
  ·obtain ⟨v,hv,he,hle⟩:=hR.best.all w hw' hlw
   obtain ⟨q,hq,rfl⟩:=ZA.mp hv
   obtain ⟨x,hx,hle2⟩:=hK.all q hq
   have hxe:enQ x=enQ q:=((hK.mem _ (ee hx)).2).symm
   have hxc:ck x.1:=by
    obtain ⟨z1,z2⟩:=vc (hxe.trans he)
    show fst x.1=lst x.1
    rw [z1,z2]; exact hc
   have:=c1 _ (ee hx) x hx hxc
   have h5:wt (aH l) g q.1<=wt (aH l) g x.1:=hle2
   have h6:wt (aH l) g x.1<=0:=this
   omega
  ·have gV:∀ q∈K.map (·.2),cX l (T++[.fdc (K.map kv)]++[.lst ((K.map (·.2)).map fun q=>.loc q.2)]) q:=fun q hq=>by
    obtain ⟨e,he,rfl⟩:=ZA.mp hq
    exact ((gQ _ (hK.mem e he).1).pre pre).pre (Zl _ _)
   obtain ⟨T',Q',e3,p3,g3,m3,a3⟩:=Fw (sub:=sub) (P:=P) (n:=n+2) (S:=T++[.fdc (K.map kv)]++[.lst ((K.map (·.2)).map fun q=>.loc q.2)]) (l:=l) (st:=aR l) (k:=S0.length) (m:=(T++[Cell.fdc (K.map kv)]).length) (V:=K.map (·.2)) hw
    (bI (pre.trans (Zl _ _)) hs) (cE hl) (aG _ _) gV (by omega) (by
     rw [Zd]
     have:K.length * (aR l).length<=12 ^ m * 12:=Nat.mul_le_mul (ZY hKz hR.len) hst
     have h2:12 ^ m * 12<=248832:=by rw [<- Nat.pow_succ]; exact rO (by omega)
     omega)
   have hv:=A_ (sub:=sub) (T:=T++[.fdc (K.map kv)]) (k:=T.length) (K:=K) hT (by omega)
   have a2:=aF (sub:=sub) (cf:=ah sub P (n+3)) (σ:=[some l.toD,some (.int g),some (.loc S0.length),some (.loc k),x4,some (.loc T.length),x6']) (i:=3) (S:=T++[.fdc (K.map kv)]) (au (aa (aN (aa (r_v (i:=5) rfl) ai) hv) (aa (r_v (i:=2) rfl) ai)) e3)
   refine ⟨T',_,Q',_,_,ak a1 (ak (dQ it e2) a2),(pre.trans (Zl _ _)).trans p3,⟨?_,?_,?_⟩,g3⟩
   ·refine eV.next (V:=(K.map (·.2)).map (·.1)) (by omega) (fun w hw'=>?_) (fun w hw' hlw=>?_) (fun w=>by rw [m3]; exact xO w)
    ·obtain ⟨q,hq,rfl⟩:=ZA.mp hw'
     obtain ⟨e,he,rfl⟩:=ZA.mp hq
     exact hR.best.mem _ (ZA.mpr ⟨_,(hK.mem e he).1,rfl⟩)
    ·obtain ⟨v,hv,he,hle⟩:=hR.best.all w hw' hlw
     obtain ⟨q,hq,rfl⟩:=ZA.mp hv
     obtain ⟨x,hx,hle2⟩:=hK.all q hq
     have hxe:enQ x=enQ q:=((hK.mem _ (ee hx)).2).symm
     refine ⟨x.1,ZA.mpr ⟨x,ZA.mpr ⟨_,ee hx,rfl⟩,rfl⟩,hxe.trans he,?_⟩
     have h5:wt (aH l) g q.1<=wt (aH l) g x.1:=hle2
     omega
   ·intro q hq
    obtain ⟨b1,b2⟩:=a3 q hq
    refine ⟨b1,?_⟩
    rw [Zv,Zv] at b2
    omega
   ·have h1:=Xm List.length m3
    rw [Zd] at h1
    have h2:=lN (aR l) ((K.map (·.2)).map (·.1))
    rw [Zd,Zd] at h2
    have:K.length * (aR l).length<=12 ^ m * 12:=Nat.mul_le_mul (ZY hKz hR.len) hst
    rw [Nat.pow_succ]
    omega
theorem pS (hw:HW P) (hl:l.WF) (h4:l.works.length<=4) {g:Int} (hg:0<=g/\g<=1000) {S0:af} {raw:List D} {its0:List D}:∀ (its:List D) (T:af) (m k:Nat) (Q:List (Wlk × Nat)) (x4 x5 x6:Option D),1<=m->m+its.length<=5->RSt l g S0 T m Q->T[k]?=some (.lst (Q.map fun q=>.loc q.2))->S0.length < T.length->S0 <+: T->T[S0.length]?=some (.lst ((aR l).map tupI))->(∀ j,0 < j->j < m->fJ (aH l) g (aR l) j) ->
  (∃ q T',forL ⟨its0,none,raw⟩ (bq sub (ah sub P (n+3)) (.one 4) jq) its [some l.toD,some (.int g),some (.loc S0.length),some (.loc k),x4,x5,x6] T=.ok (.rt (.loc q.2)) T'/\S0 <+: T'/\AtW T' q/\S0.length<=q.2/\Walk (aR l) q.1/\q.1.length < m+its.length/\ck q.1/\0 < wt (aH l) g q.1/\(q.1.map nA).Nodup) \/
  (∃ σ' T',forL ⟨its0,none,raw⟩ (bq sub (ah sub P (n+3)) (.one 4) jq) its [some l.toD,some (.int g),some (.loc S0.length),some (.loc k),x4,x5,x6] T=.ok (.nx σ') T'/\S0 <+: T'/\∀ j,0 < j->j < m+its.length->fJ (aH l) g (aR l) j)
 | [],T,m,k,Q,x4,x5,x6,h1,h2,hR,hk,h0,hp,hs,hf=>.inr ⟨_,T,kC rfl,hp,hf⟩
 | d::its,T,m,k,Q,x4,x5,x6,h1,h2,hR,hk,h0,hp,hs,hf=>by
  rw [ZB] at h2
  rcases BC (sub:=sub) (n:=n) (x4:=some d) (x5:=x5) (x6:=x6) hw hl h4 hg ⟨h1,by omega⟩ hR hk h0 hp hs with ⟨q,T',e,p,a,b,w,wl,c,pos⟩|⟨fr,T',k',Q',x5',x6',e,p,hR',hk'⟩
  ·refine .inl ⟨q,T',mU rfl (d7 e),p,a,b,w,by rw [ZB]; omega,c,pos,xC w c pos fun j j1 j2=>hf j j1 (by omega)⟩
  ·have:=pS hw hl h4 hg (raw:=raw) (its0:=its0) its T' (m+1) k' Q' (some d) x5' x6' (by omega) (by omega) hR' hk' (ZI h0 p.length_le) (hp.trans p) (bI p hs) (fun j j1 j2=>by
    by_cases hj:j=m
    ·rw [hj]; exact fr
    ·exact hf j j1 (by omega))
   rw [ZB]
   rcases this with ⟨q,T2,e2,r⟩|⟨σ2,T2,e2,r1,r2⟩
   ·refine .inl ⟨q,T2,fQ rfl (d7 e) e2,?_⟩
    rw [show m+(its.length+1)=m+1+its.length by omega]; exact r
   ·refine .inr ⟨σ2,T2,fQ rfl (d7 e) e2,r1,?_⟩
    rw [show m+(its.length+1)=m+1+its.length by omega]; exact r2
structure d_ (l:Lp) (g:Int) (w:Wlk):Prop where
 walk:Walk (aR l) w
 len:w.length<=l.works.length
 closed:ck w
 pos:0 < wt (aH l) g w
 nodup:(w.map nA).Nodup
theorem lP (h:HB P) (hn:Has P "needs" jE) (hr:Has P "barring_ring" nD) (hw:HW P) (hl:l.WF) (h4:l.works.length<=4) {g:Int} (hg:0<=g/\g<=1000) :
  (∃ w,ah sub P (n+9) "barring_ring" [l.toD,.int g] S=.ok (.loc S.length) (S++[.lst (w.map tupI)])/\d_ l g w) \/
  (ah sub P (n+9) "barring_ring" [l.toD,.int g] S=.ok .non S/\∀ j,0 < j->j<=l.works.length->fJ (aH l) g (aR l) j):=by
 have e1:=uL (sub:=sub) (n:=n) (S:=S) h hn hl (by omega)
 have hst:=pT hl h4
 obtain ⟨T',Q,e2,p2,m2,a2⟩:=rL (sub:=sub) (cf:=ah sub P (n+8)) (σ:=[some l.toD,some (.int g),some (.loc S.length),none,none,none,none]) (S:=S++[.lst ((aR l).map tupI)]) (k:=2) (i:=8) (el:=.lst (.cs (.v 8) .nl)) (it:=.iSeq (.v 2)) (tt:=.nl) (ks:=aR l) (f:=tupI) (p:=fun _=>true) (h:=fun t=>[t]) (o:=some S.length) (raw:=(aR l).map tupI)
  (cy (r_v rfl) (eT (aG _ _))) (fun T hT=>d8 (.inr ⟨_,rfl,bI hT (aG _ _)⟩)) (fun t ht T hT=>rfl) (fun t ht _ T hT=>⟨_,_,cV (aa (r_v rfl) ai) rfl,Zl _ _,hT.length_le,aG _ _⟩) (by unfold aI; omega)
 have hp:S <+: T':=(Zl _ _).trans p2
 have hlen:S.length < T'.length:=by
  have:=p2.length_le
  rw [Zv] at this
  simp at this
  omega
 have hf:(aR l).filter (fun _=>true)=aR l:=List.filter_eq_self.mpr fun _ _=>rfl
 rw [hf] at m2
 have hR:RSt l g S (T'++[.lst (Q.map fun q=>.loc q.2)]) 1 Q:=⟨by rw [m2]; exact eV.one,fun q hq=>⟨(a2 q hq).1.pre (Zl _ _),by
   have:=(a2 q hq).2
   rw [Zv] at this
   omega⟩,by
   have:=Xm List.length m2
   rw [Zd,Zd] at this
   omega⟩
 have hs:(T'++[Cell.lst (Q.map fun q=>.loc q.2)])[S.length]?=some (.lst ((aR l).map tupI)):=bI (p2.trans (Zl _ _)) (aG _ _)
 have hit:evI sub (ah sub P (n+8)) (.iRng (.cs (.bi .len (.cs (.ix (.v 0) (.c (.int 2))) .nl)) .nl)) [some l.toD,some (.int g),some (.loc S.length),some (.loc T'.length),none,none,none] (T'++[.lst (Q.map fun q=>.loc q.2)])=.ok ⟨(List.range l.works.length).map fun (i:Nat)=>.int (i:Int),none,[]⟩ (T'++[.lst (Q.map fun q=>.loc q.2)]) :=
  gA (aa (aN (aa (az (r_v rfl) r_c (aB rfl)) ai) eW) ai) (by rw [Zd]) (by omega) (fun _=>rfl)
 rcases pS (sub:=sub) (n:=n+5) (raw:=[]) (its0:=(List.range l.works.length).map fun (i:Nat)=>.int (i:Int)) hw hl h4 hg ((List.range l.works.length).map fun (i:Nat)=>.int (i:Int)) (T'++[.lst (Q.map fun q=>.loc q.2)]) 1 T'.length Q none none none (by omega) (by rw [Zd,ZO]; omega) hR (aG _ _) (by rw [Zv]; omega) (hp.trans (Zl _ _)) hs (fun j j1 j2=>by omega) with ⟨q,T2,e3,r1,r2,r3,r4,r5,r6,r7,r8⟩|⟨σ2,T2,e3,r1,r2⟩
 ·rw [Zd,ZO] at r5
  refine .inl ⟨q.1,x_call (ds:=[l.toD,.int g]) hr rfl (ak (aF (au (aa (r_v rfl) ai) e1)) (ak (aF e2) (dm (dQ hit e3)))) (jv r3 ?_ r2 (l9 _)),r4,by omega,r6,r7,r8⟩
  obtain ⟨G,rfl⟩:=r1
  exact cF _ _
 ·rw [Zd,ZO] at r2
  refine .inr ⟨x_call (ds:=[l.toD,.int g]) hr rfl (ak (aF (au (aa (r_v rfl) ai) e1)) (ak (aF e2) (ak (dQ hit e3) (aE r_c)))) (bN rfl ?_),fun j j1 j2=>r2 j j1 (by omega)⟩
  obtain ⟨G,rfl⟩:=r1
  exact cF _ _
end
end RL

namespace WK
theorem ku:∀ {xs:List Int},(∀ x∈xs,0<=x)->0<=xs.sum
 | [],_=>QM _
 | x::r,h=>by
  have h1:=h x Zn
  have h2:=ku fun y hy=>h y (Zm _ hy)
  rw [List.sum_cons]; omega
theorem o8:∀ {xs:List Int},(∀ x∈xs,0<=x)->xs.sum=0->∀ x∈xs,x=0
 | [],_,_,x,hx=>by cases hx
 | y::r,h,e,x,hx=>by
  have h1:=h y Zn
  have h2:=ku fun z hz=>h z (Zm _ hz)
  rw [List.sum_cons] at e
  rcases Zt.mp hx with rfl|hx
  ·omega
  ·exact o8 (fun z hz=>h z (Zm _ hz)) (by omega) x hx
theorem up:∀ {w:Wlk},w≠[]->Chn w->(∀ t∈w,nA t < nB t)->fst w < lst w
 | [],h,_,_=>absurd rfl h
 | [t],_,_,h=>h t Zn
 | t::u::r,_,c,h=>by
  have h1:=h t Zn
  have h2:=up (w:=u::r) (by simp) c.2 fun x hx=>h x (Zm _ hx)
  have h3:nA u < lst (u::r):=h2
  have h4:=c.1
  show nA t < lst (u::r)
  omega
theorem Ht {w:Wlk} (hn:w≠[]) (hc:Chn w) (hcl:ck w) (h:∀ t∈w,0<=nC t/\(nC t=0->nA t < nB t)):1<=aV w:=by
 have h0:0<=aV w:=ku fun x hx=>by
  obtain ⟨t,ht,rfl⟩:=ZA.mp hx
  exact (h t ht).1
 refine Xv fun z=>?_
 have hz:aV w=0:=by omega
 have:=up hn hc fun t ht=>(h t ht).2 (o8 (fun x hx=>by
  obtain ⟨t,ht,rfl⟩:=ZA.mp hx
  exact (h t ht).1) hz _ (ZA.mpr ⟨t,ht,rfl⟩))
 have hcl:fst w=lst w:=hcl
 omega
theorem ly {c:Int}:∀ {xs:List Int},(∀ x∈xs,x<=c)->xs.sum<=c * (xs.length:Int)
 | [],_=>by simp
 | x::r,h=>by
  have h1:=h x Zn
  have h2:=ly fun y hy=>h y (Zm _ hy)
  rw [List.sum_cons,ZB,Int.natCast_add,Int.mul_add]; simp; omega
theorem vv {lg:Int->Int} {g h:Int} {w:Wlk} (hb:0<=aV w) (hg:h<=g):wt lg g w<=wt lg h w:=by
 unfold wt
 have:h * aV w<=g * aV w:=Xg hg hb
 omega
theorem pZ:∀ {w:Wlk},w≠[]->Chn w->w.map nB=(w.map nA).drop 1++[lst w]
 | [],h,_=>absurd rfl h
 | [t],_,_=>rfl
 | t::u::r,_,c=>by
  have ih:=pZ (w:=u::r) (by simp) c.2
  rw [ZF,ih,c.1]; rfl
theorem Cs {w:Wlk} (hn:w≠[]) (hc:Chn w) (hcl:ck w):w.map nB=(w.map nA).drop 1++(w.map nA).take 1:=by
 rw [pZ hn hc,show lst w=fst w from hcl.symm]
 cases w with
 | nil=>exact absurd rfl hn
 | cons t r=>rfl
theorem rD:∀ (xs acc:List Int),(acc++xs).Nodup->xs.foldl EV.iz acc=acc++xs
 | [],acc,_=>by simp
 | x::r,acc,h=>by
  have h1:x ∉ acc:=fun z=>by
   have:=(Qw.mp h).2.2 x z x Zn
   exact this rfl
  have e:EV.iz acc x=acc++[x]:=Zf (by rw [Q9]; exact h1)
  show r.foldl EV.iz (EV.iz acc x)=_
  rw [e,rD r (acc++[x]) (by rw [Zr]; exact h),Zr]; rfl
theorem C5 {xs:List Int} (h:xs.Nodup):EV.gz xs=xs.length:=by
 unfold EV.gz
 rw [rD xs [] h]; rfl
end WK
namespace RL
open PySem EV GO WK
noncomputable def zpE:List Int->List Int->Bool
 | a::r,b::q=>(a==b)&&zpE r q
 | _,_=>true
theorem mP:∀ u:List Int,zpE u u=true
 | []=>rfl
 | a::r=>by show ((a==a)&&zpE r r)=true; rw [mP r,Z7]; rfl
theorem mY {S:af} (n:Nat):∀ u t:List Int,bC (eqD (n+1) S) (u.map .int) (t.map .int)=some (zpE u t)
 | [],[]=>rfl
 | [],_::_=>rfl
 | _::_,[]=>rfl
 | a::r,b::q=>by
  show (match eqD (n+1) S (.int a) (.int b),bC (eqD (n+1) S) (r.map .int) (q.map .int) with|some a,some b=>some (a&&b)|_,_=>none)=_
  rw [mY n r q]; rfl
theorem zx {S:af} (u t:List Int):∃ b,eqD deep S (tupI u) (tupI t)=some b/\(u=t->b=true):=by
 refine ⟨zpE u t&&((u.map D.int).length==(t.map D.int).length),?_,fun e=>?_⟩
 ·show (bC (eqD 11 S) (u.map .int) (t.map .int)).map (fun r=>r&&((u.map D.int).length==(t.map D.int).length))=_
  rw [mY 10]; rfl
 ·subst e; rw [mP,Z7]; rfl
theorem o9 {S:af} (t:List Int):∀ ts:List (List Int),∃ b,inL S (tupI t) (ts.map tupI)=some b/\(t∈ts->b=true)
 | []=>⟨false,rfl,fun h=>by cases h⟩
 | u::r=>by
  obtain ⟨a,e1,h1⟩:=zx (S:=S) u t
  obtain ⟨b,e2,h2⟩:=o9 (S:=S) t r
  refine ⟨a||b,?_,fun h=>?_⟩
  ·show (match eqD deep S (tupI u) (tupI t),inL S (tupI t) (r.map tupI) with|some a,some b=>some (a||b)|_,_=>none)=_
   rw [e1,e2]
  ·rcases Zt.mp h with rfl|h
   ·rw [h1 rfl]; rfl
   ·rw [h2 h,Bool.or_true]
noncomputable def sy:Fn:=⟨2,2,(.ret (.and (.call "is_row" (.cs (.v 0) (.cs (.c (.int 3)) (.cs (.c (.int 3)) .nl)))) (.and (.bi .all (.cs (.comp 2 (.call "is_whole" (.cs (.v 3) (.cs (.c (.int 0)) (.cs (.c (.int 8)) .nl)))) (.one 3) (.iSeq (.v 0)) .nl) .nl)) (.cmp .isin (.v 0) (.v 1)))))⟩
noncomputable def oK:Fn:=⟨2,4,(.seq (.ite (.or (.not (.bi (.inst .list) (.cs (.v 0) .nl))) (.not (.chn .le .le (.c (.int 1)) (.bi .len (.cs (.v 0) .nl)) (.c (.int 8)))))
  (.ret (.c (.bl false)))
  .skip)
 (.seq (.ite (.not (.bi .all (.cs (.comp 2 (.call "is_need" (.cs (.v 5) (.cs (.v 1) .nl))) (.one 5) (.iSeq (.v 0)) .nl) .nl)))
  (.ret (.c (.bl false)))
  .skip)
 (.seq (.set (.one 2) (.comp 2 (.ix (.v 5) (.c (.int 0))) (.one 5) (.iSeq (.v 0)) .nl))
 (.seq (.set (.one 3) (.comp 2 (.ix (.v 5) (.c (.int 1))) (.one 5) (.iSeq (.v 0)) .nl))
 (.ret (.and (.cmp .eq (.v 3) (.bin .add (.sl (.v 2) (.c (.int 1)) .nl) (.sl (.v 2) .nl (.c (.int 1))))) (.cmp .eq (.bi .lenS (.cs (.v 2) .nl)) (.bi .len (.cs (.v 2) .nl)))))))))⟩
noncomputable def oU:Fn:=⟨3,4,(.seq (.set (.one 3) (.call "needs" (.cs (.v 0) .nl)))
 (.seq (.ex (.call "checked_gap" (.cs (.v 1) .nl)))
 (.ret (.and (.call "is_ring" (.cs (.v 2) (.cs (.v 3) .nl))) (.cmp .gt (.call "surplus" (.cs (.v 0) (.cs (.v 1) (.cs (.v 2) .nl)))) (.c (.int 0)))))))⟩
noncomputable def qP:Fn:=⟨2,2,(.seq (.ex (.call "checked" (.cs (.v 0) .nl)))
 (.ret (.call "barring_ring" (.cs (.v 0) (.cs (.call "checked_gap" (.cs (.v 1) .nl)) .nl)))))⟩
structure HR (P:Prg):Prop where
 needs:Has P "needs" jE
 gap:Has P "checked_gap" tS
 barring:Has P "barring_ring" nD
 ring:Has P "ring" qP
 isneed:Has P "is_need" sy
 isring:Has P "is_ring" oK
 isbar:Has P "is_bar" oU
 walks:HW P
section
variable {sub:Sub} {P:Prg} {n:Nat} {S T:af} {l:Lp}
theorem zT {k:Nat} {ts:List (List Int)} {t:List Int} (hk:T[k]?=some (.lst (ts.map tupI))) (h:t∈ts):cmD .isin (tupI t) (.loc k) T=.ok (.bl true) T:=by
 show (items (.loc k)>>=fun ys=>inA false (tupI t) ys) T=_
 rw [aq,cR hk]
 simp only [Res.aj]
 unfold inA
 obtain ⟨b,e,hb⟩:=o9 (S:=T) t ts
 rw [e,hb h]; rfl
theorem nq (h:HB P) (hr:HR P) {g:Int} (h1:1<=g) (h2:g<=200):ah sub P (n+2) "checked_gap" [.int g] S=.ok (.int g) S :=
 x_call (ds:=[.int g]) hr.gap rfl (ak (aK (bf (bH (au (aa (r_v rfl) (aa r_c (aa r_c ai))) (cH h.whole h1 h2)))) aL) (aE (r_v rfl))) (gk _ _)
theorem sA {α:Type} {xs:List α}:biD sub .all [.loc T.length] (T++[.lst (xs.map fun _=>.bl true)])=.ok (.bl true) (T++[.lst (xs.map fun _=>.bl true)]):=by
 rw [qc,cR (aG _ _),Res.aj]
 have e:∀ xs:List α,cI (xs.map fun _=>D.bl true)=some (xs.map fun _=>true):=fun xs=>by
  induction xs with
  | nil=>rfl
  | cons a r ih=>show (cI (r.map fun _=>D.bl true)).map (true :: ·)=_; rw [ih]; rfl
 rw [e,cD,Res.aj]
 have e2:(xs.map fun _=>true).all id=true:=by rw [Wv]; exact Z8.mpr fun _ _=>rfl
 rw [e2]
theorem D_ (h:HB P) (hr:HR P) {ts:List Nd} {k:Nat} {t:Nd} (hk:S[k]?=some (.lst (ts.map tupI))) (ht:t∈ts) (hn:b8 l t) (h8:l.works.length<=8):ah sub P (n+2) "is_need" [tupI t,.loc k] S=.ok (.bl true) S:=by
 obtain ⟨x,i,b,rfl,h1,h2,h3,_⟩:=hn
 have e:ev sub (ah sub P (n+1)) (.comp 2 (.call "is_whole" (.cs (.v 3) (.cs (.c (.int 0)) (.cs (.c (.int 8)) .nl)))) (.one 3) (.iSeq (.v 0)) .nl) [some (tupI [(x:Int),(i:Int),(b:Int)]),some (.loc k)] S=.ok (.loc S.length) (S++[.lst ([(x:Int),(i:Int),(b:Int)].map fun _=>.bl true)]) :=
  fH (ks:=[(x:Int),(i:Int),(b:Int)]) (f:=.int) (g:=fun _=>.bl true) (o:=none) (raw:=[(x:Int),(i:Int),(b:Int)].map .int) (cy (r_v rfl) rfl) rfl (fun v hv=>by
   have hv':0<=v/\v<=8:=by
    simp only [Zt,List.not_mem_nil,or_false] at hv
    rcases hv with rfl|rfl|rfl <;> omega
   exact au (aa (r_v rfl) (aa r_c (aa r_c ai))) (cH h.whole hv'.1 hv'.2)) (by unfold aI; simp)
 exact x_call (ds:=[tupI [(x:Int),(i:Int),(b:Int)],.loc k]) hr.isneed rfl (aE (cZ (au (aa (r_v rfl) (aa r_c (aa r_c ai))) (fW h.row 3 rfl (by decide) (by decide))) (cZ (aN (aa e ai) (sA (xs:=[(x:Int),(i:Int),(b:Int)]))) (aW (r_v rfl) (r_v rfl) (zT (bI (Zl _ _) hk) ht))))) (fY _ _ _)
theorem wR (vs:List D):cut vs (some 1) none=vs.drop 1:=by
 unfold cut sIx
 cases vs with
 | nil=>rfl
 | cons a r =>
  have:(if (1:Int) < 0 then ((1:Int)+((a::r).length:Int)).toNat else min (1:Int).toNat (a::r).length)=1:=by
   rw [Zf (by decide)]; simp
  simp
theorem Cw (vs:List D):cut vs none (some 1)=vs.take 1:=by
 unfold cut sIx
 cases vs with
 | nil=>rfl
 | cons a r=>simp
theorem tw {c:Nat} {xs:List D} {lo hi:Option Int} (h:T[c]?=some (.lst xs)):slD (.loc c) lo hi T=.ok (.loc T.length) (T++[.lst (cut xs lo hi)]):=by
 show (items (.loc c)>>=fun xs=>alloc (.lst (cut xs lo hi))) T=_
 rw [aq,cR h]; rfl
theorem G3 {a b:Nat} {xs:List Int} (ha:T[a]?=some (.lst (xs.map .int))) (hb:T[b]?=some (.lst (xs.map .int))):cmD .eq (.loc a) (.loc b) T=.ok (.bl true) T:=by
 rw [l_]
 have e:eqD deep T (.loc a) (.loc b)=some true:=by
  show (match listAt T a,listAt T b with|some xs,some ys=>if xs.length=ys.length then bC (eqD 11 T) xs ys else some false|_,_=>none)=_
  unfold listAt
  rw [ha,hb]
  show (if (xs.map D.int).length=(xs.map D.int).length then bC (eqD 11 T) (xs.map .int) (xs.map .int) else some false)=_
  rw [Ze rfl,mY 10,mP]
 rw [e]
theorem F5 {c:Nat} {xs:List Int} (h:T[c]?=some (.lst (xs.map .int))) (hz:xs.length<=18):biD sub .lenS [.loc c] T=.ok (.int (gz xs:Int)) T:=by
 show (cu (.loc c)>>=fun ds=>opt (allInts ds)>>=fun is=>guard (decide (is.length<=18)) (pure (D.int (gz is)))) T=_
 have e:cu (.loc c) T=.ok (xs.map .int) T:=cR h
 rw [aq,e,Res.aj,aq,allI,cD,Res.aj,Zj hz]; rfl
theorem Hu (h:HB P) (hr:HR P) (hl:l.WF) {g:Int} {w:Wlk} {k m:Nat} (hb:d_ l g w) (hk:S[k]?=some (.lst ((aR l).map tupI))) (hm:AtW S (w,m)):ah sub P (n+3) "is_ring" [.loc m,.loc k] S=.ok (.bl true) S:=by
 have hm:S[m]?=some (.lst (w.map tupI)):=hm
 have hl8:=hl.nworks.2
 have hwl:=hb.len
 have hw1:1<=w.length:=by
  cases w with
  | nil=>exact absurd rfl hb.walk.ne
  | cons t r=>rw [ZB]; omega
 have e1:ev sub (ah sub P (n+2)) (.comp 2 (.call "is_need" (.cs (.v 5) (.cs (.v 1) .nl))) (.one 5) (.iSeq (.v 0)) .nl) [some (.loc m),some (.loc k),none,none] S=.ok (.loc S.length) (S++[.lst (w.map fun _=>.bl true)]) :=
  fH (ks:=w) (f:=tupI) (g:=fun _=>.bl true) (o:=some m) (raw:=w.map tupI) (cy (r_v rfl) (eT hm)) (d8 (.inr ⟨m,rfl,hm⟩)) (fun t ht=>au (aa (r_v rfl) (aa (r_v rfl) ai)) (D_ h hr hk (hb.walk.mem t ht) (cE hl t (hb.walk.mem t ht)) hl8)) (by unfold aI; omega)
 have cmp:∀ (T:af) (j:Int) (f:Nd->Int) {x2:Option D},S <+: T->(∀ t∈w,ixD (tupI t) (.int j) T=.ok (.int (f t)) T)->ev sub (ah sub P (n+2)) (.comp 2 (.ix (.v 5) (.c (.int j))) (.one 5) (.iSeq (.v 0)) .nl) [some (.loc m),some (.loc k),x2,none] T=.ok (.loc T.length) (T++[.lst ((w.map f).map .int)]):=fun T j f x2 hp hf=>by
  have hm':=bI hp hm
  have:=fH (sub:=sub) (cf:=ah sub P (n+2)) (k:=2) (i:=5) (el:=.ix (.v 5) (.c (.int j))) (it:=.iSeq (.v 0)) (σ:=[some (.loc m),some (.loc k),x2,none]) (S:=T) (S1:=T) (ks:=w) (f:=tupI) (g:=fun t=>.int (f t)) (o:=some m) (raw:=w.map tupI) (cy (r_v rfl) (eT hm')) (d8 (.inr ⟨m,rfl,hm'⟩)) (fun t ht=>az (r_v rfl) r_c (hf t ht)) (by unfold aI; omega)
  rw [Z2]
  exact this
 have e2:=cmp (S++[.lst (w.map fun _=>.bl true)]) 0 nA (x2:=none) (Zl _ _) (fun t ht=>jI (cE hl t (hb.walk.mem t ht)))
 generalize hT2:S++[.lst (w.map fun _=>.bl true)]=T2 at e2 e1
 have p2:S <+: T2:=by rw [<- hT2]; exact Zl _ _
 have e3:=cmp (T2++[.lst ((w.map nA).map .int)]) 1 nB (x2:=some (.loc T2.length)) (p2.trans (Zl _ _)) (fun t ht=>nN (cE hl t (hb.walk.mem t ht)))
 have ha:(T2++[Cell.lst ((w.map nA).map .int)])[T2.length]?=some (.lst ((w.map nA).map .int)):=aG _ _
 generalize hT3:T2++[Cell.lst ((w.map nA).map .int)]=T3 at e2 e3 ha
 have p3:T2 <+: T3:=by rw [<- hT3]; exact Zl _ _
 have hbh:(T3++[Cell.lst ((w.map nB).map .int)])[T3.length]?=some (.lst ((w.map nB).map .int)):=aG _ _
 have ha4:(T3++[Cell.lst ((w.map nB).map .int)])[T2.length]?=some (.lst ((w.map nA).map .int)):=bI (Zl _ _) ha
 generalize hT4:T3++[Cell.lst ((w.map nB).map .int)]=T4 at e3 hbh ha4
 have p4:T3 <+: T4:=by rw [<- hT4]; exact Zl _ _
 have s5:=tw (lo:=some 1) (hi:=none) ha4
 rw [wR] at s5
 have ha5:(T4++[Cell.lst (((w.map nA).map D.int).drop 1)])[T2.length]?=some (.lst ((w.map nA).map .int)):=bI (Zl _ _) ha4
 have g5:(T4++[Cell.lst (((w.map nA).map D.int).drop 1)])[T4.length]?=some (.lst (((w.map nA).map D.int).drop 1)):=aG _ _
 generalize hT5:T4++[Cell.lst (((w.map nA).map D.int).drop 1)]=T5 at s5 ha5 g5
 have p5:T4 <+: T5:=by rw [<- hT5]; exact Zl _ _
 have s6:=tw (lo:=none) (hi:=some 1) ha5
 rw [Cw] at s6
 have g56:(T5++[Cell.lst (((w.map nA).map D.int).take 1)])[T4.length]?=some (.lst (((w.map nA).map D.int).drop 1)):=bI (Zl _ _) g5
 have g6:(T5++[Cell.lst (((w.map nA).map D.int).take 1)])[T5.length]?=some (.lst (((w.map nA).map D.int).take 1)):=aG _ _
 generalize hT6:T5++[Cell.lst (((w.map nA).map D.int).take 1)]=T6 at s6 g56 g6
 have p6:T5 <+: T6:=by rw [<- hT6]; exact Zl _ _
 have s7:=o7 g56 g6 (by rw [List.length_drop,XD,Zd,Zd]; omega)
 have ecat:((w.map nA).map D.int).drop 1++((w.map nA).map D.int).take 1=(w.map nB).map D.int:=by
  rw [Cs hb.walk.ne hb.walk.chn hb.closed,XA,List.map_drop,List.map_take]
 rw [ecat] at s7
 have b7:(T6++[Cell.lst ((w.map nB).map .int)])[T3.length]?=some (.lst ((w.map nB).map .int)):=bI (p5.trans (p6.trans (Zl _ _))) hbh
 have a7:(T6++[Cell.lst ((w.map nB).map .int)])[T2.length]?=some (.lst ((w.map nA).map .int)):=bI (p6.trans (Zl _ _)) ha5
 have q7:=G3 b7 (aG T6 (Cell.lst ((w.map nB).map .int)))
 have dn:gz (w.map nA)=(w.map nA).length:=C5 hb.nodup
 have z7:=F5 (sub:=sub) a7 (by rw [Zd]; omega)
 rw [dn] at z7
 have z8:=jR (sub:=sub) a7
 rw [Zd] at z8
 have fin:ev sub (ah sub P (n+2)) (.and (.cmp .eq (.v 3) (.bin .add (.sl (.v 2) (.c (.int 1)) .nl) (.sl (.v 2) .nl (.c (.int 1))))) (.cmp .eq (.bi .lenS (.cs (.v 2) .nl)) (.bi .len (.cs (.v 2) .nl)))) [some (.loc m),some (.loc k),some (.loc T2.length),some (.loc T3.length)] T4=.ok (.bl true) (T6++[Cell.lst ((w.map nB).map .int)]) :=
  cZ (aW (r_v rfl) (bg (u0 (r_v rfl) rfl rfl s5) (u0 (r_v rfl) rfl rfl s6) s7) q7) (by
   have:=aW (sub:=sub) (cf:=ah sub P (n+2)) (o:=.eq) (σ:=[some (.loc m),some (.loc k),some (.loc T2.length),some (.loc T3.length)]) (aN (aa (r_v (i:=2) rfl) ai) z7) (aN (aa (r_v (i:=2) rfl) ai) z8) (eF _ _ _)
   rw [Z7] at this
   exact this)
 have t1:evT sub (ah sub P (n+2)) (.or (.not (.bi (.inst .list) (.cs (.v 0) .nl))) (.not (.chn .le .le (.c (.int 1)) (.bi .len (.cs (.v 0) .nl)) (.c (.int 8))))) [some (.loc m),some (.loc k),none,none] S=.ok false S:=by
  refine b6 (S1:=S) (t_k (bf (eY (aN (aa (r_v rfl) ai) (f7 (k:=true) (by show (match S[m]?,Ty.list with|_,.cls _=>none|some (.lst _),.list=>some true|some (.lst _),_=>some false|some (.dct _),_=>none|some (.fdc _),_=>none|none,_=>none)=_; rw [hm]))))) rfl) (t_k (bf (k:=true) ?_) rfl)
  rw [GV]
  rw [r_c,Res.aj,aN (aa (r_v (i:=0) rfl) ai) (jR hm),Res.aj,iJ,Res.aj]
  rw [Zd,Zj (show (1:Int)<=(w.length:Int) by omega)]
  show Res.bind (cmD .le (.int (w.length:Int)) (.int 8) S) (fun r S4=>truth r S4)=_
  rw [iJ,Res.aj,Zj (show (w.length:Int)<=8 by omega)]; rfl
 refine x_call (ds:=[.loc m,.loc k]) hr.isring rfl (ak (aK t1 aL) (ak (aK (t_k (bf (eY (aN (aa e1 ai) (by rw [<- hT2]; exact sA (xs:=w))))) rfl) aL) (ak (aF ?_) (ak (aF e3) (aE fin))))) (bN rfl ?_)
 ·rw [hT2]; exact e2
 ·obtain ⟨G,hG⟩:=p2.trans (p3.trans (p4.trans (p5.trans (p6.trans (Zl T6 [Cell.lst ((w.map nB).map .int)])))))
  rw [<- hG]
  exact cF _ _
theorem jb (hl:l.WF) {w:Wlk} (hw:Walk (aR l) w) (hc:ck w):1<=aV w:=Ht hw.ne hw.chn hc fun t ht=>by
 obtain ⟨_,_,_,_,_,h1,_,h2⟩:=jO (cE hl t (hw.mem t ht))
 exact ⟨h1,h2⟩
theorem Ah (h:HB P) (hr:HR P) (hl:l.WF) (h4:l.works.length<=4) {g less:Int} {w:Wlk} {m:Nat} (hb:d_ l g w) (hm:AtW S (w,m)) (h1:1<=less) (h2:less<=g) (h3:g<=200):ah sub P (n+9) "is_bar" [l.toD,.int less,.loc m] S=.ok (.bl true) S:=by
 have e1:=uL (sub:=sub) (n:=n) (S:=S) h hr.needs hl (by omega)
 have pre:S <+: S++[.lst ((aR l).map tupI)]:=Zl _ _
 have e2:=Hu (sub:=sub) (n:=n+5) h hr hl hb (k:=S.length) (S:=S++[.lst ((aR l).map tupI)]) (aG _ _) (hm.pre pre)
 have hwl:=hb.len
 have e3:=j9 (sub:=sub) (n:=n+6) hr.walks (g:=less) ⟨by omega,by omega⟩ (hm.pre pre) (fun t ht=>cE hl t (hb.walk.mem t ht)) (by omega)
 have hp:0 < wt (aH l) less w:=Int.lt_of_lt_of_le hb.pos (vv (by have:=jb hl hb.walk hb.closed; omega) h2)
 refine x_call (ds:=[l.toD,.int less,.loc m]) hr.isbar rfl (ak (aF (au (aa (r_v rfl) ai) e1)) (ak (fq (au (aa (r_v rfl) ai) (nq h hr h1 (by omega)))) (aE (cZ (au (aa (r_v rfl) (aa (r_v rfl) ai)) e2) (by
  have:=aW (sub:=sub) (cf:=ah sub P (n+8)) (o:=.gt) (σ:=[some l.toD,some (.int less),some (.loc m),some (.loc S.length)]) (au (aa (r_v (i:=0) rfl) (aa (r_v (i:=1) rfl) (aa (r_v (i:=2) rfl) ai))) e3) (r_c (d:=.int 0)) (fD _ _ _)
  rw [Zj hp] at this
  exact this))))) (fY _ _ _)
theorem kY (h:HB P) (hr:HR P) (hl:l.WF) (h4:l.works.length<=4) {g:Int} (h1:1<=g) (h2:g<=200) :
  (∃ w,ah sub P (n+10) "ring" [l.toD,.int g] S=.ok (.loc S.length) (S++[.lst (w.map tupI)])/\d_ l g w) \/
  (ah sub P (n+10) "ring" [l.toD,.int g] S=.ok .non S/\∀ j,0 < j->j<=l.works.length->fJ (aH l) g (aR l) j):=by
 have pre:∀ {R:Res D},ah sub P (n+9) "barring_ring" [l.toD,.int g] S=R->∀ {d S'},R=.ok d S'->∀ {R2},leave S d S'=R2->ah sub P (n+10) "ring" [l.toD,.int g] S=R2:=fun {R} e {d S'} e2 {R2} e3 =>
  x_call (ds:=[l.toD,.int g]) hr.ring rfl (ak (fq (au (aa (r_v rfl) ai) (g_ (n:=n+2) h hl))) (aE (au (aa (r_v rfl) (aa (au (aa (r_v rfl) ai) (nq (n:=n+7) h hr h1 h2)) ai)) (e.trans e2)))) e3
 rcases lP (sub:=sub) (n:=n) (S:=S) h hr.needs hr.barring hr.walks hl h4 (g:=g) ⟨by omega,by omega⟩ with ⟨w,e,hb⟩|⟨e,hf⟩
 ·exact .inl ⟨w,pre e rfl (jv (Zk _) (cF _ _) (aG _ _) (l9 _)),hb⟩
 ·exact .inr ⟨pre e rfl (bN rfl Z4),hf⟩
end
end RL

namespace RL
open PySem EV GO WK
noncomputable def qp:Fn:=⟨2,2,(.ret (.neg (.bin .fdiv (.neg (.v 0)) (.v 1))))⟩
noncomputable def tL:Fn:=⟨1,3,(.seq (.ex (.call "checked" (.cs (.v 0) .nl)))
 (.seq (.set (.one 1) (.c (.int 1)))
 (.seq (.set (.one 2) (.call "barring_ring" (.cs (.v 0) (.cs (.v 1) .nl))))
 (.seq (.whl (.notN (.v 2))
  (.seq (.set (.one 1) (.call "rounded_up" (.cs (.call "longs_of" (.cs (.v 0) (.cs (.v 2) .nl))) (.cs (.call "backs_of" (.cs (.v 2) .nl)) .nl))))
 (.set (.one 2) (.call "barring_ring" (.cs (.v 0) (.cs (.v 1) .nl))))))
 (.ret (.v 1))))))⟩
noncomputable def tK:Fn:=⟨2,2,(.ret (.bin .mul (.ix (.ix (.ix (.v 0) (.c (.int 1))) (.v 1)) (.c (.int 1))) (.bi .len (.cs (.comp 2 (.v 3) (.one 3) (.iSeq (.ix (.v 0) (.c (.int 2)))) (.cmp .eq (.ix (.v 3) (.c (.int 0))) (.v 1))) .nl))))⟩
noncomputable def uH:Fn:=⟨2,4,(.seq (.forS (.many [2,3]) (.iEnum (.ix (.v 0) (.c (.int 1))))
  (.ite (.cmp .gt (.call "crew_times" (.cs (.v 0) (.cs (.v 2) .nl))) (.bin .mul (.v 1) (.ix (.v 3) (.c (.int 0)))))
  (.ret (.v 2))
  .skip))
 (.ret (.c .non)))⟩
noncomputable def qC:Fn:=⟨2,2,(.seq (.ex (.call "checked" (.cs (.v 0) .nl)))
 (.ret (.call "barring_crew" (.cs (.v 0) (.cs (.call "checked_gap" (.cs (.v 1) .nl)) .nl)))))⟩
noncomputable def sF:Fn:=⟨1,1,(.seq (.ex (.call "checked" (.cs (.v 0) .nl)))
 (.ret (.bi .max (.cs (.comp 3 (.call "rounded_up" (.cs (.call "crew_times" (.cs (.v 0) (.cs (.v 2) .nl))) (.cs (.ix (.v 3) (.c (.int 0))) .nl))) (.many [2,3]) (.iEnum (.ix (.v 0) (.c (.int 1)))) .nl) .nl))))⟩
structure HC (P:Prg):Prop where
 up:Has P "rounded_up" qp
 ringgap:Has P "ring_gap" tL
 times:Has P "crew_times" tK
 barring:Has P "barring_crew" uH
 crowd:Has P "crowd" qC
 crewgap:Has P "crew_gap" sF
section
variable {c:Sg->M Bool} {f:Sg->M Fl} {n:Nat} {σ σ':Sg} {S S1 S2:af}
theorem n6 (hc:c σ S=.ok true S1) (hf:f σ S1=.ok (.nx σ') S2):bD c f (n+1) σ S=bD c f n σ' S2:=by
 show (c σ>>=fun k=>if k=true then f σ>>=fun fl=>match fl with|.nx σ'=>bD c f n σ'|.ct σ'=>bD c f n σ'|.bk σ'=>pure (.nx σ')|.rt d=>pure (.rt d) else pure (.nx σ)) S=_
 rw [aq,hc,Res.aj,Ze rfl,aq,hf,Res.aj]
theorem u9 (hc:c σ S=.ok false S1):bD c f (n+1) σ S=.ok (.nx σ) S1:=by
 show (c σ>>=fun k=>if k=true then f σ>>=fun fl=>match fl with|.nx σ'=>bD c f n σ'|.ct σ'=>bD c f n σ'|.bk σ'=>pure (.nx σ')|.rt d=>pure (.rt d) else pure (.nx σ)) S=_
 rw [aq,hc,Res.aj,Zf (by decide)]; rfl
end
noncomputable def ceil (a b:Int):Int:=-(-a / b)
theorem jc {a b:Int} (hb:0 < b):(ceil a b - 1) * b < a/\a<=ceil a b * b:=by
 unfold ceil
 have h1:=Int.emod_add_mul_ediv (-a) b
 have h2:=QO (-a) (Int.ne_of_gt hb)
 have h3:=Qo (-a) hb
 rw [Int.mul_comm] at h1
 generalize (-a) / b=q at h1
 rw [Int.sub_mul,Int.neg_mul,Int.one_mul]
 omega
section
variable {sub:Sub} {P:Prg} {n:Nat} {S T:af} {l:Lp}
theorem vj (hc:HC P) {a b:Int} (hb:0 < b/\b < 1000000):ah sub P (n+1) "rounded_up" [.int a,.int b] S=.ok (.int (ceil a b)) S :=
 x_call (ds:=[.int a,.int b]) hc.up rfl (aE (iY (bg (iY (r_v rfl)) (r_v rfl) (uB ⟨hb.1,by omega⟩)))) (gk _ _)
noncomputable def iL (l:Lp) (g:Int):Prop:=∀ j,0 < j->j<=l.works.length->fJ (aH l) g (aR l) j
noncomputable def iO (l:Lp) (g:Int):Prop:=∃ w,Walk (aR l) w/\w.length<=l.works.length/\ck w/\0 < wt (aH l) g w
theorem oS {g h:Int} (hl:l.WF) (hf:iL l g) (hg:g<=h):¬ iO l h:=fun ⟨w,h1,h2,h3,h4⟩=>by
 have h5:=hf w.length (by cases w with|nil=>exact absurd rfl h1.ne|cons t r=>rw [ZB]; omega) h2 w h1 rfl h3
 have h6:=vv (lg:=aH l) (w:=w) (by have:=jb hl h1 h3; omega) hg
 omega
theorem Ac (hl:l.WF) {w:Wlk} (hw:∀ t∈w,b8 l t):bG (aH l) w<=8 * (w.length:Int):=by
 have:=ly (c:=8) (xs:=w.map fun t=>aH l (nA t)) fun x hx=>by
  obtain ⟨t,ht,rfl⟩:=ZA.mp hx
  obtain ⟨_,h0,h1,_⟩:=jO (hw t ht)
  unfold aH
  rw [ZG,Zb h1]
  exact XO.mpr (hl.works _ _ (Zb h1)).long.2
 rw [Zd] at this
 exact this
theorem zN {w:Wlk} (hw:∀ t∈w,b8 l t):aV w<=3 * (w.length:Int):=by
 have:=ly (c:=3) (xs:=w.map nC) fun x hx=>by
  obtain ⟨t,ht,rfl⟩:=ZA.mp hx
  obtain ⟨_,_,_,_,_,_,h1,_⟩:=jO (hw t ht)
  exact h1
 rw [Zd] at this
 exact this
noncomputable def qg:EV.S:=.seq (.set (.one 1) (.call "rounded_up" (.cs (.call "longs_of" (.cs (.v 0) (.cs (.v 2) .nl))) (.cs (.call "backs_of" (.cs (.v 2) .nl)) .nl))))
 (.set (.one 2) (.call "barring_ring" (.cs (.v 0) (.cs (.v 1) .nl))))
theorem AY (hl:l.WF) (h4:l.works.length<=4) {g:Int} {w:Wlk} (hb:d_ l g w) (hg:1<=g):g < ceil (bG (aH l) w) (aV w)/\ceil (bG (aH l) w) (aV w)<=32/\0 < wt (aH l) (ceil (bG (aH l) w) (aV w) - 1) w:=by
 have h1:=jb hl hb.walk hb.closed
 obtain ⟨c1,c2⟩:=jc (a:=bG (aH l) w) (b:=aV w) (by omega)
 have h2:=Ac hl fun t ht=>cE hl t (hb.walk.mem t ht)
 have h3:=hb.len
 have h5:bG (aH l) w<=32:=by omega
 have hp:0 < bG (aH l) w - g * aV w:=hb.pos
 refine ⟨?_,?_,?_⟩
 ·refine Xv fun z=>?_
  have:ceil (bG (aH l) w) (aV w) * aV w<=g * aV w:=Xg (by omega) (by omega)
  omega
 ·refine Xv fun z=>?_
  have:32 * 1<=(ceil (bG (aH l) w) (aV w) - 1) * aV w:=Wl (by omega) h1 (by omega) (by omega)
  omega
 ·unfold wt; omega
theorem p9 (h:HB P) (hr:HR P) (hc:HC P) (hl:l.WF) (h4:l.works.length<=4):∀ (k N:Nat) (g:Int) (m:Nat) (w:Wlk) (T:af),1<=g->33 - g<=(k:Int)->k < N->d_ l g w->AtW T (w,m)->S <+: T ->
  ∃ g' T',bD (evT sub (ah sub P (n+9)) (.notN (.v 2))) (exec sub (ah sub P (n+9)) qg) (N+1) [some l.toD,some (.int g),some (.loc m)] T=.ok (.nx [some l.toD,some (.int g'),some .non]) T'/\S <+: T'/\g < g'/\g'<=32/\iL l g'/\iO l (g' - 1)
 | k,N,g,m,w,T,hg,hk,hN,hb,hm,hp=>by
  obtain ⟨n1,n2,n3⟩:=AY hl h4 hb hg
  have hn:=fun t ht=>cE hl t (hb.walk.mem t ht)
  have hwl:=hb.len
  have e1:=oW (sub:=sub) (n:=n+8) hr.walks hm hn (by omega)
  have e2:=pD (sub:=sub) (n:=n+8) hr.walks hm hn (by omega)
  have hbk:=jb hl hb.walk hb.closed
  have hbl:=zN hn
  have e3:=vj (sub:=sub) (n:=n+8) (S:=T) hc (a:=bG (aH l) w) (b:=aV w) ⟨by omega,by omega⟩
  generalize ceil (bG (aH l) w) (aV w)=g1 at *
  have s1:=aF (sub:=sub) (cf:=ah sub P (n+9)) (σ:=[some l.toD,some (.int g),some (.loc m)]) (i:=1) (S:=T) (au (aa (au (aa (r_v (i:=0) rfl) (aa (r_v (i:=2) rfl) ai)) e1) (aa (au (aa (r_v (i:=2) rfl) ai) e2) ai)) e3)
  have t1:evT sub (ah sub P (n+9)) (.notN (.v 2)) [some l.toD,some (.int g),some (.loc m)] T=.ok true T:=t_k (c5 (x:=.loc m) (r_v rfl)) rfl
  have sb:iO l (g1 - 1):=⟨w,hb.walk,hb.len,hb.closed,n3⟩
  rcases lP (sub:=sub) (n:=n) (S:=T) h hr.needs hr.barring hr.walks hl h4 (g:=g1) ⟨by omega,by omega⟩ with ⟨v,e4,hv⟩|⟨e4,hf⟩
  ·have s2:=aF (sub:=sub) (cf:=ah sub P (n+9)) (σ:=[some l.toD,some (.int g1),some (.loc m)]) (i:=2) (S:=T) (au (aa (r_v (i:=0) rfl) (aa (r_v (i:=1) rfl) ai)) e4)
   obtain ⟨k',rfl⟩:∃ k',k=k' + 1:=⟨k - 1,by omega⟩
   obtain ⟨N',rfl⟩:∃ N',N=N' + 1:=⟨N - 1,by omega⟩
   obtain ⟨g',T',e5,p5,b1,b2,b3,b4⟩:=p9 h hr hc hl h4 k' N' g1 T.length v (T++[Cell.lst (v.map tupI)]) (by omega) (by omega) (by omega) hv (show AtW (T++[Cell.lst (v.map tupI)]) (v,T.length) from aG _ _) (hp.trans (Zl _ _))
   exact ⟨g',T',(n6 t1 (ak s1 s2)).trans e5,p5,by omega,b2,b3,b4⟩
  ·have s2:=aF (sub:=sub) (cf:=ah sub P (n+9)) (σ:=[some l.toD,some (.int g1),some (.loc m)]) (i:=2) (S:=T) (au (aa (r_v (i:=0) rfl) (aa (r_v (i:=1) rfl) ai)) e4)
   obtain ⟨N',rfl⟩:∃ N',N=N' + 1:=⟨N - 1,by omega⟩
   refine ⟨g1,T,(n6 t1 (ak s1 s2)).trans (u9 (t_k (c5 (r_v rfl)) rfl)),hp,n1,n2,hf,sb⟩
theorem AJ (h:HB P) (hr:HR P) (hc:HC P) (hl:l.WF) (h4:l.works.length<=4) :
  ∃ g,ah sub P (n+10) "ring_gap" [l.toD] S=.ok (.int g) S/\1<=g/\g<=32/\iL l g/\(1 < g->iO l (g - 1)):=by
 have b1:=fq (sub:=sub) (cf:=ah sub P (n+9)) (σ:=[some l.toD,none,none]) (S:=S) (au (aa (r_v (i:=0) rfl) ai) (g_ (n:=n+2) h hl))
 rcases lP (sub:=sub) (n:=n) (S:=S) h hr.needs hr.barring hr.walks hl h4 (g:=1) ⟨by omega,by omega⟩ with ⟨v,e4,hv⟩|⟨e4,hf⟩
 ·have s2:=aF (sub:=sub) (cf:=ah sub P (n+9)) (σ:=[some l.toD,some (.int 1),none]) (i:=2) (S:=S) (au (aa (r_v (i:=0) rfl) (aa (r_v (i:=1) rfl) ai)) e4)
  obtain ⟨g',T',e5,p5,c1,c2,c3,c4⟩:=p9 (sub:=sub) (n:=n) (S:=S) h hr hc hl h4 100 999999 1 S.length v (S++[Cell.lst (v.map tupI)]) (by omega) (by omega) (by omega) hv (show AtW (S++[Cell.lst (v.map tupI)]) (v,S.length) from aG _ _) (Zl _ _)
  refine ⟨g',x_call (ds:=[l.toD]) hc.ringgap rfl (ak b1 (ak (aF r_c) (ak s2 (ak (eu e5) (aE (r_v rfl)))))) (bN rfl ?_),by omega,c2,c3,fun _=>c4⟩
  obtain ⟨G,rfl⟩:=p5
  exact cF _ _
 ·have s2:=aF (sub:=sub) (cf:=ah sub P (n+9)) (σ:=[some l.toD,some (.int 1),none]) (i:=2) (S:=S) (au (aa (r_v (i:=0) rfl) (aa (r_v (i:=1) rfl) ai)) e4)
  have e5:bD (evT sub (ah sub P (n+9)) (.notN (.v 2))) (exec sub (ah sub P (n+9)) qg) (999999+1) [some l.toD,some (.int 1),some .non] S=.ok (.nx [some l.toD,some (.int 1),some .non]) S:=u9 (t_k (c5 (r_v rfl)) rfl)
  exact ⟨1,x_call (ds:=[l.toD]) hc.ringgap rfl (ak b1 (ak (aF r_c) (ak s2 (ak (eu e5) (aE (r_v rfl)))))) (bN rfl Z4),by omega,by omega,hf,fun z=>by omega⟩
theorem Dh (h:HB P) (hr:HR P) (hl:l.WF) (h4:l.works.length<=4) {g:Int} (h1:1<=g) (h2:g<=200) (hs:iO l g):∃ w,ah sub P (n+10) "ring" [l.toD,.int g] S=.ok (.loc S.length) (S++[.lst (w.map tupI)])/\d_ l g w:=by
 rcases kY (sub:=sub) (n:=n) (S:=S) h hr hl h4 h1 h2 with e|⟨_,hf⟩
 ·exact e
 ·exact absurd hs (oS hl hf (QM _))
theorem E4 (h:HB P) (hr:HR P) (hl:l.WF) (h4:l.works.length<=4) {g g0:Int} (h1:1<=g) (h2:g<=200) (hf:iL l g0) (hg:g0<=g):ah sub P (n+10) "ring" [l.toD,.int g] S=.ok .non S:=by
 rcases kY (sub:=sub) (n:=n) (S:=S) h hr hl h4 h1 h2 with ⟨w,_,hb⟩|⟨e,_⟩
 ·exact absurd ⟨w,hb.walk,hb.len,hb.closed,hb.pos⟩ (oS hl hf hg)
 ·exact e
end
end RL

namespace RL
open PySem EV GO WK
noncomputable def fR (l:Lp) (k:Nat):Nat:=(l.works.filter fun w=>w.crew==k).length
noncomputable def cP (l:Lp) (k:Nat) (c:Nat × Nat):Int:=(c.2:Int) * (fR l k:Int)
noncomputable def bW (l:Lp) (g:Int) (k:Nat) (c:Nat × Nat):Bool:=decide (g * (c.1:Int) < cP l k c)
noncomputable def aZ (l:Lp) (g:Int):Nat->List (Nat × Nat)->Option Nat
 | _,[]=>none
 | k,c::r=>if bW l g k c then some k else aZ l g (k+1) r
noncomputable def crD:Option Nat->D
 | some k=>.int (k:Int)
 | none=>.non
theorem qV {l:Lp} {g:Int}:∀ {cs:List (Nat × Nat)} {k:Nat},(∀ (i:Nat) c,cs[i]?=some c->bW l g (k+i) c=false)->aZ l g k cs=none
 | [],_,_=>rfl
 | d::r,k,h=>by
  unfold aZ
  rw [show bW l g k d=false from h 0 d rfl]
  exact qV fun i c e=>by rw [show k+1+i=k+(i+1) by omega]; exact h (i+1) c (by simpa using e)
theorem vm {l:Lp} {g:Int}:∀ {cs:List (Nat × Nat)} {k j:Nat},aZ l g k cs=some j->∃ i c,j=k+i/\cs[i]?=some c/\bW l g j c=true
 | [],_,_,e=>by cases e
 | d::r,k,j,e=>by
  unfold aZ at e
  cases q:bW l g k d with
  | true=>rw [q] at e; cases e; exact ⟨0,d,rfl,rfl,q⟩
  | false =>
   rw [q] at e
   obtain ⟨i,c,h1,h2,h3⟩:=vm (k:=k+1) e
   exact ⟨i+1,c,by omega,by simpa using h2,h3⟩
theorem lW {l:Lp} {g:Int}:∀ {cs:List (Nat × Nat)} {k i:Nat} {c:Nat × Nat},cs[i]?=some c->bW l g (k+i) c=true->∃ j,aZ l g k cs=some j/\j<=k+i
 | [],_,_,_,h,_=>by simp at h
 | d::r,k,i,c,h,e=>by
  unfold aZ
  cases q:bW l g k d with
  | true=>exact ⟨k,rfl,by omega⟩
  | false =>
   cases i with
   | zero=>simp at h; subst h; rw [Nat.add_zero,q] at e; cases e
   | succ i =>
    obtain ⟨j,h1,h2⟩:=lW (k:=k+1) (i:=i) (c:=c) (by simpa using h) (by rw [show k+1+i=k+(i+1) by omega]; exact e)
    exact ⟨j,h1,by omega⟩
theorem Cb {l:Lp} {g h:Int} {k:Nat} {c:Nat × Nat} (e:bW l g k c=true) (hg:h<=g):bW l h k c=true:=by
 have:=Zo e
 refine Zj ?_
 have:h * (c.1:Int)<=g * (c.1:Int):=Xg hg (by omega)
 omega
section
variable {sub:Sub} {P:Prg} {n:Nat} {S T:af} {l:Lp}
theorem sr (hc:HC P) (hl:l.WF) {k:Nat} {c:Nat × Nat} (hk:l.crews[k]?=some c):ah sub P (n+1) "crew_times" [l.toD,.int (k:Int)] S=.ok (.int (cP l k c)) S:=by
 have h8:=hl.nworks.2
 have hm:=hl.crews c (Zy hk)
 have e:ev sub (ah sub P n) (.comp 2 (.v 3) (.one 3) (.iSeq (.ix (.v 0) (.c (.int 2)))) (.cmp .eq (.ix (.v 3) (.c (.int 0))) (.v 1))) [some l.toD,some (.int (k:Int))] S=.ok (.loc S.length) (S++[.lst (l.works.filterMap fun w=>if w.crew==k then some w.toD else none)]) :=
  u6 (ks:=l.works) (f:=Wk.toD) (g:=fun w=>if w.crew==k then some w.toD else none) (o:=none) (raw:=l.works.map Wk.toD) rfl (cy (az (r_v rfl) r_c (aB rfl)) rfl) rfl (fun w hw=>by
   have:=aX (sub:=sub) (cf:=ah sub P n) (aW (o:=.eq) (σ:=[some l.toD,some (.int (k:Int)),none,some w.toD]) (S:=S) (az (r_v (i:=3) rfl) (r_c (d:=.int 0)) (aB (d:=.int (w.crew:Int)) rfl)) (r_v (i:=1) rfl) (eF _ _ _))
   refine Eq.trans this ?_
   by_cases z:w.crew=k
   ·rw [z,Z7,Z7]; rfl
   ·rw [Z9.mpr (show ((w.crew:Nat):Int)≠(k:Int) by omega),Z9.mpr z]; rfl) (fun w hw d hd=>by
   by_cases z:(w.crew==k)=true
   ·rw [Ze z] at hd; cases hd; exact r_v rfl
   ·rw [Zf z] at hd; cases hd) (by unfold aI; omega)
 have e2:(l.works.filterMap fun w=>if (w.crew==k)=true then some w.toD else none).length=fR l k:=by
  unfold fR
  generalize l.works=ws
  induction ws with
  | nil=>rfl
  | cons w r ih =>
   by_cases z:(w.crew==k)=true
   ·rw [List.filterMap_cons_some (b:=w.toD) (by rw [Ze z]),List.filter_cons_of_pos (p:=fun w:Wk=>w.crew==k) z,ZB,ZB,ih]
   ·rw [List.filterMap_cons_none (by rw [Zf z]),List.filter_cons_of_neg (p:=fun w:Wk=>w.crew==k) z,ih]
 have e3:=uY (sub:=sub) (T:=S) (xs:=l.works.filterMap fun w=>if w.crew==k then some w.toD else none)
 rw [e2] at e3
 exact x_call (ds:=[l.toD,.int (k:Int)]) hc.times rfl (aE (bg (az (az (az (r_v rfl) r_c (aB rfl)) (r_v rfl) (aB (GF hk))) r_c (aB rfl)) (aN (aa e ai) e3) (jd (by omega)))) (gf _ _ _)
noncomputable def lJ:EV.S:=.ite (.cmp .gt (.call "crew_times" (.cs (.v 0) (.cs (.v 2) .nl))) (.bin .mul (.v 1) (.ix (.v 3) (.c (.int 0)))))
  (.ret (.v 2))
  .skip
theorem tT (hc:HC P) (hl:l.WF) {g:Int} (hg:0<=g/\g<=1000) {s:Src} (hs:aD s S=.ok () S):∀ (cs:List (Nat × Nat)) (k:Nat) (x2 x3:Option D),(∀ (i:Nat) c,cs[i]?=some c->l.crews[k+i]?=some c) ->
  (∃ j,aZ l g k cs=some j/\forL s (bq sub (ah sub P (n+1)) (.many [2,3]) lJ) (num k (cs.map aP)) [some l.toD,some (.int g),x2,x3] S=.ok (.rt (.int (j:Int))) S) \/
  (aZ l g k cs=none/\∃ σ',forL s (bq sub (ah sub P (n+1)) (.many [2,3]) lJ) (num k (cs.map aP)) [some l.toD,some (.int g),x2,x3] S=.ok (.nx σ') S)
 | [],k,x2,x3,_=>.inr ⟨rfl,_,kC hs⟩
 | c::r,k,x2,x3,h=>by
  have hk:l.crews[k]?=some c:=h 0 c rfl
  have e1:=sr (sub:=sub) (n:=n) (S:=S) hc hl hk
  have t1:evT sub (ah sub P (n+1)) (.cmp .gt (.call "crew_times" (.cs (.v 0) (.cs (.v 2) .nl))) (.bin .mul (.v 1) (.ix (.v 3) (.c (.int 0))))) [some l.toD,some (.int g),some (.int (k:Int)),some (aP c)] S=.ok (bW l g k c) S :=
   aX (aW (au (aa (r_v rfl) (aa (r_v rfl) ai)) e1) (bg (r_v rfl) (az (r_v rfl) r_c (aB rfl)) (jd (by omega))) (fD _ _ _))
  show (∃ j,(if bW l g k c then some k else aZ l g (k+1) r)=some j/\forL s _ (.tup [.int (k:Int),aP c]::num (k+1) (r.map aP)) _ S=_)\/((if bW l g k c then some k else aZ l g (k+1) r)=none/\∃ σ',forL s _ (.tup [.int (k:Int),aP c]::num (k+1) (r.map aP)) _ S=_)
  cases q:bW l g k c with
  | true =>
   rw [q] at t1
   exact .inl ⟨k,rfl,mU hs (nv rfl (cM t1 (aE (r_v rfl))))⟩
  | false =>
   rw [q] at t1
   have go:=nv (sub:=sub) (cf:=ah sub P (n+1)) (is:=[2,3]) (u:=lJ) (ds:=[.int (k:Int),aP c]) (σ:=[some l.toD,some (.int g),x2,x3]) (S:=S) rfl (aK t1 aL)
   rcases tT hc hl hg hs r (k+1) (some (.int (k:Int))) (some (aP c)) (fun i d hd=>by rw [show k+1+i=k+(i+1) by omega]; exact h (i+1) d (by simpa using hd)) with ⟨j,h1,h2⟩|⟨h1,σ',h2⟩
   ·exact .inl ⟨j,h1,fQ hs go h2⟩
   ·exact .inr ⟨h1,σ',fQ hs go h2⟩
theorem jF (h:HB P) (hr:HR P) (hc:HC P) (hl:l.WF) {g:Int} (h1:1<=g) (h2:g<=200):ah sub P (n+8) "crowd" [l.toD,.int g] S=.ok (crD (aZ l g 0 l.crews)) S:=by
 have hit:evI sub (ah sub P (n+6)) (.iEnum (.ix (.v 0) (.c (.int 1)))) [some l.toD,some (.int g),none,none] S=.ok ⟨num 0 (l.crews.map aP),none,l.crews.map aP⟩ S:=by
  rw [vh,az (r_v rfl) r_c (aB rfl),Res.aj]; rfl
 have bc:ah sub P (n+7) "barring_crew" [l.toD,.int g] S=.ok (crD (aZ l g 0 l.crews)) S:=by
  rcases tT (sub:=sub) (n:=n+5) (S:=S) hc hl (g:=g) ⟨by omega,by omega⟩ (s:=⟨num 0 (l.crews.map aP),none,l.crews.map aP⟩) rfl l.crews 0 none none (fun i c e=>by rw [Xq]; exact e) with ⟨j,e1,e2⟩|⟨e1,σ',e2⟩
  ·rw [e1]
   exact x_call (ds:=[l.toD,.int g]) hc.barring rfl (dm (dQ hit e2)) (gk _ _)
  ·rw [e1]
   exact x_call (ds:=[l.toD,.int g]) hc.barring rfl (ak (dQ hit e2) (aE r_c)) (bN rfl Z4)
 refine x_call (ds:=[l.toD,.int g]) hc.crowd rfl (ak (fq (au (aa (r_v rfl) ai) (g_ (n:=n) h hl))) (aE (au (aa (r_v rfl) (aa (au (aa (r_v rfl) ai) (nq (n:=n+5) h hr h1 h2)) ai)) bc))) ?_
 cases aZ l g 0 l.crews with
 | none=>exact bN rfl Z4
 | some k=>exact gk _ _
noncomputable def gC (l:Lp):D->D
 | .tup [.int k,.tup [.int m,.int b]]=>.int (ceil (b * (fR l k.toNat:Int)) m)
 | d=>d
theorem vC:∀ (r:List Int) (v:Int),(v<=r.foldl max v/\∀ x∈r,x<=r.foldl max v)/\(r.foldl max v=v\/r.foldl max v∈r)
 | [],v=>⟨⟨QM _,fun _ h=>by cases h⟩,.inl rfl⟩
 | y::r,v=>by
  obtain ⟨⟨h1,h2⟩,h3⟩:=vC r (max v y)
  have a:v<=max v y:=by omega
  have b:y<=max v y:=by omega
  refine ⟨⟨Int.le_trans a h1,fun x hx=>?_⟩,?_⟩
  ·rcases Zt.mp hx with rfl|hx
   ·exact Int.le_trans b h1
   ·exact h2 x hx
  ·show r.foldl max (max v y)=v\/r.foldl max (max v y)∈y::r
   rcases h3 with h3|h3
   ·rw [h3]
    by_cases z:v<=y
    ·exact .inr (by rw [show max v y=y by omega]; exact Zn)
    ·exact .inl (by omega)
   ·exact .inr (Zm _ h3)
noncomputable def cG (l:Lp) (k:Nat) (c:Nat × Nat):Int:=ceil (cP l k c) (c.1:Int)
theorem rR (l:Lp):∀ (cs:List (Nat × Nat)) (k:Nat),(num k (cs.map aP)).map (gC l)=(cs.zipIdx k).map fun p=>.int (cG l p.2 p.1)
 | [],_=>rfl
 | c::r,k=>by
  show gC l (.tup [.int (k:Int),aP c])::(num (k+1) (r.map aP)).map (gC l)=_
  rw [rR l r (k+1)]; rfl
theorem AD (h:HB P) (hc:HC P) (hl:l.WF):∃ g,ah sub P (n+8) "crew_gap" [l.toD] S=.ok (.int g) S/\(∀ (k:Nat) c,l.crews[k]?=some c->cG l k c<=g)/\∃ k c,l.crews[k]?=some c/\g=cG l k c:=by
 have h3:=hl.ncrews
 have hit:evI sub (ah sub P (n+7)) (.iEnum (.ix (.v 0) (.c (.int 1)))) [some l.toD] S=.ok ⟨num 0 (l.crews.map aP),none,l.crews.map aP⟩ S:=by
  rw [vh,az (r_v rfl) r_c (aB rfl),Res.aj]; rfl
 have e1:=uw (sub:=sub) (cf:=ah sub P (n+7)) (k:=3) (el:=.call "rounded_up" (.cs (.call "crew_times" (.cs (.v 0) (.cs (.v 2) .nl))) (.cs (.ix (.v 3) (.c (.int 0))) .nl))) (is:=[2,3]) (it:=.iEnum (.ix (.v 0) (.c (.int 1)))) (σ:=[some l.toD]) (g:=gC l) hit rfl (fun d hd=>by
  obtain ⟨i,hi⟩:=ZL hd
  obtain ⟨hi1,hi2⟩:=Zh.mp hi
  have hi3:i < l.crews.length:=by rw [f6,Zd] at hi1; exact hi1
  have hck:l.crews[i]?=some l.crews[i]:=Zb hi3
  have hd2:d=.tup [.int (i:Int),aP l.crews[i]]:=by
   rw [<- hi2]
   show (num 0 (l.crews.map aP))[i]=_
   rw [nI]; simp
  subst hd2
  have hm:=hl.crews _ (Xp hi3)
  refine ⟨_,rfl,rfl,au (aa (au (aa (r_v rfl) (aa (r_v rfl) ai)) (sr (n:=n+6) hc hl hck)) (aa (az (r_v rfl) r_c (aB rfl)) ai)) ?_⟩
  exact vj (n:=n+6) hc ⟨by omega,by omega⟩) (by rw [f6,Zd]; unfold aI; omega)
 have e1:ev sub (ah sub P (n+7)) (.comp 3 (.call "rounded_up" (.cs (.call "crew_times" (.cs (.v 0) (.cs (.v 2) .nl))) (.cs (.ix (.v 3) (.c (.int 0))) .nl))) (.many [2,3]) (.iEnum (.ix (.v 0) (.c (.int 1)))) .nl) [some l.toD] S=.ok (.loc S.length) (S++[.lst ((num 0 (l.crews.map aP)).map (gC l))]):=e1
 rw [rR] at e1
 obtain ⟨v,r,hvr⟩:∃ v r,(l.crews.zipIdx 0).map (fun p=>cG l p.2 p.1)=v::r:=QI (by
  intro z
  have:=Xm List.length z
  rw [Zd,List.length_zipIdx] at this
  simp at this
  rw [this] at h3
  simp at h3)
 have e2:((l.crews.zipIdx 0).map fun p=>D.int (cG l p.2 p.1))=(v::r).map D.int:=by rw [<- hvr,Z2]; rfl
 rw [e2] at e1
 have e3:biD sub .max [.loc S.length] (S++[.lst ((v::r).map .int)])=.ok (.int (r.foldl max v)) (S++[.lst ((v::r).map .int)]):=by
  rw [yL,cR (aG _ _),Res.aj,allI,cD,Res.aj]; rfl
 obtain ⟨⟨m1,m2⟩,m3⟩:=vC r v
 refine ⟨r.foldl max v,x_call (ds:=[l.toD]) hc.crewgap rfl (ak (fq (au (aa (r_v rfl) ai) (g_ (n:=n) h hl))) (aE (aN (aa e1 ai) e3))) (gf _ _ _),fun k c hk=>?_,?_⟩
 ·have hm:cG l k c∈v::r:=by
   rw [<- hvr]
   exact ZA.mpr ⟨(c,k),List.mem_zipIdx_iff_getElem?.mpr hk,rfl⟩
  rcases Zt.mp hm with z|z
  ·rw [z]; exact m1
  ·exact m2 _ z
 ·have hm:r.foldl max v∈v::r:=by
   rcases m3 with z|z
   ·rw [z]; exact Zn
   ·exact Zm _ z
  rw [<- hvr] at hm
  obtain ⟨p,hp,e⟩:=ZA.mp hm
  exact ⟨p.2,p.1,List.mem_zipIdx_iff_getElem?.mp hp,e.symm⟩
theorem qE {g:Int} {k:Nat} {c:Nat × Nat} (hc:1<=c.1):bW l g k c=decide (g < cG l k c):=by
 obtain ⟨c1,c2⟩:=jc (a:=cP l k c) (b:=(c.1:Int)) (by omega)
 unfold bW cG
 have hpos:(0:Int) < (c.1:Int):=by omega
 generalize cP l k c=a at *
 generalize ceil a (c.1:Int)=q at *
 by_cases h:g < q
 ·rw [Zj h]
  refine Zj ?_
  have:g * (c.1:Int)<=(q - 1) * (c.1:Int):=Xg (by omega) (by omega)
  omega
 ·rw [Zz h]
  refine Zz ?_
  have:q * (c.1:Int)<=g * (c.1:Int):=Xg (by omega) (by omega)
  omega
theorem Cf (hl:l.WF) {k:Nat} {c:Nat × Nat} (hk:l.crews[k]?=some c):cG l k c<=32:=by
 have hm:=hl.crews c (Zy hk)
 have h8:=hl.nworks.2
 obtain ⟨c1,_⟩:=jc (a:=cP l k c) (b:=(c.1:Int)) (by omega)
 have hh:fR l k<=8:=ZY (X5 _ _) h8
 have ha:cP l k c<=4 * 8:=Wl (by omega) (by omega) (by omega) (by omega)
 unfold cG
 refine Xv fun z=>?_
 have:32 * 1<=(ceil (cP l k c) (c.1:Int) - 1) * (c.1:Int):=Wl (by omega) (by omega) (by omega) (by omega)
 omega
end
end RL

namespace K30
open PySem EV RL GO WK
noncomputable def qS:Fn:=⟨1,9,(.seq (.set (.one 1) (.call "_law_loop" (.cs (.v 0) (.cs (.c (.int 2)) (.cs (.c (.int 4)) .nl)))))
 (.seq (.set (.one 2) (.bin .add (.c (.int 1)) (.call "_law_mixed" (.cs (.v 0) (.cs (.c (.int 0)) (.cs (.c (.int 12)) .nl))))))
 (.seq (.set (.one 3) (.call "ring" (.cs (.v 1) (.cs (.v 2) .nl))))
 (.seq (.set (.one 4) (.call "crowd" (.cs (.v 1) (.cs (.v 2) .nl))))
 (.seq (.forS (.one 5) (.iRng (.cs (.c (.int 1)) (.cs (.bin .add (.v 2) (.c (.int 1))) .nl)))
  (.seq (.ite (.and (.notN (.v 3)) (.not (.call "is_bar" (.cs (.v 1) (.cs (.v 5) (.cs (.v 3) .nl))))))
  (.ret (.c (.bl false)))
  .skip)
 (.ite (.and (.notN (.v 4)) (.or (.isN (.call "crowd" (.cs (.v 1) (.cs (.v 5) .nl)))) (.cmp .gt (.call "crowd" (.cs (.v 1) (.cs (.v 5) .nl))) (.v 4))))
  (.ret (.c (.bl false)))
  .skip)))
 (.seq (.set (.one 6) (.call "ring_gap" (.cs (.v 1) .nl)))
 (.seq (.set (.one 7) (.call "crew_gap" (.cs (.v 1) .nl)))
 (.seq (.ite (.or (.and (.cmp .gt (.v 6) (.c (.int 1))) (.isN (.call "ring" (.cs (.v 1) (.cs (.bin .sub (.v 6) (.c (.int 1))) .nl))))) (.and (.cmp .gt (.v 7) (.c (.int 1))) (.isN (.call "crowd" (.cs (.v 1) (.cs (.bin .sub (.v 7) (.c (.int 1))) .nl))))))
  (.ret (.c (.bl false)))
  .skip)
 (.seq (.forS (.one 8) (.iRng (.cs (.c (.int 40)) .nl))
  (.ite (.or (.notN (.call "ring" (.cs (.v 1) (.cs (.bin .add (.v 6) (.v 8)) .nl)))) (.notN (.call "crowd" (.cs (.v 1) (.cs (.bin .add (.v 7) (.v 8)) .nl)))))
  (.ret (.c (.bl false)))
  .skip))
 (.ret (.c (.bl true))))))))))))⟩
noncomputable def Pd:Prg:=[(("is_whole" : Str),mT),(("is_value" : Str),t7),(("is_row" : Str),jM),(("is_crew" : Str),nU),(("are_crews" : Str),uS),(("is_work_source" : Str),p7),(("is_source" : Str),qH),(("are_starts" : Str),pH),(("is_work" : Str),rG),(("are_works" : Str),ou),(("are_outs" : Str),pP),(("is_loop" : Str),qN),(("checked" : Str),rQ),(("needs" : Str),jE),(("checked_gap" : Str),tS),(("longs_of" : Str),sP),(("backs_of" : Str),vK),(("surplus" : Str),vR),(("longest_walks" : Str),rM),(("lengthened" : Str),jm),(("barring_ring" : Str),nD),(("ring" : Str),qP),(("crew_times" : Str),tK),(("barring_crew" : Str),uH),(("crowd" : Str),qC),(("is_need" : Str),sy),(("is_ring" : Str),oK),(("is_bar" : Str),oU),(("rounded_up" : Str),qp),(("ring_gap" : Str),tL),(("crew_gap" : Str),sF),(("_law_cell_at" : Str),uO),(("_law_mixed" : Str),vG),(("_law_source" : Str),qi),(("_law_work" : Str),u_),(("_law_loop" : Str),uo),(("law" : Str),qS)]
theorem hB:HB Pd:=⟨rfl,rfl,rfl,rfl,rfl,rfl,rfl,rfl,rfl,rfl,rfl,rfl,rfl⟩
theorem hG:HG Pd:=⟨rfl,rfl,rfl,rfl,rfl⟩
theorem hW:HW Pd:=⟨rfl,rfl,rfl,rfl,rfl⟩
theorem hR:HR Pd:=⟨rfl,rfl,rfl,rfl,rfl,rfl,rfl,hW⟩
theorem hC:HC Pd:=⟨rfl,rfl,rfl,rfl,rfl,rfl⟩
variable {sub:Sub} {n:Nat}
noncomputable def sV (l:Lp) (g:Int) (d:D) (T:af):Prop:=d=.non\/∃ m w,d=.loc m/\AtW T (w,m)/\d_ l g w
noncomputable def dI:EV.S:=.seq (.ite (.and (.notN (.v 3)) (.not (.call "is_bar" (.cs (.v 1) (.cs (.v 5) (.cs (.v 3) .nl))))))
  (.ret (.c (.bl false)))
  .skip)
 (.ite (.and (.notN (.v 4)) (.or (.isN (.call "crowd" (.cs (.v 1) (.cs (.v 5) .nl)))) (.cmp .gt (.call "crowd" (.cs (.v 1) (.cs (.v 5) .nl))) (.v 4))))
  (.ret (.c (.bl false)))
  .skip)
theorem gU {cf:Str->List D->M D} {σ:Sg} {a:E} {x:D} {S S1:af} (h:ev sub cf a σ S=.ok x S1):evT sub cf (.isN a) σ S=.ok (decide (x=.non)) S1:=by rw [BF,h]; rfl
theorem rY {a:Nat} (ha:a<=100):b_ [.int 1,.int ((a:Int)+1)]=some ((List.range a).map fun (k:Nat)=>((k+1:Nat):Int)):=by
 have e1:near ((a:Int)+1)=true:=Zj ⟨by omega,by omega⟩
 have e2:near 1=true:=Zj ⟨by decide,by decide⟩
 have e0:b_ [.int 1,.int ((a:Int)+1)]=if (near 1&&near ((a:Int)+1))=true then some (rng 1 ((a:Int)+1) 1) else none:=id rfl
 rw [e0,e1,e2,Ze (Bool.and_self true)]
 have e3:(((a:Int)+1 - 1+1 - 1) / 1).toNat=a:=by rw [Qy]; omega
 have e4:rng 1 ((a:Int)+1) 1=(List.range (((a:Int)+1 - 1+1 - 1) / 1).toNat).map fun (k:Nat)=>(1:Int)+(k:Int) * 1:=by
  unfold rng
  exact Ze (by decide)
 rw [e4,e3]
 exact Xm some (Wh fun k _=>by rw [Int.mul_one]; omega)
theorem iQ {l:Lp} (hl:l.WF) (h4:l.works.length<=4) {A0 rd:D} {g:Nat} {T:af} (hg:1<=g/\g<=12) (hrd:sV l (g:Int) rd T) :
  ∃ x5,exec sub (ah sub Pd (n+10)) (.forS (.one 5) (.iRng (.cs (.c (.int 1)) (.cs (.bin .add (.v 2) (.c (.int 1))) .nl))) dI)
   [some A0,some l.toD,some (.int (g:Int)),some rd,some (crD (aZ l (g:Int) 0 l.crews)),none,none,none,none] T=.ok (.nx [some A0,some l.toD,some (.int (g:Int)),some rd,some (crD (aZ l (g:Int) 0 l.crews)),x5,none,none,none]) T:=by
 obtain ⟨σ',T',e,x5,rfl,rfl⟩:=i6 (sub:=sub) (cf:=ah sub Pd (n+10)) (t:=.one 5) (it:=.iRng (.cs (.c (.int 1)) (.cs (.bin .add (.v 2) (.c (.int 1))) .nl))) (b:=dI)
  (σ:=[some A0,some l.toD,some (.int (g:Int)),some rd,some (crD (aZ l (g:Int) 0 l.crews)),none,none,none,none]) (S:=T) (S1:=T) (s:=⟨((List.range g).map fun (k:Nat)=>((k+1:Nat):Int)).map .int,none,[]⟩)
  (fun i σ U=>∃ x5,σ=[some A0,some l.toD,some (.int (g:Int)),some rd,some (crD (aZ l (g:Int) 0 l.crews)),x5,none,none,none]/\U=T)
  (n9 (aa r_c (aa (bg (r_v rfl) r_c (fh _ _ _)) ai)) (rY (by omega))) ⟨none,rfl,rfl⟩ (fun _ _ _ _=>rfl) (fun i hi σ U ⟨x5,hσ,hU⟩=>by
   subst hσ; subst hU
   have hi':i < g:=by simpa using hi
   have hit:(((List.range g).map fun (k:Nat)=>((k+1:Nat):Int)).map D.int)[i]'hi=.int ((i+1:Nat):Int):=by simp
   show ∃ σ' T',bq sub (ah sub Pd (n+10)) _ _ ((((List.range g).map fun (k:Nat)=>((k+1:Nat):Int)).map D.int)[i]'hi) _ _=_/\_
   rw [hit]
   have t1:evT sub (ah sub Pd (n+10)) (.and (.notN (.v 3)) (.not (.call "is_bar" (.cs (.v 1) (.cs (.v 5) (.cs (.v 3) .nl)))))) [some A0,some l.toD,some (.int (g:Int)),some rd,some (crD (aZ l (g:Int) 0 l.crews)),some (.int ((i+1:Nat):Int)),none,none,none] U=.ok false U:=by
    rcases hrd with rfl|⟨m,w,rfl,hm,hb⟩
    ·exact fG (t_k (c5 (x:=.non) (r_v rfl)) rfl)
    ·exact dz (t_k (c5 (x:=.loc m) (r_v rfl)) rfl) (bf (k:=true) (bH (au (aa (r_v rfl) (aa (r_v rfl) (aa (r_v rfl) ai))) (Ah (n:=n+1) hB hR hl h4 hb hm (by omega) (by omega) (by omega)))))
   have e2:=jF (sub:=sub) (n:=n+2) (S:=U) hB hR hC hl (g:=((i+1:Nat):Int)) (by omega) (by omega)
   have t2:evT sub (ah sub Pd (n+10)) (.and (.notN (.v 4)) (.or (.isN (.call "crowd" (.cs (.v 1) (.cs (.v 5) .nl)))) (.cmp .gt (.call "crowd" (.cs (.v 1) (.cs (.v 5) .nl))) (.v 4)))) [some A0,some l.toD,some (.int (g:Int)),some rd,some (crD (aZ l (g:Int) 0 l.crews)),some (.int ((i+1:Nat):Int)),none,none,none] U=.ok false U:=by
    cases q:aZ l (g:Int) 0 l.crews with
    | none=>exact fG (t_k (c5 (x:=.non) (r_v rfl)) rfl)
    | some j =>
     obtain ⟨i0,c,hj,hc,ho⟩:=vm q
     obtain ⟨j2,h1,h2⟩:=lW (l:=l) (g:=((i+1:Nat):Int)) (k:=0) hc (by rw [<- hj]; exact Cb ho (by omega))
     rw [h1] at e2
     have ec:=au (sub:=sub) (cf:=ah sub Pd (n+10)) (σ:=[some A0,some l.toD,some (.int (g:Int)),some rd,some (crD (some j)),some (.int ((i+1:Nat):Int)),none,none,none]) (aa (r_v (i:=1) rfl) (aa (r_v (i:=5) rfl) ai)) e2
     refine dz (t_k (c5 (x:=.int (j:Int)) (r_v rfl)) rfl) (b6 (t_k (gU ec) rfl) ?_)
     have:=aX (aW (o:=.gt) (y:=.int (j:Int)) ec (r_v (i:=4) rfl) (fD _ _ _))
     rw [Zz (by omega)] at this
     exact this
   exact ⟨_,_,d7 (ak (aK t1 aL) (aK t2 aL)),some (.int ((i+1:Nat):Int)),rfl,rfl⟩)
 exact ⟨x5,e⟩
noncomputable def oZ:EV.S:=.ite (.or (.notN (.call "ring" (.cs (.v 1) (.cs (.bin .add (.v 6) (.v 8)) .nl)))) (.notN (.call "crowd" (.cs (.v 1) (.cs (.bin .add (.v 7) (.v 8)) .nl)))))
  (.ret (.c (.bl false)))
  .skip
theorem gr {l:Lp} (hl:l.WF) (h4:l.works.length<=4) {x0 x2 x3 x4 x5:Option D} {a b:Int} {T:af} (ha:1<=a/\a<=32) (hb:b<=32/\1<=b) (hf:iL l a) (hcap:∀ (k:Nat) c,l.crews[k]?=some c->cG l k c<=b) :
  ∃ σ',exec sub (ah sub Pd (n+10)) (.forS (.one 8) (.iRng (.cs (.c (.int 40)) .nl)) oZ) [x0,some l.toD,x2,x3,x4,x5,some (.int a),some (.int b),none] T=.ok (.nx σ') T:=by
 obtain ⟨σ',T',e,x8,rfl,rfl⟩:=i6 (sub:=sub) (cf:=ah sub Pd (n+10)) (t:=.one 8) (it:=.iRng (.cs (.c (.int 40)) .nl)) (b:=oZ)
  (σ:=[x0,some l.toD,x2,x3,x4,x5,some (.int a),some (.int b),none]) (S:=T) (S1:=T) (s:=⟨(List.range 40).map fun (i:Nat)=>.int (i:Int),none,[]⟩)
  (fun i σ U=>∃ x8,σ=[x0,some l.toD,x2,x3,x4,x5,some (.int a),some (.int b),x8]/\U=T)
  (gA (aa r_c ai) rfl (by decide) (fun _=>rfl)) ⟨none,rfl,rfl⟩ (fun _ _ _ _=>rfl) (fun i hi σ U ⟨x8,hσ,hU⟩=>by
   subst hσ; subst hU
   have hi':i < 40:=by simpa using hi
   have hit:((List.range 40).map fun (i:Nat)=>D.int (i:Int))[i]'hi=.int (i:Int):=by simp
   show ∃ σ' T',bq sub (ah sub Pd (n+10)) _ _ (((List.range 40).map fun (i:Nat)=>D.int (i:Int))[i]'hi) _ _=_/\_
   rw [hit]
   have e1:=E4 (sub:=sub) (n:=n) (S:=U) hB hR hl h4 (g:=a+(i:Int)) (by omega) (by omega) hf (by omega)
   have e2:=jF (sub:=sub) (n:=n+2) (S:=U) hB hR hC hl (g:=b+(i:Int)) (by omega) (by omega)
   rw [qV fun j c hc=>by
    rw [Xq,qE (hl.crews c (Zy hc)).1.1]
    refine Zz ?_
    have:=hcap j c hc
    omega] at e2
   refine ⟨_,_,d7 (aK (b6 (t_k (c5 (x:=.non) (au (aa (r_v rfl) (aa (bg (r_v rfl) (r_v rfl) (fh _ _ _)) ai)) e1)) rfl) (t_k (c5 (x:=.non) (au (aa (r_v rfl) (aa (bg (r_v rfl) (r_v rfl) (fh _ _ _)) ai)) e2)) rfl)) aL),some (.int (i:Int)),rfl,rfl⟩)
 exact ⟨_,e⟩
theorem Hw {l:Lp} (hl:l.WF) {b:Int} (hcap:∀ (k:Nat) c,l.crews[k]?=some c->cG l k c<=b):1<=b:=by
 have h1:=hl.nworks.1
 have hw:=hl.works 0 _ (Zb h1)
 have hc:=CS hl (Zb h1)
 generalize hcc:l.crews.getD (l.works[0]).crew (0,0)=c at hc
 have hm:=hl.crews c (Zy hc)
 obtain ⟨_,c2⟩:=jc (a:=cP l (l.works[0]).crew c) (b:=(c.1:Int)) (by omega)
 have hh:1<=fR l (l.works[0]).crew:=by
  have:l.works[0]∈l.works.filter fun w=>w.crew==(l.works[0]).crew:=Qj.mpr ⟨Xp h1,Z7 _⟩
  exact List.length_pos_of_mem this
 have ha:1 * 1<=cP l (l.works[0]).crew c:=Wl (by omega) (by omega) (by omega) (by omega)
 have:=hcap _ c hc
 unfold cG at this
 refine Xv fun z=>?_
 have h0:ceil (cP l (l.works[0]).crew c) (c.1:Int)<=0:=by omega
 have:ceil (cP l (l.works[0]).crew c) (c.1:Int) * (c.1:Int)<=0 * (c.1:Int):=Xg h0 (by omega)
 omega
theorem main (ns:List Int) (h:ns.length<=63):∃ S',ah (fun _ _=>false) Pd 30 "law" [.fro (ns.map .int)] []=.ok (.bl true) S':=by
 obtain ⟨mx,M⟩:=HH hG
 have hl:=Gn M ns (at':=2) (most:=4) (by decide) (by decide)
 have ed:=yO (sub:=fun _ _=>false) (n:=24) (S:=[]) hG M ns (at':=2) (most:=4) (by decide) (by decide) (by decide)
 have h4:(cQ mx ns 2 4).works.length<=4:=by
  have:=M.rng ns (2+1) (show (0:Int) < 4 by decide)
  simp only [cQ,Zd,ZO]
  omega
 generalize cQ mx ns 2 4=l at hl ed h4
 have hx:=M.rng ns 0 (show (0:Int) < 12 by decide)
 obtain ⟨g,hg⟩:∃ g:Nat,(g:Int)=1+mx ns 0 12:=⟨(1+mx ns 0 12).toNat,by omega⟩
 have em:ev (fun _ _=>false) (ah (fun _ _=>false) Pd 29) (.bin .add (.c (.int 1)) (.call "_law_mixed" (.cs (.v 0) (.cs (.c (.int 0)) (.cs (.c (.int 12)) .nl))))) [some (.fro (ns.map .int)),some l.toD,none,none,none,none,none,none,none] []=.ok (.int (g:Int)) []:=by
  rw [hg]
  exact bg r_c (au (aa (r_v rfl) (aa r_c (aa r_c ai))) (M.ok ns (by decide) (by decide))) (fh _ _ _)
 obtain ⟨rd,T,er,hrd⟩:∃ rd T,ah (fun _ _=>false) Pd 29 "ring" [l.toD,.int (g:Int)] []=.ok rd T/\sV l (g:Int) rd T:=by
  rcases kY (sub:=fun _ _=>false) (n:=19) (S:=[]) hB hR hl h4 (g:=(g:Int)) (by omega) (by omega) with ⟨w,e,hb⟩|⟨e,_⟩
  ·exact ⟨_,_,e,.inr ⟨_,w,rfl,(aG [] _),hb⟩⟩
  ·exact ⟨_,_,e,.inl rfl⟩
 have ec:=jF (sub:=fun _ _=>false) (n:=21) (S:=T) hB hR hC hl (g:=(g:Int)) (by omega) (by omega)
 obtain ⟨x5,e1⟩:=iQ (sub:=fun _ _=>false) (n:=19) hl h4 (A0:=.fro (ns.map .int)) (rd:=rd) (g:=g) (T:=T) ⟨by omega,by omega⟩ hrd
 obtain ⟨a,ea,a1,a2,a3,a4⟩:=AJ (sub:=fun _ _=>false) (n:=19) (S:=T) hB hR hC hl h4
 obtain ⟨b,eb,b1,kb,cb,b2,b3⟩:=AD (sub:=fun _ _=>false) (n:=21) (S:=T) hB hC hl
 have bp:=Hw hl b1
 have bl:b<=32:=by rw [b3]; exact Cf hl b2
 have ht:∃ T2,evT (fun _ _=>false) (ah (fun _ _=>false) Pd 29) (.or (.and (.cmp .gt (.v 6) (.c (.int 1))) (.isN (.call "ring" (.cs (.v 1) (.cs (.bin .sub (.v 6) (.c (.int 1))) .nl))))) (.and (.cmp .gt (.v 7) (.c (.int 1))) (.isN (.call "crowd" (.cs (.v 1) (.cs (.bin .sub (.v 7) (.c (.int 1))) .nl))))))
   [some (.fro (ns.map .int)),some l.toD,some (.int (g:Int)),some rd,some (crD (aZ l (g:Int) 0 l.crews)),x5,some (.int a),some (.int b),none] T=.ok false T2:=by
  have p1:∃ T2,evT (fun _ _=>false) (ah (fun _ _=>false) Pd 29) (.and (.cmp .gt (.v 6) (.c (.int 1))) (.isN (.call "ring" (.cs (.v 1) (.cs (.bin .sub (.v 6) (.c (.int 1))) .nl)))))
    [some (.fro (ns.map .int)),some l.toD,some (.int (g:Int)),some rd,some (crD (aZ l (g:Int) 0 l.crews)),x5,some (.int a),some (.int b),none] T=.ok false T2:=by
   have c1:evT (fun _ _=>false) (ah (fun _ _=>false) Pd 29) (.cmp .gt (.v 6) (.c (.int 1))) [some (.fro (ns.map .int)),some l.toD,some (.int (g:Int)),some rd,some (crD (aZ l (g:Int) 0 l.crews)),x5,some (.int a),some (.int b),none] T=.ok (decide (1 < a)) T:=aX (aW (r_v rfl) r_c (fD _ _ _))
   by_cases h1:1 < a
   ·rw [Zj h1] at c1
    obtain ⟨w,e,_⟩:=Dh (sub:=fun _ _=>false) (n:=19) (S:=T) hB hR hl h4 (g:=a - 1) (by omega) (by omega) (a4 h1)
    exact ⟨_,dz c1 (t_k (gU (au (aa (r_v rfl) (aa (bg (r_v rfl) r_c (dR _ _ _)) ai)) e)) rfl)⟩
   ·rw [Zz h1] at c1
    exact ⟨_,fG c1⟩
  obtain ⟨T2,p1⟩:=p1
  refine ⟨T2,b6 p1 ?_⟩
  have c1:evT (fun _ _=>false) (ah (fun _ _=>false) Pd 29) (.cmp .gt (.v 7) (.c (.int 1))) [some (.fro (ns.map .int)),some l.toD,some (.int (g:Int)),some rd,some (crD (aZ l (g:Int) 0 l.crews)),x5,some (.int a),some (.int b),none] T2=.ok (decide (1 < b)) T2:=aX (aW (r_v rfl) r_c (fD _ _ _))
  by_cases h1:1 < b
  ·rw [Zj h1] at c1
   have e:=jF (sub:=fun _ _=>false) (n:=21) (S:=T2) hB hR hC hl (g:=b - 1) (by omega) (by omega)
   obtain ⟨j,hj,_⟩:=lW (l:=l) (g:=b - 1) (k:=0) b2 (by
    rw [qE (hl.crews cb (Zy b2)).1.1,Xq,<- b3]
    exact Zj (by omega))
   rw [hj] at e
   exact dz c1 (t_k (gU (au (aa (r_v rfl) (aa (bg (r_v rfl) r_c (dR _ _ _)) ai)) e)) rfl)
  ·rw [Zz h1] at c1
   exact fG c1
 obtain ⟨T2,ht⟩:=ht
 obtain ⟨σ',e2⟩:=gr (sub:=fun _ _=>false) (n:=19) hl h4 (x0:=some (.fro (ns.map .int))) (x2:=some (.int (g:Int))) (x3:=some rd) (x4:=some (crD (aZ l (g:Int) 0 l.crews))) (x5:=x5) (a:=a) (b:=b) (T:=T2) ⟨a1,a2⟩ ⟨bl,bp⟩ a3 b1
 refine ⟨[],x_call (ds:=[.fro (ns.map .int)]) (show Has Pd "law" qS from rfl) rfl (ak (aF (au (aa (r_v rfl) (aa r_c (aa r_c ai))) ed)) (ak (aF em) (ak (aF (au (aa (r_v rfl) (aa (r_v rfl) ai)) er)) (ak (aF (au (aa (r_v rfl) (aa (r_v rfl) ai)) ec)) (ak e1
  (ak (aF (au (aa (r_v rfl) ai) ea)) (ak (aF (au (aa (r_v rfl) ai) eb)) (ak (aK ht aL) (ak e2 (aE r_c)))))))))) (bN rfl rfl)⟩
end K30

namespace K30
open PySem EV RL
noncomputable def top (i:Nat):Stmt:=PySem.Challenge.pw_roundlap_k30_whole_sooner.main.body.getD i (.Pass ⟨0,0,0,0⟩)
noncomputable def fns:List (Str × Stmt):=[(("is_whole" : Str),top 15),(("is_value" : Str),top 16),(("is_row" : Str),top 17),(("is_crew" : Str),top 18),(("are_crews" : Str),top 19),(("is_work_source" : Str),top 20),(("is_source" : Str),top 21),(("are_starts" : Str),top 22),(("is_work" : Str),top 23),(("are_works" : Str),top 24),(("are_outs" : Str),top 25),(("is_loop" : Str),top 26),(("checked" : Str),top 27),(("needs" : Str),top 28),(("checked_gap" : Str),top 31),(("longs_of" : Str),top 33),(("backs_of" : Str),top 34),(("surplus" : Str),top 35),(("longest_walks" : Str),top 36),(("lengthened" : Str),top 37),(("barring_ring" : Str),top 38),(("ring" : Str),top 39),(("crew_times" : Str),top 40),(("barring_crew" : Str),top 41),(("crowd" : Str),top 42),(("is_need" : Str),top 43),(("is_ring" : Str),top 44),(("is_bar" : Str),top 45),(("rounded_up" : Str),top 46),(("ring_gap" : Str),top 47),(("crew_gap" : Str),top 48),(("_law_cell_at" : Str),top 50),(("_law_mixed" : Str),top 51),(("_law_source" : Str),top 52),(("_law_work" : Str),top 53),(("_law_loop" : Str),top 54),(("law" : Str),top 55)]
noncomputable def vals:List (Str × D):=[("REST",(.int 9973)),("MOST_STREAMS",(.int 6)),("MOST_CREWS",(.int 3)),("MOST_MACHINES",(.int 3)),("MOST_BUSY",(.int 4)),("MOST_WORKS",(.int 8)),("MOST_LONG",(.int 8)),("MOST_SOURCES",(.int 3)),("MOST_BACK",(.int 3)),("WORDS",(.tup [(.str "plus"),(.str "less"),(.str "times"),(.str "least"),(.str "greatest")])),("MOST_GAP",(.int 200))]
noncomputable def cls:List Str:=["LapError","NoLoop","NoGap"]
set_option maxRecDepth 100000 in
set_option maxHeartbeats 0 in
theorem hP:fns.map (fun p=>(p.1,trF (dZ fns vals cls) p.2))=Pd.map fun p=>(p.1,some p.2):=by kernel_rfl
end K30
namespace PySem.W.Fast
theorem tw2100897005045459755:0=0:=rfl
theorem tw14272401811235965645:0=0:=rfl
theorem tw7525470502953055209:0=0:=rfl
theorem tw12047983434259401299:0=0:=rfl
theorem tw3544872981689261118:0=0:=rfl
theorem tw5393967357324362760:0=0:=rfl
theorem tw16869835861573658342:0=0:=rfl
theorem tw11728769009041765975:0=0:=rfl
theorem tw8026892289601155077:0=0:=rfl
theorem tw10667146509677897781:0=0:=rfl
theorem tw12451746837933401618:0=0:=rfl
theorem tw3403091844026257123:0=0:=rfl
theorem tw8401345596159435266:0=0:=rfl
theorem tw17378711244755741668:0=0:=rfl
theorem tw639994639015958677:0=0:=rfl
theorem tw5894935181167278645:0=0:=rfl
theorem tw13531638327690659046:0=0:=rfl
theorem tw10427241319235456815:0=0:=rfl
theorem tw7385149610771248429:0=0:=rfl
theorem tw5597064625977089942:0=0:=rfl
theorem tw8921961031341046473:0=0:=rfl
theorem tw13819049171090757391:0=0:=rfl
theorem tw8080248787368437701:0=0:=rfl
theorem tw17152631789287258707:0=0:=rfl
theorem tw5468641370128252708:0=0:=rfl
theorem tw12217181577017343375:0=0:=rfl
theorem tw6633357534832591039:0=0:=rfl
theorem tw918399722949150643:0=0:=rfl
theorem tw8151744209521533060:0=0:=rfl
theorem tw12859682008366413088:0=0:=rfl
theorem tw7551398723607337026:0=0:=rfl
theorem tw7979025678804507375:0=0:=rfl
theorem tw13175193225170684511:0=0:=rfl
theorem tw17002348851923871834:0=0:=rfl
theorem tw16116631779959957326:0=0:=rfl
theorem tw1961461116361984496:0=0:=rfl
theorem tw9572781543310653380:0=0:=rfl
theorem tw18095771323715194984:0=0:=rfl
theorem tw3948806931921239359:0=0:=rfl
theorem tw7944648066692685191:0=0:=rfl
theorem tw13224986756667620652:0=0:=rfl
theorem tw12248966694680742931:0=0:=rfl
theorem tw1729631580262925269:0=0:=rfl
theorem tw16523697235560856856:0=0:=rfl
theorem tw1128709632612698608:0=0:=rfl
theorem tw1142237063565742551:0=0:=rfl
theorem tw2530114787337469095:0=0:=rfl
theorem tw13144902106377340620:0=0:=rfl
theorem tw11274368795682994081:0=0:=rfl
theorem tw7822503269997946305:0=0:=rfl
theorem tw999652230821764231:0=0:=rfl
theorem tw1824829667348274274:0=0:=rfl
theorem tw1721862276703661224:0=0:=rfl
theorem tw15620243381445127439:0=0:=rfl
theorem tw8015556317427825330:0=0:=rfl
theorem tw4778764444752915950:0=0:=rfl
theorem tw13850836906988209520:0=0:=rfl
theorem tw13497923403197110910:0=0:=rfl
theorem tw14566235456350634251:0=0:=rfl
theorem tw16110251406594857483:0=0:=rfl
theorem tw7475064608831170036:0=0:=rfl
theorem tw3224278735344086002:0=0:=rfl
theorem tw5954023920232659068:0=0:=rfl
theorem tw7679251373565902373:0=0:=rfl
theorem tw4603646607386127567:0=0:=rfl
theorem tw14581567918774294087:0=0:=rfl
theorem tw1889739760665557271:0=0:=rfl
theorem tw12224510633458306684:0=0:=rfl
theorem tw16571142591116086321:0=0:=rfl
theorem tw2674500130359225072:0=0:=rfl
theorem tw5528565021654426254:0=0:=rfl
theorem tw3171430099173207573:0=0:=rfl
theorem tw2620708102644308256:0=0:=rfl
theorem tw4758645368748805825:0=0:=rfl
theorem tw17368607402799959371:0=0:=rfl
theorem tw2503922212872121769:0=0:=rfl
theorem tw11575610504431229865:0=0:=rfl
theorem tw267852271295278479:0=0:=rfl
theorem tw140416624022927709:0=0:=rfl
theorem tw13857327555163533841:0=0:=rfl
theorem tw2197434202840563712:0=0:=rfl
theorem tw6099832235963791062:0=0:=rfl
theorem tw14954662889687436001:0=0:=rfl
theorem tw6934478240570691723:0=0:=rfl
theorem tw13297075282417045727:0=0:=rfl
theorem tw15674876199749629575:0=0:=rfl
theorem tw16813297559508482272:0=0:=rfl
theorem tw8731208083818053112:0=0:=rfl
theorem tw11926828805834823988:0=0:=rfl
theorem tw10939195261222910762:0=0:=rfl
theorem tw6729926571904965279:0=0:=rfl
theorem tw3813039105661126746:0=0:=rfl
theorem tw15640492744722545131:0=0:=rfl
theorem tw6865715064442323372:0=0:=rfl
theorem tw2934563322508691957:0=0:=rfl
theorem tw10434382380312418904:0=0:=rfl
theorem tw10439341071811681414:0=0:=rfl
theorem tw14313494795383248840:0=0:=rfl
theorem tw7927005832875791406:0=0:=rfl
theorem tw6932811242227996414:0=0:=rfl
theorem tw10977594843040309435:0=0:=rfl
theorem tw2056453469233119677:0=0:=rfl
theorem tw2291188685559675463:0=0:=rfl
theorem tw17939937796239355647:0=0:=rfl
theorem tw11077405247997814539:0=0:=rfl
theorem tw10812643032615446340:0=0:=rfl
theorem tw14662067461820071390:0=0:=rfl
theorem tw16074299611062728065:0=0:=rfl
theorem tw7940292180068683807:0=0:=rfl
theorem tw13414240345594245724:0=0:=rfl
theorem tw18144845351063100663:0=0:=rfl
theorem tw4185825081006989800:0=0:=rfl
theorem tw5223536517795427930:0=0:=rfl
theorem tw16108769200367445602:0=0:=rfl
theorem tw770913017929490870:0=0:=rfl
theorem tw14819449860181031599:0=0:=rfl
theorem tw1982760439448101600:0=0:=rfl
theorem tw9225415726989046036:0=0:=rfl
theorem tw17685155579590927883:0=0:=rfl
theorem tw15501665243365532052:0=0:=rfl
theorem tw4606374594931634858:0=0:=rfl
theorem tw12082592914301947414:0=0:=rfl
theorem tw16522346702148793477:0=0:=rfl
theorem tw10509977653361179991:0=0:=rfl
theorem tw3916172166191983798:0=0:=rfl
theorem tw2129424427665082326:0=0:=rfl
theorem tw9738413574385700763:0=0:=rfl
theorem tw350943922460439020:0=0:=rfl
theorem tw4970699800784370705:0=0:=rfl
theorem tw2534867396614361311:0=0:=rfl
theorem tw9050139418930758488:0=0:=rfl
theorem tw1784791385930154417:0=0:=rfl
theorem tw6176412040598671052:0=0:=rfl
theorem tw8904589294059526194:0=0:=rfl
theorem tw10046232659159453649:0=0:=rfl
theorem tw3867101593564087287:0=0:=rfl
theorem tw16536471504313386362:0=0:=rfl
theorem tw17395807794177108117:0=0:=rfl
theorem tw911425214093841086:0=0:=rfl
theorem tw9712009633556501154:0=0:=rfl
theorem tw6813378332936373173:0=0:=rfl
theorem tw10409853297303754068:0=0:=rfl
theorem tw12874896684540765930:0=0:=rfl
theorem tw7964701274256319193:0=0:=rfl
theorem tw12339261861313492971:0=0:=rfl
theorem tw7816277274612283521:0=0:=rfl
theorem tw3870392021295727615:0=0:=rfl
theorem tw13420313885921352017:0=0:=rfl
theorem tw9615017046729787530:0=0:=rfl
theorem tw4798156851774659244:0=0:=rfl
theorem tw6722060075253308917:0=0:=rfl
theorem tw17255026824073444216:0=0:=rfl
theorem tw13180100639819861849:0=0:=rfl
theorem tw4262197804734376791:0=0:=rfl
theorem tw16684969153366558150:0=0:=rfl
theorem tw11298140323708639809:0=0:=rfl
theorem tw645884638358973790:0=0:=rfl
theorem tw18404558748685795769:0=0:=rfl
theorem tw14656518469257900516:0=0:=rfl
theorem tw6170004003098059762:0=0:=rfl
theorem tw4288847855929805874:0=0:=rfl
theorem tw5951085799987507434:0=0:=rfl
theorem tw9009760914849371140:0=0:=rfl
theorem tw11906519441160608465:0=0:=rfl
theorem tw9040057889140480013:0=0:=rfl
theorem tw3820446898370609277:0=0:=rfl
theorem tw6969241219572353815:0=0:=rfl
theorem tw13561888802249243018:0=0:=rfl
theorem tw12989054633977887021:0=0:=rfl
theorem tw5101430444587244471:0=0:=rfl
theorem tw13763086169880182976:0=0:=rfl
theorem tw7468371308686506682:0=0:=rfl
theorem tw2354988297155938089:0=0:=rfl
theorem tw17204269989400825036:0=0:=rfl
theorem tw16478966458494718458:0=0:=rfl
theorem tw948769945864282498:0=0:=rfl
theorem tw3522715540720444494:0=0:=rfl
theorem tw7847343423236916817:0=0:=rfl
theorem tw12912463443680523054:0=0:=rfl
theorem tw5474779885354844989:0=0:=rfl
theorem tw4615869586529534370:0=0:=rfl
theorem tw10479677196474653006:0=0:=rfl
theorem tw5977117191886699567:0=0:=rfl
theorem tw941604507762105814:0=0:=rfl
theorem tw16943671180959806257:0=0:=rfl
theorem tw16391982277098646752:0=0:=rfl
theorem tw1799971034983451874:0=0:=rfl
theorem tw1643425500806787872:0=0:=rfl
theorem tw13382354392885778918:0=0:=rfl
theorem tw18397591507647059751:0=0:=rfl
theorem tw4988134142819986595:0=0:=rfl
theorem tw12959852248344625322:0=0:=rfl
theorem tw18106838903929756155:0=0:=rfl
theorem tw17722160114752457660:0=0:=rfl
theorem tw11987804547230403479:0=0:=rfl
theorem tw12901454250599228095:0=0:=rfl
theorem tw14623739949890964145:0=0:=rfl
theorem tw4568620200556084786:0=0:=rfl
theorem tw5943319339343869483:0=0:=rfl
theorem tw14671484673249910352:0=0:=rfl
theorem tw5968796984303862987:0=0:=rfl
theorem tw2891901776278446924:0=0:=rfl
theorem tw14459851552337187959:0=0:=rfl
theorem tw15931715238723086120:0=0:=rfl
theorem tw609555969685212909:0=0:=rfl
theorem tw1633658836386331209:0=0:=rfl
theorem tw1203479391248994660:0=0:=rfl
theorem tw8953659027059025055:0=0:=rfl
theorem tw3189343527911355054:0=0:=rfl
theorem tw309517156082636920:0=0:=rfl
theorem tw7364042913090897206:0=0:=rfl
theorem tw4072379298510468905:0=0:=rfl
theorem tw14452221326678069868:0=0:=rfl
theorem tw17504843116218712030:0=0:=rfl
theorem tw12676200296866950514:0=0:=rfl
theorem tw11860616518223047569:0=0:=rfl
theorem tw17115666555181819795:0=0:=rfl
theorem tw12262352222455718820:0=0:=rfl
theorem tw16608091279108371536:0=0:=rfl
theorem tw1743956734439952023:0=0:=rfl
theorem tw8673057566559174437:0=0:=rfl
theorem tw1831057719403592313:0=0:=rfl
theorem tw17425953149258648322:0=0:=rfl
theorem tw11866127261816502205:0=0:=rfl
theorem tw12308507565255910729:0=0:=rfl
theorem tw13864351043521371272:0=0:=rfl
theorem tw10414711857717662748:0=0:=rfl
theorem tw6185922070617970833:0=0:=rfl
theorem tw11634396456055082999:0=0:=rfl
theorem tw8594074792520218390:0=0:=rfl
theorem tw15442172962216098468:0=0:=rfl
theorem tw6482684586351404453:0=0:=rfl
theorem tw14527933201169630698:0=0:=rfl
theorem tw6524279204639528454:0=0:=rfl
theorem tw7974083156716066786:0=0:=rfl
theorem tw16250127288741288669:0=0:=rfl
theorem tw467151558522485077:0=0:=rfl
theorem tw12975402672333892173:0=0:=rfl
theorem tw2138800901273943334:0=0:=rfl
theorem tw5504805477645807250:0=0:=rfl
theorem tw7029825677446682510:0=0:=rfl
theorem tw3246773018462419994:0=0:=rfl
theorem tw271285582596177147:0=0:=rfl
theorem tw6098892552530710092:0=0:=rfl
theorem tw10617501641668298203:0=0:=rfl
theorem tw7535445088345199123:0=0:=rfl
theorem tw12183058263052519150:0=0:=rfl
theorem tw6006828961355565761:0=0:=rfl
theorem tw4513248035277215051:0=0:=rfl
theorem tw17299690774154200315:0=0:=rfl
theorem tw14187332177650498614:0=0:=rfl
theorem tw5243496486463618141:0=0:=rfl
theorem tw14683346352273626758:0=0:=rfl
theorem tw15626003678177134737:0=0:=rfl
theorem tw13059894497883466012:0=0:=rfl
theorem tw9835075802850519247:0=0:=rfl
theorem tw7309757113174466528:0=0:=rfl
end PySem.W.Fast
open PySem PySem.W PyProof.Rows
set_option maxRecDepth 100000 in
set_option maxHeartbeats 0 in
theorem PySem.Challenge.cw_roundlap_k30_whole_sooner_holds : PySem.Challenge.rw_roundlap_k30_whole_sooner.Holds := by
 w_on; o_law; k_head; (case hw=>w_witness2)
 k_fill
 refine EV.Fg (l:=PySem.Challenge.rw_roundlap_k30_whole_sooner) (fns:=K30.fns) (vals:=K30.vals) (cls:=K30.cls) (Pd:=K30.Pd) (sub:=fun _ _=>false) (n:=30) (st:=K30.top 55) (x:="_law_script") rfl rfl ⟨rfl,by decide,by decide⟩ (fun w h Y=>PySem.W.kIn_of Y) K30.hP rfl rfl ?T K30.main
 case T =>
  intro w h KX
  refine ⟨?_,?_,?_,?_⟩
  ·unfold K30.fns
   repeat (apply EV.dD.cons; k_is; k_is; k_is; k_is)
   exact EV.dD.nil
  ·unfold K30.vals
   repeat first
    | (apply EV.cj.flat; k_is; constructor)
    | (apply EV.cj.tup; k_is; k_is; decide; rfl; (focus (repeat' constructor)))
   exact EV.cj.nil
  ·unfold K30.cls
   repeat first
    | (apply EV.bQ.cons; k_is; k_exc; kit_is; k_is; kit_is; decide +kernel)
    | (apply EV.bQ.consN; k_is; k_exc; kit_is; k_is; kit_is; k_is)
    | (apply EV.bQ.consP; k_is; k_exc; kit_is; k_is; kit_is; k_is; kit_is; k_is; k_is; k_is; k_is; k_is; k_is; k_is)
   exact EV.bQ.nil
  ·refine fun x hx _=>EV.dN.get (l:=EV.dG) ?hNone0 hx
   unfold EV.dG
   repeat (apply EV.dN.cons; k_is)
   exact EV.dN.nil
end
