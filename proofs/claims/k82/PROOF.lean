import PyProof.Rows.All
import Wide.All
import OpenK.AllK
import Wide.FinOn
import PyProof.EqAt
import PyProof.EqKinds
import PyProof.TupleCall
import PyProof.NeKinds
import PyProof.AttrMissHeap
import PyProof.ExcClass3
import PyProof.RulesAs
import PyProof.Rows.FStr
import OpenK.KOwn
import PyProof.NsDelKeeps
import PyProof.Rows.Catch
import PyProof.Rows.SetFrom
import PyProof.SetRoads
import PyProof.FactsAll.NoneType
import KE.KRevIter
import PyProof.ZipIter
import KE.KItemsList
import PyProof.MinMaxWalk
import PyProof.WalksMore
import PyProof.FString5
import PyProof.Rows.SortShellK
import PySem.Challenge.RW_gluework_k82_whole_any_order
abbrev Za:=PySem.W.Frag
abbrev Lz:=@List.length_map
abbrev LA:=@List.getElem?_eq_getElem
abbrev LB:=@List.mem_map
abbrev LC:=@Nat.le_refl
abbrev LF:=@List.getElem?_map
abbrev LG:=@PySem.wpAny_bind
abbrev LH:=@List.mem_append_left
abbrev LJ:=@List.length_append
abbrev LK:=@List.map_append
abbrev LL:=@PySem.Heap.get?_push_of_some
abbrev LM:=@List.length_take
abbrev LN:=@List.take_of_length_le
abbrev LO:=@List.mem_append
abbrev LP:=@List.mem_append_right
abbrev LQ:=@List.length_filter_le
abbrev LR:=@PySem.wpAny_pure
abbrev LS:=@List.mem_cons_self
abbrev LU:=@PySem.Heap.lt_size
abbrev LV:=@List.mem_of_getElem?
abbrev LW:=@List.mem_filter
abbrev LY:=@List.mem_cons_of_mem
abbrev LZ:=@Nat.lt_of_lt_of_le
abbrev Ma:=@decide_eq_true
abbrev Mb:=@Nat.le_trans
abbrev Mc:=@Option.some.inj
abbrev Md:=@PySem.Heap.get?_push_size
abbrev Me:=@List.mem_singleton
abbrev Mf:=@Nat.ne_of_lt
abbrev Mg:=@decide_eq_true_eq
abbrev Mh:=@List.size_toArray
abbrev Mi:=@List.length_cons
abbrev Mj:=@PySem.Paired.length
abbrev Ml:=@List.length_singleton
abbrev Mm:=@List.nodup_append
abbrev Mn:=@decide_eq_false
abbrev Mo:=@List.map_map
abbrev Mp:=@Bool.and_eq_true
abbrev Mq:=@List.all_eq_true
abbrev Mr:=@List.mem_cons
abbrev Ms:=@Bool.false_ne_true
abbrev Mt:=@List.take_succ
abbrev Mu:=@List.getElem_mem
abbrev Mv:=@List.append_assoc
abbrev Mw:=@List.filter_cons_of_pos
abbrev My:=@Bool.eq_iff_iff
abbrev Mz:=@List.filter_append
abbrev MA:=@List.getD_eq_getElem?_getD
abbrev MB:=@List.filter_cons_of_neg
abbrev MC:=@decide_eq_false_iff_not
abbrev MD:=@Option.map_eq_some_iff
abbrev ME:=@of_decide_eq_true
abbrev MF:=@List.getElem?_append_left
abbrev MG:=@List.map_cons
abbrev MH:=@List.getElem?_append_right
abbrev MI:=@Bool.not_eq_true'
abbrev MJ:=@PySem.W.mg_none_of
abbrev MK:=@PySem.F.plainAttrs_dict
abbrev ML:=@List.drop_eq_getElem_cons
abbrev MM:=@List.append_nil
abbrev MN:=@List.nodup_cons
abbrev MO:=@List.filter_sublist
abbrev MP:=@PySem.PassesOwn.never
abbrev MQ:=@List.getElem?_eq_some_iff
abbrev MR:=@List.getElem?_eq_none
abbrev MS:=@PySem.wpAny_holding
abbrev MT:=@List.filter_nil
abbrev MU:=@PySem.F.plainAttrs_list
abbrev MV:=@PySem.Around.under_plainId
abbrev MW:=@List.mem_of_mem_take
abbrev MX:=@List.map_congr_left
abbrev MY:=@List.length_drop
abbrev MZ:=@List.eq_nil_of_length_eq_zero
abbrev Na:=@congrArg
abbrev Nb:=@Nat.lt_irrefl
abbrev Nc:=@PyProof.Rows.callWith_type1
abbrev Nd:=@Nat.zero_le
abbrev Nf:=@List.any_eq_true
abbrev Ng:=@Int.emod_lt_of_pos
abbrev Nh:=@PySem.codeAny_builtin
abbrev Ni:=@List.lookup_cons
abbrev Nj:=@List.cons.inj
abbrev Nk:=@List.length_replicate
abbrev Nl:=@PySem.call_meetsIn
abbrev Nm:=@PySem.F.slot_dict_values
abbrev Nn:=@PySem.F.slot_list_append
abbrev Np:=@PySem.F.type_list_append
abbrev Nq:=@List.length_range
abbrev Nr:=@Ne.symm
abbrev Nt:=@PySem.wpAny_richCompare_same_room
abbrev Nu:=@PySem.W.mg_of
abbrev Nv:=@Int.emod_nonneg
abbrev Nw:=@List.getElem?_of_mem
abbrev Nx:=@PySem.Calls.callWith_builtin
abbrev Ny:=@List.drop_of_length_le
abbrev Nz:=@PySem.wpAny_truthy_bool
abbrev NA:=@List.take_sublist
abbrev NB:=@PySem.wpAny_newObj_type
abbrev NC:=@PySem.F.slot_dict_get
abbrev ND:=@Nat.lt_or_ge
abbrev NF:=@PySem.tupleKind_room_in1
abbrev NG:=@PySem.F.type_dict_values
abbrev NH:=@Sum.inr.inj
abbrev NI:=@PySem.wpAny_typeNameOfWhole_keyiter
abbrev NJ:=@List.getElem?_replicate
abbrev NK:=@PySem.wpAny_callSpecial?_slot
abbrev NL:=@PySem.F.slot_dict_keyiterator_next
abbrev NM:=@List.all_map
abbrev NN:=@PySem.W.kia_one
abbrev NO:=@List.foldl_cons
abbrev NP:=@Array.toList_append
abbrev NQ:=@PySem.F.slot_NoneType_hash
abbrev NR:=@List.perm_ext_iff_of_nodup
abbrev NS:=@PySem.wpAny_call_entry
abbrev NT:=@PySem.wpAny_Call_Name_kw
abbrev NU:=@Array.getElem?_toList
abbrev NV:=@Bool.false_eq_true
abbrev NW:=@PySem.plainId_quiet
abbrev NX:=@List.pairwise_cons
abbrev NY:=@Classical.byContradiction
abbrev NZ:=@PySem.wpAny_passesOwn
abbrev Oa:=@PyProof.Rows.slot_tuple_getitem
abbrev Ob:=@PySem.wpAny_typeNameOf_keyiter
abbrev Oc:=@PySem.F.slot_dict_update
abbrev Od:=@List.Pairwise.map
abbrev Oe:=@List.flatMap_cons
abbrev Of:=@PySem.Txt.slice_le
abbrev Og:=@Array.length_toList
abbrev Oh:=@PySem.mem_of_lookup
abbrev Oi:=@List.all_cons
abbrev Oj:=@beq_eq_false_iff_ne
abbrev Ol:=@PySem.wpAny_getItem_str_slice
abbrev Om:=@PySem.Heap.SameBut.update
abbrev Oo:=@List.mem_singleton_self
abbrev Oq:=@List.filter_cons
abbrev Ot:=@List.take_append_of_le_length
abbrev Ou:=@List.mem_range
abbrev Ov:=@List.nodup_nil
abbrev Ow:=@List.Perm.refl
abbrev Ox:=@PySem.F.entry_dict_get
abbrev Oy:=@PySem.Calls.spliced_cons
abbrev Oz:=@Nat.lt_of_le_of_lt
abbrev OA:=@List.filter_filter
abbrev OB:=@PySem.wpAny_field
abbrev OC:=@PySem.SeqAt.EqAt.same
abbrev OD:=@List.find?_cons
abbrev OE:=@Nat.le_succ
abbrev OF:=@List.range_succ
abbrev OG:=@PySem.F.called_set
abbrev OH:=@Prod.mk.inj
abbrev OI:=@List.take_length_add_append
abbrev OJ:=@PySem.wpAny_pyIter_list
abbrev OK:=@List.filter_congr
abbrev OL:=@PySem.Calls.evalArgs_plain
abbrev OM:=@PySem.F.slot_list_ne
abbrev ON:=@List.mem_of_mem_drop
abbrev OO:=@PySem.Heap.size_push
abbrev OP:=@List.pairwise_iff_getElem
abbrev OQ:=@Option.getD_some
abbrev OR:=@PySem.W.hideAll_get
abbrev OS:=@List.filterMap_cons
abbrev OT:=@List.filter_eq_self
abbrev OU:=@Nat.le_of_lt
abbrev OV:=@List.getElem?_take_of_lt
abbrev OW:=@PySem.SeqAt.RcAt.lists_lengths
abbrev OX:=@PySem.F.slot_list_getattribute
abbrev OY:=@PySem.F.type_dict_update
abbrev OZ:=@PySem.wpAny_execs_nil
abbrev Pa:=@PySem.wpAny_Call_method0_late
abbrev Pb:=@Option.map_some
abbrev Pd:=@List.length_nil
abbrev Pe:=@List.forIn_cons
abbrev Pf:=@Bool.and_true
abbrev Pg:=@PyProof.Rows.F.plain_set_update_loop
abbrev Ph:=@PySem.F.slot_zip_getattribute
abbrev Pj:=@List.length_zip
abbrev Pk:=@List.getElem?_take
abbrev Pl:=@List.map_take
abbrev Pm:=@PySem.wpAny_pyNext_list_item
abbrev Pn:=@PySem.AutoSeq1.sub_list_list
abbrev Po:=@PySem.wpAny_nextOf_list_item
abbrev Pp:=@List.filter_eq_nil_iff
abbrev Pq:=@PySem.Calls.spliced_nil
abbrev Pr:=@Int.toNat_natCast
abbrev Pt:=@PySem.wpAny_pyIter_dict
abbrev Pu:=@PySem.wpAny_pyIter_enum
abbrev Pw:=@PySem.atKey_none_of_get
abbrev Px:=@if_false
abbrev Py:=@List.drop_zero
abbrev Pz:=@List.lt_irrefl
abbrev PB:=@PySem.wpAny_pyNext_list_end
abbrev PC:=@PySem.codeAny_mono
abbrev PD:=@PySem.Heap.get?_update_self
abbrev PF:=@Bool.beq_eq_decide_eq
abbrev PH:=@PySem.F.args_dict_keyiterator_next_1
abbrev PJ:=@PySem.builtinLookup_eq_fast
abbrev PK:=@PySem.wpAny_notOrdered_dict
abbrev PN:=@Nat.le_of_sub_eq_zero
abbrev PQ:=@List.perm_append_comm
abbrev PR:=@Nat.lt_succ_self
abbrev PU:=@PySem.F.entry_dict_keyiterator_next
abbrev PX:=@List.drop_eq_nil_iff
abbrev PY:=@Bool.true_and
abbrev PZ:=@List.lt_asymm
abbrev Qc:=@List.map_drop
abbrev Qd:=@PySem.wpAny_mono
abbrev Qe:=@PySem.evalArgs_none
abbrev Qf:=@List.nil_append
abbrev Qg:=@PySem.post_val_or_str
abbrev Qi:=@PySem.F.slot_zip_next
abbrev Qj:=@PySem.Calls.Name_function_global
abbrev Qk:=@PySem.wpAny_letOwnedTupleGo_enum
abbrev Ql:=@PySem.SeqAt.EqAt.int_str
abbrev Qm:=@PySem.SeqAt.EqAt.str_int
abbrev Qn:=@PySem.W.of_hideAll
abbrev Qp:=@Nat.ne_of_gt
abbrev Qq:=@List.mem_filterMap
abbrev Qr:=@PySem.wpAny_typeOf
abbrev Qt:=@List.map_nil
abbrev Qu:=@List.getElem?_drop
abbrev Qv:=@List.map_id'
abbrev Qw:=@PySem.Calls.call_function_entry
abbrev Qx:=@PySem.wpAny_seqItems
abbrev Qy:=@List.forIn_nil
abbrev Qz:=@List.getElem?_zip_eq_some
abbrev QB:=@Option.isSome_iff_exists
abbrev QC:=@PySem.F.args_tuple_add_2
abbrev QD:=@PySem.call_meets
abbrev QF:=@Option.isSome_map
abbrev QH:=@PySem.wpAny_comprehension_free
abbrev QJ:=@Nat.lt_succ_of_lt
abbrev QK:=@PySem.AutoSeq1.sub_tuple_tuple
abbrev QL:=@PySem.wpAny_dictEntries
abbrev QM:=@PySem.PassesOwn.leaving
abbrev QN:=@Bool.eq_false_iff
abbrev QQ:=@PySem.F.entry_tuple_add
abbrev QR:=@PySem.F.args_dict_get_2
abbrev QU:=@PySem.F.args_dict_get_3
abbrev QX:=@PySem.MeetsSeq3.entry_eq_loop
abbrev QY:=@List.sum_cons
abbrev QZ:=@List.length_eq_zero_iff
abbrev Ra:=@List.append_cancel_left
abbrev Rc:=@Nat.min_le_right
abbrev Rf:=@List.cons_append
abbrev Rg:=@beq_self_eq_true
abbrev Rh:=@List.mem_reverse
abbrev Ri:=@List.countP_cons
abbrev Rj:=@List.nil_sublist
abbrev Rk:=@List.getElem?_set_self
abbrev Rl:=@PySem.W.cellsFrom_some
abbrev Rm:=@PySem.F.slot_tuple_add
abbrev Rq:=@List.range_succ_eq_map
abbrev Rr:=@PySem.F.args_list_ne_2
abbrev Rv:=@List.of_mem_zip
abbrev Rw:=@Nat.lt_trans
abbrev Rx:=@PySem.Heap.DictOf.new
abbrev Ry:=@PySem.F.type_dict_get
abbrev Rz:=@Bool.or_eq_true
abbrev RA:=@PySem.F.slot_tuple_eq
abbrev RB:=@PySem.F.slot_tuple_ne
abbrev RD:=@PySem.typeLookup_type
abbrev RE:=@PySem.F.entry_list_ne
abbrev RG:=@List.Perm.append_left
abbrev RH:=@exists_congr
abbrev RI:=@List.take_append_drop
abbrev RJ:=@PySem.typeIs_str
abbrev RK:=@List.getElem?_set_ne
abbrev RN:=@PySem.F.slot_list_eq
abbrev RQ:=@Nat.mul_le_mul_right
abbrev RR:=@Nat.pow_le_pow_right
abbrev RS:=@Bool.and_false
abbrev RT:=@List.tail_drop
abbrev RU:=@PySem.sizeLine_eq
abbrev Sa:=@List.getElem_of_mem
abbrev Sb:=@PySem.W.kdu_collect
abbrev Sf:=@PySem.W.looks_subIn
abbrev Sg:=@List.replicate_succ
abbrev Sh:=@Nat.add_mul
abbrev Si:=@List.reverse_append
abbrev Sj:=@Nat.pow_le_pow_left
abbrev Sk:=@Array.append_assoc
abbrev Sl:=@PySem.wpAny_standAt
abbrev Sm:=@PySem.W.callWith_K
abbrev Sn:=@List.any_cons
abbrev Sq:=@List.take_nil
abbrev Sv:=@PySem.strLen_append
abbrev Sw:=@PySem.W.kdl_values
abbrev Sz:=@Array.forIn_toList
abbrev SA:=@List.mem_replicate
abbrev SH:=@if_true
abbrev SM:=@PySem.W.kitx_dict
abbrev SR:=@List.any_eq_false
abbrev SU:=@Nat.lt_trichotomy
abbrev SX:=@PySem.wpAny_rule
abbrev Tb:=@List.ext_getElem?
abbrev Tc:=@List.getElem?_inj
abbrev Td:=@Nat.le_succ_of_le
abbrev Ul:=@and_congr
abbrev Vv:=@beq_iff_eq
set_option Elab.async false
set_option linter.all false
set_option maxRecDepth 100000
namespace L2
open PySem PySem.Spec PyProof.Rows
abbrev i6:=Sum Int Str
def dX:i6->Value->Bool
 | .inl k,v=>Value.isInt k v
 | .inr x,v=>Value.isStrOf x v
def Io (w:World):i6->Int
 | .inl k=>hashInt k
 | .inr x=>hashStr w x
theorem B0:∀{k:i6} {v:Value},dX k v=true->(∃i t,k=Sum.inl i/\v=Value.int i t)\/(∃x t,k=Sum.inr x/\v=Value.str x t)
 | .inl i,v,h=>by
  obtain⟨t,e⟩:=Value.isInt_shape (k:=i) (v:=v) h;exact .inl ⟨i,t,rfl,e⟩
 | .inr x,v,h=>by
  obtain⟨t,e⟩:=Value.isStrOf_shape (x:=x) (v:=v) h;exact .inr ⟨x,t,rfl,e⟩
def xF (i:Int)(t:Tok):dX (.inl i) (.int i t)=true:=by simp [dX,Value.isInt]
def xl (x:Str)(t:Tok):dX (.inr x) (.str x t)=true:=by simp [dX,Value.isStrOf]
def zO (a b:Int):decide ((Sum.inl a:i6)=Sum.inl b)=(a==b):=by grind
def zF (a b:Str):decide ((Sum.inr a:i6)=Sum.inr b)=decide (a=b):=by grind
def yz (a:Int)(b:Str):decide ((Sum.inl a:i6)=Sum.inr b)=false:=Mn (λq=>nomatch q)
def AU (a:Str)(b:Int):decide ((Sum.inr a:i6)=Sum.inl b)=false:=Mn (λq=>nomatch q)
def j7 (prog:Program)(w:World):PySem.KeyKind prog w i6 where
 is:=dX
 hash:=Io w
 inj:=λv a b ha hb=>by
  rcases B0 ha with⟨i,t,rfl,rfl⟩|⟨x,t,rfl,rfl⟩
  .rcases B0 hb with⟨j,u,rfl,e⟩|⟨y,u,rfl,e⟩
   .injection e with e1 _;rw[e1]
   .exact nomatch e
  .rcases B0 hb with⟨j,u,rfl,e⟩|⟨y,u,rfl,e⟩
   .exact nomatch e
   .injection e with e1 _;rw[e1]
 byValue:=λk v h=>by
  rcases B0 h with⟨i,t,rfl,rfl⟩|⟨x,t,rfl,rfl⟩<;>rfl
 pyHash:=λhv h=>by
  rcases B0 hv with⟨i,t,rfl,rfl⟩|⟨x,t,rfl,rfl⟩
  .exact wpAny_pyHash_int h
  .exact wpAny_pyHash_str h
 eqBool:=λhu hv h=>by
  rcases B0 hu with⟨i,t,rfl,rfl⟩|⟨x,t,rfl,rfl⟩
  .rcases B0 hv with⟨j,u,rfl,rfl⟩|⟨y,u,rfl,rfl⟩
   .rw[zO] at h;exact wpAny_eqBool_int h
   .rw[yz] at h;exact Ql i t y u _ _ _ _ h
  .rcases B0 hv with⟨j,u,rfl,rfl⟩|⟨y,u,rfl,rfl⟩
   .rw[AU] at h;exact Qm x t j u _ _ _ _ h
   .rw[zF] at h;exact wpAny_eqBool_str h
 «strs»:=λk x t v h=>by
  rcases B0 h with⟨i,u,rfl,e⟩|⟨y,u,rfl,e⟩
  .exact nomatch e
  .injection e with e1 _
   subst e1;cases v<;>rfl
def rG (prog:Program)(w:World)(i:Int)(t:Tok):(j7 prog w).is (.inl i) (.int i t)=true:=xF i t
def rP (prog:Program)(w:World)(x:Str)(t:Tok):(j7 prog w).is (.inr x) (.str x t)=true:=xl x t
inductive V where
 |non|bl (b:Bool)|int (i:Int)|str (x:Str)|byt (b:Array UInt8)|flt (b:UInt64)|ref (a:Addr)|ty (n:String)
 deriving DecidableEq
def RelV:V->Value->Prop
 | .non,u=>u=Value.none
 | .bl b,u=>u=Value.bool b
 | .int i,u=>∃t,u=Value.int i t
 | .str x,u=>∃t,u=Value.str x t
 | .byt b,u=>∃t,u=Value.bytes b t
 | .flt b,u=>∃t,u=Value.float b t
 | .ref a,u=>u=Value.ref a
 | .ty n,u=>u=Value.type n
abbrev Vals:List V->List Value->Prop:=Paired RelV
def Vals.length {xs:List V}{us:List Value}(r:Vals xs us):xs.length=us.length:=Mj r
theorem Vals.get:∀{xs:List V} {us:List Value} {i:Nat} {x:V},Vals xs us->xs[i]?=some x->∃u,us[i]?=some u/\RelV x u
 |_,_,_,_,.nil,e=>by simp at e
 |_,_,0,_,.cons r _,e=>by simp at e;subst e;exact⟨_,rfl,r⟩
 |_,_,i+1,x,.cons _ t,e=>by
  obtain⟨u,h1,h2⟩:=Vals.get (i:=i) (x:=x) t (by simpa using e);exact⟨u,by simpa using h1,h2⟩
theorem Vals.set {x:V}{u:Value}(r:RelV x u):∀{xs:List V} {us:List Value} (i:Nat),Vals xs us->Vals (xs.set i x) (us.set i u)
 |_,_,_,.nil=> .nil
 |_,_,0,.cons _ t=> .cons r t
 |_,_,i+1,.cons q t=> .cons q (Vals.set r i t)
theorem Vals.append:∀{xs ys:List V} {us ws:List Value},Vals xs us->Vals ys ws->Vals (xs++ys) (us++ws)
 |_,_,_,_,.nil,s=>s
 |_,_,_,_,.cons r t,s=> .cons r (Vals.append t s)
theorem Vals.take:∀{xs:List V} {us:List Value} (n:Nat),Vals xs us->Vals (xs.take n) (us.take n)
 |_,_,0,_=> .nil
 |_,_,_+1,.nil=> .nil
 |_,_,n+1,.cons r t=> .cons r (Vals.take n t)
theorem Vals.drop:∀{xs:List V} {us:List Value} (n:Nat),Vals xs us->Vals (xs.drop n) (us.drop n)
 |_,_,0,r=>r
 |_,_,_+1,.nil=> .nil
 |_,_,n+1,.cons _ t=>Vals.drop n t
def RelO:Option V->Option Value->Prop
 |some v,some u=>RelV v u
 |none,none=>True
 |_,_=>False
def KV {κ:Type}:List (κ×V)->List (κ×Value)->Prop:=Paired fun(p:κ×V) (q:κ×Value)=>p.1=q.1/\RelV p.2 q.2
def kV:i6->V
 | .inl i=> .int i
 | .inr x=> .str x
inductive HO where
 |lst (xs:List V)
 |tup (xs:List V)
 |dK (kvs:List (i6×V))|dT (kvs:List (List i6×V))
 |set (S:Int->Bool) (n:Nat)
 |ins (C dx:Addr) (fs:List (Str×V))
 |own (x:Addr)
 |xd (fs:List (Str×V))
 |met (f x:Addr)
 |rng (lo hi:Int)
 |frz (o:Obj) (u:HO)
 |tbl (ps:Array Value)
 |ext (φ:Heap->Prop)
abbrev Hp:=Addr->Option HO
def upd (H:Hp)(a:Addr)(o:HO):Hp:=λb=>if b=a then some o else H b
theorem d8 {H:Hp}{a:Addr}{o:HO}:upd H a o a=some o:=by unfold upd;rw[if_pos rfl]
theorem b7 {H:Hp}{a b:Addr}{o:HO}(h:b≠a):upd H a o b=H b:=by unfold upd;rw[if_neg h]
def DU {H:Hp}{a b:Addr}{o u:HO}(h:H a=some o)(h':H b=some u)(d:o≠u):a≠b:=by
 intro e;subst e;rw[h] at h';exact d (Mc h')
def d9 {H:Hp}{a b:Addr}{o:HO}(h:H a=some o)(h':H b=none):a≠b:=by
 intro e;subst e;rw[h] at h';cases h'
section
variable (P:Program) (w:World)
def ObjOk (H:Hp)(h:Heap)(a:Addr):HO->Prop
 | .lst xs=>xs.length<=sizeLine/\∃(a_:List Value) (n:Nat),Vals xs a_/\h.get? a=some {cls:= .type "list",data:= .seq a_.toArray n}
 | .tup xs=>xs.length<=sizeLine/\∃a_:List Value,Vals xs a_/\IsTup h a a_.toArray
 | .dK kvs=>kvs.length<=sizeLine/\(a==sysModules)=false/\∃vs,KV kvs vs/\h.DictOf (j7 P w) a vs
 | .dT kvs=>kvs.length<=sizeLine/\(a==sysModules)=false/\∃xs:List (List i6×Addr×Value),
   Paired (fun(p:List i6×V) (q:List i6×Addr×Value)=>p.1=q.1/\H q.2.1=some (.tup (p.1.map kV))/\RelV p.2 q.2.2) kvs xs/\
   ∃o es ep,h.get? a=some o/\o.ExactDict/\o.data= .dict es ep/\es.toList=xs.map (entryOfKey (tupleKind (j7 P w)))/\(xs.map (·.1)).Nodup
 | .set S n=>h.SetOf (intKind P w) a S n
 | .ins C dx fs=>H dx=some (.own a)/\fs.length<=1000/\dx≠a/\h.get? a=some (PySem.W.instObj C dx)/\
   ∃mA,h.Ns1 dx mA/\(∀f,RelO (fs.lookup f) (mA f))/\PySem.Within mA (fs.map (·.1))
 | .own _=>∃o,h.get? a=some o
 | .xd fs=>∃mA,h.Ns1 a mA/\∀f,RelO (fs.lookup f) (mA f)
 | .rng lo hi=>∃t u v,h.get? a=some {cls:= .type "range",data:= .fields #[.int lo t,.int hi u,.int 1 v]}
 | .frz o u=>h.get? a=some o/\ObjOk H h a u
 | .tbl ps=>h.get? a=some {cls:= .none,data:= .fields ps}
 | .met f x=>h.get? a=some (PySem.W.methodObj (.ref f) (.ref x))
 | .ext φ=>φ h/\(∃o,h.get? a=some o)/\∀h1 h2:Heap,φ h1->(∀o,h1.get? a=some o->h2.get? a=some o)->φ h2
def HOk (H:Hp)(h:Heap):Prop:=∀a o,H a=some o->ObjOk P w H h a o
end
section
variable {P:Program} {w:World} {H H':Hp} {h h':Heap} {a:Addr} {o:HO}
def ObjOk.lt (x:ObjOk P w H h a o):a<h.objs.size:=by
 cases o with
 |lst xs=>obtain⟨_,_,_,_,e⟩:=x;exact LU e
 |tup xs=>obtain⟨_,_,_,p⟩:=x;exact p.lt
 |dK kvs=>obtain⟨_,_,_,_,o,_,_,e,_⟩:=x;exact LU e
 |dT kvs=>obtain⟨_,_,_,_,o,_,_,e,_⟩:=x;exact LU e
 |set S n=>obtain⟨o,_,_,_,e,_⟩:=x;exact LU e
 |ins C dx fs=>obtain⟨_,_,_,e,_⟩:=x;exact LU e
 |own y=>obtain⟨_,e⟩:=x;exact LU e
 |xd fs=>obtain⟨_,⟨_,_,_,e,_⟩,_⟩:=x;exact LU e
 |rng lo hi=>obtain⟨_,_,_,e⟩:=x;exact LU e
 |frz ob u=>obtain⟨e,_⟩:=x;exact LU e
 |tbl ps=>exact LU (show h.get? a=some _ from x)
 |met f y=>exact LU (show h.get? a=some _ from x)
 |ext φ=>obtain⟨_,⟨_,e⟩,_⟩:=x;exact LU e
theorem Paired.mapP {α β:Type}{F G:α->β->Prop}:∀{l₁:List α} {l₂:List β},Paired F l₁ l₂->(∀a b,F a b->G a b)->Paired G l₁ l₂
 |_,_,.nil,_=> .nil
 |_,_,.cons r t,f=> .cons (f _ _ r) (Paired.mapP t f)
def Paired.imp' {α β:Type}{F G:α->β->Prop}(f:∀a b,F a b->G a b){l₁:List α}{l₂:List β}(r:Paired F l₁ l₂):Paired G l₁ l₂:=Paired.mapP r f
def ObjOk.stay (x:ObjOk P w H h a o)(k:∀b u,(b=a\/H b=some (.own a))->h.get? b=some u->h'.get? b=some u)
  (ho:∀b,H b=some (.own a)->H' b=some (.own a)) (ht:∀b xs,H b=some (.tup xs)->H' b=some (.tup xs)):ObjOk P w H' h' a o:=by
 induction o with
 |lst xs=>obtain⟨z,a_,n,r,e⟩:=x;exact⟨z,a_,n,r,k _ _ (.inl rfl) e⟩
 |tup xs=>obtain⟨z,a_,r,ob,e,c⟩:=x;exact⟨z,a_,r,ob,k _ _ (.inl rfl) e,c⟩
 |dK kvs=>obtain⟨z,y,vs,r,ob,es,ep,e,c⟩:=x;exact⟨z,y,vs,r,ob,es,ep,k _ _ (.inl rfl) e,c⟩
 |dT kvs=>
  obtain⟨z,y,xs,r,ob,es,ep,e,c⟩:=x
  exact⟨z,y,xs,Paired.mapP r λp q z=>⟨z.1,ht _ _ z.2.1,z.2.2⟩,ob,es,ep,k _ _ (.inl rfl) e,c⟩
 |set S n=>obtain⟨ob,es,ep,t,e,c⟩:=x;exact⟨ob,es,ep,t,k _ _ (.inl rfl) e,c⟩
 |ins C dx fs=>
  obtain⟨d,z,ne,e,mA,⟨od,es,ep,e2,c⟩,r⟩:=x
  exact⟨ho _ d,z,ne,k _ _ (.inl rfl) e,mA,⟨od,es,ep,k _ _ (.inr d) e2,c⟩,r⟩
 |own y=>obtain⟨ob,e⟩:=x;exact⟨ob,k _ _ (.inl rfl) e⟩
 |xd fs=>obtain⟨mA,⟨od,es,ep,e,c⟩,r⟩:=x;exact⟨mA,⟨od,es,ep,k _ _ (.inl rfl) e,c⟩,r⟩
 |rng lo hi=>obtain⟨t,u,v,e⟩:=x;exact⟨t,u,v,k _ _ (.inl rfl) e⟩
 |frz ob u ih=>obtain⟨e,q⟩:=x;exact⟨k _ _ (.inl rfl) e,ih q⟩
 |tbl ps=>
  have e:h.get? a=some {cls:= .none,data:= .fields ps}:=x
  show h'.get? a=some {cls:= .none,data:= .fields ps}
  exact k a _ (.inl rfl) e
 |met f y=>
  have e:h.get? a=some (PySem.W.methodObj (.ref f) (.ref y)):=x
  show h'.get? a=some (PySem.W.methodObj (.ref f) (.ref y))
  exact k a _ (.inl rfl) e
 |ext φ=>obtain⟨p,⟨o,e⟩,st⟩:=x;exact⟨st _ _ p λo q=>k _ _ (.inl rfl) q,⟨o,k _ _ (.inl rfl) e⟩,st⟩
def HOk.lt (x:HOk P w H h)(e:H a=some o):a<h.objs.size:=(x a o e).lt
def HOk.fresh (x:HOk P w H h)(e:h.objs.size<=a):H a=none:=by
 cases q:H a with
 |none=>rfl
 |some u=>exact absurd (LZ (x.lt q) e) (Nb _)
def HOk.kept (x:HOk P w H h)(k:∀b u,h.get? b=some u->h'.get? b=some u):HOk P w H h':=λa o e=>
 (x a o e).stay (λb u _ q=>k b u q) (λ_ q=>q) λ_ _ q=>q
def HOk.laid (x:HOk P w H h)(k:∀b u,h.get? b=some u->h'.get? b=some u)(hp:h.objs.size<=a)(new:ObjOk P w (upd H a o) h' a o):HOk P w (upd H a o) h':=λb u e=>by
 have hn:=x.fresh hp;by_cases hb:b=a
 .subst hb;rw[d8] at e;cases e;exact new
 .rw[b7 hb] at e;exact(x b u e).stay (λc v _ q=>k c v q) (λc q=>by rw[b7 (d9 q hn)];exact q) λc xs q=>by rw[b7 (d9 q hn)];exact q
end
def Rd (H:Hp)(a:Addr)(u:HO):Prop:=H a=some u\/∃o,H a=some (.frz o u)
def Rd.ok {P:Program}{w:World}{H:Hp}{h:Heap}{a:Addr}{u:HO}(r:Rd H a u)(x:HOk P w H h):ObjOk P w H h a u:=by
 rcases r with r|⟨o,r⟩
 .exact x a u r
 .obtain⟨_,q⟩:=x a _ r;exact q
def IC:Option HO->Prop
 |some (.lst _)=>True
 |some (.dK _)=>True
 |some (.dT _)=>True
 |some (.set _ _)=>True
 |some (.ins _ _ _)=>True
 |some (.ext _)=>True
 |_=>False
section
variable {P:Program} {w:World} {H:Hp} {h h':Heap} {x e:Addr} {o':HO}
def HOk.write (ok:HOk P w H h)(mu:IC (H x))(he:e=x\/H e=some (.own x))(k:∀b u,b≠e->h.get? b=some u->h'.get? b=some u)(TV:∃u,h'.get? e=some u)
  (new:ObjOk P w (upd H x o') h' x o'):HOk P w (upd H x o') h':=λb u q=>by
 have Wa:∀c y,H c=some (.own y)->c≠x:=λc y r z=>by subst z;rw[r] at mu;exact mu
 have Yu:∀c xs,H c=some (.tup xs)->c≠x:=λc xs r z=>by subst z;rw[r] at mu;exact mu
 by_cases hb:b=x
 .subst hb;rw[d8] at q;cases q;exact new
 .rw[b7 hb] at q
  by_cases hbe:b=e
  .have q':H b=some (.own x):=by
    rcases he with z|z
    .exact absurd (hbe.trans z) hb
    .rw[hbe];exact z
   rw[q] at q';cases q'
   obtain⟨v,hv⟩:=TV
   exact⟨v,by rw[hbe];exact hv⟩
  .refine(ok b u q).stay (λc v hc r=>k c v ?_ r) (λc r=>by rw[b7 (Wa c b r)];exact r) λc xs r=>by rw[b7 (Yu c xs r)];exact r
   rcases hc with rfl|hc
   .exact hbe
   .rintro rfl
    rcases he with z|z
    .exact Wa c b hc z
    .rw[hc] at z;cases z;exact hb rfl
end
structure Un (fs ex:List Addr) (H H':Hp) (h h':Heap):Prop where
 keep:∀b o,h.get? b=some o->H b=none->b∉fs->b∉ex->h'.get? b=some o
 slot:∀b o,h.get? b=some o->H b=none->b∈fs->b∉ex->∃sl,h'.get? b=some {o with slots:=sl}
 free:∀b o,h.get? b=some o->H b=none->b∉ex->H' b=none
 there:∀b o,h.get? b=some o->b∉ex->∃o',h'.get? b=some o'
 tups:∀b xs,H b=some (.tup xs)->H' b=some (.tup xs)
 frzs:∀b o u,H b=some (.frz o u)->H' b=some (.frz o u)
 tbls:∀b ps,H b=some (.tbl ps)->∃more,H' b=some (.tbl (ps++more))
section
variable {fs fs' ex Tf:List Addr} {H H1 H2:Hp} {h h1 h2 h':Heap} {a x e:Addr} {o:HO}
def Un.any (u:Un fs ex H H1 h h1){b:Addr}{ob:Obj}(q:h.get? b=some ob)(n:H b=none)(hx:b∉ex):∃sl,h1.get? b=some {ob with slots:=sl}:=by
 by_cases hb:b∈fs
 .exact u.slot b ob q n hb hx
 .exact⟨ob.slots,u.keep b ob q n hb hx⟩
def Un.kept (k:∀b u,h.get? b=some u->h'.get? b=some u):Un fs ex H H h h':=
 ⟨λb ob q _ _ _=>k b ob q,λb ob q _ _ _=>⟨ob.slots,k b ob q⟩,λ_ _ _ n _=>n,λb ob q _=>⟨ob,k b ob q⟩,λ_ _ q=>q,λ_ _ _ q=>q,λ_ ps q=>⟨#[],by rw[q];simp⟩⟩
def Un.refl:Un fs ex H H h h:=Un.kept λ_ _ q=>q
def Un.laid (k:∀b u,h.get? b=some u->h'.get? b=some u)(hp:h.objs.size<=a)(hn:H a=none):Un fs ex H (upd H a o) h h' where
 keep:=λb u q _ _ _=>k b u q
 slot:=λb u q _ _ _=>⟨u.slots,k b u q⟩
 free:=λb u q n _=>by rw[b7 (Mf (LZ (LU q) hp))];exact n
 there:=λb u q _=>⟨u,k b u q⟩
 tups:=λb xs q=>by rw[b7 (d9 q hn)];exact q
 frzs:=λb u xs q=>by rw[b7 (d9 q hn)];exact q
 tbls:=λb ps q=>⟨#[],by rw[b7 (d9 q hn),q];simp⟩
def Un.write (mu:IC (H x))(he:e=x\/H e=some (.own x))(k:∀b u,b≠e->h.get? b=some u->h'.get? b=some u)(TV:∃u,h'.get? e=some u):Un fs ex H (upd H x o) h h':=by
 have hx:∀b,H b=none->b≠x:=λb n z=>by subst z;rw[n] at mu;exact mu
 have hb:∀b,H b=none->b≠e:=λb n z=>by
  subst z;rcases he with r|r
  .exact hx b n r
  .rw[n] at r;cases r
 have hm:∀b u,H b=some u->¬IC (some u)->b≠x:=λb u q nm z=>by subst z;rw[q] at mu;exact nm mu
 refine⟨λb u q n _ _=>k b u (hb b n) q,λb u q n _ _=>⟨u.slots,k b u (hb b n) q⟩,λb u q n _=>by rw[b7 (hx b n)];exact n,λb u q _=>?_,
  λb xs q=>by rw[b7 (hm b _ q λz=>z)];exact q,λb u xs q=>by rw[b7 (hm b _ q λz=>z)];exact q,λb ps q=>⟨#[],by rw[b7 (hm b _ q λz=>z),q];simp⟩⟩
 by_cases hbe:b=e
 .subst hbe;exact TV
 .exact⟨u,k b u hbe q⟩
end
def Jq (h:Heap)(H:Hp):List Addr:=(List.range h.objs.size).filter λa=>(H a).isSome
def pZ (h:Heap)(H:Hp):Heap:=PySem.W.hideAll h (Jq h H)
def xY (h:Heap)(H:Hp):(pZ h H).objs.size=h.objs.size:=PySem.W.hideAll_size _ _
def yp {h:Heap}{H:Hp}{b:Addr}{o:Obj}(e:h.get? b=some o)(n:H b=none):(pZ h H).get? b=some o:=
 OR _ e λhm=>by
  have q:(H b).isSome=true:=(LW.mp hm).2;rw[n] at q;simp at q
def Dq {h:Heap}{H:Hp}{b:Addr}{o:Obj}(e:(pZ h H).get? b=some o):h.get? b=some o/\H b=none:=by
 have e':h.get? b=some o:=Qn (Jq h H) e;refine⟨e',?_⟩;cases q:H b with
 |none=>rfl
 |some x=>
  have hm:b∈Jq h H:=LW.mpr ⟨Ou.mpr (LU e'),by simp [q]⟩
  have z:(pZ h H).get? b=none:=PySem.W.hideAll_none (Jq h H) hm
  rw[z] at e;cases e
def CN (g h:Heap)(L:Addr):List (Addr×Obj):=(List.range h.objs.size).filterMap λa=>if a=L\/(g.get? a).isSome=true then none else(h.get? a).map λo=>(a,o)
def Z3 (g h:Heap)(L d:Addr):List (Addr×Obj):=(CN g h L).filter λp=>decide (p.1≠d)
structure Mod (K:Za) (mg:Str->Option Value) (base:Heap):Prop where
 kin:K.In base
 glob:base.Ns mainGlobals mg
 blt:∃mb,base.Ns builtinsNs mb/\∀x:Str,x≠"__name__"->mb x=bootBuiltins x
 nolimit:base.NoLimit
structure Cx where
 prog:Program
 w:World
 K:Za
 mg:Str->Option Value
 base:Heap
 A:Around
 N:List Str
 s₀:Shared
 H₀:Hp
 env:Env
 outer:List Env
 stack:List Env
 ex:List Addr
 fn:Str->Bool
 calm:Bool
 pn:List (Addr×Obj)
 xe:Value->Shared->Prop
def aZ (l:List Env):List Addr:=l.filterMap (·.frame)
abbrev Cx.fs (X:Cx):List Addr:=aZ X.outer
def Kv (sc:Scope)(x:Str):Prop:=sc.names.lookup x=some .local\/sc.names.lookup x=some .cell\/sc.names.lookup x=some .free
def Dx (sc:Scope)(x:Str):Prop:=sc.names.lookup x=some .local\/sc.names.lookup x=some .cell
def JT (env:Env)(h:Heap)(m:Str->Option Value)(x:Str)(u:Value):Prop:=
 (env.kindOf x=some .local/\m x=some u)\/((env.kindOf x=some .cell\/env.kindOf x=some .free)/\∃c,env.cells.lookup x=some c/\h.IsCell c (some u))
structure Cx.Ok (X:Cx):Prop where
 mod:Mod X.K X.mg X.base
 kind:X.env.scope.kind= .function
 glob:X.env.globals=mainGlobals
 blt:X.env.builtins=builtinsNs
 above:X.s₀.heap.objs.size<=X.env.locals
 inj:∀x y c,X.env.cells.lookup x=some c->X.env.cells.lookup y=some c->x=y
 has:∀x,(X.env.kindOf x=some .cell\/X.env.kindOf x=some .free)->∃c,X.env.cells.lookup x=some c
 cab:∀x c,X.fn x=true->X.env.cells.lookup x=some c->X.s₀.heap.objs.size<=c
 hd:X.calm=true->X.A.handled=none
 frames:X.A.frames=some X.stack
 stk:X.stack=X.outer\/(X.stack=X.env::X.outer/\X.env.frame=some X.env.locals)
 exf:∀b∈X.ex,b≠X.env.locals/\∀x c,X.env.cells.lookup x=some c->c≠b
 bs:∀b o,X.base.get? b=some o->X.s₀.heap.get? b=some o/\X.H₀ b=none
 bsz:X.base.objs.size<=X.s₀.heap.objs.size
 noex:∀b o,X.base.get? b=some o->b∉X.ex
 exfs:∀b∈X.ex,b∉X.fs
 funs:X.s₀.heap.FunFrames X.base X.outer
 frf:∀b∈X.fs,X.H₀ b=none
structure Inv (X:Cx) (pins:List (Addr×Obj)) (σ:List (Option V)) (H:Hp) (s:Shared):Prop where
 ok:X.Ok
 os:s.os=X.s₀.os
 bare:AllBare s.gens
 base:Un X.fs X.ex X.H₀ H X.s₀.heap s.heap
 loc:∃m,s.heap.Ns X.env.locals m/\∀(i:Nat) (x:Str) (v:V),X.N[i]?=some x->σ[i]?=some (some v)->Kv X.env.scope x->∃u,RelV v u/\JT X.env s.heap m x u
 cell:∀x c,X.env.cells.lookup x=some c->∃v,s.heap.IsCell c v
 free:H X.env.locals=none
 freeC:∀x c,X.env.cells.lookup x=some c->H c=none
 pin:∀p∈X.pn++pins,s.heap.get? p.1=some p.2/\H p.1=none/\p.1≠X.env.locals/\p.1∉X.fs/\∀v,p.2.data≠ .cell v
 hok:HOk X.prog X.w H s.heap
 len:σ.length=X.N.length
section
variable {X:Cx} {pins:List (Addr×Obj)} {σ:List (Option V)} {H H':Hp} {s:Shared} {h':Heap}
def Cx.Ok.nofr (ok:X.Ok){b:Addr}{o:Obj}(e:X.base.get? b=some o):b∉X.fs:=λhb=>by
 have:=(ok.funs.mem hb).1;rw[e] at this;cases this
def Inv.bs (I:Inv X pins σ H s):∀b o,X.base.get? b=some o->s.heap.get? b=some o/\H b=none:=λb o e=>
 ⟨I.base.keep b o (I.ok.bs b o e).1 (I.ok.bs b o e).2 (I.ok.nofr e) (I.ok.noex b o e),I.base.free b o (I.ok.bs b o e).1 (I.ok.bs b o e).2 (I.ok.noex b o e)⟩
def Inv.bk (I:Inv X pins σ H s):∀b o,X.base.get? b=some o->s.heap.get? b=some o:=λb o e=>(I.bs b o e).1
def Inv.mod (I:Inv X pins σ H s):Mod X.K X.mg X.base:=I.ok.mod
def Inv.kIn (I:Inv X pins σ H s):X.K.In s.heap:=I.ok.mod.kin.keeps I.bk
def Inv.lt (I:Inv X pins σ H s):X.env.locals<s.heap.objs.size:=let ⟨_,hn,_⟩:=I.loc;hn.lt
def Inv.sz (I:Inv X pins σ H s):X.s₀.heap.objs.size<=s.heap.objs.size:=Mb I.ok.above (OU I.lt)
def Inv.nofs (I:Inv X pins σ H s){a:Addr}(h:s.heap.objs.size<=a):a∉X.fs:=λhb=>by
 obtain⟨_,o,ho,_⟩:=I.ok.funs.mem hb;exact absurd (LZ (LU ho) (Mb I.sz h)) (Nb _)
def Inv.cne (I:Inv X pins σ H s):∀x c,X.env.cells.lookup x=some c->c≠X.env.locals:=λx c e z=>by
 obtain⟨v,o,ho,hd⟩:=I.cell x c e;obtain⟨m,⟨o',es,ep,Ue,Wc,_⟩,_⟩:=I.loc;rw[z,Ue] at ho;cases ho;rw[Wc] at hd;cases hd
def Inv.funs (I:Inv X pins σ H s):s.heap.FunFrames X.base X.outer:=by
 have all:∀(l:List Env),(∀b∈aZ l,b∈X.fs)->X.s₀.heap.FunFrames X.base l->s.heap.FunFrames X.base l:=by
  intro l;induction l with
  |nil=>intro _ _;trivial
  |cons env r ih=>
   intro hs hl
   obtain⟨hk,⟨L,o,hf,hn,ho,hd⟩,hr⟩:=hl
   have hL:L∈X.fs:=hs L (by unfold aZ;rw[OS,hf];exact LS)
   obtain⟨sl,e⟩:=I.base.slot L o ho (I.ok.frf L hL) hL λz=>I.ok.exfs L z hL
   exact⟨hk,⟨L,_,hf,hn,e,hd⟩,ih (λb hb=>hs b (by unfold aZ;rw[OS,hf];exact LY _ hb)) hr⟩
 exact all X.outer (λ_ hb=>hb) I.ok.funs
def Inv.stack (I:Inv X pins σ H s):s.heap.FunFrames X.base X.stack:=by
 rcases I.ok.stk with e|⟨e,hf⟩
 .rw[e];exact I.funs
 .rw[e];obtain⟨m,hn,_⟩:=I.loc;refine .cons (by rw[I.ok.kind];decide) hf hn ?_ I.funs;exact Heap.get?_none_of_le (Mb I.ok.bsz I.ok.above)
def Inv.stkSub (I:Inv X pins σ H s):∀b∈aZ X.stack,b∈X.env.locals::X.fs:=λb hb=>by
 rcases I.ok.stk with e|⟨e,hf⟩
 .rw[e] at hb;exact LY _ hb
 .rw[e] at hb;unfold aZ at hb;rw[OS,hf] at hb;exact hb
def Inv.stkFree (I:Inv X pins σ H s):∀b∈aZ X.stack,H b=none:=λb hb=>by
 rcases Mr.mp (I.stkSub b hb) with e|hb
 .rw[e];exact I.free
 .obtain⟨_,o,ho,_⟩:=I.ok.funs.mem hb;exact I.base.free b o ho (I.ok.frf b hb) λz=>I.ok.exfs b z hb
def Inv.step {g':Array GenState}{t':Nat}{d':Drawn}{ch:List Addr}(I:Inv X pins σ H s)
  (RM:∀b∈ch,(b∈X.ex\/X.s₀.heap.objs.size<=b)/\b≠X.env.locals/\(∀x c,X.env.cells.lookup x=some c->c≠b)/\∀p∈X.pn++pins,p.1≠b)
  (keep:∀b o,b≠X.env.locals->b∉X.fs->b∉ch->s.heap.get? b=some o->H b=none->h'.get? b=some o)
  (slot:∀b o,b≠X.env.locals->b∈X.fs->b∉ch->s.heap.get? b=some o->H b=none->∃sl,h'.get? b=some {o with slots:=sl}) (free:∀b o,b∉ch->s.heap.get? b=some o->H b=none->H' b=none)
  (there:∀b o,b∉ch->s.heap.get? b=some o->∃o',h'.get? b=some o')
  (tups:∀b xs,H b=some (.tup xs)->H' b=some (.tup xs)) (frzs:∀b o u,H b=some (.frz o u)->H' b=some (.frz o u)) (tbls:∀b ps,H b=some (.tbl ps)->∃more,H' b=some (.tbl (ps++more)))
  (ns:∀m,s.heap.Ns X.env.locals m->h'.Ns X.env.locals m) (hok:HOk X.prog X.w H' h') (hg:AllBare g'):
  Inv X pins σ H' {s with heap:=h',gens:=g',drawn:=d',toks:=t'}:=by
 have neL:∀b o,X.s₀.heap.get? b=some o->b≠X.env.locals:=λb o e=>Mf (LZ (LU e) I.ok.above)
 have Xy:∀b o,X.s₀.heap.get? b=some o->b∉X.ex->b∉ch:=λb o e hx hb=>by
  rcases(RM b hb).1 with z|z
  .exact hx z
  .exact absurd (LZ (LU e) z) (Nb _)
 have cellK:∀x c,X.env.cells.lookup x=some c->∀v,s.heap.IsCell c v->h'.IsCell c v:=λx c e v ⟨o,ho,hd⟩=>by
  have Wd:c∉ch:=λz=>(RM c z).2.2.1 x c e rfl;by_cases hc:c∈X.fs
  .obtain⟨sl,q⟩:=slot c o (I.cne x c e) hc Wd ho (I.freeC x c e);exact⟨_,q,hd⟩
  .exact⟨o,keep c o (I.cne x c e) hc Wd ho (I.freeC x c e),hd⟩
 refine⟨I.ok,I.os,hg,⟨λb o e n hb hx=>?_,λb o e n hb hx=>?_,λb o e n hx=>?_,λb o e hx=>?_,λb xs e=>tups b xs (I.base.tups b xs e),λb o xs e=>frzs b o xs (I.base.frzs b o xs e),λb ps e=>?_⟩,?_,λx c e=>?_,?_,λx c e=>?_,λp hp=>?_,hok,I.len⟩
 .exact keep b o (neL b o e) hb (Xy b o e hx) (I.base.keep b o e n hb hx) (I.base.free b o e n hx)
 .obtain⟨sl,e1⟩:=I.base.slot b o e n hb hx
  obtain⟨sl',e2⟩:=slot b _ (neL b o e) hb (Xy b o e hx) e1 (I.base.free b o e n hx)
  exact⟨sl',e2⟩
 .obtain⟨o',e1⟩:=I.base.there b o e hx
  exact free b o' (Xy b o e hx) e1 (I.base.free b o e n hx)
 .obtain⟨o',e1⟩:=I.base.there b o e hx
  exact there b o' (Xy b o e hx) e1
 .obtain⟨m1,e1⟩:=I.base.tbls b ps e
  obtain⟨m2,e2⟩:=tbls b _ e1
  exact⟨m1++m2,by rw[e2,Sk]⟩
 .obtain⟨m,hn,hl⟩:=I.loc
  refine⟨m,ns m hn,λi x v e1 e2 e3=>?_⟩
  obtain⟨u,r,l⟩:=hl i x v e1 e2 e3
  refine⟨u,r,?_⟩
  rcases l with l|⟨k,c,e,z⟩
  .exact .inl l
  .exact .inr ⟨k,c,e,cellK x c e _ z⟩
 .obtain⟨v,z⟩:=I.cell x c e
  exact⟨v,cellK x c e v z⟩
 .obtain⟨m,⟨o,_,_,ho,_⟩,_⟩:=I.loc
  exact free _ o (λz=>(RM _ z).2.1 rfl) ho I.free
 .obtain⟨v,o,ho,hd⟩:=I.cell x c e
  exact free c o (λz=>(RM c z).2.2.1 x c e rfl) ho (I.freeC x c e)
 .obtain⟨e,n,ne,nf,d⟩:=I.pin p hp
  have Wd:p.1∉ch:=λz=>(RM p.1 z).2.2.2 p hp rfl
  exact⟨keep p.1 p.2 ne nf Wd e n,free p.1 p.2 Wd e n,ne,nf,d⟩
def Inv.un {t':Nat}(I:Inv X pins σ H s)(u:Un X.fs [] H H' s.heap h')(hok:HOk X.prog X.w H' h'):Inv X pins σ H' {s with heap:=h',toks:=t'}:=by
 obtain⟨m,⟨o,es,ep,ho,r⟩,_⟩:=id I.loc;obtain⟨sl,hL⟩:=u.any ho I.free (by simp);exact I.step (g':=s.gens) (d':=s.drawn) (ch:=[]) (λ_ z=>nomatch z) (λb o _ hb _ e n=>u.keep b o e n hb (by simp)) (λb o _ hb _ e n=>u.slot b o e n hb (by simp)) (λb o _ e n=>u.free b o e n (by simp)) (λb o _ e=>u.there b o e (by simp)) u.tups u.frzs u.tbls (λm' hm=>by
  obtain⟨o',To,We,Ue,r'⟩:=hm;rw[ho] at Ue;cases Ue;exact⟨_,To,We,hL,r'⟩) hok I.bare
def Inv.call {g':Array GenState}{t':Nat}{d':Drawn}{ch:List Addr}(I:Inv X pins σ H s)(u:Un (aZ X.stack) ch H H' s.heap h')(hok:HOk X.prog X.w H' h')(hg:AllBare g')
  (RM:∀b∈ch,(b∈X.ex\/X.s₀.heap.objs.size<=b)/\b≠X.env.locals/\(∀x c,X.env.cells.lookup x=some c->c≠b)/\∀p∈X.pn++pins,p.1≠b):
  Inv X pins σ H' {s with heap:=h',gens:=g',drawn:=d',toks:=t'}:=by
 obtain⟨m,⟨o,es,ep,ho,r⟩,_⟩:=id I.loc
 obtain⟨sl,hL⟩:=u.any ho I.free λz=>(RM _ z).2.1 rfl
 exact I.step (ch:=ch) RM (λb o hL hb hc e n=>u.keep b o e n (λz=>(Mr.mp (I.stkSub b z)).elim hL hb) hc) (λb o _ _ hc e n=>u.any e n hc) (λb o hc e n=>u.free b o e n hc) (λb o hc e=>u.there b o e hc) u.tups u.frzs u.tbls (λm' hm=>by
  obtain⟨o',To,We,Ue,r'⟩:=hm;rw[ho] at Ue;cases Ue;exact⟨_,To,We,hL,r'⟩) hok hg
def Inv.turned {t':Nat}{it:Addr}(I:Inv X pins σ H s)(k:∀b o,b≠it->s.heap.get? b=some o->h'.get? b=some o)(hn:H it=none)(hL:it≠X.env.locals)
  (h1:it∈X.ex\/X.s₀.heap.objs.size<=it) (h2:∀x c,X.env.cells.lookup x=some c->c≠it) (h3:∀p∈X.pn++pins,p.1≠it):Inv X pins σ H {s with heap:=h',toks:=t'}:=by
 have nit:∀b u,H b=some u->b≠it:=λb u e z=>by rw[z,hn] at e;cases e
 refine I.step (g':=s.gens) (d':=s.drawn) (ch:=[it]) (λb hb=>?_) (λb o _ _ hc e _=>k b o (λz=>hc (by simp [z])) e) (λb o _ _ hc e _=>⟨o.slots,k b o (λz=>hc (by simp [z])) e⟩) (λ_ _ _ _ n=>n)
  (λb o hc e=>⟨o,k b o (λz=>hc (by simp [z])) e⟩) (λ_ _ e=>e) (λ_ _ _ e=>e) (λb ps e=>⟨#[],by rw[e];simp⟩) (λm hm=>?_) (λb u e=>?_) I.bare
 .have e:b=it:=by simpa using hb
  subst e
  exact⟨h1,hL,h2,h3⟩
 .obtain⟨o,es,ep,ho,r⟩:=hm
  exact⟨o,es,ep,k _ o (Nr hL) ho,r⟩
 .refine(I.hok b u e).stay (λc v hc q=>k c v ?_ q) (λ_ q=>q) λ_ _ q=>q
  rcases hc with z|z
  .rw[z];exact nit b u e
  .exact nit c _ z
def Inv.tok (I:Inv X pins σ H s)(t:Nat):Inv X pins σ H {s with toks:=t}:=I.un (h':=s.heap) (t':=t) Un.refl I.hok
def Inv.kept {t':Nat}(I:Inv X pins σ H s)(k:∀b u,s.heap.get? b=some u->h'.get? b=some u):Inv X pins σ H {s with heap:=h',toks:=t'}:=I.un (Un.kept k) (I.hok.kept k)
def Inv.laid {a:Addr}{o:HO}{t':Nat}(I:Inv X pins σ H s)(k:∀b u,s.heap.get? b=some u->h'.get? b=some u)(hp:s.heap.objs.size<=a)(new:ObjOk X.prog X.w (upd H a o) h' a o):
  Inv X pins σ (upd H a o) {s with heap:=h',toks:=t'}:=I.un (Un.laid k hp (I.hok.fresh hp)) (I.hok.laid k hp new)
def Inv.write {x e:Addr}{o:HO}{t':Nat}(I:Inv X pins σ H s)(mu:IC (H x))(he:e=x\/H e=some (.own x))(k:∀b u,b≠e->s.heap.get? b=some u->h'.get? b=some u)(TV:∃u,h'.get? e=some u)
  (new:ObjOk X.prog X.w (upd H x o) h' x o):Inv X pins σ (upd H x o) {s with heap:=h',toks:=t'}:=I.un (Un.write mu he k TV) (I.hok.write mu he k TV new)
def Inv.weak {σ':List (Option V)}(I:Inv X pins σ H s)(hl:σ'.length=σ.length)(w:∀(i:Nat) v,σ'[i]?=some (some v)->σ[i]?=some (some v)):Inv X pins σ' H s:=
 ⟨I.ok,I.os,I.bare,I.base,let ⟨m,hn,TX⟩:=I.loc;⟨m,hn,λi x v e1 e2 e3=>TX i x v e1 (w i v e2) e3⟩,I.cell,I.free,I.freeC,I.pin,I.hok,hl.trans I.len⟩
def Inv.pins_of {i':List (Addr×Obj)}(I:Inv X pins σ H s)(h:∀p∈i',s.heap.get? p.1=some p.2/\H p.1=none/\p.1≠X.env.locals/\p.1∉X.fs/\∀v,p.2.data≠ .cell v):Inv X i' σ H s:=
 ⟨I.ok,I.os,I.bare,I.base,I.loc,I.cell,I.free,I.freeC,λp hp=>(LO.mp hp).elim (λz=>I.pin p (LH _ z)) (h p),I.hok,I.len⟩
def qS {N:List Str}(hN:N.Nodup){i j:Nat}{x:Str}(a:N[i]?=some x)(b:N[j]?=some x):i=j:=by
 obtain⟨h1,e1⟩:=MQ.mp a;obtain⟨h2,e2⟩:=MQ.mp b;exact(List.getElem_inj hN).mp (e1.trans e2.symm)
def nN {M:Model}{A:Around}{E:Value->Shared->Prop}{i:Nat}{x:Str}{v:V}{u:Value}{Q:Unit->Shared->Prop}(I:Inv X pins σ H s)(hN:X.N.Nodup)(hi:X.N[i]?=some x)(hx:Dx X.env.scope x)(r:RelV v u)
  (h:∀s',Inv X pins (σ.set i (some v)) H s'->(∃a,Heap.SameBut a s.heap s'.heap/\(a=X.env.locals\/X.env.cells.lookup x=some a))->Q () s') (hf:X.fn x=true\/X.env.scope.names.lookup x=some .local:=by first|exact .inl rfl|exact .inr rfl|assumption):wpAny M A (storeName X.env x u) Q E s:=by
 obtain⟨m,hn,hl⟩:=id I.loc
 have Yv:(X.env.scope.kind== .class||(X.env.scope.kind== .module&&X.env.locals !=X.env.globals))=false:=by rw[I.ok.kind];rfl
 have hiσ:i<σ.length:=by rw[I.len];exact(MQ.mp hi).1
 have cne:=I.cne
 have tracked:∀{a:Addr} {h':Heap},(∃o,s.heap.get? a=some o/\H a=none)->Heap.SameBut a s.heap h'->HOk X.prog X.w H h':=fun{a h'} ha hs b ob e=>by
  obtain⟨_,_,UD⟩:=ha;refine(I.hok b ob e).stay (λc w' hc q=>(hs.2 c ?_).trans q) (λ_ q=>q) λ_ _ q=>q;rintro rfl;rcases hc with rfl|hc
  .rw[UD] at e;cases e
  .rw[UD] at hc;cases hc
 rcases hx with hk|hk
 .refine wpAny_storeName_local hk hn (λh' Wf hs=>?_) Yv
  obtain⟨oL,_,_,hoL,_⟩:=id hn
  refine h _ ⟨I.ok,I.os,I.bare,⟨λb o e n hb hx=>?_,λb o e n hb hx=>?_,I.base.free,λb o e hx=>?_,I.base.tups,I.base.frzs,I.base.tbls⟩,⟨_,Wf,λj y v' e1 e2 e3=>?_⟩,λy c e=>?_,I.free,I.freeC,λp hp=>?_,tracked ⟨oL,hoL,I.free⟩ hs,by simpa using I.len⟩ ⟨_,hs,.inl rfl⟩
  .exact(hs.2 b (Mf (LZ (LU e) I.ok.above))).trans (I.base.keep b o e n hb hx)
  .obtain⟨sl,e1⟩:=I.base.slot b o e n hb hx
   exact⟨sl,(hs.2 b (Mf (LZ (LU e) I.ok.above))).trans e1⟩
  .obtain⟨o',e1⟩:=I.base.there b o e hx
   exact⟨o',(hs.2 b (Mf (LZ (LU e) I.ok.above))).trans e1⟩
  .by_cases hj:j=i
   .subst hj
    rw[hi] at e1;cases e1
    rw[Rk hiσ] at e2
    cases e2
    exact⟨u,r,.inl ⟨hk,by simp⟩⟩
   .rw[RK (Nr hj)] at e2
    obtain⟨u',r',q⟩:=hl j y v' e1 e2 e3
    refine⟨u',r',?_⟩
    rcases q with⟨k,e⟩|⟨k,c,e,z⟩
    .refine .inl ⟨k,?_⟩
     have:y≠x:=λe=>hj (qS hN e1 (e▸hi))
     simp [this,e]
    .exact .inr ⟨k,c,e,z.sameBut hs (cne y c e)⟩
  .obtain⟨w',z⟩:=I.cell y c e
   exact⟨w',z.sameBut hs (cne y c e)⟩
  .obtain⟨e,n,ne,nf,d⟩:=I.pin p hp
   exact⟨(hs.2 p.1 ne).trans e,n,ne,nf,d⟩
 .have UY:X.fn x=true:=by
   rcases hf with z|z
   .exact z
   .rw[z] at hk;cases hk
  obtain⟨c,hc⟩:=I.ok.has x (.inl hk)
  obtain⟨w',z⟩:=I.cell x c hc
  refine wpAny_storeName_cell I.ok.kind hk hc z (λh' SG hs=>?_)
  obtain⟨oc,UZ,U'⟩:=id z
  refine h {s with heap:=h'} ⟨I.ok,I.os,I.bare,⟨λb o e n hb hx=>?_,λb o e n hb hx=>?_,I.base.free,λb o e hx=>?_,I.base.tups,I.base.frzs,I.base.tbls⟩,⟨m,hn.sameBut hs (Nr (cne x c hc)),λj y v' e1 e2 e3=>?_⟩,λy c' e=>?_,I.free,I.freeC,λp hp=>?_,tracked ⟨oc,UZ,I.freeC x c hc⟩ hs,by simpa using I.len⟩ ⟨c,hs,.inr hc⟩
  .exact(hs.2 b (Mf (LZ (LU e) (I.ok.cab x c UY hc)))).trans (I.base.keep b o e n hb hx)
  .obtain⟨sl,e1⟩:=I.base.slot b o e n hb hx
   exact⟨sl,(hs.2 b (Mf (LZ (LU e) (I.ok.cab x c UY hc)))).trans e1⟩
  .obtain⟨o',e1⟩:=I.base.there b o e hx
   exact⟨o',(hs.2 b (Mf (LZ (LU e) (I.ok.cab x c UY hc)))).trans e1⟩
  .by_cases hj:j=i
   .subst hj
    rw[hi] at e1;cases e1
    rw[Rk hiσ] at e2
    cases e2
    exact⟨u,r,.inr ⟨.inl hk,c,hc,SG⟩⟩
   .rw[RK (Nr hj)] at e2
    obtain⟨u',r',q⟩:=hl j y v' e1 e2 e3
    refine⟨u',r',?_⟩
    rcases q with q|⟨k,c',e,z'⟩
    .exact .inl q
    .refine .inr ⟨k,c',e,z'.sameBut hs ?_⟩
     rintro rfl
     exact hj (qS hN e1 (I.ok.inj _ _ _ e hc▸hi))
  .by_cases hcc:c'=c
   .subst hcc;exact⟨_,SG⟩
   .obtain⟨w2,z2⟩:=I.cell y c' e
    exact⟨w2,z2.sameBut hs hcc⟩
  .obtain⟨e,n,ne,nf,d⟩:=I.pin p hp
   refine⟨(hs.2 p.1 ?_).trans e,n,ne,nf,d⟩
   intro q
   rw[q,UZ] at e
   have q':oc=p.2:=Mc e
   exact d w' (by rw[←q'];exact U')
def sj {M:Model}{A:Around}{E:Value->Shared->Prop}{i:Nat}{x:Str}{v:V}{u:Value}{Q:Unit->Shared->Prop}(I:Inv X pins σ H s)(hN:X.N.Nodup)(hi:X.N[i]?=some x)(hx:Dx X.env.scope x)(r:RelV v u)
  (h:∀s',Inv X pins (σ.set i (some v)) H s'->Q () s') (hf:X.fn x=true\/X.env.scope.names.lookup x=some .local:=by first|exact .inl rfl|exact .inr rfl|assumption):wpAny M A (storeName X.env x u) Q E s:=
 nN I hN hi hx r (λs' I' _=>h s' I') hf
def Inv.call' {s':Shared}{ch:List Addr}(I:Inv X pins σ H s)(ho:s'.os=s.os)(u:Un (aZ X.stack) ch H H' s.heap s'.heap)(hok:HOk X.prog X.w H' s'.heap)(hg:AllBare s'.gens)
  (RM:∀b∈ch,(b∈X.ex\/X.s₀.heap.objs.size<=b)/\b≠X.env.locals/\(∀x c,X.env.cells.lookup x=some c->c≠b)/\∀p∈X.pn++pins,p.1≠b):Inv X pins σ H' s':=by
 obtain⟨h',g',d',t',o'⟩:=s'
 have e:o'=s.os:=ho
 subst e
 exact I.call (g':=g') (t':=t') (d':=d') u hok hg RM
end
abbrev XK:=Value->Option Addr->Hp->Prop
abbrev St:=List (Option V)
abbrev VK:=V->Hp->Prop
abbrev TE:=St->Hp->VK->Prop
abbrev TT:=St->Hp->(Bool->Hp->Prop)->Prop
abbrev TA:=St->Hp->(List V->Hp->Prop)->Prop
structure rF where
 nx:St->Hp->Prop
 rt:VK
 bk:St->Hp->Prop:=λ_ _=>False
 ct:St->Hp->Prop:=λ_ _=>False
abbrev TS:=rF->St->Hp->Prop
def EP (X:Cx)(pins:List (Addr×Obj))(σ:St)(Q:VK)(u:Value)(s':Shared):Prop:=∃v H',Inv X pins σ H' s'/\RelV v u/\Q v H'
def TP (X:Cx)(pins:List (Addr×Obj))(σ:St)(Q:Bool->Hp->Prop)(b:Bool)(s':Shared):Prop:=∃H',Inv X pins σ H' s'/\Q b H'
def AP (X:Cx)(pins:List (Addr×Obj))(σ:St)(Q:List V->Hp->Prop)(us:List Value)(s':Shared):Prop:=∃vs H',Inv X pins σ H' s'/\Vals vs us/\Q vs H'
def SP (X:Cx)(pins:List (Addr×Obj))(D:rF)(f:Flow)(s':Shared):Prop:=
 match f with
 | .next=>∃σ' H',Inv X pins σ' H' s'/\D.nx σ' H'
 | .brk=>∃σ' H',Inv X pins σ' H' s'/\D.bk σ' H'
 | .cont=>∃σ' H',Inv X pins σ' H' s'/\D.ct σ' H'
 | .ret u=>∃v σ' H',Inv X pins σ' H' s'/\RelV v u/\D.rt v H'
def PE (X:Cx)(e:Expr)(t:TE):Prop:=
 ∀(pins:List (Addr×Obj)) (s:Shared) (σ:St) (H:Hp) (Q:VK),Inv X pins σ H s->t σ H Q->wpAny (model X.prog X.w) X.A (eval e X.env) (EP X pins σ Q) X.xe s
def PT (X:Cx)(e:Expr)(t:TT):Prop:=
 ∀(pins:List (Addr×Obj)) (s:Shared) (σ:St) (H:Hp) (Q:Bool->Hp->Prop),Inv X pins σ H s->t σ H Q->wpAny (model X.prog X.w) X.A (isTrue e X.env (eval e X.env)) (TP X pins σ Q) X.xe s
def PW (X:Cx)(e:Expr)(t:TT):Prop:=
 ∀(whole:Sem Value) (pins:List (Addr×Obj)) (s:Shared) (σ:St) (H:Hp) (Q:Bool->Hp->Prop),Inv X pins σ H s->t σ H Q->wpAny (model X.prog X.w) X.A (isTrue e X.env whole) (TP X pins σ Q) X.xe s
def PW.pt {X:Cx}{e:Expr}{t:TT}(h:PW X e t):PT X e t:=h _
def PA (X:Cx)(es:List Expr)(t:TA):Prop:=
 ∀(pos:Pos) (pins:List (Addr×Obj)) (s:Shared) (σ:St) (H:Hp) (Q:List V->Hp->Prop),Inv X pins σ H s->t σ H Q->wpAny (model X.prog X.w) X.A (spliced (backTo pos (starEach es X.env))) (AP X pins σ Q) X.xe s
def PS (X:Cx)(st:Stmt)(t:TS):Prop:=
 ∀(pins:List (Addr×Obj)) (s:Shared) (σ:St) (H:Hp) (D:rF),Inv X pins σ H s->t D σ H->wpAny (model X.prog X.w) X.A (exec st X.env) (SP X pins D) X.xe s
def PSs (X:Cx)(st:List Stmt)(t:TS):Prop:=
 ∀(pins:List (Addr×Obj)) (s:Shared) (σ:St) (H:Hp) (D:rF),Inv X pins σ H s->t D σ H->wpAny (model X.prog X.w) X.A (execs st X.env) (SP X pins D) X.xe s
def J0 {α:Type}{t:Sem α}{Q Q':α->Shared->Prop}{M:Model}{A:Around}{E:Value->Shared->Prop}{s:Shared}(h:wpAny M A t Q E s)(hQ:∀a s,Q a s->Q' a s):wpAny M A t Q' E s:=Qd h hQ λ_ _ x=>x
section
variable {X:Cx}
def BL (i:Nat):TE:=λσ H Q=>∃v,σ[i]?=some (some v)/\Q v H
def tC (v:V):TE:=λ_ H Q=>Q v H
def Gj {i:Nat}{x:Str}{pos:Pos}(hN:X.N[i]?=some x)(hv:Kv X.env.scope x)(hd:(x==("__debug__":Str))=false:=by decide)(G':(x==("__classdict__":Str))=false:=by decide):PE X (.Name x pos) (BL i):=by
 intro pins s σ H Q I h;obtain⟨v,e,h⟩:=h;obtain⟨m,hn,hl⟩:=I.loc;obtain⟨u,r,l⟩:=hl i x v hN e hv;have fin:EP X pins σ Q u s:=⟨v,H,I,r,h⟩
 rcases l with⟨hk,hm⟩|⟨hk,c,hc,RY⟩
 .exact wpAny_Name (wpAny_loadName_local I.ok.kind hk hn hm fin) hd
 .rcases hk with hk|hk
  .exact wpAny_Name (wpAny_loadName_cell I.ok.kind hk hc RY fin) hd
  .exact wpAny_Name (wpAny_loadName_free I.ok.kind hk hc RY fin G') hd
def Ez {i j pos}:PE X (.Constant (.int i) j pos) (tC (.int i)):=λ_ _ _ H _ I h=>wpAny_Constant_int ⟨.int i,H,I.tok _,⟨_,rfl⟩,h⟩
def IZ {b j pos}:PE X (.Constant (.bool b) j pos) (tC (.bl b)):=λ_ _ _ H _ I h=>Constant_bool ⟨.bl b,H,I,rfl,h⟩
def Fw {j pos}:PE X (.Constant .none j pos) (tC .non):=λ_ _ _ H _ I h=>Constant_none ⟨.non,H,I,rfl,h⟩
def FW {x j pos}:PE X (.Constant (.str x) j pos) (tC (.str x)):=λ_ _ _ H _ I h=>Calls.Constant_str ⟨.str x,H,I.tok _,⟨_,rfl⟩,h⟩
def Gl (X:Cx)(x:Str):Prop:=X.env.kindOf x=some .globalImplicit
def gh {E:Value->Shared->Prop}{pins:List (Addr×Obj)}{s:Shared}{σ:St}{H:Hp}{x:Str}{u:Value}{pos:Pos}{Q:Value->Shared->Prop}(I:Inv X pins σ H s)(hg:Gl X x)(hm:X.mg x=some u)(h:Q u s)
  (hd:(x==("__debug__":Str))=false:=by decide):wpAny (model X.prog X.w) X.A (eval (.Name x pos) X.env) Q E s:=
 Qj I.ok.kind hg (Calls.loadGlobal_global (by rw[I.ok.glob];exact I.mod.glob.keeps I.bk) hm h) hd
def dh {E:Value->Shared->Prop}{pins:List (Addr×Obj)}{s:Shared}{σ:St}{H:Hp}{x:Str}{u:Value}{pos:Pos}{Q:Value->Shared->Prop}(I:Inv X pins σ H s)(hg:Gl X x)(hm:X.mg x=none)(hv:bootBuiltins x=some u)(h:Q u s)
  (hn:x≠"__name__":=by decide) (hd:(x==("__debug__":Str))=false:=by decide):wpAny (model X.prog X.w) X.A (eval (.Name x pos) X.env) Q E s:=by
 obtain⟨mb,h1,h2⟩:=I.mod.blt
 exact Qj I.ok.kind hg (Calls.loadGlobal_builtin (by rw[I.ok.glob];exact I.mod.glob.keeps I.bk) hm (by rw[I.ok.blt];exact h1.keeps I.bk) ((h2 x hn).trans hv) h) hd
def Cc {x:Str}{v:V}{u:Value}{pos:Pos}(hg:Gl X x)(hm:X.mg x=some u)(r:RelV v u)(hd:(x==("__debug__":Str))=false:=by decide):PE X (.Name x pos) (tC v):=
 λ_ _ _ H _ I h=>gh I hg hm ⟨v,H,I,r,h⟩ hd
def CS {x:Str}{v:V}{u:Value}{pos:Pos}(hg:Gl X x)(hm:X.mg x=none)(hv:bootBuiltins x=some u)(r:RelV v u)(hn:x≠"__name__":=by decide)(hd:(x==("__debug__":Str))=false:=by decide):PE X (.Name x pos) (tC v):=
 λ_ _ _ H _ I h=>dh I hg hm hv ⟨v,H,I,r,h⟩ hn hd
variable {a b:Expr} {ta tb:TE} {pos:Pos}
def RelV.none_iff {x:V}{v:Value}(r:RelV x v):(v==Value.none)=decide (x= .non):=by grind [cases V,RelV]
def tB (t:TE):TT:=λσ H Q=>t σ H λx H1=>∃c,x= .bl c/\Q c H1
variable {tA Ug:TT} {Z3:List Expr}
def Gz (t u:TT):TT:=λσ H Q=>t σ H λc H1=>if c=true then u σ H1 Q else Q false H1
def JN (t u:TT):TT:=λσ H Q=>t σ H λc H1=>if c=true then Q true H1 else u σ H1 Q
def Et (t:TT):TT:=λσ H Q=>t σ H λc H1=>Q (!c) H1
def CP (ha:PT X a tA):PW X (.BoolOp .And [a] pos) tA:=by
 intro wh pins s σ H Q I h;refine isTrue_and (J0 (ha pins s σ H Q I h) λc s1 e=>?_);cases c with
 |true=>exact isTrue_and_nil e
 |false=>exact e
def EL (ha:PT X a tA):PW X (.BoolOp .Or [a] pos) tA:=by
 intro wh pins s σ H Q I h;refine isTrue_or (J0 (ha pins s σ H Q I h) λc s1 e=>?_);cases c with
 |false=>exact isTrue_or_nil e
 |true=>exact e
def GF (ha:PT X a tA)(hb:PW X (.BoolOp .And (b::Z3) pos) Ug):PW X (.BoolOp .And (a::b::Z3) pos) (Gz tA Ug):=by
 intro wh pins s σ H Q I h;refine isTrue_and (J0 (ha pins s σ H _ I h) λc s1 ⟨H1,I1,q1⟩=>?_);cases c with
 |true=>exact hb wh pins s1 σ H1 Q I1 q1
 |false=>exact⟨H1,I1,q1⟩
def HI (ha:PT X a tA)(hb:PW X (.BoolOp .Or (b::Z3) pos) Ug):PW X (.BoolOp .Or (a::b::Z3) pos) (JN tA Ug):=by
 intro wh pins s σ H Q I h;refine isTrue_or (J0 (ha pins s σ H _ I h) λc s1 ⟨H1,I1,q1⟩=>?_);cases c with
 |true=>exact⟨H1,I1,q1⟩
 |false=>exact hb wh pins s1 σ H1 Q I1 q1
def Fy (ha:PT X a tA):PT X (.UnaryOp .Not a pos) (Et tA):=by
 intro pins s σ H Q I h;exact isTrue_not (ha pins s σ H (λc H1=>Q (!c) H1) I h)
def yO (ta tb:TE):TE:=λσ H Q=>ta σ H λx H1=>∃c,x= .bl c/\if c=true then tb σ H1 Q else Q (.bl false) H1
def EA (ta tb:TE):TE:=λσ H Q=>ta σ H λx H1=>∃c,x= .bl c/\if c=true then Q (.bl true) H1 else tb σ H1 Q
def By (ta:TE):TE:=λσ H Q=>ta σ H λx H1=>∃c,x= .bl c/\Q (.bl (!c)) H1
def EX {op}{t:TE}(h:PE X a t):PE X (.BoolOp op [a] pos) t:=λpins s σ H Q I hw=>BoolOp_one (h pins s σ H Q I hw)
def DY (ha:PE X a ta)(hb:PE X (.BoolOp .And (b::Z3) pos) tb):PE X (.BoolOp .And (a::b::Z3) pos) (yO ta tb):=by
 intro pins s σ H Q I h;refine BoolOp_and (J0 (ha pins s σ H _ I h) λv s1 ⟨x,H1,I1,r1,q1⟩=>?_);obtain⟨c,rfl,q1⟩:=q1;cases r1;refine Nz ?_;cases c with
 |true=>exact hb pins s1 σ H1 Q I1 q1
 |false=>exact⟨.bl false,H1,I1,rfl,q1⟩
def GS (ha:PE X a ta)(hb:PE X (.BoolOp .Or (b::Z3) pos) tb):PE X (.BoolOp .Or (a::b::Z3) pos) (EA ta tb):=by
 intro pins s σ H Q I h;refine BoolOp_or (J0 (ha pins s σ H _ I h) λv s1 ⟨x,H1,I1,r1,q1⟩=>?_);obtain⟨c,rfl,q1⟩:=q1;cases r1;refine Nz ?_;cases c with
 |false=>exact hb pins s1 σ H1 Q I1 q1
 |true=>exact⟨.bl true,H1,I1,rfl,q1⟩
def EZ (ha:PE X a ta):PE X (.UnaryOp .Not a pos) (By ta):=by
 intro pins s σ H Q I h;refine UnaryOp_ (J0 (ha pins s σ H _ I h) λv s1 ⟨x,H1,I1,r1,q1⟩=>?_);obtain⟨c,rfl,q1⟩:=q1;cases r1;exact not_of (Nz ⟨.bl (!c),H1,I1,rfl,q1⟩)
def Ks (t:TT)(ta tb:TE):TE:=λσ H Q=>t σ H λc H1=>if c=true then ta σ H1 Q else tb σ H1 Q
def zZ {c:Expr}(hc:PT X c tA)(ha:PE X a ta)(hb:PE X b tb):PE X (.IfExp c a b pos) (Ks tA ta tb):=by
 intro pins s σ H Q I h;refine wpAny_IfExp (J0 (hc pins s σ H _ I h) λd s1 ⟨H1,I1,q1⟩=>?_);cases d with
 |true=>exact ha pins s1 σ H1 Q I1 q1
 |false=>exact hb pins s1 σ H1 Q I1 q1
end
def SqL (K:Za)(H:Hp)(a:Addr)(xs:List V):Prop:=
 Rd H a (.lst xs)\/
  ∃(o:Obj) (a_:Array Value) (n:Nat),K.lookup a=some o/\o.cls= .type "list"/\o.dict=none/\o.data= .seq a_ n/\a_.size<=sizeLine/\Vals xs a_.toList
def SqT (K:Za)(H:Hp)(a:Addr)(xs:List V):Prop:=
 Rd H a (.tup xs)\/
  ∃(o:Obj) (a_:Array Value) (n:Nat),K.lookup a=some o/\o.cls= .type "tuple"/\o.data= .seq a_ n/\a_.size<=sizeLine/\Vals xs a_.toList
def Hu:Value->Option V
 | .none=>some .non
 | .bool b=>some (.bl b)
 | .int i _=>some (.int i)
 | .str x _=>some (.str x)
 | .bytes b _=>some (.byt b)
 | .float b _=>some (.flt b)
 | .ref a=>some (.ref a)
 | .type n=>some (.ty n)
 |_=>none
def RelV.abs {x:V}{u:Value}(r:RelV x u):Hu u=some x:=by grind [cases V,RelV,Hu]
def RelV.inj {x y:V}{u:Value}(r:RelV x u)(q:RelV y u):x=y:=Mc (r.abs.symm.trans q.abs)
theorem Vals.inj:∀{xs ys:List V} {us:List Value},Vals xs us->Vals ys us->xs=ys
 |_,_,_,.nil,.nil=>rfl
 |_,_,_,.cons r t,.cons r' t'=>by rw[r.inj r',Vals.inj t t']
section
variable {X:Cx} {pins:List (Addr×Obj)} {σ:St} {H:Hp} {s:Shared} {a:Addr} {xs ys:List V}
def SqL.of {K:Za}(h:H a=some (.lst xs)):SqL K H a xs:= .inl (.inl h)
def SqT.of {K:Za}(h:H a=some (.tup xs)):SqT K H a xs:= .inl (.inl h)
def Inv.list (I:Inv X pins σ H s)(h:SqL X.K H a xs):∃a_:List Value,Vals xs a_/\PlainL s.heap a a_.toArray/\xs.length<=sizeLine:=by
 rcases h with h|⟨o,a_,n,hk,hc,hd,hs,hz,r⟩
 .obtain⟨z,a_,n,r,e⟩:=h.ok I.hok;exact⟨a_,r,⟨_,n,e,rfl,rfl,rfl⟩,z⟩
 .refine⟨a_.toList,r,⟨o,n,I.kIn a o hk,hc,hd,by simpa using hs⟩,?_⟩;have e:=r.length;simp only[Og] at e;lia
def Inv.tuple (I:Inv X pins σ H s)(h:SqT X.K H a xs):∃a_:List Value,Vals xs a_/\IsTup s.heap a a_.toArray/\xs.length<=sizeLine:=by
 rcases h with h|⟨o,a_,n,hk,hc,hs,hz,r⟩
 .obtain⟨z,a_,r,p⟩:=h.ok I.hok;exact⟨a_,r,p,z⟩
 .refine⟨a_.toList,r,⟨o,I.kIn a o hk,hc,n,by simpa using hs⟩,?_⟩;have e:=r.length;simp only[Og] at e;lia
def Inv.list_inj (I:Inv X pins σ H s)(h:SqL X.K H a xs)(h':SqL X.K H a ys):xs=ys:=by
 obtain⟨a_,r,⟨o,n,e,_,_,d⟩,_⟩:=I.list h;obtain⟨its',r',⟨o',n',e',_,_,d'⟩,_⟩:=I.list h';rw[e] at e';cases e';rw[d] at d';injection d' with d1 _
 have:a_=its':=by simpa using Na Array.toList d1
 subst this;exact r.inj r'
def Inv.tuple_inj (I:Inv X pins σ H s)(h:SqT X.K H a xs)(h':SqT X.K H a ys):xs=ys:=by
 obtain⟨a_,r,⟨o,e,_,n,d⟩,_⟩:=I.tuple h;obtain⟨its',r',⟨o',e',_,n',d'⟩,_⟩:=I.tuple h';rw[e] at e';cases e';rw[d] at d';injection d' with d1 _
 have:a_=its':=by simpa using Na Array.toList d1
 subst this;exact r.inj r'
end
abbrev Cx.wish (X:Cx)(E:Value->Shared->Prop):Cx:={X with xe:=E}
abbrev Cx.nox (X:Cx):Cx:=X.wish λ_ _=>False
def Cx.Ok.wish {X:Cx}(ok:X.Ok)(E:Value->Shared->Prop):(X.wish E).Ok:=
 ⟨ok.mod,ok.kind,ok.glob,ok.blt,ok.above,ok.inj,ok.has,ok.cab,ok.hd,ok.frames,ok.stk,ok.exf,ok.bs,ok.bsz,ok.noex,ok.exfs,ok.funs,ok.frf⟩
def Cx.Ok.unwish {X:Cx}{E:Value->Shared->Prop}(ok:(X.wish E).Ok):X.Ok:=
 ⟨ok.mod,ok.kind,ok.glob,ok.blt,ok.above,ok.inj,ok.has,ok.cab,ok.hd,ok.frames,ok.stk,ok.exf,ok.bs,ok.bsz,ok.noex,ok.exfs,ok.funs,ok.frf⟩
section
variable {X:Cx} {pins:List (Addr×Obj)} {σ:St} {H:Hp} {s:Shared} {E:Value->Shared->Prop}
def Inv.wish (I:Inv X pins σ H s)(E:Value->Shared->Prop):Inv (X.wish E) pins σ H s:=⟨I.ok.wish E,I.os,I.bare,I.base,I.loc,I.cell,I.free,I.freeC,I.pin,I.hok,I.len⟩
def Inv.unwish (I:Inv (X.wish E) pins σ H s):Inv X pins σ H s:=⟨I.ok.unwish,I.os,I.bare,I.base,I.loc,I.cell,I.free,I.freeC,I.pin,I.hok,I.len⟩
def SP.unwish {D:rF}{f:Flow}{s':Shared}(h:SP (X.wish E) pins D f s'):SP X pins D f s':=by
 cases f with
 |next=>obtain⟨σ',H',I,q⟩:=h;exact⟨σ',H',I.unwish,q⟩
 |brk=>obtain⟨σ',H',I,q⟩:=h;exact⟨σ',H',I.unwish,q⟩
 |cont=>obtain⟨σ',H',I,q⟩:=h;exact⟨σ',H',I.unwish,q⟩
 |ret u=>obtain⟨v,σ',H',I,r,q⟩:=h;exact⟨v,σ',H',I.unwish,r,q⟩
def PSs.nox {st:List Stmt}{t:TS}(h:PSs X.nox st t):PSs X st t:=λpins s σ H D I hw=>
 Qd (h pins s σ H D (I.wish _) hw) (λ_ _ q=>q.unwish) λ_ _ z=>False.elim z
end
section
variable {X:Cx} {st:Stmt} {Z3:List Stmt} {t u:TS} {e:Expr} {te:TE} {pos:Pos}
def AZ:TS:=λD σ H=>D.nx σ H
def xV (t u:TS):TS:=λD σ H=>t {D with nx:=u D} σ H
def Cb:PSs X [] AZ:=λ_ _ σ H _ I h=>OZ ⟨σ,H,I,h⟩
def zT (h1:PS X st t)(h2:PSs X Z3 u):PSs X (st::Z3) (xV t u):=by
 intro pins s σ H D I h;refine wpAny_execs_cons (J0 (h1 pins s σ H {D with nx:=u D} I h) λf s1 q=>?_);cases f with
 |next=>
  obtain⟨σ',H',I',q⟩:=q
  exact h2 pins s1 σ' H' D I' q
 |ret v=>exact q
 |brk=>exact q
 |cont=>exact q
def CL (h1:PS X st t):PSs X [st] t:=by
 intro pins s σ H D I h;refine wpAny_execs_cons (J0 (h1 pins s σ H D I h) λf s1 q=>?_);cases f with
 |next=>exact OZ q
 |ret v=>exact q
 |brk=>exact q
 |cont=>exact q
def Inv.quiet {pins:List (Addr×Obj)}{σ:St}{H:Hp}{s:Shared}(I:Inv X pins σ H s):interactive X.env=false:=by simp [interactive,I.ok.kind]
def Br (te:TE):TS:=λD σ H=>te σ H λ_ H1=>D.nx σ H1
def CK (he:PE X e te)(hs:swapsWith e none pos.line X.env=pure false:=by rfl):PS X (.Expr e pos) (Br te):=by
 intro pins s σ H D I h;exact wpAny_Expr_any (J0 (he pins s σ H _ I h) λv s1 ⟨x,H1,I1,r1,q1⟩=>⟨σ,H1,I1,q1⟩) I.quiet hs
def EN (te:TE):TS:=λD σ H=>te σ H D.rt
def Eh (he:PE X e te):PS X (.Return (some e) pos) (EN te):=by
 intro pins s σ H D I h;exact wpAny_Return_some (J0 (he pins s σ H _ I h) λv s1 ⟨x,H1,I1,r1,q1⟩=>⟨x,σ,H1,I1,r1,q1⟩)
def Ge (c:TT)(t u:TS):TS:=λD σ H=>c σ H λb H1=>if b=true then t D σ H1 else u D σ H1
def IM {c:Expr}{a b:List Stmt}{tc:TT}(hc:PT X c tc)(ha:PSs X a t)(hb:PSs X b u):PS X (.If c a b pos) (Ge tc t u):=by
 intro pins s σ H D I h;refine wpAny_If (J0 (hc pins s σ H _ I h) λd s1 ⟨H1,I1,q1⟩=>?_);cases d with
 |true=>exact ha pins s1 σ H1 D I1 q1
 |false=>exact hb pins s1 σ H1 D I1 q1
end
abbrev TG:=V->St->Hp->(St->Hp->Prop)->Prop
abbrev ue:=List V->St->Hp->(St->Hp->Prop)->Prop
def PG (X:Cx)(target:Expr)(t:TG):Prop:=
 ∀(pins:List (Addr×Obj)) (s:Shared) (σ:St) (H:Hp) (v:V) (u:Value) (Q:St->Hp->Prop),Inv X pins σ H s->RelV v u->t v σ H Q->
  wpAny (model X.prog X.w) X.A (assign target X.env u) (λ_ s'=>∃σ' H',Inv X pins σ' H' s'/\Q σ' H') X.xe s
def CY (X:Cx)(ts:List Expr)(t:ue):Prop:=
 ∀(pins:List (Addr×Obj)) (s:Shared) (σ:St) (H:Hp) (vs:List V) (us:List Value) (Q:St->Hp->Prop),Inv X pins σ H s->Vals vs us->t vs σ H Q->
  wpAny (model X.prog X.w) X.A (assignInOrder ((assignEach ts X.env).map (·.2)) us) (λ_ s'=>∃σ' H',Inv X pins σ' H' s'/\Q σ' H') X.xe s
abbrev tf:=V->V->V->Hp->(Hp->Prop)->Prop
def xG (X:Cx)(t:tf):Prop:=
 ∀(pins:List (Addr×Obj)) (s:Shared) (σ:St) (H:Hp) (o i v:V) (ov iv u:Value) (Q:Hp->Prop),Inv X pins σ H s->RelV o ov->RelV i iv->RelV v u->t o i v H Q->
  wpAny (model X.prog X.w) X.A (setItem ov iv u) (λ_ s'=>∃H',Inv X pins σ H' s'/\Q H') X.xe s
section
variable {X:Cx} {pos:Pos}
def O5 (i:Nat):TG:=λv σ H Q=>Q (σ.set i (some v)) H
def Cj {i:Nat}{x:Str}(hN:X.N.Nodup)(hi:X.N[i]?=some x)(hx:Dx X.env.scope x)(hf:X.fn x=true\/X.env.scope.names.lookup x=some .local:=by first|exact .inl rfl|exact .inr rfl|assumption):PG X (.Name x pos) (O5 i):=by
 intro pins s σ H v u Q I r h;exact wpAny_assign_Name (sj I hN hi hx r (λs' I'=>⟨_,H,I',h⟩) hf)
def GH:ue:=λvs σ H Q=>vs=[]/\Q σ H
def vM (t:TG)(u:ue):ue:=λvs σ H Q=>∃v r,vs=v::r/\t v σ H λσ' H'=>u r σ' H' Q
def Dh:CY X [] GH:=by
 intro pins s σ H vs us Q I r h;obtain⟨e,h⟩:=h;subst e;cases r;exact assignInOrder_nil ⟨σ,H,I,h⟩
def Be {e:Expr}{es:List Expr}{t:TG}{u:ue}(h1:PG X e t)(h2:CY X es u)
  (hs:(assignEach (e::es) X.env).map (·.2)=assign e X.env::(assignEach es X.env).map (·.2):=by rfl):CY X (e::es) (vM t u):=by
 intro pins s σ H vs us Q I r h
 obtain⟨v,vr,e1,h⟩:=h
 subst e1
 cases r with
 |cons r rr=>
  rw[hs]
  refine assignInOrder_cons (J0 (h1 pins s σ H _ _ _ I r h) λ_ s1 ⟨σ1,H1,I1,q1⟩=>?_)
  exact h2 pins s1 σ1 H1 _ _ Q I1 rr q1
def zL (K:Za)(n:Nat)(t:ue):TG:=λv σ H Q=>∃a xs,v= .ref a/\SqT K H a xs/\xs.length=n/\t xs σ H Q
def Gq {es:List Expr}{k:Nat}{t:ue}{n:Nat}(hc:X.calm=true)(h:CY X es t)
  (hn:(assignEach es X.env).length=n:=by rfl) (Tp:(assignEach es X.env).findIdx? (·.1)=none:=by rfl):PG X (.Tuple es k pos) (zL X.K n t):=by
 intro pins s σ H v u Q I r hw
 obtain⟨a,xs,e1,hq,hl,hw⟩:=hw
 subst e1
 cases r
 obtain⟨a_,rv,ht,hz⟩:=I.tuple hq
 refine assign_Tuple_tuple (I.ok.hd hc) ht (by simp [hn,←hl,rv.length]) Tp λh' hx=>?_
 have I1:Inv X pins σ H {s with heap:=h'}:=I.kept (t':=s.toks) λb o e=>hx b o (Mf (LU e)) e
 exact h pins _ σ H xs _ Q I1 (by simpa using rv) hw
def Fs (to ti:TE)(t:tf):TG:=λv σ H Q=>to σ H λo H1=>ti σ H1 λi H2=>t o i v H2 λH3=>Q σ H3
def Fz {o i:Expr}{to ti:TE}{t:tf}(ho:PE X o to)(hi:PE X i ti)(hs:xG X t)
  (ha:∀v,assign (.Subscript o i pos) X.env v=(do
   let ov←holding [v] (eval o X.env)
   let iv←holding [v,ov] (eval i X.env)
   standAt pos
   holding [v,ov,iv] (setItem ov iv v)
   release [v,ov,iv] []):=by intro _;rfl):PG X (.Subscript o i pos) (Fs to ti t):=by
 intro pins s σ H v u Q I r h
 rw[ha]
 refine LG (MS (J0 (ho pins s σ H _ I h) λov s1 ⟨x,H1,I1,r1,q1⟩=>?_))
 refine LG (MS (J0 (hi pins s1 σ H1 _ I1 q1) λiv s2 ⟨y,H2,I2,r2,q2⟩=>?_))
 refine LG (Sl (LG (MS (J0 (hs pins s2 σ H2 x y v ov iv u _ I2 r1 r2 r q2) λ_ s3 ⟨H3,I3,q3⟩=>?_))))
 exact wpAny_release ⟨σ,H3,I3,q3⟩
def uC (te:TE)(g:TG):TS:=λD σ H=>te σ H λx H1=>g x σ H1 D.nx
def Ey {tg e:Expr}{te:TE}{g:TG}(he:PE X e te)(hg:PG X tg g)(hs:swapsWithSole [tg] e pos.line X.env=pure false:=by rfl)(hw:swappedStores [tg] e X.env=pure none:=by rfl)
  (h1:(assignEach [tg] X.env).map (·.2)=[assign tg X.env]:=by rfl):PS X (.Assign [tg] e pos) (uC te g):=by
 intro pins s σ H D I h
 refine wpAny_Assign_stores (J0 (he pins s σ H _ I h) λv s1 ⟨x,H1,I1,r1,q1⟩=>?_) hs hw
 rw[h1]
 exact J0 (hg pins s1 σ H1 x v _ I1 r1 q1) λ_ s2 q=>q
def EC {i:Nat}{x:Str}{e:Expr}{te:TE}{pos':Pos}(hN:X.N.Nodup)(hi:X.N[i]?=some x)(hx:Dx X.env.scope x)(he:PE X e te)(hs:swapsWith e (some (.Name x pos')) pos.line X.env=pure false:=by rfl)(hf:X.fn x=true\/X.env.scope.names.lookup x=some .local:=by first|exact .inl rfl|exact .inr rfl|assumption):
  PS X (.Assign [.Name x pos'] e pos) (uC te (O5 i)):=by
 intro pins s σ H D I h
 refine wpAny_Assign_Name (J0 (he pins s σ H _ I h) λv s1 ⟨y,H1,I1,r1,q1⟩=>?_) hs
 exact sj I1 hN hi hx r1 (λs2 I2=>⟨_,H1,I2,q1⟩) hf
end
section
variable {X:Cx} {pos:Pos}
def AB (c:TT)(tb:TS):TS:=λD σ H=>∃W:Nat->St->Hp->Prop,(∃m,W m σ H)/\∀m σ H,W m σ H->
 c σ H λb H1=>if b=true then ∃N:St->Hp->Prop,(∀σ' H',N σ' H'->∃m',m'<m/\W m' σ' H')/\tb {D with nx:=N,ct:=N,bk:=D.nx} σ H1 else D.nx σ H1
def Bg {c:Expr}{body:List Stmt}{tc:TT}{tb:TS}(hp:PassesOwn (model X.prog X.w) X.A X.env X.xe)(hc:PT X c tc)(hb:PSs X body tb):PS X (.While c body [] pos) (AB tc tb):=by
 intro pins s σ H D I h;obtain⟨W,⟨m0,w0⟩,turn⟩:=h;refine wpAny_While (codeAny_whileLoop (λn s'=>∃σ' H',Inv X pins σ' H' s'/\W n σ' H') ?_ m0 ⟨σ,H,I,w0⟩);rintro n s1 ⟨σ1,H1,I1,w1⟩;refine NZ hp (J0 (hc pins s1 σ1 H1 _ I1 (turn n σ1 H1 w1)) λb s2 ⟨H2,I2,q2⟩=>?_);cases b with
 |true=>
  obtain⟨N,hN,q2⟩:=q2
  rw[if_pos rfl]
  refine NZ hp (J0 (hb pins s2 σ1 H2 _ I2 q2) λf s3 q3=>?_)
  cases f with
  |next=>
   obtain⟨σ3,H3,I3,n3⟩:=q3
   obtain⟨m',hm,w3⟩:=hN σ3 H3 n3
   exact⟨m',hm,σ3,H3,I3,w3⟩
  |cont=>
   obtain⟨σ3,H3,I3,n3⟩:=q3
   obtain⟨m',hm,w3⟩:=hN σ3 H3 n3
   exact⟨m',hm,σ3,H3,I3,w3⟩
  |brk=>exact q3
  |ret v=>exact q3
 |false=>
  rw[if_neg Ms]
  exact OZ ⟨σ1,H2,I2,q2⟩
end
structure It where
 go:Nat->Hp->Prop
 yld:Nat->Hp->V->Hp->Prop
 stop:Nat->Hp->Prop
def gc (X:Cx)(pins:List (Addr×Obj))(H:Hp)(b:Addr):Prop:=
 H b=none/\b≠X.env.locals/\b∉X.fs/\(b∈X.ex\/X.s₀.heap.objs.size<=b)/\(∀x c,X.env.cells.lookup x=some c->c≠b)/\∀p∈X.pn++pins,p.1≠b
def Inv.fpOk {X:Cx}{pins:List (Addr×Obj)}{σ:St}{H H':Hp}{s:Shared}{b:Addr}(I:Inv X pins σ H s)(hb:s.heap.objs.size<=b)(hn:H' b=none):gc X pins H' b:=by
 refine⟨hn,Qp (LZ I.lt hb),I.nofs hb,.inr (Mb I.sz hb),λx c e z=>?_,λp hp z=>?_⟩
 .obtain⟨v,q⟩:=I.cell x c e;exact absurd (LZ q.lt (by rw[z];exact hb)) (Nb _)
 .exact absurd (LZ (LU (I.pin p hp).1) (by rw[z];exact hb)) (Nb _)
structure fQ (P:Program) (w:World) (K:Za) (tg:Expr) (J:It) (fp:List Addr) (it:Addr) (tn:Nat->Heap->Prop):Prop where
 mem:it∈fp
 obj:∀i h,tn i h->∀b∈fp,∃o,h.get? b=some o/\∀v,o.data≠ .cell v
 keep:∀i h h',tn i h->(∀b∈fp,∀o,h.get? b=some o->h'.get? b=some o)->tn i h'
 item:∀(X:Cx),X.prog=P->X.w=w->X.K=K->X.calm=true->∀(i:Nat) (pins:List (Addr×Obj)) (s:Shared) (σ:St) (H:Hp) (E:Value->Shared->Prop),Inv X pins σ H s->(∀b∈fp,gc X pins H b)->tn i s.heap->J.go i H->
  wpAny (model P w) X.A (pyNext (.ref it)) (λr s1=>∃u,r=some u/\
   wpAny (model P w) X.A (letOwnedTupleGo tg (.ref it) u) (λ_ s2=>∃x H',Inv X pins σ H' s2/\RelV x u/\J.yld i H x H'/\tn (i+1) s2.heap/\∀b∈fp,H' b=none) E s1) E s
 done:∀(X:Cx),X.prog=P->X.w=w->X.K=K->X.calm=true->∀(i:Nat) (pins:List (Addr×Obj)) (s:Shared) (σ:St) (H:Hp) (E:Value->Shared->Prop),Inv X pins σ H s->(∀b∈fp,gc X pins H b)->tn i s.heap->J.stop i H->
  wpAny (model P w) X.A (pyNext (.ref it)) (λr s1=>r=none/\Inv X pins σ H s1) E s
 self:∀(A:Around) (i:Nat) (s:Shared) (Q:Value->Shared->Prop) (E:Value->Shared->Prop),tn i s.heap->Q (.ref it) s->wpAny (model P w) A (pyIter (.ref it)) Q E s
abbrev TI:=St->Hp->(It->Hp->Prop)->Prop
def JD (X:Cx)(pins:List (Addr×Obj))(σ:St)(tg:Expr)(R:It->Hp->Prop)(Wg:Value)(s2:Shared):Prop:=
 ∃(it:Addr) (fp:List Addr) (tn:Nat->Heap->Prop) (J:It) (H':Hp),Wg= .ref it/\Inv X pins σ H' s2/\fQ X.prog X.w X.K tg J fp it tn/\tn 0 s2.heap/\(∀b∈fp,gc X pins H' b)/\R J H'
def PI (X:Cx)(tg iter:Expr)(wi:TI):Prop:=
 ∀(pins:List (Addr×Obj)) (s:Shared) (σ:St) (H:Hp) (R:It->Hp->Prop),Inv X pins σ H s->wi σ H R->
  wpAny (model X.prog X.w) X.A (eval iter X.env) (λv s1=>wpAny (model X.prog X.w) X.A (pyIter v) (JD X pins σ tg R) X.xe s1) X.xe s
def qr {M : Model} {A : Around} {E : Value -> Shared -> Prop} {s : Shared} {tg : Expr} {it : Addr} {u : Value} {o : Obj} {n : String} {vs : Array Value} {Q : Unit -> Shared -> Prop} (ho : s.heap.get? it = some o) (hc : o.cls = .type n) (hd : o.data = .fields vs)
    (hn : ["enumerate", "zip", "dict_itemiterator", "dict_reverseitemiterator", "odict_iterator", "itertools.zip_longest", "itertools.pairwise"].contains n = false) (hQ : Q () s) : wpAny M A (letOwnedTupleGo tg (.ref it) u) Q E s := by
  unfold letOwnedTupleGo
  cases tg <;> first
    | exact LR hQ
    | (cases u <;> first
        | exact LR hQ
        | (refine LG (wpAny_load ho ?_)
           rw [hc, hd]
           show wpAny M A (if (["enumerate", "zip", "dict_itemiterator", "dict_reverseitemiterator", "odict_iterator", "itertools.zip_longest", "itertools.pairwise"].contains n && vs[0]? == some (rawInt _)) = true then _ else _) Q E s
           rw [if_neg (by intro h; rw [hn, Bool.false_and] at h; cases h)]
           exact LR hQ))
def Itl (K:Za)(a:Addr):It:=
 ⟨λi H=>∃xs x,SqL K H a xs/\xs[i]?=some x,λi H x H'=>H'=H/\∀xs,SqL K H a xs->xs[i]?=some x,λi H=>∃xs,SqL K H a xs/\xs.length<=i⟩
def KN (K:Za)(a:Addr):It:=
 ⟨λi H=>∃xs x,SqT K H a xs/\xs[i]?=some x,λi H x H'=>H'=H/\∀xs,SqT K H a xs->xs[i]?=some x,λi H=>∃xs,SqT K H a xs/\xs.length<=i⟩
def Jr (lo:Int)(n:Nat):It:=⟨λi _=>i<n,λi H x H'=>H'=H/\x= .int (lo+i),λi _=>n<=i⟩
def wR {P:Program}{w:World}{K:Za}{tg:Expr}(a it:Addr):fQ P w K tg (Itl K a) [it] it (λi h=>h.IsListIter it a i) where
 mem:=by simp
 obj:=λi h st b hb=>by
  have e:b=it:=by simpa using hb
  subst e;obtain⟨o,e,c,d⟩:=st;exact⟨o,e,λv z=>by rw[d] at z;cases z⟩
 keep:=λi h h' st k=>st.at λo e=>k it (by simp) o e
 item:=by
  intro X hP hw hK hc i pins s σ H E I hf st hg;subst hP hw hK;obtain⟨xs,x,hq,hx⟩:=hg;obtain⟨a_,rv,p,hz⟩:=I.list hq;obtain⟨u,hu,ru⟩:=rv.get hx;obtain⟨f0,f1,f2,f3,f4,f5⟩:=hf it (by simp);refine Pm st p.isList (x:=u) (by simpa using hu) λh' N_ sb=>?_;have I1:Inv X pins σ H {s with heap:=h'}:=I.turned (t':=s.toks) (λb o hb e=>(sb.2 b hb).trans e) f0 f1 f3 f4 f5;obtain⟨o,e,c,d⟩:=id N_;exact⟨u,rfl,qr (s:={s with heap:=h'}) e c d (by decide) ⟨x,H,I1,ru,⟨rfl,λys hy=>by rw[I.list_inj hy hq];exact hx⟩,N_,λb hb=>(hf b hb).1⟩⟩
 done:=by
  intro X hP hw hK hc i pins s σ H E I hf st hg;subst hP hw hK;obtain⟨xs,hq,hx⟩:=hg;obtain⟨a_,rv,p,hz⟩:=I.list hq;obtain⟨f0,f1,f2,f3,f4,f5⟩:=hf it (by simp);have hl:=rv.length;exact PB (I.ok.hd hc) st p.isList (by simp;lia) λh' eb=>⟨rfl,I.turned (t':=s.toks) (λb o hb e=>eb b o hb e) f0 f1 f3 f4 f5⟩
 self:=λ_ _ _ _ _ st h=>wpAny_pyIter_listiter st h
def ug {P:Program}{w:World}{K:Za}{tg:Expr}(a it:Addr):fQ P w K tg (KN K a) [it] it (λi h=>h.IsTupleIter it a i) where
 mem:=by simp
 obj:=λi h st b hb=>by
  have e:b=it:=by simpa using hb
  subst e;obtain⟨o,e,c,d⟩:=st;exact⟨o,e,λv z=>by rw[d] at z;cases z⟩
 keep:=λi h h' st k=>st.at λo e=>k it (by simp) o e
 item:=by
  intro X hP hw hK hc i pins s σ H E I hf st hg;subst hP hw hK;obtain⟨xs,x,hq,hx⟩:=hg;obtain⟨a_,rv,p,hz⟩:=I.tuple hq;obtain⟨u,hu,ru⟩:=rv.get hx;obtain⟨f0,f1,f2,f3,f4,f5⟩:=hf it (by simp);refine wpAny_pyNext_tuple_item st (show s.heap.IsTuple a a_.toArray from p) (x:=u) (by simpa using hu) λh' N_ sb=>?_;have I1:Inv X pins σ H {s with heap:=h'}:=I.turned (t':=s.toks) (λb o hb e=>(sb.2 b hb).trans e) f0 f1 f3 f4 f5;obtain⟨o,e,c,d⟩:=id N_;exact⟨u,rfl,qr (s:={s with heap:=h'}) e c d (by decide) ⟨x,H,I1,ru,⟨rfl,λys hy=>by rw[I.tuple_inj hy hq];exact hx⟩,N_,λb hb=>(hf b hb).1⟩⟩
 done:=by
  intro X hP hw hK hc i pins s σ H E I hf st hg;subst hP hw hK;obtain⟨xs,hq,hx⟩:=hg;obtain⟨a_,rv,p,hz⟩:=I.tuple hq;obtain⟨f0,f1,f2,f3,f4,f5⟩:=hf it (by simp);have hl:=rv.length;exact wpAny_pyNext_tuple_end (I.ok.hd hc) st (show s.heap.IsTuple a a_.toArray from p) (by simp;lia) λh' eb=>⟨rfl,I.turned (t':=s.toks) (λb o hb e=>eb b o hb e) f0 f1 f3 f4 f5⟩
 self:=λ_ _ _ _ _ st h=>wpAny_pyIter_tupleiter st h
def sR {P:Program}{w:World}{K:Za}{tg:Expr}(it:Addr)(lo:Int)(n:Nat):fQ P w K tg (Jr lo n) [it] it (λi h=>IsRangeIter h it (lo+(i:Nat)*1) ((n:Int) -(i:Nat)) 1) where
 mem:=by simp
 obj:=λi h st b hb=>by
  have e:b=it:=by simpa using hb
  subst e;exact⟨_,st,λv z=>by
   have z':Data.fields _=Data.cell v:=z;cases z'⟩
 keep:=λi h h' st k=>k it (by simp) _ st
 item:=by
  intro X hP hw hK hc i pins s σ H E I hf st hg;subst hP hw hK;obtain⟨f0,f1,f2,f3,f4,f5⟩:=hf it (by simp);have W:=Walks.range (prog:=X.prog) (w:=X.w) (I.ok.hd hc) it lo 1 n;refine W.item i s _ _ hg st λv h' tk hv N_ kk=>?_;obtain⟨t,rfl⟩:=hv;have I1:Inv X pins σ H {s with heap:=h',toks:=tk}:=I.turned (λb o hb e=>kk b o (by simpa using hb) e) f0 f1 f3 f4 f5;refine⟨_,rfl,qr (s:={s with heap:=h',toks:=tk}) (n:="range_iterator") N_ rfl rfl (by decide) ⟨.int (lo+i),H,I1,⟨t,?_⟩,⟨rfl,rfl⟩,N_,λb hb=>(hf b hb).1⟩⟩;rw[Int.mul_one]
 done:=by
  intro X hP hw hK hc i pins s σ H E I hf st hg;subst hP hw hK;obtain⟨f0,f1,f2,f3,f4,f5⟩:=hf it (by simp);exact wpAny_pyNext_range_end (I.ok.hd hc) st (by have:n<=i:=hg;lia) λh' eb=>⟨rfl,I.turned (t':=s.toks) (λb o hb e=>eb b o hb e) f0 f1 f3 f4 f5⟩
 self:=λ_ _ _ _ _ st h=>wpAny_pyIter_rangeiter st h
section
variable {X:Cx} {tg:Expr}
def AV {pins:List (Addr×Obj)}{σ:St}{H:Hp}{s:Shared}{R:It->Hp->Prop}{E:Value->Shared->Prop}{lo hi:Int}{t u v:Tok}{tk:Nat}(I:Inv X pins σ H s)(h1: -(2 ^ 62)<=lo)(h2:lo<2 ^ 62)(h3: -(2 ^ 62)<=hi)(h4:hi<2 ^ 62)
  (q:R (Jr lo (hi -lo).toNat) H):wpAny (model X.prog X.w) X.A (pyIter (.ref s.heap.objs.size)) (JD X pins σ tg R) E {s with heap:=s.heap.push {cls:= .type "range",data:= .fields #[.int lo t,.int hi u,.int 1 v]},toks:=tk}:=by
 refine wpAny_pyIter_range (IsRange.new ..) (small_one h1 h2 h3 h4) ?_
 have I1:Inv X pins σ H {s with heap:=s.heap.push {cls:= .type "range",data:= .fields #[.int lo t,.int hi u,.int 1 v]},toks:=tk}:=I.kept λb o e=>LL _ e
 refine⟨(s.heap.push {cls:= .type "range",data:= .fields #[.int lo t,.int hi u,.int 1 v]}).objs.size,[(s.heap.push {cls:= .type "range",data:= .fields #[.int lo t,.int hi u,.int 1 v]}).objs.size],_,_,H,rfl,
  I1.kept (t':=tk) λb o e=>LL _ e,sR _ lo (hi -lo).toNat,?_,λb hb=>?_,q⟩
 .have e1:lo+((0:Nat):Int)*1=lo:=by simp
  have e2:(((hi -lo).toNat:Nat):Int) -((0:Nat):Int)=Builtin.Range.rangeSize lo hi 1:=by rw[rangeSize_one];split<;>lia
  show IsRangeIter _ _ (lo+((0:Nat):Int)*1) ((((hi -lo).toNat:Nat):Int) -((0:Nat):Int)) 1
  rw[e1,e2]
  exact Md _ rfl
 .have e:b=(s.heap.push {cls:= .type "range",data:= .fields #[.int lo t,.int hi u,.int 1 v]}).objs.size:=by simpa using hb
  subst e
  exact I1.fpOk (LC _) (I1.hok.fresh (LC _))
def Aa (ta:TA):TI:=λσ H R=>ta σ H λvs H1=>∃j:Int,vs=[.int j]/\-(2 ^ 62)<=j/\j<2 ^ 62/\R (Jr 0 j.toNat) H1
def ya {a:Expr}{ta:TA}{p pos:Pos}(hg:Gl X "range")(hm:X.mg "range"=none)(ha:PA X [a] ta)(hs:starEach [a] X.env=[(false,eval a X.env)]:=by rfl):PI X tg (.Call (.Name "range" p) [a] [] pos) (Aa ta):=by
 intro pins s σ H R I h;refine Call_ (dh I hg hm boot_range (Nc (J0 (ha pos pins s σ H _ I h) λus s1 ⟨vs,H1,I1,r1,q1⟩=>?_) hs rfl));obtain⟨j,e,q1,q2,q⟩:=q1;subst e;cases r1 with
 |cons r rr=>
  cases rr
  obtain⟨t,rfl⟩:=r
  exact call_range_1 (AV I1 (by lia) (by lia) q1 q2 (by simpa using q))
def lN (fp:List Addr)(h:Heap):List (Addr×Obj):=fp.filterMap λb=>(h.get? b).map λo=>(b,o)
def bK {fp:List Addr}{h:Heap}{b:Addr}{o:Obj}(hb:b∈fp)(e:h.get? b=some o):(b,o)∈lN fp h:=Qq.mpr ⟨b,hb,by rw[e];rfl⟩
def wX {fp:List Addr}{h:Heap}{p:Addr×Obj}(hp:p∈lN fp h):p.1∈fp/\h.get? p.1=some p.2:=by
 obtain⟨b,hb,e⟩:=Qq.mp hp;cases q:h.get? b with
 |none=>rw[q] at e;cases e
 |some o=>
  rw[q] at e
  have e':(b,o)=p:=Mc e
  subst e'
  exact⟨hb,q⟩
def Inv.pinned {pins:List (Addr×Obj)}{σ:St}{H:Hp}{s:Shared}{fp:List Addr}(I:Inv X pins σ H s)(hf:∀b∈fp,gc X pins H b)(ho:∀b∈fp,∃o,s.heap.get? b=some o/\∀v,o.data≠ .cell v):Inv X (pins++lN fp s.heap) σ H s:=
 I.pins_of λp hp=>(LO.mp hp).elim (λz=>I.pin p (LP _ z)) λz=>by
  obtain⟨hb,e⟩:=wX z;obtain⟨f0,f1,f2,_⟩:=hf p.1 hb;obtain⟨o,e',d⟩:=ho p.1 hb;rw[e] at e';cases e';exact⟨e,f0,f1,f2,d⟩
def Inv.unpinned {pins pl:List (Addr×Obj)}{σ:St}{H:Hp}{s:Shared}(I:Inv X (pins++pl) σ H s):Inv X pins σ H s:=I.pins_of λp hp=>I.pin p (LP _ (LH _ hp))
end
abbrev R2:=V->V->Hp->VK->Prop
def OpR (X:Cx)(f:Value->Value->Sem Value)(r:R2):Prop:=
 ∀(pins:List (Addr×Obj)) (s:Shared) (σ:St) (H:Hp) (x y:V) (v u:Value) (Q:VK),Inv X pins σ H s->RelV x v->RelV y u->r x y H Q->
  wpAny (model X.prog X.w) X.A (f v u) (EP X pins σ Q) X.xe s
def Jx (X:Cx)(f:Value->Sem Value)(r:V->Hp->VK->Prop):Prop:=
 ∀(pins:List (Addr×Obj)) (s:Shared) (σ:St) (H:Hp) (x:V) (v:Value) (Q:VK),Inv X pins σ H s->RelV x v->r x H Q->
  wpAny (model X.prog X.w) X.A (f v) (EP X pins σ Q) X.xe s
def CallR (X:Cx)(f:Value)(r:List V->Hp->VK->Prop):Prop:=
 ∀(pins:List (Addr×Obj)) (s:Shared) (σ:St) (H:Hp) (xs:List V) (us:List Value) (Q:VK),Inv X pins σ H s->Vals xs us->r xs H Q->
  wpAny (model X.prog X.w) X.A (call f us) (EP X pins σ Q) X.xe s
def Km (X:Cx)(r:V->Hp->(Bool->Hp->Prop)->Prop):Prop:=
 ∀(pins:List (Addr×Obj)) (s:Shared) (σ:St) (H:Hp) (x:V) (v:Value) (Q:Bool->Hp->Prop),Inv X pins σ H s->RelV x v->r x H Q->
  wpAny (model X.prog X.w) X.A (truthy v) (TP X pins σ Q) X.xe s
def CO (r:R2)(ta tb:TE):TE:=λσ H Q=>ta σ H λx H1=>tb σ H1 λy H2=>r x y H2 Q
def JM (r:V->Hp->VK->Prop)(ta:TE):TE:=λσ H Q=>ta σ H λx H1=>r x H1 Q
def rI (C:Int->Int->Prop)(g:Int->Int->V):R2:=λx y H Q=>∃i j,x= .int i/\y= .int j/\C i j/\Q (g i j) H
def BC (g:Int->Int->V):R2:=λx y H Q=>∃i j,x= .int i/\y= .int j/\Q (g i j) H
def rU (g:Int->V):V->Hp->VK->Prop:=λx H Q=>∃i,x= .int i/\Q (g i) H
section
variable {X:Cx} {a b c:Expr} {ta tb tc:TE} {pos:Pos}
def EF (ha:PE X a ta)(hb:PE X b tb){pins:List (Addr×Obj)}{s:Shared}{σ:St}{H:Hp}{R:V->V->Hp->Prop}(I:Inv X pins σ H s)
  (h:ta σ H λx H1=>tb σ H1 λy H2=>R x y H2) {Q:Value->Shared->Prop} {f:Value->Value->Sem Value}
  (hf:∀v u s2 x y H2,Inv X pins σ H2 s2->RelV x v->RelV y u->R x y H2->wpAny (model X.prog X.w) X.A (f v u) Q X.xe s2):
  wpAny (model X.prog X.w) X.A (eval a X.env) (λv s₁=>wpAny (model X.prog X.w) X.A (eval b X.env) (λu s₂=>wpAny (model X.prog X.w) X.A (f v u) Q X.xe s₂) X.xe s₁) X.xe s:=by
 refine J0 (ha pins s σ H _ I h) λv s1 ⟨x,H1,I1,r1,q1⟩=>?_
 refine J0 (hb pins s1 σ H1 _ I1 q1) λu s2 ⟨y,H2,I2,r2,q2⟩=>?_
 exact hf v u s2 x y H2 I2 r1 r2 q2
def Ja {op:Operator}{r:R2}(ho:OpR X (binaryOp op) r)(ha:PE X a ta)(hb:PE X b tb):PE X (.BinOp a op b pos) (CO r ta tb):=by
 intro pins s σ H Q I h;exact wpAny_BinOp (EF ha hb I h λv u s2 x y H2 I2 rx ry q=>ho pins s2 σ H2 x y v u Q I2 rx ry q)
def Hg {op:UnaryOp}{r:V->Hp->VK->Prop}(ho:Jx X (unaryOp op) r)(ha:PE X a ta):PE X (.UnaryOp op a pos) (JM r ta):=by
 intro pins s σ H Q I h;exact UnaryOp_ (J0 (ha pins s σ H _ I h) λv s1 ⟨x,H1,I1,r1,q1⟩=>ho pins s1 σ H1 x v Q I1 r1 q1)
def Jp {f:Value->Value->Sem Value}{C:Int->Int->Prop}{g:Int->Int->Int}
  (rule:∀(i j:Int) (t u:Tok) (s:Shared) (Q:Value->Shared->Prop) (E:Value->Shared->Prop),C i j->Q (.int (g i j) s.toks) {s with toks:=s.toks+1}->wpAny (model X.prog X.w) X.A (f (.int i t) (.int j u)) Q E s):
  OpR X f (rI C λi j=> .int (g i j)):=by
 intro pins s σ H x y v u Q I rx ry h
 obtain⟨i,j,rfl,rfl,hc,q⟩:=h
 obtain⟨t,rfl⟩:=rx
 obtain⟨t',rfl⟩:=ry
 exact rule i j t t' s _ _ hc ⟨.int (g i j),H,I.tok _,⟨_,rfl⟩,q⟩
def Hz {f:Value->Value->Sem Value}{g:Int->Int->Int}
  (rule:∀(i j:Int) (t u:Tok) (s:Shared) (Q:Value->Shared->Prop) (E:Value->Shared->Prop),Q (.int (g i j) s.toks) {s with toks:=s.toks+1}->wpAny (model X.prog X.w) X.A (f (.int i t) (.int j u)) Q E s):
  OpR X f (BC λi j=> .int (g i j)):=by
 intro pins s σ H x y v u Q I rx ry h
 obtain⟨i,j,rfl,rfl,q⟩:=h
 obtain⟨t,rfl⟩:=rx
 obtain⟨t',rfl⟩:=ry
 exact rule i j t t' s _ _ ⟨.int (g i j),H,I.tok _,⟨_,rfl⟩,q⟩
def GA {f:Value->Value->Sem Value}{g:Int->Int->Bool}
  (rule:∀(i j:Int) (t u:Tok) (s:Shared) (Q:Value->Shared->Prop) (E:Value->Shared->Prop),Q (.bool (g i j)) s->wpAny (model X.prog X.w) X.A (f (.int i t) (.int j u)) Q E s):
  OpR X f (BC λi j=> .bl (g i j)):=by
 intro pins s σ H x y v u Q I rx ry h
 obtain⟨i,j,rfl,rfl,q⟩:=h
 obtain⟨t,rfl⟩:=rx
 obtain⟨t',rfl⟩:=ry
 exact rule i j t t' s _ _ ⟨.bl (g i j),H,I,rfl,q⟩
def Je (i j:Int):Prop:=0<j/\j<1073741824
def HQ (i j:Int):Prop:=0<=j/\j<=1000000/\i.natAbs<2 ^ 64
def CMul (i j:Int):Prop:=(-(2 ^ 64)<i/\i<2 ^ 64)\/(-(2 ^ 64)<j/\j<2 ^ 64)
def CMul.ok {i j:Int}(h:CMul i j):IntMulOk i j:=by
 rcases h with⟨h1,h2⟩|⟨h1,h2⟩
 .exact .of_left (intBits_le_64 h1 h2)
 .exact .of_right (intBits_le_64 h1 h2)
def op_add:OpR X (binaryOp .Add) (BC λi j=> .int (i+j)):=Hz λ_ _ _ _ _ _ _ q=>add_int q
def EK:OpR X (binaryOp .Sub) (BC λi j=> .int (i -j)):=Hz λ_ _ _ _ _ _ _ q=>sub_int q
def op_mul:OpR X (binaryOp .Mult) (rI CMul λi j=> .int (i*j)):=Jp λ_ _ _ _ _ _ _ hc q=>mul_int q hc.ok
def N4:OpR X (binaryOp .FloorDiv) (rI Je λi j=> .int (i/j)):=Jp λi j _ _ _ _ _ hc q=>by
 have h1:(0:Int)<j:=hc.1;have h2:j<1073741824:=hc.2;exact floordiv_int (by lia) (by rw[Int.fdiv_eq_ediv_of_nonneg i (by lia)];exact q) (.inl (PyProof.noPylong_small (by lia)))
def p9:OpR X (binaryOp .Mod) (rI (λ_ j=>0<j) λi j=> .int (i % j)):=Jp λi j _ _ _ _ _ hc q=>by
 have h1:(0:Int)<j:=hc;exact mod_int' (by lia) (by rw[Int.fmod_eq_emod_of_nonneg i (by lia)];exact q)
def yN:OpR X (binaryOp .Pow) (rI HQ λi j=> .int (i ^ j.toNat)):=Jp λ_ _ _ _ _ _ _ hc q=>pow_int_small hc.1 hc.2.1 hc.2.2 q
def KR {f:Value->Sem Value}{g:Int->Int}
  (rule:∀(i:Int) (t:Tok) (s:Shared) (Q:Value->Shared->Prop) (E:Value->Shared->Prop),Q (.int (g i) s.toks) {s with toks:=s.toks+1}->wpAny (model X.prog X.w) X.A (f (.int i t)) Q E s):
  Jx X f (rU λi=> .int (g i)):=by
 intro pins s σ H x v Q I rx h
 obtain⟨i,rfl,q⟩:=h
 obtain⟨t,rfl⟩:=rx
 exact rule i t s _ _ ⟨.int (g i),H,I.tok _,⟨_,rfl⟩,q⟩
def pz:Jx X (unaryOp .USub) (rU λi=> .int (-i)):=KR λ_ _ _ _ _ q=>neg_int q
end
def GQ:V->V->Bool
 | .non,.non=>true| .non,.int _=>true| .int _,.non=>true| .non,.bl _=>true| .bl _,.non=>true| .non,.str _=>true| .str _,.non=>true
 | .int _,.int _=>true| .bl _,.bl _=>true| .str _,.str _=>true| .byt _,.byt _=>true
 | .int _,.str _=>true| .str _,.int _=>true| .bl _,.str _=>true| .str _,.bl _=>true
 |_,_=>false
def Jo:R2:=λx y H Q=>GQ x y=true/\Q (.bl (decide (x=y))) H
def Kb:R2:=λx y H Q=>GQ x y=true/\Q (.bl (!decide (x=y))) H
def jB {i j:Int}:decide (V.int i=V.int j)=(i==j):=by
 rw[My];simp
def zd {i j:Bool}:decide (V.bl i=V.bl j)=(i==j):=by
 rw[My];simp
def pJ {i j:Str}:decide (V.str i=V.str j)=(i==j):=by
 rw[My];simp
def vC {i j:Array UInt8}:decide (V.byt i=V.byt j)=(i.toList==j.toList):=by
 rw[My];cases i;cases j;simp
section
variable {X:Cx} {a b c:Expr} {ta tb tc:TE} {pos:Pos}
def A0 {pins:List (Addr×Obj)}{σ:St}{H:Hp}{s:Shared}{Q:VK}{k k':Bool}(I:Inv X pins σ H s)(q:Q (.bl k) H)(e:k=k'):EP X pins σ Q (.bool k') s:=by
 subst e;exact⟨.bl k,H,I,rfl,q⟩
def op_eq:OpR X (compareOp .Eq) Jo:=by
 intro pins s σ H x y v u Q I rx ry h;obtain⟨hs,q⟩:=h;cases x with
 |non=>
  cases rx
  cases y with
  |non=>cases ry;exact PySem.EqNone.eq_none_none (A0 I q (by simp))
  |bl j=>cases ry;exact PySem.EqNone.eq_none_bool (A0 I q (by simp))
  |int j=>obtain⟨t',rfl⟩:=ry;exact PySem.EqNone.eq_none_int (A0 I q (by simp))
  |str j=>obtain⟨t',rfl⟩:=ry;exact PySem.EqNone.eq_none_str (A0 I q (by simp))
  |_=>exact absurd (show false=true from hs) Ms
 |bl i=>
  cases rx
  cases y with
  |non=>cases ry;exact PySem.EqNone.eq_bool_none (A0 I q (by simp))
  |bl j=>cases ry;exact eq_bool (A0 I q zd)
  |str j=>obtain⟨t',rfl⟩:=ry;exact PySem.EqMixed.eq_bool_str (A0 I q (by simp))
  |_=>exact absurd (show false=true from hs) Ms
 |int i=>
  obtain⟨t,rfl⟩:=rx
  cases y with
  |non=>cases ry;exact PySem.EqNone.eq_int_none (A0 I q (by simp))
  |int j=>obtain⟨t',rfl⟩:=ry;exact eq_int (A0 I q jB)
  |str j=>obtain⟨t',rfl⟩:=ry;exact PySem.EqMixed.eq_int_str (A0 I q (by simp))
  |_=>exact absurd (show false=true from hs) Ms
 |str i=>
  obtain⟨t,rfl⟩:=rx
  cases y with
  |non=>cases ry;exact PySem.EqNone.eq_str_none (A0 I q (by simp))
  |bl j=>cases ry;exact PySem.EqMixed.eq_str_bool (A0 I q (by simp))
  |int j=>obtain⟨t',rfl⟩:=ry;exact PySem.EqMixed.eq_str_int (A0 I q (by simp))
  |str j=>obtain⟨t',rfl⟩:=ry;exact eq_str (A0 I q pJ)
  |_=>exact absurd (show false=true from hs) Ms
 |byt i=>
  obtain⟨t,rfl⟩:=rx
  cases y with
  |byt j=>obtain⟨t',rfl⟩:=ry;exact PySem.W.eq_bytes (A0 I q vC)
  |_=>exact absurd (show false=true from hs) Ms
 |_=>cases y<;>exact absurd (show false=true from hs) Ms
def op_ne:OpR X (compareOp .NotEq) Kb:=by
 intro pins s σ H x y v u Q I rx ry h;obtain⟨hs,q⟩:=h;cases x with
 |non=>
  cases rx
  cases y with
  |non=>cases ry;exact PySem.EqNone.ne_none_none (A0 I q (by simp))
  |bl j=>cases ry;exact PySem.EqNone.ne_none_bool (A0 I q (by simp))
  |int j=>obtain⟨t',rfl⟩:=ry;exact PySem.EqNone.ne_none_int (A0 I q (by simp))
  |str j=>obtain⟨t',rfl⟩:=ry;exact PySem.EqNone.ne_none_str (A0 I q (by simp))
  |_=>exact absurd (show false=true from hs) Ms
 |bl i=>
  cases rx
  cases y with
  |non=>cases ry;exact PySem.EqNone.ne_bool_none (A0 I q (by simp))
  |bl j=>cases ry;exact ne_bool (A0 I q (Na not zd))
  |str j=>obtain⟨t',rfl⟩:=ry;exact PySem.EqMixed.ne_bool_str (A0 I q (by simp))
  |_=>exact absurd (show false=true from hs) Ms
 |int i=>
  obtain⟨t,rfl⟩:=rx
  cases y with
  |non=>cases ry;exact PySem.EqNone.ne_int_none (A0 I q (by simp))
  |int j=>obtain⟨t',rfl⟩:=ry;exact ne_int (A0 I q (Na not jB))
  |str j=>obtain⟨t',rfl⟩:=ry;exact PySem.EqMixed.ne_int_str (A0 I q (by simp))
  |_=>exact absurd (show false=true from hs) Ms
 |str i=>
  obtain⟨t,rfl⟩:=rx
  cases y with
  |non=>cases ry;exact PySem.EqNone.ne_str_none (A0 I q (by simp))
  |bl j=>cases ry;exact PySem.EqMixed.ne_str_bool (A0 I q (by simp))
  |int j=>obtain⟨t',rfl⟩:=ry;exact PySem.EqMixed.ne_str_int (A0 I q (by simp))
  |str j=>obtain⟨t',rfl⟩:=ry;exact ne_str (A0 I q (Na not pJ))
  |_=>exact absurd (show false=true from hs) Ms
 |byt i=>
  obtain⟨t,rfl⟩:=rx
  cases y with
  |byt j=>obtain⟨t',rfl⟩:=ry;exact PySem.W.ne_bytes (A0 I q (Na not vC))
  |_=>exact absurd (show false=true from hs) Ms
 |_=>cases y<;>exact absurd (show false=true from hs) Ms
def op_lt:OpR X (compareOp .Lt) (BC λi j=> .bl (decide (i<j))):=GA λ_ _ _ _ _ _ _ q=>lt_int q
def zw:OpR X (compareOp .LtE) (BC λi j=> .bl (decide (i<=j))):=GA λ_ _ _ _ _ _ _ q=>le_int q
def zk:OpR X (compareOp .Gt) (BC λi j=> .bl (decide (j<i))):=GA λ_ _ _ _ _ _ _ q=>gt_int q
def xo:OpR X (compareOp .Lt) (λx y H Q=>∃i j,x= .str i/\y= .str j/\Q (.bl (decide (i.cps.toList<j.cps.toList))) H):=by
 intro pins s σ H x y v u Q I rx ry h;obtain⟨i,j,rfl,rfl,q⟩:=h;obtain⟨t,rfl⟩:=rx;obtain⟨t',rfl⟩:=ry;exact lt_str (A0 I q rfl)
def wL:OpR X (compareOp .In) (λx y H Q=>∃i j,x= .str i/\y= .str j/\Q (.bl (!(Builtin.Str.occurrences j i 0 j.length 1).isEmpty)) H):=by
 intro pins s σ H x y v u Q I rx ry h;obtain⟨i,j,rfl,rfl,q⟩:=h;obtain⟨t,rfl⟩:=rx;obtain⟨t',rfl⟩:=ry;exact in_str (A0 I q rfl)
def OpR.or {f:Value->Value->Sem Value}{r r':R2}(h:OpR X f r)(h':OpR X f r'):OpR X f (λx y H Q=>r x y H Q\/r' x y H Q):=by
 intro pins s σ H x y v u Q I rx ry q;rcases q with q|q
 .exact h pins s σ H x y v u Q I rx ry q
 .exact h' pins s σ H x y v u Q I rx ry q
def q8 (b:Expr){op:CmpOp}(h:op≠ .In:=by decide)(h2:op≠ .NotIn:=by decide):behindInMarks op b=false:=by
 have e1:(op==CmpOp.In)=false:=by cases op<;>first|rfl|exact absurd rfl h
 have e2:(op==CmpOp.NotIn)=false:=by cases op<;>first|rfl|exact absurd rfl h2
 cases b<;>simp [behindInMarks,e1,e2]
def Cg {op:CmpOp}{r:R2}(ho:OpR X (compareOp op) r)(ha:PE X a ta)(hb:PE X b tb)(hm:behindInMarks op b=false):PE X (.Compare a [op] [b] pos) (CO r ta tb):=by
 intro pins s σ H Q I h;exact wpAny_Compare1 (EF ha hb I h λv u s2 x y H2 I2 rx ry q=>ho pins s2 σ H2 x y v u Q I2 rx ry q) hm
def zY (t:TE):TT:=λσ H Q=>t σ H λx H'=>∃k,x= .bl k/\Q k H'
def CI {op:CmpOp}{r:R2}(ho:OpR X (compareOp op) r)(ha:PE X a ta)(hb:PE X b tb)(hm:behindInMarks op b=false):PT X (.Compare a [op] [b] pos) (zY (CO r ta tb)):=by
 intro pins s σ H Q I h;refine wpAny_isTrue_Compare1 (J0 (ha pins s σ H _ I h) λv s1 ⟨x,H1,I1,r1,q1⟩=>J0 (hb pins s1 σ H1 _ I1 q1) λu s2 ⟨y,H2,I2,r2,q2⟩=>
  J0 (ho pins s2 σ H2 x y v u _ I2 r1 r2 q2) λc s3 ⟨z,H3,I3,r3,k,e,q3⟩=>?_) hm
 subst e;cases r3;exact Nz ⟨H3,I3,q3⟩
def zr (K:Za)(x:V)(H:Hp)(k:Bool):Prop:=
 match x with
 | .non=>k=false
 | .bl b=>k=b
 | .int i=>k=(i !=0)
 | .str y=>y.length<=sizeLine/\k=((y.length:Int) !=0)
 | .byt y=>y.size<=sizeLine/\k=((y.size:Int) !=0)
 | .ref p=>(∃xs,SqL K H p xs/\k=!xs.isEmpty)\/(∃xs,SqT K H p xs/\k=!xs.isEmpty)\/∃kvs,H p=some (.dK kvs)/\k=!kvs.isEmpty
 |_=>False
def sO {κ:Type}{kvs:List (κ×V)}{vs:List (κ×Value)}(r:KV kvs vs):(!vs.isEmpty)=!kvs.isEmpty:=by
 cases r<;>rfl
def jO {xs:List V}{a_:List Value}(r:Vals xs a_):(!a_.toArray.isEmpty)=!xs.isEmpty:=by
 cases r<;>simp
def iK:(sizeLine:Nat)<2 ^ 63:=by rw[RU];decide
def Ga:Km X (λx H Q=>∃k,zr X.K x H k/\Q k H):=by
 intro pins s σ H x v Q I rx h;obtain⟨k,e,q⟩:=h;have hl:=iK;have hs:sizeLine=16777216:=RU;cases x with
 |non=>
  cases rx
  have e':k=false:=e
  subst e'
  exact truthy_none ⟨H,I,q⟩
 |bl b=>
  cases rx
  have e':k=b:=e
  subst e'
  exact Nz ⟨H,I,q⟩
 |int i=>
  obtain⟨t,rfl⟩:=rx
  have e':k=(i !=0):=e
  subst e'
  exact PySem.P.truthy_int ⟨H,I,q⟩
 |str y=>
  obtain⟨t,rfl⟩:=rx
  obtain⟨hy,e'⟩:y.length<=sizeLine/\k=((y.length:Int) !=0):=e
  subst e'
  exact PySem.P.truthy_str (by lia) ⟨H,I.tok _,q⟩
 |byt y=>
  obtain⟨t,rfl⟩:=rx
  obtain⟨hy,e'⟩:y.size<=sizeLine/\k=((y.size:Int) !=0):=e
  subst e'
  exact PySem.W.truthy_bytes (by lia) ⟨H,I.tok _,q⟩
 |ref p=>
  cases rx
  have e':(∃xs,SqL X.K H p xs/\k=!xs.isEmpty)\/(∃xs,SqT X.K H p xs/\k=!xs.isEmpty)\/∃kvs,H p=some (.dK kvs)/\k=!kvs.isEmpty:=e
  rcases e' with⟨xs,hx,e'⟩|⟨xs,hx,e'⟩|⟨kvs,hx,e'⟩
  .subst e'
   obtain⟨a_,r,pl,hz⟩:=I.list hx
   have hlen:=r.length
   exact wpAny_truthy_list pl.isList (by simp only[Mh];lia) ⟨H,I.tok _,by rw[jO r];exact q⟩
  .subst e'
   obtain⟨a_,r,pl,hz⟩:=I.tuple hx
   have hlen:=r.length
   exact truthy_tuple pl (by simp only[Mh];lia) ⟨H,I.tok _,by rw[jO r];exact q⟩
  .subst e'
   obtain⟨hz,hS,vs,r,m⟩:kvs.length<=sizeLine/\(p==sysModules)=false/\∃vs,KV kvs vs/\s.heap.DictOf (j7 X.prog X.w) p vs:=I.hok p _ hx
   have hlen:kvs.length=vs.length:=Mj r
   exact wpAny_truthy_dict hS m (by lia) ⟨H,I.tok _,by rw[sO r];exact q⟩
 |_=>exact(show False from e).elim
def zP (ha:PE X a ta)(he:∀whole,isTrue a X.env whole=(do let v←whole;standAt a.pos;holding [v] (truthy v))):
  PT X a (λσ H Q=>ta σ H λx H'=>∃k,zr X.K x H' k/\Q k H'):=by
 intro pins s σ H Q I h
 exact isTrue_plain (J0 (ha pins s σ H _ I h) λv s1 ⟨x,H1,I1,r1,q1⟩=>Ga pins s1 σ H1 x v Q I1 r1 q1) (he _)
def op_add_str:OpR X (binaryOp .Add) (λx y H Q=>∃i j,x= .str i/\y= .str j/\i.length+j.length<=sizeLine/\Q (.str (i++j)) H):=by
 intro pins s σ H x y v u Q I rx ry h;obtain⟨i,j,rfl,rfl,hz,q⟩:=h;obtain⟨t,rfl⟩:=rx;obtain⟨t',rfl⟩:=ry;exact add_str (λt' tk=>⟨.str (i++j),H,I.tok _,⟨_,rfl⟩,q⟩) hz
def M9 {x:V}{us:List Value}(r:Vals [x] us):∃u,us=[u]/\RelV x u:=by
 cases r with
 |cons r1 r2=>cases r2;exact⟨_,rfl,r1⟩
def bR {x y:V}{us:List Value}(r:Vals [x,y] us):∃u w',us=[u,w']/\RelV x u/\RelV y w':=by
 cases r with
 |cons r1 r2=>
  cases r2 with
  |cons r3 r4=>cases r4;exact⟨_,_,rfl,r1,r3⟩
def pD:CallR X (.type "str") (λxs H Q=>∃i,xs=[.int i]/\i.natAbs.log2<1920/\Q (.str (toString i)) H):=by
 intro pins s σ H xs us Q I r h;obtain⟨i,rfl,hz,q⟩:=h;obtain⟨u,rfl,t,rfl⟩:=M9 r;exact PySem.P.str_of_int hz ⟨.str _,H,I.tok _,⟨_,rfl⟩,q⟩
def Jd (K:Za)(x:V)(H:Hp)(n:Nat):Prop:=
 match x with
 | .str y=>y.length<=sizeLine/\n=y.length
 | .byt y=>y.size<=sizeLine/\n=y.size
 | .ref p=>(∃xs,SqL K H p xs/\n=xs.length)\/∃xs,SqT K H p xs/\n=xs.length
 |_=>False
def call_len:CallR X (.builtin "len") (λxs H Q=>∃x n,xs=[x]/\Jd X.K x H n/\Q (.int n) H):=by
 intro pins s σ H xs us Q I r h;obtain⟨x,n,rfl,e,q⟩:=h;obtain⟨u,rfl,rx⟩:=M9 r;have hl:=iK;have hs:sizeLine=16777216:=RU;cases x with
 |str y=>
  obtain⟨t,rfl⟩:=rx
  obtain⟨hy,e'⟩:y.length<=sizeLine/\n=y.length:=e
  subst e'
  exact len_str (by lia) ⟨.int _,H,I.tok _,⟨_,rfl⟩,q⟩
 |byt y=>
  obtain⟨t,rfl⟩:=rx
  obtain⟨hy,e'⟩:y.size<=sizeLine/\n=y.size:=e
  subst e'
  exact PySem.W.len_bytes (by lia) ⟨.int _,H,I.tok _,⟨_,rfl⟩,q⟩
 |ref p=>
  cases rx
  have e':(∃xs,SqL X.K H p xs/\n=xs.length)\/∃xs,SqT X.K H p xs/\n=xs.length:=e
  rcases e' with⟨xs,hx,e'⟩|⟨xs,hx,e'⟩
  .subst e'
   obtain⟨a_,r',pl,hz⟩:=I.list hx
   have hlen:=r'.length
   exact Calls.call_len_list pl.isList (by simp only[Mh];lia) ⟨.int xs.length,H,I.tok _,⟨_,by simp only[Mh];rw[hlen]⟩,q⟩
  .subst e'
   obtain⟨a_,r',pl,hz⟩:=I.tuple hx
   have hlen:=r'.length
   exact len_tuple pl (by simp only[Mh];lia) ⟨.int xs.length,H,I.tok _,⟨_,by simp only[Mh];rw[hlen]⟩,q⟩
 |_=>exact(show False from e).elim
end
structure KP (h:Heap) (x dx C:Addr) (mA:Str->Option Value):Prop where
 obj:h.get? x=some (PySem.W.instObj C dx)
 ns:h.Ns1 dx mA
 ne:dx≠x
section
variable {prog:Program} {w:World} {A:Around} {E:Value->Shared->Prop} {s:Shared} {K:Za} {x dx C f:Addr} {mA:Str->Option Value} {name:Str} {v:Value}
end
def RelO.some_of {v:V}{o:Option Value}(r:RelO (some v) o):∃u,o=some u/\RelV v u:=by
 cases o with
 |none=>exact(show False from r).elim
 |some u=>exact⟨u,rfl,r⟩
section
variable {P:Program} {w:World} {H H':Hp} {h h':Heap} {a C dx:Addr} {fs fs':List (Str×V)}
end
structure Li (K:Za) (C:Addr):Prop where
 pg:PySem.W.plainGet K C Str.empty=true
 hd:PySem.W.hasDictIn K C=true
 po:PySem.W.plainOver K C=true
 sa:PySem.W.findIn K (.ref C) "__setattr__"=some (some (.builtin "object.__setattr__"))
structure Ly (K:Za) (C:Addr) (f:Str) (v:V) (u:Value):Prop where
 at_:PySem.W.findIn K (.ref C) f=some (some u)
 rel:RelV v u
 get:PySem.W.specialIn K u "__get__"=some none
 cp:PySem.W.copiedNames.contains f=false
structure Lj (K:Za) (C:Addr) (m:Str) (f:Addr):Prop where
 at_:PySem.W.findIn K (.ref C) m=some (some (.ref f))
 fn:PySem.W.isFn K (.ref f)=true
 kp:PySem.W.keepIn K (.ref f)=true
section
variable {X:Cx} {pins:List (Addr×Obj)} {σ:St} {H:Hp} {s:Shared} {a C dx:Addr} {fs:List (Str×V)} {f:Str} {v:V} {A:Around} {E:Value->Shared->Prop}
end
section
variable {X:Cx} {o e value:Expr} {f:Str} {pos pos' n_:Pos} {ta tv:TE}
end
section
variable {X:Cx} {pins:List (Addr×Obj)} {σ:St} {H:Hp} {s:Shared} {A:Around} {E:Value->Shared->Prop} {Q:Value->Shared->Prop} {c:Value} {b:Bool}
inductive lV (K:Za) (H:Hp):V->Value->Prop where
 |non:lV K H .non (.type "NoneType")
 |bl (x:Bool):lV K H (.bl x) (.type "bool")
 |int (i:Int):lV K H (.int i) (.type "int")
 |str (x:Str):lV K H (.str x) (.type "str")
 |flt (x:UInt64):lV K H (.flt x) (.type "float")
 |lst {a:Addr} {xs:List V} (e:H a=some (.lst xs)):lV K H (.ref a) (.type "list")
 |frz {a:Addr} {o:Obj} {xs:List V} (e:H a=some (.frz o (.lst xs))):lV K H (.ref a) (.type "list")
 |tup {a:Addr} {xs:List V} (e:H a=some (.tup xs)):lV K H (.ref a) (.type "tuple")
 |dK {a:Addr} {kvs:List (i6×V)} (e:H a=some (.dK kvs)):lV K H (.ref a) (.type "dict")
 |dT {a:Addr} {kvs:List (List i6×V)} (e:H a=some (.dT kvs)):lV K H (.ref a) (.type "dict")
 |ins {a C dx:Addr} {fs:List (Str×V)} (e:H a=some (.ins C dx fs)) (cl:Li K C) (ha:PySem.W.findIn K (.ref C) "__class__"=some (some (.builtin "object.__class__")))
   (hn:PySem.W.specialIn K (.builtin "object.__class__") "__get__"=some (some (.builtin "getset_descriptor.__get__"))) (htk:PySem.W.takesIn K (.builtin "object.__class__")=some true)
   (hm:PySem.W.mroIn K C (.type "object")=some true):lV K H (.ref a) (.ref C)
end
structure Room (k:Nat) (A:Around):Prop where
 hd:A.handled=none
 dp:A.depth+3*k+5<recursionLimit
 un:A.units+16*k+200<cLine
def Room.mono {j k:Nat}{A:Around}(r:Room k A)(h:j<=k):Room j A:=⟨r.hd,by have:=r.dp;lia,by have:=r.un;lia⟩
def Room.deeper {k:Nat}{A:Around}(r:Room (k+1) A)(env:Env):Room k (A.deeper env):=
 ⟨r.hd,by have:=r.dp;show A.depth+1+3*k+5<_;lia,by have:=r.un;show A.units+3+16*k+200<_;lia⟩
def Room.depth {k:Nat}{A:Around}(r:Room k A):A.depth<recursionLimit:=by have:=r.dp;lia
def Room.units {k:Nat}{A:Around}(r:Room k A):A.units+64<cLine:=by have:=r.un;lia
def uD:TA:=λ_ H Q=>Q [] H
def vU (ta:TE)(tr:TA):TA:=λσ H Q=>ta σ H λx H1=>tr σ H1 λxs H2=>Q (x::xs) H2
section
variable {X:Cx} {e:Expr} {es:List Expr} {te:TE} {t:TA} {pos:Pos}
def Ep:PA X [] uD:=λ_ _ _ _ H Q I h=>Pq ⟨[],H,I,.nil,h⟩
def CC (ha:PE X e te)(hr:PA X es t)(hs:starEach (e::es) X.env=(false,eval e X.env)::starEach es X.env:=by rfl):PA X (e::es) (vU te t):=by
 intro pos pins s σ H Q I h;rw[hs];show wpAny _ _ (spliced ((false,eval e X.env)::backTo pos (starEach es X.env))) _ _ s;refine Oy (J0 (ha pins s σ H _ I h) λu s1 ⟨x,H1,I1,r1,q1⟩=>?_);exact J0 (hr pos pins s1 σ H1 _ I1 q1) λus s2 ⟨xs,H2,I2,r2,q2⟩=>⟨x::xs,H2,I2,.cons r1 r2,q2⟩
def Gi (t:TA):TE:=λσ H Q=>t σ H λxs H1=>xs.length<=sizeLine/\∀p,H1 p=none->Q (.ref p) (upd H1 p (.tup xs))
def Eo (t:TA):TE:=λσ H Q=>t σ H λxs H1=>xs.length<=sizeLine/\∀p,H1 p=none->Q (.ref p) (upd H1 p (.lst xs))
def Ed {x1}(h:PA X es t):PE X (.Tuple es x1 pos) (Gi t):=by
 intro pins s σ H Q I hq;refine wpAny_Tuple_spliced (J0 (h pos pins s σ H _ I hq) λus s1 ⟨xs,H1,I1,r,z,q⟩=>⟨by rw[←r.length];exact z,?_⟩);have hf:H1 s1.heap.objs.size=none:=I1.hok.fresh (LC _);refine⟨.ref s1.heap.objs.size,upd H1 s1.heap.objs.size (.tup xs),I1.laid (t':=s1.toks) (λb u e=>LL _ e) (LC _) ?_,rfl,q _ hf⟩;exact⟨z,us,r,⟨_,Md _ rfl,rfl,_,rfl⟩⟩
def Fh (h:PA X es t):PE X (.List es pos) (Eo t):=by
 intro pins s σ H Q I hq;refine wpAny_List_spliced (J0 (h pos pins s σ H _ I hq) λus s1 ⟨xs,H1,I1,r,z,q⟩=>⟨by rw[←r.length];exact z,?_⟩);have hf:H1 s1.heap.objs.size=none:=I1.hok.fresh (LC _);refine⟨.ref s1.heap.objs.size,upd H1 s1.heap.objs.size (.lst xs),I1.laid (t':=s1.toks) (λb u e=>LL _ e) (LC _) ?_,rfl,q _ hf⟩;exact⟨z,us,0,r,Md _ rfl⟩
end
abbrev Sp:=List V->Hp->VK->XK->Prop
abbrev qo:=List Env->Hp->Shared->XK->Value->Shared->Prop
structure Dk (P:Program) (w:World) (K:Za) (mg:Str->Option Value) (base:Heap) (A:Around) (outer:List Env) (s:Shared) (H:Hp):Prop where
 frames:A.frames=some outer
 mod:Mod K mg base
 bs:∀b o,base.get? b=some o->s.heap.get? b=some o/\H b=none
 bsz:base.objs.size<=s.heap.objs.size
 funs:s.heap.FunFrames base outer
 frf:∀b∈aZ outer,H b=none
 hok:HOk P w H s.heap
 bare:AllBare s.gens
def CE (outer:List Env)(P:Program)(w:World)(H:Hp)(s:Shared)(Q:VK)(u:Value)(s':Shared):Prop:=
 ∃v H',s'.os=s.os/\AllBare s'.gens/\Un (aZ outer) [] H H' s.heap s'.heap/\HOk P w H' s'.heap/\RelV v u/\Q v H'
def CR (CX:qo)(outer:List Env)(P:Program)(w:World)(H:Hp)(s:Shared)(Q:VK)(E:XK)(r:Result)(s':Shared):Prop:=
 match r with
 | .ok (.ret u)=>CE outer P w H s Q u s'
 | .ok _=>False
 | .error e=>CX outer H s E e s'
structure x8 (P:Program) (w:World) (K:Za) (mg:Str->Option Value) (base:Heap) (CX:qo) (k:Nat) (f:Addr) (fd:FuncData) (ps:List Str) (sp:Sp):Prop where
 len:∀vs H Q E,sp vs H Q E->vs.length=ps.length
 run:∀(A:Around) (outer:List Env) (s:Shared) (H:Hp) (args:Args) (us:List Value) (vs:List V) (Q:VK) (E:XK),Room k A->Dk P w K mg base A outer s H->BindsTo s fd args (ps.zip us)->Vals vs us->sp vs H Q E->
  codeAny (model P w) A (.call (.ref f) args) (CR CX outer P w H s Q E) s
section
variable {X:Cx} {pins:List (Addr×Obj)} {σ:St} {H:Hp} {s s':Shared}
def Inv.env0 (I:Inv X pins σ H s):Dk X.prog X.w X.K X.mg X.base X.A X.stack s H:=
 ⟨I.ok.frames,I.ok.mod,I.bs,Mb I.ok.bsz I.sz,I.stack,I.stkFree,I.hok,I.bare⟩
def Inv.after {Q:VK}{u:Value}(I:Inv X pins σ H s)(h:CE X.stack X.prog X.w H s Q u s'):EP X pins σ Q u s':=by
 obtain⟨v,H',os,bare,un,hok,r,q⟩:=h;obtain⟨hh,g,d,t,os'⟩:=s';obtain rfl:os'=s.os:=os;exact⟨v,H',I.call (h':=hh) (g':=g) (d':=d) (t':=t) (ch:=[]) un hok bare (λb z=>absurd z (by simp)),r,q⟩
end
def rS (sp:Sp)(m_:List V)(E:XK)(t:TA):TE:=λσ H Q=>t σ H λvs H1=>sp (vs++m_) H1 Q E
def Binds (K:Za)(fd:FuncData)(ps:List Str)(ds:List Value):Prop:=
 ∀(s:Shared) (us:List Value),K.In s.heap->(us++ds).length=ps.length->BindsTo s fd ⟨us,[]⟩ (ps.zip (us++ds))
def Binds.all {K:Za}{fd:FuncData}{ps:List Str}(h:∀us:List Value,us.length=ps.length->bindArgs fd ⟨us,[]⟩=pure (ps.zip us)):Binds K fd ps []:=λs us _ hl=>by
 rw[MM] at hl⊢;exact .of_eq (h us hl)
def cF (CX:qo)(X:Cx)(E:XK):Prop:=∀(pins:List (Addr×Obj)) (σ:St) (H:Hp) (s:Shared) (e:Value) (s':Shared),Inv X pins σ H s->CX X.stack H s E e s'->X.xe e s'
section
variable {X:Cx} {CX:qo} {k:Nat} {f C:Addr} {fd:FuncData} {ps:List Str} {sp:Sp} {m_:List V} {ds:List Value} {E:XK} {x m:Str} {p pos apos:Pos} {e o:Expr} {es:List Expr} {ta:TE} {t:TA}
def Ef {pins:List (Addr×Obj)}{σ:St}{H:Hp}{s:Shared}{Q:VK}{us:List Value}{vs:List V}(F:x8 X.prog X.w X.K X.mg X.base CX k f fd ps sp)(hr:Room k X.A)(hb:Binds X.K fd ps ds)(hd:Vals m_ ds)(hx:cF CX X E)
  (I:Inv X pins σ H s) (r:Vals vs us) (h:sp (vs++m_) H Q E):wpAny (model X.prog X.w) X.A (call (.ref f) us) (EP X pins σ Q) X.xe s:=by
 have r2:Vals (vs++m_) (us++ds):=r.append hd
 have hl:(us++ds).length=ps.length:=by rw[←r2.length];exact F.len _ _ _ _ h
 refine wpAny_call (PC (F.run X.A X.stack s H ⟨us,[]⟩ (us++ds) (vs++m_) Q E hr I.env0 (hb s us I.kIn hl) r2 h) λr s' hq=>?_)
 cases r with
 |error e=>exact hx pins σ H s e s' I hq
 |ok fl=>
  cases fl with
  |ret u=>exact I.after hq
  |next=>exact False.elim hq
  |brk=>exact False.elim hq
  |cont=>exact False.elim hq
def BG (F:x8 X.prog X.w X.K X.mg X.base CX k f fd ps sp)(hr:Room k X.A)(hg:Gl X x)(hm:X.mg x=some (.ref f))(hk:PySem.W.keepIn X.K (.ref f)=true)(hb:Binds X.K fd ps ds)(hd:Vals m_ ds)(hx:cF CX X E)
  (ha:PA X (e::es) t) (t_:(x==("__debug__":Str))=false:=by decide) (he:starEach (e::es) X.env=(false,eval e X.env)::starEach es X.env:=by rfl) (RO:(backTo pos (starEach es X.env)).any (·.1)=false:=by rfl):
  PE X (.Call (.Name x p) (e::es) [] pos) (rS sp m_ E t):=by
 intro pins s σ H Q I h
 refine NT (gh I hg hm ?_ t_)
 refine Sm (h₀:=X.base) I.ok.mod.kin hk (J0 (ha pos pins s σ H _ I h) λus s1 ⟨vs,H1,I1,r,q⟩=>⟨I1.kIn,?_⟩) he RO
 exact Ef F hr hb hd hx I1 r q
structure Mk (K:Za) (C f:Addr):Prop where
 makes:PySem.W.makesIn K C=true
 init:PySem.W.findIn K (.ref C) "__init__"=some (some (.ref f))
 fn:PySem.W.isFn K (.ref f)=true
 kp:PySem.W.keepIn K (.ref C)=true
end
section
variable {X:Cx} {CX:qo} {k:Nat} {f C:Addr} {fd:FuncData} {ps ks:List Str} {sp:Sp} {E:XK} {x m:Str} {p pos apos kpos:Pos} {e o:Expr} {es:List Expr} {kws:List Keyword} {te ta:TE} {t tk:TA} {nm:Option Str}
structure JF (K:Za) (fd:FuncData) (ps ks:List Str) (g:List Value->List Value->List Value) (gV:List V->List V->List V):Prop where
 to:∀(s:Shared) (us ws:List Value),K.In s.heap->(g us ws).length=ps.length->BindsTo s fd ⟨us,ks.zip ws⟩ (ps.zip (g us ws))
 rel:∀{vs:List V} {us:List Value} {zs:List V} {ws:List Value},Vals vs us->Vals zs ws->Vals (gV vs zs) (g us ws)
variable {g:List Value->List Value->List Value} {gV:List V->List V->List V}
end
structure i4 (N P:List Str) (sc:Scope):Prop where
 kind:sc.kind= .function
 co:sc.isCoroutine=false
 gen:sc.isGenerator=false
 nd:N.Nodup
 pre:N.take P.length=P
 par:∀x∈P,sc.names.lookup x=some .local\/sc.names.lookup x=some .cell
 nofree:∀y∈sc.names,y.2≠ .free
theorem nL {kindOf:Str->Option NameKind}{x:Str}:∀{binds:List (Str×Value)} {m:Str->Option Value},(∀v,(x,v)∉binds)->bindL kindOf binds m x=m x
 |[],_,_=>rfl
 |(n,v)::r,m,h=>by
  unfold bindL;rw[nL λw hw=>h w (LY _ hw)];split
  .have:x≠n:=by rintro rfl;exact h v LS
   simp [this]
  .rfl
theorem nJ {kindOf:Str->Option NameKind}{x:Str}:∀{binds:List (Str×Value)} {m:Str->Option Value},(∀v,(x,v)∉binds)->bindC kindOf binds m x=m x
 |[],_,_=>rfl
 |(n,v)::r,m,h=>by
  unfold bindC;rw[nJ λw hw=>h w (LY _ hw)];split
  .rfl
  .have:x≠n:=by rintro rfl;exact h v LS
   simp [this]
theorem nj {kindOf:Str->Option NameKind}{x:Str}{v:Value}:∀{P:List Str} {vs:List Value} {i:Nat} {m:Str->Option Value},P.Nodup->P[i]?=some x->vs[i]?=some v->kindOf x=some .local->
  bindL kindOf (P.zip vs) m x=some v
 |[],_,_,_,_,h,_,_=>by simp at h
 |_::_,[],_,_,_,_,h,_=>by simp at h
 |p::P,w::vs,0,m,nd,h1,h2,hk=>by
  simp at h1 h2;subst h1;subst h2;show bindL kindOf ((p,w)::P.zip vs) m p=_;unfold bindL;rw[nL λv hv=>(MN.mp nd).1 (Rv hv).1,if_pos hk];simp
 |p::P,w::vs,i+1,m,nd,h1,h2,hk=>by
  show bindL kindOf ((p,w)::P.zip vs) m x=_;unfold bindL;exact nj (i:=i) (MN.mp nd).2 (by simpa using h1) (by simpa using h2) hk
theorem nQ {kindOf:Str->Option NameKind}{x:Str}{v:Value}:∀{P:List Str} {vs:List Value} {i:Nat} {m:Str->Option Value},P.Nodup->P[i]?=some x->vs[i]?=some v->kindOf x≠some .local->
  bindC kindOf (P.zip vs) m x=some v
 |[],_,_,_,_,h,_,_=>by simp at h
 |_::_,[],_,_,_,_,h,_=>by simp at h
 |p::P,w::vs,0,m,nd,h1,h2,hk=>by
  simp at h1 h2;subst h1;subst h2;show bindC kindOf ((p,w)::P.zip vs) m p=_;unfold bindC;rw[nJ λv hv=>(MN.mp nd).1 (Rv hv).1,if_neg hk];simp
 |p::P,w::vs,i+1,m,nd,h1,h2,hk=>by
  show bindC kindOf ((p,w)::P.zip vs) m x=_;unfold bindC;exact nQ (i:=i) (MN.mp nd).2 (by simpa using h1) (by simpa using h2) hk
def eM (N:List Str)(vs:List V):St:=vs.map some++List.replicate (N.length -vs.length) none
def jr (CX:qo)(P:Program)(w:World)(K:Za)(mg:Str->Option Value)(base:Heap)(N:List Str)(qual:Str)(scope:Scope)(f:Addr)(cd:Value)(A:Around)(outer:List Env)(s:Shared)(H:Hp)(E:XK):Cx where
 prog:=P
 w:=w
 K:=K
 mg:=mg
 base:=base
 A:=A.deeper (envOfC qual scope s.heap.objs.size f cd)
 N:=N
 s₀:=s
 H₀:=H
 env:=envOfC qual scope s.heap.objs.size f cd
 outer:=outer
 stack:=envOfC qual scope s.heap.objs.size f cd::outer
 ex:=[]
 calm:=true
 fn:=λ_=>true
 pn:=[]
 xe:=λe s'=>wpAny (model P w) (A.deeper (envOfC qual scope s.heap.objs.size f cd)) («leaving» (envOfC qual scope s.heap.objs.size f cd) e) (λ_ Xz=>CX outer H s E e Xz) (λe' Xz=>CX outer H s E e' Xz) s'
def sF {sc:Scope}{n:Nat}{x:Str}(h:sc.names.lookup x=some .cell):∃c,(cellsFrom n sc.names []).lookup x=some c:=by
 have q:=Rl sc.names n [] (.inl h);exact QB.mp q
def xg {CX:qo}{P:Program}{w:World}{K:Za}{mg:Str->Option Value}{base:Heap}{N ps:List Str}{qual:Str}{scope:Scope}{f:Addr}{cd:Value}{A:Around}{outer:List Env}{s s1:Shared}{H:Hp}{E:XK}{us:List Value}{vs:List V}
  (S:i4 N ps scope) (hd:A.handled=none) (e0:Dk P w K mg base A outer s H) (hl:vs.length=ps.length) (r:Vals vs us)
  (x:InCallC s s.heap.objs.size (bindL (envOfC qual scope s.heap.objs.size f cd).kindOf (ps.zip us) λ_=>none) (cellsFrom (s.heap.objs.size+1) scope.names []) (bindC (envOfC qual scope s.heap.objs.size f cd).kindOf (ps.zip us) λ_=>none) s1):
  Inv (jr CX P w K mg base N qual scope f cd A outer s H E) [] (eM N vs) H s1:=by
 have RO:ps.length<=N.length:=by have:=Na List.length S.pre;rw[LM] at this;lia
 obtain⟨h1,tk,rfl,hk⟩:=x.done
 have Wh:∀b:Addr,b∉(jr CX P w K mg base N qual scope f cd A outer s H E).ex:=λb z=>absurd (show b∈([]:List Addr) from z) (by simp)
 refine⟨⟨e0.mod,S.kind,rfl,rfl,LC _,λy z c h1 h2=>?_,λy hy=>?_,λy c _ h=>?_,λ_=>hd,Around.frames_deeper e0.frames,.inr ⟨rfl,rfl⟩,λb z=>absurd z (Wh b),e0.bs,e0.bsz,λb _ _=>Wh b,λb z=>absurd z (Wh b),e0.funs,e0.frf⟩,
  rfl,e0.bare,Un.kept hk,⟨_,x.toInCall.ns,λi y v h1 h2 h3=>?_⟩,λy c h=>⟨_,x.cell y c h⟩,e0.hok.fresh (LC _),λy c h=>?_,λp hp=>absurd (show p∈([]:List (Addr×Obj)) from hp) (by simp),e0.hok.kept hk,?_⟩
 .exact name_of_addr x.apart (Oh h1) (Oh h2)
 .have hy:scope.names.lookup y=some .cell\/scope.names.lookup y=some .free:=hy
  rcases hy with hy|hy
  .exact sF hy
  .exact absurd rfl (S.nofree _ (Oh hy))
 .exact OU (x.above y c (Oh h))
 .have hi:i<vs.length:=by
   unfold eM at h2;by_cases hi:i<vs.length
   .exact hi
   .rw[MH (by simpa using hi)] at h2;rw[NJ] at h2;split at h2<;>cases h2
  have ha:vs[i]?=some v:=by
   unfold eM at h2;rw[MF (by simpa using hi),LF] at h2;cases e:vs[i]? with
   |none=>rw[e] at h2;cases h2
   |some a=>rw[e] at h2;cases h2;rfl
  obtain⟨u,hu,rv⟩:=r.get ha
  have hp:ps[i]?=some y:=by
   rw[←S.pre,OV (by lia)];exact h1
  have XA:ps.Nodup:=by rw[←S.pre];exact S.nd.sublist (NA _ _)
  refine⟨u,rv,?_⟩
  rcases S.par y (LV hp) with k|k
  .exact .inl ⟨k,nj XA hp hu k⟩
  .obtain⟨c,e⟩:=sF (n:=s.heap.objs.size+1) k
   refine .inr ⟨.inl k,c,e,?_⟩
   have q:=x.cell y c e
   rw[nQ XA hp hu (by show scope.names.lookup y≠_;rw[k];decide)] at q
   exact q
 .exact e0.hok.fresh (OU (x.above y c (Oh h)))
 .unfold eM
  show _=N.length
  rw[LJ,Lz,Nk]
  lia
def yD {CX:qo}{P:Program}{w:World}{K:Za}{mg:Str->Option Value}{base:Heap}{k:Nat}{f:Addr}{name qual:Str}{params:Arguments}{body:List Stmt}{scope:Scope}{dV kV doc pm c_ ct oc:Value}{an od:Option Addr}
  {L_:Array (Option Value)} {N ps:List Str} {sp:Sp} (lk:K.lookup f=some ⟨oc,od,.func (PySem.W.fnOf name qual params body scope dV kV doc pm an c_ ct),L_⟩) (G':PySem.W.codeIn K c_ qual=true) (S:i4 N ps scope)
  (len:∀vs H Q E,sp vs H Q E->vs.length=ps.length)
  (B_:∀(A:Around) (outer:List Env) (s:Shared) (H:Hp) (vs:List V) (Q:VK) (E:XK),Room k (A.deeper (envOfC qual scope s.heap.objs.size f c_))->sp vs H Q E->
   ∃t,PSs (jr CX P w K mg base N qual scope f c_ A outer s H E) body t/\t {nx:=λ_ H'=>Q .non H',rt:=Q} (eM N vs) H):
  x8 P w K mg base CX (k+1) f (PySem.W.fnOf name qual params body scope dV kV doc pm an c_ ct) ps sp:=by
 refine⟨len,λA outer s H args us vs Q E hr e0 hb r Tg=>?_⟩
 have hl:=len _ _ _ _ Tg
 have KX:K.In s.heap:=e0.mod.kin.keeps λb o e=>(e0.bs b o e).1
 have lim:s.heap.NoLimit:=e0.mod.nolimit.keeps λb o e=>(e0.bs b o e).1
 have Wj:∀y∈ps.zip us,scope.names.lookup y.1=some .local\/(scope.names.lookup y.1=some .cell/\((cellsFrom (s.heap.objs.size+1) scope.names []).lookup y.1).isSome=true):=fun⟨n,v⟩ hy=>by
  rcases S.par n (Rv hy).1 with q|q
  .exact .inl q
  .exact .inr ⟨q,Rl _ _ _ (.inl q)⟩
 refine codeAny_call_function hr.depth (KX _ _ lk) rfl S.co S.gen rfl (PySem.W.codeRec_of KX G') (hb _ _ _ _ ?_)
 refine wpAny_newFunctionEnv_cells S.kind Wj λenv he s1 x=>?_
 subst he
 refine⟨lim.keeps x.toInCall.keep,codeAny_func ?_⟩
 obtain⟨t,ht,hq⟩:=B_ A outer s H vs Q E (hr.deeper _) Tg
 have I:Inv (jr CX P w K mg base N qual scope f c_ A outer s H E) [] (eM N vs) H s1:=xg S hr.hd e0 hl r x
 refine Qd (ht [] s1 (eM N vs) H _ I hq) (λfl s' hs=>?_) λe s' hs=>hs
 have fin:∀{σ':St} {H':Hp} {v:V} {u:Value},Inv (jr CX P w K mg base N qual scope f c_ A outer s H E) [] σ' H' s'->RelV v u->Q v H'->CE outer P w H s Q u s':=
  fun{σ' H' v u} J rv q=>⟨v,H',J.os,J.bare,J.base,J.hok,rv,q⟩
 cases fl with
 |ret u=>
  obtain⟨v,σ',H',J,rv,q⟩:=hs
  exact fin J rv q
 |next=>
  obtain⟨σ',H',J,q⟩:=hs
  exact fin (v:=V.non) (u:=Value.none) J rfl q
 |brk=>
  obtain⟨_,_,_,q⟩:=hs
  exact False.elim q
 |cont=>
  obtain⟨_,_,_,q⟩:=hs
  exact False.elim q
section
variable {X:Cx} {x:Str} {p pos:Pos} {e:Expr} {es:List Expr} {t:TA} {id T:String} {r:List V->Hp->VK->Prop}
def EE (r:List V->Hp->VK->Prop)(t:TA):TE:=λσ H Q=>t σ H λvs H1=>r vs H1 Q
def zQ (hc:CallR X (.builtin id) r)(hg:Gl X x)(hm:X.mg x=none)(hv:bootBuiltins x=some (.builtin id))(ha:PA X (e::es) t)(hn:x≠"__name__":=by decide)(t_:(x==("__debug__":Str))=false:=by decide)
  (he:starEach (e::es) X.env=(false,eval e X.env)::starEach es X.env:=by rfl) (RO:(backTo pos (starEach es X.env)).any (·.1)=false:=by rfl):PE X (.Call (.Name x p) (e::es) [] pos) (EE r t):=by
 intro pins s σ H Q I h
 refine NT (dh I hg hm hv ?_ hn t_)
 exact PyProof.Rows.callWith_builtin1 (J0 (ha pos pins s σ H _ I h) λus s1 ⟨vs,H1,I1,r1,q1⟩=>hc pins s1 σ H1 vs us Q I1 r1 q1) he RO
def xb (hc:CallR X (.type T) r)(hg:Gl X x)(hm:X.mg x=none)(hv:bootBuiltins x=some (.type T))(ha:PA X (e::es) t)(hn:x≠"__name__":=by decide)(t_:(x==("__debug__":Str))=false:=by decide)
  (he:starEach (e::es) X.env=(false,eval e X.env)::starEach es X.env:=by rfl) (RO:(backTo pos (starEach es X.env)).any (·.1)=false:=by rfl):PE X (.Call (.Name x p) (e::es) [] pos) (EE r t):=by
 intro pins s σ H Q I h
 refine NT (dh I hg hm hv ?_ hn t_)
 exact Nc (J0 (ha pos pins s σ H _ I h) λus s1 ⟨vs,H1,I1,r1,q1⟩=>hc pins s1 σ H1 vs us Q I1 r1 q1) he RO
end
end L2
namespace HT
open PySem PyProof.Rows
section
open PySem.SeqAt
open PySem.AutoSeq1 (wpAny_loadPart')
open PySem.MeetsSeq PySem.MeetsSeq2 PySem.MeetsSeq3
end
section
variable {prog:Program} {w:World} {A:Around} {E:Value->Shared->Prop} {s:Shared}
def cat_tup {t b:Addr}{vs ws:List Value}{Q:Value->Shared->Prop}(ht:IsTup s.heap t vs.toArray)(hb:IsTup s.heap b ws.toArray)(hv:vs≠[])
  (h1:ws=[]->Q (.ref t) s) (h2:ws≠[]->Q (.ref s.heap.objs.size) {s with heap:=s.heap.push {cls:= .type "tuple",data:= .seq (vs++ws).toArray}})
  (hsz:vs.length+ws.length<=sizeLine):wpAny (model prog w) A (binaryOp .Add (.ref t) (.ref b)) Q E s:=by
 obtain⟨⟨cls,dd,data,sl⟩,ho,hc,n,hd⟩:=id ht
 obtain⟨⟨cls2,dd2,data2,sl2⟩,Th,Ti,n2,hd2⟩:=id hb
 simp only at hc hd Ti hd2
 subst hc hd Ti hd2
 have e:vs.toArray++ws.toArray=(vs++ws).toArray:=by simp
 by_cases hw:ws=[]
 .exact concat_meets ⟨_,ho,rfl⟩ ⟨_,Th,rfl⟩ noFill_tuple_add seq_tuple_add Rm QQ (QC _ _)
   (tuple_addW1 t b vs.toArray ws.toArray n n2 dd dd2 sl sl2 (by simpa using hv) (by simp [hw])) ⟨ho,Th,h1 hw⟩
 .refine concat_meets ⟨_,ho,rfl⟩ ⟨_,Th,rfl⟩ noFill_tuple_add seq_tuple_add Rm QQ (QC _ _)
   (tuple_addW2 t b vs.toArray ws.toArray n n2 dd dd2 sl sl2 (by simpa using hv) (by simpa using hw) (by rw[Mh,Mh];exact hsz)) ⟨ho,Th,?_⟩
  rw[e]
  exact h2 hw
def sIx (n d:Nat):Option Int->Nat
 |none=>d
 |some v=>if v<0 then(v+(n:Int)).toNat else min v.toNat n
def sIx_none (n d:Nat):sIx n d none=d:=rfl
def sIx_nat (n d k:Nat):sIx n d (some (k:Int))=min k n:=by
 show(if(k:Int)<0 then((k:Int)+(n:Int)).toNat else min (k:Int).toNat n)=min k n;rw[if_neg (by lia),Pr]
def Gy (n d:Nat)(hd:d<=n)(o:Option Int):sIx n d o<=n:=by
 cases o with
 |none=>exact hd
 |some v=>
  show(if v<0 then(v+(n:Int)).toNat else min v.toNat n)<=n
  by_cases hv:v<0
  .rw[if_pos hv];lia
  .rw[if_neg hv];exact Rc _ _
def vL (v:Int)(n d:Nat):(if v<0 then max (v+(n:Int)) 0 else min v (n:Int))=((sIx n d (some v):Nat):Int):=by
 show(if v<0 then max (v+(n:Int)) 0 else min v (n:Int))=(((if v<0 then(v+(n:Int)).toNat else min v.toNat n):Nat):Int);by_cases hv:v<0
 .simp only[if_pos hv];lia
 .simp only[if_neg hv];lia
def tH (lo hi:Option Int)(n:Nat):Builtin.Slice.sliceAdjust lo hi 1 (n:Int)=(((sIx n 0 lo:Nat):Int),((sIx n n hi:Nat):Int)):=by
 have h1:¬((1:Int)<0):=by lia
 unfold Builtin.Slice.sliceAdjust;simp only[h1,Px];refine Prod.ext ?_ ?_
 .cases lo with
  |none=>rfl
  |some v=>exact vL v n 0
 .cases hi with
  |none=>rfl
  |some v=>exact vL v n n
def uu (i j:Nat):Builtin.Slice.slicePlaces (i:Int) (j:Int) 1=j -i:=by
 unfold Builtin.Slice.slicePlaces;have h1:(1:Int)>0:=by lia
 simp only[h1,SH,Int.ediv_one];split<;>lia
def lO {v:Value}{o:Option Int}{Q:Option Int->Shared->Prop}(p:IsPart v o)(h:Q o s):wpAny (model prog w) A (Builtin.Slice.slicePartIndex v) Q E s:=by
 cases p with
 |none=>exact slicePart_none h
 |int i t=>exact slicePart_int h
def iq {sl:Addr}{vl vu:Value}{lo hi:Option Int}{n:Nat}{Q:Int×Int×Nat->Shared->Prop}(hs:s.heap.IsSliceOf sl vl vu .none)(pl:IsPart vl lo)(pu:IsPart vu hi)
  (h:Q (((sIx n 0 lo:Nat):Int),1,sIx n n hi -sIx n 0 lo) s):wpAny (model prog w) A (Builtin.Slice.sliceApplied (.ref sl) (pure (n:Int))) Q E s:=by
 obtain⟨os,Wk,Wl,O'⟩:=id hs
 unfold Builtin.Slice.sliceApplied Builtin.Slice.sliceFields
 refine LG (LG (OB Wk O' (x:=vl) rfl (LG (OB Wk O' (x:=vu) rfl (LG (OB Wk O' (x:= .none) rfl (LR ?_)))))))
 refine LG (slicePart_none ?_)
 show wpAny _ _ (if((1:Int)==0)=true then _ else _) _ _ s
 rw[if_neg (by decide)]
 refine LG (lO pl (LG (lO pu (LG (LR ?_)))))
 show wpAny _ _ (match Builtin.Slice.sliceAdjust lo hi 1 (n:Int) with|(lo,hi)=>pure (lo,(1:Int),Builtin.Slice.slicePlaces lo hi 1)) _ _ s
 rw[tH lo hi n]
 show wpAny _ _ (pure (((sIx n 0 lo:Nat):Int),(1:Int),Builtin.Slice.slicePlaces ((sIx n 0 lo:Nat):Int) ((sIx n n hi:Nat):Int) 1)) _ _ s
 rw[uu]
 exact LR h
def Bn (xs:Array Value)(i k:Nat):((List.range k).filterMap fun(m:Nat)=>xs[((i:Int)+(m:Int)*1).toNat]?).toArray=((xs.toList.drop i).take k).toArray:=by
 have e:(fun(m:Nat)=>xs[((i:Int)+(m:Int)*1).toNat]?)=λm=>xs[i+m]?:=by
  funext m;have:((i:Int)+(m:Int)*1).toNat=i+m:=by lia
  rw[this]
 rw[e];have:=pick_run xs i k;rw[List.filterMap_map] at this;have e2:((λx=>xs[x]?)∘λx=>i+x)=λm=>xs[i+m]?:=rfl;rw[e2] at this;rw[this]
def getItem_tuple_cut {t sl:Addr}{items:Array Value}{vl vu:Value}{lo hi:Option Int}{Q:Value->Shared->Prop}(ht:IsTup s.heap t items)(hs:s.heap.IsSliceOf sl vl vu .none)(pl:IsPart vl lo)(pu:IsPart vu hi)
  (hw:¬(sIx items.size 0 lo=0/\sIx items.size items.size hi=items.size))
  (h:Q (.ref s.heap.objs.size) {s with heap:=s.heap.push {cls:= .type "tuple",data:= .seq ((items.toList.drop (sIx items.size 0 lo)).take (sIx items.size items.size hi -sIx items.size 0 lo)).toArray}})
  (hsz:items.size<=sizeLine):wpAny (model prog w) A (getItem (.ref t) (.ref sl)) Q E s:=by
 have RZ:sizeOk (.seq ((items.toList.drop (sIx items.size 0 lo)).take (sIx items.size items.size hi -sIx items.size 0 lo)).toArray):=by
  show((items.toList.drop (sIx items.size 0 lo)).take (sIx items.size items.size hi -sIx items.size 0 lo)).toArray.size<=sizeLine;rw[Mh,LM,MY,Og];lia
 have hj:sIx items.size items.size hi<=items.size:=Gy _ _ (LC _) hi
 obtain⟨os,Wk,Wl,O'⟩:=id hs
 have hTs:s.TypeIs (.ref sl) "slice":=⟨os,Wk,Wl⟩
 unfold getItem
 try with_reducible refine MS ?_
 first|refine LG (LR ?_)|skip
 refine LG (wpAny_sequenceKey ht.typeIs (by decide) ?_)
 refine LG (NK (name:=Str.ofString "__getitem__") ht.typeIs Oa
  (NS Oa ht.typeIs entry_tuple_getitem ?_ (args_tuple_getitem _ _)))
 show wpAny _ _ (Builtin.Tuple.tupleItemsOf (.ref t)>>=_) _ _ s
 refine LG (tupleItemsOf_ ht ?_)
 refine LG (Qr hTs ?_)
 rw[if_pos (by decide)]
 refine LG (iq hs pl pu ?_)
 have l_:¬((((sIx items.size 0 lo:Nat):Int)==0&&(1:Int)==1&&(sIx items.size items.size hi -sIx items.size 0 lo)==items.size)=true):=by
  intro q;rw[Mp,Mp] at q;have q1:((sIx items.size 0 lo:Nat):Int)=0:=eq_of_beq q.1.1;have q2:sIx items.size items.size hi -sIx items.size 0 lo=items.size:=eq_of_beq q.2;exact hw ⟨by lia,by lia⟩
 show wpAny _ _ (if(((sIx items.size 0 lo:Nat):Int)==0&&(1:Int)==1&&(sIx items.size items.size hi -sIx items.size 0 lo)==items.size)=true then _ else _) _ _ s
 rw[if_neg l_,Bn]
 first
  |exact LG (m:=Builtin.Tuple.tupleExact _) (NB (LR ⟨_,rfl,LR h⟩) RZ)
  |exact LG (m:=Builtin.Tuple.tupleExact _) (NB (LG (LR (LR ⟨_,rfl,LR h⟩))) RZ)
  |exact LG (LG (m:=Builtin.Tuple.tupleExact _) (NB (LR (LR ⟨_,rfl,LR h⟩)) RZ))
  |exact LG (LG (m:=Builtin.Tuple.tupleExact _) (NB (LR ⟨_,rfl,LR h⟩) RZ))
end
end HT
namespace L2
open PySem PySem.Spec PyProof.Rows
abbrev TO:=St->Hp->(Option Int->Hp->Prop)->Prop
def PO (X:Cx)(e:Option Expr)(t:TO):Prop:=
 ∀(pins:List (Addr×Obj)) (s:Shared) (σ:St) (H:Hp) (Q:Option Int->Hp->Prop),Inv X pins σ H s->t σ H Q->
  wpAny (model X.prog X.w) X.A (evalPart e X.env) (λu s'=>∃o H',Inv X pins σ H' s'/\IsPart u o/\Q o H') X.xe s
def oY:TO:=λ_ H Q=>Q none H
def Av (t:TE):TO:=λσ H Q=>t σ H λx H1=>∃i,x= .int i/\Q (some i) H1
def tV {ns:List Int}:∀{us:List Value},Vals (ns.map V.int) us->IntsAre us ns:=by
 induction ns with
 |nil=>intro us r;rw[Qt] at r;cases r;exact .nil
 |cons n ns ih=>
  intro us r
  rw[MG] at r
  cases r with
  |cons r1 r2=>
   obtain⟨t,e⟩:=r1
   subst e
   exact .cons n t (ih r2)
section
variable {X:Cx} {e:Expr} {te:TE} {lo hi:Option Expr} {tl th:TO} {pos p2:Pos}
def BU:PO X none oY:=by
 intro pins s σ H Q I h;rw[evalPart_none];exact LR ⟨none,H,I,.none,h⟩
def BQ (h:PE X e te):PO X (some e) (Av te):=by
 intro pins s σ H Q I hw;rw[evalPart_some];refine J0 (h pins s σ H _ I hw) λu s1 ⟨x,H1,I1,r1,q1⟩=>?_;obtain⟨i,rfl,q⟩:=q1;obtain⟨t,rfl⟩:=r1;exact⟨some i,H1,I1,.int i t,q⟩
def SlR (X:Cx)(r:V->Option Int->Option Int->Hp->VK->Prop):Prop:=
 ∀(pins:List (Addr×Obj)) (s:Shared) (σ:St) (H:Hp) (x:V) (v vl vu:Value) (lo hi:Option Int) (sl:Addr) (Q:VK),Inv X pins σ H s->RelV x v->s.heap.IsSliceOf sl vl vu .none->IsPart vl lo->IsPart vu hi->r x lo hi H Q->
  ∃T id,typeLookup (.type T) "__getitem__"=pure (some (.builtin id))/\s.TypeIs v T/\wpAny (model X.prog X.w) X.A (getItem v (.ref sl)) (EP X pins σ Q) X.xe s
def SlR.or {r r':V->Option Int->Option Int->Hp->VK->Prop}(h:SlR X r)(h':SlR X r'):SlR X (λx lo hi H Q=>r x lo hi H Q\/r' x lo hi H Q):=by grind [SlR]
def Kx (r:V->Option Int->Option Int->Hp->VK->Prop)(te:TE)(tl th:TO):TE:=λσ H Q=>te σ H λx H1=>tl σ H1 λl H2=>th σ H2 λu H3=>r x l u H3 Q
def yA {r:V->Option Int->Option Int->Hp->VK->Prop}(hr:SlR X r)(he:PE X e te)(hl:PO X lo tl)(hu:PO X hi th):PE X (.Subscript e (.Slice lo hi none p2) pos) (Kx r te tl th):=by
 intro pins s σ H Q I h;refine Subscript_ (J0 (he pins s σ H _ I h) λv s1 ⟨x,H1,I1,r1,q1⟩=>?_);refine wpAny_Slice (J0 (hl pins s1 σ H1 _ I1 q1) λvl s2 ⟨l,H2,I2,pl,q2⟩=>J0 (hu pins s2 σ H2 _ I2 q2) λvu s3 ⟨u,H3,I3,pu,q3⟩=>?_);rw[evalPart_none];refine LR ?_;have I4:Inv X pins σ H3 {s3 with heap:=s3.heap.push {cls:= .type "slice",data:= .fields #[vl,vu,.none]}}:=I3.kept (t':=s3.toks) λb ob q=>LL _ q;obtain⟨T,id,hT,ht,hg⟩:=hr pins {s3 with heap:=s3.heap.push {cls:= .type "slice",data:= .fields #[vl,vu,.none]}} σ H3 x v vl vu l u s3.heap.objs.size Q I4 r1 (Heap.IsSliceOf.new ..) pl pu q3;show wpAny (model X.prog X.w) X.A (subscriptTail e (.Slice lo hi none p2) v (.ref s3.heap.objs.size)) (EP X pins σ Q) X.xe {s3 with heap:=s3.heap.push {cls:= .type "slice",data:= .fields #[vl,vu,.none]}};exact tail_any (ops:=[.ref s3.heap.objs.size,v]) ht hT hg (by with_unfolding_all rfl)
def Q3 (xs:List V)(lo hi:Option Int):List V:=(xs.drop (HT.sIx xs.length 0 lo)).take (HT.sIx xs.length xs.length hi -HT.sIx xs.length 0 lo)
def iX (xs:List V)(lo hi:Option Int):(Q3 xs lo hi).length<=xs.length:=by
 unfold Q3;rw[LM,MY];lia
def HL (K:Za):V->Option Int->Option Int->Hp->VK->Prop:=λx lo hi H Q=>∃a xs,x= .ref a/\SqT K H a xs/\
 ¬(HT.sIx xs.length 0 lo=0/\HT.sIx xs.length xs.length hi=xs.length)/\∀p,H p=none->Q (.ref p) (upd H p (.tup (Q3 xs lo hi)))
def sl_tup:SlR X (HL X.K):=by
 intro pins s σ H x v vl vu lo hi sl Q I rx hs pl pu h;obtain⟨a,xs,rfl,hx,hw,q⟩:=h;cases rx;obtain⟨a_,r,ht,hz⟩:=I.tuple hx;have hlen:a_.toArray.size=xs.length:=by rw[Mh];exact r.length.symm
 refine⟨"tuple",_,Oa.lookup,ht.typeIs,?_⟩;refine HT.getItem_tuple_cut ht hs pl pu (by rw[hlen];exact hw) ?_ (by rw[hlen];exact hz);rw[hlen];refine⟨.ref s.heap.objs.size,_,I.laid (t':=s.toks) (o:= .tup (Q3 xs lo hi)) (λb ob q=>LL _ q) (LC _) ?_,rfl,q _ (I.hok.fresh (LC _))⟩;exact⟨Mb (iX xs lo hi) hz,_,(r.drop (HT.sIx xs.length 0 lo)).take (HT.sIx xs.length xs.length hi -HT.sIx xs.length 0 lo),IsTup.new _ _⟩
def Dv (K:Za):R2:=λx y H Q=>∃a b xs ys,x= .ref a/\y= .ref b/\SqT K H a xs/\SqT K H b ys/\xs≠[]/\xs.length+ys.length<=sizeLine/\
 (ys=[]->Q (.ref a) H)/\(ys≠[]->∀p,H p=none->Q (.ref p) (upd H p (.tup (xs++ys))))
def Vals.nil_iff {xs:List V}{us:List Value}(r:Vals xs us):us=[]↔xs=[]:=by
 cases r with
 |nil=>simp
 |cons _ _=>simp
def Dm:OpR X (binaryOp .Add) (Dv X.K):=by
 intro pins s σ H x y v u Q I rx ry h;obtain⟨a,b,xs,ys,rfl,rfl,ha,hb,hx,hz,q1,q2⟩:=h;cases rx;cases ry;obtain⟨a_,r1,p1,_⟩:=I.tuple ha;obtain⟨O_,r2,p2,_⟩:=I.tuple hb;refine HT.cat_tup p1 p2 (λz=>hx (r1.nil_iff.mp z)) (λz=>⟨.ref a,H,I,rfl,q1 (r2.nil_iff.mp z)⟩) (λz=>?_) (by rw[←r1.length,←r2.length];exact hz);refine⟨.ref s.heap.objs.size,_,I.laid (t':=s.toks) (o:= .tup (xs++ys)) (λb ob q=>LL _ q) (LC _) ?_,rfl,q2 (λw=>z (r2.nil_iff.mpr w)) _ (I.hok.fresh (LC _))⟩;exact⟨by rw[LJ];exact hz,_,r1.append r2,IsTup.new _ _⟩
end
def BZ (n:Nat)(i:Int):Option Nat:=if 0<=i then(if i<n then some i.toNat else none) else if -(n:Int)<=i then some (i+n).toNat else none
def mO {α:Type}(xs:List α)(i:Int):Option α:=(BZ xs.length i).bind λj=>xs[j]?
theorem vo {n:Nat}{i:Int}{j:Nat}(h:BZ n i=some j):seqIndex? i n=some j/\j<n/\-(n:Int)<=i/\i<n:=by
 unfold BZ at h;by_cases h0:0<=i
 .rw[if_pos h0] at h;by_cases h1:i<n
  .rw[if_pos h1] at h;have e:i.toNat=j:=Mc h;exact⟨by rw[seqIndex_of h0 h1,e],by lia,by lia,h1⟩
  .rw[if_neg h1] at h;cases h
 .rw[if_neg h0] at h;by_cases h1: -(n:Int)<=i
  .rw[if_pos h1] at h;have e:(i+n).toNat=j:=Mc h;exact⟨by rw[seqIndex_neg (by lia) h1,e],by lia,h1,by lia⟩
  .rw[if_neg h1] at h;cases h
def pj {α:Type}{xs:List α}{i:Int}{v:α}(h:mO xs i=some v):∃j,seqIndex? i xs.length=some j/\xs[j]?=some v/\j<xs.length/\-(xs.length:Int)<=i/\i<xs.length:=by grind [mO,BZ,vo]
def i9 {α:Type}{xs:List α}{j:Nat}{v:α}(h:xs[j]?=some v):mO xs (j:Int)=some v:=by
 have hj:j<xs.length:=(MQ.mp h).1;have e:BZ xs.length (j:Int)=some j:=by
  unfold BZ;rw[if_pos (by lia),if_pos (by lia)];simp
 unfold mO;rw[e];exact h
def atI_last {α:Type}(xs:List α)(v:α):mO (xs++[v]) (-1)=some v:=by
 have hl:(xs++[v]).length=xs.length+1:=by simp
 have e:BZ (xs++[v]).length (-1)=some xs.length:=by
  unfold BZ;rw[hl,if_neg (by decide),if_pos (by lia)];congr 1;lia
 unfold mO;rw[e];show(xs++[v])[xs.length]?=some v;simp
def ve (b:Expr):Prop:=∀o i,subscripted b false o i=operate [o,i] (getItem o i)
def IxR (X:Cx)(r:R2):Prop:=
 ∀(value slice:Expr) (pins:List (Addr×Obj)) (s:Shared) (σ:St) (H:Hp) (x y:V) (v u:Value) (Q:VK),Inv X pins σ H s->RelV x v->RelV y u->r x y H Q->
  subscripted slice false v u=operate [v,u] (getItem v u)->wpAny (model X.prog X.w) X.A (subscriptTail value slice v u) (EP X pins σ Q) X.xe s
def Bs (X:Cx)(id:String)(r:V->List V->Hp->VK->Prop):Prop:=
 ∀(pins:List (Addr×Obj)) (s:Shared) (σ:St) (H:Hp) (x:V) (xs:List V) (v:Value) (us:List Value) (Q:VK),Inv X pins σ H s->RelV x v->Vals xs us->r x xs H Q->
  wpAny (model X.prog X.w) X.A (call (.builtin id) (v::us)) (EP X pins σ Q) X.xe s
section
variable {X:Cx} {a b:Expr} {ta tb:TE} {pos:Pos}
def IxR.or {r r':R2}(h:IxR X r)(h':IxR X r'):IxR X (λx y H Q=>r x y H Q\/r' x y H Q):=by
 intro value slice pins s σ H x y v u Q I rx ry q hs;rcases q with q|q
 .exact h value slice pins s σ H x y v u Q I rx ry q hs
 .exact h' value slice pins s σ H x y v u Q I rx ry q hs
def Ij {r:R2}(hr:IxR X r)(ha:PE X a ta)(hb:PE X b tb)(hs:ve b):PE X (.Subscript a b pos) (CO r ta tb):=by
 intro pins s σ H Q I h;exact Subscript_ (EF ha hb I h λv u s2 x y H2 I2 rx ry q=>hr a b pins s2 σ H2 x y v u Q I2 rx ry q (hs _ _))
def Hj (K:Za):R2:=λx y H Q=>∃p xs i v,x= .ref p/\y= .int i/\SqL K H p xs/\mO xs i=some v/\Q v H
def Jj (K:Za):R2:=λx y H Q=>∃p xs i v,x= .ref p/\y= .int i/\SqT K H p xs/\mO xs i=some v/\Q v H
def Iw:R2:=λx y H Q=>∃z i c,x= .str z/\y= .int i/\z.length<=sizeLine/\mO z.cps.toList i=some c/\Q (.str ⟨#[c]⟩) H
def ix_list:IxR X (Hj X.K):=by
 intro value slice pins s σ H x y v u Q I rx ry h hs;obtain⟨p,xs,i,z,rfl,rfl,hq,he,q⟩:=h;cases rx;obtain⟨t,rfl⟩:=ry;obtain⟨a_,r,pl,hz⟩:=I.list hq;obtain⟨j,h1,h2,h3,h4,h5⟩:=pj he;obtain⟨w,ew,Tq⟩:=r.get h2;have hl:=r.length;have hn:=iK;have fin:EP X pins σ Q w s:=⟨z,H,I,Tq,q⟩
 by_cases h0:0<=i
 .have hj:i.toNat=j:=by
   rw[seqIndex_of h0 h5] at h1;exact Mc h1
  exact item_listR pl.isList h0 (by lia) (by rw[hj];simpa using ew) fin hs
 .have hj:(i+(a_.toArray.size:Int)).toNat=j:=by
   rw[seqIndex_neg (by lia) h4] at h1;rw[Mh,←hl];exact Mc h1
  exact subscriptTail_builtinR (x:=w) pl.isList.typeIs slot_list_getitem.lookup
   (wpAny_getItem_list_neg (Q:=λr s'=>r=w/\EP X pins σ Q r s') pl.isList (by lia) (by rw[Mh]<;>lia) (by lia) (by rw[hj];simpa using ew) ⟨rfl,fin⟩) hs
def ix_tup:IxR X (Jj X.K):=by
 intro value slice pins s σ H x y v u Q I rx ry h hs;obtain⟨p,xs,i,z,rfl,rfl,hq,he,q⟩:=h;cases rx;obtain⟨t,rfl⟩:=ry;obtain⟨a_,r,pl,hz⟩:=I.tuple hq;obtain⟨j,h1,h2,h3,h4,h5⟩:=pj he;obtain⟨w,ew,Tq⟩:=r.get h2;have hl:=r.length;have hn:=iK;have fin:EP X pins σ Q w s:=⟨z,H,I,Tq,q⟩
 exact subscriptTail_builtinR (x:=w) pl.typeIs slot_tuple_getitem.lookup
  (getItem_tuple (j:=j) (Q:=λr s'=>r=w/\EP X pins σ Q r s') pl (by lia) (by lia) (by rw[Mh,←hl];exact h1) (by simpa using ew) ⟨rfl,fin⟩) hs
def Fd:IxR X Iw:=by
 intro value slice pins s σ H x y v u Q I rx ry h hs;obtain⟨z,i,c,rfl,rfl,hz,he,q⟩:=h;obtain⟨t,rfl⟩:=rx;obtain⟨t',rfl⟩:=ry;obtain⟨j,h1,h2,h3,h4,h5⟩:=pj he;have hl:z.cps.toList.length=z.length:=by simp [Str.length]
 rw[hl] at h1 h4 h5;have hn:=iK;exact tail_any (RJ s z t) slot_str_getitem.lookup (getItem_str (c:=c) (by
  have e1:decide (i< -(2 ^ 63:Int))=false:=Mn (by lia);have e2:decide (i≥2 ^ 63)=false:=Mn (by lia);rw[e1,e2,Bool.or_false]) (by rw[h1];simpa using h2) ⟨.str ⟨#[c]⟩,H,I.tok _,⟨_,rfl⟩,q⟩) hs
def KG (K:Za):R2:=λx y H Q=>Hj K x y H Q\/Jj K x y H Q\/Iw x y H Q
def ix_seq:IxR X (KG X.K):=ix_list.or (ix_tup.or Fd)
def tN (a_:List Value)(n j:Nat)(u:Value):Obj.mapSeq (·.setIfInBounds j u) {cls:= .type "list",data:= .seq a_.toArray n}={cls:= .type "list",data:= .seq (a_.set j u).toArray n}:=by
 simp [Obj.mapSeq]
def Inv.lst {pins:List (Addr×Obj)}{σ:St}{H:Hp}{s:Shared}{p:Addr}{xs:List V}(I:Inv X pins σ H s)(h:H p=some (.lst xs)):
  ∃(a_:List Value) (n:Nat),Vals xs a_/\s.heap.get? p=some {cls:= .type "list",data:= .seq a_.toArray n}/\xs.length<=sizeLine:=by
 obtain⟨z,a_,n,r,e⟩:=I.hok p _ h
 exact⟨a_,n,r,e,z⟩
def Inv.lstUpd {pins:List (Addr×Obj)}{σ:St}{H:Hp}{s:Shared}{p:Addr}{xs ys:List V}{a_ its':List Value}{n n':Nat}{f:Obj->Obj}(I:Inv X pins σ H s)(h:H p=some (.lst xs))
  (ho:s.heap.get? p=some {cls:= .type "list",data:= .seq a_.toArray n}) (hf:f {cls:= .type "list",data:= .seq a_.toArray n}={cls:= .type "list",data:= .seq its'.toArray n'}) (r:Vals ys its') (hz:ys.length<=sizeLine) (t:Nat):
  Inv X pins σ (upd H p (.lst ys)) {s with heap:=s.heap.update p f,toks:=t}:=by
 have e:(s.heap.update p f).get? p=some {cls:= .type "list",data:= .seq its'.toArray n'}:=by
  rw[PD f ho (by rw[hf]<;>rfl),hf]
 refine I.write (x:=p) (e:=p) (by rw[h];trivial) (.inl rfl) (λb u hb q=>(Heap.get?_update_other _ _ (Nr hb)).trans q) ⟨_,e⟩ ?_
 exact⟨hz,its',n',r,e⟩
def DL:V->V->V->Hp->(Hp->Prop)->Prop:=λo i v H Q=>∃p xs k j,o= .ref p/\i= .int k/\H p=some (.lst xs)/\BZ xs.length k=some j/\Q (upd H p (.lst (xs.set j v)))
def yt:xG X DL:=by
 intro pins s σ H o i v ov iv u Q I ro ri rv h;obtain⟨p,xs,k,j,rfl,rfl,hp,hj,q⟩:=h;cases ro;obtain⟨t,rfl⟩:=ri;obtain⟨a_,n,r,ho,hz⟩:=I.lst hp;obtain⟨h1,h2,h3,h4⟩:=vo hj;have hl:=r.length;have hn:=iK;have I':Inv X pins σ (upd H p (.lst (xs.set j v))) {s with heap:=s.heap.update p (Obj.mapSeq (·.setIfInBounds j u))}:=
  I.lstUpd hp ho (tN a_ n j u) (r.set rv j) (by rw[List.length_set];exact hz) s.toks
 by_cases h0:0<=k
 .have hk:k.toNat=j:=by
   rw[seqIndex_of h0 h4] at h1;exact Mc h1
  exact PySem.W.ki_setAt ho h0 (by lia) (by rw[Mh,←hl];exact h4) (by rw[hk];exact⟨_,I',q⟩)
 .have hk:(k+(a_.toArray.size:Int)).toNat=j:=by
   rw[seqIndex_neg (by lia) h3] at h1;rw[Mh,←hl];exact Mc h1
  exact PySem.W.ki_setBack ho (by lia) (by rw[Mh,←hl];exact h3) (by lia) (by rw[hk];exact⟨_,I',q⟩)
def qg (lo hi:Option Int)(n:Nat):(sliceBounds lo hi none n).1=((HT.sIx n 0 lo:Nat):Int)/\(sliceBounds lo hi none n).2.1=((HT.sIx n n hi:Nat):Int)/\(sliceBounds lo hi none n).2.2=1:=by
 refine⟨?_,?_,rfl⟩
 .cases lo with
  |none=>simp [sliceBounds,HT.sIx]
  |some i=>
   simp only[sliceBounds,HT.sIx,Option.getD_none,show(1:Int)>0 by decide,SH]
   by_cases h:i<0
   .simp only[h,SH]<;>lia
   .simp only[h,Px]<;>lia
 .cases hi with
  |none=>simp [sliceBounds,HT.sIx]
  |some i=>
   simp only[sliceBounds,HT.sIx,Option.getD_none,show(1:Int)>0 by decide,SH]
   by_cases h:i<0
   .simp only[h,SH]<;>lia
   .simp only[h,Px]<;>lia
def mq (a_:List Value)(lo hi:Option Int):slicePick a_.toArray lo hi none=((a_.drop (HT.sIx a_.length 0 lo)).take (HT.sIx a_.length a_.length hi -HT.sIx a_.length 0 lo)).toArray:=by
 obtain⟨h1,h2,h3⟩:=qg lo hi a_.toArray.size;unfold slicePick;rw[h1,h2,h3];simp only[sliceRange_one,pick_run,Mh]<;>rfl
def Hy (K:Za):V->Option Int->Option Int->Hp->VK->Prop:=λx lo hi H Q=>∃a xs,x= .ref a/\SqL K H a xs/\∀p,H p=none->Q (.ref p) (upd H p (.lst (Q3 xs lo hi)))
def sl_list:SlR X (Hy X.K):=by
 intro pins s σ H x v vl vu lo hi sl Q I rx hs pl pu h;obtain⟨a,xs,rfl,hx,q⟩:=h;cases rx;obtain⟨a_,r,ht,hz⟩:=I.list hx;have hlen:=r.length;refine⟨"list",_,slot_list_getitem.lookup,ht.isList.typeIs,?_⟩;refine wpAny_getItem_list_slice ht.isList hs pl pu .none (by simp) ?_ (by rw[Mh]<;>lia);rw[mq,←hlen];refine⟨.ref s.heap.objs.size,_,I.laid (t':=s.toks) (o:= .lst (Q3 xs lo hi)) (λb ob q=>LL _ q) (LC _) ?_,rfl,q _ (I.hok.fresh (LC _))⟩;exact⟨Mb (iX xs lo hi) hz,_,0,(r.drop (HT.sIx xs.length 0 lo)).take (HT.sIx xs.length xs.length hi -HT.sIx xs.length 0 lo),Md _ rfl⟩
def C0:V->Bool
 | .non=>true
 | .bl _=>true
 | .int _=>true
 | .str _=>true
 |_=>false
def fc:V->V->Bool
 | .non,.non=>true
 | .bl a,.bl b=>a==b
 | .bl a,.int b=>(if a then 1 else 0)==b
 | .int a,.bl b=>a==(if b then 1 else 0)
 | .int a,.int b=>a==b
 | .str a,.str b=>a==b
 |_,_=>false
def cK {A:Around}{s:Shared}{y x:V}{u v:Value}(ry:RelV y u)(rx:RelV x v)(fy:C0 y=true)(fx:C0 x=true):SeqAt.EqAt A s u v (fc y x):=by
 cases y with
 |non=>
  cases ry
  cases x with
  |non=>cases rx;exact OC _
  |bl b=>cases rx;exact SeqAt.EqAt.none_bool b
  |int b=>obtain⟨t,rfl⟩:=rx;exact SeqAt.EqAt.none_int b t
  |str b=>obtain⟨t,rfl⟩:=rx;exact SeqAt.EqAt.none_str b t
  |_=>exact absurd (show false=true from fx) Ms
 |bl a=>
  cases ry
  cases x with
  |non=>cases rx;exact SeqAt.EqAt.bool_none a
  |bl b=>cases rx;exact SeqAt.EqAt.bool_bool a b
  |int b=>obtain⟨t,rfl⟩:=rx;exact SeqAt.EqAt.bool_int a b t
  |str b=>obtain⟨t,rfl⟩:=rx;exact SeqAt.EqAt.bool_str a b t
  |_=>exact absurd (show false=true from fx) Ms
 |int a=>
  obtain⟨t',rfl⟩:=ry
  cases x with
  |non=>cases rx;exact SeqAt.EqAt.int_none a t'
  |bl b=>cases rx;exact SeqAt.EqAt.int_bool a t' b
  |int b=>obtain⟨t,rfl⟩:=rx;exact SeqAt.EqAt.int_int a t' b t
  |str b=>obtain⟨t,rfl⟩:=rx;exact Ql a t' b t
  |_=>exact absurd (show false=true from fx) Ms
 |str a=>
  obtain⟨t',rfl⟩:=ry
  cases x with
  |non=>cases rx;exact SeqAt.EqAt.str_none a t'
  |bl b=>cases rx;exact SeqAt.EqAt.str_bool a t' b
  |int b=>obtain⟨t,rfl⟩:=rx;exact Qm a t' b t
  |str b=>obtain⟨t,rfl⟩:=rx;exact SeqAt.EqAt.str_str a t' b t
  |_=>exact absurd (show false=true from fx) Ms
 |_=>exact absurd (show false=true from fy) Ms
def sJ (x:V)(u:Value):Bool:=match u with
 | .none=>fc .non x
 | .bool b=>fc (.bl b) x
 | .int i _=>fc (.int i) x
 | .str z _=>fc (.str z) x
 |_=>false
def yv {x y:V}{u:Value}(r:RelV y u)(f:C0 y=true):sJ x u=fc y x:=by grind [cases V,RelV,C0,sJ,fc]
theorem gK {x:V}:∀{xs:List V} {us:List Value},Vals xs us->xs.all C0=true->us.any (sJ x)=xs.any λy=>fc y x
 |_,_,.nil,_=>rfl
 |y::xs,u::us,.cons r t,f=>by
  rw[Oi,Mp] at f;rw[Sn,Sn,yv r f.1,gK t f.2]
theorem cN {A:Around}{s:Shared}{x:V}{v:Value}(rx:RelV x v)(fx:C0 x=true):∀{xs:List V} {us:List Value},Vals xs us->xs.all C0=true->∀u∈us,SeqAt.EqAt A s u v (sJ x u)
 |_,_,.nil,_=>λu hu=>by cases hu
 |y::xs,u::us,.cons r t,f=>λu' hu=>by
  rw[Oi,Mp] at f;rcases Mr.mp hu with rfl|hu
  .rw[yv r f.1];exact cK r rx f.1 fx
  .exact cN rx fx t f.2 u' hu
def Jb (x:V)(xs:List V):Bool:=xs.any λy=>fc y x
def Ju (K:Za)(neg:Bool):R2:=λx y H Q=>∃p xs,y= .ref p/\(SqL K H p xs\/SqT K H p xs)/\C0 x=true/\xs.all C0=true/\Q (.bl (if neg then !Jb x xs else Jb x xs)) H
def op_in_seq:OpR X (compareOp .In) (Ju X.K false):=by
 intro pins s σ H x y v u Q I rx ry h;obtain⟨p,xs,rfl,hq,fx,fs,q⟩:=h;cases ry;rcases hq with hq|hq
 .obtain⟨a_,r,pl,hz⟩:=I.list hq;refine SeqAt.in_listAt (sJ x) pl.isList (λw hw=>cN rx fx r fs w (by simpa using hw)) ⟨.bl _,H,I,rfl,?_⟩;rw[show a_.toArray.any (sJ x)=a_.any (sJ x) by simp,gK r fs];exact q
 .obtain⟨a_,r,pl,hz⟩:=I.tuple hq;refine SeqAt.in_tupleAt (sJ x) pl (λw hw=>cN rx fx r fs w (by simpa using hw)) ⟨.bl _,H,I,rfl,?_⟩;rw[show a_.toArray.any (sJ x)=a_.any (sJ x) by simp,gK r fs];exact q
def op_notIn_seq:OpR X (compareOp .NotIn) (Ju X.K true):=by
 intro pins s σ H x y v u Q I rx ry h;obtain⟨p,xs,rfl,hq,fx,fs,q⟩:=h;cases ry;rcases hq with hq|hq
 .obtain⟨a_,r,pl,hz⟩:=I.list hq;refine SeqAt.notIn_listAt (sJ x) pl.isList (λw hw=>cN rx fx r fs w (by simpa using hw)) ⟨.bl _,H,I,rfl,?_⟩;rw[show a_.toArray.any (sJ x)=a_.any (sJ x) by simp,gK r fs];exact q
 .obtain⟨a_,r,pl,hz⟩:=I.tuple hq;refine SeqAt.notIn_tupleAt (sJ x) pl (λw hw=>cN rx fx r fs w (by simpa using hw)) ⟨.bl _,H,I,rfl,?_⟩;rw[show a_.toArray.any (sJ x)=a_.any (sJ x) by simp,gK r fs];exact q
def oX:OpR X (compareOp .NotIn) (λx y H Q=>∃i j,x= .str i/\y= .str j/\Q (.bl (!(!(Builtin.Str.occurrences j i 0 j.length 1).isEmpty))) H):=by
 intro pins s σ H x y v u Q I rx ry h;obtain⟨i,j,rfl,rfl,q⟩:=h;obtain⟨t,rfl⟩:=rx;obtain⟨t',rfl⟩:=ry;exact notIn_str ⟨.bl _,H,I,rfl,q⟩
def CallR.or {f:Value}{r r':List V->Hp->VK->Prop}(h:CallR X f r)(h':CallR X f r'):CallR X f (λxs H Q=>r xs H Q\/r' xs H Q):=by grind [CallR]
def call_list_of:CallR X (.type "list") (λxs H Q=>∃p ys,xs=[.ref p]/\(SqL X.K H p ys\/SqT X.K H p ys)/\∀l,H l=none->Q (.ref l) (upd H l (.lst ys))):=by
 intro pins s σ H xs us Q I r h;obtain⟨p,ys,rfl,hq,q⟩:=h;obtain⟨u,rfl,rx⟩:=M9 r;cases rx;have fin:∀(a_:List Value),Vals ys a_->ys.length<=sizeLine->∀(h':Heap) (c':Nat),(∀b o',s.heap.get? b=some o'->h'.get? b=some o')->
   h'.get? s.heap.objs.size=some {cls:= .type "list",dict:=none,data:= .seq a_.toArray c',slots:= #[]}->EP X pins σ Q (.ref s.heap.objs.size) {s with heap:=h'}:=λa_ r' hz h' c' kp e=>
  ⟨.ref s.heap.objs.size,_,I.laid (t':=s.toks) kp (LC _) (show ObjOk X.prog X.w _ h' _ (.lst ys) from⟨hz,a_,c',r',e⟩),rfl,q _ (I.hok.fresh (LC _))⟩
 rcases hq with hq|hq
 .obtain⟨a_,r',pl,hz⟩:=I.list hq;have hlen:=r'.length;obtain⟨o,ho,hc,n,hd⟩:=pl.isList;exact call_list_seq p (.inl rfl) ho hc hd (λh' c' kp e=>fin a_ r' hz h' c' kp e) (by simp only[Mh]<;>lia)
 .obtain⟨a_,r',pl,hz⟩:=I.tuple hq;have hlen:=r'.length;obtain⟨o,ho,hc,n,hd⟩:=pl;exact call_list_seq p (.inr rfl) ho hc hd (λh' c' kp e=>fin a_ r' hz h' c' kp e) (by simp only[Mh]<;>lia)
def IE (K:Za)(T:String)(x:V)(H:Hp):Prop:=match x with
 | .str _=>T="str"
 | .int _=>T="int"
 | .ref p=>(T="list"/\∃xs,SqL K H p xs)\/(T="tuple"/\∃o,K.lookup p=some o/\o.cls= .type "tuple"/\o.dict=none)\/
   (T="dict"/\((∃kvs,H p=some (.dK kvs))\/∃kvs,H p=some (.dT kvs)))\/(T="set"/\∃S n,H p=some (.set S n))
 |_=>False
def AS {pins:List (Addr×Obj)}{σ:St}{H:Hp}{s:Shared}{T:String}{x:V}{v:Value}(I:Inv X pins σ H s)(r:RelV x v)(ty:IE X.K T x H):
  s.TypeIs v T/\∀a,v= .ref a->∃ob,s.heap.get? a=some ob/\ob.dict=none:=by
 cases x with
 |str z=>
  obtain⟨t,rfl⟩:=r
  cases (show T="str" from ty)
  exact⟨RJ s z t,λ_ e=>nomatch e⟩
 |int i=>
  obtain⟨t,rfl⟩:=r
  cases (show T="int" from ty)
  exact⟨typeIs_int s i t,λ_ e=>nomatch e⟩
 |ref p=>
  cases r
  rcases ty with⟨rfl,xs,hq⟩|⟨rfl,o,hk,hc,hd⟩|⟨rfl,hk⟩|⟨rfl,S,n,hk⟩
  .obtain⟨a_,_,pl,_⟩:=I.list hq
   refine⟨pl.isList.typeIs,λa e=>?_⟩
   cases e
   obtain⟨o,n,e,c,hd,_⟩:=pl
   exact⟨o,e,hd⟩
  .refine⟨⟨o,I.kIn p o hk,hc⟩,λa e=>?_⟩
   cases e
   exact⟨o,I.kIn _ o hk,hd⟩
  .have z:∃o,s.heap.get? p=some o/\o.ExactDict:=by
    rcases hk with⟨kvs,hk⟩|⟨kvs,hk⟩
    .obtain⟨_,_,_,_,o,_,_,e,ex,_⟩:=I.hok p _ hk;exact⟨o,e,ex⟩
    .obtain⟨_,_,_,_,o,_,_,e,ex,_⟩:=I.hok p _ hk;exact⟨o,e,ex⟩
   obtain⟨o,e,ex⟩:=z
   refine⟨⟨o,e,ex.1⟩,λa e2=>?_⟩
   cases e2
   exact⟨o,e,ex.2.1⟩
  .obtain⟨o,_,_,_,e,ex,_⟩:=I.hok p _ hk
   refine⟨⟨o,e,ex.1⟩,λa e2=>?_⟩
   cases e2
   exact⟨o,e,ex.2.1⟩
 |_=>exact False.elim ty
def EI (K:Za)(T:String)(r:V->List V->Hp->VK->Prop)(to:TE):TE:=λσ H Q=>to σ H λx H1=>IE K T x H1/\r x [] H1 Q
def Kz (K:Za)(T:String)(r:V->List V->Hp->VK->Prop)(to:TE)(t:TA):TE:=λσ H Q=>to σ H λx H1=>IE K T x H1/\t σ H1 λxs H2=>r x xs H2 Q
variable {o e:Expr} {es:List Expr} {to:TE} {t:TA} {name:Str} {apos b_:Pos} {T id:String} {r:V->List V->Hp->VK->Prop}
def En (pa:PlainAttrs T)(slot:Slot T name id)(Uh:typeOf (.builtin id)=pure (.type "method_descriptor"))(hm:Bs X id r)(ho:PE X o to)
  (f_:attributeBase o name X.env (eval o X.env)=eval o X.env:=by rfl) (g_:(apos.endLine==b_.line)=true:=by rfl):PE X (.Call (.Attribute o name apos) [] [] b_) (EI X.K T r to):=by
 intro pins s σ H Q I h
 refine Pa f_ g_ (J0 (ho pins s σ H _ I h) λv s1 ⟨x,H1,I1,r1,ty,q1⟩=>?_)
 obtain⟨h1,h2⟩:=AS I1 r1 ty
 exact⟨T,id,pa,slot,Uh,h1,h2,Nx rfl (Qe (hm pins s1 σ H1 x [] v [] Q I1 r1 .nil q1))⟩
def GO (pa:PlainAttrs T)(slot:Slot T name id)(Uh:typeOf (.builtin id)=pure (.type "method_descriptor"))(hm:Bs X id r)(ho:PE X o to)(ha:PA X (e::es) t)
  (f_:attributeBase o name X.env (eval o X.env)=eval o X.env:=by rfl)
  (Yw:((backTo b_ (starEach (e::es) X.env)).all (λx=>!x.1)&&(backToKw b_ (keywordEach [] X.env)).all (λx=>x.1.isSome)
   &&decide ((e::es).length+([]:List Keyword).length+(if([]:List Keyword).isEmpty then 0 else 1)<30))=true:=by rfl)
  (g_:(apos.endLine==b_.line)=true:=by rfl) (hs:starEach (e::es) X.env=(false,eval e X.env)::starEach es X.env:=by rfl) (U_:(backTo b_ (starEach es X.env)).any (·.1)=false:=by rfl):
  PE X (.Call (.Attribute o name apos) (e::es) [] b_) (Kz X.K T r to t):=by
 intro pins s σ H Q I h
 refine wpAny_Call_method_late f_ Yw g_ rfl (J0 (ho pins s σ H _ I h) λv s1 ⟨x,H1,I1,r1,ty,q1⟩=>?_)
 obtain⟨h1,h2⟩:=AS I1 r1 ty
 refine⟨T,id,pa,slot,Uh,h1,h2,?_⟩
 have hA:=ha b_ pins s1 σ H1 _ I1 q1
 rw[hs] at hA⊢
 refine Nx (by show(false||(backTo b_ (starEach es X.env)).any (·.1))=false;rw[U_]<;>rfl) (OL ?_)
 exact J0 hA λus s2 ⟨vs,H2,I2,r2,q2⟩=>hm pins s2 σ H2 x vs v us Q I2 r1 r2 q2
end
def Jw (X:Cx)(id:String)(r:V->List V->Hp->VK->Prop):Prop:=
 ∀(pins:List (Addr×Obj)) (s:Shared) (σ:St) (H:Hp) (x:V) (xs:List V) (v:Value) (us:List Value) (Q:VK),Inv X pins σ H s->RelV x v->Vals xs us->r x xs H Q->
  wpAny (model X.prog X.w) X.A (call (.builtin id) (v::us)) (EP X pins σ Q) X.xe s
theorem Vals.one:∀{x:V} {us:List Value},Vals [x] us->∃u,us=[u]/\RelV x u
 |_,_,.cons r .nil=>⟨_,rfl,r⟩
theorem Vals.zero:∀{us:List Value},Vals [] us->us=[]
 |_,.nil=>rfl
def Vals.dropLast {xs:List V}{us:List Value}(h:Vals xs us):Vals xs.dropLast us.dropLast:=by
 induction h with
 |nil=>exact .nil
 |cons r t ih=>
  cases t with
  |nil=>exact .nil
  |cons q t'=>exact .cons r ih
def uF {α:Type}(l:List α):l.eraseIdx (l.length -1)=l.dropLast:=by
 induction l with
 |nil=>rfl
 |cons a r ih=>
  cases r with
  |nil=>rfl
  |cons b r=>
   have e:(a::b::r).length -1=((b::r).length -1)+1:=by
    have h1:(a::b::r).length=r.length+2:=rfl;have h2:(b::r).length=r.length+1:=rfl;lia
   rw[e,List.eraseIdx_cons_succ,ih]
   all_goals rfl
section
variable {X:Cx} {pins:List (Addr×Obj)} {σ:St} {H:Hp} {s:Shared} {l b:Addr} {xs ys zs:List V}
def Inv.lset {a_ its':List Value}{n:Nat}{f:Array Value->Array Value}{t':Nat}(I:Inv X pins σ H s)(hH:H l=some (.lst xs))
  (e:s.heap.get? l=some {cls:= .type "list",data:= .seq a_.toArray n}) (hf:f a_.toArray=its'.toArray) (hv:Vals ys its') (hz:ys.length<=sizeLine):
  Inv X pins σ (upd H l (.lst ys)) {s with heap:=s.heap.update l (Obj.mapSeq f),toks:=t'}:=by
 have q:=PySem.IsL.update e f
 rw[hf] at q
 refine I.write (x:=l) (e:=l) (by rw[hH];exact trivial) (.inl rfl) (λb' u hb hu=>(Heap.get?_update_other s.heap (Obj.mapSeq f) (Nr hb)).trans hu) ⟨_,q⟩ ?_
 exact⟨hz,its',_,hv,q⟩
def Inv.lnew {a_:List Value}{t':Nat}(I:Inv X pins σ H s)(hv:Vals ys a_)(hz:ys.length<=sizeLine):
  Inv X pins σ (upd H s.heap.objs.size (.lst ys)) {s with heap:=s.heap.push {cls:= .type "list",data:= .seq a_.toArray},toks:=t'}:=
 I.laid (λ_ _ q=>LL _ q) (LC _) ⟨hz,a_,0,hv,Md _ rfl⟩
def Inv.fresh (I:Inv X pins σ H s):H s.heap.objs.size=none:=I.hok.fresh (LC _)
def Inv.lstM (I:Inv X pins σ H s)(hH:H l=some (.lst xs)):xs.length<=sizeLine/\∃(a_:List Value) (n:Nat),Vals xs a_/\xs.length=a_.length/\s.heap.get? l=some {cls:= .type "list",data:= .seq a_.toArray n}:=by
 obtain⟨z,a_,n,r,e⟩:=I.hok l _ hH;exact⟨z,a_,n,r,r.length,e⟩
def Bw {n:Nat}(h:n<=sizeLine):Builtin.List.listTooLong n=false:=by
 unfold Builtin.List.listTooLong;exact Mn (by lia)
end
section
variable {X:Cx}
def vP:V->List V->Hp->VK->Prop:=λx vs H Q=>∃l xs y,x= .ref l/\vs=[y]/\H l=some (.lst xs)/\xs.length<sizeLine/\Q .non (upd H l (.lst (xs++[y])))
def xW:Jw X "list.append" vP:=by
 intro pins s σ H x vs v us Q I rx rv h;obtain⟨l,xs,y,rfl,rfl,hH,hz,q⟩:=h;cases rx;obtain⟨u,rfl,ru⟩:=rv.one;obtain⟨z,a_,n,r,hl,e⟩:=I.lstM hH;refine QD F.slot_list_append ⟨_,e,rfl⟩ F.entry_list_append (F.args_list_append_2 _ _) (PySem.list_append l a_.toArray n u (by rw[Mh];lia)) ⟨e,?_⟩;refine⟨.non,_,I.lset (its':=a_++[u]) hH e (by simp) (r.append (.cons ru .nil)) ?_,rfl,q⟩;rw[LJ,Ml];lia
def vw:V->List V->Hp->VK->Prop:=λx vs H Q=>∃l b xs zs,x= .ref l/\vs=[.ref b]/\H l=some (.lst xs)/\H b=some (.lst zs)/\xs.length+zs.length<=sizeLine/\Q .non (upd H l (.lst (xs++zs)))
def wY:Jw X "list.extend" vw:=by
 intro pins s σ H x vs v us Q I rx rv h;obtain⟨l,b,xs,zs,rfl,rfl,hH,hB,hz,q⟩:=h;cases rx;obtain⟨u,rfl,ru⟩:=rv.one;cases ru;obtain⟨z,a_,n,r,hl,e⟩:=I.lstM hH;obtain⟨z2,O_,n2,r2,Tj,e2⟩:=I.lstM hB;have hsz:a_.toArray.size+O_.toArray.size<=sizeLine:=by rw[Mh,Mh];lia
 have Wm:¬(!a_.toArray.isEmpty&&Builtin.List.listTooLong (a_.toArray.size+O_.toArray.size))=true:=by
  rw[Bw hsz,RS];exact Ms
 refine QD F.slot_list_extend ⟨_,e,rfl⟩ F.entry_list_extend (F.args_list_extend_2 _ _)
  (AutoSeq1.list_extend_list_list_0 l a_.toArray n b O_.toArray n2 Wm (by rw[Mh];lia) (by lia)) ⟨e,e2,?_⟩
 refine⟨.non,_,I.lset (its':=a_++O_) hH e (by simp) (r.append r2) ?_,rfl,q⟩;rw[LJ];lia
def HG:V->List V->Hp->VK->Prop:=λx vs H Q=>∃l xs y,x= .ref l/\vs=[]/\H l=some (.lst xs)/\xs[xs.length -1]?=some y/\Q y (upd H l (.lst xs.dropLast))
def Fe:Jw X "list.pop" HG:=by
 intro pins s σ H x vs v us Q I rx rv h;obtain⟨l,xs,y,rfl,rfl,hH,hy,q⟩:=h;cases rx;have P_:=rv.zero;subst P_;obtain⟨z,a_,n,r,hl,e⟩:=I.lstM hH;obtain⟨u,hu,ru⟩:=r.get hy;have UE:a_.toArray[a_.toArray.size -1]?=some u:=by
  show a_.toArray[a_.length -1]?=some u;rw[←NU,←hl];exact hu
 refine QD F.slot_list_pop ⟨_,e,rfl⟩ F.entry_list_pop (F.args_list_pop_1 _) (MeetsSeq.list_pop_last l a_.toArray n u UE (by rw[Mh];lia)) ⟨e,?_⟩;refine⟨y,_,I.lset (its':=a_.dropLast) hH e ?_ r.dropLast ?_,ru,q⟩
 .show a_.toArray.eraseIdxIfInBounds (a_.toArray.size -1)=a_.dropLast.toArray;rw[Mh,List.eraseIdxIfInBounds_toArray,uF]
 .rw[List.length_dropLast];lia
def IG:R2:=λx y H Q=>∃l b xs zs,x= .ref l/\y= .ref b/\H l=some (.lst xs)/\H b=some (.lst zs)/\xs.length+zs.length<=sizeLine/\∀p,H p=none->Q (.ref p) (upd H p (.lst (xs++zs)))
def op_cat:OpR X (binaryOp .Add) IG:=by
 intro pins s σ H x y v u Q I rx ry h;obtain⟨l,b,xs,zs,rfl,rfl,hH,hB,hz,q⟩:=h;cases rx;cases ry;obtain⟨z,a_,n,r,hl,e⟩:=I.lstM hH;obtain⟨z2,O_,n2,r2,Tj,e2⟩:=I.lstM hB;refine PySem.P.add_list e e2 ?_ (by rw[Mh,Mh];lia);have ea:a_.toArray++O_.toArray=(a_++O_).toArray:=by simp
 rw[ea];exact⟨.ref _,_,I.lnew (t':=s.toks) (r.append r2) (by rw[LJ];lia),rfl,q _ I.fresh⟩
end
section
variable {prog:Program} {w:World} {A:Around} {E:Value->Shared->Prop} {s:Shared}
end
section
variable {X:Cx}
end
section
variable {κ:Type} [DecidableEq κ]
def k9 (kvs:List (κ×V))(k:κ):Option V:=(kvs.find? λkv=>decide (kv.1=k)).map (·.2)
def E1 (kvs:List (κ×V))(k:κ)(v:V):List (κ×V):=
 if(kvs.any λkv=>decide (kv.1=k))=true then kvs.map (λkv=>if kv.1=k then(kv.1,v) else kv) else kvs++[(k,v)]
def C4 {p:κ×V}{r:List (κ×V)}{k:κ}(e:p.1=k):k9 (p::r) k=some p.2:=by simp [k9,OD,e]
def C2 {p:κ×V}{r:List (κ×V)}{k:κ}(e:¬p.1=k):k9 (p::r) k=k9 r k:=by simp [k9,OD,e]
theorem N1 (k:κ):∀kvs:List (κ×V),(kvs.any λkv=>decide (kv.1=k))=(k9 kvs k).isSome
 |[]=>rfl
 |p::r=>by
  rw[Sn];by_cases e:p.1=k
  .simp only[C4 e,Ma e,Bool.true_or,Option.isSome_some]
  .rw[C2 e,Mn e,Bool.false_or];exact N1 k r
theorem rE (k j:κ)(y:V):∀kvs:List (κ×V),k9 (kvs.map λkv=>if kv.1=k then(kv.1,y) else kv) j=(k9 kvs j).map λx=>if j=k then y else x
 |[]=>rfl
 |p::r=>by
  have ih:=rE k j y r;rw[MG];by_cases h:p.1=k
  .rw[if_pos h];by_cases e:p.1=j
   .rw[C4 (p:=(p.1,y)) e,C4 e,Pb,if_pos (e.symm.trans h)]
   .rw[C2 (p:=(p.1,y)) e,C2 e,ih]
  .rw[if_neg h];by_cases e:p.1=j
   .rw[C4 (p:=p) e,C4 e,Pb,if_neg (λz=>h (e.trans z))]
   .rw[C2 (p:=p) e,C2 e,ih]
theorem nG (k j:κ)(y:V):∀kvs:List (κ×V),k9 kvs k=none->k9 (kvs++[(k,y)]) j=if j=k then some y else k9 kvs j
 |[],_=>by
  by_cases e:k=j
  .rw[if_pos e.symm];exact C4 (p:=(k,y)) e
  .rw[if_neg (λz=>e z.symm)];exact C2 (p:=(k,y)) e
 |p::r,hn=>by
  rw[Rf];have hk:¬p.1=k:=λz=>by rw[C4 z] at hn;cases hn
  rw[C2 hk] at hn;have ih:=nG k j y r hn;by_cases e:p.1=j
  .rw[C4 e,C4 e,if_neg (λz=>hk (e.trans z))]
  .rw[C2 e,C2 e,ih]
def J6 (kvs:List (κ×V))(k j:κ)(y:V):k9 (E1 kvs k y) j=if j=k then some y else k9 kvs j:=by
 unfold E1;by_cases a:(kvs.any λkv=>decide (kv.1=k))=true
 .rw[if_pos a,rE];rw[N1] at a;by_cases e:j=k
  .obtain⟨x,hx⟩:=QB.mp a;rw[if_pos e,e,hx,Pb,if_pos rfl]
  .rw[if_neg e];cases k9 kvs j with
   |none=>rfl
   |some x=>rw[Pb,if_neg e]
 .rw[if_neg a];refine nG k j y kvs ?_;rw[N1] at a;cases q:k9 kvs k with
  |none=>rfl
  |some x=>rw[q] at a;exact(a rfl).elim
def O7 (kvs:List (κ×V))(k:κ)(v:V):(E1 kvs k v).length<=kvs.length+1:=by
 unfold E1;split
 .rw[Lz];lia
 .rw[LJ,Mi,Pd];lia
def K1 {kvs:List (κ×V)}{k:κ}(v:V)(h:k9 kvs k=none):E1 kvs k v=kvs++[(k,v)]:=by
 unfold E1;rw[N1,h];exact if_neg (by decide)
def RelO.isSome_eq {o:Option V}{u:Option Value}(r:RelO o u):o.isSome=u.isSome:=by
 cases o with
 |none=>cases u with
  |none=>rfl
  |some _=>exact(show False from r).elim
 |some _=>cases u with
  |none=>exact(show False from r).elim
  |some _=>rfl
def RelO.getD {o:Option V}{u:Option Value}{d:V}{d':Value}(r:RelO o u)(rd:RelV d d'):RelV (o.getD d) (u.getD d'):=by
 cases o with
 |none=>cases u with
  |none=>exact rd
  |some _=>exact(show False from r).elim
 |some _=>cases u with
  |none=>exact(show False from r).elim
  |some _=>exact r
def KV.val {kvs:List (κ×V)}{vs:List (κ×Value)}(r:KV kvs vs)(k:κ):RelO (k9 kvs k) (valueAt vs k):=by
 unfold KV at r;induction r with
 |nil=>exact True.intro
 | @cons p q ps qs h t ih=>
  obtain⟨h1,h2⟩:=h
  by_cases e:p.1=k
  .have e':q.1=k:=h1.symm.trans e
   have b:valueAt (q::qs) k=some q.2:=by simp [valueAt,OD,e']
   rw[C4 e,b];exact h2
  .have e':¬q.1=k:=λz=>e (h1.trans z)
   have b:valueAt (q::qs) k=valueAt qs k:=by simp [valueAt,OD,e']
   rw[C2 e,b];exact ih
def KV.any {kvs:List (κ×V)}{vs:List (κ×Value)}(r:KV kvs vs)(k:κ):(kvs.any λkv=>decide (kv.1=k))=vs.any λkv=>decide (kv.1=k):=by induction r with grind
def KV.repl {kvs:List (κ×V)}{vs:List (κ×Value)}(r:KV kvs vs)(k:κ){y:V}{u:Value}(ry:RelV y u):
  KV (kvs.map λkv=>if kv.1=k then(kv.1,y) else kv) (vs.map λkv=>if kv.1=k then(kv.1,u) else kv):=by
 unfold KV at r⊢
 induction r with
 |nil=>exact .nil
 | @cons p q ps qs h t ih=>
  rw[MG,MG]
  refine .cons ?_ ih
  obtain⟨h1,h2⟩:=h
  by_cases e:p.1=k
  .rw[if_pos e,if_pos (h1.symm.trans e)];exact⟨h1,ry⟩
  .rw[if_neg e,if_neg (λz=>e (h1.trans z))];exact⟨h1,h2⟩
def KV.put {kvs:List (κ×V)}{vs:List (κ×Value)}(r:KV kvs vs)(k:κ){y:V}{u:Value}(ry:RelV y u):KV (E1 kvs k y) (stored vs k u):=by
 unfold E1 stored;rw[r.any k];by_cases e:(vs.any λkv=>decide (kv.1=k))=true
 .rw[if_pos e,if_pos e];exact r.repl k ry
 .rw[if_neg e,if_neg e];exact Paired.snoc r ⟨rfl,ry⟩
def KV.keys {kvs:List (κ×V)}{vs:List (κ×Value)}(r:KV kvs vs):kvs.map (·.1)=vs.map (·.1):=by induction r with grind
def KV.length {kvs:List (κ×V)}{vs:List (κ×Value)}(r:KV kvs vs):kvs.length=vs.length:=Mj r
end
def gP {P:Program}{w:World}{k:i6}{u:Value}(r:RelV (kV k) u):(j7 P w).is k u=true:=by
 cases k with
 |inl i=>obtain⟨t,e⟩:=(show ∃t,u=Value.int i t from r);subst e;exact rG P w i t
 |inr x=>obtain⟨t,e⟩:=(show ∃t,u=Value.str x t from r);subst e;exact rP P w x t
theorem mU {P:Program}{w:World}:∀{ks:List i6} {us:List Value},Vals (ks.map kV) us->ItemsAre (j7 P w) ks us
 |[],_,r=>by rw[Qt] at r;cases r;exact .nil
 |k::ks,_,r=>by
  rw[MG] at r;cases r with
  |cons h t=>exact .cons (gP h) (mU t)
abbrev KT (H:Hp):List (List i6×V)->List (List i6×Addr×Value)->Prop:=Paired λp q=>p.1=q.1/\H q.2.1=some (.tup (p.1.map kV))/\RelV p.2 q.2.2
def KT.val {H:Hp}{kvs:List (List i6×V)}{xs:List (List i6×Addr×Value)}(r:KT H kvs xs)(k:List i6):RelO (k9 kvs k) ((atKey xs k).map (·.2)):=by
 induction r with
 |nil=>exact True.intro
 | @cons p q ps qs h t ih=>
  obtain⟨h1,_,h2⟩:=h
  by_cases e:p.1=k
  .have e':q.1=k:=h1.symm.trans e
   have b:atKey (q::qs) k=some q.2:=by simp [atKey,OD,e']
   rw[C4 e,b];exact h2
  .have e':¬q.1=k:=λz=>e (h1.trans z)
   have b:atKey (q::qs) k=atKey qs k:=by simp [atKey,OD,e']
   rw[C2 e,b];exact ih
def KT.repl {H:Hp}{kvs:List (List i6×V)}{xs:List (List i6×Addr×Value)}(r:KT H kvs xs)(k:List i6){y:V}{u:Value}(ry:RelV y u):
  KT H (kvs.map λkv=>if kv.1=k then(kv.1,y) else kv) (xs.map (putAt k u)):=by
 induction r with
 |nil=>exact .nil
 | @cons p q ps qs h t ih=>
  rw[MG,MG]
  refine .cons ?_ ih
  obtain⟨h1,h2,h3⟩:=h
  unfold putAt
  by_cases e:p.1=k
  .rw[if_pos e,if_pos (h1.symm.trans e)];exact⟨h1,h2,ry⟩
  .rw[if_neg e,if_neg (λz=>e (h1.trans z))];exact⟨h1,h2,h3⟩
def KT.put {H:Hp}{kvs:List (List i6×V)}{xs:List (List i6×Addr×Value)}(r:KT H kvs xs)(k:List i6){b:Addr}{y:V}{u:Value}(hb:H b=some (.tup (k.map kV)))(ry:RelV y u):
  KT H (E1 kvs k y) (storedH xs k b u):=by
 have e:(kvs.any λkv=>decide (kv.1=k))=(atKey xs k).isSome:=by
  rw[N1,(r.val k).isSome_eq,QF]
 unfold E1 storedH
 rw[e]
 by_cases q:(atKey xs k).isSome=true
 .rw[if_pos q,if_pos q];exact r.repl k ry
 .rw[if_neg q,if_neg q];exact Paired.snoc r ⟨rfl,hb,ry⟩
def KT.keeps {H H':Hp}{kvs:List (List i6×V)}{xs:List (List i6×Addr×Value)}(r:KT H kvs xs)(ht:∀b ys,H b=some (.tup ys)->H' b=some (.tup ys)):KT H' kvs xs:=
 Paired.mapP r λ_ _ z=>⟨z.1,ht _ _ z.2.1,z.2.2⟩
section
variable {P:Program} {w:World} {H:Hp} {h:Heap} {a:Addr}
def Ds {u:HO}(ok:HOk P w H h)(e:Rd H a u):ObjOk P w H h a u:=e.ok ok
def Q6 {kvs:List (i6×V)}(ok:HOk P w H h)(e:Rd H a (.dK kvs)):kvs.length<=sizeLine/\(a==sysModules)=false/\∃vs,KV kvs vs/\h.DictOf (j7 P w) a vs:=
 show ObjOk P w H h a (.dK kvs) from Ds ok e
def Ab {kvs:List (i6×V)}(ok:HOk P w H h)(e:H a=some (.dK kvs)):kvs.length<=sizeLine/\(a==sysModules)=false/\∃vs,KV kvs vs/\h.DictOf (j7 P w) a vs:=Q6 ok (.inl e)
def dm {ks:List i6}(ok:HOk P w H h)(e:H a=some (.tup (ks.map kV))):(tupleKind (j7 P w)).is h ks a:=by
 obtain⟨_,a_,r,o,h1,h2,n,h3⟩:=(show ObjOk P w H h a (.tup (ks.map kV)) from ok a _ e)
 exact⟨o,a_.toArray,n,h1,h2,h3,by simpa using mU r⟩
def jc {kvs:List (List i6×V)}(ok:HOk P w H h)(e:Rd H a (.dT kvs)):kvs.length<=sizeLine/\(a==sysModules)=false/\
  ∃xs,KT H kvs xs/\h.DictOfH (tupleKind (j7 P w)) a xs:=by
 obtain⟨z,y,xs,r,o,es,ep,h1,h2,h3,h4,h5⟩:=(show ObjOk P w H h a (.dT kvs) from Ds ok e)
 refine⟨z,y,xs,r,o,es,ep,h1,h2,h3,h4,λx hx=>?_,h5⟩
 have all:∀{l:List (List i6×V)} {m:List (List i6×Addr×Value)},KT H l m->∀x∈m,(tupleKind (j7 P w)).is h x.1 x.2.1:=by
  intro l m q;induction q with
  |nil=>intro x hx;exact nomatch hx
  | @cons p q ps qs hq t ih=>
   intro x hx
   rcases Mr.mp hx with e|hx
   .subst e
    exact dm ok (by rw[←hq.1];exact hq.2.1)
   .exact ih x hx
 exact all r x hx
def DS {kvs:List (List i6×V)}(ok:HOk P w H h)(e:H a=some (.dT kvs)):kvs.length<=sizeLine/\(a==sysModules)=false/\
  ∃xs,KT H kvs xs/\h.DictOfH (tupleKind (j7 P w)) a xs:=jc ok (.inl e)
end
def DGet (H:Hp)(a:Addr)(y:V)(r:Option V):Prop:=
 (∃kvs k,Rd H a (.dK kvs)/\y=kV k/\r=k9 kvs k)\/∃kvs k b,Rd H a (.dT kvs)/\y= .ref b/\H b=some (.tup (k.map kV))/\r=k9 kvs k
def DPut (H:Hp)(a:Addr)(y v:V)(H':Hp):Prop:=
 (∃kvs k,H a=some (.dK kvs)/\y=kV k/\kvs.length<sizeLine/\H'=upd H a (.dK (E1 kvs k v)))\/
 ∃kvs k b,H a=some (.dT kvs)/\y= .ref b/\H b=some (.tup (k.map kV))/\kvs.length<sizeLine/\H'=upd H a (.dT (E1 kvs k v))
def DGet.t {H:Hp}{a b:Addr}{kvs:List (List i6×V)}{k:List i6}(e:H a=some (.dT kvs))(eb:H b=some (.tup (k.map kV))):DGet H a (.ref b) (k9 kvs k):= .inr ⟨kvs,k,b,.inl e,rfl,eb,rfl⟩
def DPut.k {H:Hp}{a:Addr}{kvs:List (i6×V)}{k:i6}{v:V}(e:H a=some (.dK kvs))(hl:kvs.length<sizeLine):DPut H a (kV k) v (upd H a (.dK (E1 kvs k v))):= .inl ⟨kvs,k,e,rfl,hl,rfl⟩
section
variable {X:Cx} {pins:List (Addr×Obj)} {σ:St} {H:Hp} {s:Shared} {a:Addr} {y v:V} {u r:Value} {o:Option V} {A:Around} {E:Value->Shared->Prop}
def Inv.big (I:Inv X pins σ H s):sysModules<s.heap.objs.size:=by
 have h:mainGlobals<s.heap.objs.size:=(I.mod.glob.keeps I.bk).lt;exact Rw (by decide) h
def wM {Q:Value->Shared->Prop}(hu:A.units+1<cLine)(I:Inv X pins σ H s)(g:DGet H a y (some v))(ry:RelV y u)(h:∀w' s',Inv X pins σ H s'->RelV v w'->Q w' s'):
  wpAny (model X.prog X.w) A (getItem (.ref a) u) Q E s:=by
 rcases g with⟨kvs,k,e,ey,l⟩|⟨kvs,k,b,e,ey,eb,l⟩
 .subst ey
  obtain⟨z,hd,vs,rel,dd⟩:=Q6 I.hok e
  obtain⟨w',hw,Tq⟩:=RelO.some_of (v:=v) (o:=valueAt vs k) (by rw[l];exact rel.val k)
  exact wpAny_getItem_of (gP ry) dd.mapOf hw (h w' _ (I.tok _) Tq)
 .subst ey
  cases (show u=Value.ref b from ry)
  obtain⟨z,hd,xs,rel,dd⟩:=jc I.hok e
  obtain⟨w',hw,Tq⟩:=RelO.some_of (v:=v) (o:=(atKey xs k).map (·.2)) (by rw[l];exact rel.val k)
  obtain⟨p,hp,hp2⟩:=MD.mp hw
  refine wpAny_getItem_heap (NF hu) (dm I.hok eb) dd hp ?_
  rw[hp2]
  exact h w' _ (I.tok _) Tq
def JU {Q:Value->Shared->Prop}(hu:A.units+1<cLine)(I:Inv X pins σ H s)(g:DGet H a y o)(ry:RelV y u)(h:∀s',Inv X pins σ H s'->Q (.bool o.isSome) s'):
  wpAny (model X.prog X.w) A (compareOp .In u (.ref a)) Q E s:=by
 rcases g with⟨kvs,k,e,ey,l⟩|⟨kvs,k,b,e,ey,eb,l⟩
 .subst ey
  obtain⟨z,hd,vs,rel,dd⟩:=Q6 I.hok e
  refine wpAny_in_of (gP ry) hd dd.mapOf ?_
  rw[←(rel.val k).isSome_eq,←l]
  exact h _ (I.tok _)
 .subst ey
  cases (show u=Value.ref b from ry)
  obtain⟨z,hd,xs,rel,dd⟩:=jc I.hok e
  refine wpAny_in_heap (NF hu) (dm I.hok eb) hd dd ?_
  have q:=(rel.val k).isSome_eq
  rw[QF] at q
  rw[←q,←l]
  exact h _ (I.tok _)
def BM {Q:Value->Shared->Prop}(hu:A.units+1<cLine)(I:Inv X pins σ H s)(g:DGet H a y o)(ry:RelV y u)(h:∀s',Inv X pins σ H s'->Q (.bool (!o.isSome)) s'):
  wpAny (model X.prog X.w) A (compareOp .NotIn u (.ref a)) Q E s:=by
 rcases g with⟨kvs,k,e,ey,l⟩|⟨kvs,k,b,e,ey,eb,l⟩
 .subst ey
  obtain⟨z,hd,vs,rel,dd⟩:=Q6 I.hok e
  refine wpAny_notIn_of (gP ry) hd dd.mapOf ?_
  rw[←(rel.val k).isSome_eq,←l]
  exact h _ (I.tok _)
 .subst ey
  cases (show u=Value.ref b from ry)
  obtain⟨z,hd,xs,rel,dd⟩:=jc I.hok e
  refine wpAny_notIn_heap (NF hu) (dm I.hok eb) hd dd ?_
  have q:=(rel.val k).isSome_eq
  rw[QF] at q
  rw[←q,←l]
  exact h _ (I.tok _)
def gw {h':Heap}{t':Nat}{ob:HO}(I:Inv X pins σ H s)(mu:IC (H a))(hs:Heap.SameBut a s.heap h')(he:∃q,h'.get? a=some q)(new:ObjOk X.prog X.w (upd H a ob) h' a ob):
  Inv X pins σ (upd H a ob) {s with heap:=h',toks:=t'}:=
 I.write (x:=a) (e:=a) mu (.inl rfl) (λb q hb z=>(hs.2 b hb).trans z) he new
def lH {P:Program}{w:World}{H':Hp}{h':Heap}{kvs:List (i6×V)}{vs:List (i6×Value)}(z:kvs.length<=sizeLine)(hd:(a==sysModules)=false)(rel:KV kvs vs)(dd:h'.DictOf (j7 P w) a vs):
  ObjOk P w H' h' a (.dK kvs):=⟨z,hd,vs,rel,dd⟩
def wQ {H':Hp}{Q:Unit->Shared->Prop}(hu:A.units+1<cLine)(I:Inv X pins σ H s)(g:DPut H a y v H')(ry:RelV y u)(rv:RelV v r)(h:∀s',Inv X pins σ H' s'->Q () s'):
  wpAny (model X.prog X.w) A (setItem (.ref a) u r) Q E s:=by
 rcases g with⟨kvs,k,e,ey,l,eH⟩|⟨kvs,k,b,e,ey,eb,l,eH⟩
 .subst ey eH
  obtain⟨z,hd,vs,rel,dd⟩:=Ab I.hok e
  have hz:vs.length<=sizeLine:=by rw[←rel.length];exact z
  have hl:(E1 kvs k v).length<=sizeLine:=by have:=O7 kvs k v;lia
  refine wpAny_setItem_pairs (hsz:=hz) (gP ry) dd λh' dd' hs=>h _ ?_
  have he:∃q,h'.get? a=some q:=let ⟨q,_,_,hq,_⟩:=dd';⟨q,hq⟩
  exact gw I (by rw[e];exact True.intro) hs he (lH hl hd (rel.put k rv) dd')
 .subst ey eH
  cases (show u=Value.ref b from ry)
  obtain⟨z,hd,xs,rel,dd⟩:=DS I.hok e
  have hz:xs.length<=sizeLine:=by rw[←Mj rel];exact z
  have hl:(E1 kvs k v).length<=sizeLine:=by have:=O7 kvs k v;lia
  refine wpAny_setItem_heap (hsz:=hz) (NF hu) (dm I.hok eb) dd λh' dd' hs=>h _ ?_
  obtain⟨q,es,ep,hq,h2,h3,h4,_,h5⟩:=dd'
  refine gw I (by rw[e];exact True.intro) hs ⟨q,hq⟩ ⟨hl,hd,_,(rel.put k eb rv).keeps λc ys ec=>?_,q,es,ep,hq,h2,h3,h4,h5⟩
  rw[b7 (DU ec e (λz=>nomatch z))]
  exact ec
end
section
variable {X:Cx} {pins:List (Addr×Obj)} {σ:St} {H:Hp} {s:Shared} {a:Addr} {kvs:List (i6×V)} {k:i6} {u:Value} {A:Around} {E:Value->Shared->Prop}
def GV {Q:Value->Shared->Prop}(I:Inv X pins σ H s)(e:Rd H a (.dK kvs))(h:∀t s',Inv X pins σ H s'->Q (.int kvs.length t) s'):wpAny (model X.prog X.w) A (call (.builtin "len") [.ref a]) Q E s:=by
 obtain⟨z,hd,vs,rel,dd⟩:=Q6 I.hok e;refine call_len_dict hd dd (by rw[←rel.length];rw[RU] at z;lia) ?_;rw[←rel.length];exact h _ _ (I.tok _)
end
def rN {X:Cx}{pins:List (Addr×Obj)}{σ:St}{H:Hp}{s:Shared}{a:Addr}{y:V}{o:Option V}(I:Inv X pins σ H s)(g:DGet H a y o):s.TypeIs (.ref a) "dict":=by
 rcases g with⟨kvs,k,e,_,_⟩|⟨kvs,k,b,e,_,_,_⟩
 .obtain⟨_,_,vs,_,dd⟩:=Q6 I.hok e;exact dd.typeIs
 .obtain⟨_,_,xs,_,dd⟩:=jc I.hok e;exact dd.typeIs
section
variable {X:Cx} {o i e value:Expr} {pos pos' n_:Pos} {td ty tv:TE}
end
def Aq {P:Program}{w:World}{H:Hp}(h:Heap)(hb:sysModules<h.objs.size):ObjOk P w H (h.push {cls:= .type "dict",data:= .dict #[]}) h.objs.size (.dK []):=
 ⟨Nd _,Oj.mpr (Nr (Mf hb)),[],.nil,Rx h⟩
def ze {P:Program}{w:World}{H:Hp}(h:Heap)(hb:sysModules<h.objs.size):ObjOk P w H (h.push {cls:= .type "dict",data:= .dict #[]}) h.objs.size (.dT []):=
 ⟨Nd _,Oj.mpr (Nr (Mf hb)),[],.nil,_, #[],0,Md _ rfl,⟨rfl,rfl,rfl⟩,rfl,rfl,Ov⟩
def zN:TE:=λ_ H Q=>∀p,H p=none->Q (.ref p) (upd H p (.dK []))
def zJ:TE:=λ_ H Q=>∀p,H p=none->Q (.ref p) (upd H p (.dT []))
section
variable {X:Cx} {pos:Pos}
def Ai:PE X (.Dict [] [] pos) zN:=λpins s σ H Q I h=>
 wpAny_Dict_empty ⟨.ref s.heap.objs.size,_,I.laid (a:=s.heap.objs.size) (o:= .dK []) (t':=s.toks) (λ_ _ q=>LL _ q) (LC _) (Aq s.heap I.big),rfl,h _ (I.hok.fresh (LC _))⟩
def An:PE X (.Dict [] [] pos) zJ:=λpins s σ H Q I h=>
 wpAny_Dict_empty ⟨.ref s.heap.objs.size,_,I.laid (a:=s.heap.objs.size) (o:= .dT []) (t':=s.toks) (λ_ _ q=>LL _ q) (LC _) (ze s.heap I.big),rfl,h _ (I.hok.fresh (LC _))⟩
end
def yy:List (TE×TE)->St->Hp->(List (V×V)->Hp->Prop)->Prop
 |[],_,H,Q=>Q [] H
 |(tk,tv)::r,σ,H,Q=>tk σ H λx H1=>tv σ H1 λy H2=>yy r σ H2 λps H3=>Q ((x,y)::ps) H3
abbrev VV:List (V×V)->List (Value×Value)->Prop:=Paired λp q=>RelV p.1 q.1/\RelV p.2 q.2
def KO (X:Cx)(pos:Pos)(keys:List (Option Expr))(values:List Expr)(Yx:List (TE×TE)):Prop:=
 ∀(pins:List (Addr×Obj)) (s:Shared) (σ:St) (H:Hp) (Q:List (V×V)->Hp->Prop),Inv X pins σ H s->yy Yx σ H Q->
  wpAny (model X.prog X.w) X.A (evalPairs (pairTrees keys values X.env pos)) (λvs s'=>∃ps H',Inv X pins σ H' s'/\VV ps vs/\Q ps H') X.xe s
structure M1 (X:Cx) (o:Expr) (m:Str) (apos:Pos) (e:Expr) (b_:Pos):Prop where
 base:attributeBase o m X.env (eval o X.env)=eval o X.env
 few:((backTo b_ (starEach [e] X.env)).all (λx=>!x.1)&&(backToKw b_ (keywordEach [] X.env)).all (λx=>x.1.isSome)
  &&decide (([e]:List Expr).length+([]:List Keyword).length+(if([]:List Keyword).isEmpty then 0 else 1)<30))=true
 line:(apos.endLine==b_.line)=true
 trees:backTo b_ (starEach [e] X.env)=[(false,eval e X.env)]
structure M2 (X:Cx) (o:Expr) (m:Str) (apos:Pos) (e f:Expr) (b_:Pos):Prop where
 base:attributeBase o m X.env (eval o X.env)=eval o X.env
 few:((backTo b_ (starEach [e,f] X.env)).all (λx=>!x.1)&&(backToKw b_ (keywordEach [] X.env)).all (λx=>x.1.isSome)
  &&decide (([e,f]:List Expr).length+([]:List Keyword).length+(if([]:List Keyword).isEmpty then 0 else 1)<30))=true
 line:(apos.endLine==b_.line)=true
 trees:backTo b_ (starEach [e,f] X.env)=[(false,eval e X.env),(false,eval f X.env)]
def HS (H:Hp)(a:Addr):Prop:=(∃kvs,Rd H a (.dK kvs))\/∃kvs,Rd H a (.dT kvs)
def yC {X:Cx}{pins:List (Addr×Obj)}{σ:St}{H:Hp}{s:Shared}{a:Addr}(I:Inv X pins σ H s)(d:HS H a):
  s.TypeIs (.ref a) "dict"/\(∀b,Value.ref a= .ref b->∃ob,s.heap.get? b=some ob/\ob.dict=none)/\(a==sysModules)=false:=by
 rcases d with⟨kvs,e⟩|⟨kvs,e⟩
 .obtain⟨_,hd,vs,_,dd⟩:=Q6 I.hok e
  refine⟨dd.typeIs,λb q=>?_,hd⟩
  cases q
  obtain⟨ob,_,_,h1,h2,_⟩:=dd
  exact⟨ob,h1,h2.2.1⟩
 .obtain⟨_,hd,xs,_,dd⟩:=jc I.hok e
  refine⟨dd.typeIs,λb q=>?_,hd⟩
  cases q
  obtain⟨ob,_,_,h1,h2,_⟩:=dd
  exact⟨ob,h1,h2.2.1⟩
section
variable {X:Cx} {pins:List (Addr×Obj)} {σ:St} {H:Hp} {s:Shared} {a:Addr} {y d:V} {u r:Value} {o:Option V} {A:Around} {E:Value->Shared->Prop}
def Fj {Q:Value->Shared->Prop}(hu:A.units+1<cLine)(I:Inv X pins σ H s)(g:DGet H a y o)(ry:RelV y u)(h:∀w' s',Inv X pins σ H s'->RelV (o.getD .non) w'->Q w' s'):
  wpAny (model X.prog X.w) A (call (.builtin "dict.get") [.ref a,u]) Q E s:=by
 rcases g with⟨kvs,k,e,ey,l⟩|⟨kvs,k,b,e,ey,eb,l⟩
 .subst ey
  obtain⟨z,hd,vs,rel,dd⟩:=Q6 I.hok e
  refine Nl NC dd.typeIs Ox (QR _ _) (meets_dict_get (j7 X.prog X.w) a (gP ry) hd) ⟨_,dd.mapOf,h _ _ (I.tok _) ?_⟩
  rw[l]
  exact(rel.val k).getD rfl
 .subst ey
  cases (show u=Value.ref b from ry)
  obtain⟨z,hd,xs,rel,dd⟩:=jc I.hok e
  refine Nl NC dd.typeIs Ox (QR _ _) (meetsH_dict_get (tupleKind (j7 X.prog X.w)) a b hd) ⟨NF hu,k,xs,dm I.hok eb,dd,h _ _ (I.tok _) ?_⟩
  rw[l]
  exact(rel.val k).getD rfl
def FV {Q:Value->Shared->Prop}(hu:A.units+1<cLine)(I:Inv X pins σ H s)(g:DGet H a y o)(ry:RelV y u)(rd:RelV d r)(h:∀w' s',Inv X pins σ H s'->RelV (o.getD d) w'->Q w' s'):
  wpAny (model X.prog X.w) A (call (.builtin "dict.get") [.ref a,u,r]) Q E s:=by
 rcases g with⟨kvs,k,e,ey,l⟩|⟨kvs,k,b,e,ey,eb,l⟩
 .subst ey
  obtain⟨z,hd,vs,rel,dd⟩:=Q6 I.hok e
  refine Nl NC dd.typeIs Ox (QU _ _ _) (meets_dict_get_default (j7 X.prog X.w) a (gP ry) hd r) ⟨_,dd.mapOf,h _ _ (I.tok _) ?_⟩
  rw[l]
  exact(rel.val k).getD rd
 .subst ey
  cases (show u=Value.ref b from ry)
  obtain⟨z,hd,xs,rel,dd⟩:=jc I.hok e
  refine Nl NC dd.typeIs Ox (QU _ _ _) (meetsH_dict_get_default (tupleKind (j7 X.prog X.w)) a b hd r) ⟨NF hu,k,xs,dm I.hok eb,dd,h _ _ (I.tok _) ?_⟩
  rw[l]
  exact(rel.val k).getD rd
end
def sS (td ty:TE):TE:=λσ H Q=>td σ H λx H1=>∃a,x= .ref a/\HS H1 a/\ty σ H1 λy H2=>∃o,DGet H2 a y o/\Q (o.getD .non) H2
def tL (td ty tx:TE):TE:=λσ H Q=>td σ H λx H1=>∃a,x= .ref a/\HS H1 a/\ty σ H1 λy H2=>tx σ H2 λz H3=>∃o,DGet H3 a y o/\Q (o.getD z) H3
section
variable {X:Cx} {o e f:Expr} {apos b_:Pos} {td ty tx:TE}
def zq (hu:X.A.units+1<cLine)(ho:PE X o td)(he:PE X e ty)(m:M1 X o "get" apos e b_):PE X (.Call (.Attribute o "get" apos) [e] [] b_) (sS td ty):=by
 intro pins s σ H Q I h;refine wpAny_Call_method m.base m.few m.line MK NC Ry (J0 (ho pins s σ H _ I h) λu s1 ⟨x,H1,I1,rx,a,ex,d,q1⟩=>?_);subst ex;obtain rfl:u=Value.ref a:=rx;obtain⟨t1,t2,_⟩:=yC I1 d;refine⟨t1,t2,?_⟩;rw[m.trees];refine Nx rfl (OL (Oy (J0 (he pins s1 σ H1 _ I1 q1) λiv s2 ⟨y,H2,I2,ry,ov,g,q2⟩=>Pq ?_)));exact Fj hu I2 g ry λw' s3 I3 Tq=>⟨_,H2,I3,Tq,q2⟩
def yK (hu:X.A.units+1<cLine)(ho:PE X o td)(he:PE X e ty)(hf:PE X f tx)(m:M2 X o "get" apos e f b_):PE X (.Call (.Attribute o "get" apos) [e,f] [] b_) (tL td ty tx):=by
 intro pins s σ H Q I h;refine wpAny_Call_method m.base m.few m.line MK NC Ry (J0 (ho pins s σ H _ I h) λu s1 ⟨x,H1,I1,rx,a,ex,d,q1⟩=>?_);subst ex;obtain rfl:u=Value.ref a:=rx;obtain⟨t1,t2,_⟩:=yC I1 d;refine⟨t1,t2,?_⟩;rw[m.trees];refine Nx rfl (OL (Oy (J0 (he pins s1 σ H1 _ I1 q1) λiv s2 ⟨y,H2,I2,ry,q2⟩=>
  Oy (J0 (hf pins s2 σ H2 _ I2 q2) λfv s3 ⟨z,H3,I3,rz,ov,g,q3⟩=>Pq ?_))))
 exact FV hu I3 g ry rz λw' s4 I4 Tq=>⟨_,H3,I4,Tq,q3⟩
end
section
variable {X:Cx} {pins:List (Addr×Obj)} {σ:St} {H:Hp} {s:Shared} {a:Addr} {kvs:List (i6×V)} {A:Around} {E:Value->Shared->Prop}
def Bi {Q:Value->Shared->Prop}(I:Inv X pins σ H s)(e:Rd H a (.dK kvs))(h:∀p s',H p=none->Inv X pins σ (upd H p (.dK kvs)) s'->Q (.ref p) s'):wpAny (model X.prog X.w) A (call (.type "dict") [.ref a]) Q E s:=by
 obtain⟨z,hd,vs,rel,dd⟩:=Q6 I.hok e;refine kt_call_dict hd dd (by rw[←rel.length];exact z) λh' dd' hs=>?_;refine h _ _ (I.hok.fresh (LC _)) (I.laid (a:=s.heap.objs.size) (o:= .dK kvs) (t':=s.toks) (λb q hq=>?_) (LC _) (lH z (Oj.mpr (Nr (Mf I.big))) rel dd'));exact(hs.2 b (Mf (LU hq))).trans (LL _ hq)
end
section
variable {X:Cx} {pins:List (Addr×Obj)} {σ:St} {H:Hp} {s:Shared} {a:Addr} {y:V} {u:Value} {A:Around} {E:Value->Shared->Prop}
end
end L2
namespace Att
open PySem PySem.W PySem.Calls PyProof.Rows
def jq {P:Params}{h:Heap}:∀(ns:List Int) (vs:List Value),WellAll P h vs (ns.map WData.int)->IntsAre vs ns:=by
 intro ns;induction ns with
 |nil=>
  intro vs w
  rw[Qt] at w
  cases w
  exact .nil
 |cons n ns ih=>
  intro vs w
  rw[MG] at w
  cases w with
  |cons a b=>
   cases a
   exact .cons _ _ (ih _ b)
def xN {l:OpenLaw}{n:Nat}(hn:l.most=some n){P:Params}{h:Heap}{args:List WData}{vals:List Value}
  (Ui:l.row.toRowW.claim.pre args=true) (I_:WellAll P h vals args):
  ∃a vs ns,vals=[Value.ref a]/\args=[WData.list (ns.map WData.int)]/\h.get? a=some {cls:= .type "list",data:= .seq vs.toArray}/\IntsAre vs ns/\ns.length<=n:=by
 have hsh:WShape.hasAll [] args [.list .int]=true:=(pre_splitW Ui).1
 have hc:l.pre.holds [] {args:=args}=true:=(pre_splitW Ui).2
 obtain⟨d,r,rfl,h1,h2⟩:=hasAllW_cons hsh
 obtain rfl:=hasAllW_nil h2
 obtain⟨xs,rfl,h3⟩:=hasW_list h1
 obtain⟨ns,rfl⟩:=items_int h3
 have hlen:ns.length<=n:=by
  unfold OpenLaw.pre at hc;have h4:(WTm.not (.lt (.lit (.int (n:Int))) (.len (.arg 0)))).holds [] {args:=[.list (ns.map .int)]}=true:=by
   have h4:=(holds_andW hc).1;rw[hn] at h4;exact h4
  have h5:=condW_of h4 (w_not (w_lt w_lit (w_len_list (w_arg rfl))));rw[Lz] at h5;refine Nat.le_of_not_lt λq=>?_;have q':(n:Int)<((ns.length:Nat):Int):=by lia
  first
   |(rw[Ma q'] at h5;exact absurd h5 (by decide))
   |(simp at h5;lia)
 cases I_ with
 |cons w1 w2=>
  cases w2
  cases w1 with
  |list ho o_=>exact⟨_,_,ns,rfl,rfl,ho,jq ns _ o_,hlen⟩
def xn (l:OpenLaw)(args:List WData):l.row.toRowW.claim.post args (.bool true) args=true:=
 postW_of (r:=l.row.toRowW) (X:=(true==true))
  (show WShape.has [] (.bool true) .bool=true by first|rfl|decide|simp [WShape.has,WShape.arms,WShape.armsAll])
  (show(WTm.eq .res (.lit (.bool true))).value [] {args:=args,res:=some (.bool true),after:=args}=some (.bool (true==true)) from w_eq_bool (w_res rfl) w_lit) rfl
def attach_call {l:OpenLaw}{n:Nat}{q:Program}{loose:List Str}{XP:(Str->Option Value)->Heap->Prop}{YP:World->Heap->Prop}{d:DefRec}
  (hn:l.most=some n) (Wn:d.params.defaults=[])
  (call:∀(w:World) (s₀ s₁:Shared) (mg mb:Str->Option Value) (fa:Addr) (o:Obj) (pm cd doc:Value) (a:Addr) (vs:List Value) (ns:List Int),
   Ground q loose [] XP w s₀ mg mb s₁.heap->YP w s₁.heap->
   s₁.heap.get? fa=some o->o.data= .func (docDef d.name d.params d.body d.scope pm cd doc)->s₁.heap.CodeRec cd d.name->mg d.name=some (.ref fa)->
   s₁.heap.get? a=some {cls:= .type "list",data:= .seq vs.toArray}->IntsAre vs ns->ns.length<=n->s₁.gens= #[]->
   codeAny (model l.prog w) callerA (.call (.ref fa) ⟨[.ref a],[]⟩) (λr s'=>r= .ok (.ret (.bool true))/\OldK s₁.heap s'.heap/\s'.os=s₁.os/\AllBare s'.gens) s₁):
  WalkO q loose XP YP l.row.toRowW d [] (λf vs=>PySem.call f vs):=by
 intro w s₀ s₁ mg mb G Y fa o pm cd doc dV kV ho hd G' hD hmg hg args vals as Ui hlay hrd I_ hlo
 obtain rfl:dV= .none:=Dflts.none hD Wn
 obtain rfl:kV= .none:=Dflts.noKw hD
 obtain⟨a,vs,ns,rfl,rfl,Va,hints,hlen⟩:=xN hn Ui I_
 refine enter_call (PC (call w s₀ s₁ mg mb fa o pm cd doc a vs ns G Y ho (fd_plain hd) G' hmg Va hints hlen hg) λr s' hq=>?_)
 obtain⟨rfl,h2,h3,h4⟩:=hq
 exact⟨.inl ⟨.bool true,.bool true,[],rfl,λ_=>rfl,.bool true,xn l _,λ_=>⟨List.Pairwise.nil,λ_ hm=>(nomatch hm)⟩⟩,h2,h3,h4⟩
section
variable {prog:Program} {w:World} {A:Around} {E:Value->Shared->Prop} {s:Shared} {K:Frag}
end
end Att
namespace L2
open PySem PySem.Spec PyProof.Rows
theorem nv:∀{vs:List Value} {ns:List Int},IntsAre vs ns->Vals (ns.map V.int) vs
 |_,_,.nil=> .nil
 |_,_,.cons n t h=> .cons ⟨t,rfl⟩ (nv h)
def Em (H:Hp):Prop:=∀b,H b=none\/∃o xs,H b=some (.frz o (.lst xs))
def zE {P:Program}{w:World}{K:Za}{mg mb:Str->Option Value}{CX:qo}{k:Nat}{fa a:Addr}{fd:FuncData}{x:Str}{sp:Sp}{s₁:Shared}{vs:List Value}{ns:List Int}
  (KX:K.In s₁.heap) (hns:s₁.heap.Ns mainGlobals mg) (hb:s₁.heap.Ns builtinsNs mb) (hbb:∀x:Str,x≠"__name__"->mb x=bootBuiltins x) (Yy:s₁.heap.NoLimit) (hg:s₁.gens= #[])
  (ha:s₁.heap.get? a=some {cls:= .type "list",data:= .seq vs.toArray}) (hi:IntsAre vs ns) (hl:ns.length<=sizeLine) (hr:Room k callerA)
  (F:∀base:Heap,K.In base->base.Ns mainGlobals mg->x8 P w K mg base CX k fa fd [x] sp) (Wo:∀(s:Shared) (u:Value),BindsTo s fd ⟨[u],[]⟩ [(x,u)])
  (Tg:∀H:Hp,Em H->SqL K H a (ns.map V.int)->sp [.ref a] H (λv _=>v= .bl true) λ_ _ _=>False)
  (Yz:∀H e s',CX [] H s₁ (λ_ _ _=>False) e s'->False):
  codeAny (model P w) callerA (.call (.ref fa) ⟨[.ref a],[]⟩) (λr s'=>r= .ok (.ret (.bool true))/\OldK s₁.heap s'.heap/\s'.os=s₁.os/\AllBare s'.gens) s₁:=by
 have rv:=nv hi
 have YA:=hi.length
 have core:∀H:Hp,Em H->SqL K H a (ns.map V.int)->HOk P w H s₁.heap->(∀b,H b≠none->b=a)->(H a≠none->K.lookup a=none)->
   codeAny (model P w) callerA (.call (.ref fa) ⟨[.ref a],[]⟩) (λr s'=>r= .ok (.ret (.bool true))/\OldK s₁.heap s'.heap/\s'.os=s₁.os/\AllBare s'.gens) s₁:=by
  intro H hO hS hok hA hK
  have base_of:∀{b:Addr} {o:Obj},s₁.heap.get? b=some o->H b=none->(pZ s₁.heap H).get? b=some o:=λe n=>yp e n
  have Wh:∀{b:Addr} {o:Obj} {es:Array DictEntry} {ep:Nat},s₁.heap.get? b=some o->o.data= .dict es ep->H b=none:=fun{b o es ep} e d=>by
   cases q:H b with
   |none=>rfl
   |some u=>
    have e':b=a:=hA b (by rw[q];simp)
    subst e'
    rw[ha] at e;cases e
    have d':Data.seq vs.toArray _=Data.dict es ep:=d
    cases d'
  have XB:∀{b:Addr} {m:Str->Option Value},s₁.heap.Ns b m->(pZ s₁.heap H).Ns b m:=fun{b m} ⟨o,es,ep,e,d,r⟩=>⟨o,es,ep,base_of e (Wh e d),d,r⟩
  have hKb:K.In (pZ s₁.heap H):=λb o e=>base_of (KX b o e) (by
   cases q:H b with
   |none=>rfl
   |some u=>
    have e':b=a:=hA b (by rw[q];simp)
    subst e'
    rw[hK (by rw[q];simp)] at e;cases e)
  have hM:Mod K mg (pZ s₁.heap H):=⟨hKb,XB hns,⟨mb,XB hb,hbb⟩,let ⟨mc,h1,h2⟩:=Yy;⟨mc,XB h1,h2⟩⟩
  have e0:Dk P w K mg (pZ s₁.heap H) callerA [] s₁ H:=⟨rfl,hM,λb o e=>Dq e,Nat.le_of_eq (xY _ _),trivial,λb hb=>absurd (show b∈([]:List Addr) from hb) (by simp),hok,.of_eq hg⟩
  refine PC ((F _ hKb (XB hns)).run callerA [] s₁ H ⟨[.ref a],[]⟩ [.ref a] [.ref a] _ _ hr e0 (Wo s₁ (.ref a)) (.cons rfl .nil) (Tg H hO hS)) λr s' h=>?_
  cases r with
  |error e=>exact(Yz H e s' h).elim
  |ok fl=>
   cases fl with
   |next=>exact False.elim h
   |brk=>exact False.elim h
   |cont=>exact False.elim h
   |ret u=>
    obtain⟨v,H',os,bare,un,YB,r',q⟩:=h
    have q':v= .bl true:=q
    subst q'
    obtain rfl:u=Value.bool true:=r'
    refine⟨rfl,OldK.of_keep λb o e=>?_,os,bare⟩
    cases q:H b with
    |none=>exact un.keep b o e q (by intro z;exact absurd (show b∈([]:List Addr) from z) (by simp)) (by simp)
    |some u=>
     rcases hO b with z|⟨ob,xs,z⟩
     .rw[q] at z;cases z
     .have z2:=un.frzs b ob _ z
      obtain⟨e1,_⟩:=hok b _ z
      obtain⟨e2,_⟩:=YB b _ z2
      rw[e] at e1;cases e1
      exact e2
 cases hk:K.lookup a with
 |some o=>
  have e:=KX a o hk
  rw[ha] at e
  cases e
  refine core (λ_=>none) (λ_=> .inl rfl) (.inr ⟨_,vs.toArray,_,hk,rfl,rfl,rfl,by rw[Mh,YA];exact hl,by simpa using rv⟩) (λb u z=>by have z':(none:Option HO)=some u:=z;cases z') (λb z=>absurd rfl z) λz=>absurd rfl z
 |none=>
  refine core (λb=>if b=a then some (.frz {cls:= .type "list",data:= .seq vs.toArray} (.lst (ns.map V.int))) else none) (λb=>?_) (.inl (.inr ⟨{cls:= .type "list",data:= .seq vs.toArray},if_pos rfl⟩)) (λb u z=>?_) (λb z=>?_) λ_=>hk
  .by_cases hb:b=a
   .exact .inr ⟨_,_,if_pos hb⟩
   .exact .inl (if_neg hb)
  .by_cases hb:b=a
   .have z':=(if_pos hb).symm.trans z
    cases z'
    subst hb
    exact⟨ha,by rw[Lz];exact hl,vs,_,rv,ha⟩
   .have z':=(if_neg hb).symm.trans z
    cases z'
  .by_cases hb:b=a
   .exact hb
   .exact absurd (if_neg hb) z
def walk_of {l:PySem.W.OpenLaw}{n k:Nat}{q:Program}{loose:List Str}{XP:(Str->Option Value)->Heap->Prop}{YP:World->Heap->Prop}{d:DefRec}{K:Params->Za}{CX:World->qo}{sp:World->Sp}{x:Str}
  (hn:l.most=some n) (hn2:n<=sizeLine) (Wn:d.params.defaults=[]) (hr:Room k callerA)
  (hY:∀(w:World) (h:Heap),YP w h->(K w.params).In h)
  (F:∀(w:World) (mg:Str->Option Value) (fa:Addr) (h:Heap),(K w.params).In h->h.Ns mainGlobals mg->mg d.name=some (.ref fa)->
   ∃fd:FuncData,(∀(s:Shared) (u:Value),BindsTo s fd ⟨[u],[]⟩ [(x,u)])/\
    ∀base:Heap,(K w.params).In base->base.Ns mainGlobals mg->x8 l.prog w (K w.params) mg base (CX w) k fa fd [x] (sp w))
  (Tg:∀(w:World) (H:Hp) (a:Addr) (ns:List Int),ns.length<=n->Em H->SqL (K w.params) H a (ns.map V.int)->sp w [.ref a] H (λv _=>v= .bl true) λ_ _ _=>False)
  (Yz:∀(w:World) (H:Hp) (s:Shared) (e:Value) (s':Shared),CX w [] H s (λ_ _ _=>False) e s'->False):
  PySem.W.WalkO q loose XP YP l.row.toRowW d [] (λf vs=>PySem.call f vs):=by
 refine Att.attach_call hn Wn λw s₀ s₁ mg mb fa o pm cd doc a vs ns G Y ho hd G' hmg Va hints hlen hg=>?_
 have KX:=hY w _ Y
 obtain⟨fd,hb,hF⟩:=F w mg fa _ KX G.T.g hmg
 exact zE KX G.T.g G.T.b G.T.builtins G.T.nolimit hg Va hints (Mb hlen hn2) hr hF hb (λH hO hS=>Tg w H a ns hlen hO hS) λH e s'=>Yz w H s₁ e s'
def O9 (s:Stmt):Arguments:=match s with
 | .FunctionDef _ a _ _ _ _ _ _ _ _=>a
 |_=>{posonlyargs:=[],args:=[],vararg:=none,kwonlyargs:=[],kw_defaults:=[],kwarg:=none,defaults:=[]}
def J1 (s:Stmt):List Stmt:=match s with
 | .FunctionDef _ _ b _ _ _ _ _ _ _=>b
 |_=>[]
def b9 (s:Stmt):Scope:=match s with
 | .FunctionDef _ _ _ _ _ _ sc _ _ _=>sc
 |_=>{kind:= .function,names:=[],isGenerator:=false,isCoroutine:=false}
abbrev A9:qo:=λ_ _ _ _ _ _=>False
abbrev E0:XK:=λ_ _ _=>False
def i7 {X:Cx}:cF A9 X E0:=λ_ _ _ _ _ _ _ h=>h.elim
structure Fun (K:Za) (x qual:Str) (st:Stmt) (f:Addr) (fd:FuncData):Prop where
 ex:∃(oc:Value) (od:Option Addr) (kV doc pm:Value) (an:Option Addr) (c_ ct:Value) (L_:Array (Option Value)),
  fd=PySem.W.fnOf x qual (O9 st) (J1 st) (b9 st) .none kV doc pm an c_ ct/\K.lookup f=some ⟨oc,od,.func fd,L_⟩/\PySem.W.codeIn K c_ qual=true
 kp:PySem.W.keepIn K (.ref f)=true
section
variable {P:Program} {w:World} {K:Za} {mg:Str->Option Value} {base:Heap}
def Fun.ok {x qual:Str}{st:Stmt}{f:Addr}{fd:FuncData}{N ps:List Str}{k:Nat}{sp:Sp}(F:Fun K x qual st f fd)(S:i4 N ps (b9 st))(len:∀vs H Q E,sp vs H Q E->vs.length=ps.length)
  (B_:∀(c_:Value) (A:Around) (outer:List Env) (s:Shared) (H:Hp) (vs:List V) (Q:VK) (E:XK),Room k (A.deeper (envOfC qual (b9 st) s.heap.objs.size f c_))->sp vs H Q E->
   ∃t,PSs (jr A9 P w K mg base N qual (b9 st) f c_ A outer s H E).nox (J1 st) t/\t {nx:=λ_ H'=>Q .non H',rt:=Q} (eM N vs) H):x8 P w K mg base A9 (k+1) f fd ps sp:=by
 obtain⟨oc,od,kV,doc,pm,an,c_,ct,L_,rfl,lk,G'⟩:=F.ex
 refine yD lk G' S len λA outer s H vs Q E hr Tg=>?_
 obtain⟨t,h,q⟩:=B_ c_ A outer s H vs Q E hr Tg
 exact⟨t,h.nox,q⟩
def Fun.binds {x qual:Str}{st:Stmt}{f:Addr}{fd:FuncData}{ps:List Str}(F:Fun K x qual st f fd)
  (h:∀(kV doc pm:Value) (an:Option Addr) (c_ ct:Value) (us:List Value),us.length=ps.length->bindArgs (PySem.W.fnOf x qual (O9 st) (J1 st) (b9 st) .none kV doc pm an c_ ct) ⟨us,[]⟩=pure (ps.zip us)):Binds K fd ps []:=by
 obtain⟨oc,od,kV,doc,pm,an,c_,ct,L_,rfl,lk,G'⟩:=F.ex
 exact .all (h kV doc pm an c_ ct)
def El {x qual:Str}{st:Stmt}{f:Addr}{oc:Value}{od an:Option Addr}{L_:Array (Option Value)}{kV doc pm c_ ct:Value}(l:K.lookup f=some ⟨oc,od,.func (PySem.W.fnOf x qual (O9 st) (J1 st) (b9 st) .none kV doc pm an c_ ct),L_⟩)
  (c:PySem.W.codeIn K c_ qual=true) (k:PySem.W.keepIn K (.ref f)=true):Fun K x qual st f (PySem.W.fnOf x qual (O9 st) (J1 st) (b9 st) .none kV doc pm an c_ ct):=⟨⟨oc,od,kV,doc,pm,an,c_,ct,L_,rfl,l,c⟩,k⟩
end
def mS {n:Nat}(h:n<=1000):n<sizeLine:=Oz h (by decide)
section
variable {X:Cx}
end
def JK {A B:Prop}(h:B):if false=true then A else B:=by
 rw[if_neg Ms];exact h
def JO {A B:Prop}(h:A):if true=true then A else B:=by
 rw[if_pos rfl];exact h
def Same (H H':Hp):Prop:=∀b o,H b=some o->H' b=some o
def Same.refl (H:Hp):Same H H:=λ_ _ h=>h
def Same.trans {H H1 H2:Hp}(a:Same H H1)(b:Same H1 H2):Same H H2:=λc o h=>b c o (a c o h)
def Same.free {H H':Hp}(e:Same H H'){l:Addr}(h:H' l=Option.none):H l=Option.none:=by
 cases q:H l with
 |none=>rfl
 |some o=>
  rw[e l o q] at h
  cases h
def Same.seq {K:Za}{H H':Hp}{a:Addr}{xs:List V}(e:Same H H')(h:SqL K H a xs):SqL K H' a xs:=by
 rcases h with(h|⟨o,h⟩)|h
 .exact .inl (.inl (e _ _ h))
 .exact .inl (.inr ⟨o,e _ _ h⟩)
 .exact .inr h
section
variable {κ:Type} [DecidableEq κ]
def zv {kvs:List (κ×V)}{k:κ}(h:k9 kvs k=none):¬k∈kvs.map (·.1):=by
 intro m;obtain⟨p,hp,e⟩:=LB.mp m;have q:(kvs.any λkv=>decide (kv.1=k))=true:=Nf.mpr ⟨p,hp,Ma e⟩;rw[N1,h] at q;exact absurd q (by simp)
def vq {kvs:List (κ×V)}{k:κ}{v:V}(h:k9 kvs k=some v):k∈kvs.map (·.1):=by
 have q:(kvs.any λkv=>decide (kv.1=k))=true:=by
  rw[N1,h];all_goals rfl
 obtain⟨p,hp,e⟩:=Nf.mp q;exact LB.mpr ⟨p,hp,ME e⟩
theorem gm:∀{l:List κ} {k:κ},l.Nodup->¬k∈l->(l++[k]).Nodup
 |[],k,_,_=>by simp
 |a::r,k,h,hk=>by
  obtain⟨h1,h2⟩:=MN.mp h;show(a::(r++[k])).Nodup;refine MN.mpr ⟨λm=>?_,gm h2 λm=>hk (Mr.mpr (Or.inr m))⟩;rcases LO.mp m with q|q
  .exact h1 q
  .exact hk (Mr.mpr (Or.inl (Me.mp q).symm))
def BV {kvs:List (κ×V)}{k:κ}(v:V)(hn:(kvs.map (·.1)).Nodup)(h:k9 kvs k=none):((E1 kvs k v).map (·.1)).Nodup:=by
 rw[K1 v h,LK];exact gm hn (zv h)
end
end L2
set_option maxHeartbeats 4000000
namespace L2
open PySem PySem.Spec PyProof.Rows
def jj (scope:Scope)(env:Env):List (Str×Addr):=(scope.names.filter λx=>x.2== .free).reverse.map λx=>(x.1,(env.cells.lookup x.1).getD 0)
theorem cy {env:Env}:∀(l:List (Str×NameKind)) (cs:List (Str×Addr)),(∀x∈l,x.2= .free->∃c,env.cells.lookup x.1=some c)->
  (forIn l cs fun(x:Str×NameKind) (r:List (Str×Addr))=>if(x.2==NameKind.free)=true then(do let a←cellOf env x.1;pure (ForInStep.yield ((x.1,a)::r))) else(pure (ForInStep.yield r):Sem (ForInStep (List (Str×Addr)))))=
   pure (((l.filter λx=>x.2== .free).reverse.map λx=>(x.1,(env.cells.lookup x.1).getD 0))++cs)
 |[],cs,_=>rfl
 |(n,k)::l,cs,h=>by
  rw[Pe];by_cases hk:k= .free
  .subst hk;obtain⟨c,hc⟩:=h (n,.free) LS rfl;simp only[Rg,SH];have SG:env.cells.lookup n=some c:=hc;have e0:cellOf env n=pure c:=by unfold cellOf;rw[SG]
   simp only[e0,pure_bind];rw[cy l _ λx hx=>h x (LY _ hx)];rw[Oq,if_pos (by rfl),List.reverse_cons,LK,Mv];simp only[MG,Qt,SG,OQ,Rf,Qf]
  .have hb:(k==NameKind.free)=false:=by simpa using hk
   simp only[hb,NV,Px,pure_bind];rw[cy l cs λx hx=>h x (LY _ hx)];rw[Oq,if_neg (by simp [hb])]
def kr {scope:Scope}{env:Env}(h:∀x∈scope.names,x.2= .free->∃c,env.cells.lookup x.1=some c):closureFor scope env=pure (jj scope env):=by
 have e:=cy (env:=env) scope.names [] h;rw[MM] at e;unfold closureFor jj;simp only[];refine Eq.trans ?_ (Na (λm=>m>>=λr=>(pure r:Sem (List (Str×Addr)))) e);rfl
theorem V2 {env:Env}{x:Str}:∀(l:List (Str×NameKind)),(∀y∈l,∃c,env.cells.lookup y.1=some c)->(x∈l.map (·.1)->(l.map λy=>(y.1,(env.cells.lookup y.1).getD 0)).lookup x=env.cells.lookup x)/\(x∉l.map (·.1)->(l.map λy=>(y.1,(env.cells.lookup y.1).getD 0)).lookup x=none)
 |[],_=>⟨λh=>by simp at h,λ_=>rfl⟩
 |(n,k)::l,h=>by
  have ih:=V2 (x:=x) l λy hy=>h y (LY _ hy);obtain⟨c,hc⟩:=h (n,k) LS;have SG:env.cells.lookup n=some c:=hc;by_cases e:x=n
  .subst e;refine⟨λ_=>?_,λz=>absurd (by simp) z⟩;simp [Ni,SG]
  .have eb:(x==n)=false:=by simpa using e
   refine⟨λhm=>?_,λhm=>?_⟩
   .simp only[MG,Ni,eb];exact ih.1 (by simpa [e] using hm)
   .simp only[MG,Ni,eb];exact ih.2 (λz=>hm (by simp [z]))
def Y0 {scope:Scope}{env:Env}(h:∀x∈scope.names,x.2= .free->∃c,env.cells.lookup x.1=some c){x:Str}{c:Addr}(e:(jj scope env).lookup x=some c):env.cells.lookup x=some c:=by
 have hl:∀y∈(scope.names.filter λx=>x.2== .free).reverse,∃c,env.cells.lookup y.1=some c:=λy hy=>by
  obtain⟨h1,h2⟩:=LW.mp (Rh.mp hy);exact h y h1 (by simpa using h2)
 have a:=V2 (x:=x) _ hl;by_cases hm:x∈(scope.names.filter λx=>x.2== .free).reverse.map (·.1)
 .rw[←a.1 hm];exact e
 .have z:=a.2 hm;unfold jj at e;rw[z] at e;cases e
def rV {scope:Scope}{env:Env}(h:∀x∈scope.names,x.2= .free->∃c,env.cells.lookup x.1=some c){x:Str}(hx:(x,NameKind.free)∈scope.names):(jj scope env).lookup x=env.cells.lookup x:=by
 have hl:∀y∈(scope.names.filter λx=>x.2== .free).reverse,∃c,env.cells.lookup y.1=some c:=λy hy=>by
  obtain⟨h1,h2⟩:=LW.mp (Rh.mp hy);exact h y h1 (by simpa using h2)
 exact(V2 (x:=x) _ hl).1 (LB.mpr ⟨(x,.free),Rh.mpr (LW.mpr ⟨hx,rfl⟩),rfl⟩)
def oA {scope:Scope}{env:Env}(hc:∀y∈scope.names,y.2≠ .cell){x:Str}(h:(relabel scope env).names.lookup x=some .cell\/(relabel scope env).names.lookup x=some .free):(x,NameKind.free)∈scope.names:=by
 have key:∀(l:List (Str×NameKind)),(∀y∈l,y.2≠ .cell)->∀k,(k=NameKind.cell\/k=NameKind.free)->(l.map fun(n,k)=>if(k==NameKind.free&&env.scope.kind== .function&&env.kindOf n==some .cell) then(n,NameKind.cell) else(n,k)).lookup x=some k->(x,NameKind.free)∈l:=by
  intro l;induction l with
  |nil=>intro _ k _ e;simp at e
  |cons y r ih=>
   obtain⟨n,k0⟩:=y
   intro hl k hk e
   have ih':=ih (λy hy=>hl y (LY _ hy)) k hk
   rw[MG] at e
   have hk0:k0≠ .cell:=hl (n,k0) LS
   dsimp only at e
   by_cases hcnd:(k0==NameKind.free&&env.scope.kind== .function&&env.kindOf n==some .cell)=true
   .rw[if_pos hcnd] at e
    cases hx:x==n with
    |true=>
     have:x=n:=by simpa using hx
     subst this
     have:k0= .free:=by
      simp only[Mp,Vv] at hcnd;exact hcnd.1.1
     subst this
     exact LS
    |false=>
     simp only[Ni,hx] at e
     exact LY _ (ih' e)
   .rw[if_neg hcnd] at e
    cases hx:x==n with
    |true=>
     have:x=n:=by simpa using hx
     subst this
     simp only[Ni,hx] at e
     have e':k0=k:=Mc e
     subst e'
     rcases hk with z|z
     .exact absurd z hk0
     .subst z;exact LS
    |false=>
     simp only[Ni,hx] at e
     exact LY _ (ih' e)
 rcases h with h|h
 .exact key _ hc _ (.inl rfl) h
 .exact key _ hc _ (.inr rfl) h
def dU (X:Cx)(own:List Str)(js:List Nat)(scope:Scope)(C:Addr)(s:Shared)(H:Hp)(fp:List Addr):Cx:=
 {X with N:=own++js.map (λj=>X.N.getD j Str.empty),s₀:=s,H₀:=H,env:=compEnvC scope (jj scope X.env) C X.env,outer:=X.stack,stack:=X.stack,ex:=fp,fn:=λ_=>false,pn:=[],xe:=λ_ _=>False}
def BA (own:List Str)(js:List Nat)(σ:St):St:=own.map (λ_=>none)++js.map (λj=>(σ[j]?).join)
def GJ (X:Cx)(own:List Str)(js:List Nat)(scope:Scope):Bool:=
 (scope.kind== .function)&&(scope.names.all λx=>x.2 != .cell)&&(scope.names.all λx=>x.2 != .local||scope.names.lookup x.1==some .local)&&
 (scope.names.all λx=>x.2 != .free||(X.env.kindOf x.1==some .cell||X.env.kindOf x.1==some .free))&&
 (js.all λj=>decide (j<X.N.length)&&scope.names.any (λy=>y.1==X.N.getD j Str.empty&&y.2== .free))&&
 (scope.names.all λx=>x.2 != .free||scope.names.lookup x.1 !=some .local)
def vh {own:List Str}{js:List Nat}{σ:St}{X:Cx}{scope:Scope}{C:Addr}{s:Shared}{H:Hp}{fp:List Addr}:(BA own js σ).length=(dU X own js scope C s H fp).N.length:=by grind [BA,dU]
section
variable {X:Cx} {pins:List (Addr×Obj)} {σ:St} {H:Hp} {s:Shared} {own:List Str} {js:List Nat} {scope:Scope} {fp:List Addr} {C D:Addr} {h1:Heap}
structure ScB (X:Cx) (own:List Str) (js:List Nat) (scope:Scope):Prop where
 kind:scope.kind= .function
 nocell:∀y∈scope.names,y.2≠ .cell
 names:∀x∈scope.names,x.2= .local->scope.names.lookup x.1=some .local
 free:∀x∈scope.names,x.2= .free->X.env.kindOf x.1=some .cell\/X.env.kindOf x.1=some .free
 js:∀j∈js,j<X.N.length/\(X.N.getD j Str.empty,NameKind.free)∈scope.names
 one:∀x,(x,NameKind.free)∈scope.names->scope.names.lookup x≠some .local
def Ba (h:GJ X own js scope=true):ScB X own js scope:=by
 unfold GJ at h;simp only[Mp,Mq,Rz,bne_iff_ne,Vv,Mg,Nf] at h;obtain⟨⟨⟨⟨⟨h1,h2⟩,h3⟩,h4⟩,h5⟩,h6⟩:=h;refine⟨h1,h2,λx hx e=>?_,λx hx e=>?_,λj hj=>?_,λx hx=>?_⟩
 .rcases h3 x hx with z|z
  .exact absurd e z
  .exact z
 .rcases h4 x hx with z|z
  .exact absurd e z
  .exact z
 .obtain⟨a,y,hy,e1,e2⟩:=h5 j hj;refine⟨a,?_⟩;obtain⟨n,k⟩:=y;simp only at e1 e2;rw[←e1,←e2];exact hy
 .rcases h6 _ hx with z|z
  .exact absurd rfl z
  .exact z
def ScB.cells (S:ScB X own js scope)(I:Inv X pins σ H s):∀x∈scope.names,x.2= .free->∃c,X.env.cells.lookup x.1=some c:=λx hx e=>I.ok.has x.1 (S.free x hx e)
def Inv.block (S:ScB X own js scope)(I:Inv X pins σ H s)(hf:∀b∈fp,gc X pins H b)(Rt:∀b∈fp,∃o,s.heap.get? b=some o)(hC:s.heap.objs.size<=C){m:Str->Option Value}{t':Nat}(hn:h1.Ns C m)(k:∀b u,s.heap.get? b=some u->h1.get? b=some u):
  Inv (dU X own js scope C s H fp) (X.pn++pins) (BA own js σ) H {s with heap:=h1,toks:=t'}:=by
 have M':=S.cells I
 have below:∀b o,s.heap.get? b=some o->b≠C:=λb o e=>Mf (LZ (LU e) hC)
 have stk:∀b,b≠X.env.locals->b∉X.fs->b∉aZ X.stack:=λb h1 h2 z=>by
  rcases Mr.mp (I.stkSub b z) with e|e
  .exact h1 e
  .exact h2 e
 have noex:∀b o,X.base.get? b=some o->b∉fp:=λb o e z=>by
  rcases(hf b z).2.2.2.1 with q|q
  .exact I.ok.noex b o e q
  .exact absurd (LZ (LU e) (Mb I.ok.bsz q)) (Nb _)
 refine⟨⟨I.ok.mod,S.kind,I.ok.glob,I.ok.blt,hC,λx y c e1 e2=>?_,λx hx=>?_,λx c z _=>(Ms z).elim,I.ok.hd,I.ok.frames,.inl rfl,λb hb=>⟨?_,λx c e=>?_⟩,I.bs,Mb I.ok.bsz I.sz,noex,λb hb=>?_,I.stack,I.stkFree⟩,
  rfl,I.bare,Un.kept k,⟨m,hn,λi x v e1 e2 e3=>?_⟩,λx c e=>?_,?_,λx c e=>?_,λp hp=>?_,I.hok.kept k,vh⟩
 .exact I.ok.inj x y c (Y0 M' e1) (Y0 M' e2)
 .have hm:=oA S.nocell (x:=x) (env:=X.env) hx
  obtain⟨c,e⟩:=M' (x,.free) hm rfl
  exact⟨c,(rV M' hm).trans e⟩
 .obtain⟨o,e⟩:=Rt b hb;exact below b o e
 .exact(hf b hb).2.2.2.2.1 x c (Y0 M' e)
 .exact stk b (hf b hb).2.1 (hf b hb).2.2.1
 .have Vb:(own++js.map (λj=>X.N.getD j Str.empty))[i]?=some x:=e1
  unfold BA at e2
  by_cases hi:i<own.length
  .rw[MF (by simpa using hi),LF] at e2
   rw[LA hi] at e2
   simp at e2
  .rw[MH (by simpa using hi),LF] at e2
   rw[MH (by simpa using hi),LF] at Vb
   have el:(own.map λ_=>(none:Option V)).length=own.length:=by simp
   rw[el] at e2
   cases hj:js[i -own.length]? with
   |none=>rw[hj] at Vb;simp at Vb
   |some j=>
    rw[hj] at Vb e2
    simp only[Pb,Option.some.injEq] at Vb e2
    have YC:j∈js:=LV hj
    obtain⟨j',SI⟩:=S.js j YC
    have hNj:X.N[j]?=some x:=by
     rw[←Vb,MA,LA j'];simp
    have hσ:σ[j]?=some (some v):=by
     cases q:σ[j]? with
     |none=>rw[q] at e2;simp at e2
     |some w=>rw[q] at e2;simp at e2;rw[e2]
    rw[Vb] at SI
    obtain⟨m0,hn0,Wq⟩:=I.loc
    have hkx:X.env.kindOf x=some .cell\/X.env.kindOf x=some .free:=S.free (x,.free) SI rfl
    obtain⟨u,r,l⟩:=Wq j x v hNj hσ (by rcases hkx with z|z;exact .inr (.inl z);exact .inr (.inr z))
    refine⟨u,r,?_⟩
    rcases l with⟨z,_⟩|⟨_,c,hc,RY⟩
    .rcases hkx with q|q
     .rw[q] at z;cases z
     .rw[q] at z;cases z
    .have SG:(jj scope X.env).lookup x=some c:=(rV M' SI).trans hc
     obtain⟨oc,UZ,U'⟩:=RY
     refine .inr ⟨?_,c,SG,⟨oc,k _ _ UZ,U'⟩⟩
     rcases e3 with z|z|z
     .exfalso
      have hmm:(relabel scope X.env).names.lookup x=some .local:=z
      exact absurd hmm (by
       intro hh;have key:∀l:List (Str×NameKind),(∀y∈l,y.2= .local->scope.names.lookup y.1=some .local)->(l.map fun(n,k)=>if(k==NameKind.free&&X.env.scope.kind== .function&&X.env.kindOf n==some .cell) then(n,NameKind.cell) else(n,k)).lookup x=some .local->scope.names.lookup x=some .local:=by
        intro l;induction l with
        |nil=>intro _ e;simp at e
        |cons y r ih=>
         obtain⟨n,k0⟩:=y
         intro hl e
         rw[MG] at e
         dsimp only at e
         by_cases hcnd:(k0==NameKind.free&&X.env.scope.kind== .function&&X.env.kindOf n==some .cell)=true
         .rw[if_pos hcnd] at e
          cases hx:x==n with
          |true=>simp only[Ni,hx] at e;cases e
          |false=>simp only[Ni,hx] at e;exact ih (λy hy=>hl y (LY _ hy)) e
         .rw[if_neg hcnd] at e
          cases hx:x==n with
          |true=>
           simp only[Ni,hx] at e
           have e':k0= .local:=Mc e
           have:x=n:=by simpa using hx
           subst this
           exact hl (x,k0) LS e'
          |false=>simp only[Ni,hx] at e;exact ih (λy hy=>hl y (LY _ hy)) e
       have a:=key scope.names S.names hh;exact S.one x SI a)
     .exact .inl z
     .exact .inr z
 .obtain⟨v,o,ho,hd⟩:=I.cell x c (Y0 M' e)
  exact⟨v,o,k _ _ ho,hd⟩
 .exact I.hok.fresh hC
 .exact I.freeC x c (Y0 M' e)
 .obtain⟨e,n,ne,nf,d⟩:=I.pin p hp
  exact⟨k _ _ e,n,below _ _ e,stk _ ne nf,d⟩
end
def HOk.track {P:Program}{w:World}{H:Hp}{h h':Heap}{a C:Addr}{o:HO}(x:HOk P w H h)(hC:H C=none)(k:∀b,b≠C->h'.get? b=h.get? b)(hn:H a=none)(new:ObjOk P w (upd H a o) h' a o):HOk P w (upd H a o) h':=λb u e=>by
 by_cases hb:b=a
 .subst hb;rw[d8] at e;cases e;exact new
 .rw[b7 hb] at e;refine(x b u e).stay (λc v hc q=>?_) (λc q=>by rw[b7 (d9 q hn)];exact q) λc xs q=>by rw[b7 (d9 q hn)];exact q
  have hcC:c≠C:=by
   rcases hc with z|z
   .subst z;exact d9 e hC
   .exact d9 z hC
  rw[k c hcC];exact q
abbrev As (ifs:List Expr)(env:Env):Sem Bool:=forIn ifs true λc r=>if r=true then do let ok←isTrue c env (eval c env);pure (ForInStep.yield ok) else pure (ForInStep.yield r)
def tI (X:Cx)(ifs:List Expr)(t:TT):Prop:=
 ∀(pins:List (Addr×Obj)) (s:Shared) (σ:St) (H:Hp) (Q:Bool->Hp->Prop),Inv X pins σ H s->t σ H Q->wpAny (model X.prog X.w) X.A (As ifs X.env) (TP X pins σ Q) X.xe s
def Ke {X:Cx}:tI X [] (λ_ H Q=>Q true H):=λpins s σ H Q I h=>wpAny_tests_nil ⟨H,I,h⟩
def Ky {X:Cx}{c:Expr}{t:TT}(h:PT X c t):tI X [c] t:=λpins s σ H Q I hq=>wpAny_tests_one (h pins s σ H Q I hq)
section
variable {X:Cx} {pins:List (Addr×Obj)} {σ:St} {H:Hp} {s:Shared} {own:List Str} {js:List Nat} {scope:Scope}
variable {tg iter elt:Expr} {ifs:List Expr} {pos:Pos} {g:TG} {ti:TT} {te:TE}
structure BlockEnd (X:Cx) (pins:List (Addr×Obj)) (own:List Str) (js:List Nat) (scope:Scope) (σ:St) (H:Hp) (s:Shared) (fp:List Addr) (C D:Addr) (out:List V) (H':Hp) (s':Shared):Prop where
 inv:Inv (dU X own js scope C s H fp) (X.pn++pins) (BA own js σ) H' s'
 free:H' D=none
 obj:∃(a_:List Value) (n:Nat),Vals out a_/\s'.heap.get? D=some {cls:= .type "list",data:= .seq a_.toArray n}
def BlockEnd.out {fp:List Addr}{C D:Addr}{out:List V}{H':Hp}{s':Shared}{h':Heap}(e:BlockEnd X pins own js scope σ H s fp C D out H' s')(I:Inv X pins σ H s)(hf:∀b∈fp,gc X pins H b)(hD:s.heap.objs.size<=D)(hC:s.heap.objs.size<=C)(SJ:D≠C)
  (hl:out.length<=sizeLine) (sb:Heap.SameBut C s'.heap h'):Inv X pins σ (upd H' D (.lst out)) {s' with heap:=h'}:=by
 obtain⟨a_,n,rv,ob⟩:=e.obj
 have J:=e.inv
 have U:Un (aZ X.stack) fp H H' s.heap s'.heap:=J.base
 have same:∀b,b≠C->h'.get? b=s'.heap.get? b:=λb hb=>sb.2 b hb
 have old:∀b o,s.heap.get? b=some o->b≠C/\b≠D:=λb o q=>⟨Mf (LZ (LU q) hC),Mf (LZ (LU q) hD)⟩
 have YD:H' C=none:=J.free
 refine I.call' (s':={s' with heap:=h'}) (ch:=fp) J.os ?_ ?_ J.bare λb hb=>?_
 .refine⟨λb o q n hb hx=>?_,λb o q n hb hx=>?_,λb o q n hx=>?_,λb o q hx=>?_,λb xs q=>?_,λb o u q=>?_,λb ps q=>?_⟩
  .show h'.get? b=_
   rw[same b (old b o q).1];exact U.keep b o q n hb hx
  .show ∃sl,h'.get? b=_
   rw[same b (old b o q).1];exact U.slot b o q n hb hx
  .rw[b7 (old b o q).2];exact U.free b o q n hx
  .show ∃o',h'.get? b=_
   rw[same b (old b o q).1];exact U.there b o q hx
  .rw[b7 (d9 (U.tups b xs q) e.free)];exact U.tups b xs q
  .rw[b7 (d9 (U.frzs b o u q) e.free)];exact U.frzs b o u q
  .obtain⟨mo,z⟩:=U.tbls b ps q
   exact⟨mo,by rw[b7 (d9 z e.free)];exact z⟩
 .refine HOk.track J.hok YD same e.free ?_
  exact⟨hl,a_,n,rv,by rw[same D SJ];exact ob⟩
 .exact⟨(hf b hb).2.2.2.1,(hf b hb).2.1,(hf b hb).2.2.2.2.1,(hf b hb).2.2.2.2.2⟩
def mR (S:ScB X own js scope)(hc:X.calm=true){fp:List Addr}{it C D:Addr}{tn:Nat->Heap->Prop}{J:It}(T:fQ X.prog X.w X.K tg J fp it tn)(I:Inv X pins σ H s)(hf:∀b∈fp,gc X pins H b)
  (hD:s.heap.objs.size<=D) (hC:s.heap.objs.size<=C) (SJ:D≠C) (Rt:∀b∈fp,∃o,s.heap.get? b=some o)
  (hg:PG (dU X own js scope C s H fp) tg g) (hi:tI (dU X own js scope C s H fp) ifs ti) (he:PE (dU X own js scope C s H fp) elt te)
  (W:Nat->Nat->List V->Hp->Prop) {K:List V->Hp->Prop}
  (turn:∀i m out H,W i m out H->(J.stop i H/\(H D=none->out.length<=sizeLine/\K out H))\/
   (J.go i H/\∀x H',J.yld i H x H'->g x (BA own js σ) H' λσ2 H2=>σ2.drop own.length=js.map (λj=>(σ[j]?).join)/\ti σ2 H2 λb H3=>
    if b=true then te σ2 H3 λv H4=>out.length<=sizeLine/\∃m',m'<m/\W (i+1) m' (out++[v]) H4 else ∃m',m'<m/\W (i+1) m' out H3))
  {R:Result->Shared->Prop} (hR:∀out H' s',BlockEnd X pins own js scope σ H s fp C D out H' s'->out.length<=sizeLine->K out H'->R (.ok .next) s')
  {m0:Nat} {H1:Hp} {s1:Shared} (w0:W 0 m0 [] H1) (B:BlockEnd X pins own js scope σ H s fp C D [] H1 s1) (st:tn 0 s1.heap) (fr:∀b∈fp,H1 b=none):
  codeAny (model X.prog X.w) X.A (.compLoop (.ListComp elt [⟨tg,iter,ifs,0⟩] scope pos) 0 (.ref it) (.ref D) (compEnvC scope (jj scope X.env) C X.env)) R s1:=by
 have Tr:∀{H':Hp},(∀b∈fp,H' b=none)->∀b∈fp,gc (dU X own js scope C s H fp) (X.pn++pins) H' b:=λhn b hb=>by
  obtain⟨o,ho⟩:=Rt b hb;refine⟨hn b hb,Mf (LZ (LU ho) hC),?_,.inl hb,λx c e=>(hf b hb).2.2.2.2.1 x c (Y0 (S.cells I) e),λp hp=>(hf b hb).2.2.2.2.2 p hp⟩;intro z;rcases Mr.mp (I.stkSub b z) with e|e
  .exact(hf b hb).2.1 e
  .exact(hf b hb).2.2.1 e
 have Dfp:D∉fp:=λz=>by
  obtain⟨o,ho⟩:=Rt D z;exact absurd (LZ (LU ho) hD) (Nb _)
 have Wr:∀x c,(dU X own js scope C s H fp).env.cells.lookup x=some c->c≠D:=λx c e z=>by
  obtain⟨v,o,ho,_⟩:=I.cell x c (Y0 (S.cells I) e);rw[z] at ho;exact absurd (LZ (LU ho) hD) (Nb _)
 have YE:∀p∈X.pn++pins,p.1≠D:=λp hp z=>by
  have ho:=(I.pin p hp).1;rw[z] at ho;exact absurd (LZ (LU ho) hD) (Nb _)
 have Dfs:D∉(dU X own js scope C s H fp).fs:=λz=>by
  obtain⟨_,o,ho,_⟩:=I.stack.mem z;exact absurd (LZ (LU ho) hD) (Nb _)
 refine codeAny_loop rfl (λn s'=>∃i out H',BlockEnd X pins own js scope σ H s fp C D out H' s'/\tn i s'.heap/\(∀b∈fp,H' b=none)/\W i n out H') (λn s3 hI=>?_) m0 ⟨0,[],H1,B,st,fr,w0⟩
 obtain⟨i,out,H3,B3,Ws,Wt,w3⟩:=hI
 obtain⟨a_,nD,rv,obD⟩:=B3.obj
 have Wu:∀{σ':St} {H':Hp} {s':Shared},Inv (dU X own js scope C s H fp) (X.pn++pins) σ' H' s'->H' D=none->s'.heap.get? D=some {cls:= .type "list",data:= .seq a_.toArray nD}->
   Inv (dU X own js scope C s H fp) (X.pn++pins++[(D,{cls:= .type "list",data:= .seq a_.toArray nD})]) σ' H' s':=fun{σ' H' s'} I' n' e'=>I'.pins_of λp hp=>by
  rcases LO.mp hp with z|z
  .exact I'.pin p (by show p∈([]:List (Addr×Obj))++_;exact LP _ z)
  .have z':p=(D,{cls:= .type "list",data:= .seq a_.toArray nD}):=by simpa using z
   subst z'
   exact⟨e',n',SJ,Dfs,λv q=>by cases q⟩
 have Ts:∀{H':Hp},(∀b∈fp,H' b=none)->∀b∈fp,gc (dU X own js scope C s H fp) (X.pn++pins++[(D,{cls:= .type "list",data:= .seq a_.toArray nD})]) H' b:=λhn b hb=>by
  obtain⟨a1,a2,a3,a4,a5,a6⟩:=Tr hn b hb;refine⟨a1,a2,a3,a4,a5,λp hp=>?_⟩;have w_:p∈X.pn++pins++[(D,{cls:= .type "list",data:= .seq a_.toArray nD})]:=hp;rcases LO.mp w_ with z|z
  .exact a6 p (by show p∈([]:List (Addr×Obj))++_;exact z)
  .have z':p=(D,{cls:= .type "list",data:= .seq a_.toArray nD}):=by simpa using z
   subst z';rintro rfl;exact Dfp hb
 have YF:∀{α:Type} {t:Sem α} {Q Q':α->Shared->Prop} {E:Value->Shared->Prop} {s:Shared},wpAny (model X.prog X.w) X.A t Q (λ_ _=>False) s->(∀a s,Q a s->Q' a s)->wpAny (model X.prog X.w) X.A t Q' E s:=
  λh hQ=>Qd h hQ λ_ _ x=>x.elim
 have YG:∀{pl:List (Addr×Obj)} {σ':St} {H':Hp} {s':Shared},Inv (dU X own js scope C s H fp) (X.pn++pins++[(D,{cls:= .type "list",data:= .seq a_.toArray nD})]++pl) σ' H' s'->Inv (dU X own js scope C s H fp) (X.pn++pins) σ' H' s'/\H' D=none/\s'.heap.get? D=some {cls:= .type "list",data:= .seq a_.toArray nD}:=fun{pl σ' H' s'} I'=>by
  have q:=I'.pin (D,{cls:= .type "list",data:= .seq a_.toArray nD}) (LP _ (LH _ (LP _ (by simp))));exact⟨I'.unpinned.unpinned,q.2.1,q.1⟩
 show wpAny _ X.A ((compTurn (.ListComp elt [⟨tg,iter,ifs,0⟩] scope pos) 0 (.ref it) (.ref D) (compEnvC scope (jj scope X.env) C X.env)).onRaise (λx=>do noteFrame x (compEnvC scope (jj scope X.env) C X.env);theTreesLotGoes x)) _ _ s3
 refine wpAny_noted ?_
 rw[compTurn_list]
 refine LG (Sl (LG ?_))
 rcases turn i n out H3 w3 with⟨stop,fin⟩|⟨go,step⟩
 .refine J0 (T.done (dU X own js scope C s H fp) rfl rfl rfl hc i _ s3 _ H3 _ (Wu B3.inv B3.free obD) (Ts Wt) Ws stop) λr s4 ⟨hr,I4⟩=>?_
  subst hr
  obtain⟨J4,n4,o4⟩:=YG (pl:=[]) (by rw[MM];exact I4)
  obtain⟨hl,k⟩:=fin B3.free
  exact LR (hR out H3 s4 ⟨J4,n4,a_,nD,rv,o4⟩ hl k)
 .refine J0 (T.item (dU X own js scope C s H fp) rfl rfl rfl hc i _ s3 _ H3 _ (Wu B3.inv B3.free obD) (Ts Wt) Ws go) λr s4 ⟨u,hr,h4⟩=>?_
  subst hr
  refine LG (J0 h4 λ_ s5 ⟨x,H5,I5,r5,y5,st5,fr5⟩=>?_)
  have YH:=I5.pinned (Ts fr5) (T.obj _ _ st5)
  refine LG (YF (hg _ s5 _ H5 x u _ YH r5 (step x H5 y5)) λ_ s6 ⟨σ6,H6,I6,q6⟩=>?_)
  obtain⟨ed,q6⟩:=q6
  refine LG (YF (hi _ s6 σ6 H6 _ I6 q6) λok s7 ⟨H7,I7,q7⟩=>?_)
  have stay:∀{H':Hp} {s':Shared},Inv (dU X own js scope C s H fp) (X.pn++pins++[(D,{cls:= .type "list",data:= .seq a_.toArray nD})]++lN fp s5.heap) σ6 H' s'->tn (i+1) s'.heap/\∀b∈fp,H' b=none:=fun{H' s'} I'=>by
   refine⟨T.keep _ _ _ st5 λb hb o e=>(I'.pin (b,o) (LP _ (LP _ (bK hb e)))).1,λb hb=>?_⟩;obtain⟨o,e,d⟩:=T.obj _ _ st5 b hb;exact(I'.pin (b,o) (LP _ (LP _ (bK hb e)))).2.1
  have wk:∀{H':Hp} {s':Shared},Inv (dU X own js scope C s H fp) (X.pn++pins) σ6 H' s'->Inv (dU X own js scope C s H fp) (X.pn++pins) (BA own js σ) H' s':=fun{H' s'} I'=>by
   refine I'.weak (by rw[I'.len];exact vh) λk v e=>?_;unfold BA at e;by_cases hk:k<own.length
   .rw[MF (by simpa using hk),LF,LA hk] at e;simp at e
   .rw[MH (by simpa using hk)] at e;have el:(own.map λ_=>(none:Option V)).length=own.length:=by simp
    rw[el,←ed,Qu] at e;have ek:own.length+(k -own.length)=k:=by lia
    rw[ek] at e;exact e
  cases ok with
  |false=>
   rw[if_neg Ms] at q7
   obtain⟨m',hm,w7⟩:=q7
   obtain⟨J7,n7,o7⟩:=YG I7
   exact LR ⟨rfl,m',hm,i+1,out,H7,⟨wk J7,n7,a_,nD,rv,o7⟩,(stay I7).1,(stay I7).2,w7⟩
  |true=>
   rw[if_pos rfl] at q7
   refine LG (LG (YF (he _ s7 σ6 H7 _ I7 q7) λy s8 ⟨v,H8,I8,r8,hl8,m',hm,w8⟩=>?_))
   obtain⟨J8,n8,o8⟩:=YG I8
   have isl:s8.heap.IsList D a_.toArray:=⟨_,o8,rfl,nD,rfl⟩
   refine LG (wpAny_list_append_plain (hsz:=by have:=rv.length;simp;lia) ⟨nD,o8⟩ λh' w_ hs'=>?_)
   obtain⟨nn,ob'⟩:=w_
   have Vc:h'.get? D=some {cls:= .type "list",data:= .seq (a_++[y]).toArray nn}:=by
    rw[ob',List.push_toArray]
   have keep:∀b o,b≠D->s8.heap.get? b=some o->h'.get? b=some o:=λb o hb e=>(hs'.2 b hb).trans e
   have J9:Inv (dU X own js scope C s H fp) (X.pn++pins) σ6 H8 {s8 with heap:=h'}:=J8.turned (t':=s8.toks) keep n8 SJ (.inr hD) Wr (λp hp=>YE p (by
    have w_:p∈([]:List (Addr×Obj))++(X.pn++pins):=hp;rw[Qf] at w_;exact w_))
   refine LR (LR ⟨rfl,m',hm,i+1,out++[v],H8,⟨wk J9,n8,a_++[y],nn,rv.append (.cons r8 .nil),Vc⟩,?_,(stay I8).2,w8⟩)
   exact T.keep _ _ _ (stay I8).1 λb hb o e=>keep b o (by rintro rfl;exact Dfp hb) e
end
def KL (n:Nat)(PV:Nat->V->Prop):It:=⟨λi _=>i<n,λi H x H'=>H'=H/\PV i x,λi _=>n<=i⟩
def vB {M:Model}{A:Around}{E:Value->Shared->Prop}{s:Shared}{tg:Expr}{it:Addr}{u:Value}{Q:Unit->Shared->Prop}(hu:∀a,u≠ .ref a)(hQ:Q () s):wpAny M A (letOwnedTupleGo tg (.ref it) u) Q E s:=by
 unfold letOwnedTupleGo;cases tg<;>first
  |exact LR hQ
  |(cases u<;>first
    |exact LR hQ
    |exact absurd rfl (hu _))
def lF {P:Program}{w:World}{K:Za}{tg:Expr}{it:Addr}{n:Nat}{Pv:Nat->Value->Prop}{PV:Nat->V->Prop}{St:Nat->Heap->Prop}
  (W:∀A:Around,A.handled=none->Walks P w A it [it] [it] n Pv St) (hv:∀i u,Pv i u->(∀a,u≠ .ref a)/\∃x,RelV x u/\PV i x)
  (ho:∀i h,St i h->∃o,h.get? it=some o/\∀v,o.data≠ .cell v)
  (hk:∀i h h',St i h->(∀o,h.get? it=some o->h'.get? it=some o)->St i h')
  (Wv:∀(A:Around) (i:Nat) (s:Shared) (Q:Value->Shared->Prop) (E:Value->Shared->Prop),St i s.heap->Q (.ref it) s->wpAny (model P w) A (pyIter (.ref it)) Q E s):
  fQ P w K tg (KL n PV) [it] it (λi h=>St i h/\i<=n) where
 mem:=by simp
 obj:=λi h st b hb=>by
  have e:b=it:=by simpa using hb
  subst e;exact ho i h st.1
 keep:=λi h h' st k=>⟨hk i h h' st.1 λo e=>k it (by simp) o e,st.2⟩
 item:=by
  intro X hP hw hK hc i pins s σ H E I hf st hg;subst hP hw hK;obtain⟨f0,f1,f2,f3,f4,f5⟩:=hf it (by simp);refine(W X.A (I.ok.hd hc)).item i s _ _ hg st.1 λv h' tk hv' N_ kk=>?_;obtain⟨u_,x,rx,px⟩:=hv i v hv';have I1:Inv X pins σ H {s with heap:=h',toks:=tk}:=I.turned (λb o hb e=>kk b o (by simpa using hb) e) f0 f1 f3 f4 f5;exact⟨v,rfl,vB u_ ⟨x,H,I1,rx,⟨rfl,px⟩,⟨N_,hg⟩,λb hb=>(hf b hb).1⟩⟩
 done:=by
  intro X hP hw hK hc i pins s σ H E I hf st hg;subst hP hw hK;obtain⟨f0,f1,f2,f3,f4,f5⟩:=hf it (by simp);have e:i=n:=Nat.le_antisymm st.2 hg;subst e;exact(W X.A (I.ok.hd hc)).done s _ _ st.1 λh' tk kk=>⟨rfl,I.turned (λb o hb e=>kk b o (by simpa using hb) e) f0 f1 f3 f4 f5⟩
 self:=λA i s Q E st h=>Wv A i s Q E st.1 h
def CM (c:Nat):V:= .str ⟨#[c]⟩
def DJ (x:Str)(i:Nat)(v:V):Prop:=∃c,x.cps[i]?=some c/\v=CM c
def Its (x:Str):It:=KL x.cps.size (DJ x)
def zh {x:Str}{i:Nat}{u:Value}(h:SignAt x i u):(∀a,u≠ .ref a)/\∃v,RelV v u/\DJ x i v:=by
 obtain⟨c,t,hc,rfl⟩:=h;exact⟨λa z=>(by cases z),CM c,⟨t,rfl⟩,c,hc,rfl⟩
def yc {P:Program}{w:World}{K:Za}{tg:Expr}(it:Addr)(x:Str)(t:Tok):fQ P w K tg (Its x) [it] it (λi h=>h.IsStrIter it "str_ascii_iterator" x t i/\i<=x.cps.size):=
 lF (λA hh=>Walks.strAscii hh it x t) (λi u h=>zh h)
  (λi h st=>by obtain⟨o,e,c,d⟩:=st;exact⟨o,e,λv z=>by rw[d] at z;cases z⟩)
  (λi h h' st k=>let ⟨o,e,r⟩:=st;⟨o,k o e,r⟩)
  (λA i s Q E st h=>wpAny_pyIter_striter_ascii st h)
def xj {P:Program}{w:World}{K:Za}{tg:Expr}(it:Addr)(x:Str)(t:Tok):fQ P w K tg (Its x) [it] it (λi h=>h.IsStrIter it "str_iterator" x t i/\i<=x.cps.size):=
 lF (λA hh=>Walks.strWide hh it x t) (λi u h=>zh h)
  (λi h st=>by obtain⟨o,e,c,d⟩:=st;exact⟨o,e,λv z=>by rw[d] at z;cases z⟩)
  (λi h h' st k=>let ⟨o,e,r⟩:=st;⟨o,k o e,r⟩)
  (λA i s Q E st h=>wpAny_pyIter_striter_wide st h)
section
variable {X:Cx} {tg:Expr}
def rIter (K:Za)(v:V)(H:Hp)(R:It->Hp->Prop):Prop:=
 (∃a,v= .ref a/\(∃xs,SqL K H a xs)/\R (Itl K a) H)\/(∃a,v= .ref a/\(∃xs,SqT K H a xs)/\R (KN K a) H)\/(∃x,v= .str x/\R (Its x) H)
def Bp {pins:List (Addr×Obj)}{σ:St}{H1:Hp}{s1:Shared}{x:V}{v:Value}{R:It->Hp->Prop}(I1:Inv X pins σ H1 s1)(r1:RelV x v)(q1:rIter X.K x H1 R):
  wpAny (model X.prog X.w) X.A (pyIter v) (JD X pins σ tg R) X.xe s1:=by
 have XC:∀b∈[s1.heap.objs.size],gc X pins H1 b:=λb hb=>by
  have e:b=s1.heap.objs.size:=by simpa using hb
  subst e;exact I1.fpOk (LC _) (I1.hok.fresh (LC _))
 rcases q1 with⟨a,e,⟨xs,hq⟩,q⟩|⟨a,e,⟨xs,hq⟩,q⟩|⟨z,e,q⟩
 .subst e
  cases r1
  obtain⟨a_,rv,p,hz⟩:=I1.list hq
  refine OJ p.isList ?_
  exact⟨s1.heap.objs.size,[s1.heap.objs.size],_,_,H1,rfl,I1.kept (t':=s1.toks) λb o e=>LL _ e,wR a _,⟨_,Md _ rfl,rfl,rfl⟩,XC,q⟩
 .subst e
  cases r1
  obtain⟨a_,rv,p,hz⟩:=I1.tuple hq
  refine wpAny_pyIter_tuple (show s1.heap.IsTuple a a_.toArray from p) ?_
  exact⟨s1.heap.objs.size,[s1.heap.objs.size],_,_,H1,rfl,I1.kept (t':=s1.toks) λb o e=>LL _ e,ug a _,⟨_,Md _ rfl,rfl,rfl⟩,XC,q⟩
 .subst e
  obtain⟨t,rfl⟩:=r1
  cases ha:z.cps.all (·<128) with
  |false=>exact wpAny_pyIter_wide ha ⟨s1.heap.objs.size,[s1.heap.objs.size],_,_,H1,rfl,I1.kept (t':=s1.toks) λb o e=>LL _ e,xj _ z t,⟨⟨_,Md _ rfl,rfl,rfl⟩,Nd _⟩,XC,q⟩
  |true=>exact wpAny_pyIter_ascii ha ⟨s1.heap.objs.size,[s1.heap.objs.size],_,_,H1,rfl,I1.kept (t':=s1.toks) λb o e=>LL _ e,yc _ z t,⟨⟨_,Md _ rfl,rfl,rfl⟩,Nd _⟩,XC,q⟩
end
section
variable {X:Cx}
theorem pK:∀{bs:List Bool} {us:List Value},Vals (bs.map V.bl) us->us=bs.map Value.bool
 |[],_,.nil=>rfl
 |b::bs,_,.cons r t=>by
  have e:_=Value.bool b:=r;rw[e,pK t];rfl
def uG (bs:List Bool):((List.range bs.length).all λi=>(bs[i]?).getD true)=bs.all id:=by
 rw[My,Mq,Mq];constructor
 .intro h b hb;obtain⟨i,hi,rfl⟩:=Sa hb;have:=h i (Ou.mpr hi);simpa [LA hi] using this
 .intro h i hi;have Vd:=Ou.mp hi;simpa [LA Vd] using h _ (Mu Vd)
def sL (bs:List Bool):((List.range bs.length).any λi=>(bs[i]?).getD true)=bs.any id:=by
 rw[My,Nf,Nf];constructor
 .rintro⟨i,hi,e⟩;have Vd:=Ou.mp hi;simp only[LA Vd,OQ] at e;exact⟨_,Mu Vd,e⟩
 .rintro⟨b,hb,e⟩;obtain⟨i,hi,rfl⟩:=Sa hb;exact⟨i,Ou.mpr hi,by simp only[LA hi,OQ];exact e⟩
def vI {s:Shared}{h':Heap}{o:Obj}(hk:∀b x,b∉[s.heap.objs.size]->(s.heap.push o).get? b=some x->h'.get? b=some x):∀b x,s.heap.get? b=some x->h'.get? b=some x:=
 λb x e=>hk b x (λhm=>by rw[Me.mp hm] at e;exact Nb _ (LU e)) (LL _ e)
def wG (K:Za):List V->Hp->VK->Prop:=λxs H Q=>∃(p:Addr) (bs:List Bool),xs=[.ref p]/\SqL K H p (bs.map V.bl)/\Q (.bl (bs.all id)) H
def Hs (K:Za):List V->Hp->VK->Prop:=λxs H Q=>∃(p:Addr) (bs:List Bool),xs=[.ref p]/\SqL K H p (bs.map V.bl)/\Q (.bl (bs.any id)) H
def xp (hc:X.calm=true):CallR X (.builtin "all") (wG X.K):=by
 intro pins s σ H xs us Q I r h;obtain⟨l,bs,rfl,hx,q⟩:=h;obtain⟨u,rfl,ru⟩:=M9 r;cases ru;obtain⟨a_,rv,ht,hz⟩:=I.list hx;have e:=pK rv;subst e;have hl:=ht.isList;have j':l<s.heap.objs.size:=ht.lt;refine call_all_walk (OJ hl ?_);refine⟨s.heap.objs.size,[s.heap.objs.size,l],[s.heap.objs.size],(bs.map Value.bool).toArray.size,_,_,λi=>(bs[i]?).getD true,rfl,Walks.list (A:=X.A.in1) (I.ok.hd hc) _ l (Mf j') (bs.map Value.bool).toArray,
  ⟨⟨_,Md _ rfl,rfl,rfl⟩,hl.push _⟩,λi v s' Q' E' hP hQ=>?_,λh' tk hk=>?_⟩
 .have Tt:(bs.map Value.bool)[i]?=some v:=by simpa using hP
  rw[LF] at Tt;cases e:bs[i]? with
  |none=>rw[e] at Tt;cases Tt
  |some b=>
   rw[e] at Tt
   cases Tt
   simp only[e,OQ] at hQ
   exact Nz hQ
 .have e:((List.range (bs.map Value.bool).toArray.size).all λi=>(bs[i]?).getD true)=bs.all id:=by
   rw[Mh,Lz];exact uG bs
  rw[e];exact⟨.bl (bs.all id),H,I.kept (vI hk),rfl,q⟩
def xf (hc:X.calm=true):CallR X (.builtin "any") (Hs X.K):=by
 intro pins s σ H xs us Q I r h;obtain⟨l,bs,rfl,hx,q⟩:=h;obtain⟨u,rfl,ru⟩:=M9 r;cases ru;obtain⟨a_,rv,ht,hz⟩:=I.list hx;have e:=pK rv;subst e;have hl:=ht.isList;have j':l<s.heap.objs.size:=ht.lt;refine call_any_walk (OJ hl ?_);refine⟨s.heap.objs.size,[s.heap.objs.size,l],[s.heap.objs.size],(bs.map Value.bool).toArray.size,_,_,λi=>(bs[i]?).getD true,rfl,Walks.list (A:=X.A.in1) (I.ok.hd hc) _ l (Mf j') (bs.map Value.bool).toArray,
  ⟨⟨_,Md _ rfl,rfl,rfl⟩,hl.push _⟩,λi v s' Q' E' hP hQ=>?_,λh' tk hk=>?_⟩
 .have Tt:(bs.map Value.bool)[i]?=some v:=by simpa using hP
  rw[LF] at Tt;cases e:bs[i]? with
  |none=>rw[e] at Tt;cases Tt
  |some b=>
   rw[e] at Tt
   cases Tt
   simp only[e,OQ] at hQ
   exact Nz hQ
 .have e:((List.range (bs.map Value.bool).toArray.size).any λi=>(bs[i]?).getD true)=bs.any id:=by
   rw[Mh,Lz];exact sL bs
  rw[e];exact⟨.bl (bs.any id),H,I.kept (vI hk),rfl,q⟩
def GL:V->Option Int->Option Int->Hp->VK->Prop:=λx lo hi H Q=>∃z,x= .str z/\z.length<=sizeLine/\Q (.str (Txt.slice z lo hi)) H
def Gh:SlR X GL:=by
 intro pins s σ H x v vl vu lo hi sl Q I rx hs pl pu h;obtain⟨z,rfl,hz,q⟩:=h;obtain⟨t,rfl⟩:=rx;refine⟨"str",_,F.slot_str_getitem.lookup,RJ _ _ _,?_⟩;have fin:∀t' k,EP X pins σ Q (.str (Txt.slice z lo hi) t') {s with toks:=k}:=λt' k=>⟨.str _,H,I.tok _,⟨t',rfl⟩,q⟩
 cases pl with
 |none=>
  cases pu with
  |none=>exact Ol (l:=none) (u:=none) (st:=none) hs rfl (Qg ⟨Mb (Of z _ _) hz,fin⟩)
  |int j tj=>exact Ol (l:=none) (u:=some (j,tj)) (st:=none) hs rfl (Qg ⟨Mb (Of z _ _) hz,fin⟩)
 |int i ti=>
  cases pu with
  |none=>exact Ol (l:=some (i,ti)) (u:=none) (st:=none) hs rfl (Qg ⟨Mb (Of z _ _) hz,fin⟩)
  |int j tj=>exact Ol (l:=some (i,ti)) (u:=some (j,tj)) (st:=none) hs rfl (Qg ⟨Mb (Of z _ _) hz,fin⟩)
def Jn (K:Za):V->Option Int->Option Int->Hp->VK->Prop:=λx lo hi H Q=>Hy K x lo hi H Q\/HL K x lo hi H Q\/GL x lo hi H Q
def ET:SlR X (Jn X.K):=sl_list.or (sl_tup.or Gh)
def RelV.plainB {x:V}{v:Value}(r:RelV x v)(b:Bool):plainIs v (.bool b)=true/\(v==Value.bool b)=decide (x= .bl b):=by
 cases x with
 |non=>cases r;exact⟨rfl,rfl⟩
 |bl c=>cases r;exact⟨rfl,by cases b<;>cases c<;>rfl⟩
 |int _=>obtain⟨t,rfl⟩:=r;exact⟨rfl,rfl⟩
 |str _=>obtain⟨t,rfl⟩:=r;exact⟨rfl,rfl⟩
 |byt _=>obtain⟨t,rfl⟩:=r;exact⟨rfl,rfl⟩
 |flt _=>obtain⟨t,rfl⟩:=r;exact⟨rfl,rfl⟩
 |ref _=>cases r;exact⟨rfl,rfl⟩
 |ty _=>cases r;exact⟨rfl,rfl⟩
def JR (neg:Bool):R2:=λx y H Q=>(y= .non\/∃b,y= .bl b)/\Q (.bl (if neg then !decide (x=y) else decide (x=y))) H
def zK:OpR X (compareOp .Is) (JR false):=by
 intro pins s σ H x y v u Q I rx ry h;obtain⟨hy,q⟩:=h;rcases hy with rfl|⟨b,rfl⟩
 .cases ry;exact is_none_gen ⟨.bl _,H,I,by rw[rx.none_iff];rfl,q⟩
 .cases ry;exact wpAny_is_plain (rx.plainB b).1 ⟨.bl _,H,I,by rw[(rx.plainB b).2];rfl,q⟩
def dB:OpR X (compareOp .IsNot) (JR true):=by
 intro pins s σ H x y v u Q I rx ry h;obtain⟨hy,q⟩:=h;rcases hy with rfl|⟨b,rfl⟩
 .cases ry;exact isnot_none_gen ⟨.bl _,H,I,by rw[rx.none_iff];rfl,q⟩
 .cases ry;exact wpAny_isNot_plain (rx.plainB b).1 ⟨.bl _,H,I,by rw[(rx.plainB b).2];rfl,q⟩
def TyB (K:Za)(H:Hp):V->String->Prop
 | .non,t=>t="NoneType"
 | .bl _,t=>t="bool"
 | .int _,t=>t="int"
 | .str _,t=>t="str"
 | .ref a,t=>(t="list"/\∃xs,SqL K H a xs)\/(t="tuple"/\∃xs,SqT K H a xs)\/(t="dict"/\∃kvs,Rd H a (.dK kvs))
 |_,_=>False
def mn (t T:String):Bool:=t==T||(t=="bool"&&T=="int")
def BW (K:Za):List V->Hp->VK->Prop:=λxs H Q=>∃x T t,xs=[x,.ty T]/\TyB K H x t/\(T="str"\/T="int"\/T="bool"\/T="list"\/T="tuple"\/T="dict")/\Q (.bl (mn t T)) H
def Z6 {K:Za}{t T:String}(ht:t="NoneType"\/t="bool"\/t="int"\/t="str"\/t="list"\/t="tuple"\/t="dict")(hT:T="str"\/T="int"\/T="bool"\/T="list"\/T="tuple"\/T="dict"):
  PySem.W.kitOne K (.type t) (.type T)=some (mn t T):=by
 rcases ht with rfl|rfl|rfl|rfl|rfl|rfl|rfl<;>rcases hT with rfl|rfl|rfl|rfl|rfl|rfl<;>rfl
def call_isi:CallR X (.builtin "isinstance") (BW X.K):=by
 intro pins s σ H xs us Q I r h;obtain⟨x,T,t,rfl,ty,hT,q⟩:=h;obtain⟨u,c,rfl,rx,rc⟩:=bR r;cases rc;have fin:∀tk,EP X pins σ Q (.bool (mn t T)) {s with toks:=tk}:=λtk=>⟨.bl _,H,I.tok tk,rfl,q⟩
 cases x with
 |non=>cases ty;cases (show u=Value.none from rx);exact NN PySem.W.kitx_none I.kIn True.intro (Z6 (by simp) hT) (λz=>nomatch z) fin
 |bl y=>cases ty;cases (show u=Value.bool y from rx);exact NN PySem.W.kitx_bool I.kIn True.intro (Z6 (by simp) hT) (λz=>nomatch z) fin
 |int i=>cases ty;obtain⟨t,q⟩:=(show ∃t,u=Value.int i t from rx);cases q;exact NN PySem.W.kitx_int I.kIn True.intro (Z6 (by simp) hT) (λz=>nomatch z) fin
 |str y=>cases ty;obtain⟨t,q⟩:=(show ∃t,u=Value.str y t from rx);cases q;exact NN PySem.W.kitx_str I.kIn True.intro (Z6 (by simp) hT) (λz=>nomatch z) fin
 |byt _=>exact False.elim ty
 |flt _=>exact False.elim ty
 |ty _=>exact False.elim ty
 |ref a=>
  cases (show u=Value.ref a from rx)
  rcases ty with⟨rfl,ys,hy⟩|⟨rfl,ys,hy⟩|⟨rfl,kvs,hy⟩
  .obtain⟨a_,_,⟨o,n,e,c,_,_⟩,_⟩:=I.list hy
   exact NN PySem.W.kitx_list I.kIn ⟨o,e,c⟩ (Z6 (by simp) hT) (λz=>nomatch z) fin
  .obtain⟨a_,_,⟨o,e,c,_⟩,_⟩:=I.tuple hy
   exact NN PySem.W.kitx_tuple I.kIn ⟨o,e,c⟩ (Z6 (by simp) hT) (λz=>nomatch z) fin
  .obtain⟨_,_,vs,_,o,es,ep,h1,h2,_⟩:=Q6 I.hok hy
   exact NN SM I.kIn ⟨o,h1,h2.1⟩ (Z6 (by simp) hT) (λz=>nomatch z) fin
end
section
variable {X:Cx}
def qX (K:Za):R2:=λx y H Q=>BC (λi j=> .int (i+j)) x y H Q\/(∃i j,x= .str i/\y= .str j/\i.length+j.length<=sizeLine/\Q (.str (i++j)) H)\/IG x y H Q\/Dv K x y H Q
def BS:OpR X (binaryOp .Add) (qX X.K):=op_add.or (op_add_str.or (op_cat.or Dm))
def op_in_sgn:OpR X (compareOp .In) (λx y H Q=>∃c j,x=CM c/\y= .str j/\Q (.bl (decide (c∈j.cps.toList))) H):=by
 intro pins s σ H x y v u Q I rx ry h;obtain⟨c,j,rfl,rfl,q⟩:=h;refine wL pins s σ H _ _ v u Q I rx ry ⟨⟨#[c]⟩,j,rfl,rfl,?_⟩;rw[StrLaws.found_one];exact q
def op_notIn_sgn:OpR X (compareOp .NotIn) (λx y H Q=>∃c j,x=CM c/\y= .str j/\Q (.bl (!decide (c∈j.cps.toList))) H):=by
 intro pins s σ H x y v u Q I rx ry h;obtain⟨c,j,rfl,rfl,q⟩:=h;refine oX pins s σ H _ _ v u Q I rx ry ⟨⟨#[c]⟩,j,rfl,rfl,?_⟩;rw[StrLaws.found_one];exact q
def tR (hu:X.A.units+1<cLine):OpR X (compareOp .In) (λy x H Q=>∃a o,x= .ref a/\DGet H a y o/\Q (.bl o.isSome) H):=by
 intro pins s σ H y x v u Q I ry rx h;obtain⟨a,o,rfl,g,q⟩:=h;cases rx;exact JU hu I g ry λs' I'=>⟨.bl _,H,I',rfl,q⟩
def me (hu:X.A.units+1<cLine):OpR X (compareOp .NotIn) (λy x H Q=>∃a o,x= .ref a/\DGet H a y o/\Q (.bl (!o.isSome)) H):=by
 intro pins s σ H y x v u Q I ry rx h;obtain⟨a,o,rfl,g,q⟩:=h;cases rx;exact BM hu I g ry λs' I'=>⟨.bl _,H,I',rfl,q⟩
def wo (K:Za):R2:=λx y H Q=>(∃c j,x=CM c/\y= .str j/\Q (.bl (decide (c∈j.cps.toList))) H)\/Ju K false x y H Q\/(∃a o,y= .ref a/\DGet H a x o/\Q (.bl o.isSome) H)
def jG (K:Za):R2:=λx y H Q=>(∃c j,x=CM c/\y= .str j/\Q (.bl (!decide (c∈j.cps.toList))) H)\/Ju K true x y H Q\/(∃a o,y= .ref a/\DGet H a x o/\Q (.bl (!o.isSome)) H)
def DV (hu:X.A.units+1<cLine):OpR X (compareOp .In) (wo X.K):=op_in_sgn.or (op_in_seq.or (tR hu))
def xi (hu:X.A.units+1<cLine):OpR X (compareOp .NotIn) (jG X.K):=op_notIn_sgn.or (op_notIn_seq.or (me hu))
def IS:R2:=λx y H Q=>BC (λi j=> .bl (decide (i<j))) x y H Q\/(∃i j,x= .str i/\y= .str j/\Q (.bl (decide (i.cps.toList<j.cps.toList))) H)
def uw:OpR X (compareOp .Lt) IS:=op_lt.or xo
def CT (hu:X.A.units+1<cLine):IxR X (λx y H Q=>∃a v,x= .ref a/\DGet H a y (some v)/\Q v H):=by
 intro value slice pins s σ H x y v u Q I rx ry h hs;obtain⟨a,z,rfl,g,q⟩:=h;cases rx;exact tail_any (rN I g) PySem.F.slot_dict_getitem.lookup (wM hu I g ry λw2 s' I' r'=>⟨z,H,I',r',q⟩) hs
def mI (K:Za):R2:=λx y H Q=>KG K x y H Q\/(∃a v,x= .ref a/\DGet H a y (some v)/\Q v H)
def FP (hu:X.A.units+1<cLine):IxR X (mI X.K):=ix_seq.or (CT hu)
def xZ (K:Za):List V->Hp->VK->Prop:=λxs H Q=>(∃x n,xs=[x]/\Jd K x H n/\Q (.int n) H)\/(∃a kvs,xs=[V.ref a]/\Rd H a (.dK kvs)/\Q (.int kvs.length) H)
def call_lenX:CallR X (.builtin "len") (xZ X.K):=by
 refine call_len.or ?_;intro pins s σ H xs us Q I r h;obtain⟨a,kvs,rfl,ha,q⟩:=h;obtain⟨u,rfl,ru⟩:=M9 r;cases ru;exact GV I ha λt s' I'=>⟨.int kvs.length,H,I',⟨t,rfl⟩,q⟩
end
def K3 (P:Program)(w:World)(K:Za)(mg:Str->Option Value)(base:Heap)(CX:qo)(k:Nat)(x:Str)(ps:List Str)(m_:List V)(sp:Sp):Prop:=
 ∃f fd ds,x8 P w K mg base CX k f fd ps sp/\mg x=some (.ref f)/\PySem.W.keepIn K (.ref f)=true/\Binds K fd ps ds/\Vals m_ ds
section
variable {X:Cx} {CX:qo} {k:Nat} {x:Str} {ps:List Str} {m_:List V} {sp:Sp} {E:XK} {e:Expr} {es:List Expr} {t:TA} {p pos:Pos}
def zD (C:K3 X.prog X.w X.K X.mg X.base CX k x ps m_ sp)(hr:Room k X.A)(hx:cF CX X E)(ha:PA X (e::es) t)(hg:Gl X x:=by rfl)
  (t_:(x==("__debug__":Str))=false:=by decide) (he:starEach (e::es) X.env=(false,eval e X.env)::starEach es X.env:=by rfl) (RO:(backTo pos (starEach es X.env)).any (·.1)=false:=by rfl):
  PE X (.Call (.Name x p) (e::es) [] pos) (rS sp m_ E t):=by
 obtain⟨f,fd,ds,F,hm,hk,hb,hd⟩:=C
 exact BG F hr hg hm hk hb hd hx ha t_ he RO
def Ha (mg:Str->Option Value)(x:Str)(v:V):Prop:=∃u,mg x=some u/\RelV v u
def EV {v:V}(h:Ha X.mg x v)(hg:Gl X x:=by rfl)(hd:(x==("__debug__":Str))=false:=by decide):PE X (.Name x pos) (tC v):=by
 obtain⟨u,hm,r⟩:=h;exact Cc hg hm r hd
def k7 {k:Nat}{A:Around}(r:Room k A):A.units+1<cLine:=by have:=r.un;lia
end
section
variable {K:Za} {σ:St} {H:Hp} {Q:VK} {D:rF} {nx bk ct:St->Hp->Prop} {rt:VK}
def Hl {i:Nat}{v:V}(h:σ[i]?=some (some v))(q:Q v H):BL i σ H Q:=⟨v,h,q⟩
def Lq {v:V}(q:Q v H):tC v σ H Q:=q
def JP {r:R2}{ta tb:TE}(q:ta σ H λx H1=>tb σ H1 λy H2=>r x y H2 Q):CO r ta tb σ H Q:=q
def Ew {t:TE}{Qb:Bool->Hp->Prop}(q:t σ H λx H'=>∃k,x= .bl k/\Qb k H'):zY t σ H Qb:=q
def Ki {b:Bool}{Qb:Bool->Prop}(q:Qb b):∃k,V.bl b= .bl k/\Qb k:=⟨b,rfl,q⟩
def GN {b:Bool}{Qb:Bool->Prop}(q:Qb b):∃k,zr K (V.bl b) H k/\Qb k:=⟨b,rfl,q⟩
def GP {t:TT}{Qb:Bool->Hp->Prop}(q:t σ H λc H1=>Qb (!c) H1):Et t σ H Qb:=q
def Hx {t u:TT}{Qb:Bool->Hp->Prop}(q:t σ H λc H1=>if c=true then u σ H1 Qb else Qb false H1):Gz t u σ H Qb:=q
def Kp {t u:TT}{Qb:Bool->Hp->Prop}(q:t σ H λc H1=>if c=true then Qb true H1 else u σ H1 Qb):JN t u σ H Qb:=q
def Ft {ta tb:TE}(q:ta σ H λx H1=>∃c,x= .bl c/\if c=true then tb σ H1 Q else Q (.bl false) H1):yO ta tb σ H Q:=q
def IB {ta tb:TE}(q:ta σ H λx H1=>∃c,x= .bl c/\if c=true then Q (.bl true) H1 else tb σ H1 Q):EA ta tb σ H Q:=q
def Gn {ta:TE}(q:ta σ H λx H1=>∃c,x= .bl c/\Q (.bl (!c)) H1):By ta σ H Q:=q
def Kw {t:TT}{ta tb:TE}(q:t σ H λc H1=>if c=true then ta σ H1 Q else tb σ H1 Q):Ks t ta tb σ H Q:=q
def Hh {Qa:List V->Hp->Prop}(q:Qa [] H):uD σ H Qa:=q
def Ec {ta:TE}{tr:TA}{Qa:List V->Hp->Prop}(q:ta σ H λx H1=>tr σ H1 λxs H2=>Qa (x::xs) H2):vU ta tr σ H Qa:=q
def FG {sp:Sp}{m_:List V}{E:XK}{t:TA}(q:t σ H λvs H1=>sp (vs++m_) H1 Q E):rS sp m_ E t σ H Q:=q
def JS {r:List V->Hp->VK->Prop}{t:TA}(q:t σ H λvs H1=>r vs H1 Q):EE r t σ H Q:=q
def Kd {r:V->Option Int->Option Int->Hp->VK->Prop}{te:TE}{tl th:TO}(q:te σ H λx H1=>tl σ H1 λl H2=>th σ H2 λu H3=>r x l u H3 Q):Kx r te tl th σ H Q:=q
def Bh {Qo:Option Int->Hp->Prop}(q:Qo none H):oY σ H Qo:=q
def EB {t:TE}{Qo:Option Int->Hp->Prop}(q:t σ H λx H1=>∃i,x= .int i/\Qo (some i) H1):Av t σ H Qo:=q
def Ib {i:Int}{Qo:Int->Prop}(q:Qo i):∃j,V.int i= .int j/\Qo j:=⟨i,rfl,q⟩
def xx {i j:Int}(q:Q (.int (i+j)) H):qX K (.int i) (.int j) H Q:= .inl ⟨i,j,rfl,rfl,q⟩
def C9 {i j:Str}(h:i.length+j.length<=sizeLine)(q:Q (.str (i++j)) H):qX K (.str i) (.str j) H Q:= .inr (.inl ⟨i,j,rfl,rfl,h,q⟩)
def JH {g:Int->Int->V}{i j:Int}(q:Q (g i j) H):BC g (.int i) (.int j) H Q:=⟨i,j,rfl,rfl,q⟩
def Lo {C:Int->Int->Prop}{g:Int->Int->V}{i j:Int}(h:C i j)(q:Q (g i j) H):rI C g (.int i) (.int j) H Q:=⟨i,j,rfl,rfl,h,q⟩
def yH {i j:Int}(q:Q (.bl (decide (i<j))) H):IS (.int i) (.int j) H Q:= .inl ⟨i,j,rfl,rfl,q⟩
def sC {i j:Int}(q:Q (.bl (decide (i=j))) H):Jo (.int i) (.int j) H Q:=⟨rfl,by rw[jB];rw[show(i==j)=decide (i=j) from PF i j];exact q⟩
def se {i j:Str}(q:Q (.bl (decide (i=j))) H):Jo (.str i) (.str j) H Q:=⟨rfl,by rw[pJ];rw[show(i==j)=decide (i=j) from PF i j];exact q⟩
def zc {c:Nat}{j:Str}(q:Q (.bl (decide (c∈j.cps.toList))) H):wo K (CM c) (.str j) H Q:= .inl ⟨c,j,rfl,rfl,q⟩
def dM {y:Str}(h:y.length<=sizeLine)(q:Q (.int y.length) H):xZ K [.str y] H Q:= .inl ⟨.str y,y.length,rfl,⟨h,rfl⟩,q⟩
def z7 {p:Addr}{xs:List V}(h:SqL K H p xs)(q:Q (.int xs.length) H):xZ K [.ref p] H Q:= .inl ⟨.ref p,xs.length,rfl,.inl ⟨xs,h,rfl⟩,q⟩
def X1 {p:Addr}{kvs:List (i6×V)}(h:Rd H p (.dK kvs))(q:Q (.int kvs.length) H):xZ K [.ref p] H Q:= .inr ⟨p,kvs,rfl,h,q⟩
def j5 {p:Addr}{xs:List V}{i:Int}{v:V}(h:SqL K H p xs)(e:mO xs i=some v)(q:Q v H):mI K (.ref p) (.int i) H Q:= .inl (.inl ⟨p,xs,i,v,rfl,rfl,h,e,q⟩)
def j4 {p:Addr}{xs:List V}{i:Int}{v:V}(h:SqT K H p xs)(e:mO xs i=some v)(q:Q v H):mI K (.ref p) (.int i) H Q:= .inl (.inr (.inl ⟨p,xs,i,v,rfl,rfl,h,e,q⟩))
def N2 {z:Str}{i:Int}{c:Nat}(hz:z.length<=sizeLine)(e:mO z.cps.toList i=some c)(q:Q (CM c) H):mI K (.str z) (.int i) H Q:= .inl (.inr (.inr ⟨z,i,c,rfl,rfl,hz,e,q⟩))
def C3 {p:Addr}{y v:V}(g:DGet H p y (some v))(q:Q v H):mI K (.ref p) y H Q:= .inr ⟨p,v,rfl,g,q⟩
def A8 {p:Addr}{xs:List V}{lo hi:Option Int}(h:SqL K H p xs)(q:∀p,H p=none->Q (.ref p) (upd H p (.lst (Q3 xs lo hi)))):Jn K (.ref p) lo hi H Q:= .inl ⟨p,xs,rfl,h,q⟩
def de {z:Str}{lo hi:Option Int}(hz:z.length<=sizeLine)(q:Q (.str (Txt.slice z lo hi)) H):Jn K (.str z) lo hi H Q:= .inr (.inr ⟨z,rfl,hz,q⟩)
def eh {l b:Addr}{xs zs:List V}(h1:H l=some (.lst xs))(h2:H b=some (.lst zs))(hz:xs.length+zs.length<=sizeLine)(q:∀p,H p=none->Q (.ref p) (upd H p (.lst (xs++zs)))):qX K (.ref l) (.ref b) H Q:= .inr (.inr (.inl ⟨l,b,xs,zs,rfl,rfl,h1,h2,hz,q⟩))
def Iz {neg:Bool}{x:V}(q:Q (.bl (if neg then !decide (x= .non) else decide (x= .non))) H):JR neg x .non H Q:=⟨.inl rfl,q⟩
def rR {x:V}{t T:String}(ty:TyB K H x t)(hT:T="str"\/T="int"\/T="bool"\/T="list"\/T="tuple"\/T="dict")(q:Q (.bl (mn t T)) H):BW K [x,.ty T] H Q:=⟨x,T,t,rfl,ty,hT,q⟩
def oq {p:Addr}{bs:List Bool}(h:SqL K H p (bs.map V.bl))(q:Q (.bl (bs.all id)) H):wG K [.ref p] H Q:=⟨p,bs,rfl,h,q⟩
def Hf {t:TA}(q:t σ H λxs H1=>xs.length<=sizeLine/\∀p,H1 p=none->Q (.ref p) (upd H1 p (.tup xs))):Gi t σ H Q:=q
def Iu {t:TA}(q:t σ H λxs H1=>xs.length<=sizeLine/\∀p,H1 p=none->Q (.ref p) (upd H1 p (.lst xs))):Eo t σ H Q:=q
def qG {t u:TS}(q:t ⟨u ⟨nx,rt,bk,ct⟩,rt,bk,ct⟩ σ H):xV t u ⟨nx,rt,bk,ct⟩ σ H:=q
def EU (q:nx σ H):AZ ⟨nx,rt,bk,ct⟩ σ H:=q
def Ip {te:TE}(q:te σ H rt):EN te ⟨nx,rt,bk,ct⟩ σ H:=q
def DZ {te:TE}(q:te σ H λ_ H1=>nx σ H1):Br te ⟨nx,rt,bk,ct⟩ σ H:=q
def Iv {c:TT}{t u:TS}(q:c σ H λb H1=>if b=true then t ⟨nx,rt,bk,ct⟩ σ H1 else u ⟨nx,rt,bk,ct⟩ σ H1):Ge c t u ⟨nx,rt,bk,ct⟩ σ H:=q
def Hi {te:TE}{g:TG}(q:te σ H λx H1=>g x σ H1 nx):uC te g ⟨nx,rt,bk,ct⟩ σ H:=q
def Fx {i:Nat}{v:V}{Qs:St->Hp->Prop}(q:Qs (σ.set i (some v)) H):O5 i v σ H Qs:=q
end
section
variable {X:Cx} {pins:List (Addr×Obj)} {σ:St} {H:Hp} {s:Shared} {d:Addr} {kvs:List (i6×V)} {o:Obj}
abbrev E6 (d:Addr)(o:Obj)(kvs:List (i6×V))(H:Hp):Hp:=upd H d (.frz o (.dK kvs))
def Inv.freeze (I:Inv X pins σ H s)(h:H d=some (.dK kvs))(ho:s.heap.get? d=some o):Inv X pins σ (E6 d o kvs H) s:=by
 have nd:∀b u,H b=some u->u≠ .dK kvs->b≠d:=λb u e n z=>by
  subst z;rw[h] at e;exact n (Mc e).symm
 have hok:HOk X.prog X.w (E6 d o kvs H) s.heap:=λb u e=>by
  have st:∀{a:Addr} {u:HO},ObjOk X.prog X.w H s.heap a u->ObjOk X.prog X.w (E6 d o kvs H) s.heap a u:=fun{a u} x=>
   x.stay (λc v _ q=>q) (λc q=>by unfold E6;rw[b7 (nd c _ q (by intro z;cases z))];exact q) λc xs q=>by unfold E6;rw[b7 (nd c _ q (by intro z;cases z))];exact q
  by_cases hb:b=d
  .subst hb;unfold E6 at e;rw[d8] at e;cases e;exact⟨ho,st (I.hok _ _ h)⟩
  .unfold E6 at e;rw[b7 hb] at e;exact st (I.hok b u e)
 have q:=I.un (H':=E6 d o kvs H) (h':=s.heap) (t':=s.toks) ⟨λb o e n hb hx=>e,λb o e n hb hx=>⟨o.slots,e⟩,λb o e n hx=>by
  unfold E6;rw[b7 (λz=>by subst z;rw[h] at n;cases n)];exact n,λb o e _=>⟨o,e⟩,λb xs e=>by unfold E6;rw[b7 (nd b _ e (by intro z;cases z))];exact e,
  λb o u e=>by unfold E6;rw[b7 (nd b _ e (by intro z;cases z))];exact e,λb ps e=>⟨#[],by unfold E6;rw[b7 (nd b _ e (by intro z;cases z))];simpa using e⟩⟩ hok
 exact q
def IY:Option HO->Option HO
 |some (.frz _ u)=>some u
 |o=>o
def thaw (d:Addr)(H:Hp):Hp:=λb=>if b=d then IY (H d) else H b
theorem N3 {b:Addr}(h:b≠d):thaw d H b=H b:=by unfold thaw;rw[if_neg h]
theorem thaw_at {u:HO}(h:H d=some (.frz o u)):thaw d H d=some u:=by unfold thaw;rw[if_pos rfl,h];rfl
def yM {u:HO}(h:H d=some (.frz o u)):thaw d H=upd H d u:=by grind [thaw_at,d8,N3,b7]
def vF (h:∀o u,H d≠some (.frz o u)):thaw d H=H:=by
 funext b;by_cases hb:b=d
 .subst hb;unfold thaw;rw[if_pos rfl];cases q:H b with
  |none=>rfl
  |some u=>cases u with
   |frz o u=>exact absurd q (h o u)
   |_=>rfl
 .exact N3 hb
def CA (X:Cx)(th:Hp->Hp):Prop:=∀(pins:List (Addr×Obj)) (σ:St) (H:Hp) (s:Shared),Inv X pins σ H s->Inv X pins σ (th H) s
def gd:CA X id:=λ_ _ _ _ I=>I
def xD (hn:∀o u,X.H₀ d≠some (.frz o u)):CA X (thaw d):=λpins σ H s I=>by
 by_cases hf:∃o u,H d=some (.frz o u)
 .obtain⟨o,u,h⟩:=hf;rw[yM h];have nd:∀b v,H b=some v->v≠ .frz o u->b≠d:=λb v e n z=>by
   subst z;rw[h] at e;exact n (Mc e).symm
  have nn:∀b,H b=none->b≠d:=λb e z=>by subst z;rw[h] at e;cases e
  have st:∀{a:Addr} {v:HO},ObjOk X.prog X.w H s.heap a v->ObjOk X.prog X.w (upd H d u) s.heap a v:=fun{a v} x=>
   x.stay (λc v _ q=>q) (λc q=>by rw[b7 (nd c _ q (by intro z;cases z))];exact q) λc xs q=>by rw[b7 (nd c _ q (by intro z;cases z))];exact q
  refine⟨I.ok,I.os,I.bare,⟨I.base.keep,I.base.slot,λb ob e n hx=>?_,I.base.there,λb xs e=>?_,λb ob v e=>?_,λb ps e=>?_⟩,I.loc,I.cell,?_,λx c e=>?_,λp hp=>?_,λb v e=>?_,I.len⟩
  .have q:=I.base.free b ob e n hx;rw[b7 (nn b q)];exact q
  .have q:=I.base.tups b xs e;rw[b7 (nd b _ q (by intro z;cases z))];exact q
  .have q:=I.base.frzs b ob v e;rw[b7 (λz=>by subst z;exact hn ob v e)];exact q
  .obtain⟨m,q⟩:=I.base.tbls b ps e;exact⟨m,by rw[b7 (nd b _ q (by intro z;cases z))];exact q⟩
  .rw[b7 (nn _ I.free)];exact I.free
  .have q:=I.freeC x c e;rw[b7 (nn _ q)];exact q
  .obtain⟨a1,a2,a3⟩:=I.pin p hp;exact⟨a1,by rw[b7 (nn _ a2)];exact a2,a3⟩
  .by_cases hb:b=d
   .subst hb;rw[d8] at e;cases e;exact st (I.hok _ _ h).2
   .rw[b7 hb] at e;exact st (I.hok b v e)
 .rw[vF λo u e=>hf ⟨o,u,e⟩];exact I
def Same.thaw {H H':Hp}(h:H d=some (.dK kvs))(e:Same (E6 d o kvs H) H'):Same H (thaw d H'):=λb u q=>by
 by_cases hb:b=d
 .subst hb;rw[h] at q;cases q;have z:=e b _ (show E6 b o kvs H b=some _ from d8);exact thaw_at z
 .rw[N3 hb];exact e b u (by unfold E6;rw[b7 hb];exact q)
end
abbrev qm:=St->Hp->(It->(Hp->Hp)->Hp->Prop)->Prop
def zW (X:Cx)(tg iter:Expr)(wi:qm):Prop:=
 ∀(pins:List (Addr×Obj)) (s:Shared) (σ:St) (H:Hp) (R:It->(Hp->Hp)->Hp->Prop),Inv X pins σ H s->wi σ H R->
  wpAny (model X.prog X.w) X.A (eval iter X.env) (λv s1=>wpAny (model X.prog X.w) X.A (pyIter v) (JD X pins σ tg λJ H'=>∃th,CA X th/\R J th H') X.xe s1) X.xe s
def PI.two {X:Cx}{tg iter:Expr}{wi:TI}(h:PI X tg iter wi):zW X tg iter (λσ H R=>wi σ H λJ H'=>R J id H'):=by
 intro pins s σ H R I q;refine J0 (h pins s σ H _ I q) λv s1 h1=>J0 h1 λWg s2 h2=>?_;obtain⟨it,fp,tn,J,H',e,I',T,st,f,q⟩:=h2;exact⟨it,fp,tn,J,H',e,I',T,st,f,id,gd,q⟩
def xI (J:It)(th:Hp->Hp)(g:TG)(tb:TS)(nx:St->Hp->Prop)(rt:VK)(σ:St)(H1:Hp):Prop:=∃W:Nat->Nat->St->Hp->Prop,(∃m,W 0 m σ H1)/\∀i m σ H,W i m σ H->
 (J.stop i H/\nx σ (th H))\/(J.go i H/\∃N:St->Hp->Prop,(∀σ' H',N σ' H'->∃m',m'<m/\W (i+1) m' σ' H')/\∀x H',J.yld i H x H'->g x σ H' λσ2 H2=>tb ⟨N,λv H=>rt v (th H),λσ H=>nx σ (th H),N⟩ σ2 H2)
def yS (wi:qm)(g:TG)(tb:TS):TS:=λD σ H=>wi σ H λJ th H1=>xI J th g tb D.nx D.rt σ H1
def BJ {X:Cx}{tg iter:Expr}{body:List Stmt}{wi:qm}{g:TG}{tb:TS}{pos:Pos}(hp:PassesOwn (model X.prog X.w) X.A X.env X.xe)(hc:X.calm=true)(hi:zW X tg iter wi)(hg:PG X tg g)(hb:PSs X body tb)
  (hs:∀x,foldedSetIterable iter X.env x=pure x:=by intro _;rfl):PS X (.For tg iter body [] pos) (yS wi g tb):=by
 intro pins s σ H D I h
 refine wpAny_For (J0 (hi pins s σ H _ I h) λv s1 h1=>J0 h1 λWg s2 h2=>?_) hs
 obtain⟨it,fp,tn,J,H2,e,I2,T,A_,f2,th,RP,W,⟨m0,w0⟩,turn⟩:=h2
 subst e
 have Tr:∀{H':Hp},(∀b∈fp,H' b=none)->∀b∈fp,gc X pins H' b:=λhn b hb=>⟨hn b hb,(f2 b hb).2⟩
 refine codeAny_forLoop_any (λn s'=>∃i σ' H',Inv X pins σ' H' s'/\tn i s'.heap/\(∀b∈fp,H' b=none)/\W i n σ' H') ?_ m0 ⟨0,σ,H2,I2,A_,λb hb=>(f2 b hb).1,w0⟩
 rintro n s3 ⟨i,σ3,H3,I3,Ws,Wt,w3⟩
 rcases turn i n σ3 H3 w3 with⟨stop,qn⟩|⟨go,N,hN,step⟩
 .refine NZ hp (J0 (T.done X rfl rfl rfl hc i pins s3 σ3 H3 X.xe I3 (Tr Wt) Ws stop) λr s4 ⟨hr,I4⟩=>?_)
  subst hr
  exact OZ ⟨σ3,th H3,RP _ _ _ _ I4,qn⟩
 .refine NZ hp (J0 (T.item X rfl rfl rfl hc i pins s3 σ3 H3 X.xe I3 (Tr Wt) Ws go) λr s4 ⟨u,hr,h4⟩=>?_)
  subst hr
  refine NZ hp (J0 h4 λ_ s5 ⟨x,H5,I5,r5,y5,st5,fr5⟩=>?_)
  have YH:=I5.pinned (Tr fr5) (T.obj _ _ st5)
  refine NZ hp (J0 (hg _ s5 σ3 H5 x u _ YH r5 (step x H5 y5)) λ_ s6 ⟨σ6,H6,I6,q6⟩=>?_)
  refine NZ hp (J0 (hb _ s6 σ6 H6 _ I6 q6) λf s7 q7=>?_)
  have again:∀{σ7:St} {H7:Hp},Inv X (pins++lN fp s5.heap) σ7 H7 s7->N σ7 H7->∃m,m<n/\∃i σ' H',Inv X pins σ' H' s7/\tn i s7.heap/\(∀b∈fp,H' b=none)/\W i m σ' H':=fun{σ7 H7} I7 n7=>by
   obtain⟨m',hm,w7⟩:=hN σ7 H7 n7;refine⟨m',hm,i+1,σ7,H7,I7.unpinned,T.keep _ _ _ st5 λb hb o e=>(I7.pin (b,o) (LP _ (LP _ (bK hb e)))).1,λb hb=>?_,w7⟩;obtain⟨o,e,d⟩:=T.obj _ _ st5 b hb;exact(I7.pin (b,o) (LP _ (LP _ (bK hb e)))).2.1
  cases f with
  |next=>obtain⟨σ7,H7,I7,n7⟩:=q7;exact again I7 n7
  |cont=>obtain⟨σ7,H7,I7,n7⟩:=q7;exact again I7 n7
  |brk=>obtain⟨σ7,H7,I7,q7⟩:=q7;exact⟨σ7,th H7,RP _ _ _ _ I7.unpinned,q7⟩
  |ret v=>obtain⟨x7,σ7,H7,I7,r7,q7⟩:=q7;exact⟨x7,σ7,th H7,RP _ _ _ _ I7.unpinned,r7,q7⟩
def yQ (own:List Str)(js:List Nat)(J:It)(th:Hp->Hp)(g:TG)(ti:TT)(te:TE)(Q:VK)(σ:St)(H1:Hp):Prop:=∃W:Nat->Nat->List V->Hp->Prop,(∃m,W 0 m [] H1)/\∀i m out H,W i m out H->
 (J.stop i H/\∀D,H D=none->out.length<=sizeLine/\Q (.ref D) (th (upd H D (.lst out))))\/
 (J.go i H/\∀x H',J.yld i H x H'->g x (BA own js σ) H' λσ2 H2=>σ2.drop own.length=js.map (λj=>(σ[j]?).join)/\ti σ2 H2 λb H3=>
  if b=true then te σ2 H3 λv H4=>out.length<=sizeLine/\∃m',m'<m/\W (i+1) m' (out++[v]) H4 else ∃m',m'<m/\W (i+1) m' out H3)
def kP (own:List Str)(js:List Nat)(wi:qm)(g:TG)(ti:TT)(te:TE):TE:=λσ H Q=>wi σ H λJ th H1=>yQ own js J th g ti te Q σ H1
def FU:TT:=λ_ H Q=>Q true H
def GR {X:Cx}:tI X [] FU:=Ke
def xk {X:Cx}{own:List Str}{js:List Nat}{scope:Scope}{tg iter elt:Expr}{ifs:List Expr}{pos:Pos}{g:TG}{ti:TT}{te:TE}{wi:qm}(S:GJ X own js scope=true)(hc:X.calm=true)(hit:zW X tg iter wi)
  (hg:∀C s H fp,PG (dU X own js scope C s H fp) tg g) (hi:∀C s H fp,tI (dU X own js scope C s H fp) ifs ti) (he:∀C s H fp,PE (dU X own js scope C s H fp) elt te)
  (hs:∀x,foldedSetIterable iter X.env x=pure x:=by intro _;rfl):
  PE X (.ListComp elt [⟨tg,iter,ifs,0⟩] scope pos) (kP own js wi g ti te):=by
 have SB:=Ba S
 intro pins s σ H Q I h
 rw[eval_ListComp]
 refine QH (use:=none) rfl hs (kr (SB.cells I)) SB.kind SB.names (J0 (hit pins s σ H _ I h) λv s1 h1=>J0 h1 λWg s2 h2=>?_)
 obtain⟨it,fp,tn,J,H2,e,I2,T,A_,f2,th,RP,W,⟨m0,w0⟩,turn⟩:=h2
 subst e
 refine NB (wpAny_newFunctionEnv SB.nocell (by intro y hy;simp at hy) (λh₁ hns₁ hsb₁=>?_) SB.kind)
 dsimp only at hns₁ hsb₁⊢
 generalize Ve:s2.heap.push {cls:= .type "list",dict:=none,data:= .seq ([]:List Value).toArray}=G2 at hns₁ hsb₁⊢
 have Ww:G2.objs.size=s2.heap.objs.size+1:=by rw[←Ve,OO]
 have SJ:s2.heap.objs.size≠G2.objs.size:=by rw[Ww];exact Mf (PR _)
 have hC:s2.heap.objs.size<=G2.objs.size:=by rw[Ww];exact OE _
 have old:∀b o,s2.heap.get? b=some o->h₁.get? b=some o:=λb o e=>
  hsb₁.extBut b o (Mf (LZ (LU e) hC)) (LL _ (Ve▸LL _ e))
 have Rt:∀b∈fp,∃o,s2.heap.get? b=some o:=λb hb=>let ⟨o,e,_⟩:=T.obj _ _ A_ b hb;⟨o,e⟩
 have p_:h₁.get? s2.heap.objs.size=some {cls:= .type "list",data:= .seq ([]:List Value).toArray}:=
  hsb₁.extBut _ _ SJ (LL _ (Ve▸Md _ rfl))
 have loop:∀s3:Shared,s3={s2 with heap:=h₁,toks:=s2.toks+([]:List (Str×Value)).length}->
   codeAny (model X.prog X.w) X.A (.compLoop (.ListComp elt [⟨tg,iter,ifs,0⟩] scope pos) 0 (.ref it) (.ref s2.heap.objs.size) (compEnvC scope (jj scope X.env) G2.objs.size X.env))
    (compPost (model X.prog X.w) X.A X.xe none (EP X pins σ Q) (.ref s2.heap.objs.size) G2.objs.size) s3:=by
  rintro s3 rfl
  refine mR (K:=λout H'=>Q (.ref s2.heap.objs.size) (th (upd H' s2.heap.objs.size (.lst out)))) SB hc T I2 f2 (LC _) hC SJ Rt (hg _ _ _ _) (hi _ _ _ _) (he _ _ _ _) W (λi m out H' w=>?_) (λout H' s' B hl k=>?_) w0
   ⟨Inv.block SB I2 f2 Rt hC hns₁ old,I2.hok.fresh (LC _),[],_,.nil,p_⟩ (T.keep _ _ _ A_ λb _ o e=>old b o e) (λb hb=>(f2 b hb).1)
  .rcases turn i m out H' w with⟨a,b⟩|c
   .exact .inl ⟨a,λn=>b _ n⟩
   .exact .inr c
  .obtain⟨mm,hn,_⟩:=B.inv.loc
   exact⟨mm,hn,λh' sb=>⟨.ref s2.heap.objs.size,_,RP _ _ _ _ (B.out I2 f2 (LC _) hC SJ hl sb),rfl,k⟩⟩
 exact codeAny_compStart_list (loop _ rfl) (T.self _ 0 _ _ _ (T.keep _ _ _ A_ λb _ o e=>old b o e) (loop _ rfl))
def B5 {α β : Type} {F : α -> β -> Prop} : ∀ {l₁ : List α} {l₂ : List β} {i : Nat} {a : α}, Paired F l₁ l₂ -> l₁[i]? = some a -> ∃ b, l₂[i]? = some b /\ F a b
 := by
  intro l₁ l₂ i a hp e;induction hp generalizing i with
  | nil => cases e
  | cons r _ ih => cases i with
    | zero => cases e; exact ⟨_, rfl, r⟩
    | succ i => exact ih e
section
variable {P:Program} {w:World}
def fV {k:i6}{v:Value}(h:(j7 P w).is k v=true):RelV (kV k) v:=by
 rcases B0 (show dX k v=true from h) with⟨i,t,rfl,rfl⟩|⟨x,t,rfl,rfl⟩
 .exact⟨t,rfl⟩
 .exact⟨t,rfl⟩
def Ae {k:i6}{v:Value}(h:(j7 P w).is k v=true):∀a,v≠ .ref a:=by
 rcases B0 (show dX k v=true from h) with⟨i,t,rfl,rfl⟩|⟨x,t,rfl,rfl⟩<;>exact λa z=>by cases z
structure xX (P:Program) (w:World) (d:Addr) (o:Obj) (kvs:List (i6×V)) (vs:List (i6×Value)) (ep:Nat):Prop where
 kv:KV kvs vs
 at_:∀h:Heap,h.get? d=some o->h.DictAt (j7 P w) d vs ep
 nd:(kvs.map (·.1)).Nodup
def dE {H:Hp}{h:Heap}{d:Addr}{kvs:List (i6×V)}(ok:HOk P w H h)(e:Rd H d (.dK kvs)):(d==sysModules)=false/\∃o vs ep,h.get? d=some o/\xX P w d o kvs vs ep:=by
 obtain⟨z,hd,vs,rel,o,es,ep,h1,r⟩:=Q6 ok e;refine⟨hd,o,vs,ep,h1,rel,λh' e'=>⟨o,es,e',r⟩,?_⟩;rw[KV.keys rel];exact r.2.2.2.2
def JA (d:Addr)(o:Obj)(kvs:List (i6×V))(f:i6×V->V):It:=
 ⟨λi H=>H d=some (.frz o (.dK kvs))/\i<kvs.length,λi H x H'=>H'=H/\∃kv,kvs[i]?=some kv/\x=f kv,λi H=>H d=some (.frz o (.dK kvs))/\kvs.length<=i⟩
def Ht (d:Addr)(o:Obj)(kvs:List (i6×V)):It:=
 ⟨λi H=>H d=some (.frz o (.dK kvs))/\i<kvs.length,λi H x H'=>∃t kv,kvs[i]?=some kv/\H t=none/\x= .ref t/\H'=upd H t (.tup [kV kv.1,kv.2]),λi H=>H d=some (.frz o (.dK kvs))/\kvs.length<=i⟩
def xq {K:Za}{tg:Expr}{d:Addr}{o:Obj}{kvs:List (i6×V)}{vs:List (i6×Value)}{ep:Nat}(D:xX P w d o kvs vs ep)(it:Addr):
  fQ P w K tg (JA d o kvs λkv=>kV kv.1) [it] it (λi h=>h.IsKeyIter it d i vs.length ep) where
 mem:=by simp
 obj:=λi h st b hb=>by
  have e:b=it:=by simpa using hb
  subst e;obtain⟨o,e,c,dd⟩:=st;exact⟨o,e,λv z=>by rw[dd] at z;cases z⟩
 keep:=λi h h' st k=>st.at λo e=>k it (by simp) o e
 item:=by
  intro X hP hw hK hc i pins s σ H E I hf st hg;subst hP hw hK;obtain⟨M_,hi⟩:=hg;obtain⟨f0,f1,f2,f3,f4,f5⟩:=hf it (by simp);have dat:=D.at_ s.heap (I.hok d _ M_).1;have hl:=KV.length D.kv;obtain⟨kv,h_⟩:∃kv,kvs[i]?=some kv:=⟨kvs[i],by simp [hi]⟩
  obtain⟨⟨k,x⟩,hx⟩:∃p,vs[i]?=some p:=⟨vs[i]'(by lia),by simp [show i<vs.length by lia]⟩
  have RV:kv.1=k:=by
   have e1:(kvs.map (·.1))[i]?=some kv.1:=by rw[LF,h_];rfl
   rw[KV.keys D.kv,LF,hx] at e1;exact(Mc e1).symm
  refine wpAny_pyNext_dict_item st dat hx λkey h' j_ E_ hs'=>?_;have I1:Inv X pins σ H {s with heap:=h'}:=I.turned (t':=s.toks) (λb o hb e=>hs'.extBut b o hb e) f0 f1 f3 f4 f5;exact⟨key,rfl,vB (Ae j_) ⟨kV kv.1,H,I1,by rw[RV];exact fV j_,⟨rfl,kv,h_,rfl⟩,E_,λb hb=>(hf b hb).1⟩⟩
 done:=by
  intro X hP hw hK hc i pins s σ H E I hf st hg;subst hP hw hK;obtain⟨M_,hi⟩:=hg;obtain⟨f0,f1,f2,f3,f4,f5⟩:=hf it (by simp);have dat:=D.at_ s.heap (I.hok d _ M_).1;have hl:=KV.length D.kv;exact wpAny_pyNext_dict_end (I.ok.hd hc) st dat (by simp;lia) λh' eb=>⟨rfl,I.turned (t':=s.toks) (λb o hb e=>eb b o hb e) f0 f1 f3 f4 f5⟩
 self:=λ_ _ _ _ _ st h=>wpAny_pyIter_keyiter st h
def uB {K:Za}{elts:List Expr}{x1}{n_:Pos}{d:Addr}{o:Obj}{kvs:List (i6×V)}{vs:List (i6×Value)}{ep:Nat}(D:xX P w d o kvs vs ep)(it:Addr):
  fQ P w K (.Tuple elts x1 n_) (Ht d o kvs) [it] it (λi h=>∃ok ov,IsItemIter h it d i vs.length ep ok ov) where
 mem:=by simp
 obj:=λi h st b hb=>by
  have e:b=it:=by simpa using hb
  subst e;obtain⟨ok,ov,e⟩:=st;exact⟨_,e,λv z=>by
   have z':Data.fields _=Data.cell v:=z;cases z'⟩
 keep:=λi h h' st k=>let ⟨ok,ov,e⟩:=st;⟨ok,ov,k it (by simp) _ e⟩
 item:=by
  intro X hP hw hK hc i pins s σ H E I hf st hg;subst hP hw hK;obtain⟨M_,hi⟩:=hg;obtain⟨ok,ov,st⟩:=st;obtain⟨f0,f1,f2,f3,f4,f5⟩:=hf it (by simp);have dat:=D.at_ s.heap (I.hok d _ M_).1;have hl:=KV.length D.kv;obtain⟨kv,h_⟩:∃kv,kvs[i]?=some kv:=⟨kvs[i],by simp [hi]⟩
  obtain⟨⟨k,x⟩,hx⟩:∃p,vs[i]?=some p:=⟨vs[i]'(by lia),by simp [show i<vs.length by lia]⟩
  obtain⟨RV,rx⟩:kv.1=k/\RelV kv.2 x:=by
   have q:=B5 D.kv h_;obtain⟨p,hp,r⟩:=q;rw[hx] at hp;cases hp;exact r
  refine wpAny_pyNext_items_item st dat hx λkey h' j_ Tu htup hsz hk=>?_;have UG:it<s.heap.objs.size:=LU st;refine⟨.ref s.heap.objs.size,rfl,wpAny_letOwnedTupleGo_items (s:={s with heap:=h'}) Tu λF' hit'' hs''=>?_⟩;have SK:Heap.SameBut it h' F':=hs'';have kp:∀b o,b≠it->s.heap.get? b=some o->F'.get? b=some o:=λb o hb e=>SK.extBut b o hb (hk b o hb e);have QV:F'.get? s.heap.objs.size=some {cls:= .type "tuple",data:= .seq #[key,x]}:=SK.extBut _ _ (Qp UG) htup;have fresh:H s.heap.objs.size=none:=I.hok.fresh (LC _);have YI:∀b o,s.heap.get? b=some o->b≠s.heap.objs.size:=λb o e=>Mf (LU e);have hH:∀b u,H b=some u->b≠s.heap.objs.size/\b≠it:=λb u e=>⟨d9 e fresh,d9 e f0⟩
  have hok:HOk X.prog X.w (upd H s.heap.objs.size (.tup [kV kv.1,kv.2])) F':=λb u e=>by
   by_cases hb:b=s.heap.objs.size
   .subst hb;rw[d8] at e;cases e;refine⟨by show 2<=sizeLine;decide,[key,x],.cons (by rw[RV];exact fV j_) (.cons rx .nil),⟨_,QV,rfl,_,rfl⟩⟩
   .rw[b7 hb] at e;refine(I.hok b u e).stay (λc v hc q=>kp c v ?_ q) (λc q=>by rw[b7 (hH c _ q).1];exact q) λc xs q=>by rw[b7 (hH c _ q).1];exact q
    rcases hc with z|z
    .rw[z];exact(hH b _ e).2
    .exact(hH c _ z).2
  have I1:Inv X pins σ (upd H s.heap.objs.size (.tup [kV kv.1,kv.2])) {s with heap:=F'}:=by
   refine I.call' (s':={s with heap:=F'}) (ch:=[it]) rfl ⟨λb o e n hb hx=>kp b o (by simpa using hx) e,λb o e n hb hx=>⟨o.slots,kp b o (by simpa using hx) e⟩,λb o e n hx=>by rw[b7 (YI b o e)];exact n,
    λb o e hx=>⟨o,kp b o (by simpa using hx) e⟩,λb xs e=>by rw[b7 (hH b _ e).1];exact e,λb ob v e=>by rw[b7 (hH b _ e).1];exact e,λb ps e=>⟨#[],by rw[b7 (hH b _ e).1];simpa using e⟩⟩ hok I.bare λb hb=>?_
   have e:b=it:=by simpa using hb
   subst e;exact⟨f3,f1,f4,f5⟩
  refine⟨.ref s.heap.objs.size,_,I1,rfl,⟨_,kv,h_,fresh,rfl,rfl⟩,⟨_,_,hit''⟩,λb hb=>?_⟩;have e:b=it:=by simpa using hb
  subst e;rw[b7 (Mf UG)];exact f0
 done:=by
  intro X hP hw hK hc i pins s σ H E I hf st hg;subst hP hw hK;obtain⟨M_,hi⟩:=hg;obtain⟨ok,ov,st⟩:=st;obtain⟨f0,f1,f2,f3,f4,f5⟩:=hf it (by simp);have dat:=D.at_ s.heap (I.hok d _ M_).1;have hl:=KV.length D.kv;exact wpAny_pyNext_items_end (I.ok.hd hc) st dat (by simp;lia) λh' eb=>⟨rfl,I.turned (t':=s.toks) (λb o hb e=>eb b o hb e) f0 f1 f3 f4 f5⟩
 self:=λ_ _ _ _ _ st h=>by
  obtain⟨ok,ov,st⟩:=st;exact PySem.W.kcp_self st h
end
section
variable {X:Cx} {tg:Expr}
def rIterD (mk:Addr->Obj->List (i6×V)->It)(v:V)(H:Hp)(R:It->(Hp->Hp)->Hp->Prop):Prop:=
 ∃d kvs,v= .ref d/\((H d=some (.dK kvs)/\((kvs.map (·.1)).Nodup->∀o,R (mk d o kvs) (thaw d) (E6 d o kvs H)))\/(∃o,H d=some (.frz o (.dK kvs))/\((kvs.map (·.1)).Nodup->R (mk d o kvs) id H)))
def rIterD.go {mk:Addr->Obj->List (i6×V)->It}{x:V}{u:Value}{pins:List (Addr×Obj)}{σ:St}{H:Hp}{s:Shared}{R:It->(Hp->Hp)->Hp->Prop}(I:Inv X pins σ H s)(r:RelV x u)(h:rIterD mk x H R):
  ∃d kvs o vs ep th H',u= .ref d/\(d==sysModules)=false/\s.heap.get? d=some o/\xX X.prog X.w d o kvs vs ep/\Inv X pins σ H' s/\CA X th/\R (mk d o kvs) th H':=by
 obtain⟨d,kvs,e,h⟩:=h
 subst e
 cases r
 rcases h with⟨h,q⟩|⟨o,h,q⟩
 .obtain⟨hd,o,vs,ep,ho,D⟩:=dE I.hok (.inl h)
  refine⟨d,kvs,o,vs,ep,thaw d,_,rfl,hd,ho,D,I.freeze h ho,xD λob v z=>?_,q D.nd o⟩
  have z':=I.base.frzs d ob v z
  rw[h] at z';cases z'
 .obtain⟨hd,o',vs,ep,ho,D⟩:=dE I.hok (.inr ⟨o,h⟩)
  have e:=(I.hok d _ h).1
  rw[ho] at e;cases e
  exact⟨d,kvs,_,vs,ep,id,H,rfl,hd,ho,D,I,gd,q D.nd⟩
def rIter.mono {K:Za}{v:V}{H:Hp}{R R':It->Hp->Prop}(h:rIter K v H R)(k:∀J H,R J H->R' J H):rIter K v H R':=by
 rcases h with⟨a,e,hq,q⟩|⟨a,e,hq,q⟩|⟨x,e,q⟩
 .exact .inl ⟨a,e,hq,k _ _ q⟩
 .exact .inr (.inl ⟨a,e,hq,k _ _ q⟩)
 .exact .inr (.inr ⟨x,e,k _ _ q⟩)
abbrev KY (d:Addr)(o:Obj)(kvs:List (i6×V)):It:=JA d o kvs λkv=>kV kv.1
def Dj (K:Za)(v:V)(H:Hp)(R:It->(Hp->Hp)->Hp->Prop):Prop:=rIter K v H (λJ H'=>R J id H')\/rIterD KY v H R
def Jv (K:Za)(tl:TE):qm:=λσ H R=>tl σ H λv H1=>Dj K v H1 R
def Il {l:Expr}{tl:TE}(hl:PE X l tl):zW X tg l (Jv X.K tl):=by
 intro pins s σ H R I h;refine J0 (hl pins s σ H _ I h) λv s1 ⟨x,H1,I1,r1,q1⟩=>?_;rcases q1 with q1|q1
 .exact Bp I1 r1 (q1.mono λJ H' q=>⟨id,gd,q⟩)
 .obtain⟨d,kvs,o,vs,ep,th,H',rfl,hd,ho,D,I2,RP,q⟩:=rIterD.go I1 r1 q1;refine Pt hd (D.at_ _ ho) ?_;refine⟨s1.heap.objs.size,[s1.heap.objs.size],_,_,H',rfl,I2.kept (t':=s1.toks) λb o e=>LL _ e,xq D _,⟨_,Md _ rfl,rfl,rfl⟩,λb hb=>?_,th,RP,q⟩;have e:b=s1.heap.objs.size:=by simpa using hb
  subst e;exact I2.fpOk (LC _) (I2.hok.fresh (LC _))
def sQ (tl:TE):qm:=λσ H R=>tl σ H λv H1=>rIterD Ht v H1 R
def yJ {elts:List Expr}{x1}{n_:Pos}{o:Expr}{tl:TE}{apos b_:Pos}(ho:PE X o tl)
  (f_:attributeBase o "items" X.env (eval o X.env)=eval o X.env:=by rfl) (g_:(apos.endLine==b_.line)=true:=by rfl):
  zW X (.Tuple elts x1 n_) (.Call (.Attribute o "items" apos) [] [] b_) (sQ tl):=by
 intro pins s σ H R I h
 refine Pa f_ g_ (J0 (ho pins s σ H _ I h) λv s1 ⟨x,H1,I1,r1,q1⟩=>?_)
 obtain⟨d,kvs,ob,vs,ep,th,H',rfl,hd,Rt,D,I2,RP,q⟩:=rIterD.go I1 r1 q1
 have Uj:=(D.at_ _ Rt).dictOf
 refine⟨"dict","dict.items",F.plainAttrs_dict,F.slot_dict_items,F.type_dict_items,Uj.typeIs,Uj.mapOf.noDict,Nx rfl (Qe ?_)⟩
 refine Nl F.slot_dict_items Uj.typeIs F.entry_dict_items (F.args_dict_items_1 _) (meets_dict_items (j7 X.prog X.w) d hd) ⟨⟨vs,Uj⟩,?_⟩
 have I3:Inv X pins σ H' {s1 with heap:=s1.heap.push {cls:= .type "dict_items",data:= .fields #[.ref d]}}:=I2.kept (t':=s1.toks) λb o e=>LL _ e
 refine wpAny_pyIter_items (s:={s1 with heap:=s1.heap.push {cls:= .type "dict_items",data:= .fields #[.ref d]}}) (knd:=j7 X.prog X.w) ⟨_,Md _ rfl,rfl,rfl⟩ (D.at_ _ (LL _ Rt)) ?_
 generalize hG:s1.heap.push {cls:= .type "dict_items",data:= .fields #[.ref d]}=G at I3⊢
 refine⟨G.objs.size,[G.objs.size],_,_,H',rfl,I3.kept (t':=s1.toks) λb o e=>LL _ e,uB D _,⟨.none,.none,Md _ rfl⟩,λb hb=>?_,th,RP,q⟩
 have e:b=G.objs.size:=by simpa using hb
 subst e
 exact I3.fpOk (LC _) (I3.hok.fresh (LC _))
end
section
variable {J:It} {th:Hp->Hp} {n:Nat} {g:TG} {tb:TS} {nx bk ct:St->Hp->Prop} {rt:VK} {σ:St} {H:Hp} {own:List Str} {js:List Nat} {ti:TT} {te:TE} {Q:VK} {K:Za}
def Bk (Pv:Nat->St->Hp->Prop)(h0:Pv 0 σ H)(R_:∀i σ H,i<n->Pv i σ H->J.go i H)
  (hs:∀i x σ H H',i<n->Pv i σ H->J.yld i H x H'->g x σ H' λσ2 H2=>tb ⟨Pv (i+1),λv H=>rt v (th H),λσ H=>nx σ (th H),Pv (i+1)⟩ σ2 H2)
  (hd:∀σ H,Pv n σ H->J.stop n H/\nx σ (th H)):
  xI J th g tb nx rt σ H:=by
 refine⟨λi m σ H=>m=n -i/\i<=n/\Pv i σ H,⟨n,by simp,Nd _,h0⟩,?_⟩
 rintro i m σ H ⟨rfl,hi,p⟩
 by_cases j':i<n
 .exact .inr ⟨R_ i σ H j' p,Pv (i+1),λσ' H' p'=>⟨n -(i+1),by lia,rfl,j',p'⟩,λx H' y=>hs i x σ H H' j' p y⟩
 .have e:i=n:=by lia
  subst e
  exact .inl (hd σ H p)
def j9 (Pv:Nat->List V->Hp->Prop)(h0:Pv 0 [] H)(R_:∀i out H,i<n->Pv i out H->J.go i H)
  (hs:∀(N:List V->Hp->Prop) i x out H H',i<n->Pv i out H->J.yld i H x H'->(∀Tv H',Pv (i+1) Tv H'->N Tv H')->g x (BA own js σ) H' λσ2 H2=>σ2.drop own.length=js.map (λj=>(σ[j]?).join)/\ti σ2 H2 λb H3=>
   if b=true then te σ2 H3 λv H4=>out.length<=sizeLine/\N (out++[v]) H4 else N out H3)
  (hd:∀out H,Pv n out H->J.stop n H/\∀D,H D=none->out.length<=sizeLine/\Q (.ref D) (th (upd H D (.lst out)))):
  yQ own js J th g ti te Q σ H:=by
 refine⟨λi m out H=>m=n -i/\i<=n/\Pv i out H,⟨n,by simp,Nd _,h0⟩,?_⟩
 rintro i m out H ⟨rfl,hi,p⟩
 by_cases j':i<n
 .exact .inr ⟨R_ i out H j' p,λx H' y=>hs (λTv H'=>∃m',m'<n -i/\m'=n -(i+1)/\i+1<=n/\Pv (i+1) Tv H') i x out H H' j' p y λTv H' q=>⟨n -(i+1),by lia,rfl,j',q⟩⟩
 .have e:i=n:=by lia
  subst e
  exact .inl (hd out H p)
def Hd {wi:qm}(q:wi σ H λJ th H1=>xI J th g tb nx rt σ H1):yS wi g tb ⟨nx,rt,bk,ct⟩ σ H:=q
def Fu {wi:qm}(q:wi σ H λJ th H1=>yQ own js J th g ti te Q σ H1):kP own js wi g ti te σ H Q:=q
def Jg {Qb:Bool->Hp->Prop}(q:Qb true H):FU σ H Qb:=q
def Kj {tl:TE}{R:It->(Hp->Hp)->Hp->Prop}(q:tl σ H λv H1=>Dj K v H1 R):Jv K tl σ H R:=q
def yP {x:Str}{R:It->(Hp->Hp)->Hp->Prop}(q:R (Its x) id H):Dj K (.str x) H R:= .inl (.inr (.inr ⟨x,rfl,q⟩))
def k8 {a:Addr}{xs:List V}{R:It->(Hp->Hp)->Hp->Prop}(h:SqL K H a xs)(q:R (Itl K a) id H):Dj K (.ref a) H R:= .inl (.inl ⟨a,rfl,⟨xs,h⟩,q⟩)
def Ck {tl:TE}{R:It->(Hp->Hp)->Hp->Prop}(q:tl σ H λv H1=>rIterD Ht v H1 R):sQ tl σ H R:=q
def E5 {d:Addr}{kvs:List (i6×V)}{R:It->(Hp->Hp)->Hp->Prop}(h:H d=some (.dK kvs))(q:(kvs.map (·.1)).Nodup->∀o,R (Ht d o kvs) (thaw d) (E6 d o kvs H)):rIterD Ht (.ref d) H R:=⟨d,kvs,rfl,.inl ⟨h,q⟩⟩
def Ee {ta:TA}{R:It->Hp->Prop}(q:ta σ H λvs H1=>∃j:Int,vs=[.int j]/\-(2 ^ 62)<=j/\j<2 ^ 62/\R (Jr 0 j.toNat) H1):Aa ta σ H R:=q
def Z8 {i:Int}{R:Int->Prop}(h0:0<=i)(h1:i<1000000)(q:R i):∃j:Int,[V.int i]=[.int j]/\-(2 ^ 62)<=j/\j<2 ^ 62/\R j:=⟨i,rfl,by lia,by lia,q⟩
def M4 {p:Prop}[Decidable p]{A B:Prop}(h1:p->A)(h2:¬p->B):if decide p=true then A else B:=by grind
def dy {p:Prop}[Decidable p]{A B:Prop}(h1:¬p->A)(h2:p->B):if(!decide p)=true then A else B:=by grind
def Q0 {b:Bool}{A B:Prop}(h1:b=true->A)(h2:b=false->B):if b=true then A else B:=by grind
def hJ {b:Bool}{A B:Prop}(h1:b=false->A)(h2:b=true->B):if(!b)=true then A else B:=by grind
def Hc {A B:Prop}(h:A):if(!false)=true then A else B:=by rw[if_pos (by rfl)];exact h
def Hv {A B:Prop}(h:B):if(!true)=true then A else B:=by rw[if_neg (by decide)];exact h
def DF {t u:TS}(P:St->Hp->Prop)(h1:∀σ H,P σ H->u ⟨nx,rt,bk,ct⟩ σ H)(h2:∀nx':St->Hp->Prop,(∀σ H,P σ H->nx' σ H)->t ⟨nx',rt,bk,ct⟩ σ H):xV t u ⟨nx,rt,bk,ct⟩ σ H:=h2 _ h1
def b0 {o:HO}{p:Addr}(hp:H p=none):∃H',upd H p o=H'/\H' p=some o/\Same H H'/\∀b,b≠p->H' b=H b:=⟨_,rfl,d8,λb u e=>by rw[b7 (d9 e hp)];exact e,λb hb=>b7 hb⟩
def uz {α:Type}{xs:List α}{i:Int}(h0:0<=i)(h1:i<xs.length):∃v,mO xs i=some v/\xs[i.toNat]?=some v:=by
 obtain⟨j,rfl⟩:=Int.eq_ofNat_of_zero_le h0;have hj:j<xs.length:=by lia
 exact⟨xs[j],i9 (by simp [hj]),by simp [hj]⟩
def K4 (x y:Str):(x++y).length=x.length+y.length:=by
 show(x.cps++y.cps).size=_;simp [Str.length]
def A6 (c:Nat):(⟨#[c]⟩:Str).length=1:=rfl
def qi (x:Str):x.length=x.cps.toList.length:=by simp [Str.length]
def b5 {n:Nat}(h:n<=1000):n<=sizeLine:=Mb h (by decide)
def Same.rd {H H':Hp}{a:Addr}{u:HO}(s:Same H H')(h:Rd H a u):Rd H' a u:=by
 rcases h with h|⟨o,h⟩
 .exact .inl (s _ _ h)
 .exact .inr ⟨o,s _ _ h⟩
def Same.tup {H H':Hp}{a:Addr}{xs:List V}(s:Same H H')(h:SqT K H a xs):SqT K H' a xs:=by
 rcases h with h|h
 .exact .inl (s.rd h)
 .exact .inr h
def TyB.mono {H H':Hp}{v:V}{t:String}(h:TyB K H v t)(s:Same H H'):TyB K H' v t:=by
 cases v with
 |ref a=>
  rcases h with⟨e,xs,h⟩|⟨e,xs,h⟩|⟨e,kvs,h⟩
  .exact .inl ⟨e,xs,s.seq h⟩
  .exact .inr (.inl ⟨e,xs,s.tup h⟩)
  .exact .inr (.inr ⟨e,kvs,s.rd h⟩)
 |_=>exact h
def Its.lt {x:Str}{i:Nat}{H H':Hp}{v:V}(h:(Its x).yld i H v H'):H'=H/\∃c,x.cps.toList[i]?=some c/\v=CM c:=by
 obtain⟨e,c,hc,hv⟩:=h;exact⟨e,c,by simpa using hc,hv⟩
def Itl.get {a:Addr}{xs:List V}{i:Nat}{H H':Hp}{v:V}(h:(Itl K a).yld i H v H')(hx:SqL K H a xs):H'=H/\xs[i]?=some v:=⟨h.1,h.2 xs hx⟩
def A1 {α β:Type}{l:List α}{i:Nat}{a:α}(f:α->β)(h:l[i]?=some a):(l.take i).map f++[f a]=(l.take (i+1)).map f:=by
 rw[Mt,h];simp
end
section
variable {X:Cx} (K:Za) {a e:Expr} {ta te:TE} {tg:Expr} {pos:Pos}
def B4 (h:X.K=K:=by rfl):OpR X (binaryOp .Add) (qX K):=h▸BS
def kIn (hu:X.A.units+1<cLine)(h:X.K=K:=by rfl):OpR X (compareOp .In) (wo K):=h▸DV hu
def ao (hu:X.A.units+1<cLine)(h:X.K=K:=by rfl):OpR X (compareOp .NotIn) (jG K):=h▸xi hu
def u9 (hu:X.A.units+1<cLine)(h:X.K=K:=by rfl):IxR X (mI K):=h▸FP hu
def iH (h:X.K=K:=by rfl):SlR X (Jn K):=h▸ET
def xa (hc:X.calm=true)(h:X.K=K:=by rfl):CallR X (.builtin "all") (wG K):=h▸xp hc
def JV (hc:X.calm=true)(h:X.K=K:=by rfl):CallR X (.builtin "any") (Hs K):=h▸xf hc
def Gg (ta:TE):TT:=λσ H Q=>ta σ H λx H'=>∃k,zr K x H' k/\Q k H'
def Kl (ha:PE X a ta)(h:X.K=K:=by rfl)(he:∀whole,isTrue a X.env whole=(do let v←whole;standAt a.pos;holding [v] (truthy v)):=by intro _;rfl):PT X a (Gg K ta):=h▸zP ha he
def FZ {σ:St}{H:Hp}{Qb:Bool->Hp->Prop}(q:ta σ H λx H'=>∃k,zr K x H' k/\Qb k H'):Gg K ta σ H Qb:=q
def Ll (hl:PE X a ta)(h:X.K=K:=by rfl):zW X tg a (Jv K ta):=h▸Il hl
def Ka {es:List Expr}{k:Nat}{t:ue}{n:Nat}(hc:X.calm=true)(hg:CY X es t)(h:X.K=K:=by rfl)
  (hn:(assignEach es X.env).length=n:=by rfl) (Tp:(assignEach es X.env).findIdx? (·.1)=none:=by rfl):PG X (.Tuple es k pos) (zL K n t):=h▸Gq hc hg hn Tp
end
def z8:Expr->Bool
 | .Starred _ _=>false
 |_=>true
def A4 (es:List Expr):Bool:=es.all z8
def Q7 {e:Expr}{es:List Expr}{env:Env}(h:z8 e=true):starEach (e::es) env=(false,eval e env)::starEach es env:=by
 cases e<;>first|rfl|cases h
theorem cx {env:Env}{pos:Pos}:∀{es:List Expr},A4 es=true->(backTo pos (starEach es env)).any (·.1)=false
 |[],_=>rfl
 |e::es,h=>by
  have h':(z8 e&&A4 es)=true:=h;rw[Mp] at h';rw[Q7 h'.1];show(false||(backTo pos (starEach es env)).any (·.1))=false;rw[cx h'.2];rfl
def uT {e:Expr}{es:List Expr}{env:Env}(h:z8 e=true):assignEach (e::es) env=(false,assign e env)::assignEach es env:=by
 cases e<;>first|rfl|cases h
theorem zS {env:Env}:∀{es:List Expr},A4 es=true->(assignEach es env).length=es.length
 |[],_=>rfl
 |e::es,h=>by
  have h':(z8 e&&A4 es)=true:=h;rw[Mp] at h';rw[uT h'.1,Mi,zS h'.2,Mi]
theorem Bl {env:Env}:∀{es:List Expr},A4 es=true->(assignEach es env).findIdx? (·.1)=none
 |[],_=>rfl
 |e::es,h=>by
  have h':(z8 e&&A4 es)=true:=h;rw[Mp] at h';rw[uT h'.1,List.findIdx?_cons];simp [Bl h'.2]
section
variable {X:Cx} {K:Za} {e:Expr} {es:List Expr} {te:TE} {t:TA} {x:Str} {p pos:Pos} {id T:String} {r:List V->Hp->VK->Prop}
def KS (ha:PE X e te)(hr:PA X es t)(h:z8 e=true:=by rfl):PA X (e::es) (vU te t):=CC ha hr (Q7 h)
def cB (hc:CallR X (.builtin id) r)(hm:X.mg x=none)(hv:bootBuiltins x=some (.builtin id))(ha:PA X (e::es) t)(hg:Gl X x:=by rfl)(hn:x≠"__name__":=by decide)(t_:(x==("__debug__":Str))=false:=by decide)
  (h:A4 (e::es)=true:=by rfl):PE X (.Call (.Name x p) (e::es) [] pos) (EE r t):=by
 have h':(z8 e&&A4 es)=true:=h
 rw[Mp] at h'
 exact zQ hc hg hm hv ha hn t_ (Q7 h'.1) (cx h'.2)
def Lm (hc:CallR X (.type T) r)(hm:X.mg x=none)(hv:bootBuiltins x=some (.type T))(ha:PA X (e::es) t)(hg:Gl X x:=by rfl)(hn:x≠"__name__":=by decide)(t_:(x==("__debug__":Str))=false:=by decide)
  (h:A4 (e::es)=true:=by rfl):PE X (.Call (.Name x p) (e::es) [] pos) (EE r t):=by
 have h':(z8 e&&A4 es)=true:=h
 rw[Mp] at h'
 exact xb hc hg hm hv ha hn t_ (Q7 h'.1) (cx h'.2)
def cC {CX:qo}{k:Nat}{ps:List Str}{m_:List V}{sp:Sp}{E:XK}(C:K3 X.prog X.w X.K X.mg X.base CX k x ps m_ sp)(hr:Room k X.A)(hx:cF CX X E)(ha:PA X (e::es) t)(hg:Gl X x:=by rfl)
  (t_:(x==("__debug__":Str))=false:=by decide) (h:A4 (e::es)=true:=by rfl):PE X (.Call (.Name x p) (e::es) [] pos) (rS sp m_ E t):=by
 have h':(z8 e&&A4 es)=true:=h
 rw[Mp] at h'
 exact zD C hr hx ha hg t_ (Q7 h'.1) (cx h'.2)
def gT {tg:Expr}{k:Nat}{u:ue}(hc:X.calm=true)(hg:CY X es u)(hK:X.K=K:=by rfl)(h:A4 es=true:=by rfl):PG X (.Tuple es k pos) (zL K es.length u):=Ka K hc hg hK (zS h) (Bl h)
def gC {g:TG}{u:ue}(h1:PG X e g)(h2:CY X es u)(h:z8 e=true:=by rfl):CY X (e::es) (vM g u):=Be h1 h2 (by rw[uT h];rfl)
end
structure QE (X:Cx) (e:Expr) (t:TE):Prop where
 r:PE X e t
structure QT (X:Cx) (e:Expr) (t:TT):Prop where
 r:PT X e t
structure QW (X:Cx) (e:Expr) (t:TT):Prop where
 r:PW X e t
structure QA (X:Cx) (es:List Expr) (t:TA):Prop where
 r:PA X es t
structure QS (X:Cx) (st:Stmt) (t:TS):Prop where
 r:PS X st t
structure QSs (X:Cx) (st:List Stmt) (t:TS):Prop where
 r:PSs X st t
structure QG (X:Cx) (tg:Expr) (t:TG):Prop where
 r:PG X tg t
structure Js (X:Cx) (tg:List Expr) (t:ue):Prop where
 r:CY X tg t
structure QI (X:Cx) (tg iter:Expr) (t:qm):Prop where
 r:zW X tg iter t
structure Jz (X:Cx) (ifs:List Expr) (t:TT):Prop where
 r:tI X ifs t
structure QO (X:Cx) (e:Option Expr) (t:TO):Prop where
 r:PO X e t
structure QP (X:Cx) (pos:Pos) (keys:List (Option Expr)) (values:List Expr) (Yx:List (TE×TE)):Prop where
 r:KO X pos keys values Yx
section
variable {X:Cx} {a b c e o:Expr} {es:List Expr} {ta tb tc te to:TE} {tA Ug:TT} {t:TA} {Z3:List Expr} {pos apos b_ p2:Pos} {x:Str} {p:Pos} {UH T:String}
def ip {j}:QE X (.Constant .none j pos) (tC .non):=⟨Fw⟩
def pU {b:Bool}{j}:QE X (.Constant (.bool b) j pos) (tC (.bl b)):=⟨IZ⟩
def d6 {i:Int}{j}:QE X (.Constant (.int i) j pos) (tC (.int i)):=⟨Ez⟩
def fI {x:Str}{j}:QE X (.Constant (.str x) j pos) (tC (.str x)):=⟨FW⟩
def qV (i:Nat)(hN:X.N[i]?=some x:=by rfl)(hv:Kv X.env.scope x:=by first|exact Or.inl rfl|exact Or.inr (Or.inl rfl)|exact Or.inr (Or.inr rfl))(hd:(x==("__debug__":Str))=false:=by decide)
  (G':(x==("__classdict__":Str))=false:=by decide):QE X (.Name x pos) (BL i):=⟨Gj hN hv hd G'⟩
def Kr {v:V}(h:Ha X.mg x v)(hg:Gl X x:=by rfl)(hd:(x==("__debug__":Str))=false:=by decide):QE X (.Name x pos) (tC v):=⟨EV h hg hd⟩
def Jt (n:String)(hm:X.mg x=none)(hv:bootBuiltins x=some (.type n))(hg:Gl X x:=by rfl)(hn:x≠"__name__":=by decide)(hd:(x==("__debug__":Str))=false:=by decide):QE X (.Name x pos) (tC (.ty n)):=⟨CS hg hm hv rfl hn hd⟩
def A5 {op:Operator}{r:R2}(ho:OpR X (binaryOp op) r)(ha:QE X a ta)(hb:QE X b tb):QE X (.BinOp a op b pos) (CO r ta tb):=⟨Ja ho ha.r hb.r⟩
def JE {op:UnaryOp}{r:V->Hp->VK->Prop}(ho:Jx X (unaryOp op) r)(ha:QE X a ta):QE X (.UnaryOp op a pos) (JM r ta):=⟨Hg ho ha.r⟩
def JG (ha:QE X a ta):QE X (.UnaryOp .Not a pos) (By ta):=⟨EZ ha.r⟩
def Dg {op}(h:QE X a ta):QE X (.BoolOp op [a] pos) ta:=⟨EX h.r⟩
def EH (ha:QE X a ta)(hb:QE X (.BoolOp .And (b::Z3) pos) tb):QE X (.BoolOp .And (a::b::Z3) pos) (yO ta tb):=⟨DY ha.r hb.r⟩
def KU (ha:QE X a ta)(hb:QE X (.BoolOp .Or (b::Z3) pos) tb):QE X (.BoolOp .Or (a::b::Z3) pos) (EA ta tb):=⟨GS ha.r hb.r⟩
def fw {op:CmpOp}{r:R2}(ho:OpR X (compareOp op) r)(ha:QE X a ta)(hb:QE X b tb)(hm:behindInMarks op b=false):QE X (.Compare a [op] [b] pos) (CO r ta tb):=⟨Cg ho ha.r hb.r hm⟩
def z0 {op:CmpOp}{r:R2}(ho:OpR X (compareOp op) r)(ha:QE X a ta)(hb:QE X b tb)(hm:behindInMarks op b=false):QT X (.Compare a [op] [b] pos) (zY (CO r ta tb)):=⟨CI ho ha.r hb.r hm⟩
def He (hc:QT X c tA)(ha:QE X a ta)(hb:QE X b tb):QE X (.IfExp c a b pos) (Ks tA ta tb):=⟨zZ hc.r ha.r hb.r⟩
def nz:QO X none oY:=⟨BU⟩
def dQ (h:QE X e te):QO X (some e) (Av te):=⟨BQ h.r⟩
def iQ {lo hi:Option Expr}{tl th:TO}{r:V->Option Int->Option Int->Hp->VK->Prop}(hr:SlR X r)(he:QE X e te)(hl:QO X lo tl)(hu:QO X hi th):QE X (.Subscript e (.Slice lo hi none p2) pos) (Kx r te tl th):=⟨yA hr he.r hl.r hu.r⟩
def r6 {r:R2}(hr:IxR X r)(ha:QE X a ta)(hb:QE X b tb)(hs:ve b):QE X (.Subscript a b pos) (CO r ta tb):=⟨Ij hr ha.r hb.r hs⟩
def aq (h:QA X es t):QE X (.List es pos) (Eo t):=⟨Fh h.r⟩
def U7 {x1}(h:QA X es t):QE X (.Tuple es x1 pos) (Gi t):=⟨Ed h.r⟩
def Aw:QE X (.Dict [] [] pos) zN:=⟨Ai⟩
def j0:QA X [] uD:=⟨Ep⟩
def c0 (ha:QE X e te)(hr:QA X es t)(h:z8 e=true:=by rfl):QA X (e::es) (vU te t):=⟨KS ha.r hr.r h⟩
def qB {r:List V->Hp->VK->Prop}(hc:CallR X (.builtin UH) r)(hm:X.mg x=none)(hv:bootBuiltins x=some (.builtin UH))(ha:QA X (e::es) t)(hg:Gl X x:=by rfl)(hn:x≠"__name__":=by decide)(t_:(x==("__debug__":Str))=false:=by decide)
  (h:A4 (e::es)=true:=by rfl):QE X (.Call (.Name x p) (e::es) [] pos) (EE r t):=⟨cB hc hm hv ha.r hg hn t_ h⟩
def ni {r:List V->Hp->VK->Prop}(hc:CallR X (.type T) r)(hm:X.mg x=none)(hv:bootBuiltins x=some (.type T))(ha:QA X (e::es) t)(hg:Gl X x:=by rfl)(hn:x≠"__name__":=by decide)(t_:(x==("__debug__":Str))=false:=by decide)
  (h:A4 (e::es)=true:=by rfl):QE X (.Call (.Name x p) (e::es) [] pos) (EE r t):=⟨Lm hc hm hv ha.r hg hn t_ h⟩
def qC {CX:qo}{k:Nat}{ps:List Str}{m_:List V}{sp:Sp}{E:XK}(C:K3 X.prog X.w X.K X.mg X.base CX k x ps m_ sp)(hr:Room k X.A)(hx:cF CX X E)(ha:QA X (e::es) t)(hg:Gl X x:=by rfl)
  (t_:(x==("__debug__":Str))=false:=by decide) (h:A4 (e::es)=true:=by rfl):QE X (.Call (.Name x p) (e::es) [] pos) (rS sp m_ E t):=⟨cC C hr hx ha.r hg t_ h⟩
def qM {name:Str}{r:V->List V->Hp->VK->Prop}(pa:PlainAttrs T)(slot:Slot T name UH)(Uh:typeOf (.builtin UH)=pure (.type "method_descriptor"))(hm:Bs X UH r)(K:Za)(ho:QE X o to)(ha:QA X (e::es) t)(hK:X.K=K:=by rfl)
  (f_:attributeBase o name X.env (eval o X.env)=eval o X.env:=by rfl)
  (h:A4 (e::es)=true:=by rfl) (h2:decide ((e::es).length<30)=true:=by rfl) (g_:(apos.endLine==b_.line)=true:=by rfl):QE X (.Call (.Attribute o name apos) (e::es) [] b_) (Kz K T r to t):=by
 have h':(z8 e&&A4 es)=true:=h
 rw[Mp] at h'
 have o_:∀{l:List Expr},A4 l=true->(backTo b_ (starEach l X.env)).all (λx=>!x.1)=true:=fun{l} hl=>by
  have q:=cx (env:=X.env) (pos:=b_) hl;rw[Mq];intro y hy;rw[SR] at q;simpa using q y hy
 subst hK
 refine⟨GO pa slot Uh hm ho.r ha.r f_ ?_ g_ (Q7 h'.1) (cx h'.2)⟩
 rw[o_ h]
 show(true&&true&&decide ((e::es).length+0+0<30))=true
 simpa using h2
def GI {name:Str}{r:V->List V->Hp->VK->Prop}(pa:PlainAttrs T)(slot:Slot T name UH)(Uh:typeOf (.builtin UH)=pure (.type "method_descriptor"))(hm:Bs X UH r)(K:Za)(ho:QE X o to)(hK:X.K=K:=by rfl)
  (f_:attributeBase o name X.env (eval o X.env)=eval o X.env:=by rfl) (g_:(apos.endLine==b_.line)=true:=by rfl):QE X (.Call (.Attribute o name apos) [] [] b_) (EI K T r to):=⟨hK▸En pa slot Uh hm ho.r f_ g_⟩
def D4 {own:List Str}{js:List Nat}{scope:Scope}{tg iter elt:Expr}{ifs:List Expr}{g:TG}{ti:TT}{wi:qm}(S:GJ X own js scope=true)(hc:X.calm=true)(hit:QI X tg iter wi)
  (hg:∀C s H fp,QG (dU X own js scope C s H fp) tg g) (hi:∀C s H fp,Jz (dU X own js scope C s H fp) ifs ti) (he:∀C s H fp,QE (dU X own js scope C s H fp) elt te)
  (hs:∀x,foldedSetIterable iter X.env x=pure x:=by intro _;rfl):QE X (.ListComp elt [⟨tg,iter,ifs,0⟩] scope pos) (kP own js wi g ti te):=
 ⟨xk S hc hit.r (λC s H fp=>(hg C s H fp).r) (λC s H fp=>(hi C s H fp).r) (λC s H fp=>(he C s H fp).r) hs⟩
def X7:Jz X [] FU:=⟨GR⟩
def gX (h:QT X c tA):Jz X [c] tA:=⟨Ky h.r⟩
def aS (ha:QT X a tA):QT X (.UnaryOp .Not a pos) (Et tA):=⟨Fy ha.r⟩
def K9 (K:Za)(ha:QE X a ta)(h:X.K=K:=by rfl)(he:∀whole,isTrue a X.env whole=(do let v←whole;standAt a.pos;holding [v] (truthy v)):=by intro _;rfl):QT X a (Gg K ta):=⟨Kl K ha.r h he⟩
def xy (h:QW X a tA):QT X a tA:=⟨h.r.pt⟩
def iG (ha:QT X a tA):QW X (.BoolOp .And [a] pos) tA:=⟨CP ha.r⟩
def jM (ha:QT X a tA):QW X (.BoolOp .Or [a] pos) tA:=⟨EL ha.r⟩
def jN (ha:QT X a tA)(hb:QW X (.BoolOp .And (b::Z3) pos) Ug):QW X (.BoolOp .And (a::b::Z3) pos) (Gz tA Ug):=⟨GF ha.r hb.r⟩
def rY (ha:QT X a tA)(hb:QW X (.BoolOp .Or (b::Z3) pos) Ug):QW X (.BoolOp .Or (a::b::Z3) pos) (JN tA Ug):=⟨HI ha.r hb.r⟩
def J3 {i:Nat}(hN:X.N.Nodup)(hi:X.N[i]?=some x)(hx:Dx X.env.scope x)(hf:X.fn x=true\/X.env.scope.names.lookup x=some .local:=by first|exact .inl rfl|exact .inr rfl|assumption):QG X (.Name x pos) (O5 i):=⟨Cj hN hi hx hf⟩
def uk:Js X [] GH:=⟨Dh⟩
def fK {g:TG}{u:ue}(h1:QG X e g)(h2:Js X es u)(h:z8 e=true:=by rfl):Js X (e::es) (vM g u):=⟨gC h1.r h2.r h⟩
def ud (K:Za){k:Nat}{u:ue}(hc:X.calm=true)(hg:Js X es u)(hK:X.K=K:=by rfl)(h:A4 es=true:=by rfl):QG X (.Tuple es k pos) (zL K es.length u):=⟨gT (tg:= .Name Str.empty pos) hc hg.r hK h⟩
def BB {i:Expr}{ti:TE}{u:tf}(ho:QE X o to)(hi:QE X i ti)(hs:xG X u)
  (ha:∀v,assign (.Subscript o i pos) X.env v=(do
   let ov←holding [v] (eval o X.env)
   let iv←holding [v,ov] (eval i X.env)
   standAt pos
   holding [v,ov,iv] (setItem ov iv v)
   release [v,ov,iv] []):=by intro _;rfl):QG X (.Subscript o i pos) (Fs to ti u):=⟨Fz ho.r hi.r hs ha⟩
def N0 (K:Za){tg:Expr}(hl:QE X a ta)(h:X.K=K:=by rfl):QI X tg a (Jv K ta):=⟨Ll K hl.r h⟩
def HV (wi:TI):qm:=λσ H R=>wi σ H λJ H'=>R J id H'
def Hq {wi:TI}{σ:St}{H:Hp}{R:It->(Hp->Hp)->Hp->Prop}(q:wi σ H λJ H'=>R J id H'):HV wi σ H R:=q
def rD {tg:Expr}(hm:X.mg "range"=none)(ha:QA X [a] t)(hg:Gl X "range":=by rfl)(h:z8 a=true:=by rfl):QI X tg (.Call (.Name "range" p) [a] [] pos) (HV (Aa t)):=⟨(ya hg hm ha.r (Q7 h)).two⟩
def V6 {elts:List Expr}{x1}{n_:Pos}(ho:QE X o to)
  (f_:attributeBase o "items" X.env (eval o X.env)=eval o X.env:=by rfl) (g_:(apos.endLine==b_.line)=true:=by rfl):QI X (.Tuple elts x1 n_) (.Call (.Attribute o "items" apos) [] [] b_) (sQ to):=⟨yJ ho.r f_ g_⟩
variable {st:Stmt} {sts body orelse:List Stmt} {u u':TS} {g:TG}
def bV:QSs X [] AZ:=⟨Cb⟩
def A2 (h:QS X st u):QSs X [st] u:=⟨CL h.r⟩
def x9 (h1:QS X st u)(h2:QSs X sts u'):QSs X (st::sts) (xV u u'):=⟨zT h1.r h2.r⟩
def j8 {i:Nat}{pos':Pos}(hN:X.N.Nodup)(hi:X.N[i]?=some x)(hx:Dx X.env.scope x)(he:QE X e te)(hs:swapsWith e (some (.Name x pos')) pos.line X.env=pure false:=by rfl)(hf:X.fn x=true\/X.env.scope.names.lookup x=some .local:=by first|exact .inl rfl|exact .inr rfl):
  QS X (.Assign [.Name x pos'] e pos) (uC te (O5 i)):=⟨EC hN hi hx he.r hs hf⟩
def kF {tg:Expr}(he:QE X e te)(hg:QG X tg g)(hs:swapsWithSole [tg] e pos.line X.env=pure false:=by rfl)(hw:swappedStores [tg] e X.env=pure none:=by rfl)(h:z8 tg=true:=by rfl):QS X (.Assign [tg] e pos) (uC te g):=
 ⟨Ey he.r hg.r hs hw (by rw[uT h];rfl)⟩
def br (hc:QT X c tA)(ht:QSs X body u)(he:QSs X orelse u'):QS X (.If c body orelse pos) (Ge tA u u'):=⟨IM hc.r ht.r he.r⟩
def l0 (he:QE X e te):QS X (.Return (some e) pos) (EN te):=⟨Eh he.r⟩
def wC (he:QE X e te)(hs:swapsWith e none pos.line X.env=pure false:=by rfl):QS X (.Expr e pos) (Br te):=⟨CK he.r hs⟩
def ba {tg iter:Expr}{wi:qm}(hp:PassesOwn (model X.prog X.w) X.A X.env X.xe)(hc:X.calm=true)(hi:QI X tg iter wi)(hg:QG X tg g)(hb:QSs X body u)(hs:∀x,foldedSetIterable iter X.env x=pure x:=by intro _;rfl):QS X (.For tg iter body [] pos) (yS wi g u):=
 ⟨BJ hp hc hi.r hg.r hb.r hs⟩
def FR (hp:PassesOwn (model X.prog X.w) X.A X.env X.xe)(hc:QT X c tA)(hb:QSs X body u):QS X (.While c body [] pos) (AB tA u):=⟨Bg hp hc.r hb.r⟩
end
theorem V8:∀{ss:List Str} {us:List Value},Vals (ss.map V.str) us->StrsAre us ss
 |[],_,.nil=> .nil
 |x::ss,_,.cons r t=>by
  obtain⟨k,rfl⟩:=r;exact .cons x k (V8 t)
theorem V7:∀{us:List Value} {ss:List Str},StrsAre us ss->Vals (ss.map V.str) us
 |_,_,.nil=> .nil
 |_,_,.cons y t r=> .cons ⟨t,rfl⟩ (V7 r)
theorem U5:∀{xs:List V} {us:List Value},xs.length=us.length->(∀(i:Nat) x u,xs[i]?=some x->us[i]?=some u->RelV x u)->Vals xs us
 |[],[],_,_=> .nil
 |[],_::_,h,_=>by simp at h
 |_::_,[],h,_=>by simp at h
 |x::xs,u::us,h,k=> .cons (k 0 x u rfl rfl) (U5 (by simpa using h) λi y v e1 e2=>k (i+1) y v (by simpa using e1) (by simpa using e2))
section
variable {X:Cx}
def Inv.newL {pins:List (Addr×Obj)}{σ:St}{H:Hp}{s:Shared}{h':Heap}{tk:Nat}{a:Addr}{xs:List V}{out:Array Value}{e:Nat}(I:Inv X pins σ H s)(k:∀b u,s.heap.get? b=some u->h'.get? b=some u)(ha:s.heap.objs.size<=a)
  (ho:h'.get? a=some {cls:= .type "list",data:= .seq out e}) (rv:Vals xs out.toList) (hz:xs.length<=sizeLine):Inv X pins σ (upd H a (.lst xs)) {s with heap:=h',toks:=tk}:=
 I.laid k ha ⟨hz,out.toList,e,rv,by rw[ho]⟩
def ObjOk.live {P:Program}{w:World}{H:Hp}{h:Heap}{a:Addr}{o:HO}(x:ObjOk P w H h a o):∃ob,h.get? a=some ob:=by
 cases o with
 |lst xs=>obtain⟨_,_,_,_,e⟩:=x;exact⟨_,e⟩
 |tup xs=>obtain⟨_,_,_,o,e,_⟩:=x;exact⟨_,e⟩
 |dK kvs=>obtain⟨_,_,_,_,o,_,_,e,_⟩:=x;exact⟨_,e⟩
 |dT kvs=>obtain⟨_,_,_,_,o,_,_,e,_⟩:=x;exact⟨_,e⟩
 |set S n=>obtain⟨o,_,_,_,e,_⟩:=x;exact⟨_,e⟩
 |ins C dx fs=>obtain⟨_,_,_,e,_⟩:=x;exact⟨_,e⟩
 |own y=>exact x
 |xd fs=>obtain⟨_,⟨_,_,_,e,_⟩,_⟩:=x;exact⟨_,e⟩
 |rng lo hi=>obtain⟨_,_,_,e⟩:=x;exact⟨_,e⟩
 |frz ob u=>obtain⟨e,_⟩:=x;exact⟨_,e⟩
 |tbl ps=>exact⟨_,(show h.get? a=some _ from x)⟩
 |met f y=>exact⟨_,(show h.get? a=some _ from x)⟩
 |ext φ=>obtain⟨_,e,_⟩:=x;exact e
def Inv.newN {pins:List (Addr×Obj)}{σ:St}{H:Hp}{s:Shared}{h':Heap}{tk:Nat}{a:Addr}{xs:List V}{out:Array Value}{e:Nat}(I:Inv X pins σ H s)(k:∀b u,s.heap.get? b=some u->h'.get? b=some u)(hn:s.heap.get? a=none)
  (ho:h'.get? a=some {cls:= .type "list",data:= .seq out e}) (rv:Vals xs out.toList) (hz:xs.length<=sizeLine):H a=none/\Inv X pins σ (upd H a (.lst xs)) {s with heap:=h',toks:=tk}:=by
 have hH:H a=none:=by
  cases q:H a with
  |none=>rfl
  |some u=>
   obtain⟨ob,z⟩:=(I.hok a u q).live
   rw[hn] at z;cases z
 have na:∀b o,s.heap.get? b=some o->b≠a:=λb o z w=>by rw[w,hn] at z;cases z
 have nh:∀b u,H b=some u->b≠a:=λb u z=>d9 z hH
 refine⟨hH,I.un ⟨λb o z n _ _=>k b o z,λb o z n _ _=>⟨o.slots,k b o z⟩,λb o z n _=>by rw[b7 (na b o z)];exact n,λb o z _=>⟨o,k b o z⟩,λb ys z=>by rw[b7 (nh b _ z)];exact z,
  λb ob u z=>by rw[b7 (nh b _ z)];exact z,λb ps z=>⟨#[],by rw[b7 (nh b _ z)];simpa using z⟩⟩ λb u z=>?_⟩
 by_cases hb:b=a
 .subst hb
  rw[d8] at z;cases z
  exact⟨hz,out.toList,e,rv,by rw[ho]⟩
 .rw[b7 hb] at z
  exact(I.hok b u z).stay (λc v _ y=>k c v y) (λc y=>by rw[b7 (nh c _ y)];exact y) λc ys y=>by rw[b7 (nh c _ y)];exact y
def pF (K:Za):List V->Hp->VK->Prop:=λxs H Q=>∃(p:Addr) (ss:List Str),xs=[.ref p]/\(SqL K H p (ss.map V.str)\/∃kvs:List (i6×V),Rd H p (.dK kvs)/\kvs.map (·.1)=ss.map Sum.inr)/\ss.length<64/\
 ∀i_:List Str,i_.Perm ss->sortedS i_=true->∀l,H l=none->Q (.ref l) (upd H l (.lst (i_.map V.str)))
def nW {M:Program}{w:World}{A:Around}{E:Value->Shared->Prop}{s:Shared}{a:Addr}{vs:List Value}{ss:List Str}{n:Nat}{Q:Value->Shared->Prop}(ho:s.heap.get? a=some (seqObj "list" vs.toArray n))(hS:StrsAre vs ss)(Wx:vs.length<64)
  (h:∀(out:Array Value) (i_:List Str),StrsAre out.toList i_->i_.Perm ss->sortedS i_=true->Q .none {s with heap:=sortedHeap s.heap a vs out}):
  wpAny (model M w) A (call (.builtin "list.sort") [.ref a]) Q E s:=by
 refine NS PySem.F.slot_list_sort ⟨_,ho,rfl⟩ PySem.F.entry_list_sort ?_ (PySem.F.args_list_sort_1 _)
 refine list_sort_treeK strKind_oneLt ho hS.keysOf (λv₁ v₂ Z3 e=>keyKind_strs (by rw[←e];exact hS)) Wx λN_ hp hs=>?_
 obtain⟨i_,h1,h2,h3⟩:=sorted_out_str hS hp hs
 exact⟨_,rfl,h _ i_ h1 h2 h3⟩
def pP (hc:X.calm=true):CallR X (.builtin "sorted") (pF X.K):=by
 intro pins s σ H xs us Q I r h;obtain⟨p,ss,rfl,hx,Wx,q⟩:=h;obtain⟨u,rfl,ru⟩:=M9 r;cases ru;have XD:(64:Nat)<=sizeLine:=by decide
 rcases hx with hx|⟨kvs,hx,hk⟩
 .obtain⟨a_,rv,ht,hz⟩:=I.list hx;have hS:=V8 rv;have hl:a_.length=ss.length:=by have:=rv.length;simpa using this.symm
  refine sorted_strs ht.isList hS (by lia) λout i_ a1 a2 a3=>?_;obtain⟨e,he⟩:=sortedAll_at s.heap a_ out;have TX:=a2.length_eq;exact⟨.ref (s.heap.objs.size+1),_,I.newL (tk:=s.toks) (λ_ _=>sortedAll_old) (OE _) he (V7 a1) (by rw[Lz];lia),rfl,q i_ a2 a3 _ (I.hok.fresh (OE _))⟩
 .obtain⟨hd,o,vs,ep,ho,D⟩:=dE I.hok hx;have dat:=D.at_ _ ho;have hlen:kvs.length=ss.length:=by have:=Na List.length hk;simpa using this
  have G_:=KV.length D.kv;refine Qw kind_sorted plain_sorted entry_sorted (args_sorted1 _) ?_;unfold Builtin.«sorted»;refine LG (m:=checkCount "sorted" 1 1 _) (LR ?_);refine LG (Sb (A:=X.A.in1) (PySem.W.kdl_dict (knd:=j7 X.prog X.w) (kvs:=vs) (ep:=ep) hd) (I.ok.hd hc) dat (by lia) λh' tk acc hkp p_=>?_);have hl:acc.toList.length=vs.length:=by rw[Og];exact p_.1
  have hS:StrsAre acc.toList ss:=by
   refine V8 (U5 (by rw[Lz];lia) λi x u e1 e2=>?_);obtain⟨k,y,hy,YJ⟩:=p_.2 i u (by rw[←NU];exact e2);have e3:(kvs.map (·.1))[i]?=some k:=by rw[KV.keys D.kv,LF,hy];rfl
   rw[hk,LF] at e3;rw[LF] at e1;cases e4:ss[i]? with
   |none=>rw[e4] at e1;cases e1
   |some z=>
    rw[e4] at e1 e3
    cases e1
    cases e3
    exact fV YJ
  refine LG (wpAny_newList ?_ (by rw[hl];lia));refine LG (MS (nW (s:={s with heap:=h'.push {cls:= .type "list",data:= .seq acc.toList.toArray},toks:=tk}) (n:=0) (Md _ rfl) hS (by lia) λout i_ a1 a2 a3=>?_));obtain⟨e,he⟩:=sortedHeap_at (h:=h'.push {cls:= .type "list",data:= .seq acc.toList.toArray}) (a:=h'.objs.size) (vs:=acc.toList) (n:=0) (out:=out) (Md _ rfl);have l_:s.heap.get? h'.objs.size=none:=by
   cases z:s.heap.get? h'.objs.size with
   |none=>rfl
   |some ob=>exact absurd (LU (hkp _ _ z)) (Nb _)
  have TX:=a2.length_eq;obtain⟨hH,I2⟩:=I.newN (tk:=tk) (h':=sortedHeap (h'.push {cls:= .type "list",data:= .seq acc.toList.toArray}) h'.objs.size acc.toList out) (xs:=i_.map V.str) (λb u eb=>by
   have hb:=LU (hkp b u eb);rw[sortedHeap_old (b:=b) (Mf hb) (by rw[OO];exact QJ hb)];exact LL _ (hkp b u eb)) l_ he (V7 a1) (by rw[Lz];lia)
  exact LR ⟨_,rfl,.ref h'.objs.size,_,I2,rfl,q i_ a2 a3 _ hH⟩
def vD (K:Za):List V->Hp->VK->Prop:=λxs H Q=>(∃p ys,xs=[.ref p]/\(SqL K H p ys\/SqT K H p ys)/\∀l,H l=none->Q (.ref l) (upd H l (.lst ys)))\/
 (∃(p:Addr) (kvs:List (i6×V)),xs=[.ref p]/\Rd H p (.dK kvs)/\∀l,H l=none->Q (.ref l) (upd H l (.lst (kvs.map λkv=>kV kv.1))))
def tE (hc:X.calm=true):CallR X (.type "list") (vD X.K):=by
 refine call_list_of.or ?_;intro pins s σ H xs us Q I r h;obtain⟨p,kvs,rfl,hx,q⟩:=h;obtain⟨u,rfl,ru⟩:=M9 r;cases ru;obtain⟨hd,o,vs,ep,ho,D⟩:=dE I.hok hx;have G_:=KV.length D.kv;have hz:kvs.length<=sizeLine:=(Q6 I.hok hx).1;refine PySem.W.kdl_call (PySem.W.kdl_dict (knd:=j7 X.prog X.w) (kvs:=vs) (ep:=ep) hd) (I.ok.hd hc) (D.at_ _ ho) (by lia) λh' tk acc c hkp hS p_=>?_;refine⟨.ref s.heap.objs.size,_,I.newL (tk:=tk) hkp (LC _) hS (U5 (by have:=p_.1;simp;lia) λi x u e1 e2=>?_) (by rw[Lz];exact hz),rfl,q _ (I.hok.fresh (LC _))⟩;obtain⟨k,y,hy,YJ⟩:=p_.2 i u (by rw[←NU];exact e2);rw[LF] at e1;cases e4:kvs[i]? with
 |none=>rw[e4] at e1;cases e1
 |some kv=>
  rw[e4] at e1
  cases e1
  have e3:(kvs.map (·.1))[i]?=some kv.1:=by rw[LF,e4];rfl
  rw[KV.keys D.kv,LF,hy] at e3
  cases e3
  exact fV YJ
def Du:List V->Hp->VK->Prop:=λxs H Q=>∃(p:Addr) (kvs:List (i6×V)),xs=[.ref p]/\Rd H p (.dK kvs)/\∀l,H l=none->Q (.ref l) (upd H l (.dK kvs))
def tJ:CallR X (.type "dict") Du:=by
 intro pins s σ H xs us Q I r h;obtain⟨p,kvs,rfl,hx,q⟩:=h;obtain⟨u,rfl,ru⟩:=M9 r;cases ru;exact Bi I hx λl s' hl I'=>⟨.ref l,_,I',rfl,q l hl⟩
def Fi (K:Za):List V->Hp->VK->Prop:=λxs H Q=>∃(p:Addr) (ns:List Int),xs=[.ref p]/\SqL K H p (ns.map V.int)/\Q (.int ns.sum) H
def yh (hc:X.calm=true):CallR X (.builtin "sum") (Fi X.K):=by
 intro pins s σ H xs us Q I r h;obtain⟨p,ns,rfl,hx,q⟩:=h;obtain⟨u,rfl,ru⟩:=M9 r;cases ru;obtain⟨a_,rv,ht,hz⟩:=I.list hx;have hi:=tV rv;obtain⟨ys,hy⟩:=hi.allInts.items;have hl:s.heap.IsList p (intItems ys):=hy▸ht.isList;refine sum_intListG (I.ok.hd hc) hl λh' tk t' hk=>?_;have e1:ns=ys.toList.map (·.1):=by
  rw[←nums_intItems,←hy];exact(show numsOf a_.toArray.toList=ns from hi.numsOf).symm
 have e2:preSum (numAt ys) ys.size=ns.sum:=by
  rw[preSum_eq,LN (by simp),e1]
 rw[e2];exact⟨.int ns.sum,H,I.kept hk,⟨t',rfl⟩,q⟩
def Bb:R2:=λx y H Q=>rI CMul (λi j=> .int (i*j)) x y H Q\/(∃z n,x= .str z/\y= .int n/\z.length<=1000/\-1000<=n/\n<=1000/\Q (.str (Txt.mul z n)) H)
def K6:OpR X (binaryOp .Mult) Bb:=by
 refine op_mul.or ?_;intro pins s σ H x y v u Q I rx ry h;obtain⟨z,n,rfl,rfl,h1,h2,h3,q⟩:=h;obtain⟨t,rfl⟩:=rx;obtain⟨t',rfl⟩:=ry;exact SB.mul (mulOk_of 1000 1000 h1 h3 (by lia) (by decide) (by decide)) λt2 k=>⟨.str _,H,I.tok _,⟨t2,rfl⟩,q⟩
def vX:tf:=λo i v H Q=>DL o i v H Q\/(∃a H',o= .ref a/\DPut H a i v H'/\Q H')
def Ct (hu:X.A.units+1<cLine):xG X vX:=by
 intro pins s σ H o i v ov iv u Q I ro ri rv h;rcases h with h|⟨a,H',rfl,g,q⟩
 .exact yt pins s σ H o i v ov iv u Q I ro ri rv h
 .cases ro;exact wQ hu I g ri rv λs' I'=>⟨H',I',q⟩
end
section
variable {X:Cx}
def Inv.pairNew {pins:List (Addr×Obj)}{σ:St}{H:Hp}{s:Shared}{fp:List Addr}{h':Heap}{tk:Nat}{x y:V}{u v:Value}{e:Nat}(I:Inv X pins σ H s)(hf:∀b∈fp,gc X pins H b)
  (kp:∀b o,b∉fp->s.heap.get? b=some o->h'.get? b=some o) (there:∀b∈fp,b<s.heap.objs.size) (tup:h'.get? s.heap.objs.size=some {cls:= .type "tuple",data:= .seq #[u,v] e}) (rx:RelV x u) (ry:RelV y v):
  H s.heap.objs.size=none/\Inv X pins σ (upd H s.heap.objs.size (.tup [x,y])) {s with heap:=h',toks:=tk}/\∀b∈fp,upd H s.heap.objs.size (.tup [x,y]) b=none:=by
 have fresh:H s.heap.objs.size=none:=I.hok.fresh (LC _)
 have YI:∀b o,s.heap.get? b=some o->b≠s.heap.objs.size:=λb o z=>Mf (LU z)
 have hH:∀b w,H b=some w->b≠s.heap.objs.size/\b∉fp:=λb w z=>⟨d9 z fresh,λm=>by rw[(hf b m).1] at z;cases z⟩
 have hok:HOk X.prog X.w (upd H s.heap.objs.size (.tup [x,y])) h':=λb w z=>by
  by_cases hb:b=s.heap.objs.size
  .subst hb;rw[d8] at z;cases z;exact⟨by show 2<=sizeLine;decide,[u,v],.cons rx (.cons ry .nil),⟨_,tup,rfl,_,rfl⟩⟩
  .rw[b7 hb] at z;refine(I.hok b w z).stay (λc ob hc q=>kp c ob ?_ q) (λc q=>by rw[b7 (hH c _ q).1];exact q) λc ys q=>by rw[b7 (hH c _ q).1];exact q
   rcases hc with m|m
   .rw[m];exact(hH b _ z).2
   .exact(hH c _ m).2
 refine⟨fresh,I.call' (s':={s with heap:=h',toks:=tk}) (ch:=fp) rfl ⟨λb o z n _ hx=>kp b o hx z,λb o z n _ hx=>⟨o.slots,kp b o hx z⟩,λb o z n _=>by rw[b7 (YI b o z)];exact n,
  λb o z hx=>⟨o,kp b o hx z⟩,λb ys z=>by rw[b7 (hH b _ z).1];exact z,λb ob w z=>by rw[b7 (hH b _ z).1];exact z,λb ps z=>⟨#[],by rw[b7 (hH b _ z).1];simpa using z⟩⟩ hok I.bare λb hb=>?_,λb hb=>?_⟩
 .obtain⟨f0,f1,f2,f3,f4,f5⟩:=hf b hb
  exact⟨f3,f1,f4,f5⟩
 .rw[b7 (Mf (there b hb))];exact(hf b hb).1
def Inv.turnedAll {pins:List (Addr×Obj)}{σ:St}{H:Hp}{s:Shared}{fp:List Addr}{h':Heap}{tk:Nat}(I:Inv X pins σ H s)(hf:∀b∈fp,gc X pins H b)
  (kp:∀b o,b∉fp->s.heap.get? b=some o->h'.get? b=some o):Inv X pins σ H {s with heap:=h',toks:=tk}:=by
 have hH:∀b w,H b=some w->b∉fp:=λb w z m=>by rw[(hf b m).1] at z;cases z
 refine I.call' (s':={s with heap:=h',toks:=tk}) (ch:=fp) rfl ⟨λb o z n _ hx=>kp b o hx z,λb o z n _ hx=>⟨o.slots,kp b o hx z⟩,λb o z n _=>n,
  λb o z hx=>⟨o,kp b o hx z⟩,λb ys z=>z,λb ob w z=>z,λb ps z=>⟨#[],by simpa using z⟩⟩ (λb w z=>?_) I.bare λb hb=>?_
 .refine(I.hok b w z).stay (λc ob hc q=>kp c ob ?_ q) (λc q=>q) λc ys q=>q
  rcases hc with m|m
  .rw[m];exact hH b _ z
  .exact hH c _ m
 .obtain⟨f0,f1,f2,f3,f4,f5⟩:=hf b hb
  exact⟨f3,f1,f4,f5⟩
end
def Kt (K:Za)(l:Addr):It:=
 ⟨λi H=>∃xs x,SqL K H l xs/\xs[i]?=some x,λi H x H'=>∃t v,(∀xs,SqL K H l xs->xs[i]?=some v)/\H t=none/\x= .ref t/\H'=upd H t (.tup [.int i,v]),λi H=>∃xs,SqL K H l xs/\xs.length<=i⟩
def wJ {P:Program}{w:World}{K:Za}{elts:List Expr}{x1}{n_:Pos}{en it l:Addr}(u_:en≠it):fQ P w K (.Tuple elts x1 n_) (Kt K l) [en,it] en (λi h=>∃old,IsEnum h en it i old/\h.IsListIter it l i) where
 mem:=by simp
 obj:=λi h st b hb=>by
  obtain⟨old,h1,o,e,c,d⟩:=st;have x_:b=en\/b=it:=by simpa using hb
  rcases x_ with rfl|rfl
  .exact⟨_,h1,λv z=>by
    have z':Data.fields _=Data.cell v:=z;cases z'⟩
  .exact⟨o,e,λv z=>by rw[d] at z;cases z⟩
 keep:=λi h h' st k=>by
  obtain⟨old,h1,h2⟩:=st;exact⟨old,k en (by simp) _ h1,h2.at λo e=>k it (by simp) o e⟩
 item:=by
  intro X hP hw hK hc i pins s σ H E I hf st hg;subst hP hw hK;obtain⟨old,N',A_⟩:=st;obtain⟨xs,x,hq,hx⟩:=hg;obtain⟨a_,rv,p,hz⟩:=I.list hq;obtain⟨u,hu,ru⟩:=rv.get hx;have UI:en<s.heap.objs.size:=LU N';have hit:it<s.heap.objs.size:=by obtain⟨o,e,_⟩:=A_;exact LU e
  refine wpAny_pyNext_enum_item N' A_ p.isList (x:=u) (by simpa using hu) u_ λh' TV hit1 ht1 Wy TY=>?_;refine⟨.ref s.heap.objs.size,rfl,Qk (s:={s with heap:=h',toks:=s.toks+1}) TV λF' he'' hs''=>?_⟩;have SK:Heap.SameBut en h' F':=hs'';have QV:F'.get? s.heap.objs.size=some {cls:= .type "tuple",data:= .seq #[.int i s.toks,u]}:=SK.extBut _ _ (Qp UI) ht1;obtain⟨fr,I1,YK⟩:=I.pairNew (fp:=[en,it]) (h':=F') (tk:=s.toks+1) (x:= .int i) (y:=x) hf (λb o hb e=>by
   have x_:b≠en/\b≠it:=by simpa using hb
   exact SK.extBut b o x_.1 (TY b o x_.1 x_.2 e)) (λb hb=>by
   have x_:b=en\/b=it:=by simpa using hb
   rcases x_ with rfl|rfl
   .exact UI
   .exact hit) QV ⟨_,rfl⟩ ru
  refine⟨.ref s.heap.objs.size,_,I1,rfl,⟨_,x,λys hy=>by rw[I.list_inj hy hq];exact hx,fr,rfl,rfl⟩,⟨_,he'',?_⟩,YK⟩;exact hit1.at λo e=>SK.extBut it o (Nr u_) e
 done:=by
  intro X hP hw hK hc i pins s σ H E I hf st hg;subst hP hw hK;obtain⟨old,N',A_⟩:=st;obtain⟨xs,hq,hx⟩:=hg;obtain⟨a_,rv,p,hz⟩:=I.list hq;have hl:=rv.length;exact wpAny_pyNext_enum_end (I.ok.hd hc) N' A_ p.isList (by simp;lia) λh' eb=>⟨rfl,I.turnedAll (fp:=[en,it]) (tk:=s.toks) hf λb o hb e=>eb b o (by
   have x_:b≠en/\b≠it:=by simpa using hb
   exact x_.2) e⟩
 self:=λ_ _ _ _ _ st h=>by
  obtain⟨old,N',A_⟩:=st;exact Pu N' h
section
variable {X:Cx} {a b:Expr} {t:TA} {p pos:Pos}
end
section
variable {X:Cx} {a b:Expr} {t:TA} {p pos:Pos}
end
section
variable {X:Cx} (K:Za) {a b:Expr} {t:TA} {p pos:Pos}
def ai (hc:X.calm=true)(h:X.K=K:=by rfl):CallR X (.builtin "sorted") (pF K):=h▸pP hc
def Dp (hc:X.calm=true)(h:X.K=K:=by rfl):CallR X (.builtin "sum") (Fi K):=h▸yh hc
end
def E2 {X:Cx}:Bs X "list.append" vP:=xW
section
variable {K:Za} {σ:St} {H:Hp} {Q:VK}
def E3 {p:Addr}{kvs:List (i6×V)}{ss:List Str}(h:Rd H p (.dK kvs))(hk:kvs.map (·.1)=ss.map Sum.inr)(Wx:ss.length<64)(q:∀i_:List Str,i_.Perm ss->sortedS i_=true->∀l,H l=none->Q (.ref l) (upd H l (.lst (i_.map V.str)))):pF K [.ref p] H Q:=⟨p,ss,rfl,.inr ⟨kvs,h,hk⟩,Wx,q⟩
def kQ {p:Addr}{kvs:List (i6×V)}(h:Rd H p (.dK kvs))(q:∀l,H l=none->Q (.ref l) (upd H l (.lst (kvs.map λkv=>kV kv.1)))):vD K [.ref p] H Q:= .inr ⟨p,kvs,rfl,h,q⟩
def vV {p:Addr}{ns:List Int}(h:SqL K H p (ns.map V.int))(q:Q (.int ns.sum) H):Fi K [.ref p] H Q:=⟨p,ns,rfl,h,q⟩
def wx {i j:Int}(h:CMul i j)(q:Q (.int (i*j)) H):Bb (.int i) (.int j) H Q:= .inl ⟨i,j,rfl,rfl,h,q⟩
def aO {z:Str}{n:Int}(h1:z.length<=1000)(h2: -1000<=n)(h3:n<=1000)(q:Q (.str (Txt.mul z n)) H):Bb (.str z) (.int n) H Q:= .inr ⟨z,n,rfl,rfl,h1,h2,h3,q⟩
def Eg {to ti:TE}{t:tf}{v:V}{Qs:St->Hp->Prop}(q:to σ H λo H1=>ti σ H1 λi H2=>t o i v H2 λH3=>Qs σ H3):Fs to ti t v σ H Qs:=q
def E7 {a:Addr}{kvs:List (i6×V)}{k:i6}{v:V}{Qh:Hp->Prop}(h:H a=some (.dK kvs))(hl:kvs.length<sizeLine)(q:Qh (upd H a (.dK (E1 kvs k v)))):vX (.ref a) (kV k) v H Qh:= .inr ⟨a,_,rfl,DPut.k h hl,q⟩
def N5 {n:Nat}{t:ue}{a:Addr}{xs:List V}{Qs:St->Hp->Prop}(h:SqT K H a xs)(hl:xs.length=n)(q:t xs σ H Qs):zL K n t (.ref a) σ H Qs:=⟨a,xs,rfl,h,hl,q⟩
def BK {t:TG}{u:ue}{v:V}{r:List V}{Qs:St->Hp->Prop}(q:t v σ H λσ' H'=>u r σ' H' Qs):vM t u (v::r) σ H Qs:=⟨v,r,rfl,q⟩
def Fm {Qs:St->Hp->Prop}(q:Qs σ H):GH [] σ H Qs:=⟨rfl,q⟩
def Kn {T:String}{r:V->List V->Hp->VK->Prop}{to:TE}{t:TA}(q:to σ H λx H1=>IE K T x H1/\t σ H1 λxs H2=>r x xs H2 Q):Kz K T r to t σ H Q:=q
def GU {T:String}{r:V->List V->Hp->VK->Prop}{to:TE}(q:to σ H λx H1=>IE K T x H1/\r x [] H1 Q):EI K T r to σ H Q:=q
def U1 {p:Addr}{x:V}{o:Option V}(g:DGet H p x o)(q:Q (.bl o.isSome) H):wo K x (.ref p) H Q:= .inr (.inr ⟨p,o,rfl,g,q⟩)
def ah {p:Addr}{x:V}{o:Option V}(g:DGet H p x o)(q:Q (.bl (!o.isSome)) H):jG K x (.ref p) H Q:= .inr (.inr ⟨p,o,rfl,g,q⟩)
def zt {p:Addr}{x:V}{xs:List V}(h:SqL K H p xs\/SqT K H p xs)(h1:C0 x=true)(h2:xs.all C0=true)(q:Q (.bl (Jb x xs)) H):wo K x (.ref p) H Q:= .inr (.inl ⟨p,xs,rfl,h,h1,h2,q⟩)
def ki {p:Addr}{xs:List V}{lo hi:Option Int}(h:SqT K H p xs)(hw:¬(HT.sIx xs.length 0 lo=0/\HT.sIx xs.length xs.length hi=xs.length))(q:∀p,H p=none->Q (.ref p) (upd H p (.tup (Q3 xs lo hi)))):Jn K (.ref p) lo hi H Q:= .inr (.inl ⟨p,xs,rfl,h,hw,q⟩)
def O8 {a:Addr}{kvs:List (i6×V)}{k:i6}(e:Rd H a (.dK kvs)):DGet H a (kV k) (k9 kvs k):= .inl ⟨kvs,k,e,rfl,rfl⟩
end
open PySem.AutoSeq1 (wpAny_loadPart')
def EqP (P:Program)(w:World)(A:Around)(s:Shared)(y x:Value)(b:Bool):Prop:=∀(E:Value->Shared->Prop) (Q:Bool->Shared->Prop),Q b s->wpAny (model P w) A (eqBool y x) Q E s
def RcP (P:Program)(w:World)(A:Around)(s:Shared)(y x:Value)(b:Bool):Prop:=∀(E:Value->Shared->Prop) (Q:Value->Shared->Prop),Q (.bool b) s->wpAny (model P w) A (richCompare .Eq y x) Q E s
def EqP.of {P:Program}{w:World}{A:Around}{s:Shared}{y x:Value}{b:Bool}(h:SeqAt.EqAt A s y x b):EqP P w A s y x b:=λE Q q=>h P w E Q q
def EqP.refs {P:Program}{w:World}{A:Around}{s:Shared}{l m:Addr}{k:Bool}(u_:l≠m)(h:RcP P w A s (.ref l) (.ref m) k):EqP P w A s (.ref l) (.ref m) k:=λE Q q=>by
 unfold eqBool;refine MS (wpAny_ite_split (λz=>absurd (Value.ref.inj (eq_of_beq z)) u_) λ_=>LG (h E _ (Nz q)))
def Fv {P:Program}{w:World}(l m:Addr)(xs ys:Array Value)(n1 n2:Nat)(d1 d2:Option Addr)(s1 s2:Array (Option Value))(f:Nat->Bool):
  MeetsIn P w (Builtin.«tuple.__eq__» ⟨[.ref l,.ref m],[]⟩) (λA R s=>
   s.heap.get? l=some {cls:= .type "tuple",dict:=d1,data:= .seq xs n1,slots:=s1}/\s.heap.get? m=some {cls:= .type "tuple",dict:=d2,data:= .seq ys n2,slots:=s2}/\
   (∀j (g1:j<xs.size) (g2:j<ys.size),EqP P w A.in1 s xs[j] ys[j] (f j))/\
   R (.ok (.ret (.bool ((List.range (min xs.size ys.size)).all f&&xs.size==ys.size)))) s):=
 .of_wp λA R s hyp=>by
  obtain⟨hp,gg,dr,tk,os⟩:=s;obtain⟨e1,e2,he,fin⟩:=hyp;have sub:=QK;have len:(xs.toList.zip ys.toList).length=min xs.size ys.size:=by simp
  wp_walk using wpAny_loadPart' e1,wpAny_loadPart' e2,wpAny_forIn_list _ (λmore acc st=>acc.1=none/\st=⟨hp,gg,dr,tk,os⟩/\∃i,more=(xs.toList.zip ys.toList).drop i/\
   R (.ok (.ret (.bool (((List.range (min xs.size ys.size)).drop i).all f&&xs.size==ys.size)))) ⟨hp,gg,dr,tk,os⟩) _
  case turn=>
   rintro⟨y,x⟩ more acc st ⟨ha,rfl,i,hi,hR⟩
   have lt:i<(xs.toList.zip ys.toList).length:=by
    rcases ND i (xs.toList.zip ys.toList).length with z|z
    .exact z
    .rw[Ny z] at hi;cases hi
   have lm:i<min xs.size ys.size:=len▸lt
   have lx:i<xs.size:=LZ lm (Nat.min_le_left _ _)
   have ly:i<ys.size:=LZ lm (Rc _ _)
   rw[ML lt] at hi
   injection hi with h1 h2
   have q1:y=xs[i]:=by simpa using Na Prod.fst h1
   have q2:x=ys[i]:=by simpa using Na Prod.snd h1
   subst q1 q2
   have YL:(List.range (min xs.size ys.size)).drop i=i::(List.range (min xs.size ys.size)).drop (i+1):=by simp [ML,lm]
   rw[YL,Oi] at hR
   refine LG (he i lx ly _ _ ?_)
   cases hf:f i with
   |true=>
    rw[hf] at hR
    wp_walk
    exact⟨rfl,rfl,i+1,h2,by simpa using hR⟩
   |false=>
    rw[hf] at hR
    wp_walk
    exact⟨_,rfl,by simpa using hR⟩
  case fin=>
   rintro⟨c1,c2⟩ st ⟨ha,rfl,i,hi,hR⟩
   simp only at ha
   subst ha
   have ge:min xs.size ys.size<=i:=by
    rcases ND i (xs.toList.zip ys.toList).length with z|z
    .rw[ML z] at hi;cases hi
    .exact len▸z
   rw[Ny (by simpa using ge)] at hR
   wp_walk
   exact⟨_,rfl,by simpa [Builtin.Tuple.tupleCompareSizes] using hR⟩
  case h=>
   exact⟨rfl,rfl,0,rfl,by simpa using fin⟩
def RcP.tup {P:Program}{w:World}{A:Around}{s:Shared}{l m:Addr}{xs ys:Array Value}{f:Nat->Bool}(hl:s.heap.IsTuple l xs)(hm:s.heap.IsTuple m ys)(hu:A.units<cLine)
  (he:∀j (g1:j<xs.size) (g2:j<ys.size),EqP P w A.in1 s xs[j] ys[j] (f j)):RcP P w A s (.ref l) (.ref m) ((List.range (min xs.size ys.size)).all f&&xs.size==ys.size):=λE Q q=>by
 obtain⟨⟨c1,d1,a1,s1⟩,o1,k1,n1,t1⟩:=id hl
 obtain⟨⟨c2,d2,a2,s2⟩,o2,k2,n2,t2⟩:=id hm
 simp only at k1 t1 k2 t2
 subst k1 t1 k2 t2
 refine Nt (op:= .Eq) ⟨_,o1,rfl⟩ ⟨_,o2,rfl⟩ RA (Nl RA ⟨_,o1,rfl⟩ PySem.F.entry_tuple_eq (PySem.F.args_tuple_eq_2 _ _) (Fv l m xs ys n1 n2 d1 d2 s1 s2 f) ⟨o1,o2,he,?_⟩) hu
 exact⟨(λz=>nomatch z),q⟩
def Q8:List V->List V->Bool
 |[],[]=>true
 |x::xs,y::ys=>fc x y&&Q8 xs ys
 |_,_=>false
inductive Eq1 (K:Za) (H:Hp):V->V->Bool->Prop
 |flat {x y:V}:C0 x=true->C0 y=true->Eq1 K H x y (fc x y)
 |tup {a b:Addr} {xs ys:List V}:SqT K H a xs->SqT K H b ys->xs.all C0=true->ys.all C0=true->Eq1 K H (.ref a) (.ref b) (Q8 xs ys)
 |nt {a:Addr} {xs:List V}:SqT K H a xs->Eq1 K H .non (.ref a) false
 |tn {a:Addr} {xs:List V}:SqT K H a xs->Eq1 K H (.ref a) .non false
theorem sd:∀{x:V},C0 x=true->fc x x=true
 | .non,_=>rfl
 | .bl b,_=>by simp [fc]
 | .int i,_=>by simp [fc]
 | .str x,_=>by simp [fc]
theorem dI:∀{xs:List V},xs.all C0=true->Q8 xs xs=true
 |[],_=>rfl
 |x::xs,h=>by
  rw[Oi,Mp] at h;show(fc x x&&Q8 xs xs)=true;rw[sd h.1,dI h.2];rfl
theorem R0:∀(xs ys:List V),((List.range (min xs.length ys.length)).all (λj=>fc (xs.getD j .non) (ys.getD j .non))&&xs.length==ys.length)=Q8 xs ys
 |[],[]=>rfl
 |[],_::_=>by simp [Q8]
 |_::_,[]=>by simp [Q8]
 |x::xs,y::ys=>by
  have ih:=R0 xs ys;have e:min (x::xs).length (y::ys).length=min xs.length ys.length+1:=by simp
  rw[e,Rq,Oi,NM];show((fc x y&&(List.range (min xs.length ys.length)).all _)&&(xs.length+1==ys.length+1))=(fc x y&&Q8 xs ys);rw[←ih,Bool.and_assoc];congr 1;congr 1;simp
section
variable {X:Cx} {pins:List (Addr×Obj)} {σ:St} {H:Hp} {s:Shared} {A:Around}
def Eq1.at_ {x y:V}{u v:Value}{b:Bool}(I:Inv X pins σ H s)(h:Eq1 X.K H x y b)(rx:RelV x u)(ry:RelV y v)(hu:A.units+8<cLine):SeqAt.EqAt A s u v b:=by
 cases h with
 |flat fx fy=>exact cK rx ry fx fy
 | @tup a c xs ys ha hc fx fy=>
  cases rx
  cases ry
  obtain⟨a_,r1,p1,z1⟩:=I.tuple ha
  obtain⟨its',r2,p2,z2⟩:=I.tuple hc
  by_cases hac:a=c
  .subst hac
   have e:=I.tuple_inj ha hc
   subst e
   rw[dI fx]
   exact OC _
  .have l1:=r1.length
   have l2:=r2.length
   have q:=SeqAt.RcAt.tuples (A:=A) (e:=λj=>fc (xs.getD j .non) (ys.getD j .non)) (show s.heap.IsTuple a a_.toArray from p1) (show s.heap.IsTuple c its'.toArray from p2) (by lia) λj g1 g2=>by
    have RC:j<a_.length:=by simpa using g1
    have RF:j<its'.length:=by simpa using g2
    have x1:xs[j]?=some (xs[j]'(by lia)):=by simp [show j<xs.length by lia]
    have y1:ys[j]?=some (ys[j]'(by lia)):=by simp [show j<ys.length by lia]
    obtain⟨u1,SN,Se⟩:=r1.get x1;obtain⟨u2,Q_,So⟩:=r2.get y1;have e1:a_.toArray[j]=u1:=by
     have:=LA RC;rw[SN] at this;simpa using(Mc this).symm
    have e2:its'.toArray[j]=u2:=by
     have:=LA RF;rw[Q_] at this;simpa using(Mc this).symm
    rw[e1,e2];have d1:xs.getD j .non=xs[j]'(by lia):=by rw[MA,x1];rfl
    have d2:ys.getD j .non=ys[j]'(by lia):=by rw[MA,y1];rfl
    rw[d1,d2];exact cK Se So (Mq.mp fx _ (Mu _)) (Mq.mp fy _ (Mu _))
   have e3:a_.toArray.size=xs.length:=by simp [l1]
   have e4:its'.toArray.size=ys.length:=by simp [l2]
   rw[e3,e4,R0] at q
   exact .of_refs hac q
 | @nt a xs ha=>
  cases rx
  cases ry
  obtain⟨a_,r1,p1,z1⟩:=I.tuple ha
  exact SeqAt.EqAt.none_tuple (show s.heap.IsTuple a a_.toArray from p1) (by lia)
 | @tn a xs ha=>
  cases rx
  cases ry
  obtain⟨a_,r1,p1,z1⟩:=I.tuple ha
  exact SeqAt.EqAt.tuple_none (show s.heap.IsTuple a a_.toArray from p1) (by lia)
end
inductive EqH (K:Za) (H:Hp) (kb:List (i6×V)):List (i6×V)->Bool->Prop
 |nil:EqH K H kb [] true
 |miss {k:i6} {v:V} {r:List (i6×V)}:k9 kb k=none->EqH K H kb ((k,v)::r) false
 |hit {k:i6} {v y:V} {r:List (i6×V)} {e b:Bool}:k9 kb k=some y->Eq1 K H v y e->EqH K H kb r b->EqH K H kb ((k,v)::r) (e&&b)
def EqD (K:Za)(H:Hp)(a b:Addr)(r:Bool):Prop:=(a=b/\r=true)\/(a≠b/\∃ka kb r0,Rd H a (.dK ka)/\Rd H b (.dK kb)/\EqH K H kb ka r0/\r=(ka.length==kb.length&&r0))
section
variable {X:Cx} {pins:List (Addr×Obj)} {σ:St} {H:Hp} {s:Shared} {A:Around}
def EqH.hits {kb:List (i6×V)}{vb:List (i6×Value)}(I:Inv X pins σ H s)(hu:A.units+8<cLine)(rb:KV kb vb){ka:List (i6×V)}{r:Bool}(h:EqH X.K H kb ka r):∀{va:List (i6×Value)},KV ka va->PySem.W.KeqHits A s vb va r:=by
 induction h with
 |nil=>
  intro va t
  cases t
  exact .nil
 | @miss k v r hn=>
  intro va t
  cases t with
  | @cons _ q _ l e t=>
   obtain⟨k',u⟩:=q
   have YM:k=k':=e.1
   subst YM
   refine .miss ?_
   have z:=KV.val rb k
   rw[hn] at z
   cases e:valueAt vb k with
   |none=>rfl
   |some y=>rw[e] at z;exact False.elim z
 | @hit k v y r e b hy h1 hr ih=>
  intro va t
  cases t with
  | @cons _ q _ l e t=>
   obtain⟨k',u⟩:=q
   have YM:k=k':=e.1
   subst YM
   have z:=KV.val rb k
   rw[hy] at z
   cases e5:valueAt vb k with
   |none=>rw[e5] at z;exact False.elim z
   |some y'=>
    rw[e5] at z
    exact .hit e5 (h1.at_ I e.2 z hu) (ih t)
def EqD.at_ {a b:Addr}{r:Bool}(I:Inv X pins σ H s)(h:EqD X.K H a b r)(hu:A.units+16<cLine):EqP X.prog X.w A s (.ref a) (.ref b) r:=by
 rcases h with⟨rfl,rfl⟩|⟨u_,ka,kb,r0,h1,h2,h3,rfl⟩
 .exact .of (OC _)
 .obtain⟨z1,d1,va,ra,da⟩:=Q6 I.hok h1;obtain⟨z2,d2,vb,rb,db⟩:=Q6 I.hok h2;refine .refs u_ λE Q q=>?_;have l1:=KV.length ra;have l2:=KV.length rb;exact PySem.W.keq_eq (knd:=j7 X.prog X.w) d1 d2 da db (by lia) (λ_=>h3.hits (A:=A.in1) I (by show A.units+1+8<_;lia) rb ra) (by rw[←l1,←l2];exact q)
def HH (K:Za):R2:=λx y H Q=>∃a b p q p' q' r r',x= .ref a/\y= .ref b/\SqT K H a [.ref p,.ref q]/\SqT K H b [.ref p',.ref q']/\EqD K H p p' r/\EqD K H q q' r'/\Q (.bl (r&&r')) H
def EJ (hu:X.A.units+64<cLine):OpR X (compareOp .Eq) (HH X.K):=by
 intro pins s σ H x y v u Q I rx ry h;obtain⟨a,b,p,q,p',q',r,r',rfl,rfl,ha,hb,h1,h2,k⟩:=h;cases rx;cases ry;obtain⟨a_,v1,t1,_⟩:=I.tuple ha;obtain⟨its',v2,t2,_⟩:=I.tuple hb;obtain⟨_,_,rfl,e1,e2⟩:=bR v1;obtain⟨_,_,rfl,e3,e4⟩:=bR v2;cases e1;cases e2;cases e3;cases e4;refine RcP.tup (P:=X.prog) (w:=X.w) (f:=λj=>if j=0 then r else r') (show s.heap.IsTuple a _ from t1) (show s.heap.IsTuple b _ from t2) (by lia) (λj g1 g2=>?_) _ _ ⟨.bl (r&&r'),H,I,by show Value.bool _=Value.bool _;simp [OF],k⟩;have g:j<2:=by simpa using g1
 match j,g with
 |0,_=>exact h1.at_ I (by show X.A.units+1+16<_;lia)
 |1,_=>exact h2.at_ I (by show X.A.units+1+16<_;lia)
def Jk (K:Za):R2:=λx y H Q=>∃a b xs ys,x= .ref a/\y= .ref b/\SqL K H a xs/\SqL K H b ys/\xs.all C0=true/\ys.all C0=true/\Q (.bl (Q8 xs ys)) H
theorem gj:∀{xs ys:List V},xs.length≠ys.length->Q8 xs ys=false
 |[],[],h=>absurd rfl h
 |[],_::_,_=>rfl
 |_::_,[],_=>rfl
 |x::xs,y::ys,h=>by
  show(fc x y&&Q8 xs ys)=false;rw[gj (by simpa using h),RS]
def Gr (hu:X.A.units+64<cLine):OpR X (compareOp .Eq) (Jk X.K):=by
 intro pins s σ H x y v u Q I rx ry h;obtain⟨a,b,xs,ys,rfl,rfl,ha,hb,fx,fy,k⟩:=h;cases rx;cases ry;obtain⟨a_,r1,p1,z1⟩:=I.list ha;obtain⟨its',r2,p2,z2⟩:=I.list hb;have l1:=r1.length;have l2:=r2.length;have e3:a_.toArray.size=xs.length:=by simp [l1]
 have e4:its'.toArray.size=ys.length:=by simp [l2]
 by_cases hl:xs.length=ys.length
 .have q:=SeqAt.RcAt.lists (A:=X.A) (e:=λj=>fc (xs.getD j .non) (ys.getD j .non)) p1.isList p2.isList (by rw[e3,e4];exact hl) (by lia) λj g1 g2=>by
   have RC:j<a_.length:=by simpa using g1
   have RF:j<its'.length:=by simpa using g2
   have x1:xs[j]?=some (xs[j]'(by lia)):=by simp [show j<xs.length by lia]
   have y1:ys[j]?=some (ys[j]'(by lia)):=by simp [show j<ys.length by lia]
   obtain⟨u1,SN,Se⟩:=r1.get x1;obtain⟨u2,Q_,So⟩:=r2.get y1;have e1:a_.toArray[j]=u1:=by
    have:=LA RC;rw[SN] at this;simpa using(Mc this).symm
   have e2:its'.toArray[j]=u2:=by
    have:=LA RF;rw[Q_] at this;simpa using(Mc this).symm
   rw[e1,e2];have d1:xs.getD j .non=xs[j]'(by lia):=by rw[MA,x1];rfl
   have d2:ys.getD j .non=ys[j]'(by lia):=by rw[MA,y1];rfl
   rw[d1,d2];exact cK Se So (Mq.mp fx _ (Mu _)) (Mq.mp fy _ (Mu _))
  have e5:=R0 xs ys;rw[hl,Nat.min_self,Rg,Pf] at e5;rw[e3,hl,e5] at q;exact q X.prog X.w _ _ ⟨.bl _,H,I,rfl,k⟩
 .refine OW (A:=X.A) p1.isList p2.isList (by rw[e3,e4];simpa using hl) (by lia) X.prog X.w _ _ ⟨.bl _,H,I,?_,k⟩;rw[gj hl];rfl
def IV (K:Za):R2:=λx y H Q=>(∃a b xs ys,x= .ref a/\y= .ref b/\SqT K H a xs/\SqT K H b ys/\xs.all C0=true/\ys.all C0=true/\Q (.bl (Q8 xs ys)) H)\/(∃a xs,x= .non/\y= .ref a/\SqT K H a xs/\Q (.bl false) H)
def FO (hu:X.A.units+64<cLine):OpR X (compareOp .Eq) (IV X.K):=by
 intro pins s σ H x y v u Q I rx ry h;rcases h with⟨a,b,xs,ys,rfl,rfl,ha,hb,fx,fy,k⟩|⟨a,xs,rfl,rfl,ha,k⟩
 .cases rx;cases ry;obtain⟨a_,r1,p1,z1⟩:=I.tuple ha;obtain⟨its',r2,p2,z2⟩:=I.tuple hb;have l1:=r1.length;have l2:=r2.length;have q:=SeqAt.RcAt.tuples (A:=X.A) (e:=λj=>fc (xs.getD j .non) (ys.getD j .non)) (show s.heap.IsTuple a a_.toArray from p1) (show s.heap.IsTuple b its'.toArray from p2) (by lia) λj g1 g2=>by
   have RC:j<a_.length:=by simpa using g1
   have RF:j<its'.length:=by simpa using g2
   have x1:xs[j]?=some (xs[j]'(by lia)):=by simp [show j<xs.length by lia]
   have y1:ys[j]?=some (ys[j]'(by lia)):=by simp [show j<ys.length by lia]
   obtain⟨u1,SN,Se⟩:=r1.get x1;obtain⟨u2,Q_,So⟩:=r2.get y1;have e1:a_.toArray[j]=u1:=by
    have:=LA RC;rw[SN] at this;simpa using(Mc this).symm
   have e2:its'.toArray[j]=u2:=by
    have:=LA RF;rw[Q_] at this;simpa using(Mc this).symm
   rw[e1,e2];have d1:xs.getD j .non=xs[j]'(by lia):=by rw[MA,x1];rfl
   have d2:ys.getD j .non=ys[j]'(by lia):=by rw[MA,y1];rfl
   rw[d1,d2];exact cK Se So (Mq.mp fx _ (Mu _)) (Mq.mp fy _ (Mu _))
  have e3:a_.toArray.size=xs.length:=by simp [l1]
  have e4:its'.toArray.size=ys.length:=by simp [l2]
  rw[e3,e4,R0] at q;exact q X.prog X.w _ _ ⟨.bl _,H,I,rfl,k⟩
 .cases rx;cases ry;obtain⟨a_,r1,p1,z1⟩:=I.tuple ha;exact SeqAt.RcAt.none_tuple (A:=X.A) (show s.heap.IsTuple a a_.toArray from p1) (by lia) X.prog X.w _ _ ⟨.bl false,H,I,rfl,k⟩
def mw (K:Za):R2:=λx y H Q=>Jo x y H Q\/Jk K x y H Q\/IV K x y H Q\/HH K x y H Q
def Lf (K:Za){k:Nat}(hr:Room k X.A)(h:X.K=K:=by rfl):OpR X (compareOp .Eq) (mw K):=h▸op_eq.or ((Gr hr.units).or ((FO hr.units).or (EJ hr.units)))
end
section
variable {K:Za} {H:Hp} {Q:VK}
def zf {i j:Int}(q:Q (.bl (decide (i=j))) H):mw K (.int i) (.int j) H Q:= .inl (sC q)
def Ad {i j:Str}(q:Q (.bl (decide (i=j))) H):mw K (.str i) (.str j) H Q:= .inl (se q)
def yr {a b:Addr}{xs ys:List V}(ha:SqL K H a xs)(hb:SqL K H b ys)(fx:xs.all C0=true)(fy:ys.all C0=true)(q:Q (.bl (Q8 xs ys)) H):mw K (.ref a) (.ref b) H Q:= .inr (.inl ⟨a,b,xs,ys,rfl,rfl,ha,hb,fx,fy,q⟩)
def Ao {a b:Addr}{xs ys:List V}(ha:SqT K H a xs)(hb:SqT K H b ys)(fx:xs.all C0=true)(fy:ys.all C0=true)(q:Q (.bl (Q8 xs ys)) H):mw K (.ref a) (.ref b) H Q:= .inr (.inr (.inl (.inl ⟨a,b,xs,ys,rfl,rfl,ha,hb,fx,fy,q⟩)))
end
section
variable {K:Za} {σ:St} {H H' H1:Hp} {Q:VK} {d:Addr} {kvs:List (i6×V)} {o:Obj}
def rX {i j:Int}(q:Q (.bl (!decide (i=j))) H):Kb (.int i) (.int j) H Q:=⟨rfl,by rw[jB];rw[show(i==j)=decide (i=j) from PF i j];exact q⟩
def Kc {r:V->Hp->VK->Prop}{ta:TE}(q:ta σ H λx H1=>r x H1 Q):JM r ta σ H Q:=q
def HY {i:Int}(q:Q (.int (-i)) H):rU (λi=> .int (-i)) (.int i) H Q:=⟨i,rfl,q⟩
def nf:HO->Bool
 | .frz _ _=>false
 |_=>true
def Le (H H':Hp):Prop:=∀a u,nf u=true->Rd H a u->Rd H' a u
def Le.trans (a:Le H H1)(b:Le H1 H'):Le H H':=λx u n h=>b x u n (a x u n h)
def Same.le (s:Same H H'):Le H H':=λa u _ h=>s.rd h
def R7 (h:H d=some (.dK kvs)):Le H (E6 d o kvs H):=λa u n r=>by
 by_cases e:a=d
 .subst e;rcases r with r|⟨o',r⟩
  .rw[h] at r;cases r;exact .inr ⟨o,d8⟩
  .rw[h] at r;cases r
 .unfold E6 Rd;rw[b7 e];exact r
def vS:Le H (thaw d H):=λa u n r=>by
 by_cases e:a=d
 .subst e;rcases r with r|⟨o',r⟩
  .rw[vF λo v z=>by rw[r] at z;cases z;cases n];exact .inl r
  .exact .inl (thaw_at r)
 .unfold Rd;rw[N3 e];exact r
def Le.tup {a:Addr}{xs:List V}(l:Le H H')(h:SqT K H a xs):SqT K H' a xs:=by
 rcases h with h|h
 .exact .inl (l _ _ rfl h)
 .exact .inr h
def Le.lst {a:Addr}{xs:List V}(l:Le H H')(h:SqL K H a xs):SqL K H' a xs:=by
 rcases h with h|h
 .exact .inl (l _ _ rfl h)
 .exact .inr h
def Le.dic {a:Addr}(l:Le H H')(h:Rd H a (.dK kvs)):Rd H' a (.dK kvs):=l _ _ rfl h
abbrev J2:=Str×Str×Str
structure p8 where
 pts:List (Str×Str)
 ts:List (Str×J2)
def i8 (pts:List (Str×Str)):List (i6×V):=pts.map λx=>(Sum.inr x.1,.str x.2)
def fG (t:J2):List V:=[.str t.1,.str t.2.1,.str t.2.2]
def TieAt (K:Za)(H:Hp)(kv:i6×V)(x:Str×J2):Prop:=kv.1=Sum.inr x.1/\∃a,kv.2= .ref a/\SqT K H a (fG x.2)
def TiesIs (K:Za)(H:Hp)(kvs:List (i6×V))(ts:List (Str×J2)):Prop:=Paired (TieAt K H) kvs ts
structure WebAt (K:Za) (H:Hp) (a p q:Addr) (kvs:List (i6×V)) (W:p8):Prop where
 tup:SqT K H a [.ref p,.ref q]
 pts:Rd H p (.dK (i8 W.pts))
 ties:Rd H q (.dK kvs)
 ts:TiesIs K H kvs W.ts
def TieAt.mono {kv:i6×V}{x:Str×J2}(l:Le H H')(h:TieAt K H kv x):TieAt K H' kv x:=let ⟨e,a,ea,s⟩:=h;⟨e,a,ea,l.tup s⟩
def TiesIs.mono {ts:List (Str×J2)}(l:Le H H')(h:TiesIs K H kvs ts):TiesIs K H' kvs ts:=Paired.imp' (λ_ _ z=>z.mono l) h
def WebAt.mono {a p q:Addr}{W:p8}(l:Le H H')(h:WebAt K H a p q kvs W):WebAt K H' a p q kvs W:=⟨l.tup h.tup,l.dic h.pts,l.dic h.ties,h.ts.mono l⟩
def TiesIs.length {ts:List (Str×J2)}(h:TiesIs K H kvs ts):kvs.length=ts.length:=Mj h
def TiesIs.keys {ts:List (Str×J2)}(h:TiesIs K H kvs ts):kvs.map (·.1)=ts.map λx=>Sum.inr x.1:=by
 unfold TiesIs at h;induction h with
 |nil=>rfl
 |cons r _ ih=>rw[MG,MG,ih,r.1]
def TiesIs.get {ts:List (Str×J2)}{i:Nat}{kv:i6×V}(h:TiesIs K H kvs ts)(e:kvs[i]?=some kv):∃x,ts[i]?=some x/\TieAt K H kv x:=B5 h e
theorem TiesIs.val {ts:List (Str×J2)}{n:Str}:∀{kvs:List (i6×V)} {ts:List (Str×J2)},TiesIs K H kvs ts->n∈ts.map (·.1)->∃a x,k9 kvs (Sum.inr n:i6)=some (.ref a)/\(n,x)∈ts/\SqT K H a (fG x)
 |_,_,.nil,h=>by simp at h
 |kv::r,x::ts,.cons t u,h=>by
  obtain⟨e,a,ea,s⟩:=t;by_cases hn:x.1=n
  .subst hn;refine⟨a,x.2,?_,LS,s⟩;rw[C4 e,ea]
  .have h':n∈ts.map (·.1):=by
    rcases Mr.mp h with z|z
    .exact absurd z.symm hn
    .exact z
   obtain⟨b,y,h1,h2,h3⟩:=TiesIs.val (ts:=ts) u h';refine⟨b,y,?_,LY _ h2,h3⟩;rw[C2 (by rw[e];intro z;exact hn (NH z))];exact h1
def G1 (pts:List (Str×Str)):(i8 pts).map (·.1)=pts.map λx=>Sum.inr x.1:=by
 unfold i8;rw[Mo];rfl
def lt (a b:Str):Bool:=decide (a.cps.toList<b.cps.toList)
def Aj (ss:List Str):Bool:=(ss.dropLast.zip ss.tail).all λp=>lt p.1 p.2
theorem uQ:∀a b:List Nat,ltCps a b=true\/a=b\/ltCps b a=true
 |[],[]=> .inr (.inl rfl)
 |[],_::_=> .inl rfl
 |_::_,[]=> .inr (.inr rfl)
 |x::r,y::t=>by
  rcases SU x y with h|h|h
  .exact .inl (by simp [ltCps,h])
  .subst h;rcases uQ r t with z|z|z
   .exact .inl (by simp [ltCps,z])
   .exact .inr (.inl (by rw[z]))
   .exact .inr (.inr (by simp [ltCps,z]))
  .exact .inr (.inr (by simp [ltCps,h]))
def Hk {a b:Str}(h:ltCps b.cps.toList a.cps.toList=false)(u_:a≠b):lt a b=true:=by
 unfold lt;rw[←ltCps_eq];rcases uQ a.cps.toList b.cps.toList with z|z|z
 .exact z
 .exfalso;apply u_;obtain⟨⟨l⟩⟩:=a;obtain⟨⟨m⟩⟩:=b;have z':l=m:=z;rw[z']
 .rw[z] at h;cases h
def nR (x y:Str)(r:List Str):Aj (x::y::r)=(lt x y&&Aj (y::r)):=by
 unfold Aj;simp [List.dropLast]
theorem dD:∀{ss:List Str},sortedS ss=true->ss.Nodup->Aj ss=true
 |[],_,_=>rfl
 |[_],_,_=>rfl
 |x::y::r,h,n=>by
  have h':(!ltCps y.cps.toList x.cps.toList&&risingS y r)=true:=h;rw[Mp] at h';have n':=MN.mp n;rw[nR,Hk (by simpa using h'.1) (λz=>n'.1 (by rw[z];exact LS)),dD (ss:=y::r) h'.2 n'.2];rfl
end
def ir (xs:List V)(n:Nat):Q3 xs none (some (n:Int))=xs.take n:=by
 unfold Q3;have e1:HT.sIx xs.length 0 none=0:=rfl;have e2:HT.sIx xs.length xs.length (some (n:Int))=min n xs.length:=HT.sIx_nat _ _ _;rw[e1,e2,Py,Nat.sub_zero,List.take_eq_take_min];simp
def dj (xs:List V)(n:Nat):Q3 xs (some (n:Int)) none=xs.drop n:=by
 unfold Q3;have e1:HT.sIx xs.length 0 (some (n:Int))=min n xs.length:=HT.sIx_nat _ _ _;have e2:HT.sIx xs.length xs.length none=xs.length:=rfl;rw[e1,e2];by_cases h:n<=xs.length
 .rw[Nat.min_eq_left h,LN (by simp)]
 .rw[Nat.min_eq_right (by lia),Ny (LC _),Ny (by lia),Sq]
def Inv.off {X:Cx}{pins:List (Addr×Obj)}{σ:St}{H:Hp}{s:Shared}{C:Addr}{h':Heap}(I:Inv X pins σ H s)(hH:H C=none)(h0:X.s₀.heap.objs.size<=C)(h1:C≠X.env.locals)(h2:∀x c,X.env.cells.lookup x=some c->c≠C)(h3:∀p∈X.pn++pins,p.1≠C)(sb:Heap.SameBut C s.heap h'):Inv X pins σ H {s with heap:=h'}:=by
 refine I.call' (s':={s with heap:=h'}) (ch:=[C]) rfl ?_ ?_ I.bare λb hb=>?_
 .have same:∀b,b∉[C]->h'.get? b=s.heap.get? b:=λb hb=>sb.2 b λz=>hb (by rw[z];exact LS);refine⟨λb o q n hb hx=>?_,λb o q n hb hx=>?_,λb o q n hx=>n,λb o q hx=>?_,λb xs q=>q,λb o u q=>q,λb ps q=>⟨#[],by rw[Array.append_empty];exact q⟩⟩
  .show h'.get? b=_;rw[same b hx];exact q
  .exact⟨o.slots,(same b hx).trans q⟩
  .exact⟨o,(same b hx).trans q⟩
 .refine λb ob e=>(I.hok b ob e).stay (λc w' hc q=>(sb.2 c ?_).trans q) (λ_ q=>q) λ_ _ q=>q;rintro rfl;rcases hc with rfl|hc
  .rw[hH] at e;cases e
  .rw[hH] at hc;cases hc
 .rw[Me.mp hb];exact⟨.inr h0,h1,h2,h3⟩
def ur {X:Cx}{own:List Str}{js:List Nat}{scope:Scope}{tg iter elt:Expr}{ifs:List Expr}{pos Tw py:Pos}{g:TG}{ti:TT}{te:TE}{wi:qm}{i:Nat}{y:Str}(hN:X.N.Nodup)(hy:X.N[i]?=some y)(hl:Dx X.env.scope y)(S:GJ X own js scope=true)(hc:X.calm=true)(hit:zW X tg iter wi)
  (hg:∀C s H fp,PG (dU X own js scope C s H fp) tg g) (hi:∀C s H fp,tI (dU X own js scope C s H fp) ifs ti) (he:∀C s H fp,PE (dU X own js scope C s H fp) elt te)
  (YN:swapsWith (.ListComp elt [⟨tg,iter,ifs,0⟩] scope pos) (some (.Name y py)) Tw.line X.env=pure true)
  (hf:X.fn y=true\/X.env.scope.names.lookup y=some .local)
  (hs:∀x,foldedSetIterable iter X.env x=pure x):
  PS X (.Assign [.Name y py] (.ListComp elt [⟨tg,iter,ifs,0⟩] scope pos) Tw) (uC (kP own js wi g ti te) (O5 i)):=by
 have SB:=Ba S
 intro pins s σ H D I h
 rw[exec_Assign_Name_used _ _ _ _ YN]
 refine LG (Sl (LG ?_))
 show wpAny _ X.A (do let _←comprehension (.ListComp elt [⟨tg,iter,ifs,0⟩] scope pos) scope X.env _ (newList []) false (eval iter X.env) (some (assign (.Name y py) X.env))) _ _ s
 refine LG (Qd (QH (use:=some (assign (.Name y py) X.env)) (Q:=λ_ s'=>SP X pins D .next s') rfl hs (kr (SB.cells I)) SB.kind SB.names (J0 (hit pins s σ H _ I h) λv s1 h1=>J0 h1 λWg s2 h2=>?_)) (λ_ s' hq=>LR (LR hq)) λ_ _ e=>e)
 obtain⟨it,fp,tn,J,H2,e,I2,T,A_,f2,th,RP,W,⟨m0,w0⟩,turn⟩:=h2
 subst e
 refine NB (wpAny_newFunctionEnv SB.nocell (by intro y hy;simp at hy) (λh₁ hns₁ hsb₁=>?_) SB.kind)
 dsimp only at hns₁ hsb₁⊢
 generalize Ve:s2.heap.push {cls:= .type "list",dict:=none,data:= .seq ([]:List Value).toArray}=G2 at hns₁ hsb₁⊢
 have Ww:G2.objs.size=s2.heap.objs.size+1:=by rw[←Ve,OO]
 have SJ:s2.heap.objs.size≠G2.objs.size:=by rw[Ww];exact Mf (PR _)
 have hC:s2.heap.objs.size<=G2.objs.size:=by rw[Ww];exact OE _
 have old:∀b o,s2.heap.get? b=some o->h₁.get? b=some o:=λb o e=>
  hsb₁.extBut b o (Mf (LZ (LU e) hC)) (LL _ (Ve▸LL _ e))
 have off:∀b o,s2.heap.get? b=some o->b≠G2.objs.size:=λb o e=>Mf (LZ (LU e) hC)
 have Rt:∀b∈fp,∃o,s2.heap.get? b=some o:=λb hb=>let ⟨o,e,_⟩:=T.obj _ _ A_ b hb;⟨o,e⟩
 have p_:h₁.get? s2.heap.objs.size=some {cls:= .type "list",data:= .seq ([]:List Value).toArray}:=
  hsb₁.extBut _ _ SJ (LL _ (Ve▸Md _ rfl))
 have loop:∀s3:Shared,s3={s2 with heap:=h₁,toks:=s2.toks+([]:List (Str×Value)).length}->
   codeAny (model X.prog X.w) X.A (.compLoop (.ListComp elt [⟨tg,iter,ifs,0⟩] scope pos) 0 (.ref it) (.ref s2.heap.objs.size) (compEnvC scope (jj scope X.env) G2.objs.size X.env))
    (compPost (model X.prog X.w) X.A X.xe (some (assign (.Name y py) X.env)) (λ_ s'=>SP X pins D .next s') (.ref s2.heap.objs.size) G2.objs.size) s3:=by
  rintro s3 rfl
  refine mR (K:=λout H'=>O5 i (.ref s2.heap.objs.size) σ (th (upd H' s2.heap.objs.size (.lst out))) D.nx) SB hc T I2 f2 (LC _) hC SJ Rt (hg _ _ _ _) (hi _ _ _ _) (he _ _ _ _) W (λi m out H' w=>?_) (λout H' s' B TX k=>?_) w0
   ⟨Inv.block SB I2 f2 Rt hC hns₁ old,I2.hok.fresh (LC _),[],_,.nil,p_⟩ (T.keep _ _ _ A_ λb _ o e=>old b o e) (λb hb=>(f2 b hb).1)
  .rcases turn i m out H' w with⟨a,b⟩|c
   .exact .inl ⟨a,λn=>b _ n⟩
   .exact .inr c
  .obtain⟨mm,hn,_⟩:=B.inv.loc
   have YD:H' G2.objs.size=none:=B.inv.free
   have IJ:=B.out I2 f2 (LC _) hC SJ TX (h':=s'.heap) (Heap.SameBut.refl _ _)
   show wpAny _ X.A (assign (.Name y py) X.env (.ref s2.heap.objs.size)) _ _ s'
   refine wpAny_assign_Name (nN IJ hN hy hl (v:= .ref s2.heap.objs.size) rfl (λXz I'' hx=>?_) hf)
   obtain⟨a,sa,ha⟩:=hx
   have haC:G2.objs.size≠a:=by
    rcases ha with rfl|ha
    .exact Nr (Mf (LZ I2.lt hC))
    .obtain⟨_,o,ho,_⟩:=I2.cell _ _ ha;exact Nr (off _ _ ho)
   refine⟨mm,hn.sameBut sa haC,λh' sb=>⟨_,_,RP _ _ _ _ (I''.off (by rw[b7 (Nr SJ)];exact YD) (Mb I2.sz hC) (Nr (Mf (LZ I2.lt hC))) (λx c e=>?_) (λp hp=>off _ _ (I2.pin p hp).1) sb),k⟩⟩
   obtain⟨_,o,ho,_⟩:=I2.cell _ _ e
   exact off _ _ ho
 exact codeAny_compStart_list (loop _ rfl) (T.self _ 0 _ _ _ (T.keep _ _ _ A_ λb _ o e=>old b o e) (loop _ rfl))
def Z0 {X:Cx}{own:List Str}{js:List Nat}{scope:Scope}{tg iter elt:Expr}{ifs:List Expr}{pos Tw py:Pos}{g:TG}{ti:TT}{te:TE}{wi:qm}{i:Nat}{y:Str}(hN:X.N.Nodup)(hy:X.N[i]?=some y)(hl:Dx X.env.scope y)(S:GJ X own js scope=true)(hc:X.calm=true)(hit:QI X tg iter wi)
  (hg:∀C s H fp,QG (dU X own js scope C s H fp) tg g) (hi:∀C s H fp,Jz (dU X own js scope C s H fp) ifs ti) (he:∀C s H fp,QE (dU X own js scope C s H fp) elt te)
  (YN:swapsWith (.ListComp elt [⟨tg,iter,ifs,0⟩] scope pos) (some (.Name y py)) Tw.line X.env=pure true:=by rfl)
  (hf:X.fn y=true\/X.env.scope.names.lookup y=some .local:=by first|exact .inl rfl|exact .inr rfl)
  (hs:∀x,foldedSetIterable iter X.env x=pure x:=by intro _;rfl):QS X (.Assign [.Name y py] (.ListComp elt [⟨tg,iter,ifs,0⟩] scope pos) Tw) (uC (kP own js wi g ti te) (O5 i)):=
 ⟨ur hN hy hl S hc hit.r (λC s H fp=>(hg C s H fp).r) (λC s H fp=>(hi C s H fp).r) (λC s H fp=>(he C s H fp).r) YN hf hs⟩
open PySem.AutoSeq1 (wpAny_loadPart')
def NcP (P:Program)(w:World)(A:Around)(s:Shared)(y x:Value)(b:Bool):Prop:=∀(E:Value->Shared->Prop) (Q:Value->Shared->Prop),Q (.bool b) s->wpAny (model P w) A (richCompare .NotEq y x) Q E s
def Er {P:Program}{w:World}(l m:Addr)(xs ys:Array Value)(n1 n2:Nat)(d1 d2:Option Addr)(s1 s2:Array (Option Value))(f:Nat->Bool):
  MeetsIn P w (Builtin.«tuple.__ne__» ⟨[.ref l,.ref m],[]⟩) (λA R s=>
   s.heap.get? l=some {cls:= .type "tuple",dict:=d1,data:= .seq xs n1,slots:=s1}/\s.heap.get? m=some {cls:= .type "tuple",dict:=d2,data:= .seq ys n2,slots:=s2}/\
   (∀j (g1:j<xs.size) (g2:j<ys.size),EqP P w A.in1 s xs[j] ys[j] (f j))/\
   R (.ok (.ret (.bool (!((List.range (min xs.size ys.size)).all f&&xs.size==ys.size))))) s):=
 .of_wp λA R s hyp=>by
  obtain⟨hp,gg,dr,tk,os⟩:=s;obtain⟨e1,e2,he,fin⟩:=hyp;have sub:=QK;have len:(xs.toList.zip ys.toList).length=min xs.size ys.size:=by simp
  wp_walk using wpAny_loadPart' e1,wpAny_loadPart' e2,wpAny_forIn_list _ (λmore acc st=>acc.1=none/\st=⟨hp,gg,dr,tk,os⟩/\∃i,more=(xs.toList.zip ys.toList).drop i/\
   R (.ok (.ret (.bool (!(((List.range (min xs.size ys.size)).drop i).all f&&xs.size==ys.size))))) ⟨hp,gg,dr,tk,os⟩) _
  case turn=>
   rintro⟨y,x⟩ more acc st ⟨ha,rfl,i,hi,hR⟩
   have lt:i<(xs.toList.zip ys.toList).length:=by
    rcases ND i (xs.toList.zip ys.toList).length with z|z
    .exact z
    .rw[Ny z] at hi;cases hi
   have lm:i<min xs.size ys.size:=len▸lt
   have lx:i<xs.size:=LZ lm (Nat.min_le_left _ _)
   have ly:i<ys.size:=LZ lm (Rc _ _)
   rw[ML lt] at hi
   injection hi with h1 h2
   have q1:y=xs[i]:=by simpa using Na Prod.fst h1
   have q2:x=ys[i]:=by simpa using Na Prod.snd h1
   subst q1 q2
   have YL:(List.range (min xs.size ys.size)).drop i=i::(List.range (min xs.size ys.size)).drop (i+1):=by simp [ML,lm]
   rw[YL,Oi] at hR
   refine LG (he i lx ly _ _ ?_)
   cases hf:f i with
   |true=>
    rw[hf] at hR
    wp_walk
    exact⟨rfl,rfl,i+1,h2,by simpa using hR⟩
   |false=>
    rw[hf] at hR
    wp_walk
    exact⟨_,rfl,by simpa using hR⟩
  case fin=>
   rintro⟨c1,c2⟩ st ⟨ha,rfl,i,hi,hR⟩
   simp only at ha
   subst ha
   have ge:min xs.size ys.size<=i:=by
    rcases ND i (xs.toList.zip ys.toList).length with z|z
    .rw[ML z] at hi;cases hi
    .exact len▸z
   rw[Ny (by simpa using ge)] at hR
   wp_walk
   exact⟨_,rfl,by simpa [Builtin.Tuple.tupleCompareSizes,bne] using hR⟩
  case h=>
   exact⟨rfl,rfl,0,rfl,by simpa using fin⟩
def NcP.tup {P:Program}{w:World}{A:Around}{s:Shared}{l m:Addr}{xs ys:Array Value}{f:Nat->Bool}(hl:s.heap.IsTuple l xs)(hm:s.heap.IsTuple m ys)(hu:A.units<cLine)
  (he:∀j (g1:j<xs.size) (g2:j<ys.size),EqP P w A.in1 s xs[j] ys[j] (f j)):NcP P w A s (.ref l) (.ref m) (!((List.range (min xs.size ys.size)).all f&&xs.size==ys.size)):=λE Q q=>by
 obtain⟨⟨c1,d1,a1,s1⟩,o1,k1,n1,t1⟩:=id hl
 obtain⟨⟨c2,d2,a2,s2⟩,o2,k2,n2,t2⟩:=id hm
 simp only at k1 t1 k2 t2
 subst k1 t1 k2 t2
 refine Nt (op:= .NotEq) ⟨_,o1,rfl⟩ ⟨_,o2,rfl⟩ RB (Nl RB ⟨_,o1,rfl⟩ PySem.F.entry_tuple_ne (PySem.F.args_tuple_ne_2 _ _) (Er l m xs ys n1 n2 d1 d2 s1 s2 f) ⟨o1,o2,he,?_⟩) hu
 exact⟨(λz=>nomatch z),q⟩
section
variable {X:Cx} {pins:List (Addr×Obj)} {σ:St} {H:Hp} {s:Shared} {A:Around}
def IP (K:Za):R2:=λx y H Q=>∃a b p q p' q' r r',x= .ref a/\y= .ref b/\SqT K H a [.ref p,.ref q]/\SqT K H b [.ref p',.ref q']/\EqD K H p p' r/\EqD K H q q' r'/\Q (.bl (!(r&&r'))) H
def Ff (hu:X.A.units+64<cLine):OpR X (compareOp .NotEq) (IP X.K):=by
 intro pins s σ H x y v u Q I rx ry h;obtain⟨a,b,p,q,p',q',r,r',rfl,rfl,ha,hb,h1,h2,k⟩:=h;cases rx;cases ry;obtain⟨a_,v1,t1,_⟩:=I.tuple ha;obtain⟨its',v2,t2,_⟩:=I.tuple hb;obtain⟨_,_,rfl,e1,e2⟩:=bR v1;obtain⟨_,_,rfl,e3,e4⟩:=bR v2;cases e1;cases e2;cases e3;cases e4;refine NcP.tup (P:=X.prog) (w:=X.w) (f:=λj=>if j=0 then r else r') (show s.heap.IsTuple a _ from t1) (show s.heap.IsTuple b _ from t2) (by lia) (λj g1 g2=>?_) _ _ ⟨.bl (!(r&&r')),H,I,by show Value.bool _=Value.bool _;simp [OF],k⟩;have g:j<2:=by simpa using g1
 match j,g with
 |0,_=>exact h1.at_ I (by show X.A.units+1+16<_;lia)
 |1,_=>exact h2.at_ I (by show X.A.units+1+16<_;lia)
def Ik (K:Za):R2:=λx y H Q=>∃a b xs ys,x= .ref a/\y= .ref b/\SqL K H a xs/\SqL K H b ys/\xs.all C0=true/\ys.all C0=true/\Q (.bl (!Q8 xs ys)) H
def Eb (hu:X.A.units+64<cLine):OpR X (compareOp .NotEq) (Ik X.K):=by
 intro pins s σ H x y v u Q I rx ry h;obtain⟨a,b,xs,ys,rfl,rfl,ha,hb,fx,fy,k⟩:=h;cases rx;cases ry;obtain⟨a_,r1,p1,z1⟩:=I.list ha;obtain⟨its',r2,p2,z2⟩:=I.list hb;have l1:=r1.length;have l2:=r2.length;have e3:a_.toArray.size=xs.length:=by simp [l1]
 have e4:its'.toArray.size=ys.length:=by simp [l2]
 by_cases hl:xs.length=ys.length
 .have q:=SeqAt.RcNeAt.lists (A:=X.A) (e:=λj=>fc (xs.getD j .non) (ys.getD j .non)) p1.isList p2.isList (by rw[e3,e4];exact hl) (by lia) λj g1 g2=>by
   have RC:j<a_.length:=by simpa using g1
   have RF:j<its'.length:=by simpa using g2
   have x1:xs[j]?=some (xs[j]'(by lia)):=by simp [show j<xs.length by lia]
   have y1:ys[j]?=some (ys[j]'(by lia)):=by simp [show j<ys.length by lia]
   obtain⟨u1,SN,Se⟩:=r1.get x1;obtain⟨u2,Q_,So⟩:=r2.get y1;have e1:a_.toArray[j]=u1:=by
    have:=LA RC;rw[SN] at this;simpa using(Mc this).symm
   have e2:its'.toArray[j]=u2:=by
    have:=LA RF;rw[Q_] at this;simpa using(Mc this).symm
   rw[e1,e2];have d1:xs.getD j .non=xs[j]'(by lia):=by rw[MA,x1];rfl
   have d2:ys.getD j .non=ys[j]'(by lia):=by rw[MA,y1];rfl
   rw[d1,d2];exact cK Se So (Mq.mp fx _ (Mu _)) (Mq.mp fy _ (Mu _))
  have e5:=R0 xs ys;rw[hl,Nat.min_self,Rg,Pf] at e5;rw[e3,hl,e5] at q;exact q X.prog X.w _ _ ⟨.bl _,H,I,rfl,k⟩
 .refine SeqAt.RcNeAt.lists_lengths (A:=X.A) p1.isList p2.isList (by rw[e3,e4];simpa using hl) (by lia) X.prog X.w _ _ ⟨.bl _,H,I,?_,k⟩;rw[gj hl];rfl
def Im (K:Za):R2:=λ_ _ _ _=>False
def Gd (hu:X.A.units+64<cLine):OpR X (compareOp .NotEq) (Im X.K):=by
 intro pins s σ H x y v u Q I rx ry h;exact h.elim
def DP (K:Za):R2:=λ_ _ _ _=>False
def DT (K:Za):R2:=λ_ _ _ _=>False
def Co (hu:X.A.units+64<cLine):OpR X (compareOp .Eq) (DP X.K):=by
 intro pins s σ H x y v u Q I rx ry h;exact h.elim
def Df (hu:X.A.units+64<cLine):OpR X (compareOp .NotEq) (DT X.K):=by
 intro pins s σ H x y v u Q I rx ry h;exact h.elim
def DW (K:Za):R2:=λx y H Q=>mw K x y H Q\/DP K x y H Q
def KA (K:Za){k:Nat}(hr:Room k X.A)(h:X.K=K:=by rfl):OpR X (compareOp .Eq) (DW K):=(Lf K hr h).or (h▸Co hr.units)
def yi (K:Za):R2:=λx y H Q=>Kb x y H Q\/Ik K x y H Q\/Im K x y H Q\/IP K x y H Q\/DT K x y H Q
def KW (K:Za){k:Nat}(hr:Room k X.A)(h:X.K=K:=by rfl):OpR X (compareOp .NotEq) (yi K):=h▸op_ne.or ((Eb hr.units).or ((Gd hr.units).or ((Ff hr.units).or (Df hr.units))))
end
section
variable {K:Za} {H:Hp} {Q:VK}
def JW {x y:V}(q:mw K x y H Q):DW K x y H Q:= .inl q
def sk {i j:Int}(q:Q (.bl (!decide (i=j))) H):yi K (.int i) (.int j) H Q:= .inl (rX q)
def yx {a b:Addr}{xs ys:List V}(ha:SqL K H a xs)(hb:SqL K H b ys)(fx:xs.all C0=true)(fy:ys.all C0=true)(q:Q (.bl (!Q8 xs ys)) H):yi K (.ref a) (.ref b) H Q:= .inr (.inl ⟨a,b,xs,ys,rfl,rfl,ha,hb,fx,fy,q⟩)
def qe {j:Str}(q:Q (.bl false) H):mw K .non (.str j) H Q:= .inl ⟨rfl,by rw[show decide (V.non=V.str j)=false by simp];exact q⟩
def oR {a:Addr}{xs:List V}(ha:SqT K H a xs)(q:Q (.bl false) H):mw K .non (.ref a) H Q:= .inr (.inr (.inl (.inr ⟨a,xs,rfl,rfl,ha,q⟩)))
end
section
variable {X:Cx} {o e f:Expr} {apos b_:Pos} {td ty tx:TE} {name:Str}
def HZ (hb:attributeBase o name X.env (eval o X.env)=eval o X.env)(hl:(apos.endLine==b_.line)=true)(h:z8 e=true):M1 X o name apos e b_:=by
 have z:starEach [e] X.env=[(false,eval e X.env)]:=Q7 (es:=[]) h;have z2:backTo b_ (starEach [e] X.env)=[(false,eval e X.env)]:=by rw[z];rfl
 exact⟨hb,by rw[z2];rfl,hl,z2⟩
def Jm (hb:attributeBase o name X.env (eval o X.env)=eval o X.env)(hl:(apos.endLine==b_.line)=true)(h:z8 e=true)(h':z8 f=true):M2 X o name apos e f b_:=by
 have z:starEach [e,f] X.env=[(false,eval e X.env),(false,eval f X.env)]:=by rw[Q7 (es:=[f]) h,Q7 (es:=[]) h'];rfl
 have z2:backTo b_ (starEach [e,f] X.env)=[(false,eval e X.env),(false,eval f X.env)]:=by rw[z];rfl
 exact⟨hb,by rw[z2];rfl,hl,z2⟩
def vK (hu:X.A.units+1<cLine)(ho:QE X o td)(he:QE X e ty)(hb:attributeBase o "get" X.env (eval o X.env)=eval o X.env:=by rfl)(hl:(apos.endLine==b_.line)=true:=by rfl)(h:z8 e=true:=by rfl):
  QE X (.Call (.Attribute o "get" apos) [e] [] b_) (sS td ty):=⟨zq hu ho.r he.r (HZ hb hl h)⟩
def Ho (hu:X.A.units+1<cLine)(ho:QE X o td)(he:QE X e ty)(hf:QE X f tx)(hb:attributeBase o "get" X.env (eval o X.env)=eval o X.env:=by rfl)(hl:(apos.endLine==b_.line)=true:=by rfl)(h:z8 e=true:=by rfl)(h':z8 f=true:=by rfl):
  QE X (.Call (.Attribute o "get" apos) [e,f] [] b_) (tL td ty tx):=⟨yK hu ho.r he.r hf.r (Jm hb hl h h')⟩
end
section
variable {σ:St} {H:Hp} {Q:VK} {td ty tx:TE}
def GY (q:td σ H λx H1=>∃a,x= .ref a/\HS H1 a/\ty σ H1 λy H2=>∃o,DGet H2 a y o/\Q (o.getD .non) H2):sS td ty σ H Q:=q
end
open Sem (wp)
section
variable {prog:Program} {w:World} {KT:Type} [DecidableEq KT] {knd:KeyKind prog w KT} {A:Around} {E:Value->Shared->Prop} {s:Shared}
def jk {it d:Addr}{i ep:Nat}{kvs:List (KT×Value)}{k:KT}{v:Value}{Q:Value->Shared->Prop}(hit:s.heap.IsKeyIter it d i kvs.length ep)
  (hm:s.heap.DictAt knd d kvs ep) (hx:kvs[i]?=some (k,v))
  (hQ:∀key h',knd.is k key=true->h'.IsKeyIter it d (i+1) kvs.length ep->Heap.SameBut it s.heap h'->Q key {s with heap:=h'}):
  wpAny (model prog w) A (Builtin.SmallTypes.nextOf (.ref it)) Q E s:=by
 obtain⟨o,ho,hc,hd⟩:=id hit
 obtain⟨od,es,SO,G',VG,hk,hp,hn⟩:=id hm
 have hsz:es.size=kvs.length:=by rw[←hp.length];simp
 have j':i<kvs.length:=(MQ.mp hx).1
 have Wz:i<es.size:=by rw[hsz];exact j'
 have j_:knd.is k es[i].key=true:=(hp.get? (e:=es[i]) (by simp [Wz]) hx).1
 have Vf:Builtin.Dict_items.ownsTuple "dict_keyiterator"=false:=by decide
 unfold Builtin.SmallTypes.nextOf
 refine LG (NK (name:=Str.ofString "__next__") hit.typeIs NL
  (NS NL hit.typeIs PU ?_ (PH _)))
 refine LG (LR (LG (LG ?_)))
 first|refine LG (NI hit.typeIs (LR ?_))|refine LG (Ob hit.typeIs (LR ?_))
 refine LG (wpAny_fieldsOf ho hd ?_)
 simp only[Vf,NV,Px]
 show wpAny _ _ (if(Value.ref d==Value.none)=true then _ else _) _ _ s
 rw[if_neg (show ¬((Value.ref d==Value.none)=true) from Ms)]
 refine LG (LR (LG (QL SO VG ?_)))
 rw[if_neg (by rw[hsz];simp)]
 refine LG (LR (LG (wpAny_dictEpoch SO VG ?_)))
 rw[if_neg (by simp)]
 refine LR ?_
 simp only[show ¬((i:Int)<0) from by lia,Px,Pr,Array.getElem?_eq_getElem Wz]
 refine LG ?_
 first|refine LG (NI hit.typeIs (LR ?_))|refine LG (Ob hit.typeIs (LR ?_))
 refine LG (wpAny_isOneOf_keyiter hit.typeIs ?_)
 show wpAny _ _ (setField (.ref it) 1 (rawInt ((i:Int)+1))>>=_) _ _ s
 refine LG (wpAny_setField ho hd (by simp) ?_)
 have E_:(s.heap.update it (Obj.mapFields (·.setIfInBounds 1 (rawInt ((i:Int)+1))))).IsKeyIter it d (i+1) kvs.length ep:=
  ⟨_,PD _ ho (Obj.isFreed_of_fields (Obj.data_mapFields hd _)),(Obj.cls_mapFields ..).trans hc,by rw[Obj.data_mapFields hd];simp [rawInt]⟩
 refine LG (MS ?_)
 refine LG (wpAny_isOneOf_keyiter (s:={s with heap:=s.heap.update it (Obj.mapFields (·.setIfInBounds 1 (rawInt ((i:Int)+1))))}) E_.typeIs ?_)
 show wpAny _ _ (pure es[i].key) _ _ _
 exact LR (LR ⟨_,rfl,LR (hQ _ _ j_ E_ (Om ..))⟩)
def lY {it d:Addr}{i ep:Nat}{kvs:List (KT×Value)}{Q:Value->Shared->Prop}(hh:A.handled=none)(hit:s.heap.IsKeyIter it d i kvs.length ep)
  (hm:s.heap.DictAt knd d kvs ep) (hx:kvs[i]?=none)
  (hE:∀h' e,Heap.ExtBut it s.heap h'->(∃o,h'.get? e=some o/\o.cls= .type "StopIteration")->E (.ref e) {s with heap:=h'}):
  wpAny (model prog w) A (Builtin.SmallTypes.nextOf (.ref it)) Q E s:=by
 obtain⟨o,ho,hc,hd⟩:=id hit
 obtain⟨od,es,SO,G',VG,hk,hp,hn⟩:=id hm
 have hsz:es.size=kvs.length:=by rw[←hp.length];simp
 have hge:es.size<=i:=by rw[hsz];simpa using hx
 have Vf:Builtin.Dict_items.ownsTuple "dict_keyiterator"=false:=by decide
 unfold Builtin.SmallTypes.nextOf
 refine LG (NK (name:=Str.ofString "__next__") hit.typeIs NL
  (NS NL hit.typeIs PU ?_ (PH _)))
 refine LG (LR (LG (LG ?_)))
 first|refine LG (NI hit.typeIs (LR ?_))|refine LG (Ob hit.typeIs (LR ?_))
 refine LG (wpAny_fieldsOf ho hd ?_)
 simp only[Vf,NV,Px]
 show wpAny _ _ (if(Value.ref d==Value.none)=true then _ else _) _ _ s
 rw[if_neg (show ¬((Value.ref d==Value.none)=true) from Ms)]
 refine LG (LR (LG (QL SO VG ?_)))
 rw[if_neg (by rw[hsz];simp)]
 refine LG (LR (LG (wpAny_dictEpoch SO VG ?_)))
 rw[if_neg (by simp)]
 refine LR ?_
 simp only[show ¬((i:Int)<0) from by lia,Px,Pr,Array.getElem?_eq_none hge]
 refine LG ?_
 first|refine LG (NI hit.typeIs (LR ?_))|refine LG (Ob hit.typeIs (LR ?_))
 show wpAny _ _ (setField (.ref it) 0 .none>>=_) _ _ s
 refine LG (wpAny_setField ho hd (by simp) ?_)
 show wpAny _ _ (newExc (.type "StopIteration") []>>=_) _ _ _
 refine LG ?_
 simp only[newExc,newTuple]
 refine LG (NB ?_ (by size_fits))
 refine LG (m:=firstArgMember _ _) (wpAny_of_eq (a:=Value.none) (by first|rfl|(simp only[firstArgMember];rfl)) ?_)
 refine NB ?_ (by size_fits)
 simp only[raiseNew]
 refine LG (wpAny_handled ?_)
 first|rw[show A.in1.handled=none from hh]|rw[hh]
 refine LG (LR (wpAny_throw ?_))
 exact hE _ _ (((Om ..).extBut.push _).push _) ⟨_,Md _ rfl,rfl⟩
end
section
variable {prog:Program} {w:World} {KT:Type} [DecidableEq KT] {knd:KeyKind prog w KT} {A:Around} {E:Value->Shared->Prop} {s:Shared}
open PySem.AutoSeq1 (wpAny_loadPart')
abbrev Y3 (d:Addr)(n ep:Nat):Obj:={cls:= .type "dict_keyiterator",data:= .fields #[.ref d,.int 0 0,.int n 0,.int ep 0]}
abbrev pS (it:Addr):Obj:={cls:= .type "enumerate",data:= .fields #[.none,.bool false,.ref it,rawInt 0,.none,.none]}
def Au (d:Addr)(kvs:List (KT×Value))(ep:Nat)(hd:(d==sysModules)=false):
  MeetsIn prog w (Builtin.«enumerate.__new__» ⟨[.type "enumerate",.ref d],[]⟩) (λ_ R s=>s.heap.DictAt knd d kvs ep/\
   R (.ok (.ret (.ref (s.heap.push (Y3 d kvs.length ep)).objs.size))) {s with heap:=(s.heap.push (Y3 d kvs.length ep)).push (pS s.heap.objs.size)}):=
 .of_wp λA R s h=>by
  obtain⟨hp,g,dr,tk,os⟩:=s;obtain⟨hm,h⟩:=h;have Uk:=sub_enumerate;obtain⟨⟨c,dct,dt,sl⟩,es,SO,G',VG,hk,w_,hn⟩:=id hm;have hc:c= .type "dict":=G'.1;subst hc;wp_walk using wpAny_loadPart' SO;refine wpAny_stack_any λst=>LR ?_;split
  .rename_i c _ _ _ _ _
   cases (c==Value.type "enumerate")
   .wp_walk using wpAny_loadPart' SO,Pt hd hm;exact⟨_,rfl,h⟩
   .wp_walk using wpAny_loadPart' SO,Pt hd hm;exact⟨_,rfl,h⟩
  .wp_walk using wpAny_loadPart' SO,Pt hd hm;exact⟨_,rfl,h⟩
def tK {d:Addr}{kvs:List (KT×Value)}{ep:Nat}{Q:Value->Shared->Prop}(hd:(d==sysModules)=false)(hm:s.heap.DictAt knd d kvs ep)
  (h:∀h',IsEnum h' (s.heap.objs.size+1) s.heap.objs.size 0 .none->h'.IsKeyIter s.heap.objs.size d 0 kvs.length ep->h'.objs.size=s.heap.objs.size+2->
   (∀b o,s.heap.get? b=some o->h'.get? b=some o)->Q (.ref (s.heap.objs.size+1)) {s with heap:=h'}):
  wpAny (model prog w) A (call (.type "enumerate") [.ref d]) Q E s:=by
 refine callType_newIn F.called_enumerate (by decide) (F.typeCall_enumerate_1 _) (F.newCall_enumerate_1 _) (λobj=>F.args_object_init_2 obj _) F.entry_enumerate_new
  (Au (knd:=knd) d kvs ep hd) ⟨hm,?_⟩
 have hz:(s.heap.push (Y3 d kvs.length ep)).objs.size=s.heap.objs.size+1:=OO ..
 show _/\_
 rw[hz]
 have he:IsEnum ((s.heap.push (Y3 d kvs.length ep)).push (pS s.heap.objs.size)) (s.heap.objs.size+1) s.heap.objs.size 0 .none:=by
  have:=Md (s.heap.push (Y3 d kvs.length ep)) (o:=pS s.heap.objs.size) rfl;rw[hz] at this;exact this
 refine⟨⟨_,he,rfl⟩,h _ he ⟨_,LL _ (Md _ rfl),rfl,rfl⟩ (by rw[OO,hz]) λb o x=>LL _ (LL _ x)⟩
def oh (hh:A.handled=none){it d:Addr}(u_:d≠it)(kvs:List (KT×Value))(ep:Nat):
  Draws prog w A it [it,d] kvs.length (λi v=>∃k x,kvs[i]?=some (k,x)/\knd.is k v=true) (λi h=>h.IsKeyIter it d i kvs.length ep/\h.DictAt knd d kvs ep) where
 live:=λ_ _ st=>let ⟨o,ho,_⟩:=st.1;⟨o,ho⟩
 frame:=λ_ _ _ st hk=>⟨st.1.at λo e=>hk it (by simp) o e,let ⟨o,es,e,r⟩:=st.2;⟨o,es,hk d (by simp) o e,r⟩⟩
 item:=λi s Q E hi st hQ=>by
  obtain⟨⟨k,x⟩,hx⟩:∃p,kvs[i]?=some p:=⟨kvs[i],by simp [hi]⟩
  refine jk st.1 st.2 hx λkey h' j_ E_ hs'=>?_;exact hQ key h' s.toks ⟨k,x,hx,j_⟩ ⟨E_,let ⟨o,es,e,r⟩:=st.2;⟨o,es,hs'.extBut _ _ u_ e,r⟩⟩ hs'
 done:=λs Q E st hE=>lY hh st.1 st.2 (by simp) hE
end
def Gw (d:Addr)(o:Obj)(kvs:List (i6×V)):It:=
 ⟨λi H=>H d=some (.frz o (.dK kvs))/\i<kvs.length,λi H x H'=>∃t kv,kvs[i]?=some kv/\H t=none/\x= .ref t/\H'=upd H t (.tup [.int i,kV kv.1]),λi H=>H d=some (.frz o (.dK kvs))/\kvs.length=i⟩
def uA {P:Program}{w:World}{K:Za}{elts:List Expr}{x1}{n_:Pos}{d:Addr}{o:Obj}{kvs:List (i6×V)}{vs:List (i6×Value)}{ep:Nat}(D:xX P w d o kvs vs ep){en it:Addr}(u_:en≠it):
  fQ P w K (.Tuple elts x1 n_) (Gw d o kvs) [en,it] en (λi h=>∃old,IsEnum h en it i old/\h.IsKeyIter it d i vs.length ep) where
 mem:=by simp
 obj:=λi h st b hb=>by
  obtain⟨old,h1,o,e,c,dd⟩:=st;have x_:b=en\/b=it:=by simpa using hb
  rcases x_ with rfl|rfl
  .exact⟨_,h1,λv z=>by
    have z':Data.fields _=Data.cell v:=z;cases z'⟩
  .exact⟨o,e,λv z=>by rw[dd] at z;cases z⟩
 keep:=λi h h' st k=>by
  obtain⟨old,h1,h2⟩:=st;exact⟨old,k en (by simp) _ h1,h2.at λo e=>k it (by simp) o e⟩
 item:=by
  intro X hP hw hK hc i pins s σ H E I hf st hg;subst hP hw hK;obtain⟨old,N',A_⟩:=st;obtain⟨M_,hi⟩:=hg;have dat:=D.at_ s.heap (I.hok d _ M_).1;have hl:=KV.length D.kv;have Tx:d≠it:=d9 M_ (hf it (by simp)).1;have hde:d≠en:=d9 M_ (hf en (by simp)).1;have UI:en<s.heap.objs.size:=LU N';have hit:it<s.heap.objs.size:=by obtain⟨o,e,_⟩:=A_;exact LU e
  obtain⟨kv,h_⟩:∃kv,kvs[i]?=some kv:=⟨kvs[i],by simp [hi]⟩
  refine wpAny_pyNext_enum_itemD (oh (knd:=j7 X.prog X.w) (A:=X.A.in1) (show X.A.in1.handled=none from I.ok.hd hc) Tx vs ep) N' ⟨A_,dat⟩ (by lia) u_ (by simp;exact⟨u_,Nr hde⟩) λu h' tk hP TV hst1 ht1 Wy TY=>?_;obtain⟨k,x,hx,j_⟩:=hP;have RV:kv.1=k:=by
   have e1:(kvs.map (·.1))[i]?=some kv.1:=by rw[LF,h_];rfl
   rw[KV.keys D.kv,LF,hx] at e1;exact(Mc e1).symm
  refine⟨.ref s.heap.objs.size,rfl,Qk (s:={s with heap:=h',toks:=tk+1}) TV λF' he'' hs''=>?_⟩;have SK:Heap.SameBut en h' F':=hs'';have QV:F'.get? s.heap.objs.size=some {cls:= .type "tuple",data:= .seq #[.int i tk,u]}:=SK.extBut _ _ (Qp UI) ht1;obtain⟨fr,I1,YK⟩:=I.pairNew (fp:=[en,it]) (h':=F') (tk:=tk+1) (x:= .int i) (y:=kV kv.1) hf (λb o hb e=>by
   have x_:b≠en/\b≠it:=by simpa using hb
   exact SK.extBut b o x_.1 (TY b o x_.1 x_.2 e)) (λb hb=>by
   have x_:b=en\/b=it:=by simpa using hb
   rcases x_ with rfl|rfl
   .exact UI
   .exact hit) QV ⟨_,rfl⟩ (by rw[RV];exact fV j_)
  refine⟨.ref s.heap.objs.size,_,I1,rfl,⟨_,kv,h_,fr,rfl,rfl⟩,⟨_,he'',?_⟩,YK⟩;exact hst1.1.at λo e=>SK.extBut it o (Nr u_) e
 done:=by
  intro X hP hw hK hc i pins s σ H E I hf st hg;subst hP hw hK;obtain⟨old,N',A_⟩:=st;obtain⟨M_,hi⟩:=hg;have dat:=D.at_ s.heap (I.hok d _ M_).1;have hl:=KV.length D.kv;have Tx:d≠it:=d9 M_ (hf it (by simp)).1;have e:i=vs.length:=by lia
  subst e;exact wpAny_pyNext_enum_endD (oh (knd:=j7 X.prog X.w) (A:=X.A.in1) (show X.A.in1.handled=none from I.ok.hd hc) Tx vs ep) N' ⟨A_,dat⟩ λh' eb=>⟨rfl,I.turnedAll (fp:=[en,it]) (tk:=s.toks) hf λb o hb e=>eb b o (by
   have x_:b≠en/\b≠it:=by simpa using hb
   exact x_.2) e⟩
 self:=λ_ _ _ _ _ st h=>by
  obtain⟨old,N',A_⟩:=st;exact Pu N' h
section
variable {X:Cx} {a:Expr} {t:TA} {p pos:Pos}
def um (K:Za)(ta:TA):qm:=λσ H R=>ta σ H λvs H1=>∃v,vs=[v]/\((∃l xs,v= .ref l/\SqL K H1 l xs/\R (Kt K l) id H1)\/rIterD Gw v H1 R)
def yX {elts:List Expr}{x1}{n_:Pos}(hg:Gl X "enumerate")(hm:X.mg "enumerate"=none)(ha:PA X [a] t)(hs:starEach [a] X.env=[(false,eval a X.env)]):zW X (.Tuple elts x1 n_) (.Call (.Name "enumerate" p) [a] [] pos) (um X.K t):=by
 intro pins s σ H R I h;refine Call_ (dh I hg hm Boot.«enumerate» (Nc (J0 (ha pos pins s σ H _ I h) λus s1 ⟨vs,H1,I1,r1,q1⟩=>?_) hs rfl));obtain⟨v,e,q⟩:=q1;subst e;obtain⟨u,rfl,ru⟩:=M9 r1;rcases q with⟨l,xs,rfl,hq,q⟩|q
 .cases ru;obtain⟨a_,rv,pl,hz⟩:=I1.list hq;refine call_enumerate_list pl.isList λh' he hit hsz hk=>?_;have I2:Inv X pins σ H1 {s1 with heap:=h'}:=I1.kept (t':=s1.toks) hk;refine Pu (s:={s1 with heap:=h'}) he ?_;refine⟨s1.heap.objs.size+1,[s1.heap.objs.size+1,s1.heap.objs.size],_,_,H1,rfl,I2,wJ (l:=l) (Nat.succ_ne_self _),⟨_,he,hit⟩,λb hb=>?_,id,gd,q⟩;have x_:b=s1.heap.objs.size+1\/b=s1.heap.objs.size:=by simpa using hb
  rcases x_ with rfl|rfl
  .exact I1.fpOk (OE _) (I1.hok.fresh (OE _))
  .exact I1.fpOk (LC _) (I1.hok.fresh (LC _))
 .obtain⟨d,kvs,o,vs,ep,th,H',rfl,hd,ho,D,I2,RP,q⟩:=rIterD.go I1 ru q;refine tK (knd:=j7 X.prog X.w) hd (D.at_ _ ho) λh' he hit hsz hk=>?_;have I3:Inv X pins σ H' {s1 with heap:=h'}:=I2.kept (t':=s1.toks) hk;refine Pu (s:={s1 with heap:=h'}) he ?_;refine⟨s1.heap.objs.size+1,[s1.heap.objs.size+1,s1.heap.objs.size],_,_,H',rfl,I3,uA D (Nat.succ_ne_self _),⟨_,he,hit⟩,λb hb=>?_,th,RP,q⟩;have x_:b=s1.heap.objs.size+1\/b=s1.heap.objs.size:=by simpa using hb
  rcases x_ with rfl|rfl
  .exact I2.fpOk (OE _) (I2.hok.fresh (OE _))
  .exact I2.fpOk (LC _) (I2.hok.fresh (LC _))
def bW (K:Za){elts:List Expr}{x1}{n_:Pos}(hm:X.mg "enumerate"=none)(ha:QA X [a] t)(hg:Gl X "enumerate":=by rfl)(h:z8 a=true:=by rfl)(hK:X.K=K:=by rfl):QI X (.Tuple elts x1 n_) (.Call (.Name "enumerate" p) [a] [] pos) (um K t):=
 ⟨hK▸yX hg hm ha.r (Q7 h)⟩
end
section
variable {K:Za} {σ:St} {H:Hp} {ta:TA} {R:It->(Hp->Hp)->Hp->Prop}
def Di (q:ta σ H λvs H1=>∃v,vs=[v]/\((∃l xs,v= .ref l/\SqL K H1 l xs/\R (Kt K l) id H1)\/rIterD Gw v H1 R)):um K ta σ H R:=q
end
open Sem (wp)
def oy:typeLookup (.type "list") "keys"=pure none:=by rw[RD,PJ];kernel_rfl
section
variable {prog:Program} {w:World} {A:Around} {E:Value->Shared->Prop} {s:Shared}
def xA {a:Addr}{o:Obj}{xs:Array Value}{k:Nat}{Q:Option Value->Shared->Prop}
  (hx:s.heap.get? a=some o) (hc:o.cls= .type "list") (J':o.data= .seq xs k) (hd:o.dict=none) (hA:A.handled=none)
  (h:∀h' tk,(∀b ob,s.heap.get? b=some ob->h'.get? b=some ob)->Q none {s with heap:=h',toks:=tk}):
  wpAny (model prog w) A (getAttr? (.ref a) "keys") Q E s:=by
 obtain⟨c,dct,dat,sl⟩:=o
 simp only at hc J' hd
 subst hc J' hd
 obtain⟨hp,g,d,tk,os⟩:=s
 have hT:∀tk',(⟨hp,g,d,tk',os⟩:Shared).TypeIs (.ref a) "list":=λ_=>⟨_,hx,rfl⟩
 have f1:=sub_AttributeError
 have f3:=OX.lookup
 have f4:=OX.bind (.ref a)
 have f5:=am_list_getattr_none
 unfold getAttr? getAttrBy? getAttrBy
 repeat(any_goals (first|assumption|exact hT _|((with_reducible show wpAny _ _ (call (Value.builtin "list.__getattribute__") _ _) _ _ _);refine QD OX (hT _) am_entry_list_getattribute (F.args_list_getattribute_2 _ _) (meets_getattribute_miss_list a xs k sl "keys" _ oy (by decide+kernel) (by decide+kernel)) ⟨hx,hA,λh' tk' e C_=>?_⟩)|wp_step))
 obtain⟨t',u',he⟩:=C_.there
 show wpAny _ _ (getattributeRaised _ _ _ _ _ _ _) _ _ _
 unfold getattributeRaised
 repeat(any_goals (first|assumption|wp_step))
 exact h _ _ C_.keeps
end
def Q2:entryFor table "dict.update.loop"=some Builtin.«dict.update.loop»:=entryFor_of_tree (by kernel_rfl)
def B7:plainId "dict.update.loop"=true:=by decide+kernel
section
variable {prog:Program} {w:World} {KT:Type} [DecidableEq KT] {knd:KeyKind prog w KT} {A:Around} {E:Value->Shared->Prop}
def PairAt (knd:KeyKind prog w KT)(h:Heap)(d it:Addr)(u:Value)(kv:KT×Value):Prop:=∃t key,u= .ref t/\h.IsTuple t #[key,kv.2]/\knd.is kv.1 key=true/\t≠d/\t≠it
def PairAt.keep {h h':Heap}{d it:Addr}{u:Value}{kv:KT×Value}(p:PairAt knd h d it u kv)(k:∀b o,b≠d->b≠it->h.get? b=some o->h'.get? b=some o):PairAt knd h' d it u kv:=by
 obtain⟨t,key,e,⟨o,ho,r⟩,hk,h1,h2⟩:=p;exact⟨t,key,e,⟨o,k t o h1 h2 ho,r⟩,hk,h1,h2⟩
def xO {d it l:Addr}{items:List Value}{res:Value}(hh:A.handled=none)(Tx:d≠it)(YO:l≠it)(YQ:l≠d):
  ∀(more:List (KT×Value)) (i:Nat) (s:Shared) (kvs:List (KT×Value)) (R:Result->Shared->Prop),
   s.heap.IsListIter it l i->s.heap.IsList l items.toArray->Paired (PairAt knd s.heap d it) (items.drop i) more->s.heap.DictOf knd d kvs->kvs.length+more.length<=sizeLine->
   (∀h' tk,(∀b o,b≠d->b≠it->s.heap.get? b=some o->h'.get? b=some o)->h'.DictOf knd d (more.foldl (λa x=>stored a x.1 x.2) kvs)->R (.ok (.ret res)) {s with heap:=h',toks:=tk})->
   codeAny (model prog w) A (.builtin "dict.update.loop" ⟨[.ref d,.ref it,rawInt (i:Int),res],[]⟩) R s:=by
 intro more
 induction more with
 |nil=>
  intro i s kvs R hit hl hp hd hz hR
  have hx:items.toArray[i]?=none:=by
   have hn:items.drop i=[]:=by cases w_:items.drop i with
    |nil=>rfl
    |cons x r=>rw[w_] at hp;cases hp
   have:=PX.mp hn;simp;lia
  refine Nh Q2 ?_
  rw[MV B7 _]
  show wpAny _ A.in1 (pyNext (.ref it)>>=_) _ _ s
  refine LG (PB (A:=A.in1) hh hit hl hx λh' eb=>?_)
  show wpAny _ A.in1 (Builtin.Dict.addKeywords d []>>=_) _ _ _
  refine LG (LR (LR ?_))
  exact hR h' s.toks (λb o h1 h2 e=>eb b o h2 e) (hd.extBut eb Tx)
 |cons kv more ih=>
  intro i s kvs R hit hl hp hd hz hR
  obtain⟨x,hx,hp0,SQ⟩:∃x,items.toArray[i]?=some x/\PairAt knd s.heap d it x kv/\Paired (PairAt knd s.heap d it) (items.drop (i+1)) more:=by
   cases w_:items.drop i with
   |nil=>rw[w_] at hp;cases hp
   |cons x r=>
    rw[w_] at hp
    cases hp with
    |cons h1 h2=>
     refine⟨x,?_,h1,?_⟩
     .have z:=Na List.head? w_
      simpa using z
     .have z:=Na List.tail w_
      rw[RT] at z
      rw[z];exact h2
  obtain⟨t,key,rfl,⟨ot,WB,hct,nt,hdt⟩,j_,h1,h2⟩:=hp0
  refine Nh Q2 ?_
  rw[MV B7 _]
  show wpAny _ A.in1 (pyNext (.ref it)>>=_) _ _ s
  refine LG (Pm hit hl hx λh' E_ hs'=>?_)
  have WC:h'.get? t=some ot:=hs'.extBut _ _ h2 WB
  refine LG (MS (LG (wpAny_tryCatch ?_)))
  unfold Builtin.Dict.pairItems
  refine LG (Qr (s:={s with heap:=h'}) ⟨_,WC,hct⟩ ?_)
  rw[if_pos (by decide)]
  refine LG (Qx (s:={s with heap:=h'}) WC hdt ?_)
  refine LR ?_
  show wpAny _ A.in1 (holding [key,kv.2] (dictSet d key kv.2)) _ _ _
  refine MS (wpAny_dictSet_pairs (s:={s with heap:=h'}) (kvs:=kvs) j_ (hd.extBut hs'.extBut Tx) (λF' dd hs''=>?_) (by simp only[Mi] at hz;lia))
  have kp:∀b o,b≠d->b≠it->s.heap.get? b=some o->F'.get? b=some o:=λb o Vg Rn e=>hs''.extBut b o Vg (hs'.extBut b o Rn e)
  refine LR ⟨NW B7 _,?_⟩
  refine ih (i+1) _ (stored kvs kv.1 kv.2) R ?_ ?_ (Paired.imp' (λ_ _ z=>z.keep kp) SQ) dd ?_ (λh3 tk k3 d3=>hR h3 tk (λb o e1 e2 e=>k3 b o e1 e2 (kp b o e1 e2 e)) d3)
  .exact E_.at λo e=>hs''.extBut it o (Nr Tx) e
  .obtain⟨ol,v_,r⟩:=hl
   exact⟨ol,kp l ol YQ YO v_,r⟩
  .have z:=stored_length_le kvs kv.1 kv.2
   simp only[Mi] at hz
   lia
def jt {l:Addr}{items:List Value}{o:Obj}{n:Nat}{more:List (KT×Value)}{s:Shared}{Q:Value->Shared->Prop}(hh:A.handled=none)(ho:s.heap.get? l=some o)(hc:o.cls= .type "list")(J':o.data= .seq items.toArray n)(WD:o.dict=none)(hz:more.length<=sizeLine)
  (hp:Paired (λu kv=>∃t key,u= .ref t/\s.heap.IsTuple t #[key,kv.2]/\knd.is kv.1 key=true) items more)
  (h:∀h' tk,h'.DictOf knd s.heap.objs.size (more.foldl (λa x=>stored a x.1 x.2) [])->(∀b o,s.heap.get? b=some o->h'.get? b=some o)->Q (.ref s.heap.objs.size) {s with heap:=h',toks:=tk}):
  wpAny (model prog w) A (call (.type "dict") [.ref l]) Q E s:=by
 refine callType_codes (Q₁:=λobj s₁=>obj= .ref s.heap.objs.size/\s₁={s with heap:=s.heap.push {cls:= .type "dict",data:= .dict #[]}}) F.kt_called_dict (F.kt_typeCall_dict_1 _) F.entry_dict_init (kt_code_dict_new _ ⟨rfl,rfl⟩) ?_
 rintro obj s₁ ⟨rfl,rfl⟩
 have q_:(s.heap.push {cls:= .type "dict",data:= .dict #[]}).DictOf knd s.heap.objs.size []:=Rx s.heap
 have Wq:l≠s.heap.objs.size:=Mf (LU ho)
 refine⟨q_.typeIs,F.args_dict_init_2 _ _,?_⟩
 unfold Builtin.«dict.__init__»
 refine LG ?_
 unfold Builtin.Dict.selfAndRest
 refine LG (PK q_.typeIs ?_)
 show wpAny _ _ (pure (s.heap.objs.size,[Value.ref l])) _ _ _
 refine LR ?_
 show wpAny _ _ (Builtin.Dict.updateFrom "dict.__init__" s.heap.objs.size (.ref l) [] .none) _ _ _
 unfold Builtin.Dict.updateFrom
 have Tz:(s.heap.push {cls:= .type "dict",data:= .dict #[]}).get? l=some o:=LL _ ho
 refine LG (Qr (s:={s with heap:=s.heap.push {cls:= .type "dict",data:= .dict #[]}}) ⟨_,Tz,hc⟩ ?_)
 rw[if_pos (by decide)]
 refine LG (xA (s:={s with heap:=s.heap.push {cls:= .type "dict",data:= .dict #[]}}) Tz hc J' WD hh λh2 Um k2=>?_)
 rw[if_pos (show((none:Option Value).isNone)=true from rfl)]
 have Th:h2.get? l=some o:=k2 l o Tz
 have hd2:h2.DictOf knd s.heap.objs.size []:=let ⟨od,es,ep,e,r⟩:=q_;⟨od,es,ep,k2 _ _ e,r⟩
 have j':s.heap.objs.size<h2.objs.size:=by obtain⟨od,es,ep,e,r⟩:=hd2;exact LU e
 have up:∀b ob,s.heap.get? b=some ob->(h2.push {cls:= .type "list_iterator",data:= .fields #[.ref l,.int 0 0]}).get? b=some ob:=λb ob e=>LL _ (k2 b ob (LL _ e))
 refine LG (SX (LG (OJ (l:=l) (items:=items.toArray) ⟨o,Th,hc,n,J'⟩ ?_)))
 refine LR ⟨NW B7 _,?_⟩
 refine xO (knd:=knd) (l:=l) (items:=items) (A:=A.in1) hh (Mf j') (Mf (LU Th)) Wq more 0 _ [] _ ⟨_,Md _ rfl,rfl,rfl⟩ ⟨o,LL _ Th,hc,n,J'⟩ ?_ (hd2.push _) (by simpa using hz) λh3 tk k3 d3=>⟨rfl,h h3 tk d3 λb ob e=>k3 b ob (Mf (LU e)) (Mf (Rw (LU e) j')) (up b ob e)⟩
 rw[Py]
 refine Paired.imp' (λu kv z=>?_) hp
 obtain⟨t,key,rfl,⟨ot,WB,r⟩,hk⟩:=z
 exact⟨t,key,rfl,⟨ot,up t ot WB,r⟩,hk,Mf (LU WB),Mf (Rw (LU WB) j')⟩
end
section
variable {X:Cx}
def PrV (K:Za)(H:Hp)(x:V)(kv:i6×V):Prop:=∃t,x= .ref t/\SqT K H t [kV kv.1,kv.2]
def aU (kvs:List (i6×V)):List (i6×V):=kvs.foldl (λa x=>E1 a x.1 x.2) []
theorem KV.puts:∀{ps:List (i6×V)} {qs:List (i6×Value)} {a:List (i6×V)} {b:List (i6×Value)},KV ps qs->KV a b->KV (ps.foldl (λa x=>E1 a x.1 x.2) a) (qs.foldl (λa x=>stored a x.1 x.2) b)
 |_,_,_,_,.nil,h=>h
 |_::_,_::_,a,b,.cons r t,h=>by
  obtain⟨e,rv⟩:=r;rw[NO,NO];refine KV.puts t ?_;rw[←e];exact KV.put h _ rv
theorem cq:∀(ps:List (i6×V)) (a:List (i6×V)),(ps.foldl (λa x=>E1 a x.1 x.2) a).length<=a.length+ps.length
 |[],a=>LC _
 |p::r,a=>by
  rw[NO,Mi];have z:=cq r (E1 a p.1 p.2);have z2:=O7 a p.1 p.2;lia
def Fb {pins : List (Addr × Obj)} {σ : L2.St} {H : Hp} {s : Shared} (I : Inv X pins σ H s) : ∀ {xs : List V} {kvs : List (i6 × V)} {us : List Value}, Paired (PrV X.K H) xs kvs -> Vals xs us -> ∃ more : List (i6 × Value), KV kvs more /\ Paired (λu kv => ∃ t key, u = Value.ref t /\ s.heap.IsTuple t #[key, kv.2] /\ (j7 X.prog X.w).is kv.1 key = true) us more
 := by
  intro xs kvs us hp hv;induction hp generalizing us with
  | nil => cases hv; exact ⟨[], .nil, .nil⟩
  | @cons x kv l m r t ih => cases hv with
    | cons r' t' =>
      obtain ⟨tt, rfl, sq⟩ := r
      cases r'
      obtain ⟨a_, v1, t1, _⟩ := I.tuple sq
      obtain ⟨key, v, rfl, rk, rv⟩ := bR v1
      obtain ⟨more, h1, h2⟩ := ih t'
      exact ⟨(kv.1, v) :: more, .cons ⟨rfl, rv⟩ h1, .cons ⟨tt, key, rfl, t1, gP rk⟩ h2⟩
def yw (K:Za):List V->Hp->VK->Prop:=λxs H Q=>∃(p:Addr) (ys:List V) (kvs:List (i6×V)),xs=[.ref p]/\SqL K H p ys/\Paired (PrV K H) ys kvs/\kvs.length<=sizeLine/\∀l,H l=none->Q (.ref l) (upd H l (.dK (aU kvs)))
def tP (hc:X.calm=true):CallR X (.type "dict") (yw X.K):=by
 intro pins s σ H xs us Q I r h;obtain⟨p,ys,kvs,rfl,hq,hp,hz,q⟩:=h;obtain⟨u,rfl,ru⟩:=M9 r;cases ru;obtain⟨a_,rv,pl,_⟩:=I.list hq;obtain⟨more,kv,pr⟩:=Fb I hp rv;obtain⟨o,n,e,c,hd,dt⟩:=pl;have hl:more.length=kvs.length:=(KV.length kv).symm;refine jt (knd:=j7 X.prog X.w) (I.ok.hd hc) e c dt hd (by lia) pr λh' tk dd k=>?_;refine⟨.ref s.heap.objs.size,_,?_,rfl,q _ (I.hok.fresh (LC _))⟩;refine I.laid (a:=s.heap.objs.size) (o:= .dK (aU kvs)) (t':=tk) k (LC _) (lH ?_ (Oj.mpr (Nr (Mf I.big))) (KV.puts kv .nil) dd);have z:=cq kvs [];unfold aU;simp only[Pd] at z;lia
def pH (K:Za):List V->Hp->VK->Prop:=λxs H Q=>Du xs H Q\/yw K xs H Q
def cz (K:Za)(hc:X.calm=true)(h:X.K=K:=by rfl):CallR X (.type "dict") (pH K):=by
 subst h;intro pins s σ H xs us Q I r h;rcases h with h|h
 .exact tJ pins s σ H xs us Q I r h
 .exact tP hc pins s σ H xs us Q I r h
end
section
variable {K:Za} {H:Hp} {Q:VK}
def Y4 {p:Addr}{kvs:List (i6×V)}(h:Rd H p (.dK kvs))(q:∀l,H l=none->Q (.ref l) (upd H l (.dK kvs))):pH K [.ref p] H Q:= .inl ⟨p,kvs,rfl,h,q⟩
def R5 {p:Addr}{xs:List V}{kvs:List (i6×V)}(h:SqL K H p xs)(hp:Paired (PrV K H) xs kvs)(hz:kvs.length<=sizeLine)(q:∀l,H l=none->Q (.ref l) (upd H l (.dK (aU kvs)))):pH K [.ref p] H Q:= .inr ⟨p,xs,kvs,rfl,h,hp,hz,q⟩
end
section
variable {X:Cx}
end
def ObjOk.there {P:Program}{w:World}{H:Hp}{h:Heap}{a:Addr}{o:HO}(x:ObjOk P w H h a o):∃u,h.get? a=some u:=by
 induction o with
 |lst xs=>obtain⟨_,_,_,_,e⟩:=x;exact⟨_,e⟩
 |tup xs=>obtain⟨_,_,_,o,e,_⟩:=x;exact⟨_,e⟩
 |dK kvs=>obtain⟨_,_,_,_,o,_,_,e,_⟩:=x;exact⟨_,e⟩
 |dT kvs=>obtain⟨_,_,_,_,o,_,_,e,_⟩:=x;exact⟨_,e⟩
 |set S n=>obtain⟨o,_,_,_,e,_⟩:=x;exact⟨_,e⟩
 |ins C dx fs=>obtain⟨_,_,_,e,_⟩:=x;exact⟨_,e⟩
 |own y=>exact x
 |xd fs=>obtain⟨_,⟨_,_,_,e,_⟩,_⟩:=x;exact⟨_,e⟩
 |rng lo hi=>obtain⟨_,_,_,e⟩:=x;exact⟨_,e⟩
 |frz ob u=>obtain⟨e,_⟩:=x;exact⟨_,e⟩
 |tbl ps=>exact⟨_,show h.get? a=some _ from x⟩
 |met f y=>exact⟨_,show h.get? a=some _ from x⟩
 |ext φ=>obtain⟨_,e,_⟩:=x;exact e
structure Fly (P:Program) (w:World) (outer:List Env) (H:Hp) (s:Shared) (a C:Addr) (a0:Value) (B:Heap) (H':Hp) (s':Shared):Prop where
 fl:Heap.FlyingW B outer a (.ref C) a0 s'.heap
 os:s'.os=s.os
 bare:AllBare s'.gens
 un:Un (aZ outer) [] H H' s.heap s'.heap
 hok:HOk P w H' s'.heap
 kp:∀b o,s.heap.get? b=some o->H b=none->b∉aZ outer->B.get? b=some o
 th:∀b o,s.heap.get? b=some o->b∉aZ outer->∃o',B.get? b=some o'
 tr:∀b o,H' b=some o->∃u,B.get? b=some u
 nw:H' a=none
def ic (P:Program)(w:World):qo:=λouter H s E e s'=>∃(a C:Addr) (a0:Value) (B:Heap) (H':Hp),e= .ref a/\Fly P w outer H s a C a0 B H' s'/\E (.ref C) (some a) H'
def ux {P:Program}{w:World}{H:Hp}{B h h':Heap}(ok:HOk P w H h)(tr:∀b o,H b=some o->∃u,B.get? b=some u)(k1:B.StaysIn h)(k2:B.StaysIn h'):HOk P w H h':=λa o e=>
 (ok a o e).stay (λb u hb q=>by
  have hH:∃o',H b=some o':=by
   rcases hb with rfl|hb
   .exact⟨_,e⟩
   .exact⟨_,hb⟩
  obtain⟨o',Ue⟩:=hH;obtain⟨u',hu'⟩:=tr b o' Ue;have z:=k1 b u' hu';rw[q] at z;cases z;exact k2 b _ hu') (λ_ z=>z) λ_ _ z=>z
section
variable {X:Cx} {pins:List (Addr×Obj)} {σ:St} {H:Hp} {s s':Shared}
def K2 {base h:Heap}{l:List Env}(F:h.FunFrames base l){b:Addr}{o:Obj}(hb:b∈aZ l)(e:h.get? b=some o):∀vs,o.data≠ .fields vs:=by
 obtain⟨_,o',h1,h2⟩:=F.mem hb;rw[e] at h1;cases h1;exact h2
def Fly.land {a C:Addr}{a0:Value}{B:Heap}{H':Hp}{h':Heap}(I:Inv X pins σ H s)(F:Fly X.prog X.w X.stack H s a C a0 B H' s')(k:B.StaysIn h')(sl:s'.heap.UpToSlots h')(t':Nat):
  Inv X pins σ H' {s' with heap:=h',toks:=t'}:=by
 have fr:=F.fl.2.2.1
 have u:Un (aZ X.stack) [] H H' s.heap h':=by
  refine⟨λb o e n hb _=>k b o (F.kp b o e n hb),λb o e n hb _=>?_,F.un.free,λb o e _=>?_,F.un.tups,F.un.frzs,F.un.tbls⟩
  .obtain⟨s1,e1⟩:=F.un.slot b o e n hb (by simp);obtain⟨s2,e2⟩:=sl b _ e1 (K2 fr hb e1);exact⟨s2,e2⟩
  .by_cases hb:b∈aZ X.stack
   .obtain⟨o',e1⟩:=F.un.there b o e (by simp);obtain⟨s2,e2⟩:=sl b _ e1 (K2 fr hb e1);exact⟨_,e2⟩
   .obtain⟨o',e1⟩:=F.th b o e hb;exact⟨o',k b o' e1⟩
 have hok:=ux F.hok F.tr F.fl.1 k
 exact I.call' (s':={s' with heap:=h',toks:=t'}) (ch:=[]) F.os u hok F.bare (λb z=>absurd z (by simp))
end
section
variable {P:Program} {w:World} {K:Za} {mg:Str->Option Value} {base:Heap} {N:List Str} {qual:Str} {scope:Scope} {f:Addr} {cd:Value} {A:Around} {outer:List Env} {s0:Shared} {H0:Hp} {E:XK}
def fU {b:Addr}(hb:b∈aZ outer):b∈aZ (envOfC qual scope s0.heap.objs.size f cd::outer):=by grind [aZ]
def jH {b:Addr}{o:Obj}(e:s0.heap.get? b=some o)(hb:b∉aZ outer):b∉aZ (envOfC qual scope s0.heap.objs.size f cd::outer):=λz=>by
 unfold aZ at z hb;rw[OS] at z;have hl:=LU e;rcases Mr.mp z with z|z
 .rw[z] at hl;exact absurd hl (Nb _)
 .exact hb z
def pE {pins:List (Addr×Obj)}{σ:St}{H:Hp}{s:Shared}{h1:Heap}{e C:Addr}{vs:List Value}(I:Inv (jr (ic P w) P w K mg base N qual scope f cd A outer s0 H0 E) pins σ H s)
  (hx:Heap.MadeExcOf s.heap h1 e (.ref C) vs) (q:E (.ref C) (some e) H):(jr (ic P w) P w K mg base N qual scope f cd A outer s0 H0 E).xe (.ref e) {s with heap:=h1}:=by
 have Tp:∀env∈(envOfC qual scope s0.heap.objs.size f cd::outer),∀b,env.frame=some b->b∈aZ (envOfC qual scope s0.heap.objs.size f cd::outer):=λenv he b hb=>Qq.mpr ⟨env,he,hb⟩
 have fr:s.heap.FunFrames base (envOfC qual scope s0.heap.objs.size f cd::outer):=I.stack
 have tr:∀b o,H b=some o->∃u,(PySem.W.hideAll s.heap (aZ (envOfC qual scope s0.heap.objs.size f cd::outer))).get? b=some u:=λb o z=>by
  obtain⟨u,hu⟩:=(I.hok b o z).there;refine⟨u,OR _ hu λhb=>?_⟩;have:=I.stkFree b hb;rw[z] at this;cases this
 have nw:H e=none:=by
  cases z:H e with
  |none=>rfl
  |some o=>
   obtain⟨u,hu⟩:=(I.hok e o z).there
   rw[hx.new] at hu;cases hu
 have D_:Un (aZ outer) [] H0 H s0.heap s.heap:=I.base
 refine wpAny_leaves_madeW (base:=PySem.W.hideAll s.heap (aZ (envOfC qual scope s0.heap.objs.size f cd::outer))) I.ok.frames rfl (λb o z=>Qn _ z) (PySem.W.funFrames_hide fr Tp) hx λh' t x1 x2 x3 x4=>?_
 have kp:∀b o,s0.heap.get? b=some o->H0 b=none->b∉aZ outer->(PySem.W.hideAll s.heap (aZ (envOfC qual scope s0.heap.objs.size f cd::outer))).get? b=some o:=λb o z n hb=>
  OR _ (D_.keep b o z n hb (by simp)) (jH z hb)
 have th:∀b o,s0.heap.get? b=some o->b∉aZ outer->∃o',(PySem.W.hideAll s.heap (aZ (envOfC qual scope s0.heap.objs.size f cd::outer))).get? b=some o':=λb o z hb=>by
  obtain⟨o',z'⟩:=D_.there b o z (by simp);exact⟨o',OR _ z' (jH z hb)⟩
 have hk:=x1.1
 refine⟨e,C,_,_,H,rfl,⟨x1,I.os,I.bare,⟨λb o z n hb _=>hk b o (kp b o z n hb),λb o z n hb _=>?_,λb o z n _=>D_.free b o z n (by simp),λb o z _=>?_,D_.tups,D_.frzs,D_.tbls⟩,?_,kp,th,tr,nw⟩,q⟩
 .obtain⟨s1,e1⟩:=D_.slot b o z n hb (by simp)
  have nf:=K2 fr (fU hb) e1
  obtain⟨s2,e2⟩:=x4 b _ (hx.keeps _ _ e1) nf
  exact⟨s2,e2⟩
 .by_cases hb:b∈aZ outer
  .obtain⟨o',e1⟩:=D_.there b o z (by simp)
   obtain⟨s2,e2⟩:=x4 b _ (hx.keeps _ _ e1) (K2 fr (fU hb) e1)
   exact⟨_,e2⟩
  .obtain⟨o',e1⟩:=th b o z hb
   exact⟨o',hk b o' e1⟩
 .exact ux I.hok tr (λb o z=>Qn _ z) hk
def aY:cF (ic P w) (jr (ic P w) P w K mg base N qual scope f cd A outer s0 H0 E) E:=by
 intro pins σ H s e s' I h;obtain⟨a,C,a0,B,H',rfl,F,q⟩:=h;have fr:=F.fl.2.2.1;have D_:Un (aZ outer) [] H0 H s0.heap s.heap:=I.base;refine wpAny_leaves_onW I.ok.frames rfl F.fl λh' x1 x2=>?_;have hk:=x1.1;have kp:∀b o,s0.heap.get? b=some o->H0 b=none->b∉aZ outer->B.get? b=some o:=λb o z n hb=>
  F.kp b o (D_.keep b o z n hb (by simp)) (D_.free b o z n (by simp)) (jH z hb)
 have th:∀b o,s0.heap.get? b=some o->b∉aZ outer->∃o',B.get? b=some o':=λb o z hb=>by
  obtain⟨o',z'⟩:=D_.there b o z (by simp);exact F.th b o' z' (jH z hb)
 have ub:Un (aZ (envOfC qual scope s0.heap.objs.size f cd::outer)) [] H H' s.heap s'.heap:=F.un;refine⟨a,C,a0,B,H',rfl,⟨x1,F.os.trans I.os,F.bare,⟨λb o z n hb _=>hk b o (kp b o z n hb),λb o z n hb _=>?_,λb o z n _=>?_,λb o z _=>?_,λb xs z=>ub.tups b xs (D_.tups b xs z),λb o u z=>ub.frzs b o u (D_.frzs b o u z),λb ps z=>?_⟩,ux F.hok F.tr F.fl.1 hk,kp,th,F.tr,F.nw⟩,q⟩
 .obtain⟨s1,e1⟩:=D_.slot b o z n hb (by simp);obtain⟨s2,e2⟩:=ub.slot b _ e1 (D_.free b o z n (by simp)) (fU hb) (by simp);obtain⟨s3,e3⟩:=x2 b _ e2 (K2 fr (fU hb) e2);exact⟨s3,e3⟩
 .obtain⟨o',e1⟩:=D_.there b o z (by simp);exact ub.free b o' e1 (D_.free b o z n (by simp)) (by simp)
 .by_cases hb:b∈aZ outer
  .obtain⟨o',e1⟩:=D_.there b o z (by simp);obtain⟨o2,e2⟩:=ub.there b o' e1 (by simp);obtain⟨s3,e3⟩:=x2 b _ e2 (K2 fr (fU hb) e2);exact⟨_,e3⟩
  .obtain⟨o',e1⟩:=th b o z hb;exact⟨o',hk b o' e1⟩
 .obtain⟨m1,e1⟩:=D_.tbls b ps z;obtain⟨m2,e2⟩:=ub.tbls b _ e1;exact⟨m1++m2,by rw[e2,Sk]⟩
end
def GK:List Value:=[.type "ValueError",.type "Exception",.type "BaseException",.type "object"]
structure ExC (K:Za) (mg:Str->Option Value) (x:Str) (C:Addr):Prop where
 bound:mg x=some (.ref C)
 exc:PySem.W.excIn K C GK "ValueError.__new__"=true
def ExC.own {K:Za}{mg:Str->Option Value}{x:Str}{C:Addr}{h:Heap}(O:ExC K mg x C)(X:K.In h):OwnCls x C GK "ValueError.__new__" mg h:=by
 have q:=O.exc;refine⟨O.bound,?_⟩;unfold PySem.W.excIn at q;split at q
 .rename_i g1 g2 g3 lk
  split at q
  .rename_i c2 l2 i0 i1 i2 i3 nn i5 em es
   simp only[Mp,Vv,MI] at q;obtain⟨⟨⟨⟨⟨ea,eb⟩,q1⟩,q2⟩,q3⟩,q4⟩:=q;subst ea;subst eb;obtain⟨y1,y2,y3,y4,y5,y6,y7,y8,y9,y10,y11⟩:=g2;dsimp only at em q1 q3 q4;subst em q1;have e3:g3= #[i0,i1,i2,i3,some (.builtin "ValueError.__new__"),i5]:=by
    cases g3 with
    |mk l=>
     have To:l=[i0,i1,i2,i3,some (.builtin "ValueError.__new__"),i5]:=es
     rw[To]
   subst e3;exact⟨l2,y4,y1,y5,y2,y6,y7,y8,y9,y10,g1,i0,i1,i2,i3,i5,h.nsMap y4,X _ _ lk,Heap.Ns.of_isNs (PySem.W.isNs_of_in X q3),PySem.W.nsMap_none_of_in X q3 q4,PySem.W.tail_of_in X q2⟩
  .cases q
 .cases q
def uo (X:Cx)(E:XK):Prop:=∀(pins:List (Addr×Obj)) (σ:St) (H:Hp) (s:Shared) (h1:Heap) (e C:Addr) (vs:List Value),Inv X pins σ H s->Heap.MadeExcOf s.heap h1 e (.ref C) vs->E (.ref C) (some e) H->X.xe (.ref e) {s with heap:=h1}
def jz {P:Program}{w:World}{K:Za}{mg:Str->Option Value}{base:Heap}{N:List Str}{qual:Str}{scope:Scope}{f:Addr}{cd:Value}{A:Around}{outer:List Env}{s0:Shared}{H0:Hp}{E:XK}:
  uo (jr (ic P w) P w K mg base N qual scope f cd A outer s0 H0 E) E:=λ_ _ _ _ _ _ _ _ I hx q=>pE I hx q
def tG (C:Addr)(E:XK)(ta:TA):TS:=λ_ σ H=>ta σ H λvs H1=>vs.length<=sizeLine/\∀e,H1 e=none->E (.ref C) (some e) H1
section
variable {X:Cx} {E:XK} {x:Str} {C:Addr} {np b_ pos:Pos} {e:Expr} {es:List Expr} {ta:TA}
def zH (R:uo X E)(O:ExC X.K X.mg x C)(hc:X.calm=true)(ha:PA X (e::es) ta)(hg:Gl X x:=by rfl)(t_:(x==("__debug__":Str))=false:=by decide)(h:A4 (e::es)=true:=by rfl):
  PS X (.Raise (some (.Call (.Name x np) (e::es) [] b_)) none pos) (tG C E ta):=by
 intro pins s σ H D I hw
 have h':(z8 e&&A4 es)=true:=h
 rw[Mp] at h'
 have h1:starEach (e::es) X.env=(false,eval e X.env)::starEach es X.env:=Q7 h'.1
 have h2:(backTo b_ (starEach es X.env)).any (·.1)=false:=cx h'.2
 obtain⟨tl,y0,y1,y2,y3,y4,y5,y6,y7,y8,y9,u0,u1,u2,u3,u5,mN,hC,hN,VH,T⟩:=(O.own I.ok.mod.kin).obj
 refine wpAny_Raise_call_subT (k5:=u5) (k3:=u3) (k2:=u2) (k1:=u1) (k0:=u0) (dd:=y9) (col:=y8) (ab:=y7) (sub:=y6) (sn:=y5) (hdct:=y4) (bs:=y3) (q:=y2) (nm:=y1) (N:=y0) (C:=C) (bm:=tl) (mN:=mN) PySem.F.excBase_ValueError (T.hasType (by decide)) (I.ok.hd hc) ?_ VH (gh I hg O.bound ⟨rfl,?_⟩ t_)
 .rw[h1]
  show(false||(backTo b_ (starEach es X.env)).any (·.1))=false
  rw[h2];rfl
 .have hw':=ha b_ pins s σ H _ I hw
  rw[h1] at hw'⊢
  refine OL (J0 hw' λus s1 ⟨vs,H1,I1,r,q1,q2⟩=>?_)
  refine⟨rfl,by rw[←r.length];exact q1,I1.bk _ _ hC,hN.keeps I1.bk,T.keeps I1.bk,λh2 e2 hm=>?_⟩
  have nw:H1 e2=none:=by
   cases z:H1 e2 with
   |none=>rfl
   |some o=>
    obtain⟨u,hu⟩:=(I1.hok e2 o z).there
    rw[hm.new] at hu;cases hu
  exact R pins σ H1 s1 h2 e2 C us I1 hm (q2 e2 nw)
def pX (R:uo X E)(O:ExC X.K X.mg x C)(hc:X.calm=true)(ha:QA X (e::es) ta)(hg:Gl X x:=by rfl)(t_:(x==("__debug__":Str))=false:=by decide)(h:A4 (e::es)=true:=by rfl):
  QS X (.Raise (some (.Call (.Name x np) (e::es) [] b_)) none pos) (tG C E ta):=⟨zH R O hc ha.r hg t_ h⟩
def KD (te:TE)(c:Str):TE:=λσ H Q=>te σ H λv H1=>∃y:Str,v= .str y/\y.length+c.length<=1000/\∀z:Str,Q (.str z) H1
def Lw {te:TE}{c:Str}{p1 p2:Pos}{j}(he:QE X e te):QE X (.JoinedStr [.FormattedValue e (-1) none p1,.Constant (.str c) j p2] pos) (KD te c):=⟨by
 intro pins s σ H Q I h;refine JoinedStr_many (joinParts_cons (FormattedValue_plain (J0 (he.r pins s σ H _ I h) λu s1 ⟨v,H1,I1,r,y,ev,hl,q⟩=>?_)));subst ev;obtain⟨t,rfl⟩:=(show ∃t,u=Value.str y t from r)
 refine formatField_str (λt' tk=>?_) (b5 (by lia));refine⟨b5 (by rw[Sv];show 0+_<=1000;lia),joinParts_cons ?_⟩;have hc:=(fI (X:=X) (x:=c) (j:=j) (pos:=p2)).r pins {s1 with toks:=tk} σ H1 (λv H2=>v= .str c/\H2=H1) (I1.tok tk) ⟨rfl,rfl⟩;refine J0 hc λu2 s2 ⟨v2,H2,I2,r2,e2,e3⟩=>?_;subst e2 e3;obtain⟨t2,rfl⟩:=(show ∃t,u2=Value.str c t from r2)
 have hz:(Str.empty++y++c).length<=sizeLine:=b5 (by rw[Sv,Sv];show 0+_+_<=1000;lia);refine⟨hz,joinParts_nil ⟨.str (Str.empty++y++c),H2,I2.tok _,⟨_,rfl⟩,q _⟩ hz⟩⟩
end
def Fun.okE {P:Program}{w:World}{K:Za}{mg:Str->Option Value}{base:Heap}{x qual:Str}{st:Stmt}{f:Addr}{fd:FuncData}{N ps:List Str}{k:Nat}{sp:Sp}(F:Fun K x qual st f fd)(S:i4 N ps (b9 st))(len:∀vs H Q E,sp vs H Q E->vs.length=ps.length)
  (B_:∀(c_:Value) (A:Around) (outer:List Env) (s:Shared) (H:Hp) (vs:List V) (Q:VK) (E:XK),Room k (A.deeper (envOfC qual (b9 st) s.heap.objs.size f c_))->sp vs H Q E->
   ∃t,PSs (jr (ic P w) P w K mg base N qual (b9 st) f c_ A outer s H E) (J1 st) t/\t {nx:=λ_ H'=>Q .non H',rt:=Q} (eM N vs) H):x8 P w K mg base (ic P w) (k+1) f fd ps sp:=by
 obtain⟨oc,od,kV,doc,pm,an,c_,ct,L_,rfl,lk,G'⟩:=F.ex
 exact yD lk G' S len λA outer s H vs Q E hr Tg=>B_ c_ A outer s H vs Q E hr Tg
abbrev Cx.pinned (X:Cx)(pins:List (Addr×Obj)):Cx:={X with pn:=X.pn++pins}
def La (X:Cx)(pins:List (Addr×Obj))(Es:St->XK):Value->Shared->Prop:=λe s'=>∃(i':List (Addr×Obj)) (σ:St) (H:Hp) (s:Shared),Inv (X.pinned pins) i' σ H s/\ic X.prog X.w X.stack H s (Es σ) e s'
abbrev Cx.tried (X:Cx)(pins:List (Addr×Obj))(Es:St->XK):Cx:={X with pn:=X.pn++pins,xe:=La X pins Es}
abbrev Cx.suite (X:Cx)(e:Addr):Cx:={X with A:=X.A.mark (some (.ref e)),calm:=false,xe:=λ_ _=>False}
section
variable {X:Cx} {pins i':List (Addr×Obj)} {Es:St->XK} {σ:St} {H:Hp} {s:Shared} {e:Addr}
def Inv.toTried (I:Inv X pins σ H s):Inv (X.tried pins Es) [] σ H s:=
 ⟨⟨I.ok.mod,I.ok.kind,I.ok.glob,I.ok.blt,I.ok.above,I.ok.inj,I.ok.has,I.ok.cab,I.ok.hd,I.ok.frames,I.ok.stk,I.ok.exf,I.ok.bs,I.ok.bsz,I.ok.noex,I.ok.exfs,I.ok.funs,I.ok.frf⟩,
  I.os,I.bare,I.base,I.loc,I.cell,I.free,I.freeC,λp hp=>I.pin p (by simpa using hp),I.hok,I.len⟩
def Inv.ofTried (I:Inv (X.tried pins Es) i' σ H s):Inv X pins σ H s:=
 ⟨⟨I.ok.mod,I.ok.kind,I.ok.glob,I.ok.blt,I.ok.above,I.ok.inj,I.ok.has,I.ok.cab,I.ok.hd,I.ok.frames,I.ok.stk,I.ok.exf,I.ok.bs,I.ok.bsz,I.ok.noex,I.ok.exfs,I.ok.funs,I.ok.frf⟩,
  I.os,I.bare,I.base,I.loc,I.cell,I.free,I.freeC,λp hp=>I.pin p (LH _ hp),I.hok,I.len⟩
def Inv.ofPinned (I:Inv (X.pinned pins) i' σ H s):Inv X pins σ H s:=
 ⟨⟨I.ok.mod,I.ok.kind,I.ok.glob,I.ok.blt,I.ok.above,I.ok.inj,I.ok.has,I.ok.cab,I.ok.hd,I.ok.frames,I.ok.stk,I.ok.exf,I.ok.bs,I.ok.bsz,I.ok.noex,I.ok.exfs,I.ok.funs,I.ok.frf⟩,
  I.os,I.bare,I.base,I.loc,I.cell,I.free,I.freeC,λp hp=>I.pin p (LH _ hp),I.hok,I.len⟩
def Inv.triedPinned (I:Inv (X.tried pins Es) i' σ H s):Inv (X.pinned pins) i' σ H s:=
 ⟨⟨I.ok.mod,I.ok.kind,I.ok.glob,I.ok.blt,I.ok.above,I.ok.inj,I.ok.has,I.ok.cab,I.ok.hd,I.ok.frames,I.ok.stk,I.ok.exf,I.ok.bs,I.ok.bsz,I.ok.noex,I.ok.exfs,I.ok.funs,I.ok.frf⟩,
  I.os,I.bare,I.base,I.loc,I.cell,I.free,I.freeC,I.pin,I.hok,I.len⟩
def rZ (A:Around)(h:Option Value):(A.mark h).frames=A.frames:=rfl
def Inv.toSuite (I:Inv X pins σ H s):Inv (X.suite e) pins σ H s:=
 ⟨⟨I.ok.mod,I.ok.kind,I.ok.glob,I.ok.blt,I.ok.above,I.ok.inj,I.ok.has,I.ok.cab,(λz=>nomatch z),(rZ _ _).trans I.ok.frames,I.ok.stk,I.ok.exf,I.ok.bs,I.ok.bsz,I.ok.noex,I.ok.exfs,I.ok.funs,I.ok.frf⟩,
  I.os,I.bare,I.base,I.loc,I.cell,I.free,I.freeC,I.pin,I.hok,I.len⟩
def Inv.ofSuite (ok:X.Ok)(I:Inv (X.suite e) pins σ H s):Inv X pins σ H s:=
 ⟨ok,I.os,I.bare,I.base,I.loc,I.cell,I.free,I.freeC,I.pin,I.hok,I.len⟩
def eK (a C:Addr)(h:Heap):Prop:=∃o vs,h.get? a=some o/\o.cls= .ref C/\o.data= .fields vs
def Ac {P:Program}{w:World}{H:Hp}{h:Heap}{a C:Addr}(x:eK a C h):ObjOk P w H h a (.ext (eK a C)):=by grind [eK,ObjOk]
def Inv.track {a C:Addr}(I:Inv X pins σ H s)(hn:H a=none)(x:eK a C s.heap)(h0:X.s₀.heap.get? a=none)(hp:∀p∈X.pn++pins,p.1≠a):Inv X pins σ (upd H a (.ext (eK a C))) s:=by
 obtain⟨o,vs,e,c,d⟩:=id x;have ne0:∀b ob,X.s₀.heap.get? b=some ob->b≠a:=λb ob z q=>by rw[q,h0] at z;cases z
 refine⟨I.ok,I.os,I.bare,⟨I.base.keep,I.base.slot,λb ob z n hx=>?_,I.base.there,λb xs z=>?_,λb ob u z=>?_,λb ps z=>?_⟩,I.loc,I.cell,?_,λy c' z=>?_,λp hq=>?_,λb u z=>?_,I.len⟩
 .rw[b7 (ne0 b ob z)];exact I.base.free b ob z n hx
 .have z':=I.base.tups b xs z;rw[b7 λq=>by rw[q,hn] at z';cases z'];exact z'
 .have z':=I.base.frzs b ob u z;rw[b7 λq=>by rw[q,hn] at z';cases z'];exact z'
 .obtain⟨more,z'⟩:=I.base.tbls b ps z;exact⟨more,by rw[b7 λq=>by rw[q,hn] at z';cases z'];exact z'⟩
 .obtain⟨m,⟨oL,es,ep,hL,dL,_⟩,_⟩:=I.loc;rw[b7 λq=>?_]
  .exact I.free
  .rw[q,e] at hL;cases hL;rw[d] at dL;cases dL
 .obtain⟨v,oc,UZ,SO⟩:=I.cell y c' z;rw[b7 λq=>?_]
  .exact I.freeC y c' z
  .rw[q,e] at UZ;cases UZ;rw[d] at SO;cases SO
 .obtain⟨p1,p2,p3,p4,p5⟩:=I.pin p hq;exact⟨p1,by rw[b7 (hp p hq)];exact p2,p3,p4,p5⟩
 .by_cases q:b=a
  .subst q;rw[d8] at z;cases z;exact Ac x
  .rw[b7 q] at z;refine(I.hok b u z).stay (λ_ _ _ q=>q) (λb' q'=>?_) λb' xs q'=>?_
   .rw[b7 λk=>by rw[k,hn] at q';cases q'];exact q'
   .rw[b7 λk=>by rw[k,hn] at q';cases q'];exact q'
end
def AJ (sp:Sp)(m_:List V)(Es:St->XK)(t:TA):TE:=λσ H Q=>t σ H λvs H1=>sp (vs++m_) H1 Q (Es σ)
section
variable {X:Cx} {pins:List (Addr×Obj)} {Es:St->XK} {k:Nat} {ps:List Str} {m_:List V} {sp:Sp} {x:Str} {p pos:Pos} {e:Expr} {es:List Expr} {t:TA}
def Ku (C:K3 X.prog X.w X.K X.mg X.base (ic X.prog X.w) k x ps m_ sp)(hr:Room k X.A)(ha:QA (X.tried pins Es) (e::es) t)(hg:Gl X x:=by rfl)
  (t_:(x==("__debug__":Str))=false:=by decide) (h:A4 (e::es)=true:=by rfl):QE (X.tried pins Es) (.Call (.Name x p) (e::es) [] pos) (AJ sp m_ Es t):=⟨by
 have h':(z8 e&&A4 es)=true:=h
 rw[Mp] at h'
 obtain⟨f,fd,ds,F,hm,hk,hb,hd⟩:=C
 intro i' s σ H Q I hw
 refine NT (gh I hg hm ?_ t_)
 refine Sm (h₀:=X.base) I.ok.mod.kin hk (J0 (ha.r pos i' s σ H _ I hw) λus s1 ⟨vs,H1,I1,r,q⟩=>⟨I1.kIn,?_⟩) (Q7 h'.1) (cx h'.2)
 have r2:Vals (vs++m_) (us++ds):=r.append hd
 have hl:(us++ds).length=ps.length:=by rw[←r2.length];exact F.len _ _ _ _ q
 refine wpAny_call (PC (F.run X.A X.stack s1 H1 ⟨us,[]⟩ (us++ds) (vs++m_) Q (Es σ) hr I1.env0 (hb s1 us I1.kIn hl) r2 q) λr s' hq=>?_)
 cases r with
 |error e=>exact⟨i',σ,H1,s1,I1.triedPinned,hq⟩
 |ok fl=>
  cases fl with
  |ret u=>exact I1.after hq
  |next=>exact False.elim hq
  |brk=>exact False.elim hq
  |cont=>exact False.elim hq⟩
end
def qI {M:Model}{A:Around}{E:Value->Shared->Prop}{K:Za}{s:Shared}{a C T:Addr}{b:Bool}{Q:Bool->Shared->Prop}(X:K.In s.heap)(x:eK a C s.heap)(hm:PySem.W.typeIn K (.ref T)=some (.type "type"))
  (he:PySem.W.subIn K (.ref T) (.type "BaseException")=some true) (hc:(PySem.W.clsIn K T).isSome=true) (hs:PySem.W.subIn K (.ref C) (.ref T)=some b) (q:Q b s):wpAny M A (excMatches (.ref a) (.ref T)) Q E s:=by
 obtain⟨oe,vs,ex,ec,ed⟩:=x
 have L1:PySem.W.Looks M s.heap (isInstance (.ref T) (.type "tuple")) false:=(PySem.W.looks_typeIn X hm).andThen (PySem.W.Looks.of_pure tc_notTuple)
 have L2:PySem.W.Looks M s.heap (isType (.ref T)) true:=by
  unfold PySem.W.clsIn at hc;split at hc
  .rename_i lk
   intro A' Q' E' s' k q';unfold isType loadHead;exact LG (wpAny_loadPart (k _ _ (X _ _ lk)) (LR q'))
  .cases hc
 have L3:=Sf (M:=M) X he
 have L4:PySem.W.Looks M s.heap (typeOf (.ref a)) (.ref C):=by
  have z:PySem.W.Looks M s.heap (typeOf (.ref a)) oe.cls:=(PySem.W.Looks.ld ex).andThen .now;rw[ec] at z;exact z
 have L5:=Sf (M:=M) X hs
 unfold excMatches
 refine LG (L1.here ?_)
 simp only[NV,Px]
 have LX:PySem.W.Looks M s.heap (isExcClass (.ref T)) true:=by
  unfold isExcClass;exact L2.andThen (by simpa using L3)
 refine LG (LR ?_)
 refine LG ?_
 rw[Pe]
 refine LG (LG (LX.here ?_))
 simp only[Bool.not_true,NV,Px]
 refine LR ?_
 simp only[Qy]
 refine LR ?_
 refine LG (L4.here ?_)
 refine LG ?_
 rw[Pe]
 refine LG (LG (L5.here ?_))
 cases b with
 |true=>
  simp only[SH]
  exact LR (LR (LR q))
 |false=>
  simp only[NV,Px]
  refine LR ?_
  simp only[Qy]
  exact LR (LR q)
structure JZ (K:Za) (mg:Str->Option Value) (x:Str) (T:Addr):Prop where
 bound:mg x=some (.ref T)
 ty:PySem.W.typeIn K (.ref T)=some (.type "type")
 exc:PySem.W.subIn K (.ref T) (.type "BaseException")=some true
 cls:(PySem.W.clsIn K T).isSome=true
section
variable {X:Cx} {x n:Str} {T:Addr} {np TC pos:Pos} {i:Nat} {b₀:Stmt} {body suite:List Stmt} {tb:(St->XK)->TS} {ts:TS}
end
end L2
namespace L2
open PySem PySem.Spec PyProof.Rows PySem.W
def cV:Value->V->Prop
 | .ref T,v=>v= .ref T
 | .type n,v=>v= .ty n
 |_,_=>False
section
variable {X:Cx}
end
def cA (K:Frag)(x:Str):Addr:=match nsIn K mainGlobals x with
 |some (some (.ref C))=>C
 |_=>0
def ou {P:Program}{w:World}{X:Cx}:cF (ic P w) X E0:=λ_ _ _ _ _ _ _ ⟨_,_,_,_,_,_,_,z⟩=>z.elim
section
variable {K:Frag} {σ:St} {H:Hp} {Q:VK} {D:rF}
def Cz {C:Addr}{E:XK}{ta:TA}(q:ta σ H λvs H1=>vs.length<=sizeLine/\∀e,H1 e=none->E (.ref C) (some e) H1):tG C E ta D σ H:=q
def JJ {te:TE}{c:Str}(q:te σ H λv H1=>∃y:Str,v= .str y/\y.length+c.length<=1000/\∀z:Str,Q (.str z) H1):KD te c σ H Q:=q
def Cm {sp:Sp}{m_:List V}{Es:St->XK}{t:TA}(q:t σ H λvs H1=>sp (vs++m_) H1 Q (Es σ)):AJ sp m_ Es t σ H Q:=q
end
section
variable {X:Cx}
def HW (K:Frag):R2:=λ_ _ _ _=>False
def FJ (hu:X.A.units+64<cLine):OpR X (compareOp .NotEq) (HW X.K):=by
 intro pins s σ H x y v u Q I rx ry h;exact h.elim
def CG (K:Frag):R2:=λx y H Q=>yi K x y H Q\/HW K x y H Q
def Kk (K:Frag){k:Nat}(hr:Room k X.A)(h:X.K=K:=by rfl):OpR X (compareOp .NotEq) (CG K):=(KW K hr h).or (h▸FJ hr.units)
end
section
variable {K:Frag} {H:Hp} {Q:VK}
def JL {x y:V}(q:yi K x y H Q):CG K x y H Q:= .inl q
def AN {i j:Int}(q:Q (.bl (!decide (i=j))) H):CG K (.int i) (.int j) H Q:= .inl (sk q)
end
def N6 (ka kb:List (i6×V)):List (i6×V):=kb.foldl (λa x=>E1 a x.1 x.2) ka
theorem mT:∀{kb ka:List (i6×V)},(N6 ka kb).length<=ka.length+kb.length
 |[],ka=>LC _
 |p::r,ka=>by
  show(N6 (E1 ka p.1 p.2) r).length<=_;have z:=mT (kb:=r) (ka:=E1 ka p.1 p.2);have z2:=O7 ka p.1 p.2;rw[Mi];lia
section
variable {X:Cx}
def Ce:V->List V->Hp->VK->Prop:=λx vs H Q=>∃a b ka kb,x= .ref a/\vs=[.ref b]/\H a=some (.dK ka)/\Rd H b (.dK kb)/\a≠b/\ka.length+kb.length<=1000/\Q .non (upd H a (.dK (N6 ka kb)))
def V3:Bs X "dict.update" Ce:=by
 intro pins s σ H x vs v us Q I rx rv h;obtain⟨a,b,ka,kb,rfl,rfl,hA,hB,u_,hl,q⟩:=h;cases rx;obtain⟨u,rfl,ru⟩:=M9 rv;cases ru;obtain⟨z,hd,va,ra,da⟩:=Ab I.hok hA;obtain⟨z2,hd2,vb,rb,db⟩:=Q6 I.hok hB;have lz:ka.length+kb.length<=sizeLine:=b5 hl;refine Nl Oc da.typeIs PySem.F.entry_dict_update (PySem.F.args_dict_update_2 _ _) (meets_dict_update (j7 X.prog X.w) a b u_ hd2) ⟨va,vb,da,db,by rw[←ra.length,←rb.length];exact lz,λh' dd' _ hs=>?_⟩;have he:∃q,h'.get? a=some q:=let ⟨q,_,_,hq,_⟩:=dd';⟨q,hq⟩
 have Tj:=mT (kb:=kb) (ka:=ka);refine⟨.non,_,gw (t':=s.toks) I (by rw[hA];exact True.intro) hs he (lH (kvs:=N6 ka kb) (Mb Tj lz) hd (KV.puts rb ra) dd'),rfl,q⟩
end
section
open PySem.Builtin PySem.Builtin.Str
end
def bU (σ:List Str)(x:Str):List Str:=if x∈σ then σ else σ++[x]
def il (ss:List Str):List Str:=ss.foldl bU []
def wc (σ:List Str)(x:Str):(bU σ x).length<=σ.length+1:=by
 unfold bU;split
 .lia
 .rw[LJ];simp
def AH {σ:List Str}{x y:Str}:y∈bU σ x↔y∈σ\/y=x:=by grind [bU]
theorem kM:∀(ss σ:List Str),(ss.foldl bU σ).length<=σ.length+ss.length
 |[],σ=>LC _
 |x::r,σ=>by
  have z:=kM r (bU σ x);have z2:=wc σ x;rw[NO,Mi];lia
theorem nO:∀(ss σ:List Str),σ.Nodup->((ss.foldl bU σ).length=σ.length+ss.length↔(σ++ss).Nodup)
 |[],σ,nd=>by simp [nd]
 |x::r,σ,nd=>by
  rw[NO,Mi];by_cases h:x∈σ
  .have e:bU σ x=σ:=by unfold bU;rw[if_pos h]
   rw[e];have z:=kM r σ;constructor
   .intro q;lia
   .intro q;exact absurd rfl ((Mm.mp q).2.2 x h x (by simp))
  .have e:bU σ x=σ++[x]:=by unfold bU;rw[if_neg h]
   have nd':(σ++[x]).Nodup:=Mm.mpr ⟨nd,by simp,λa ha b hb e=>h (by
    have hbx:b=x:=by simpa using hb
    rw[←hbx,←e];exact ha)⟩
   have z:=nO r (σ++[x]) nd';rw[e];rw[LJ,Ml] at z;rw[Mv] at z;show _↔(σ++([x]++r)).Nodup;rw[←z];lia
def qR (ss:List Str):(il ss).length=ss.length↔ss.Nodup:=by
 have z:=nO ss [] Ov;simpa [il] using z
section
variable {prog:Program} {w:World} {A:Around} {E:Value->Shared->Prop}
def StrsAre:List Value->List Str->Prop:=Paired λu x=>∃t,u= .str x t
def AI {d it l:Addr}{items:List Value}(hh:A.handled=none)(Tx:d≠it)(YO:l≠it)(YQ:l≠d):
  ∀(more:List Str) (i:Nat) (s:Shared) (σ:List Str) (R:Result->Shared->Prop),
   s.heap.IsListIter it l i->s.heap.IsList l items.toArray->StrsAre (items.drop i) more->s.heap.SetOf (strKind prog w) d (λk=>decide (k∈σ)) σ.length->σ.length+more.length<2000->
   (∀h' tk,(∀b o,b≠d->b≠it->s.heap.get? b=some o->h'.get? b=some o)->h'.SetOf (strKind prog w) d (λk=>decide (k∈more.foldl bU σ)) (more.foldl bU σ).length->R (.ok (.ret .none)) {s with heap:=h',toks:=tk})->
   codeAny (model prog w) A (.builtin "set.update.loop" ⟨[.ref d,.ref it],[]⟩) R s:=by
 intro more
 induction more with
 |nil=>
  intro i s σ R hit hl hp hd hz hR
  have hx:items.toArray[i]?=none:=by
   have hn:items.drop i=[]:=by cases w_:items.drop i with
    |nil=>rfl
    |cons x r=>rw[w_] at hp;cases hp
   have:=PX.mp hn;simp;lia
  refine Nh F.entry_set_update_loop ?_
  rw[MV Pg _]
  show wpAny _ A.in1 (pyNext (.ref it)>>=_) _ _ s
  refine LG (PB (A:=A.in1) hh hit hl hx λh' eb=>?_)
  show wpAny _ A.in1 (ret Value.none) _ _ _
  refine LR (hR h' s.toks (λb o h1 h2 e=>eb b o h2 e) ?_)
  obtain⟨o,es,ep,t,ho,r⟩:=hd
  exact⟨o,es,ep,t,eb d o Tx ho,r⟩
 |cons x more ih=>
  intro i s σ R hit hl hp hd hz hR
  obtain⟨u,hx,⟨t,rfl⟩,SQ⟩:∃u,items.toArray[i]?=some u/\(∃t,u=Value.str x t)/\StrsAre (items.drop (i+1)) more:=by
   cases w_:items.drop i with
   |nil=>rw[w_] at hp;cases hp
   |cons u r=>
    rw[w_] at hp
    cases hp with
    |cons h1 h2=>
     refine⟨u,?_,h1,?_⟩
     .have z:=Na List.head? w_
      simpa using z
     .have z:=Na List.tail w_
      rw[RT] at z
      rw[z];exact h2
  simp only[Mi] at hz
  refine Nh F.entry_set_update_loop ?_
  rw[MV Pg _]
  show wpAny _ A.in1 (pyNext (.ref it)>>=_) _ _ s
  refine LG (Pm hit hl hx λh' E_ hs'=>?_)
  have Wc:h'.SetOf (strKind prog w) d (λk=>decide (k∈σ)) σ.length:=by
   obtain⟨o,es,ep,tb,ho,r⟩:=hd;exact⟨o,es,ep,tb,hs'.extBut d o Tx ho,r⟩
  refine LG (MS ?_)
  unfold setAdd
  refine MS (LG ((strKind prog w).pyHash (k:=x) (strKind_is _ _ _ _) ?_))
  refine wpAny_setAddHashed_of (knd:=strKind prog w) (s:={s with heap:=h',toks:=s.toks+1}) (strKind_is _ _ _ _) rfl Wc (by unfold scanBound;lia) λF' hs'' YR=>?_
  have hS3:F'.SetOf (strKind prog w) d (λk=>decide (k∈bU σ x)) (bU σ x).length:=by
   refine SetOf_congr YR (λk=>?_) ?_
   .rw[My];simp [AH]
   .unfold bU;by_cases h:x∈σ
    .rw[if_pos (by simpa using h),if_pos h]
    .rw[if_neg (by simpa using h),if_neg h,LJ];rfl
  have kp:∀b o,b≠d->b≠it->s.heap.get? b=some o->F'.get? b=some o:=λb o Vg Rn e=>(hs''.2 b Vg).trans (hs'.extBut b o Rn e)
  have hle:=wc σ x
  refine LR ⟨NW Pg _,?_⟩
  refine ih (i+1) _ (bU σ x) R ?_ ?_ SQ hS3 (by lia) (λh3 tk k3 d3=>hR h3 tk (λb o e1 e2 e=>k3 b o e1 e2 (kp b o e1 e2 e)) d3)
  .exact E_.at λo e=>(hs''.2 it (Nr Tx)).trans e
  .obtain⟨ol,v_,r⟩:=hl
   exact⟨ol,kp l ol YQ YO v_,r⟩
end
section
variable {prog:Program} {w:World} {A:Around} {E:Value->Shared->Prop}
set_option maxHeartbeats 3200000 in
def mK {l:Addr}{items:List Value}{o:Obj}{n:Nat}{ss:List Str}{s:Shared}{Q:Value->Shared->Prop}(hh:A.handled=none)(ho:s.heap.get? l=some o)(hc:o.cls= .type "list")(J':o.data= .seq items.toArray n)(hz:ss.length<1000)(hp:StrsAre items ss)
  (h:∀h' tk,h'.SetOf (strKind prog w) s.heap.objs.size (λk=>decide (k∈il ss)) (il ss).length->(∀b o,s.heap.get? b=some o->h'.get? b=some o)->Q (.ref s.heap.objs.size) {s with heap:=h',toks:=tk}):
  wpAny (model prog w) A (call (.type "set") [.ref l]) Q E s:=by
 obtain⟨c1,c2,c3⟩:=OG.mro
 have c4:=OG.made;have c5:=OG.sub;have c6:=OG.notType;have c7:=OG.canCreate;have c8:=F.typeCall_set_1 (.ref l)
 refine wpAny_call (codeAny_of_tree (show wpAny _ _ (callAny (.type "set") _) _ _ _ from LR ⟨Code.quiet_builtin _ (by decide+kernel),Nh F.entry_type_call ?_⟩))
 rw[Around.under_plain (weight_type_call_type "set" [Value.ref l] []) rfl]
 repeat(any_goals first|assumption|wp_step)
 refine PC (code_set_new_1 (E:=E) (.ref l) (Q₁:=λob st=>∃led:Bool,ob= .ref s.heap.objs.size/\st={s with heap:=s.heap.push {cls:= .type "set",dict:=none,data:= .set #[] 0 (.fresh 0 0 led)}}) λled=>⟨led,rfl,rfl⟩) λr1 N' hr1=>?_
 match r1,hr1 with
 | .error _,hr1=>exact hr1
 | .ok .next,hr1=>exact hr1.elim
 | .ok .brk,hr1=>exact hr1.elim
 | .ok .cont,hr1=>exact hr1.elim
 | .ok (.ret ob),hr1=>
  obtain⟨led,rfl,rfl⟩:=hr1
  have XE:(s.heap.push {cls:= .type "set",dict:=none,data:= .set #[] 0 (.fresh 0 0 led)}).get? s.heap.objs.size=some {cls:= .type "set",dict:=none,data:= .set #[] 0 (.fresh 0 0 led)}:=Md _ rfl
  have Tz:(s.heap.push {cls:= .type "set",dict:=none,data:= .set #[] 0 (.fresh 0 0 led)}).get? l=some o:=LL _ ho
  have Wq:l≠s.heap.objs.size:=Mf (LU ho)
  generalize hP:s.heap.push {cls:= .type "set",dict:=none,data:= .set #[] 0 (.fresh 0 0 led)}=SQ at XE Tz
  have c9:Shared.TypeIs {s with heap:=SQ} (.ref s.heap.objs.size) "set":=⟨_,XE,rfl⟩
  have c10:=OG.init.lookup;have c11:=OG.init.bind (.ref s.heap.objs.size)
  repeat(any_goals first|assumption|wp_step)
  refine PC (codeAny_call_builtin (R:=wants (λr st=>r= .none/\∃h2 Um,st={s with heap:=h2,toks:=Um}/\h2.SetOf (strKind prog w) s.heap.objs.size (λk=>decide (k∈il ss)) (il ss).length/\(∀b o,s.heap.get? b=some o->h2.get? b=some o)) E) OG.init.plain F.entry_set_init (check_set_init_1 c9 ?_)) λr2 A_ hr2=>?_
  .obtain⟨k1,k2,k3,k4⟩:=o
   dsimp only at hc J'
   subst hc J'
   have d1:=F.sub_list_set;have d2:=F.sub_list_frozenset;have d3:(Value.type "list"==Value.type "dict")=false:=by decide
   have SS:SQ.IsList l items.toArray:=⟨_,Tz,rfl,n,rfl⟩
   unfold Builtin.«set.__init__» noKeywords Builtin.Frozenset.updateFrom
   generalize hPI:pyIter=PI
   wp_walk
   subst hPI
   refine OJ SS (LG (wpAny_runValue ?_))
   have hsz:s.heap.objs.size<SQ.objs.size:=LU XE
   refine AI (l:=l) (items:=items) (A:=A.in1.in1) (by simpa using hh) (Mf hsz) (Mf (LU Tz)) Wq ss 0 _ [] _ ⟨_,Md _ rfl,rfl,rfl⟩ (SS.push _) (by rw[Py];exact hp) ?_ (by simpa using(show ss.length<2000 by lia)) λh3 tk3 VI d3'=>?_
   .have hg:(SQ.push {cls:= .type "list_iterator",data:= .fields #[.ref l,.int 0 0]}).get? s.heap.objs.size=some {cls:= .type "set",dict:=none,data:= .set #[] 0 (.fresh 0 0 led)}:=LL _ XE
    exact SetOf_congr ((setObjOf_fresh (knd:=strKind prog w) led).setOf hg (by unfold scanBound;lia)) (λ_=>by simp) rfl
   .show wpAny _ _ _ _ _ _
    refine LR (show wpAny _ _ (ret Value.none) _ _ _ from LR ⟨rfl,h3,tk3,rfl,d3',λb ob e=>?_⟩)
    have e1:SQ.get? b=some ob:=by rw[←hP];exact LL _ e
    exact VI b ob (Mf (LU e)) (Mf (LU e1)) (LL _ e1)
  .match r2,hr2 with
   | .error _,hr2=>exact hr2
   | .ok .next,hr2=>exact hr2.elim
   | .ok .brk,hr2=>exact hr2.elim
   | .ok .cont,hr2=>exact hr2.elim
   | .ok (.ret r),hr2=>
    obtain⟨rfl,h2,Um,rfl,YR,Vh⟩:=hr2
    repeat(any_goals first|assumption|wp_step)
    exact h _ _ YR Vh
end
def cj (a:Addr)(n:Nat)(h:Heap):Prop:=∃o es ep t,h.get? a=some o/\o.ExactSet/\o.data= .set es ep t/\t.fits es.size=true/\es.size=n
def xQ {P:Program}{w:World}{H:Hp}{h:Heap}{a:Addr}{n:Nat}(x:cj a n h):ObjOk P w H h a (.ext (cj a n)):=by grind [cj,ObjOk]
theorem nY:∀{ss:List Str} {us:List Value},Vals (ss.map V.str) us->StrsAre us ss
 |[],_,.nil=> .nil
 |x::r,_,.cons h t=> .cons h (nY t)
section
variable {X:Cx}
def DD (K:Za):List V->Hp->VK->Prop:=λxs H Q=>∃(p:Addr) (ss:List Str),xs=[.ref p]/\SqL K H p (ss.map V.str)/\ss.length<1000/\∀l,H l=none->Q (.ref l) (upd H l (.ext (cj l (il ss).length)))
def xB (hc:X.calm=true):CallR X (.type "set") (DD X.K):=by
 intro pins s σ H xs us Q I r h;obtain⟨p,ss,rfl,hq,hz,q⟩:=h;obtain⟨u,rfl,ru⟩:=M9 r;cases ru;obtain⟨a_,rv,⟨o,n,e,c,hd,dt⟩,_⟩:=I.list hq;refine mK (I.ok.hd hc) e c dt hz (nY rv) λh' tk hS k=>?_;refine⟨.ref s.heap.objs.size,_,?_,rfl,q _ (I.hok.fresh (LC _))⟩;obtain⟨o',es,ep,t,h1,h2,h3,_,_,_,h7,h8⟩:=hS;exact I.laid (a:=s.heap.objs.size) (t':=tk) k (LC _) (xQ ⟨o',es,ep,t,h1,h2,h3,h7,h8⟩)
def Dw (K:Za):List V->Hp->VK->Prop:=λxs H Q=>xZ K xs H Q\/∃p n,xs=[V.ref p]/\H p=some (.ext (cj p n))/\n<=1000/\Q (.int n) H
def call_lenS:CallR X (.builtin "len") (Dw X.K):=by
 refine call_lenX.or ?_;intro pins s σ H xs us Q I r h;obtain⟨p,n,rfl,hp,hn,q⟩:=h;obtain⟨u,rfl,ru⟩:=M9 r;cases ru;obtain⟨o,es,ep,t,h1,h2,h3,h4,h5⟩:=(I.hok p _ hp).1;exact call_len_set h1 h2 h3 h4 (by lia) ⟨.int n,H,I.tok _,⟨_,by rw[h5]⟩,q⟩
def IU (K:Za)(hc:X.calm=true)(h:X.K=K:=by rfl):CallR X (.type "set") (DD K):=h▸xB hc
end
open PySem.AutoSeq1 (wpAny_loadPart')
open PySem.MeetsSeq PySem.MeetsSeq2 PySem.MeetsSeq3
def qZ:plainId "list.__eq__.loop"=true:=plain_eq_loop
section
variable {P:Program} {w:World}
def rL (l m:Addr)(xs ys:Array Value)(n1 n2:Nat)(d1 d2:Option Addr)(s1 s2:Array (Option Value))(hz:xs.size=ys.size)(f:Nat->Bool)(md:Int)(VJ:md=2\/md=3):∀(k i:Nat),xs.size -i=k->
  MeetsIn P w (Builtin.«list.__eq__.loop» ⟨[.ref l,.ref m,rawInt i,rawInt md],[]⟩) (λA R s=>
   s.heap.get? l=some {cls:= .type "list",dict:=d1,data:= .seq xs n1,slots:=s1}/\s.heap.get? m=some {cls:= .type "list",dict:=d2,data:= .seq ys n2,slots:=s2}/\
   (∀j (g1:j<xs.size) (g2:j<ys.size),EqP P w A.in1 s xs[j] ys[j] (f j))/\
   R (.ok (.ret (.bool (if md=2 then((List.range xs.size).drop i).all f else !((List.range xs.size).drop i).all f)))) s):=by
 intro k
 induction k with
 |zero=>
  intro i hk
  intro A R s hyp
  obtain⟨hp,gg,dr,tk,os⟩:=s
  obtain⟨e1,e2,he,fin⟩:=hyp
  have x1:xs[((i:Nat):Int).toNat]?=none:=by simpa using PN hk
  have x2:ys[((i:Nat):Int).toNat]?=none:=by simpa [←hz] using PN hk
  have x3:(List.range xs.size).drop i=[]:=by simpa using PN hk
  rw[x3] at fin
  rcases VJ with rfl|rfl
  .wp_walk using wpAny_loadPart' e1,wpAny_loadPart' e2
   rw[x1,x2]
   wp_walk using wpAny_loadPart' e1,wpAny_loadPart' e2
   show R (.ok (.ret (.bool (xs.size==ys.size)))) _
   rw[hz];simpa using fin
  .wp_walk using wpAny_loadPart' e1,wpAny_loadPart' e2
   rw[x1,x2]
   wp_walk using wpAny_loadPart' e1,wpAny_loadPart' e2
   show R (.ok (.ret (.bool (xs.size !=ys.size)))) _
   rw[hz];simpa using fin
 |succ k ih=>
  intro i hk
  intro A R s hyp
  have ih:=ih (i+1) (by rw[Nat.sub_add_eq,hk];rfl)
  obtain⟨hp,gg,dr,tk,os⟩:=s
  obtain⟨e1,e2,he,fin⟩:=hyp
  have l1:i<xs.size:=Nat.sub_pos_iff_lt.mp (hk▸Nat.succ_pos k)
  have l2:i<ys.size:=hz▸l1
  have x1:xs[((i:Nat):Int).toNat]?=some xs[i]:=by simp [l1]
  have x2:ys[((i:Nat):Int).toNat]?=some ys[i]:=by simp [l2]
  have x3:(List.range xs.size).drop i=i::(List.range xs.size).drop (i+1):=by simp [ML,l1]
  have x4:((i:Int)+1)=((i+1:Nat):Int):=by push_cast;rfl
  rw[x3,Oi] at fin
  rcases VJ with rfl|rfl
  .wp_walk using wpAny_loadPart' e1,wpAny_loadPart' e2
   rw[x1,x2]
   refine LG (he i l1 l2 _ _ ?_)
   cases hf:f i with
   |true=>
    rw[hf] at fin
    wp_walk
    rw[x4]
    refine⟨NW qZ _,Nh QX ?_⟩
    rw[MV qZ _]
    exact ih A R _ ⟨e1,e2,he,by simpa using fin⟩
   |false=>
    rw[hf] at fin
    wp_walk using wpAny_loadPart' e1,wpAny_loadPart' e2
    rw[x1,x2]
    wp_walk
    simpa using fin
  .wp_walk using wpAny_loadPart' e1,wpAny_loadPart' e2
   rw[x1,x2]
   refine LG (he i l1 l2 _ _ ?_)
   cases hf:f i with
   |true=>
    rw[hf] at fin
    wp_walk
    rw[x4]
    refine⟨NW qZ _,Nh QX ?_⟩
    rw[MV qZ _]
    exact ih A R _ ⟨e1,e2,he,by simpa using fin⟩
   |false=>
    rw[hf] at fin
    wp_walk using wpAny_loadPart' e1,wpAny_loadPart' e2
    rw[x1,x2]
    wp_walk
    simpa using fin
def GC (l m:Addr)(xs ys:Array Value)(n1 n2:Nat)(d1 d2:Option Addr)(s1 s2:Array (Option Value))(hz:xs.size=ys.size)(f:Nat->Bool):
  MeetsIn P w (Builtin.«list.__eq__» ⟨[.ref l,.ref m],[]⟩) (λA R s=>
   s.heap.get? l=some {cls:= .type "list",dict:=d1,data:= .seq xs n1,slots:=s1}/\s.heap.get? m=some {cls:= .type "list",dict:=d2,data:= .seq ys n2,slots:=s2}/\
   (∀j (g1:j<xs.size) (g2:j<ys.size),EqP P w A.in1 s xs[j] ys[j] (f j))/\R (.ok (.ret (.bool ((List.range xs.size).all f)))) s):=by
 intro A R s hyp
 obtain⟨hp,gg,dr,tk,os⟩:=s
 obtain⟨e1,e2,he,fin⟩:=hyp
 have q1:=Pn;have q2:¬(xs.size !=ys.size)=true:=by simp [hz]
 wp_walk using wpAny_loadPart' e1,wpAny_loadPart' e2
 refine⟨NW qZ _,Nh QX ?_⟩
 rw[MV qZ _]
 exact rL l m xs ys n1 n2 d1 d2 s1 s2 hz f 2 (.inl rfl) _ 0 rfl A R _ ⟨e1,e2,he,by simpa using fin⟩
def Fo (l m:Addr)(xs ys:Array Value)(n1 n2:Nat)(d1 d2:Option Addr)(s1 s2:Array (Option Value))(hz:xs.size=ys.size)(f:Nat->Bool):
  MeetsIn P w (Builtin.«list.__ne__» ⟨[.ref l,.ref m],[]⟩) (λA R s=>
   s.heap.get? l=some {cls:= .type "list",dict:=d1,data:= .seq xs n1,slots:=s1}/\s.heap.get? m=some {cls:= .type "list",dict:=d2,data:= .seq ys n2,slots:=s2}/\
   (∀j (g1:j<xs.size) (g2:j<ys.size),EqP P w A.in1 s xs[j] ys[j] (f j))/\R (.ok (.ret (.bool (!(List.range xs.size).all f)))) s):=by
 intro A R s hyp
 obtain⟨hp,gg,dr,tk,os⟩:=s
 obtain⟨e1,e2,he,fin⟩:=hyp
 have q1:=Pn;have q2:¬(xs.size !=ys.size)=true:=by simp [hz]
 wp_walk using wpAny_loadPart' e1,wpAny_loadPart' e2
 refine⟨NW qZ _,Nh QX ?_⟩
 rw[MV qZ _]
 exact rL l m xs ys n1 n2 d1 d2 s1 s2 hz f 3 (.inr rfl) _ 0 rfl A R _ ⟨e1,e2,he,by simpa using fin⟩
def RcP.lst {A:Around}{s:Shared}{l m:Addr}{xs ys:Array Value}{f:Nat->Bool}(hl:s.heap.IsList l xs)(hm:s.heap.IsList m ys)(hz:xs.size=ys.size)(hu:A.units<cLine)
  (he:∀j (g1:j<xs.size) (g2:j<ys.size),EqP P w A.in1 s xs[j] ys[j] (f j)):RcP P w A s (.ref l) (.ref m) ((List.range xs.size).all f):=λE Q q=>by
 obtain⟨⟨c1,d1,a1,s1⟩,o1,k1,n1,t1⟩:=id hl
 obtain⟨⟨c2,d2,a2,s2⟩,o2,k2,n2,t2⟩:=id hm
 simp only at k1 t1 k2 t2
 subst k1 t1 k2 t2
 refine Nt (op:= .Eq) ⟨_,o1,rfl⟩ ⟨_,o2,rfl⟩ RN (Nl RN ⟨_,o1,rfl⟩ PySem.F.entry_list_eq (PySem.F.args_list_eq_2 _ _) (GC l m xs ys n1 n2 d1 d2 s1 s2 hz f) ⟨o1,o2,he,?_⟩) hu
 exact⟨(λz=>nomatch z),q⟩
def NcP.lst {A:Around}{s:Shared}{l m:Addr}{xs ys:Array Value}{f:Nat->Bool}(hl:s.heap.IsList l xs)(hm:s.heap.IsList m ys)(hz:xs.size=ys.size)(hu:A.units<cLine)
  (he:∀j (g1:j<xs.size) (g2:j<ys.size),EqP P w A.in1 s xs[j] ys[j] (f j)):NcP P w A s (.ref l) (.ref m) (!(List.range xs.size).all f):=λE Q q=>by
 obtain⟨⟨c1,d1,a1,s1⟩,o1,k1,n1,t1⟩:=id hl
 obtain⟨⟨c2,d2,a2,s2⟩,o2,k2,n2,t2⟩:=id hm
 simp only at k1 t1 k2 t2
 subst k1 t1 k2 t2
 refine Nt (op:= .NotEq) ⟨_,o1,rfl⟩ ⟨_,o2,rfl⟩ OM (Nl OM ⟨_,o1,rfl⟩ RE (Rr _ _) (Fo l m xs ys n1 n2 d1 d2 s1 s2 hz f) ⟨o1,o2,he,?_⟩) hu
 exact⟨(λz=>nomatch z),q⟩
end
def EqN (K:Za)(H:Hp):Nat->V->V->Bool->Prop
 |0,x,y,b=>Eq1 K H x y b\/∃a c,x= .ref a/\y= .ref c/\EqD K H a c b
 |n+1,x,y,b=>EqN K H n x y b\/∃(a c:Addr) (xs ys:List V) (bs:List Bool),x= .ref a/\y= .ref c/\a≠c/\((SqT K H a xs/\SqT K H c ys)\/(SqL K H a xs/\SqL K H c ys))/\xs.length=ys.length/\bs.length=xs.length/\
   (∀(j:Nat) (x' y':V) (b':Bool),xs[j]?=some x'->ys[j]?=some y'->bs[j]?=some b'->EqN K H n x' y' b')/\b=bs.all id
theorem G0:∀(bs:List Bool),(List.range bs.length).all (λj=>bs.getD j true)=bs.all id
 |[]=>rfl
 |b::r=>by
  rw[Mi,Rq,Oi,NM];show(b&&(List.range r.length).all λj=>r.getD j true)=(b&&r.all id);rw[G0 r]
section
variable {X:Cx} {pins:List (Addr×Obj)} {σ:St} {H:Hp} {s:Shared}
def iw {n:Nat}{xs ys:List V}{bs:List Bool}{us vs:List Value}{A:Around}(r1:Vals xs us)(r2:Vals ys vs)(hl:xs.length=ys.length)(hb:bs.length=xs.length)
  (he:∀(j:Nat) (x' y':V) (b':Bool),xs[j]?=some x'->ys[j]?=some y'->bs[j]?=some b'->EqN X.K H n x' y' b')
  (at_:∀{x y:V} {u v:Value} {b:Bool},EqN X.K H n x y b->RelV x u->RelV y v->EqP X.prog X.w A.in1 s u v b):
  ∀j (g1:j<us.toArray.size) (g2:j<vs.toArray.size),EqP X.prog X.w A.in1 s us.toArray[j] vs.toArray[j] (bs.getD j true):=λj g1 g2=>by
 have l1:=r1.length
 have l2:=r2.length
 have RC:j<us.length:=by simpa using g1
 have RF:j<vs.length:=by simpa using g2
 have x1:xs[j]?=some (xs[j]'(by lia)):=LA _
 have y1:ys[j]?=some (ys[j]'(by lia)):=LA _
 have b1:bs[j]?=some (bs[j]'(by lia)):=LA _
 obtain⟨u1,SN,Se⟩:=r1.get x1
 obtain⟨u2,Q_,So⟩:=r2.get y1
 have e1:us.toArray[j]=u1:=by
  have:=LA RC;rw[SN] at this;simpa using(Mc this).symm
 have e2:vs.toArray[j]=u2:=by
  have:=LA RF;rw[Q_] at this;simpa using(Mc this).symm
 rw[e1,e2,MA,b1]
 exact at_ (he j _ _ _ x1 y1 b1) Se So
def EqN.at_ (I:Inv X pins σ H s):∀{n:Nat} {A:Around} {x y:V} {u v:Value} {b:Bool},EqN X.K H n x y b->RelV x u->RelV y v->A.units+32+n<cLine->EqP X.prog X.w A s u v b:=by
 intro n;induction n with
 |zero=>
  intro A x y u v b h rx ry hu
  rcases h with h|⟨a,c,rfl,rfl,h⟩
  .exact .of (h.at_ I rx ry (by lia))
  .cases rx
   cases ry
   exact h.at_ I (by lia)
 |succ n ih=>
  intro A x y u v b h rx ry hu
  rcases h with h|⟨a,c,xs,ys,bs,rfl,rfl,u_,hh,hl,hb,he,rfl⟩
  .exact ih h rx ry (by lia)
  .cases rx
   cases ry
   have k_:A.in1.units=A.units+1:=rfl
   rcases hh with⟨h1,h2⟩|⟨h1,h2⟩
   .obtain⟨us,r1,p1,z1⟩:=I.tuple h1
    obtain⟨vs,r2,p2,z2⟩:=I.tuple h2
    have l1:=r1.length
    have l2:=r2.length
    have q:=RcP.tup (P:=X.prog) (w:=X.w) (A:=A) (f:=λj=>bs.getD j true) (show s.heap.IsTuple a us.toArray from p1) (show s.heap.IsTuple c vs.toArray from p2) (by lia) (iw r1 r2 hl hb he λz q1 q2=>ih z q1 q2 (by lia))
    have e3:min us.toArray.size vs.toArray.size=bs.length:=by simp;lia
    have e4:(us.toArray.size==vs.toArray.size)=true:=by simp;lia
    rw[e3,e4,G0,Pf] at q
    exact .refs u_ q
   .obtain⟨us,r1,p1,z1⟩:=I.list h1
    obtain⟨vs,r2,p2,z2⟩:=I.list h2
    have l1:=r1.length
    have l2:=r2.length
    have q:=RcP.lst (P:=X.prog) (w:=X.w) (A:=A) (f:=λj=>bs.getD j true) p1.isList p2.isList (by simp;lia) (by lia) (iw r1 r2 hl hb he λz q1 q2=>ih z q1 q2 (by lia))
    have e3:us.toArray.size=bs.length:=by simp;lia
    rw[e3,G0] at q
    exact .refs u_ q
end
def Jy (K:Za)(H:Hp)(x y:V)(bs:List Bool):Prop:=∃(a c:Addr) (xs ys:List V),x= .ref a/\y= .ref c/\((SqT K H a xs/\SqT K H c ys)\/(SqL K H a xs/\SqL K H c ys))/\xs.length=ys.length/\bs.length=xs.length/\
 ∀(j:Nat) (x' y':V) (b':Bool),xs[j]?=some x'->ys[j]?=some y'->bs[j]?=some b'->EqN K H 8 x' y' b'
section
variable {X:Cx}
def GZ (K:Za):R2:=λx y H Q=>∃bs,Jy K H x y bs/\Q (.bl (bs.all id)) H
def Ia (K:Za):R2:=λx y H Q=>∃bs,Jy K H x y bs/\Q (.bl (!bs.all id)) H
def FA (hu:X.A.units+64<cLine):OpR X (compareOp .Eq) (GZ X.K):=by
 intro pins s σ H x y v u Q I rx ry h;obtain⟨bs,⟨a,c,xs,ys,rfl,rfl,hh,hl,hb,he⟩,k⟩:=h;cases rx;cases ry;have k_:X.A.in1.units=X.A.units+1:=rfl;rcases hh with⟨h1,h2⟩|⟨h1,h2⟩
 .obtain⟨us,r1,p1,z1⟩:=I.tuple h1;obtain⟨vs,r2,p2,z2⟩:=I.tuple h2;have l1:=r1.length;have l2:=r2.length;have q:=RcP.tup (P:=X.prog) (w:=X.w) (A:=X.A) (f:=λj=>bs.getD j true) (show s.heap.IsTuple a us.toArray from p1) (show s.heap.IsTuple c vs.toArray from p2) (by lia) (iw r1 r2 hl hb he λz q1 q2=>EqN.at_ I z q1 q2 (by lia));have e3:min us.toArray.size vs.toArray.size=bs.length:=by simp;lia
  have e4:(us.toArray.size==vs.toArray.size)=true:=by simp;lia
  rw[e3,e4,G0,Pf] at q;exact q _ _ ⟨.bl _,H,I,rfl,k⟩
 .obtain⟨us,r1,p1,z1⟩:=I.list h1;obtain⟨vs,r2,p2,z2⟩:=I.list h2;have l1:=r1.length;have l2:=r2.length;have q:=RcP.lst (P:=X.prog) (w:=X.w) (A:=X.A) (f:=λj=>bs.getD j true) p1.isList p2.isList (by simp;lia) (by lia) (iw r1 r2 hl hb he λz q1 q2=>EqN.at_ I z q1 q2 (by lia));have e3:us.toArray.size=bs.length:=by simp;lia
  rw[e3,G0] at q;exact q _ _ ⟨.bl _,H,I,rfl,k⟩
def FI (hu:X.A.units+64<cLine):OpR X (compareOp .NotEq) (Ia X.K):=by
 intro pins s σ H x y v u Q I rx ry h;obtain⟨bs,⟨a,c,xs,ys,rfl,rfl,hh,hl,hb,he⟩,k⟩:=h;cases rx;cases ry;have k_:X.A.in1.units=X.A.units+1:=rfl;rcases hh with⟨h1,h2⟩|⟨h1,h2⟩
 .obtain⟨us,r1,p1,z1⟩:=I.tuple h1;obtain⟨vs,r2,p2,z2⟩:=I.tuple h2;have l1:=r1.length;have l2:=r2.length;have q:=NcP.tup (P:=X.prog) (w:=X.w) (A:=X.A) (f:=λj=>bs.getD j true) (show s.heap.IsTuple a us.toArray from p1) (show s.heap.IsTuple c vs.toArray from p2) (by lia) (iw r1 r2 hl hb he λz q1 q2=>EqN.at_ I z q1 q2 (by lia));have e3:min us.toArray.size vs.toArray.size=bs.length:=by simp;lia
  have e4:(us.toArray.size==vs.toArray.size)=true:=by simp;lia
  rw[e3,e4,G0,Pf] at q;exact q _ _ ⟨.bl _,H,I,rfl,k⟩
 .obtain⟨us,r1,p1,z1⟩:=I.list h1;obtain⟨vs,r2,p2,z2⟩:=I.list h2;have l1:=r1.length;have l2:=r2.length;have q:=NcP.lst (P:=X.prog) (w:=X.w) (A:=X.A) (f:=λj=>bs.getD j true) p1.isList p2.isList (by simp;lia) (by lia) (iw r1 r2 hl hb he λz q1 q2=>EqN.at_ I z q1 q2 (by lia));have e3:us.toArray.size=bs.length:=by simp;lia
  rw[e3,G0] at q;exact q _ _ ⟨.bl _,H,I,rfl,k⟩
def rq (K:Za):R2:=λx y H Q=>CG K x y H Q\/Ia K x y H Q
def gW (K:Za){k:Nat}(hr:Room k X.A)(h:X.K=K:=by rfl):OpR X (compareOp .NotEq) (rq K):=(Kk K hr h).or (h▸FI hr.units)
def kW (K:Za):R2:=λx y H Q=>DW K x y H Q\/GZ K x y H Q
def aX (K:Za){k:Nat}(hr:Room k X.A)(h:X.K=K:=by rfl):OpR X (compareOp .Eq) (kW K):=(KA K hr h).or (h▸FA hr.units)
end
def iI (v d:Addr)(h:Heap):Prop:=h.IsValuesView v d
def CB {P:Program}{w:World}{H:Hp}{h:Heap}{v d:Addr}(x:iI v d h):ObjOk P w H h v (.ext (iI v d)):=by
 obtain⟨o,e,r⟩:=x;exact⟨⟨o,e,r⟩,⟨o,e⟩,λh1 h2 ⟨o',e',r'⟩ k=>⟨o',k _ e',r'⟩⟩
section
variable {X:Cx}
def Cf:V->List V->Hp->VK->Prop:=λx vs H Q=>∃d kvs,x= .ref d/\vs=[]/\Rd H d (.dK kvs)/\∀v,H v=none->Q (.ref v) (upd H v (.ext (iI v d)))
def G4:Bs X "dict.values" Cf:=by
 intro pins s σ H x vs v us Q I rx rv h;obtain⟨d,kvs,rfl,rfl,hd,q⟩:=h;cases rx;have P_:=rv.zero;subst P_;obtain⟨z,hs,ws,rel,dd⟩:=Q6 I.hok hd;refine Nl Nm dd.typeIs PySem.F.entry_dict_values (PySem.F.args_dict_values_1 _) (meets_dict_values (j7 X.prog X.w) d hs) ⟨⟨ws,dd⟩,?_⟩;refine⟨.ref s.heap.objs.size,_,?_,rfl,q _ (I.hok.fresh (LC _))⟩;exact I.laid (a:=s.heap.objs.size) (t':=s.toks) (λb u e=>LL _ e) (LC _) (CB ⟨_,Md _ rfl,rfl,rfl⟩)
def oB (K:Za):List V->Hp->VK->Prop:=λxs H Q=>vD K xs H Q\/∃(v d:Addr) (kvs:List (i6×V)),xs=[.ref v]/\H v=some (.ext (iI v d))/\Rd H d (.dK kvs)/\∀l,H l=none->Q (.ref l) (upd H l (.lst (kvs.map (·.2))))
def uy (hc:X.calm=true):CallR X (.type "list") (oB X.K):=by
 refine(tE hc).or ?_;intro pins s σ H xs us Q I r h;obtain⟨v,d,kvs,rfl,hv,hx,q⟩:=h;obtain⟨u,rfl,ru⟩:=M9 r;cases ru;have YS:iI v d s.heap:=(I.hok v _ hv).1;obtain⟨hd,o,vs,ep,ho,D⟩:=dE I.hok hx;have G_:=KV.length D.kv;have hz:kvs.length<=sizeLine:=(Q6 I.hok hx).1;refine PySem.W.kdl_call (Sw (knd:=j7 X.prog X.w) (kvs:=vs) (ep:=ep)) (I.ok.hd hc) ⟨YS,D.at_ _ ho⟩ (by lia) λh' tk acc c hkp hS p_=>?_;refine⟨.ref s.heap.objs.size,_,I.newL (tk:=tk) hkp (LC _) hS (U5 (by have:=p_.1;simp;lia) λi x u e1 e2=>?_) (by rw[Lz];exact hz),rfl,q _ (I.hok.fresh (LC _))⟩;obtain⟨k,hy⟩:=p_.2 i u (by rw[←NU];exact e2);rw[LF] at e1;obtain⟨kv,e4,rfl⟩:=MD.mp e1;obtain⟨q1,WE,q2,q3⟩:=B5 (show Paired _ kvs vs from D.kv) e4;rw[hy] at WE;cases WE;exact q3
def iP (K:Za)(hc:X.calm=true)(h:X.K=K:=by rfl):CallR X (.type "list") (oB K):=h▸uy hc
end
section
variable {K:Za} {H:Hp} {Q:VK}
def yE {xs:List V}(h:vD K xs H Q):oB K xs H Q:= .inl h
def Z9 {v d:Addr}{kvs:List (i6×V)}(hv:H v=some (.ext (iI v d)))(hd:Rd H d (.dK kvs))(q:∀l,H l=none->Q (.ref l) (upd H l (.lst (kvs.map (·.2))))):oB K [.ref v] H Q:= .inr ⟨v,d,kvs,rfl,hv,hd,q⟩
end
section
variable {prog:Program} {w:World} {A:Around} {E:Value->Shared->Prop}
end
section
variable {X:Cx}
end
section
variable {prog:Program} {w:World} {A:Around} {E:Value->Shared->Prop} {s:Shared}
def xc {Q:Int->Shared->Prop}(h:Q 0xFCA86420 {s with toks:=s.toks+1}):wpAny (model prog w) A (pyHash .none) Q E s:=by
 have hT:s.TypeIs Value.none "NoneType":=rfl;unfold pyHash pyHashByItsType;refine LG ?_;rw[cRoomFor,if_neg (show ¬([Value.none].any Value.onHeap)=true by decide)];refine LR (LG (wpAny_specialOf hT NQ.lookup ?_));refine(show wpAny _ _ (if(some (Value.builtin "NoneType.__hash__")==some Value.none)=true then _ else _) Q E s from ?_);rw[if_neg (by decide)];refine LG (wpAny_specialOf hT NQ.lookup ?_);refine(show wpAny _ _ (callSpecialIfBoundUnlessNone? Value.none "__hash__" _>>=_) Q E s from ?_);refine LG (wpAny_callSpecialIfBoundUnlessNone?_slot hT NQ (NS NQ hT PySem.F.entry_NoneType_hash (show wpAny _ _ (do ret (←mkInt 0xFCA86420)) _ _ s from wpAny_ret_mkInt ?_) (PySem.F.args_NoneType_hash_1 _)));refine(show wpAny _ _ (if(decide (-(2:Int) ^ 63<=0xFCA86420)&&decide ((0xFCA86420:Int)<2 ^ 63))=true then _ else _) Q E _ from ?_);rw[if_pos (by decide)];exact LR h
end
abbrev mL:=Option i6
def KI:mL->Value->Bool
 |none,.none=>true
 |none,_=>false
 |some k,v=>dX k v
theorem R3:∀{k:mL} {v:Value},KI k v=true->(k=none/\v=Value.none)\/(∃i t,k=some (Sum.inl i)/\v=Value.int i t)\/(∃x t,k=some (Sum.inr x)/\v=Value.str x t)
 |none,v,h=>by cases v<;>first|exact .inl ⟨rfl,rfl⟩|cases h
 |some k,v,h=>by
  rcases B0 (show dX k v=true from h) with⟨i,t,rfl,rfl⟩|⟨x,t,rfl,rfl⟩
  .exact .inr (.inl ⟨i,t,rfl,rfl⟩)
  .exact .inr (.inr ⟨x,t,rfl,rfl⟩)
def IL (w:World):mL->Int
 |none=>0xFCA86420
 |some k=>Io w k
def gZ (prog:Program)(w:World):PySem.KeyKind prog w mL where
 is:=KI
 hash:=IL w
 inj:=λv a b ha hb=>by
  rcases R3 ha with⟨rfl,rfl⟩|⟨i,t,rfl,rfl⟩|⟨x,t,rfl,rfl⟩<;>rcases R3 hb with⟨rfl,e⟩|⟨j,u,rfl,e⟩|⟨y,u,rfl,e⟩<;>first|rfl|(cases e<;>rfl)
 byValue:=λk v h=>by
  rcases R3 h with⟨rfl,rfl⟩|⟨i,t,rfl,rfl⟩|⟨x,t,rfl,rfl⟩<;>rfl
 pyHash:=λhv h=>by
  rcases R3 hv with⟨rfl,rfl⟩|⟨i,t,rfl,rfl⟩|⟨x,t,rfl,rfl⟩
  .exact xc h
  .exact wpAny_pyHash_int h
  .exact wpAny_pyHash_str h
 eqBool:=fun{A E s a b u v Q} hu hv h=>by
  have dk:∀{k k':i6},decide ((some k:mL)=some k')=decide (k=k'):=fun{k k'}=>by
   by_cases e:k=k'
   .subst e;simp
   .rw[Mn e,Mn λz=>e (Mc z)]
  rcases R3 hu with⟨rfl,rfl⟩|⟨i,t,rfl,rfl⟩|⟨x,t,rfl,rfl⟩<;>rcases R3 hv with⟨rfl,rfl⟩|⟨j,t',rfl,rfl⟩|⟨y,t',rfl,rfl⟩
  .exact OC _ _ _ _ _ (by simpa using h)
  .exact SeqAt.EqAt.none_int j t' _ _ _ _ (by simpa using h)
  .exact SeqAt.EqAt.none_str y t' _ _ _ _ (by simpa using h)
  .exact SeqAt.EqAt.int_none i t _ _ _ _ (by simpa using h)
  .rw[dk,zO] at h;exact wpAny_eqBool_int h
  .rw[dk,yz] at h;exact Ql i t y t' _ _ _ _ h
  .exact SeqAt.EqAt.str_none x t _ _ _ _ (by simpa using h)
  .rw[dk,AU] at h;exact Qm x t j t' _ _ _ _ h
  .rw[dk,zF] at h;exact wpAny_eqBool_str h
 «strs»:=λk x t v h=>by
  rcases R3 h with⟨rfl,e⟩|⟨i,u,rfl,e⟩|⟨y,u,rfl,e⟩
  .exact nomatch e
  .exact nomatch e
  .injection e with e1 _
   subst e1;cases v<;>rfl
def gH (P:Program)(w:World)(a:Addr)(n:Nat)(h:Heap):Prop:=(a==sysModules)=false/\∃vs,h.DictOf (gZ P w) a vs/\vs.length=n
def uv {P P':Program}{w w':World}{H:Hp}{h:Heap}{a:Addr}{n:Nat}(x:gH P w a n h):ObjOk P' w' H h a (.ext (gH P w a n)):=by
 obtain⟨hs,vs,⟨o,es,ep,e,r⟩,hl⟩:=x;exact⟨⟨hs,vs,⟨o,es,ep,e,r⟩,hl⟩,⟨o,e⟩,λh1 h2 ⟨hs',vs',⟨o',To,We,e',r'⟩,TX⟩ k=>⟨hs',vs',⟨o',To,We,k _ e',r'⟩,TX⟩⟩
theorem lM {P:Program}{w:World}:∀{es:List DictEntry} {vs:List (i6×Value)},Pairs (j7 P w) es vs->Pairs (gZ P w) es (vs.map λx=>(some x.1,x.2))
 |_,_,.nil=> .nil
 |_,_,.cons h e t=> .cons h e (lM t)
def Dn {P:Program}{w:World}{h:Heap}{a:Addr}{vs:List (i6×Value)}(dd:h.DictOf (j7 P w) a vs):h.DictOf (gZ P w) a (vs.map λx=>(some x.1,x.2)):=by
 obtain⟨o,es,ep,h1,h2,h3,h4,h5,h6⟩:=dd;refine⟨o,es,ep,h1,h2,h3,λe he=>?_,lM h5,?_⟩
 .obtain⟨k,q1,q2⟩:=h4 e he;exact⟨some k,q1,q2⟩
 .rw[Mo];have e:((λx:mL×Value=>x.1)∘λx:i6×Value=>((some x.1:mL),x.2))=(λk:i6=>(some k:mL))∘λx:i6×Value=>x.1:=rfl;rw[e,←Mo];exact Od _ (λa b h z=>h (Mc z)) h6
def tY {vs:List (i6×Value)}{v:Value}:stored (vs.map λx=>((some x.1:mL),x.2)) none v=(vs.map λx=>((some x.1:mL),x.2))++[(none,v)]:=by
 unfold stored;rw[if_neg];intro z;obtain⟨x,hx,e⟩:=Nf.mp z;obtain⟨y,_,rfl⟩:=LB.mp hx;cases ME e
section
variable {X:Cx}
def Ah (P:Program)(w:World):tf:=λo i v H Q=>vX o i v H Q\/∃a kvs,o= .ref a/\i= .non/\H a=some (.dK kvs)/\kvs.length<1000/\Q (upd H a (.ext (gH P w a (kvs.length+1))))
def yL (hu:X.A.units+1<cLine):xG X (Ah X.prog X.w):=by
 intro pins s σ H o i v ov iv u Q I ro ri rv h;rcases h with h|⟨a,kvs,rfl,rfl,hA,hl,q⟩
 .exact Ct hu pins s σ H o i v ov iv u Q I ro ri rv h
 .cases ro;cases ri;obtain⟨z,hd,vs,rel,dd⟩:=Ab I.hok hA;have G_:=rel.length;refine wpAny_setItem_pairs (knd:=gZ X.prog X.w) (k:=none) (hsz:=by rw[Lz];lia) rfl (Dn dd) λh' dd' hs=>?_;rw[tY] at dd';have he:∃q,h'.get? a=some q:=let ⟨q,_,_,hq,_⟩:=dd';⟨q,hq⟩
  exact⟨_,gw I (by rw[hA];exact True.intro) hs he (uv ⟨hd,_,dd',by rw[LJ,Lz,G_];rfl⟩),q⟩
def qz (K:Za)(P:Program)(w:World):List V->Hp->VK->Prop:=λxs H Q=>Dw K xs H Q\/∃p n,xs=[V.ref p]/\H p=some (.ext (gH P w p n))/\n<=1000/\Q (.int n) H
def yj:CallR X (.builtin "len") (qz X.K X.prog X.w):=by
 refine call_lenS.or ?_;intro pins s σ H xs us Q I r h;obtain⟨p,n,rfl,hp,hn,q⟩:=h;obtain⟨u,rfl,ru⟩:=M9 r;cases ru;obtain⟨hs,vs,dd,hl⟩:=(I.hok p _ hp).1;refine call_len_dict hs dd (by lia) ?_;rw[hl];exact⟨.int n,H,I.tok _,⟨_,rfl⟩,q⟩
def Ie (K:Za)(h:X.K=K:=by rfl):CallR X (.builtin "len") (qz K X.prog X.w):=h▸yj
def uW (K:Za)(P:Program)(w:World):List V->Hp->VK->Prop:=λxs H Q=>BW K xs H Q\/∃p n T,xs=[V.ref p,.ty T]/\H p=some (.ext (gH P w p n))/\(T="str"\/T="int"\/T="bool"\/T="list"\/T="tuple"\/T="dict")/\Q (.bl (mn "dict" T)) H
def yb:CallR X (.builtin "isinstance") (uW X.K X.prog X.w):=by
 refine call_isi.or ?_;intro pins s σ H xs us Q I r h;obtain⟨p,n,T,rfl,hp,hT,q⟩:=h;obtain⟨u,c,rfl,rx,rc⟩:=bR r;cases rx;cases rc;obtain⟨hs,vs,⟨o,es,ep,h1,h2,r⟩,hl⟩:=(I.hok p _ hp).1;exact NN SM I.kIn ⟨o,h1,h2.1⟩ (Z6 (by simp) hT) (λz=>nomatch z) λtk=>⟨.bl _,H,I.tok tk,rfl,q⟩
def Iy (K:Za)(h:X.K=K:=by rfl):CallR X (.builtin "isinstance") (uW K X.prog X.w):=h▸yb
end
section
variable {K:Za} {P:Program} {w:World} {H:Hp} {Q:VK}
def D6 {xs:List V}(h:xZ K xs H Q):qz K P w xs H Q:= .inl (.inl h)
def mZ {p:Addr}{n:Nat}(h:H p=some (.ext (cj p n)))(hn:n<=1000)(q:Q (.int n) H):qz K P w [.ref p] H Q:= .inl (.inr ⟨p,n,rfl,h,hn,q⟩)
def qt {xs:List V}(h:BW K xs H Q):uW K P w xs H Q:= .inl h
def dw {o i v:V}{Qh:Hp->Prop}(h:vX o i v H Qh):Ah P w o i v H Qh:= .inl h
def xh {x y:V}(h:mw K x y H Q):kW K x y H Q:= .inl (JW h)
def AR {i j:Int}(q:Q (.bl (decide (i=j))) H):kW K (.int i) (.int j) H Q:=xh (zf q)
def jP {i j:Str}(q:Q (.bl (decide (i=j))) H):kW K (.str i) (.str j) H Q:=xh (Ad q)
def Ko {x y:V}(h:yi K x y H Q):rq K x y H Q:= .inl (JL h)
def rO {i j:Int}(q:Q (.bl (!decide (i=j))) H):rq K (.int i) (.int j) H Q:= .inl (AN q)
end
def wg {X:Cx}(K:Za)(P:Program)(w:World)(h:X.K=K:=by rfl)(hp:X.prog=P:=by rfl)(hw:X.w=w:=by rfl):CallR X (.builtin "isinstance") (uW K P w):=by subst hp hw;exact Iy K h
def C7 {X:Cx}(K:Za)(P:Program)(w:World)(h:X.K=K:=by rfl)(hp:X.prog=P:=by rfl)(hw:X.w=w:=by rfl):CallR X (.builtin "len") (qz K P w):=by subst hp hw;exact Ie K h
def G6 {X:Cx}(P:Program)(w:World)(hu:X.A.units+1<cLine)(hp:X.prog=P:=by rfl)(hw:X.w=w:=by rfl):xG X (Ah P w):=by subst hp hw;exact yL hu
section
variable {X:Cx} {a b:Expr} {ta:TA} {x y:Str} {pos:Pos}
end
section
variable {σ:St} {H:Hp} {nx:St->Hp->Prop} {rt:VK} {bk ct:St->Hp->Prop} {ta:TA}
end
section
variable {P:Program} {w:World}
def wu {K:Za}{tg:Expr}{d:Addr}{o:Obj}{kvs:List (i6×V)}{vs:List (i6×Value)}{ep:Nat}(D:xX P w d o kvs vs ep)(it:Addr):
  fQ P w K tg (JA d o kvs λkv=>kv.2) [it] it (λi h=>h.IsValIter it d i vs.length ep) where
 mem:=by simp
 obj:=λi h st b hb=>by
  have e:b=it:=by simpa using hb
  subst e;obtain⟨o,e,c,dd⟩:=st;exact⟨o,e,λv z=>by rw[dd] at z;cases z⟩
 keep:=λi h h' st k=>let ⟨o,e,r⟩:=st;⟨o,k it (by simp) o e,r⟩
 item:=by
  intro X hP hw hK hc i pins s σ H E I hf st hg;subst hP hw hK;obtain⟨M_,hi⟩:=hg;obtain⟨f0,f1,f2,f3,f4,f5⟩:=hf it (by simp);have dat:=D.at_ s.heap (I.hok d _ M_).1;have hl:=KV.length D.kv;obtain⟨kv,h_⟩:∃kv,kvs[i]?=some kv:=⟨kvs[i],by simp [hi]⟩
  obtain⟨⟨k,x⟩,hx⟩:∃p,vs[i]?=some p:=⟨vs[i]'(by lia),by simp [show i<vs.length by lia]⟩
  obtain⟨RV,rx⟩:kv.1=k/\RelV kv.2 x:=by
   have q:=B5 D.kv h_;obtain⟨p,hp,r⟩:=q;rw[hx] at hp;cases hp;exact r
  refine wpAny_pyNext_values_item st dat hx λh' N_ hs'=>?_;have I1:Inv X pins σ H {s with heap:=h'}:=I.turned (t':=s.toks) (λb o hb e=>hs'.extBut b o hb e) f0 f1 f3 f4 f5;obtain⟨oo,e,c,dd⟩:=id N_;exact⟨x,rfl,qr (s:={s with heap:=h'}) e c dd (by decide) ⟨kv.2,H,I1,rx,⟨rfl,kv,h_,rfl⟩,N_,λb hb=>(hf b hb).1⟩⟩
 done:=by
  intro X hP hw hK hc i pins s σ H E I hf st hg;subst hP hw hK;obtain⟨M_,hi⟩:=hg;obtain⟨f0,f1,f2,f3,f4,f5⟩:=hf it (by simp);have dat:=D.at_ s.heap (I.hok d _ M_).1;have hl:=KV.length D.kv;exact wpAny_pyNext_values_end (I.ok.hd hc) st dat (by simp;lia) λh' eb=>⟨rfl,I.turned (t':=s.toks) (λb o hb e=>eb b o hb e) f0 f1 f3 f4 f5⟩
 self:=λ_ _ _ _ _ st h=>wpAny_pyIter_valiter st h
end
section
variable {X:Cx} {tg:Expr}
abbrev KH (d:Addr)(o:Obj)(kvs:List (i6×V)):It:=JA d o kvs λkv=>kv.2
def pC (tl:TE):qm:=λσ H R=>tl σ H λv H1=>rIterD KH v H1 R
def ym {o:Expr}{tl:TE}{apos b_:Pos}(ho:PE X o tl)
  (f_:attributeBase o "values" X.env (eval o X.env)=eval o X.env:=by rfl) (g_:(apos.endLine==b_.line)=true:=by rfl):
  zW X tg (.Call (.Attribute o "values" apos) [] [] b_) (pC tl):=by
 intro pins s σ H R I h
 refine Pa f_ g_ (J0 (ho pins s σ H _ I h) λv s1 ⟨x,H1,I1,r1,q1⟩=>?_)
 obtain⟨d,kvs,ob,vs,ep,th,H',rfl,hd,Rt,D,I2,RP,q⟩:=rIterD.go I1 r1 q1
 have Uj:=(D.at_ _ Rt).dictOf
 refine⟨"dict","dict.values",F.plainAttrs_dict,F.slot_dict_values,F.type_dict_values,Uj.typeIs,Uj.mapOf.noDict,Nx rfl (Qe ?_)⟩
 refine Nl F.slot_dict_values Uj.typeIs F.entry_dict_values (F.args_dict_values_1 _) (meets_dict_values (j7 X.prog X.w) d hd) ⟨⟨vs,Uj⟩,?_⟩
 have I3:Inv X pins σ H' {s1 with heap:=s1.heap.push {cls:= .type "dict_values",data:= .fields #[.ref d]}}:=I2.kept (t':=s1.toks) λb o e=>LL _ e
 refine wpAny_pyIter_values (s:={s1 with heap:=s1.heap.push {cls:= .type "dict_values",data:= .fields #[.ref d]}}) (knd:=j7 X.prog X.w) ⟨_,Md _ rfl,rfl,rfl⟩ (D.at_ _ (LL _ Rt)) ?_
 generalize hG:s1.heap.push {cls:= .type "dict_values",data:= .fields #[.ref d]}=G at I3⊢
 refine⟨G.objs.size,[G.objs.size],_,_,H',rfl,I3.kept (t':=s1.toks) λb o e=>LL _ e,wu D _,⟨_,Md _ rfl,rfl,rfl⟩,λb hb=>?_,th,RP,q⟩
 have e:b=G.objs.size:=by simpa using hb
 subst e
 exact I3.fpOk (LC _) (I3.hok.fresh (LC _))
def Bf {tg o:Expr}{to:TE}{apos b_:Pos}(ho:QE X o to)
  (f_:attributeBase o "values" X.env (eval o X.env)=eval o X.env:=by rfl) (g_:(apos.endLine==b_.line)=true:=by rfl):QI X tg (.Call (.Attribute o "values" apos) [] [] b_) (pC to):=⟨ym ho.r f_ g_⟩
def wN {tl:TE}{σ:St}{H:Hp}{R:It->(Hp->Hp)->Hp->Prop}(q:tl σ H λv H1=>rIterD KH v H1 R):pC tl σ H R:=q
end
section
variable {J:It} {th:Hp->Hp} {n:Nat} {g:TG} {tb:TS} {nx:L2.St->Hp->Prop} {rt:VK} {σ:L2.St} {H:Hp}
def FH (Pv:Nat->L2.St->Hp->Prop)(h0:Pv 0 σ H)(R_:∀i σ H,i<n->Pv i σ H->J.go i H)
  (hs:∀(bk:L2.St->Hp->Prop) i x σ H H',i<n->Pv i σ H->J.yld i H x H'->g x σ H' λσ2 H2=>tb ⟨Pv (i+1),λv H=>rt v (th H),bk,Pv (i+1)⟩ σ2 H2)
  (hd:∀σ H,Pv n σ H->J.stop n H/\nx σ (th H)):xI J th g tb nx rt σ H:=Bk Pv h0 R_ (hs λσ H=>nx σ (th H)) hd
end
section
variable {prog:Program} {w:World} {A:Around} {E:Value->Shared->Prop} {s:Shared}
end
theorem iT {α β:Type}{F:α->β->Prop}:∀{l:List α} {m:List β} {b:β},Paired F l m->b∈m->∃a∈l,F a b
 |_,_,_,.cons r t,h=>by
  rcases Mr.mp h with e|e
  .exact⟨_,LS,e▸r⟩
  .obtain⟨a,h1,h2⟩:=iT t e;exact⟨a,LY _ h1,h2⟩
section
variable {X:Cx}
end
section
variable {K:Za} {P:Program} {w:World} {H:Hp} {Q:VK} {σ:L2.St}
end
def GG:Value->V
 | .none=> .non
 | .bool b=> .bl b
 | .int i _=> .int i
 | .str x _=> .str x
 | .bytes b _=> .byt b
 | .float b _=> .flt b
 | .ref a=> .ref a
 | .type n=> .ty n
 |_=> .non
def yW {v:V}{u:Value}(r:RelV v u):GG u=v:=by grind [cases V,RelV,GG]
theorem II {f:V->Bool}:∀{xs:List V} {us:List Value},Vals xs us->us.countP (f∘GG)=xs.countP f
 |_,_,.nil=>rfl
 |_,_,.cons r t=>by rw[Ri,Ri,II t,Function.comp,yW r]
section
variable {X:Cx}
end
def Am (K:Za)(a:Addr)(xs:List V):It:=
 ⟨λi H=>SqL K H a xs/\i<xs.length,λi H x H'=>H'=H/\xs[xs.length -1 -i]?=some x,λi _=>i=xs.length⟩
def zi {P:Program}{w:World}{K:Za}{tg:Expr}(a it:Addr)(xs:List V):fQ P w K tg (Am K a xs) [it] it (λi h=>h.IsRevIter it a ((xs.length:Int) -1 -(i:Int))) where
 mem:=by simp
 obj:=λi h st b hb=>by
  have e:b=it:=by simpa using hb
  subst e;obtain⟨o,e,c,d⟩:=st;exact⟨o,e,λv z=>by rw[d] at z;cases z⟩
 keep:=λi h h' st k=>st.at λo e=>k it (by simp) o e
 item:=by
  intro X hP hw hK hc i pins s σ H E I hf st hg;subst hP hw hK;obtain⟨hq,hi⟩:=hg;obtain⟨a_,rv,p,hz⟩:=I.list hq;have hj:xs.length -1 -i<xs.length:=Oz (Nat.sub_le _ _) (Nat.sub_one_lt_of_lt hi);obtain⟨u,hu,ru⟩:=rv.get (LA hj);obtain⟨f0,f1,f2,f3,f4,f5⟩:=hf it (by simp);have N':s.heap.IsRevIter it a ((xs.length -1 -i:Nat):Int):=by
   have e:((xs.length -1 -i:Nat):Int)=(xs.length:Int) -1 -(i:Int):=by lia
   rw[e];exact st
  refine wpAny_pyNext_rev_item N' p.isList (x:=u) (by simpa using hu) λh' N_ sb=>?_;have I1:Inv X pins σ H {s with heap:=h'}:=I.turned (t':=s.toks) (λb o hb e=>(sb.2 b hb).trans e) f0 f1 f3 f4 f5;obtain⟨o,e,c,d⟩:=id N_;have A_:h'.IsRevIter it a ((xs.length:Int) -1 -((i+1:Nat):Int)):=by
   have e:(xs.length:Int) -1 -((i+1:Nat):Int)=((xs.length -1 -i:Nat):Int) -1:=by lia
   rw[e];exact N_
  exact⟨u,rfl,qr (s:={s with heap:=h'}) e c d (by decide) ⟨_,H,I1,ru,⟨rfl,LA hj⟩,A_,λb hb=>(hf b hb).1⟩⟩
 done:=by
  intro X hP hw hK hc i pins s σ H E I hf st hg;subst hP hw hK;have hg':i=xs.length:=hg;obtain⟨f0,f1,f2,f3,f4,f5⟩:=hf it (by simp);have N':s.heap.IsRevIter it a (-1):=by
   have e:(-1:Int)=(xs.length:Int) -1 -(i:Int):=by lia
   rw[e];exact st
  exact wpAny_pyNext_rev_end (I.ok.hd hc) N' λh' eb=>⟨rfl,I.turned (t':=s.toks) (λb o hb e=>eb b o hb e) f0 f1 f3 f4 f5⟩
 self:=λ_ _ _ _ _ st h=>wpAny_pyIter_revIter st h
section
variable {X:Cx} {a:Expr} {t:TA} {p pos:Pos} {tg:Expr}
def FY (K:Za)(ta:TA):qm:=λσ H R=>ta σ H λvs H1=>∃l xs,vs=[.ref l]/\SqL K H1 l xs/\R (Am K l xs) id H1
def FT (hg:Gl X "reversed")(hm:X.mg "reversed"=none)(ha:PA X [a] t)(hs:starEach [a] X.env=[(false,eval a X.env)]):zW X tg (.Call (.Name "reversed" p) [a] [] pos) (FY X.K t):=by
 intro pins s σ H R I h;refine Call_ (dh I hg hm Boot.«reversed» (Nc (J0 (ha pos pins s σ H _ I h) λus s1 ⟨vs,H1,I1,r1,q1⟩=>?_) hs rfl));obtain⟨l,xs,e,hq,q⟩:=q1;subst e;obtain⟨u,rfl,ru⟩:=M9 r1;cases ru;obtain⟨a_,rv,pl,hz⟩:=I1.list hq;have hl:=rv.length;refine call_reversed_list pl.isList ?_;have I2:Inv X pins σ H1 {s1 with heap:=s1.heap.push (revObj l ((a_.toArray.size:Int) -1))}:=I1.kept (t':=s1.toks) λb o e=>LL _ e;have st:(s1.heap.push (revObj l ((a_.toArray.size:Int) -1))).IsRevIter s1.heap.objs.size l ((xs.length:Int) -1 -((0:Nat):Int)):=by
  refine⟨_,Md _ rfl,rfl,?_⟩;show Data.fields #[.ref l,rawInt ((a_.toArray.size:Int) -1)]=_;rw[show(a_.toArray.size:Int) -1=(xs.length:Int) -1 -((0:Nat):Int) by rw[Mh];lia]
 refine wpAny_pyIter_revIter (s:={s1 with heap:=s1.heap.push (revObj l ((a_.toArray.size:Int) -1))}) st ?_;refine⟨s1.heap.objs.size,[s1.heap.objs.size],_,_,H1,rfl,I2,zi l _ xs,st,λb hb=>?_,id,gd,q⟩;have e:b=s1.heap.objs.size:=by simpa using hb
 subst e;exact I1.fpOk (LC _) (I1.hok.fresh (LC _))
def rJ (K:Za)(hm:X.mg "reversed"=none)(ha:QA X [a] t)(hg:Gl X "reversed":=by rfl)(h:z8 a=true:=by rfl)(hK:X.K=K:=by rfl):QI X tg (.Call (.Name "reversed" p) [a] [] pos) (FY K t):=
 ⟨hK▸FT hg hm ha.r (Q7 h)⟩
end
section
variable {K:Za} {σ:L2.St} {H:Hp} {ta:TA} {R:It->(Hp->Hp)->Hp->Prop}
def Ii (q:ta σ H λvs H1=>∃l xs,vs=[V.ref l]/\SqL K H1 l xs/\R (Am K l xs) id H1):FY K ta σ H R:=q
end
abbrev oj (h:Heap)(z TI TO:Addr)(f0:Value)(b:Bool):Prop:=h.get? z=some {cls:= .type "zip",dict:=none,data:= .fields #[f0,.bool b,.bool false,.ref TI,.ref TO],slots:= #[]}
section
variable {prog:Program} {w:World} {A:Around} {E:Value->Shared->Prop} {s:Shared}
def rg {z TI TO T:Addr}{b:Bool}{ot:Obj}{Q:Bool->Shared->Prop}(hz:oj s.heap z TI TO (rawInt T) b)(hT:s.heap.get? T=some ot)
  (hQ:∀h',oj h' z TI TO (rawInt T) true->Heap.SameBut z s.heap h'->Q false {s with heap:=h'}):wpAny (model prog w) A (Builtin.SmallTypes.ownedTupleIsFree (.ref z)) Q E s:=by
 unfold Builtin.SmallTypes.ownedTupleIsFree
 refine LG (OB hz rfl (x:=rawInt T) rfl ?_)
 refine LG (PySem.W.kdx_alive (show s.heap.get? ((T:Int).toNat)=some ot by rw[Pr];exact hT) ?_)
 rw[if_neg (by simp)]
 refine LG (OB hz rfl (x:= .bool b) rfl ?_)
 cases b with
 |true=>
  rw[if_neg (by decide)]
  exact LR (hQ s.heap hz (Heap.SameBut.refl _ _))
 |false=>
  rw[if_pos (by decide)]
  exact LG (wpAny_setField_rec hz (by simp) λh' g' s'=>LR (hQ h' g' s'))
def xP {z TI TO T i1 i2 l1 l2:Addr}{k1 k2:Nat}{b:Bool}{ot:Obj}{xs ys:Array Value}{x y:Value}{Q:Option Value->Shared->Prop}(D:ZipApart z TI TO i1 i2 l1 l2)
  (hz:oj s.heap z TI TO (rawInt T) b) (YT:s.heap.get? T=some ot) (VL:IsPair s.heap TI (.ref i1) (.ref i2))
  (h1:s.heap.IsListIter i1 l1 k1) (h2:s.heap.IsListIter i2 l2 k2) (SS:s.heap.IsList l1 xs) (Tj:s.heap.IsList l2 ys) (hx:xs[k1]?=some x) (hy:ys[k2]?=some y)
  (hQ:∀h',oj h' z TI TO (rawInt T) true->h'.IsListIter i1 l1 (k1+1)->h'.IsListIter i2 l2 (k2+1)->IsPair h' s.heap.objs.size x y->
   (∀c o,c≠z->c≠i1->c≠i2->s.heap.get? c=some o->h'.get? c=some o)->Q (some (.ref s.heap.objs.size)) {s with heap:=h'}):wpAny (model prog w) A (pyNext (.ref z)) Q E s:=by
 have hT:s.TypeIs (.ref z) "zip":=⟨_,hz,rfl⟩
 unfold pyNext
 refine LG (wpAny_attempt (NK (name:=Str.ofString "__next__") hT Qi (NS Qi hT F.entry_zip_next ?_ (F.args_zip_next_1 _))))
 show wpAny (model prog w) _ (field (.ref z) 2>>=_) _ _ _
 refine LG (OB hz rfl (x:= .bool false) rfl ?_)
 show wpAny (model prog w) _ (field (.ref z) 3>>=_) _ _ _
 refine LG (OB hz rfl (x:= .ref TI) rfl (LG (Qx VL rfl ?_)))
 show wpAny (model prog w) _ (Builtin.SmallTypes.ownedTupleIsFree (.ref z)>>=_) _ _ _
 refine LG (rg hz YT λk1' g1 s1=>?_)
 rw[if_neg (by decide)]
 dsimp only
 refine LG ?_
 rw[←Sz]
 simp only[Pe,Qy]
 refine LG (LG (MS ?_))
 show wpAny (model prog w) _ (Builtin.SmallTypes.nextOf (.ref i1)>>=_) _ _ _
 refine LG (Po (h1.extBut s1.extBut D.i1z) (SS.extBut s1.extBut D.l1z) hx λk2' g2 s2=>LR (LR ?_))
 refine LG (LG (MS ?_))
 show wpAny (model prog w) _ (Builtin.SmallTypes.nextOf (.ref i2)>>=_) _ _ _
 refine LG (Po ((h2.extBut s1.extBut D.i2z).extBut s2.extBut D.i12.symm) ((Tj.extBut s1.extBut D.l2z).extBut s2.extBut D.l2i1) hy λVI g3 s3=>LR (LR (LR ?_)))
 have sz:VI.objs.size=s.heap.objs.size:=by rw[s3.1,s2.1,s1.1]
 have up:∀c o,c≠z->c≠i1->c≠i2->s.heap.get? c=some o->VI.get? c=some o:=λc o c1 c2 c3 e=>s3.extBut _ _ c3 (s2.extBut _ _ c2 (s1.extBut _ _ c1 e))
 refine LG (wpAny_newTuple (LR ⟨_,rfl,?_⟩) (by show 2<=sizeLine;decide))
 refine LR ?_
 show Q (some (.ref VI.objs.size)) _
 rw[sz]
 refine hQ _ (LL _ (s3.extBut _ _ D.i2z.symm (s2.extBut _ _ D.i1z.symm g1))) ((g2.extBut s3.extBut D.i12).at λo e=>LL _ e) (g3.at λo e=>LL _ e) ?_ λc o c1 c2 c3 e=>LL _ (up c o c1 c2 c3 e)
 rw[←sz]
 exact Md _ rfl
def Al {z TI TO T i1 i2 l1 l2:Addr}{k1 k2:Nat}{b:Bool}{ot:Obj}{xs ys:Array Value}{Q:Option Value->Shared->Prop}(hh:A.handled=none)(D:ZipApart z TI TO i1 i2 l1 l2)
  (hz:oj s.heap z TI TO (rawInt T) b) (YT:s.heap.get? T=some ot) (VL:IsPair s.heap TI (.ref i1) (.ref i2))
  (h1:s.heap.IsListIter i1 l1 k1) (h2:s.heap.IsListIter i2 l2 k2) (SS:s.heap.IsList l1 xs) (Tj:s.heap.IsList l2 ys) (SV:xs[k1]?=none\/ys[k2]?=none)
  (hQ:∀h',(∀c o,c≠z->c≠i1->c≠i2->s.heap.get? c=some o->h'.get? c=some o)->Q none {s with heap:=h'}):wpAny (model prog w) A (pyNext (.ref z)) Q E s:=by
 have hT:s.TypeIs (.ref z) "zip":=⟨_,hz,rfl⟩
 unfold pyNext
 refine LG (wpAny_attempt (NK (name:=Str.ofString "__next__") hT Qi (NS Qi hT F.entry_zip_next ?_ (F.args_zip_next_1 _))))
 show wpAny (model prog w) _ (field (.ref z) 2>>=_) _ _ _
 refine LG (OB hz rfl (x:= .bool false) rfl ?_)
 show wpAny (model prog w) _ (field (.ref z) 3>>=_) _ _ _
 refine LG (OB hz rfl (x:= .ref TI) rfl (LG (Qx VL rfl ?_)))
 show wpAny (model prog w) _ (Builtin.SmallTypes.ownedTupleIsFree (.ref z)>>=_) _ _ _
 refine LG (rg hz YT λk1' g1 s1=>?_)
 rw[if_neg (by decide)]
 dsimp only
 refine LG ?_
 rw[←Sz]
 simp only[Pe,Qy]
 refine LG (LG (MS ?_))
 show wpAny (model prog w) _ (Builtin.SmallTypes.nextOf (.ref i1)>>=_) _ _ _
 cases hx:xs[k1]? with
 |none=>
  refine LG (wpAny_nextOf_list_end hh (h1.extBut s1.extBut D.i1z) (SS.extBut s1.extBut D.l1z) hx λk2' e s2 he=>?_)
  obtain⟨oe,YU,YV⟩:=he
  exact LG (wpAny_isInstance (T:="StopIteration") (b:=true) ⟨oe,YU,YV⟩ isSubtype_stop (LR (hQ _ λc o c1 c2 c3 x=>s2 _ _ c2 (s1.extBut _ _ c1 x))))
 |some x=>
  have hy:ys[k2]?=none:=by
   rcases SV with h|h
   .rw[hx] at h;cases h
   .exact h
  refine LG (Po (h1.extBut s1.extBut D.i1z) (SS.extBut s1.extBut D.l1z) hx λk2' g2 s2=>LR (LR ?_))
  refine LG (LG (MS ?_))
  show wpAny (model prog w) _ (Builtin.SmallTypes.nextOf (.ref i2)>>=_) _ _ _
  refine LG (wpAny_nextOf_list_end hh ((h2.extBut s1.extBut D.i2z).extBut s2.extBut D.i12.symm) ((Tj.extBut s1.extBut D.l2z).extBut s2.extBut D.l2i1) hy λVI e s3 he=>?_)
  obtain⟨oe,YU,YV⟩:=he
  exact LG (wpAny_isInstance (T:="StopIteration") (b:=true) ⟨oe,YU,YV⟩ isSubtype_stop (LR (hQ _ λc o c1 c2 c3 x=>s3 _ _ c3 (s2.extBut _ _ c2 (s1.extBut _ _ c1 x)))))
end
def sv:typeLookup (.type "zip") "keys"=pure none:=by rw[RD,PJ];kernel_rfl
def yf:typeLookup (.type "zip") "__getattr__"=pure none:=by rw[RD,PJ];kernel_rfl
section
variable {prog:Program} {w:World} {A:Around} {E:Value->Shared->Prop} {s:Shared}
def Ap (a:Addr)(fs:Array Value)(u:Tok):Meets (Builtin.«object.__getattribute__» ⟨[.ref a,.str "keys" u],[]⟩) (λA R s=>s.heap.get? a=some {cls:= .type "zip",dict:=none,data:= .fields fs,slots:= #[]}/\raisesAttr (.ref a) "keys" A R s):=
 Meets.of_wp λprog w A R s hs=>by
  obtain⟨hp,g,d,tk,os⟩:=s;obtain⟨hx,hs⟩:=hs;have hT:(⟨hp,g,d,tk,os⟩:Shared).TypeIs (.ref a) "zip":=⟨_,hx,rfl⟩
  have hmiss:=sv;unfold Builtin.«object.__getattribute__»;repeat(any_goals (first|assumption|wp_step))
  exact wpAny_raiseAttrError hs.1 hs.2 (attrMsg_fits (by decide+kernel) (by decide+kernel))
def tD:entryFor table "zip.__getattribute__"=some Builtin.«object.__getattribute__»:=entryFor_alias (id':="object.__getattribute__") (by kernel_rfl) (by decide+kernel) (by decide+kernel) (by kernel_rfl)
def qu {a:Addr}{fs:Array Value}{Q:Option Value->Shared->Prop}(hx:s.heap.get? a=some {cls:= .type "zip",dict:=none,data:= .fields fs,slots:= #[]})(hA:A.handled=none)
  (h:∀h' tk,(∀b ob,s.heap.get? b=some ob->h'.get? b=some ob)->Q none {s with heap:=h',toks:=tk}):wpAny (model prog w) A (getAttr? (.ref a) "keys") Q E s:=by
 obtain⟨hp,g,d,tk,os⟩:=s
 have hT:∀tk',(⟨hp,g,d,tk',os⟩:Shared).TypeIs (.ref a) "zip":=λ_=>⟨_,hx,rfl⟩
 have f1:=sub_AttributeError
 have f3:=Ph.lookup
 have f4:=Ph.bind (.ref a)
 have f5:=yf
 unfold getAttr? getAttrBy? getAttrBy
 repeat(any_goals (first|assumption|exact hT _|((with_reducible show wpAny _ _ (call (Value.builtin "zip.__getattribute__") _ _) _ _ _);refine QD Ph (hT _) tD (F.args_zip_getattribute_2 _ _) (Ap a fs _) ⟨hx,hA,λh' tk' e C_=>?_⟩)|wp_step))
 obtain⟨t',u',he⟩:=C_.there
 show wpAny _ _ (getattributeRaised _ _ _ _ _ _ _) _ _ _
 unfold getattributeRaised
 repeat(any_goals (first|assumption|wp_step))
 exact h _ _ C_.keeps
end
section
variable {prog:Program} {w:World} {A:Around} {E:Value->Shared->Prop} {s:Shared}
structure ZipSt (h:Heap) (d z TI TO i1 i2 l1 l2:Addr) (k:Nat) (xs ys:Array Value):Prop where
 ti:IsPair h TI (.ref i1) (.ref i2)
 a1:h.IsListIter i1 l1 k
 a2:h.IsListIter i2 l2 k
 b1:h.IsList l1 xs
 b2:h.IsList l2 ys
 st:(∃a b,IsZip h z TI TO .none/\IsPair h TO a b)\/∃(T:Addr) (b:Bool) (ot:Obj),oj h z TI TO (rawInt T) b/\h.get? T=some ot/\T≠z/\T≠i1/\T≠i2/\T≠d
structure oQ (d z TI TO i1 i2 l1 l2:Addr):Prop where
 z:z≠d
 TI:TI≠d
 TO:TO≠d
 i1:i1≠d
 i2:i2≠d
 l1:l1≠d
 l2:l2≠d
def ZipSt.keep {h h':Heap}{d z TI TO i1 i2 l1 l2:Addr}{k:Nat}{xs ys:Array Value}(Z:ZipSt h d z TI TO i1 i2 l1 l2 k xs ys)(O:oQ d z TI TO i1 i2 l1 l2)(kp:∀c o,c≠d->h.get? c=some o->h'.get? c=some o):ZipSt h' d z TI TO i1 i2 l1 l2 k xs ys:=by
 refine⟨kp _ _ O.TI Z.ti,Z.a1.at λo e=>kp _ o O.i1 e,Z.a2.at λo e=>kp _ o O.i2 e,?_,?_,?_⟩
 .obtain⟨o,ho,r⟩:=Z.b1;exact⟨o,kp _ _ O.l1 ho,r⟩
 .obtain⟨o,ho,r⟩:=Z.b2;exact⟨o,kp _ _ O.l2 ho,r⟩
 .rcases Z.st with⟨a,b,h1,h2⟩|⟨T,b,ot,h1,h2,h3⟩
  .exact .inl ⟨a,b,kp _ _ O.z h1,kp _ _ O.TO h2⟩
  .exact .inr ⟨T,b,ot,kp _ _ O.z h1,kp _ _ h3.2.2.2 h2,h3⟩
def xm {d z TI TO i1 i2 l1 l2:Addr}{k:Nat}{xs ys:Array Value}{x y:Value}{od:Obj}{Q:Option Value->Shared->Prop}(D:ZipApart z TI TO i1 i2 l1 l2)(O:oQ d z TI TO i1 i2 l1 l2)(hd:s.heap.get? d=some od)
  (Z:ZipSt s.heap d z TI TO i1 i2 l1 l2 k xs ys) (hx:xs[k]?=some x) (hy:ys[k]?=some y)
  (hQ:∀h',ZipSt h' d z TI TO i1 i2 l1 l2 (k+1) xs ys->IsPair h' s.heap.objs.size x y->(∀c o,c≠z->c≠TO->c≠i1->c≠i2->s.heap.get? c=some o->h'.get? c=some o)->Q (some (.ref s.heap.objs.size)) {s with heap:=h'}):
  wpAny (model prog w) A (pyNext (.ref z)) Q E s:=by
 have lt:∀{c:Addr} {o:Obj},s.heap.get? c=some o->s.heap.objs.size≠c:=fun{c o} e=>Qp (LU e)
 rcases Z.st with⟨a,b,h1,h2⟩|⟨T,b,ot,h1,h2,h3,h4,h5,h6⟩
 .refine wpAny_pyNext_zip_item D h1 Z.ti h2 Z.a1 Z.a2 Z.b1 Z.b2 hx hy λh' q1 q2 q3 q4 q5 q6 q7=>hQ h' ⟨q7 _ _ D.TIz D.TITO D.TIi1 D.TIi2 Z.ti,q3,q4,?_,?_,?_⟩ q5 q7
  .obtain⟨o,ho,r⟩:=Z.b1;exact⟨o,q7 _ _ D.l1z D.l1TO D.l1i1 D.l1i2 ho,r⟩
  .obtain⟨o,ho,r⟩:=Z.b2;exact⟨o,q7 _ _ D.l2z D.l2TO D.l2i1 D.l2i2 ho,r⟩
  .obtain⟨o1,e1,_⟩:=Z.a1
   obtain⟨o2,e2,_⟩:=Z.a2
   exact .inr ⟨_,false,_,q1,q5,lt h1,lt e1,lt e2,lt hd⟩
 .refine xP D h1 h2 Z.ti Z.a1 Z.a2 Z.b1 Z.b2 hx hy λh' q1 q3 q4 q5 q7=>hQ h' ⟨q7 _ _ D.TIz D.TIi1 D.TIi2 Z.ti,q3,q4,?_,?_,.inr ⟨T,true,ot,q1,q7 _ _ h3 h4 h5 h2,h3,h4,h5,h6⟩⟩ q5 λc o c1 _ c3 c4 e=>q7 c o c1 c3 c4 e
  .obtain⟨o,ho,r⟩:=Z.b1;exact⟨o,q7 _ _ D.l1z D.l1i1 D.l1i2 ho,r⟩
  .obtain⟨o,ho,r⟩:=Z.b2;exact⟨o,q7 _ _ D.l2z D.l2i1 D.l2i2 ho,r⟩
def Ag {d z TI TO i1 i2 l1 l2:Addr}{k:Nat}{xs ys:Array Value}{Q:Option Value->Shared->Prop}(hh:A.handled=none)(D:ZipApart z TI TO i1 i2 l1 l2)
  (Z:ZipSt s.heap d z TI TO i1 i2 l1 l2 k xs ys) (SV:xs[k]?=none\/ys[k]?=none)
  (hQ:∀h',(∀c o,c≠z->c≠TO->c≠i1->c≠i2->s.heap.get? c=some o->h'.get? c=some o)->Q none {s with heap:=h'}):wpAny (model prog w) A (pyNext (.ref z)) Q E s:=by
 rcases Z.st with⟨a,b,h1,h2⟩|⟨T,b,ot,h1,h2,h3,h4,h5,h6⟩
 .exact wpAny_pyNext_zip_end hh D h1 Z.ti h2 Z.a1 Z.a2 Z.b1 Z.b2 SV hQ
 .exact Al hh D h1 h2 Z.ti Z.a1 Z.a2 Z.b1 Z.b2 SV λh' q=>hQ h' λc o c1 _ c3 c4 e=>q c o c1 c3 c4 e
end
section
variable {prog:Program} {w:World} {KT:Type} [DecidableEq KT] {knd:KeyKind prog w KT} {A:Around} {E:Value->Shared->Prop}
def kx (knd:KeyKind prog w KT)(u:Value×Value)(kv:KT×Value):Prop:=knd.is kv.1 u.1=true/\u.2=kv.2
def uE {d z TI TO i1 i2 l1 l2:Addr}{xs ys:List Value}{res:Value}(hh:A.handled=none)(D:ZipApart z TI TO i1 i2 l1 l2)(O:oQ d z TI TO i1 i2 l1 l2):
  ∀(more:List (KT×Value)) (i:Nat) (s:Shared) (kvs:List (KT×Value)) (R:Result->Shared->Prop),
   ZipSt s.heap d z TI TO i1 i2 l1 l2 i xs.toArray ys.toArray->Paired (kx knd) ((xs.zip ys).drop i) more->s.heap.DictOf knd d kvs->kvs.length+more.length<=sizeLine->
   (∀h' tk,(∀b o,b≠d->b≠z->b≠TO->b≠i1->b≠i2->s.heap.get? b=some o->h'.get? b=some o)->h'.DictOf knd d (more.foldl (λa x=>stored a x.1 x.2) kvs)->R (.ok (.ret res)) {s with heap:=h',toks:=tk})->
   codeAny (model prog w) A (.builtin "dict.update.loop" ⟨[.ref d,.ref z,rawInt (i:Int),res],[]⟩) R s:=by
 intro more
 induction more with
 |nil=>
  intro i s kvs R Z hp hd hz hR
  have SV:xs.toArray[i]?=none\/ys.toArray[i]?=none:=by
   have hn:(xs.zip ys).drop i=[]:=by cases w_:(xs.zip ys).drop i with
    |nil=>rfl
    |cons x r=>rw[w_] at hp;cases hp
   have hl:=PX.mp hn;rw[Pj] at hl;by_cases h:xs.length<=i
   .exact .inl (by simp;lia)
   .exact .inr (by simp;lia)
  refine Nh Q2 ?_
  rw[MV B7 _]
  show wpAny _ A.in1 (pyNext (.ref z)>>=_) _ _ s
  refine LG (Ag (A:=A.in1) hh D Z SV λh' kp=>?_)
  show wpAny _ A.in1 (Builtin.Dict.addKeywords d []>>=_) _ _ _
  refine LG (LR (LR ?_))
  refine hR h' s.toks (λb o _ h1 h2 h3 h4 e=>kp b o h1 h2 h3 h4 e) ?_
  obtain⟨od,es,ep,e,r⟩:=hd
  exact⟨od,es,ep,kp d od (Nr O.z) (Nr O.TO) (Nr O.i1) (Nr O.i2) e,r⟩
 |cons kv more ih=>
  intro i s kvs R Z hp hd hz hR
  obtain⟨x,y,hx,hy,hk,SQ⟩:∃x y,xs.toArray[i]?=some x/\ys.toArray[i]?=some y/\kx knd (x,y) kv/\Paired (kx knd) ((xs.zip ys).drop (i+1)) more:=by
   cases w_:(xs.zip ys).drop i with
   |nil=>rw[w_] at hp;cases hp
   |cons u r=>
    rw[w_] at hp
    cases hp with
    |cons h1 h2=>
     have z1:(xs.zip ys)[i]?=some u:=by
      have z:=Na List.head? w_;simpa using z
     obtain⟨q1,q2⟩:=Qz.mp z1
     refine⟨u.1,u.2,by simpa using q1,by simpa using q2,h1,?_⟩
     have z:=Na List.tail w_
     rw[RT] at z
     rw[z];exact h2
  obtain⟨j_,hv⟩:=hk
  obtain⟨od,es,ep,eod,rod⟩:=id hd
  refine Nh Q2 ?_
  rw[MV B7 _]
  show wpAny _ A.in1 (pyNext (.ref z)>>=_) _ _ s
  refine LG (xm D O eod Z hx hy λh' Z' hT kp=>?_)
  refine LG (MS (LG (wpAny_tryCatch ?_)))
  unfold Builtin.Dict.pairItems
  refine LG (Qr (s:={s with heap:=h'}) ⟨_,hT,rfl⟩ ?_)
  rw[if_pos (by decide)]
  refine LG (Qx (s:={s with heap:=h'}) hT rfl ?_)
  refine LR ?_
  show wpAny _ A.in1 (holding [x,y] (dictSet d x y)) _ _ _
  have Wc:h'.DictOf knd d kvs:=⟨od,es,ep,kp d od (Nr O.z) (Nr O.TO) (Nr O.i1) (Nr O.i2) eod,rod⟩
  refine MS (wpAny_dictSet_pairs (s:={s with heap:=h'}) (kvs:=kvs) j_ Wc (λF' dd hs''=>?_) (by simp only[Mi] at hz;lia))
  have kp2:∀b o,b≠d->b≠z->b≠TO->b≠i1->b≠i2->s.heap.get? b=some o->F'.get? b=some o:=λb o h0 h1 h2 h3 h4 e=>hs''.extBut b o h0 (kp b o h1 h2 h3 h4 e)
  refine LR ⟨NW B7 _,?_⟩
  have ey:y=kv.2:=hv
  rw[ey] at dd
  refine ih (i+1) _ (stored kvs kv.1 kv.2) R (Z'.keep O λc o hc e=>hs''.extBut c o hc e) SQ dd ?_ (λh3 tk k3 d3=>hR h3 tk (λb o h0 h1 h2 h3 h4 e=>k3 b o h0 h1 h2 h3 h4 (kp2 b o h0 h1 h2 h3 h4 e)) d3)
  have z:=stored_length_le kvs kv.1 kv.2
  simp only[Mi] at hz
  lia
end
section
variable {prog:Program} {w:World} {KT:Type} [DecidableEq KT] {knd:KeyKind prog w KT} {A:Around} {E:Value->Shared->Prop}
def mi {z TI TO i1 i2 l1 l2:Addr}{xs ys:List Value}{more:List (KT×Value)}{a b:Value}{s:Shared}{Q:Value->Shared->Prop}(hh:A.handled=none)(D:ZipApart z TI TO i1 i2 l1 l2)
  (hz:IsZip s.heap z TI TO .none) (VL:IsPair s.heap TI (.ref i1) (.ref i2)) (hTO:IsPair s.heap TO a b) (h1:s.heap.IsListIter i1 l1 0) (h2:s.heap.IsListIter i2 l2 0) (SS:s.heap.IsList l1 xs.toArray) (Tj:s.heap.IsList l2 ys.toArray)
  (hlen:more.length<=sizeLine) (hp:Paired (kx knd) (xs.zip ys) more)
  (h:∀h' tk,h'.DictOf knd s.heap.objs.size (more.foldl (λa x=>stored a x.1 x.2) [])->(∀b o,b≠z->b≠TO->b≠i1->b≠i2->s.heap.get? b=some o->h'.get? b=some o)->Q (.ref s.heap.objs.size) {s with heap:=h',toks:=tk}):
  wpAny (model prog w) A (call (.type "dict") [.ref z]) Q E s:=by
 refine callType_codes (Q₁:=λobj s₁=>obj= .ref s.heap.objs.size/\s₁={s with heap:=s.heap.push {cls:= .type "dict",data:= .dict #[]}}) F.kt_called_dict (F.kt_typeCall_dict_1 _) F.entry_dict_init (kt_code_dict_new _ ⟨rfl,rfl⟩) ?_
 rintro obj s₁ ⟨rfl,rfl⟩
 have q_:(s.heap.push {cls:= .type "dict",data:= .dict #[]}).DictOf knd s.heap.objs.size []:=Rx s.heap
 have ne:∀{c:Addr} {o:Obj},s.heap.get? c=some o->c≠s.heap.objs.size:=fun{c o} e=>Mf (LU e)
 obtain⟨o1,e1,r1⟩:=id h1
 obtain⟨o2,e2,r2⟩:=id h2
 obtain⟨o3,e3,r3⟩:=id SS
 obtain⟨o4,e4,r4⟩:=id Tj
 have O:oQ s.heap.objs.size z TI TO i1 i2 l1 l2:=⟨ne hz,ne VL,ne hTO,ne e1,ne e2,ne e3,ne e4⟩
 refine⟨q_.typeIs,F.args_dict_init_2 _ _,?_⟩
 unfold Builtin.«dict.__init__»
 refine LG ?_
 unfold Builtin.Dict.selfAndRest
 refine LG (PK q_.typeIs ?_)
 show wpAny _ _ (pure (s.heap.objs.size,[Value.ref z])) _ _ _
 refine LR ?_
 show wpAny _ _ (Builtin.Dict.updateFrom "dict.__init__" s.heap.objs.size (.ref z) [] .none) _ _ _
 unfold Builtin.Dict.updateFrom
 have Wy:(s.heap.push {cls:= .type "dict",data:= .dict #[]}).get? z=some _:=LL _ hz
 refine LG (Qr (s:={s with heap:=s.heap.push {cls:= .type "dict",data:= .dict #[]}}) ⟨_,Wy,rfl⟩ ?_)
 rw[if_pos (by decide)]
 refine LG (qu (s:={s with heap:=s.heap.push {cls:= .type "dict",data:= .dict #[]}}) Wy hh λh2 Um k2=>?_)
 rw[if_pos (show((none:Option Value).isNone)=true from rfl)]
 have up:∀b ob,s.heap.get? b=some ob->h2.get? b=some ob:=λb ob e=>k2 b ob (LL _ e)
 have hd2:h2.DictOf knd s.heap.objs.size []:=let ⟨od,es,ep,e,r⟩:=q_;⟨od,es,ep,k2 _ _ e,r⟩
 refine LG (SX (LG (wpAny_pyIter_zip (f0:= .none) (up _ _ hz) ?_)))
 refine LR ⟨NW B7 _,?_⟩
 refine uE (knd:=knd) (xs:=xs) (ys:=ys) (A:=A.in1) hh D O more 0 _ [] _ ⟨up _ _ VL,⟨o1,up _ _ e1,r1⟩,⟨o2,up _ _ e2,r2⟩,⟨o3,up _ _ e3,r3⟩,⟨o4,up _ _ e4,r4⟩,.inl ⟨a,b,up _ _ hz,up _ _ hTO⟩⟩ (by rw[Py];exact hp) hd2 (by simpa using hlen) λh3 tk k3 d3=>⟨rfl,h h3 tk d3 λb ob c1 c2 c3 c4 e=>k3 b ob (ne e) c1 c2 c3 c4 (up b ob e)⟩
end
section
variable {X:Cx} {a b:Expr} {t:TA} {p pos p2 SW:Pos}
def Kq (K:Za)(t:TA):TE:=λσ H Q=>t σ H λvs H1=>∃(l m:Addr) (ks:List i6) (ys:List V),vs=[.ref l,.ref m]/\SqL K H1 l (ks.map kV)/\SqL K H1 m ys/\∀d,H1 d=none->Q (.ref d) (upd H1 d (.dK (aU (ks.zip ys))))
def xE {P : Program} {w : World} : ∀ {ks : List i6} {ys : List V} {us vs : List Value}, Vals (ks.map kV) us -> Vals ys vs -> ∃ more, Paired (kx (j7 P w)) (us.zip vs) more /\ KV (ks.zip ys) more
 := by
  intro ks ys us vs hu hv;induction ks generalizing ys us vs with
  | nil => cases hu; exact ⟨[], .nil, .nil⟩
  | cons k ks ih => cases hu with
    | cons r t => cases hv with
      | nil => exact ⟨[], .nil, .nil⟩
      | cons r' t' =>
        obtain ⟨more, h1, h2⟩ := ih t t'
        exact ⟨(k, _) :: more, .cons ⟨gP r, rfl⟩ h1, .cons ⟨rfl, r'⟩ h2⟩
def IQ (YW:Gl X "dict")(VJ:X.mg "dict"=none)(YX:Gl X "zip")(YY:X.mg "zip"=none)(hc:X.calm=true)(ha:PA X [a,b] t)(hs:starEach [a,b] X.env=[(false,eval a X.env),(false,eval b X.env)])(SK:starEach [b] X.env=[(false,eval b X.env)])
  (hs3:starEach [Expr.Call (.Name "zip" p2) [a,b] [] SW] X.env=[(false,eval (Expr.Call (.Name "zip" p2) [a,b] [] SW) X.env)]):PE X (.Call (.Name "dict" p) [.Call (.Name "zip" p2) [a,b] [] SW] [] pos) (Kq X.K t):=by
 intro pins s σ H Q I h
 refine NT (dh I YW VJ Boot.«dict» (Nc ?_ hs3 rfl) (by decide) (by decide))
 rw[hs3]
 show wpAny _ _ (spliced [(false,eval (Expr.Call (.Name "zip" p2) [a,b] [] SW) X.env)]) _ _ s
 refine Oy ?_
 refine NT (dh I YX YY Boot.«zip» (Nc (J0 (ha SW pins s σ H _ I h) λus s1 ⟨vs,H1,I1,r1,q1⟩=>?_) (by rw[hs,SK]) (by rw[SK];rfl)) (by decide) (by decide))
 obtain⟨l,m,ks,ys,e,hq,hq',q⟩:=q1
 subst e
 obtain⟨u,v,rfl,ru,rv⟩:=bR r1
 cases ru
 cases rv
 obtain⟨a_,rv,pl,hz⟩:=I1.list hq
 obtain⟨its',rv',YZ,XF⟩:=I1.list hq'
 obtain⟨more,g1,g2⟩:=xE (P:=X.prog) (w:=X.w) rv rv'
 refine call_zip_2 pl.isList YZ.isList λh' z1 z2 z3 z4 z5 hsz hk=>?_
 refine Pq ?_
 have ll:(l:Nat)<(s1.heap.objs.size:Nat):=by obtain⟨o,e,_⟩:=pl.isList;exact LU e
 have lm:(m:Nat)<(s1.heap.objs.size:Nat):=by obtain⟨o,e,_⟩:=YZ.isList;exact LU e
 have D:ZipApart (s1.heap.objs.size+4) (s1.heap.objs.size+2) (s1.heap.objs.size+3) s1.heap.objs.size (s1.heap.objs.size+1) l m:=by
  constructor<;>first|exact Mf (LZ ll (by lia))|exact Mf (LZ lm (by lia))|(intro z;have z':(_:Nat)=(_:Nat):=z;lia)
 have hml:more.length<=sizeLine:=by
  have e1:=KV.length g2;rw[Pj] at e1;lia
 refine mi (knd:=j7 X.prog X.w) (s:={s1 with heap:=h'}) (I.ok.hd hc) D z1 z2 z3 z4 z5 ?_ ?_ hml g1 λh3 tk d3 k3=>?_
 .obtain⟨o,e,r⟩:=pl.isList;exact⟨o,hk _ _ e,r⟩
 .obtain⟨o,e,r⟩:=YZ.isList;exact⟨o,hk _ _ e,r⟩
 have WD:s1.heap.objs.size<=h'.objs.size:=by rw[hsz];lia
 refine⟨.ref h'.objs.size,_,I1.laid (a:=h'.objs.size) (t':=tk) (λb o e=>?_) WD (lH (kvs:=aU (ks.zip ys)) ?_ ?_ (KV.puts g2 .nil) d3),rfl,q _ (I1.hok.fresh WD)⟩
 .have hb:(b:Nat)<(s1.heap.objs.size:Nat):=LU e
  exact k3 b o (Mf (LZ hb (by lia))) (Mf (LZ hb (by lia))) (Mf (LZ hb (by lia))) (Mf (LZ hb (by lia))) (hk _ _ e)
 .have z:=cq (ks.zip ys) []
  unfold aU
  have e1:=KV.length g2
  simp only[Pd] at z
  lia
 .exact Oj.mpr (Nr (Mf (LZ I1.big WD)))
def KJ (K:Za)(VJ:X.mg "dict"=none)(YY:X.mg "zip"=none)(hc:X.calm=true)(ha:QA X [a,b] t)(YW:Gl X "dict":=by rfl)(YX:Gl X "zip":=by rfl)(h:z8 a=true:=by rfl)(h':z8 b=true:=by rfl)(hK:X.K=K:=by rfl):
  QE X (.Call (.Name "dict" p) [.Call (.Name "zip" p2) [a,b] [] SW] [] pos) (Kq K t):=⟨hK▸IQ YW VJ YX YY hc ha.r (by rw[Q7 h,Q7 h'];rfl) (Q7 h') (Q7 rfl)⟩
def JX {K:Za}{σ:L2.St}{H:Hp}{Q:VK}{t:TA}(q:t σ H λvs H1=>∃(l m:Addr) (ks:List i6) (ys:List V),vs=[.ref l,.ref m]/\SqL K H1 l (ks.map kV)/\SqL K H1 m ys/\∀d,H1 d=none->Q (.ref d) (upd H1 d (.dK (aU (ks.zip ys))))):Kq K t σ H Q:=q
end
open PySem.AutoSeq1 (wpAny_loadPart')
open PySem.MeetsSeq PySem.MeetsSeq2 PySem.MeetsSeq3
def EqL (K:Za)(H:Hp)(x y:V)(b:Bool):Prop:=∃(a c:Addr) (xs ys:List V),x= .ref a/\y= .ref c/\SqL K H a xs/\SqL K H c ys/\xs.all C0=true/\ys.all C0=true/\b=Q8 xs ys
section
variable {X:Cx} {pins:List (Addr×Obj)} {σ:St} {H:Hp} {s:Shared} {A:Around}
def EqL.at_ {x y:V}{u v:Value}{b:Bool}(I:Inv X pins σ H s)(h:EqL X.K H x y b)(rx:RelV x u)(ry:RelV y v)(hu:A.units+8<cLine):SeqAt.EqAt A s u v b:=by
 obtain⟨a,c,xs,ys,rfl,rfl,ha,hc,fx,fy,rfl⟩:=h;cases rx;cases ry;obtain⟨a_,r1,p1,z1⟩:=I.list ha;obtain⟨its',r2,p2,z2⟩:=I.list hc;by_cases hac:a=c
 .subst hac;have e:=I.list_inj ha hc;subst e;rw[dI fx];exact OC _
 .have l1:=r1.length;have l2:=r2.length;by_cases hl:xs.length=ys.length
  .have q:=SeqAt.RcAt.lists (A:=A) (e:=λj=>fc (xs.getD j .non) (ys.getD j .non)) p1.isList p2.isList (by simp;lia) (by lia) λj g1 g2=>by
    have RC:j<a_.length:=by simpa using g1
    have RF:j<its'.length:=by simpa using g2
    have x1:xs[j]?=some (xs[j]'(by lia)):=by simp [show j<xs.length by lia]
    have y1:ys[j]?=some (ys[j]'(by lia)):=by simp [show j<ys.length by lia]
    obtain⟨u1,SN,Se⟩:=r1.get x1;obtain⟨u2,Q_,So⟩:=r2.get y1;have e1:a_.toArray[j]=u1:=by
     have:=LA RC;rw[SN] at this;simpa using(Mc this).symm
    have e2:its'.toArray[j]=u2:=by
     have:=LA RF;rw[Q_] at this;simpa using(Mc this).symm
    rw[e1,e2];have d1:xs.getD j .non=xs[j]'(by lia):=by rw[MA,x1];rfl
    have d2:ys.getD j .non=ys[j]'(by lia):=by rw[MA,y1];rfl
    rw[d1,d2];exact cK Se So (Mq.mp fx _ (Mu _)) (Mq.mp fy _ (Mu _))
   have e3:a_.toArray.size=min xs.length ys.length:=by simp;lia
   have z:=R0 xs ys;rw[show(xs.length==ys.length)=true by simpa using hl,Pf] at z;rw[e3,z] at q;exact .of_refs hac q
  .rw[gj hl];exact .of_refs hac (OW p1.isList p2.isList (by simp;lia) (by lia))
end
section
variable {X:Cx}
def uP (K:Za):V->List V->Hp->VK->Prop:=λx vs H Q=>∃(l:Addr) (xs:List V) (y:V) (f:V->Bool),x= .ref l/\vs=[y]/\H l=some (.lst xs)/\(∀z∈xs,EqL K H z y (f z))/\Q (.int (xs.countP f:Nat)) H
def jo {k:Nat}(hr:Room k X.A):Bs X "list.count" (uP X.K):=by
 intro pins s σ H x vs v us Q I rx rv h;obtain⟨l,xs,y,f,rfl,rfl,hl,he,q⟩:=h;cases rx;obtain⟨u,rfl,ru⟩:=M9 rv;obtain⟨hz,a_,n,r,hle,e⟩:=I.lstM hl;refine QD F.slot_list_count ⟨_,e,rfl⟩ F.entry_list_count (F.args_list_count_2 _ _) (SeqAt.list_countAt l a_.toArray n _ _ u (f∘GG)) ⟨e,λw hw=>?_,?_⟩
 .obtain⟨z,XF,rz⟩:=iT r (show w∈a_ by simpa using hw);have g:=EqL.at_ (A:=X.A.in1) I (he z XF) rz ru (by have:=hr.un;show X.A.units+1+8<cLine;lia);rw[show(f∘GG) w=f z by show f (GG w)=f z;rw[yW rz]];exact g
 .refine⟨.int (xs.countP f:Nat),H,I.tok _,⟨s.toks,?_⟩,q⟩;show Value.int (a_.countP (f∘GG):Nat) _=_;rw[II r]
def jw {X:Cx}{k:Nat}(K:Za)(hr:Room k X.A)(h:X.K=K:=by rfl):Bs X "list.count" (uP K):=h▸jo hr
def oG {X:Cx}:Bs X "list.pop" HG:=Fe
def Kf {pos:Pos}:QE X (.Dict [] [] pos) zJ:=⟨An⟩
end
section
variable {P:Program} {w:World}
end
section
variable {X:Cx}
end
section
variable {K:Za} {H:Hp} {Q:VK} {x y:V}
end
end L2
namespace PySem
section
variable {prog:Program} {w:World} {K:Type} [DecidableEq K] {A:Around} {E:Value->Shared->Prop} {s:Shared}
def Z4 {knd:HeapKind prog w K}{d a:Addr}{xs:List (K×Addr×Value)}{k:K}{v:Value}{Q:Value->Shared->Prop}(hu:knd.room A)(j_:knd.is s.heap k a)(hm:s.heap.DictOfH knd d xs)
  (Vi:∀p,atKey xs k=some p->Q p.2 {s with toks:=s.toks+knd.draws k})
  (hQ:atKey xs k=none->∀h',h'.DictOfH knd d (storedH xs k a v)->Heap.SameBut d s.heap h'->Q v {s with heap:=h',toks:=s.toks+knd.draws k})
  (hsz:xs.length<=sizeLine):
  wpAny (model prog w) A (dictSetDefault d (.ref a) v) Q E s:=by
 obtain⟨o,es,ep,ho,hc,hd,he,his,hn⟩:=hm
 unfold dictSetDefault
 try with_reducible refine MS ?_
 refine LG (knd.pyHash hu j_ ?_)
 refine LG (wpAny_dictFind_heap (s:={s with toks:=s.toks+knd.draws k}) hu j_ ho hd he his hn ?_ ?_)
 .intro l_
  have Y_:k∉xs.map (·.1):=not_mem_keys_of_get l_
  refine LG (SX (LG (wpAny_updateDictKeys (hz:=by have e:=size_of_entries he;lia) (s:={s with toks:=s.toks+knd.draws k}) ho hd (LR (hQ (Pw l_) _ ⟨_,_,ep+1,PD _ ho (Obj.isFreed_of_dict (Obj.data_mapDictKeys hd _)),
   hc.mapDictKeys _,Obj.data_mapDictKeys hd _,?_,?_,?_⟩ (Om ..))))))
  .rw[storedH_new (Pw l_)]
   simp [he,entryOfKey]
  .rw[storedH_new (Pw l_)]
   intro x hx
   rcases LO.mp hx with hx|hx
   .exact knd.keeps (his x hx) ho hd (Om ..)
   .simp only[Me] at hx
    subst hx
    exact knd.keeps j_ ho hd (Om ..)
  .rw[storedH_new (Pw l_)]
   rw[LK,Mm]
   refine⟨hn,by simp,?_⟩
   intro x hx y hy
   simp only[MG,Qt,Me] at hy
   subst hy
   exact λe=>Y_ (e▸hx)
 .intro j p hj
  refine LG (QL (s:={s with toks:=s.toks+knd.draws k}) ho hd ?_)
  rw[entry_at he j,hj]
  exact LG (SX (LR (Vi _ (atKey_of_get hn hj))))
def bA (knd:HeapKind prog w K)(d a:Addr)(hd:(d==sysModules)=false)(dflt:Value):
  MeetsIn prog w (Builtin.«dict.setdefault» ⟨[.ref d,.ref a,dflt],[]⟩) (λA R s=>knd.room A.in1/\∃k xs,knd.is s.heap k a/\s.heap.DictOfH knd d xs/\xs.length<=sizeLine/\
   (∀p,atKey xs k=some p->R (.ok (.ret p.2)) {s with toks:=s.toks+knd.draws k})/\
   (atKey xs k=none->∀h',h'.DictOfH knd d (storedH xs k a dflt)->Heap.SameBut d s.heap h'->R (.ok (.ret dflt)) {s with heap:=h',toks:=s.toks+knd.draws k})):=
 .of_wp λA R s ⟨hu,k,xs,hk,hm,hz,h1,h2⟩=>by
  unfold Builtin.«dict.setdefault»;refine LG ?_;unfold Builtin.Dict.keyAndDefault;refine LG (PK hm.typeIs ?_);show wpAny _ _ (pure (d,Value.ref a,some dflt)) _ _ s;refine LR ?_;show wpAny _ _ (if(d==sysModules)=true then _ else(dictSetDefault d (.ref a) dflt>>=_)) _ _ s;rw[if_neg (by rw[hd];exact Ms)];exact LG (Z4 hu hk hm (λp hp=>LR ⟨_,rfl,h1 p hp⟩) (λhn h' hm' hs'=>LR ⟨dflt,rfl,h2 hn h' hm' hs'⟩) hz)
end
end PySem
namespace L2
open PySem PySem.Spec PyProof.Rows
section
variable {X:Cx}
def Dd:V->List V->Hp->VK->Prop:=λx vs H Q=>∃(d t:Addr) (kvs:List (List i6×V)) (k:List i6) (v:V),x= .ref d/\vs=[.ref t,v]/\H d=some (.dT kvs)/\H t=some (.tup (k.map kV))/\kvs.length<sizeLine/\
 (match k9 kvs k with|some u=>Q u H|none=>Q v (upd H d (.dT (E1 kvs k v))))
def dS {k:Nat}(hr:Room k X.A):Bs X "dict.setdefault" Dd:=by
 intro pins s σ H x vs v us Q I rx rv h;obtain⟨d,t,kvs,k',y,rfl,rfl,e,et,hl,q⟩:=h;cases rx;obtain⟨u1,u2,rfl,r1,r2⟩:=bR rv;cases r1;obtain⟨z,hd,xs,rel,dd⟩:=DS I.hok e;have hz:xs.length<=sizeLine:=by rw[←Mj rel];exact z
 have TX:(E1 kvs k' y).length<=sizeLine:=by have:=O7 kvs k' y;lia
 refine Nl F.slot_dict_setdefault dd.typeIs F.entry_dict_setdefault (F.args_dict_setdefault_3 _ _ _) (bA (tupleKind (j7 X.prog X.w)) d t hd u2) ⟨NF (by have:=hr.un;lia),k',xs,dm I.hok et,dd,hz,λp hp=>?_,λhn h' dd' hs=>?_⟩
 .have hw:(atKey xs k').map (·.2)=some p.2:=by rw[hp];rfl
  have ro:=rel.val k';rw[hw] at ro;cases hv:k9 kvs k' with
  |none=>rw[hv] at ro;cases ro
  |some w'=>
   rw[hv] at ro q
   exact⟨w',H,I.tok _,ro,q⟩
 .have ro:=rel.val k';rw[hn] at ro;cases hv:k9 kvs k' with
  |some w'=>rw[hv] at ro;cases ro
  |none=>
   rw[hv] at q
   refine⟨y,_,?_,r2,q⟩
   obtain⟨o',es,ep,hq,h2,h3,h4,_,h5⟩:=dd'
   refine gw I (by rw[e];exact True.intro) hs ⟨o',hq⟩ ⟨TX,hd,_,(rel.put k' et r2).keeps λc ys ec=>?_,o',es,ep,hq,h2,h3,h4,h5⟩
   rw[b7 (DU ec e (λz=>nomatch z))]
   exact ec
end
section
variable {X:Cx}
def AM (K:Za):List V->Hp->VK->Prop:=λxs H Q=>∃(t:Addr) (a b:Str),xs=[.ref t]/\SqT K H t [.str a,.str b]/\Q (.str (if a.cps.toList<b.cps.toList then b else a)) H
def ye (hc:X.calm=true):CallR X (.builtin "max") (AM X.K):=by
 intro pins s σ H xs us Q I r h;obtain⟨t,a,b,rfl,ht,q⟩:=h;obtain⟨u,rfl,ru⟩:=M9 r;cases ru;obtain⟨a_,rv,p,hz⟩:=I.tuple ht;obtain⟨_,_,rfl,⟨t1,rfl⟩,⟨t2,rfl⟩⟩:=bR rv;refine call_max_walk (wpAny_pyIter_tuple (show s.heap.IsTuple t #[Value.str a t1,Value.str b t2] from p) ?_);have j':t<s.heap.objs.size:=by
  obtain⟨o,e,_⟩:=(show s.heap.IsTuple t #[Value.str a t1,Value.str b t2] from p)
  exact LU e
 have kp:∀c o,s.heap.get? c=some o->(s.heap.push {cls:= .type "tuple_iterator",data:= .fields #[.ref t,.int 0 0]}).get? c=some o:=λc o e=>LL _ e;refine⟨s.heap.objs.size,[s.heap.objs.size,t],[s.heap.objs.size],2,_,_,λi j=>decide ((if j=0 then a else b).cps.toList<(if i=0 then a else b).cps.toList),rfl,Walks.tuple (A:=X.A.in1) (show X.A.in1.handled=none from I.ok.hd hc) s.heap.objs.size t (Mf j') #[Value.str a t1,Value.str b t2],⟨⟨_,Md _ rfl,rfl,rfl⟩,let ⟨o,e,r⟩:=p;⟨o,kp _ _ e,r⟩⟩,λc SG=>?_,by decide,?_,?_⟩
 .show c<(s.heap.push _).objs.size;rcases Mr.mp SG with rfl|SG
  .simp [Heap.push]
  .rw[Me.mp SG];have z:s.heap.objs.size<(s.heap.push {cls:= .type "tuple_iterator",data:= .fields #[.ref t,.int 0 0]}).objs.size:=by simp [Heap.push]
   exact Rw j' z
 .intro i j vi vj s' Q' E' hi hj hQ;have key:∀(i:Nat) (v:Value),(#[Value.str a t1,Value.str b t2]:Array Value)[i]?=some v->∃tk,v= .str (if i=0 then a else b) tk:=λi v h=>by
   match i,h with
   |0,h=>exact⟨t1,by simpa using h.symm⟩
   |1,h=>exact⟨t2,by simpa using h.symm⟩
   |n+2,h=>simp at h
  obtain⟨k1,rfl⟩:=key i vi hi;obtain⟨k2,rfl⟩:=key j vj hj;exact richCompare_gives (op:= .Gt) (RJ _ _ _) (RJ _ _ _) F.slot_str_gt F.entry_str_gt (F.args_str_gt_2 _ _) (gives_str_gt _ _ _ _) (λe=>nomatch e) hQ
 .intro v h' tk hv hk;have I2:Inv X pins σ H {s with heap:=h',toks:=tk}:=I.kept λc o e=>hk c o (λz=>by rw[Me.mp z] at e;exact absurd (LU e) (Nb _)) (kp c o e);refine⟨_,H,I2,?_,q⟩;by_cases hl:a.cps.toList<b.cps.toList
  .have e:argBest (λi j=>decide ((if j=0 then a else b).cps.toList<(if i=0 then a else b).cps.toList)) (2 -1)=1:=by show(if decide (a.cps.toList<b.cps.toList)=true then 1 else 0)=1;rw[if_pos (Ma hl)]
   rw[e] at hv;rw[if_pos hl];exact⟨t2,by simpa using hv.symm⟩
  .have e:argBest (λi j=>decide ((if j=0 then a else b).cps.toList<(if i=0 then a else b).cps.toList)) (2 -1)=0:=by show(if decide (a.cps.toList<b.cps.toList)=true then 1 else 0)=0;rw[if_neg (by rw[Mn hl];decide)]
   rw[e] at hv;rw[if_neg hl];exact⟨t1,by simpa using hv.symm⟩
def Ih (K:Za)(hc:X.calm=true)(h:X.K=K:=by rfl):CallR X (.builtin "max") (AM K):=h▸ye hc
end
def Fc {K:Za}{H:Hp}{Q:VK}{t:Addr}{a b:Str}(h:SqT K H t [.str a,.str b])(q:Q (.str (if a.cps.toList<b.cps.toList then b else a)) H):AM K [.ref t] H Q:=⟨t,a,b,rfl,h,q⟩
structure FunD (K:Za) (x qual:Str) (st:Stmt) (T:Addr) (f:Addr) (fd:FuncData):Prop where
 ex:∃(oc:Value) (od:Option Addr) (kV doc pm:Value) (an:Option Addr) (c_ ct:Value) (L_:Array (Option Value)),
  fd=PySem.W.fnOf x qual (O9 st) (J1 st) (b9 st) (.ref T) kV doc pm an c_ ct/\K.lookup f=some ⟨oc,od,.func fd,L_⟩/\PySem.W.codeIn K c_ qual=true
 kp:PySem.W.keepIn K (.ref f)=true
section
variable {P:Program} {w:World} {K:Za} {mg:Str->Option Value} {base:Heap}
def FunD.ok {x qual:Str}{st:Stmt}{T f:Addr}{fd:FuncData}{N ps:List Str}{k:Nat}{sp:Sp}(F:FunD K x qual st T f fd)(S:i4 N ps (b9 st))(len:∀vs H Q E,sp vs H Q E->vs.length=ps.length)
  (B_:∀(c_:Value) (A:Around) (outer:List Env) (s:Shared) (H:Hp) (vs:List V) (Q:VK) (E:XK),Room k (A.deeper (envOfC qual (b9 st) s.heap.objs.size f c_))->sp vs H Q E->
   ∃t,PSs (jr A9 P w K mg base N qual (b9 st) f c_ A outer s H E).nox (J1 st) t/\t {nx:=λ_ H'=>Q .non H',rt:=Q} (eM N vs) H):x8 P w K mg base A9 (k+1) f fd ps sp:=by
 obtain⟨oc,od,kV,doc,pm,an,c_,ct,L_,rfl,lk,G'⟩:=F.ex
 refine yD lk G' S len λA outer s H vs Q E hr Tg=>?_
 obtain⟨t,h,q⟩:=B_ c_ A outer s H vs Q E hr Tg
 exact⟨t,h.nox,q⟩
def BP {x qual:Str}{st:Stmt}{T f:Addr}{oc:Value}{od an:Option Addr}{L_:Array (Option Value)}{kV doc pm c_ ct:Value}(l:K.lookup f=some ⟨oc,od,.func (PySem.W.fnOf x qual (O9 st) (J1 st) (b9 st) (.ref T) kV doc pm an c_ ct),L_⟩)
  (c:PySem.W.codeIn K c_ qual=true) (k:PySem.W.keepIn K (.ref f)=true):FunD K x qual st T f (PySem.W.fnOf x qual (O9 st) (J1 st) (b9 st) (.ref T) kV doc pm an c_ ct):=⟨⟨oc,od,kV,doc,pm,an,c_,ct,L_,rfl,l,c⟩,k⟩
end
open PySem.AutoSeq1 (wpAny_loadPart')
open PySem.MeetsSeq PySem.MeetsSeq2 PySem.MeetsSeq3
section
variable {P:Program} {w:World}
end
section
variable {X:Cx}
end
section
variable {α β:Type}
end
def KQ (rk:Value->Int)(p:Keyed):Keyed:=(.int (rk p.1) 0,p.2)
def kA (rk:Value->Int)(st:SortSt)(i:Nat):Int:=K ((arrOf st).map (KQ rk)) i
structure TB (kd:SortKind) (base:Array Keyed) (st:SortSt):Prop where
 pm:(arrOf st).Perm base
 kd:kindOf st=kd
 fl:failedOf st=none
 pe:pendingOf st= #[]
section
variable {prog:Program} {w:World} {A:Around} {E:Value->Shared->Prop} {s:Shared} {rk:Value->Int} {kd:SortKind} {base:Array Keyed} {st:SortSt}
def KZ (rk:Value->Int)(st:SortSt)(n:Nat):Prop:=∀i j,i<=j->j<n->kA rk st i<=kA rk st j
end
section
variable {prog:Program} {w:World} {A:Around} {E:Value->Shared->Prop} {s:Shared} {rk:Value->Int} {kd:SortKind} {base:Array Keyed} {st:SortSt}
structure TD (rk:Value->Int) (base:Array Keyed) (st:SortSt):Prop where
 pm:(arrOf st).Perm base
 fl:failedOf st=none
 pe:pendingOf st= #[(0,base.size,0)]
 up:KZ rk st base.size
end
def Kh:V->List Nat
 | .str a=>a.cps.toList
 | .bl b=>[b.toNat]
 |_=>[]
abbrev JY (xs:List V):List (List Nat):=xs.map Kh
def Dl {a b:Str}(h:a.cps.toList=b.cps.toList):a=b:=by
 cases a;cases b;congr;exact Array.toList_inj.mp h
section
variable {P:Program} {w:World} {A:Around} {E:Value->Shared->Prop} {s:Shared}
end
abbrev Lx:=List (List Nat)
section
variable {P:Program} {w:World} {A:Around} {E:Value->Shared->Prop} {s:Shared}
structure Ls (h:Heap) (kf:Value->Lx) (v:Value):Prop where
 at_:∃(a:Addr) (us:List Value) (xs:List V) (x:Str) (r:List V),v= .ref a/\h.IsTuple a us.toArray/\Vals xs us/\xs= .str x::r/\kf v=JY xs
end
section
variable {P:Program} {w:World} {A:Around} {E:Value->Shared->Prop} {s:Shared}
end
section
variable {X:Cx}
end
abbrev Lk:=Str×Bool×Bool
def GX (c:Lk):List V:=[.str c.1,.bl c.2.1,.bl c.2.2]
def GW (c d:Lk):Q8 (GX c) (GX d)=decide (c=d):=by
 obtain⟨c1,c2,c3⟩:=c;obtain⟨d1,d2,d3⟩:=d;show(c1==d1&&(c2==d2&&(c3==d3&&true)))=_;rw[My];simp
def Eu {c d:Lk}(h:GX c=GX d):c=d:=by
 obtain⟨c1,c2,c3⟩:=c;obtain⟨d1,d2,d3⟩:=d;have h1:=V.str.inj (Nj h).1;have h2:=V.bl.inj (Nj (Nj h).2).1;have h3:=V.bl.inj (Nj (Nj (Nj h).2).2).1;rw[show c1=d1 from h1,show c2=d2 from h2,show c3=d3 from h3]
def qT (K:Za)(H:Hp)(xs:List V)(cs:List Lk):Prop:=Paired (λv c=>∃t,v=V.ref t/\SqT K H t (GX c)) xs cs
structure LkV (K:Za) (H:Hp) (u:V) (kd:Str) (cs:List Lk):Prop where
 ex:∃(a l:Addr) (xs:List V),u= .ref a/\SqT K H a [.str kd,.ref l]/\SqL K H l xs/\qT K H xs cs
section
variable {X:Cx} {pins:List (Addr×Obj)} {σ:St} {H:Hp} {s:Shared}
def AD (I : Inv X pins σ H s) : ∀ {xs : List V} {cs ds : List Lk}, qT X.K H xs cs -> qT X.K H xs ds -> cs = ds
 := by
  intro xs cs ds h1 h2;induction h1 generalizing ds with
  | nil => cases h2; rfl
  | cons a r ih => cases h2 with
    | cons a' r' =>
      obtain ⟨t, e, h⟩ := a
      obtain ⟨t', e', h'⟩ := a'
      rw [e] at e'
      cases e'
      rw [Eu (I.tuple_inj h h'), ih r']
def IT (I:Inv X pins σ H s){A:Around}{l m:Addr}{xs ys:List V}{cs ds:List Lk}(h1:SqL X.K H l xs)(h2:SqL X.K H m ys)(p1:qT X.K H xs cs)(p2:qT X.K H ys ds)(hu:A.units+48<cLine):EqP X.prog X.w A s (.ref l) (.ref m) (decide (cs=ds)):=by
 by_cases e:l=m
 .subst e;have ex:=I.list_inj h1 h2;subst ex;rw[Ma (AD I p1 p2)];exact .of (OC _)
 .obtain⟨us,r1,q1,z1⟩:=I.list h1;obtain⟨vs,r2,q2,z2⟩:=I.list h2;have a1:=r1.length;have a2:=r2.length;have b1:=Mj p1;have b2:=Mj p2;by_cases hl:xs.length=ys.length
  .have q:=RcP.lst (P:=X.prog) (w:=X.w) (A:=A) (f:=λj=>decide (cs[j]?=ds[j]?)) q1.isList q2.isList (by simp;lia) (by lia) λj g1 g2=>by
    have RC:j<us.length:=by simpa using g1
    have RF:j<vs.length:=by simpa using g2
    have x1:xs[j]?=some (xs[j]'(by lia)):=LA _;have y1:ys[j]?=some (ys[j]'(by lia)):=LA _;obtain⟨u1,SN,Se⟩:=r1.get x1;obtain⟨u2,Q_,So⟩:=r2.get y1;have e1:us.toArray[j]=u1:=by
     have:=LA RC;rw[SN] at this;simpa using(Mc this).symm
    have e2:vs.toArray[j]=u2:=by
     have:=LA RF;rw[Q_] at this;simpa using(Mc this).symm
    obtain⟨c,hc,t1,et1,s1⟩:=B5 p1 x1;obtain⟨d,hd,t2,et2,s2⟩:=B5 p2 y1;rw[e1,e2,hc,hd];rw[et1] at Se;rw[et2] at So;have z:=EqN.at_ (n:=0) (A:=A.in1) I (.inl (Eq1.tup s1 s2 rfl rfl)) Se So (by show A.units+1+32+0<cLine;lia);rw[GW] at z;rw[show decide (some c=some d)=decide (c=d) by simp];exact z
   have e3:(List.range us.toArray.size).all (λj=>decide (cs[j]?=ds[j]?))=decide (cs=ds):=by
    rw[My,Mq,Mg];constructor
    .intro h;refine Tb λj=>?_;rcases ND j us.length with z|z
     .exact ME (h j (by simpa using z))
     .rw[MR (by lia),MR (by lia)]
    .rintro rfl j _;exact Ma rfl
   rw[e3] at q;exact .refs e q
  .have u_:cs≠ds:=λz=>hl (by rw[b1,b2,z]);rw[Mn u_];exact .of (.of_refs e (OW q1.isList q2.isList (by simp;lia) (by lia)))
end
section
variable {X:Cx}
def DQ (K:Za):R2:=λx y H Q=>∃(kd J_:Str) (cs ds:List Lk),LkV K H x kd cs/\LkV K H y J_ ds/\Q (.bl (decide (kd=J_)&&decide (cs=ds))) H
def Cn (hu:X.A.units+64<cLine):OpR X (compareOp .Eq) (DQ X.K):=by
 intro pins s σ H x y v u Q I rx ry h;obtain⟨kd,J_,cs,ds,⟨a,l,xs,rfl,t1,s1,p1⟩,⟨c,m,ys,rfl,t2,s2,p2⟩,k⟩:=h;cases rx;cases ry;obtain⟨us,r1,q1,z1⟩:=I.tuple t1;obtain⟨vs,r2,q2,z2⟩:=I.tuple t2;obtain⟨u1,u2,rfl,⟨XG,rfl⟩,e2⟩:=bR r1;obtain⟨v1,v2,rfl,⟨Um,rfl⟩,f2⟩:=bR r2;cases e2;cases f2;have q:=RcP.tup (P:=X.prog) (w:=X.w) (A:=X.A) (f:=λj=>if j=0 then decide (kd=J_) else decide (cs=ds)) (show s.heap.IsTuple a #[Value.str kd XG,Value.ref l] from q1) (show s.heap.IsTuple c #[Value.str J_ Um,Value.ref m] from q2) (by lia) λj g1 g2=>by
  match j,g1,g2 with
  |0,_,_=>
   have z:=EqP.of (P:=X.prog) (w:=X.w) (cK (A:=X.A.in1) (s:=s) (y:= .str kd) (x:= .str J_) ⟨XG,rfl⟩ ⟨Um,rfl⟩ rfl rfl)
   rw[show fc (.str kd) (.str J_)=decide (kd=J_) from rfl] at z
   exact z
  |1,_,_=>exact IT (A:=X.A.in1) I s1 s2 p1 p2 (by show X.A.units+1+48<cLine;lia)
  |n+2,g1,_=>exact absurd g1 (by simp)
 have e:((List.range (min (#[Value.str kd XG,Value.ref l]:Array Value).size (#[Value.str J_ Um,Value.ref m]:Array Value).size)).all (λj=>if j=0 then decide (kd=J_) else decide (cs=ds))&&(#[Value.str kd XG,Value.ref l]:Array Value).size==(#[Value.str J_ Um,Value.ref m]:Array Value).size)=(decide (kd=J_)&&decide (cs=ds)):=by
  show(([0,1]:List Nat).all _&&true)=_;simp
 rw[e] at q;exact q _ _ ⟨.bl _,H,I,rfl,k⟩
def DN (K:Za):R2:=λx y H Q=>kW K x y H Q\/DQ K x y H Q
def HP (K:Za){k:Nat}(hr:Room k X.A)(h:X.K=K:=by rfl):OpR X (compareOp .Eq) (DN K):=(aX K hr h).or (h▸Cn hr.units)
def EqA (K:Za)(H:Hp)(x y:V)(b:Bool):Prop:=(∃a c,x= .str a/\y= .str c/\b=decide (a=c))\/∃(kd J_:Str) (cs ds:List Lk),LkV K H x kd cs/\LkV K H y J_ ds/\b=(decide (kd=J_)&&decide (cs=ds))
def Hr {K:Za}{H:Hp}{Q:VK}{x y:V}{b:Bool}(h:EqA K H x y b)(q:Q (.bl b) H):DN K x y H Q:=by
 rcases h with⟨a,c,rfl,rfl,rfl⟩|⟨kd,J_,cs,ds,h1,h2,rfl⟩
 .exact .inl (jP q)
 .exact .inr ⟨kd,J_,cs,ds,h1,h2,q⟩
def LkV.mono {K:Za}{H H':Hp}{u:V}{kd:Str}{cs:List Lk}(l:Le H H')(h:LkV K H u kd cs):LkV K H' u kd cs:=by
 obtain⟨a,m,xs,e,t,s,p⟩:=h;exact⟨a,m,xs,e,l.tup t,l.lst s,Paired.imp' (λ_ _ ⟨t,e,z⟩=>⟨t,e,l.tup z⟩) p⟩
def EqA.mono {K:Za}{H H':Hp}{x y:V}{b:Bool}(l:Le H H')(h:EqA K H x y b):EqA K H' x y b:=by
 rcases h with h|⟨kd,J_,cs,ds,h1,h2,e⟩
 .exact .inl h
 .exact .inr ⟨kd,J_,cs,ds,h1.mono l,h2.mono l,e⟩
end
open PySem.AutoSeq1 (wpAny_loadPart')
open PySem.MeetsSeq PySem.MeetsSeq2 PySem.MeetsSeq3
section
variable {P:Program} {w:World}
def Gx (l m:Addr)(xs ys:Array Value)(n1 n2:Nat)(d1 d2:Option Addr)(s1 s2:Array (Option Value))(hz:xs.size≠ys.size):
  MeetsIn P w (Builtin.«list.__ne__» ⟨[.ref l,.ref m],[]⟩) (λA R s=>
   s.heap.get? l=some {cls:= .type "list",dict:=d1,data:= .seq xs n1,slots:=s1}/\s.heap.get? m=some {cls:= .type "list",dict:=d2,data:= .seq ys n2,slots:=s2}/\
   R (.ok (.ret (.bool true))) s):=by
 intro A R s hyp
 obtain⟨hp,gg,dr,tk,os⟩:=s
 obtain⟨e1,e2,fin⟩:=hyp
 have q1:=Pn;have q2:(xs.size !=ys.size)=true:=by simp [hz]
 wp_walk using wpAny_loadPart' e1,wpAny_loadPart' e2
 exact fin
end
section
variable {X:Cx}
def Iq (K:Za):R2:=λx y H Q=>∃(p q:Addr) (xs:List V),x= .ref p/\y= .ref q/\SqL K H p xs/\SqL K H q []/\Q (.bl (!xs.isEmpty)) H
def Gv (hu:X.A.units+64<cLine):OpR X (compareOp .NotEq) (Iq X.K):=by
 intro pins s σ H x y v u Q I rx ry h;obtain⟨p,q,xs,rfl,rfl,hp,hq,k⟩:=h;cases rx;cases ry;obtain⟨us,r1,p1,z1⟩:=I.list hp;obtain⟨vs,r2,p2,z2⟩:=I.list hq;have le1:=r1.length;have Zb:=r2.length;obtain rfl:vs=[]:=MZ (by simpa using Zb.symm);cases xs with
 |nil=>
  obtain rfl:us=[]:=MZ (by simpa using le1.symm)
  have q:=NcP.lst (P:=X.prog) (w:=X.w) (A:=X.A) (f:=λ_=>true) p1.isList p2.isList rfl (by lia) (λj g1 _=>absurd g1 (by simp))
  exact q _ _ ⟨.bl _,H,I,rfl,k⟩
 |cons x r=>
  obtain⟨⟨c1,d1,a1,s1⟩,o1,k1,n1,w1⟩:=id p1.isList
  obtain⟨⟨c2,d2,a2,s2⟩,o2,k2,n2,w2⟩:=id p2.isList
  simp only at k1 w1 k2 w2
  subst k1 w1 k2 w2
  show wpAny _ X.A (richCompare .NotEq (.ref p) (.ref q)) _ _ s
  refine Nt (op:= .NotEq) ⟨_,o1,rfl⟩ ⟨_,o2,rfl⟩ OM (Nl OM ⟨_,o1,rfl⟩ RE (Rr _ _) (Gx p q us.toArray #[] n1 n2 d1 d2 s1 s2 (by simp;intro z;rw[z] at le1;simp at le1)) ⟨o1,o2,?_⟩) (by lia)
  exact⟨(λz=>nomatch z),⟨.bl _,H,I,rfl,k⟩⟩
def JQ (K:Za){k:Nat}(hr:Room k X.A)(h:X.K=K:=by rfl):OpR X (compareOp .NotEq) (Iq K):=h▸Gv hr.units
def jv {X:Cx}:Jw X "list.extend" vw:=wY
end
structure FnIn (K:Za) (n:Str) (st:Stmt) (f:Addr):Prop where
 a:PySem.W.nsIn K mainGlobals n=some (some (.ref f))
 F:∃fd,Fun K n n st f fd
def FnIn.mk' {K:Za}{n:Str}{st:Stmt}{f:Addr}{oc:Value}{od an:Option Addr}{L_:Array (Option Value)}{kV doc pm c_ ct:Value}(a:PySem.W.nsIn K mainGlobals n=some (some (.ref f)))(l:K.lookup f=some ⟨oc,od,.func (PySem.W.fnOf n n (O9 st) (J1 st) (b9 st) .none kV doc pm an c_ ct),L_⟩)
  (c:PySem.W.codeIn K c_ n=true) (k:PySem.W.keepIn K (.ref f)=true):FnIn K n st f:=⟨a,_,El l c k⟩
def j3 {P:Program}{w:World}{K:Za}{mg:Str->Option Value}{base h:Heap}{CX:qo}{k:Nat}{n:Str}{st:Stmt}{ps:List Str}{sp:Sp}{f:Addr}(X:K.In h)(G:h.Ns mainGlobals mg)(a:FnIn K n st f)(ok:∀{f fd},Fun K n n st f fd->x8 P w K mg base CX k f fd ps sp)
  (b:∀(kV doc pm:Value) (an:Option Addr) (c_ ct:Value) (us:List Value),us.length=ps.length->bindArgs (PySem.W.fnOf n n (O9 st) (J1 st) (b9 st) .none kV doc pm an c_ ct) ⟨us,[]⟩=pure (ps.zip us)):K3 P w K mg base CX k n ps [] sp:=by
 obtain⟨fd,F⟩:=a.F
 exact⟨f,_,[],ok F,Nu X G a.a,F.kp,F.binds b,.nil⟩
def Fq {P:Program}{w:World}{K:Za}{mg:Str->Option Value}{h:Heap}{CX:qo}{k:Nat}{st:Stmt}{p:Str}{sp:Sp}{f fa:Addr}(X:K.In h)(G:h.Ns mainGlobals mg)(Zc:mg "law"=some (.ref fa))(a:FnIn K "law" st f)(ok:∀{base f fd},Fun K "law" "law" st f fd->x8 P w K mg base CX k f fd [p] sp)
  (b:∀(kV doc pm:Value) (an:Option Addr) (c_ ct:Value) (s:Shared) (v:Value),BindsTo s (PySem.W.fnOf "law" "law" (O9 st) (J1 st) (b9 st) .none kV doc pm an c_ ct) ⟨[v],[]⟩ [(p,v)]):
  ∃fd:FuncData,(∀(s:Shared) (v:Value),BindsTo s fd ⟨[v],[]⟩ [(p,v)])/\∀base:Heap,K.In base->base.Ns mainGlobals mg->x8 P w K mg base CX k fa fd [p] sp:=by
 obtain⟨fd,F⟩:=a.F
 have e:=Zc.symm.trans (Nu X G a.a)
 cases e
 obtain⟨oc,od,kV,doc,pm,an,c_,ct,L_,rfl,lk,G'⟩:=id F.ex
 exact⟨_,λs v=>b _ _ _ _ _ _ s v,λbase _ _=>ok F⟩
section
variable {fd:FuncData} {ps:List Str} {us:List Value}
def uc {us:List Value}{n:Nat}(h:us.length=n+1):∃a r,us=a::r/\r.length=n:=by
 cases us with
 |nil=>cases h
 |cons a r=>exact⟨a,r,rfl,Nat.succ.inj h⟩
def Lg (h:us.length=1)(g:∀a:Value,bindArgs fd ⟨[a],[]⟩=pure (ps.zip [a])):bindArgs fd ⟨us,[]⟩=pure (ps.zip us):=by
 obtain⟨a,us,rfl,h1⟩:=uc h;cases us with
 |nil=>exact g a
 |cons _ _=>cases h1
def Lv (h:us.length=2)(g:∀a b:Value,bindArgs fd ⟨[a,b],[]⟩=pure (ps.zip [a,b])):bindArgs fd ⟨us,[]⟩=pure (ps.zip us):=by
 obtain⟨a,us,rfl,h1⟩:=uc h;obtain⟨b,us,rfl,h2⟩:=uc h1;cases us with
 |nil=>exact g a b
 |cons _ _=>cases h2
def Ln (h:us.length=3)(g:∀a b c:Value,bindArgs fd ⟨[a,b,c],[]⟩=pure (ps.zip [a,b,c])):bindArgs fd ⟨us,[]⟩=pure (ps.zip us):=by
 obtain⟨a,us,rfl,h1⟩:=uc h;obtain⟨b,us,rfl,h2⟩:=uc h1;obtain⟨c,us,rfl,h3⟩:=uc h2;cases us with
 |nil=>exact g a b c
 |cons _ _=>cases h3
def Lp (h:us.length=4)(g:∀a b c d:Value,bindArgs fd ⟨[a,b,c,d],[]⟩=pure (ps.zip [a,b,c,d])):bindArgs fd ⟨us,[]⟩=pure (ps.zip us):=by
 obtain⟨a,us,rfl,h1⟩:=uc h;obtain⟨b,us,rfl,h2⟩:=uc h1;obtain⟨c,us,rfl,h3⟩:=uc h2;obtain⟨d,us,rfl,h4⟩:=uc h3;cases us with
 |nil=>exact g a b c d
 |cons _ _=>cases h4
def Lu (h:us.length=5)(g:∀a b c d e:Value,bindArgs fd ⟨[a,b,c,d,e],[]⟩=pure (ps.zip [a,b,c,d,e])):bindArgs fd ⟨us,[]⟩=pure (ps.zip us):=by
 obtain⟨a,us,rfl,h1⟩:=uc h;obtain⟨b,us,rfl,h2⟩:=uc h1;obtain⟨c,us,rfl,h3⟩:=uc h2;obtain⟨d,us,rfl,h4⟩:=uc h3;obtain⟨e,us,rfl,h5⟩:=uc h4;cases us with
 |nil=>exact g a b c d e
 |cons _ _=>cases h5
def Ld (h:us.length=6)(g:∀a b c d e f:Value,bindArgs fd ⟨[a,b,c,d,e,f],[]⟩=pure (ps.zip [a,b,c,d,e,f])):bindArgs fd ⟨us,[]⟩=pure (ps.zip us):=by
 obtain⟨a,us,rfl,h1⟩:=uc h;obtain⟨b,us,rfl,h2⟩:=uc h1;obtain⟨c,us,rfl,h3⟩:=uc h2;obtain⟨d,us,rfl,h4⟩:=uc h3;obtain⟨e,us,rfl,h5⟩:=uc h4;obtain⟨f,us,rfl,h6⟩:=uc h5;cases us with
 |nil=>exact g a b c d e f
 |cons _ _=>cases h6
end
def JC (a u:St->Hp->Prop):Prop:=∀σ H,u σ H->a σ H
def Jf {t u:TS}{nx:St->Hp->Prop}{rt:V->Hp->Prop}{bk ct:St->Hp->Prop}{σ:St}{H:Hp}(h:∀a:St->Hp->Prop,JC a (u ⟨nx,rt,bk,ct⟩)->t ⟨a,rt,bk,ct⟩ σ H):xV t u ⟨nx,rt,bk,ct⟩ σ H:=h _ λ_ _ z=>z
def DI {a u:St->Hp->Prop}{σ:St}{H:Hp}(h:JC a u)(q:u σ H):a σ H:=h σ H q
section
variable {J:It} {th:Hp->Hp} {g:V->St->Hp->(St->Hp->Prop)->Prop} {tb:TS} {nx:St->Hp->Prop} {rt:V->Hp->Prop} {σ:St} {H:Hp} {n:Nat}
def iF (Pv:Nat->St->Hp->Prop)(h0:Pv 0 σ H)(R_:∀i σ H,i<n->Pv i σ H->J.go i H)
  (hs:∀i x σ H H',i<n->Pv i σ H->J.yld i H x H'->∀a:St->Hp->Prop,JC a (Pv (i+1))->g x σ H' λσ2 H2=>tb ⟨a,λv H=>rt v (th H),λσ H=>nx σ (th H),a⟩ σ2 H2)
  (hd:∀σ H,Pv n σ H->J.stop n H/\nx σ (th H)):xI J th g tb nx rt σ H:=Bk Pv h0 R_ (λi x σ H H' a b c=>hs i x σ H H' a b c _ λ_ _ z=>z) hd
def K5 (Pv:Nat->St->Hp->Prop)(h0:Pv 0 σ H)(R_:∀i σ H,i<n->Pv i σ H->J.go i H)
  (hs:∀(bk:St->Hp->Prop) i x σ H H',i<n->Pv i σ H->J.yld i H x H'->∀a:St->Hp->Prop,JC a (Pv (i+1))->g x σ H' λσ2 H2=>tb ⟨a,λv H=>rt v (th H),bk,a⟩ σ2 H2)
  (hd:∀σ H,Pv n σ H->J.stop n H/\nx σ (th H)):xI J th g tb nx rt σ H:=FH Pv h0 R_ (λk i x σ H H' a b c=>hs k i x σ H H' a b c _ λ_ _ z=>z) hd
end
def zX (K:Za)(T:Addr)(tb:(St->XK)->TS)(ts:TS):TS:=λD σ H=>
 tb (λσ' c oa H'=>∃C a,c= .ref C/\oa=some a/\PySem.W.subIn K (.ref C) (.ref T)=some true/\ts D σ' (upd H' a (.ext (eK a C)))) D σ H
def sW {K:Za}{T:Addr}{tb:(St->XK)->TS}{ts:TS}{D:rF}{σ:St}{H:Hp}(q:tb (λσ' c oa H'=>∃C a,c= .ref C/\oa=some a/\PySem.W.subIn K (.ref C) (.ref T)=some true/\ts D σ' (upd H' a (.ext (eK a C)))) D σ H):zX K T tb ts D σ H:=q
section
variable {X:Cx} {x:Str} {T:Addr} {np TC pos:Pos} {b₀:Stmt} {body suite:List Stmt} {tb:(St->XK)->TS} {ts:TS}
def BY (O:JZ X.K X.mg x T)(hb:∀pins Es,PSs (X.tried pins Es) body (tb Es))(hs:∀e,PSs (X.suite e) (b₀::suite) ts)
  (Tp:X.stack=X.env::X.outer) (Ro:X.env.frame=some X.env.locals) (hex:X.ex=[]) (hg:Gl X x:=by rfl) (t_:(x==("__debug__":Str))=false:=by decide):
  PS X (.Try body [.ExceptHandler (some (.Name x np)) none (b₀::suite) TC] [] [] pos) (zX X.K T tb ts):=by
 intro pins s σ H D I hw
 refine wpAny_Try_except (Qd (hb pins _ [] s σ H D I.toTried hw) (λf s1 q=>?_) λe s1 q=>?_)
 .cases f with
  |next=>obtain⟨σ',H',I',q'⟩:=q;exact OZ ⟨σ',H',I'.ofTried,q'⟩
  |brk=>obtain⟨σ',H',I',q'⟩:=q;exact⟨σ',H',I'.ofTried,q'⟩
  |cont=>obtain⟨σ',H',I',q'⟩:=q;exact⟨σ',H',I'.ofTried,q'⟩
  |ret u=>obtain⟨v,σ',H',I',r',q'⟩:=q;exact⟨v,σ',H',I'.ofTried,r',q'⟩
 .obtain⟨i',σ',H1,s2,I2',a,C',a0,B,H',rfl,F,C,a',ec,ea,Uk,hts⟩:=q
  cases ec
  cases ea
  have I2:=I2'.ofPinned
  have r_:=F.fl
  rw[Tp] at r_
  refine wpAny_looks_onW (by rw[I.ok.frames,Tp]) Ro r_ λh4 held4 sm4=>?_
  refine wpAny_landsW held4 λh5 hfl5 sm5=>?_
  have I5:Inv X pins σ' H' {s1 with heap:=h5}:=F.land I2 hfl5.1 (sm4.trans sm5) s1.toks
  have hx5:eK a C' h5:=by
   obtain⟨oe,vs,z1,z2,z3,_⟩:=hfl5.first;exact⟨oe,vs,z1,z2,z3⟩
  refine wpAny_handleBy_cons (codeAny_handlers_test ?_) (by intro q;cases q)
  refine gh (X:=X.suite a) (I5.toSuite (e:=a)) hg O.bound ?_ t_
  refine qI I5.kIn hx5 O.ty O.exc O.cls Uk ?_
  refine codeAny_handlers_suite ?_
  refine lands_againW hfl5 λh6 hfl6 sm6=>?_
  have I6:Inv X pins σ' H' {s1 with heap:=h6}:=F.land I2 hfl6.1 ((sm4.trans sm5).trans sm6) s1.toks
  have hx6:eK a C' h6:=by
   obtain⟨oe,vs,z1,z2,z3,_⟩:=hfl6.first;exact⟨oe,vs,z1,z2,z3⟩
  have nB:B.get? a=none:=hfl6.2.1
  have nfr:a∉aZ X.stack:=λhb=>by
   obtain⟨oe,vs,z1,z2,z3⟩:=hx6;rw[Tp] at hb;exact K2 hfl6.2.2.1 hb z1 vs z3
  have n2:s2.heap.get? a=none:=by
   cases z:s2.heap.get? a with
   |none=>rfl
   |some o=>
    obtain⟨o',z'⟩:=F.th a o z nfr
    rw[nB] at z';cases z'
  have n0:X.s₀.heap.get? a=none:=by
   cases z:X.s₀.heap.get? a with
   |none=>rfl
   |some o=>
    obtain⟨o',z'⟩:=I2.base.there a o z (by rw[hex];simp)
    rw[n2] at z';cases z'
  have I7:=(I6.track F.nw hx6 n0 λp hp q=>by
   have z:=(I2.pin p hp).1;rw[q,n2] at z;cases z).toSuite (e:=a)
  refine Qd (hs a pins _ _ _ _ I7 hts) (λf s9 q=>?_) λ_ _ z=>z.elim
  cases f with
  |next=>obtain⟨σ9,H9,I9,q9⟩:=q;exact⟨_,_,I9.ofSuite I.ok,q9⟩
  |brk=>obtain⟨σ9,H9,I9,q9⟩:=q;exact⟨_,_,I9.ofSuite I.ok,q9⟩
  |cont=>obtain⟨σ9,H9,I9,q9⟩:=q;exact⟨_,_,I9.ofSuite I.ok,q9⟩
  |ret u=>obtain⟨v9,σ9,H9,I9,r9,q9⟩:=q;exact⟨_,_,_,I9.ofSuite I.ok,r9,q9⟩
def zG (O:JZ X.K X.mg x T)(hb:∀pins Es,QSs (X.tried pins Es) body (tb Es))(hs:∀e,QSs (X.suite e) (b₀::suite) ts)
  (Tp:X.stack=X.env::X.outer:=by rfl) (Ro:X.env.frame=some X.env.locals:=by rfl) (hex:X.ex=[]:=by rfl) (hg:Gl X x:=by rfl) (t_:(x==("__debug__":Str))=false:=by decide):
  QS X (.Try body [.ExceptHandler (some (.Name x np)) none (b₀::suite) TC] [] [] pos) (zX X.K T tb ts):=⟨BY O (λp E=>(hb p E).r) (λe=>(hs e).r) Tp Ro hex hg t_⟩
end
section
variable {X:Cx} {e:Expr} {te:TE} {pos p2 p3 p4:Pos} {j:Nat}
end
section
variable {X:Cx} {pins:List (Addr×Obj)} {σ:St} {H:Hp} {s:Shared} {h':Heap}
end
section
variable {X:Cx}
end
section
variable {K:Za} {H:Hp} {Q:VK}
end
section
variable {X:Cx}
def rW (K:Za):List V->Hp->VK->Prop:=λxs H Q=>∃(v d:Addr) (kvs:List (i6×V)) (ss:List Str),xs=[.ref v]/\H v=some (.ext (iI v d))/\Rd H d (.dK kvs)/\kvs.map (·.2)=ss.map V.str/\ss.length<64/\
 ∀i_:List Str,i_.Perm ss->∀l,H l=none->Q (.ref l) (upd H l (.lst (i_.map V.str)))
def oU (hc:X.calm=true):CallR X (.builtin "sorted") (rW X.K):=by
 intro pins s σ H xs us Q I r h;obtain⟨v,d,kvs,ss,rfl,hv,hx,hk,Wx,q⟩:=h;obtain⟨u,rfl,ru⟩:=M9 r;cases ru;have XD:(64:Nat)<=sizeLine:=by decide
 have YS:iI v d s.heap:=(I.hok v _ hv).1;obtain⟨hd,o,vs,ep,ho,D⟩:=dE I.hok hx;have hlen:kvs.length=ss.length:=by have:=Na List.length hk;simpa using this
 have G_:=KV.length D.kv;refine Qw kind_sorted plain_sorted entry_sorted (args_sorted1 _) ?_;unfold Builtin.«sorted»;refine LG (m:=checkCount "sorted" 1 1 _) (LR ?_);refine LG (Sb (A:=X.A.in1) (Sw (knd:=j7 X.prog X.w) (kvs:=vs) (ep:=ep)) (I.ok.hd hc) ⟨YS,D.at_ _ ho⟩ (by lia) λh' tk acc hkp p_=>?_);have hl:acc.toList.length=vs.length:=by rw[Og];exact p_.1
 have hV:Vals (ss.map V.str) acc.toList:=U5 (by rw[Lz];lia) λi x u e1 e2=>by
  obtain⟨k,hy⟩:=p_.2 i u (by rw[←NU];exact e2);rw[←hk,LF] at e1;obtain⟨kv,e4,rfl⟩:=MD.mp e1;obtain⟨q1,WE,q2,q3⟩:=B5 (show Paired _ kvs vs from D.kv) e4;rw[hy] at WE;cases WE;exact q3
 have hS:=V8 hV;refine LG (wpAny_newList ?_ (by rw[hl];lia));refine LG (MS (nW (s:={s with heap:=h'.push {cls:= .type "list",data:= .seq acc.toList.toArray},toks:=tk}) (n:=0) (Md _ rfl) hS (by lia) λout i_ a1 a2 a3=>?_));obtain⟨e,he⟩:=sortedHeap_at (h:=h'.push {cls:= .type "list",data:= .seq acc.toList.toArray}) (a:=h'.objs.size) (vs:=acc.toList) (n:=0) (out:=out) (Md _ rfl);have l_:s.heap.get? h'.objs.size=none:=by
  cases z:s.heap.get? h'.objs.size with
  |none=>rfl
  |some ob=>exact absurd (LU (hkp _ _ z)) (Nb _)
 have TX:=a2.length_eq;obtain⟨hH,I2⟩:=I.newN (tk:=tk) (h':=sortedHeap (h'.push {cls:= .type "list",data:= .seq acc.toList.toArray}) h'.objs.size acc.toList out) (xs:=i_.map V.str) (λb u eb=>by
  have hb:=LU (hkp b u eb);rw[sortedHeap_old (b:=b) (Mf hb) (by rw[OO];exact QJ hb)];exact LL _ (hkp b u eb)) l_ he (V7 a1) (by rw[Lz];lia)
 exact LR ⟨_,rfl,.ref h'.objs.size,_,I2,rfl,q i_ a2 _ hH⟩
def yY (K:Za)(hc:X.calm=true)(h:X.K=K:=by rfl):CallR X (.builtin "sorted") (rW K):=h▸oU hc
end
end L2
set_option maxHeartbeats 1000000
namespace K82
open PySem PySem.Spec PyProof.Rows L2
def O0 (i:Nat):Stmt:=PySem.Challenge.pw_gluework_k82_whole_any_order.main.body.getD i (.Pass ⟨0,0,0,0⟩)
abbrev bI:Stmt:=O0 10
local macro_rules|`(tactic|walk_at "g")=>`(tactic|exact⟨rfl,rfl,rfl,by decide+kernel,rfl,by decide+kernel,by decide+kernel⟩)
def sc_is_text_of:i4 ["thing","signs","most"] ["thing","signs","most"] (b9 bI):=by walk_at "g"
abbrev iB:Stmt:=O0 11
def sc_is_name:i4 ["thing"] ["thing"] (b9 iB):=by walk_at "g"
abbrev eZ:Stmt:=O0 12
def sc_in_order:i4 ["named"] ["named"] (b9 eZ):=by walk_at "g"
abbrev kZ:Stmt:=O0 13
def sc_copied:i4 ["web"] ["web"] (b9 kZ):=by walk_at "g"
abbrev jQ:Stmt:=O0 14
def sc_things:i4 ["web"] ["web"] (b9 jQ):=by walk_at "g"
abbrev ie:Stmt:=O0 15
def sc_without:i4 ["web","names","points","ties","name"] ["web","names"] (b9 ie):=by walk_at "g"
abbrev kj:Stmt:=O0 16
def sc_united:i4 ["web","more","points","ties"] ["web","more"] (b9 kj):=by walk_at "g"
abbrev ax:Stmt:=O0 17
def sc_tie_renamed:i4 ["tie","names"] ["tie","names"] (b9 ax):=by walk_at "g"
abbrev iz:Stmt:=O0 18
def sc_renamed:i4 ["web","names","points","ties"] ["web","names"] (b9 iz):=by walk_at "g"
abbrev fi:Stmt:=O0 20
def sc_is_match:i4 ["piece","web","match","names"] ["piece","web","match"] (b9 fi):=by walk_at "g"
abbrev tw:Stmt:=O0 21
def sc_line:i4 ["piece","match"] ["piece","match"] (b9 tw):=by walk_at "g"
abbrev W5:Stmt:=O0 22
def sc_matches:i4 ["piece","web","fixed"] ["piece","web","fixed"] (b9 W5):=by walk_at "g"
abbrev au:Stmt:=O0 23
def sc_first_match:i4 ["piece","web","fixed"] ["piece","web","fixed"] (b9 au):=by walk_at "g"
abbrev aJ:Stmt:=O0 24
def sc_first_found:i4 ["piece","web","piece_looks","web_looks","fixed","told"] ["piece","web","piece_looks","web_looks","fixed"] (b9 aJ):=by walk_at "g"
abbrev pv:Stmt:=O0 25
def sc_found:i4 ["piece","web","piece_looks","web_looks","fixed","most","told","choices","places","names"] ["piece","web","piece_looks","web_looks","fixed","most"] (b9 pv):=by walk_at "g"
abbrev kJ:Stmt:=O0 26
def sc_may_be:i4 ["name","image","fixed"] ["name","image","fixed"] (b9 kJ):=by walk_at "g"
abbrev V1:Stmt:=O0 27
def sc_point_choices:i4 ["piece_looks","web_looks","fixed","choices","name","look","alike"] ["piece_looks","web_looks","fixed"] (b9 V1):=by walk_at "g"
abbrev bF:Stmt:=O0 28
def sc_tie_places:i4 ["piece","web","fixed","places","name","tie","there","image","other"] ["piece","web","fixed"] (b9 bF):=by walk_at "g"
abbrev jT:Stmt:=O0 29
def sc_enough:i4 ["lists"] ["lists"] (b9 jT):=by walk_at "g"
abbrev pL:Stmt:=O0 30
def sc_lines:i4 ["piece","choices","places","most","names","told","waiting","begun","image"] ["piece","choices","places","most"] (b9 pL):=by walk_at "g"
abbrev lX:Stmt:=O0 31
def sc_images:i4 ["piece","choices","places","begun","names","name","put","unlike"] ["piece","choices","places","begun"] (b9 lX):=by walk_at "g"
abbrev aM:Stmt:=O0 32
def sc_tie_choices:i4 ["piece","places","put","name","ends"] ["piece","places","put","name"] (b9 aM):=by walk_at "g"
abbrev fq:Stmt:=O0 33
def sc_has_room:i4 ["piece","places","put","name","image","longer","due"] ["piece","places","put","name","image"] (b9 fq):=by walk_at "g"
abbrev tF:Stmt:=O0 35
def sc_both:i4 ["web","other"] ["web","other"] (b9 tF):=by walk_at "g"
abbrev pq:Stmt:=O0 36
def sc_alone:i4 ["web","other"] ["web","other"] (b9 pq):=by walk_at "g"
abbrev tO:Stmt:=O0 37
def sc_kept:i4 ["rule"] ["rule"] (b9 tO):=by walk_at "g"
abbrev pG:Stmt:=O0 38
def sc_taken:i4 ["rule"] ["rule"] (b9 pG):=by walk_at "g"
abbrev fm:Stmt:=O0 39
def sc_fresh_of:i4 ["rule"] ["rule"] (b9 fm):=by walk_at "g"
abbrev aH:Stmt:=O0 40
def sc_rule_copied:i4 ["rule"] ["rule"] (b9 aH):=by walk_at "g"
abbrev lS:Stmt:=O0 42
def sc_picked:i4 ["put","names"] ["put","names"] (b9 lS):=by walk_at "g"
abbrev lh:Stmt:=O0 43
def sc_barred:i4 ["web","rule","match","number","bar","told"] ["web","rule","match"] (b9 lh):=by walk_at "g"
abbrev cW:Stmt:=O0 44
def sc_taken_out:i4 ["step"] ["step"] (b9 cW):=by walk_at "g"
abbrev aL:Stmt:=O0 45
def sc_names_serve:i4 ["web","rule","fresh","names"] ["web","rule","fresh"] (b9 aL):=by walk_at "g"
abbrev iM:Stmt:=O0 46
def sc_rest_of:i4 ["web","step","rule","rest"] ["web","step"] (b9 iM):=by walk_at "g"
abbrev uf:Stmt:=O0 47
def sc_done:i4 ["web","step","rule","rest"] ["web","step"] (b9 uf):=by walk_at "g"
abbrev kO:Stmt:=O0 48
def sc_behind:i4 ["step","rule","put"] ["step"] (b9 kO):=by walk_at "g"
abbrev aB:Stmt:=O0 49
def sc_step_copied:i4 ["step","rule"] ["step"] (b9 aB):=by walk_at "g"
abbrev X9:Stmt:=O0 51
def sc_gone_through:i4 ["web","row","webs","step"] ["web","row"] (b9 X9):=by walk_at "g"
abbrev bt:Stmt:=O0 52
def sc_row_copied:i4 ["row"] ["row"] (b9 bt):=by walk_at "g"
abbrev jW:Stmt:=O0 54
def sc_common:i4 ["one","other","images"] ["one","other"] (b9 jW):=by walk_at "g"
abbrev oI:Stmt:=O0 55
def sc_clash:i4 ["web","one","other","behind_one","behind_other","names","out","gone"] ["web","one","other"] (b9 oI):=by walk_at "g"
abbrev G8:Stmt:=O0 56
def sc_can_be_gone_through:i4 ["web","row"] ["web","row"] (b9 G8):=by walk_at "g"
abbrev R4:Stmt:=O0 57
def sc_changed_places:i4 ["web","row","k","webs","pair"] ["web","row","k"] (b9 R4):=by walk_at "g"
abbrev aG:Stmt:=O0 59
def sc_can_be_done:i4 ["web","rule","match"] ["web","rule","match"] (b9 aG):=by walk_at "g"
abbrev iu:Stmt:=O0 60
def sc_choices:i4 ["web","rules","told","number","rule"] ["web","rules"] (b9 iu):=by walk_at "g"
abbrev bJ:Stmt:=O0 62
def sc__law_mixed:i4 ["_law_cell","_law_k","_law_number"] ["_law_cell","_law_k"] (b9 bJ):=by walk_at "g"
abbrev bH:Stmt:=O0 63
def sc__law_names:i4 ["_law_cell","_law_many","_law_letters","_law_signs","_law_base","_law_k","_law_at"] ["_law_cell","_law_many"] (b9 bH):=by walk_at "g"
abbrev bD:Stmt:=O0 64
def sc__law_kinds:i4 ["_law_cell","_law_letters","_law_sign","_law_other","_law_many"] ["_law_cell"] (b9 bD):=by walk_at "g"
abbrev fj:Stmt:=O0 65
def sc__law_web:i4 ["_law_cells","_law_names_here","_law_kinds_here","_law_points","_law_ties","_law_k","_law_cell","_law_some","_law_kind","_law_one"] ["_law_cells","_law_names_here","_law_kinds_here"] (b9 fj):=by walk_at "g"
abbrev bM:Stmt:=O0 66
def sc__law_drawn:i4 ["_law_script","_law_start","_law_most","_law_cells","_law_head"] ["_law_script","_law_start","_law_most"] (b9 bM):=by walk_at "g"
abbrev bG:Stmt:=O0 67
def sc__law_words:i4 ["_law_cell","_law_many","_law_letters","_law_base","_law_k","_law_at"] ["_law_cell","_law_many"] (b9 bG):=by walk_at "g"
abbrev bo:Stmt:=O0 68
def sc__law_piece:i4 ["_law_points","_law_ties","_law_words_here","_law_kinds_here","_law_cell","_law_k","_law_some","_law_one","_law_other"] ["_law_points","_law_ties","_law_words_here","_law_kinds_here","_law_cell"] (b9 bo):=by walk_at "g"
abbrev cQ:Stmt:=O0 69
def sc__law_rule:i4 ["_law_cell","_law_kinds_here","_law_most","_law_words_here","_law_left","_law_points","_law_ties","_law_k","_law_name","_law_right","_law_bars","_law_some"] ["_law_cell","_law_kinds_here","_law_most"] (b9 cQ):=by walk_at "g"
abbrev ay:Stmt:=O0 70
def sc__law_things:i4 ["_law_piece_here"] ["_law_piece_here"] (b9 ay):=by walk_at "g"
abbrev cJ:Stmt:=O0 71
def sc__law_mark:i4 ["_law_web_here","_law_cell","_law_letters","_law_firsts","_law_free"] ["_law_web_here","_law_cell"] (b9 cJ):=by walk_at "g"
abbrev bL:Stmt:=O0 72
def sc__law_small:i4 ["_law_web_here"] ["_law_web_here"] (b9 bL):=by walk_at "g"
abbrev dz:Stmt:=O0 73
def sc__law_step:i4 ["_law_rule_here","_law_match","_law_mark_here","_law_number","_law_cell","_law_fresh","_law_name"] ["_law_rule_here","_law_match","_law_mark_here","_law_number","_law_cell"] (b9 dz):=by walk_at "g"
abbrev fb:Stmt:=O0 74
def sc__law_row:i4 ["_law_web_here","_law_rules","_law_cells","_law_mark_here","_law_row_here","_law_cell","_law_some","_law_number","_law_match"] ["_law_web_here","_law_rules","_law_cells","_law_mark_here"] (b9 fb):=by walk_at "g"
abbrev eW:Stmt:=O0 75
def sc__law_can:i4 ["_law_web_here","_law_step_here","_law_found"] ["_law_web_here","_law_step_here"] (b9 eW):=by walk_at "g"
abbrev Y1:Stmt:=O0 76
def sc__law_changed:i4 ["_law_web_here","_law_row_here","_law_k","_law_told","_law_webs","_law_others"] ["_law_web_here","_law_row_here","_law_k","_law_told"] (b9 Y1):=by walk_at "g"
abbrev dv:Stmt:=O0 77
def sc__law_kept:i4 ["_law_web_here","_law_row_here","_law_k","_law_webs"] ["_law_web_here","_law_row_here","_law_k"] (b9 dv):=by walk_at "g"
abbrev yq:Stmt:=O0 78
def sc_law:i4 ["_law_script","_law_cells","_law_first","_law_second","_law_kinds_here","_law_web_here","_law_rules","_law_row_here","_law_last","_law_cell","_law_k","_law_told"] ["_law_script"] (b9 yq):=by walk_at "g"
abbrev bT:Str:="abcdefghijklmnopqrstuvwxyz"
abbrev gk:Str:="abcdefghijklmnopqrstuvwxyz0123456789."
structure Txt (K:Za) (mg:Str->Option Value):Prop where
 r_Barred:ExC K mg "Barred" (cA K "Barred")
 r_Loose:ExC K mg "Loose" (cA K "Loose")
 r_NoMatch:ExC K mg "NoMatch" (cA K "NoMatch")
 r_NoNames:ExC K mg "NoNames" (cA K "NoNames")
 t_GlueError:JZ K mg "GlueError" (cA K "GlueError")
 s_Barred_GlueError:PySem.W.subIn K (.ref (cA K "Barred")) (.ref (cA K "GlueError"))=some true
 s_Loose_GlueError:PySem.W.subIn K (.ref (cA K "Loose")) (.ref (cA K "GlueError"))=some true
 s_NoMatch_GlueError:PySem.W.subIn K (.ref (cA K "NoMatch")) (.ref (cA K "GlueError"))=some true
 s_NoNames_GlueError:PySem.W.subIn K (.ref (cA K "NoNames")) (.ref (cA K "GlueError"))=some true
 b_all:mg "all"=none
 b_any:mg "any"=none
 b_dict:mg "dict"=none
 b_enumerate:mg "enumerate"=none
 b_isinstance:mg "isinstance"=none
 b_len:mg "len"=none
 b_list:mg "list"=none
 b_max:mg "max"=none
 b_range:mg "range"=none
 b_reversed:mg "reversed"=none
 b_set:mg "set"=none
 b_sorted:mg "sorted"=none
 b_str:mg "str"=none
 b_sum:mg "sum"=none
 b_zip:mg "zip"=none
 c_MOST_NAME_SIGNS:Ha mg "MOST_NAME_SIGNS" (.int 24)
 c_NAME_SIGNS:Ha mg "NAME_SIGNS" (.str gk)
 c_SMALL_LETTERS:Ha mg "SMALL_LETTERS" (.str bT)
abbrev kSL:Str:="abcdefghijklmnopqrstuvwxyz"
abbrev kNS:Str:="abcdefghijklmnopqrstuvwxyz0123456789."
def F4 (x signs:Str):Bool:=x.cps.toList.all λc=>decide (c∈signs.cps.toList)
def K0 (x signs:Str)(most:Int):Bool:=decide (1<=(x.length:Int))&&decide ((x.length:Int)<=most)&&F4 x signs
def vZ (x signs:Str):Bool:=decide (x.cps.toList.headD 0∈signs.cps.toList)
def L8 (x:Str):Bool:=K0 x kNS 24&&vZ x kSL
def F7 (x:Str):Bool:=K0 x kSL 8
def IX (K:Za)(H:Hp)(v:V):Prop:=∃t,TyB K H v t/\t≠"str"
def DO (K:Za)(f:Str->Bool)(v:V)(H:Hp)(Q:VK):Prop:=
 (∃x,v= .str x/\x.length<=1000/\∀H',Same H H'->Q (.bl (f x)) H')\/(IX K H v/\∀H',Same H H'->Q (.bl false) H')
def ei (K:Za):Sp:=λvs H Q _=>∃v signs most,vs=[v,.str signs,.int most]/\DO K (λx=>K0 x signs most) v H Q
def kK (K:Za):Sp:=λvs H Q _=>∃v,vs=[v]/\DO K L8 v H Q
def dW (K:Za):Sp:=λvs H Q _=>∃c k:Int,vs=[.int c,.int k]/\0<=k/\k<=1000/\∀m:Int,0<=m->Q (.int m) H
def Cq (H:Hp)(Q:VK)(P:List Str->Prop):Prop:=∀(p:Addr) (H':Hp) (ss:List Str),H p=none->Same H H'->H' p=some (.lst (ss.map V.str))->P ss->Q (.ref p) H'
def b4 (W:p8):List Str:=W.pts.map (·.1)++W.ts.map (·.1)
structure WebIs (n:Nat) (K:Za) (H:Hp) (a p q:Addr) (kvs:List (i6×V)) (W:p8):Prop where
 at_:WebAt K H a p q kvs W
 hp:H p=some (.dK (i8 W.pts))
 hq:H q=some (.dK kvs)
 ne:p≠q
 nd:(b4 W).Nodup
 len:(b4 W).length<=n
 ends:∀x∈W.ts,x.2.2.1∈W.pts.map (·.1)/\x.2.2.2∈W.pts.map (·.1)
 nl:∀x∈b4 W,x.length<=100
def WebIs.same {n:Nat}{K:Za}{H H':Hp}{a p q:Addr}{kvs:List (i6×V)}{W:p8}(h:WebIs n K H a p q kvs W)(s:Same H H'):WebIs n K H' a p q kvs W:=⟨h.at_.mono s.le,s _ _ h.hp,s _ _ h.hq,h.ne,h.nd,h.len,h.ends,h.nl⟩
def HK (n:Nat)(K:Za)(H:Hp)(Q:VK)(F:p8->Prop):Prop:=∀(a p q:Addr) (kvs:List (i6×V)) (W:p8) (H':Hp),Same H H'->WebIs n K H' a p q kvs W->F W->Q (.ref a) H'
def eU (K:Za):Sp:=λvs H Q _=>∃c n:Int,vs=[.int c,.int n]/\0<=n/\n<=24/\Cq H Q λss=>ss.length=n.toNat/\ss.Nodup/\∀s∈ss,L8 s=true
def eI (K:Za):Sp:=λvs H Q _=>∃c:Int,vs=[.int c]/\Cq H Q λss=>ss.length=3/\∀s∈ss,F7 s=true
set_option hygiene false
def zzW(c:Char):StateT (List (List Char)) Lean.MacroM String:=do match (←get) with
 |l::r=>set ((l.dropWhile (·≠c)).tail::r);return String.ofList (l.takeWhile (·≠c))
 |_=>throw .unsupportedSyntax
def zzO(a:StateT (List (List Char)) Lean.MacroM Lean.Term):StateT (List (List Char)) Lean.MacroM Lean.Term:=do match (←get) with
 |('$'::l)::r=>set r;let b←a;modify (l::·);return b
 |_=>a
def zzT:Nat→StateT (List (List Char)) Lean.MacroM Lean.Term
|0=>throw .unsupportedSyntax
|n+1=>do
 let x:=do match (←get) with
  |(c::l)::r=>set (l::r);return c
  |_=>throw .unsupportedSyntax
 let g:=zzT n
 let d:=zzO do return Lean.quote ((←x).toNat-48)
 let s:=zzO do let a:Array Lean.Term:=(((←zzW ';').splitOn ",").map fun z=>⟨Lean.Syntax.mkStrLit z⟩).toArray;`([$a,*])
 let j:=zzO do let a:Array Lean.Term:=((←zzW ';').toList.map fun z=>Lean.quote (z.toNat-48)).toArray;`([$a,*])
 let f:=fun (k:Char) (m:String)=>do return Lean.Syntax.mkApp (Lean.mkIdent m.toName) (←(Array.range (k.toNat-48)).mapM fun _=>g)
 let q:=fun (m:String) (v:Lean.Term)=>(⟨Lean.mkNode `Lean.Parser.Term.namedArgument #[Lean.mkAtom "(",Lean.mkIdent m.toName,Lean.mkAtom ":=",v,Lean.mkAtom ")"]⟩:Lean.Term)
 match (←x) with
 |'\''=>f (←x) (←zzW ' ')
 |'$'=>do match (←get) with
  |s::r=>set r;let b←g;modify (s::·);return b
  |_=>throw .unsupportedSyntax
 |'!'=>do match (←x) with
  |'a'=>`(λ_ _=>rfl)
  |'b'=>`(by walk_at "l")
  |'c'=>`(by kernel_rfl)
  |'d'=>`(by rfl)
  |'e'=>`(by decide)
  |'f'=>`(_)
  |'g'=>`(λ_ _ _ _=>$(←g))
  |'h'=>`(show List.Nodup ($(←s) :List Str) by decide+kernel)
  |'i'=>return q "i" (←d)
  |'j'=>return q "j" (←d)
  |'n'=>d
  |'o'=>return q "own" (←s)
  |'s'=>return q "js" (←j)
  |_=>return ⟨Lean.Syntax.mkStrLit (←zzW ';')⟩
 |c=>do
  let b:=c='~'
  let c←if b then x else pure c
  for e in (if b then "0='2iP XG
10E2
20Np
30Nn
40j6
50ou
60G4
70NG
80Nm
90dB
a='3bW X'0T.b_enumerate $
b='5j8 !i$'0hN G!b$
c0P9
d0Boot.«isinstance»
e0T.b_isinstance
f='3wg X'0P '0w 
g0hr
h='4pX '0jz $$$
i='3vK '0hu $$
j0Boot.«sum»
k0T.b_sum
l='2Dp X$
m0R9
n='2JE '0pz 1
o0Boot.«str»
p0T.b_str
q=!qstr;
r='5KJ $$'0T.b_zip $$
s0Boot.«set»
t=!qdict;
u='4Ho '0hu $$$
v='3rJ $'0T.b_reversed $" else "0='1qV !n$
10d6
2=n$'0j0 
3='4qC $'1hr.mono !e'0i7 $
4='4r6 '2u9 X'0hu '1qV !n$1!a
5=9'5j8 !i$'0hN G!b$$
6=n'1qV !n$$
7=n'1qV !n$'0j0 
8=h'1l0 $
92x9
a='3A5 '1B4 X$$
b='4r6 '2u9 X'0hu '1qV !n$$!a
c4z0
d='4J3 !i$!h$G!b
e=n'1qV !n$n'1qV !n$'0j0 
f='1q8 !f
g='3A5 '0p9 $$
h1A2
i=n$n$'0j0 
j1dQ
k='2N0 X$
l=q'3C7 X'0P '0w '0T.b_len '0Boot.«len» $
m='8D4 !o$!s$!cG$!g$!g$!g$
n2c0
o='4J3 !i$'0hN G!b
p='4iQ '1iH X$$$
q4qB
r1U7
s=!d
t0X7
u='3br $$'0bV 
v=!g$
w4ni
x0nz
y='5ba $G$$$
z0h9
A='4qC $'1hr.mono !e$$
B0MP
C4fw
D0T.b_dict
E='3ud XG'2fK $'2fK $'0uk 
F='4r6 '2u9 X'0hu $$!a
G0rfl
H='3A5 $$1
I='2kIn X'0hu 
J1gX
K0fI
L='3br $h'1l0 '0pU '0bV 
M1xy
N='1aS '2K9 X$
O0Boot.«dict»
P0ip
Q='3A5 '0K6 $$
R0aY
S='2aX X~g
T='7qM $$$$X$$
U=.'0j0 
V0N4
W='2cz XG
X0K
Y='2ao X'0hu 
Z='2kF $'3BB '1qV !n$$'3G6 '0P '0w '0hu 
#0Aw
%1wC
&0Boot.«sorted»
(0T.b_sorted
)0p7
*0MK
+='2K9 X$
,1V6
-0MU
.1aq
/='2gW X~g
:2rY
;='2ai XG
<='2rD '0T.b_range $
=1jM
>2jN
?='<Z0 !i$'0hN G!b!o$!s$!cG$$$$
@0B8
[0Boot.«all»
]0T.b_all
^='2xa XG
_1iG
`='6GI $$$$X$
{0Boot.«list»
|0T.b_list").splitOn "\n" do
   if let a::k::m:=e.toList then
    if a=c then
     if k.isDigit then return (←f k (String.ofList m))
     modify (m::·);let b←g;modify List.tail;return b
  throw .unsupportedSyntax
local macro_rules|`(tactic|walk_at $s:str)=>do
 match s.getString.toList with
 |'@'::l=>let (c,l)←(zzW ' ').run [l];let (x,_)←(zzT 999).run l;let c:=Lean.mkIdent (c++".nd").toName;`(tactic|(have hN:=$c;have hu:=k7 hr;refine ⟨_,QSs.r $x,?_⟩))
 |'#'::l=>let c:=Lean.mkIdent (String.ofList l).toName;`(tactic|refine F.ok $c (λvs H Q E h=>?_) (λc_ A outer s H vs Q E hr h=>?_))
 |_=>throw .unsupportedSyntax
set_option hygiene true
local macro_rules| `(tactic|walk_at "b")=> `(tactic|(intro _ _ _ _ _ _ us hl;first|exact bn0 hl rfl|exact Lg hl λ_=>rfl|exact Lv hl λ_ _=>rfl|exact Ln hl λ_ _ _=>rfl|exact Lp hl λ_ _ _ _=>rfl|exact Lu hl λ_ _ _ _ _=>rfl|exact Ld hl λ_ _ _ _ _ _=>rfl))
local macro_rules|`(tactic|walk_at "q")=>do let a:Array (Lean.TSyntax `Lean.Parser.Tactic.tacticSeq)←(("r_par Cz JJ Cm Hi Fx Lq JP Iv Ip DZ EU Hd Fu Kj Ck wN Ii JX Ee Hq Jg Ew Ki GN GP Hx Kp Ft IB Gn Kw Hh Ec FG JS Kd Bh EB Ib r_chain xx JH yH r_lt_str sC r_eq_bl se zc r_notIn_sgn r_is AR w_eq_bl jP rX rO w_ne_bl w_ne_str sk n_ne_bl n_ne_str GY Di Eg r_enum r_zip BK Fm Kn GU Kc HY Iz yP Hf Iu JO JK Hc Hv".splitOn " ").toArray).mapM fun n=>`(Lean.Parser.Tactic.tacticSeq|refine $(Lean.mkIdent n.toName) ?_);`(tactic|with_reducible first $[|$a]*)
local macro_rules| `(tactic|walk_at "E")=> `(tactic|first
 |walk_at "q"
 |((with_reducible refine' Hl ?h ?_);(case h=>rfl))
 |with_reducible refine FZ _ ?_
 |((with_reducible refine' wx ?c ?_);(case c=>(unfold CMul;lia)))
 |((with_reducible refine' Lo ?c ?_);(case c=>(first|lia|lia|(dsimp only<;>lia)|(unfold CMul;lia)|(unfold Je;lia)|(unfold HQ;decide)|exact Int.pow_pos (by decide))))
 |with_reducible refine DI (by assumption) ?_)
local macro_rules| `(tactic|walk_at "X")=> `(tactic|try with_reducible refine DI (by assumption) ?_)
local macro_rules| `(tactic|walk_at "S")=> `(tactic|with_reducible refine Jf λ_ _=>?_)
local macro_rules| `(tactic|walk_at "R")=> `(tactic|first|walk_at "S"|with_reducible refine r_try ?_|walk_at "E")
local macro_rules| `(tactic|symm)=> `(tactic|repeat walk_at "R")
local macro_rules| `(tactic|rfl')=> `(tactic|repeat walk_at "E")
local macro_rules| `(tactic|walk_at "l")=> `(tactic|first|exact Or.inl rfl|exact Or.inr rfl)
section
variable {P:Program} {w:World} {K:Za} {mg:Str->Option Value} {base:Heap}
theorem ia (c:Array Nat):∀(n:Nat) (a:Array Nat),((List.replicate n c).foldl (·++·) a).size=a.size+n*c.size
 |0,a=>by simp
 |n+1,a=>by
  rw[Sg,NO,ia c n,Array.size_append,Sh];lia
def vJ (ch:Nat)(n:Int)(h:n<=60):(Txt.mul ⟨#[ch]⟩ n).length<=60:=by
 unfold Txt.mul;split
 .show 0<=60;lia
 .split
  .show 1<=60;lia
  .show((List.replicate n.toNat (#[ch]:Array Nat)).foldl (·++·) #[]).size<=60;rw[ia];simp;lia
def Z2 (i:Int):Nat:=("abcdefghijklmnopqrstuvwxyz":Str).cps.toList.getD i.toNat 0
def fH (i:Int)(h0:0<=i)(h1:i<26):mO ("abcdefghijklmnopqrstuvwxyz":Str).cps.toList i=some (Z2 i):=by
 have hl:("abcdefghijklmnopqrstuvwxyz":Str).cps.toList.length=26:=by decide+kernel
 obtain⟨v,hv,VM⟩:=uz (xs:=("abcdefghijklmnopqrstuvwxyz":Str).cps.toList) h0 (by rw[hl];exact h1);rw[hv];unfold Z2;rw[MA,VM];rfl
def zm:∀i j:Nat,i<26->j<26->Z2 i=Z2 j->i=j:=by
 have h:∀i,i<26->∀j,j<26->Z2 (i:Nat)=Z2 (j:Nat)->i=j:=by decide+kernel
 exact λi j hi hj=>h i hi j hj
def BX {x y:Str}{c d:Nat}(h:x++(⟨#[c]⟩:Str)++y=x++(⟨#[d]⟩:Str)++y):c=d:=by
 have h':(x.cps++ #[c]++y.cps)=(x.cps++ #[d]++y.cps):=Na Str.cps h;have h2:=Na Array.toList h';simpa using h2
theorem kT {f:Nat->Str}:∀{n:Nat},(∀i j,i<n->j<n->f i=f j->i=j)->((List.range n).map f).Nodup
 |0,_=>Ov
 |n+1,h=>by
  rw[OF,LK];refine gm (kT λi j hi hj=>h i j (by lia) (by lia)) λm=>?_;obtain⟨i,hi,e⟩:=LB.mp m;have Vd:=Ou.mp hi;have z:=h i n (by lia) (by lia) e;lia
def tm (c:Int)(k:Nat):Str:=Txt.mul ⟨#[Z2 (c/4 % 26)]⟩ (0+(k:Int)+1)
def lZ (b:Str)(at_ c:Int)(k:Nat):Str:=Txt.slice b none (some at_)++(⟨#[Z2 ((0+(k:Int)+c/4) % 26)]⟩:Str)++Txt.slice b (some at_) none
def kB (c:Int)(k:Nat):(tm c k).length=k+1:=by
 unfold tm Txt.mul;rw[if_neg (by lia)];split
 .next h=>
  have hl:(⟨#[Z2 (c/4 % 26)]⟩:Str).length=1:=rfl;have h':(k:Int)+1=1:=by simpa [hl] using h
  show 1=k+1;lia
 .show((List.replicate (0+(k:Int)+1).toNat (#[Z2 (c/4 % 26)]:Array Nat)).foldl (·++·) #[]).size=k+1;rw[ia];simp
def BO (c:Int)(n:Nat):((List.range n).map (tm c)).Nodup:=kT λi j _ _ e=>by
 have z:=Na Str.length e;rw[kB,kB] at z;lia
def sg {σ:L2.St}{f:(Nat->Option V)->L2.St}(h:σ=f λk=>σ.getD k none):∃u,σ=f u:=⟨_,h⟩
def A3 {H:Hp}{Q:VK}{p:Addr}{x:V}{xs:List V}(h:SqT K H p (x::xs))(q:Q x H):mI K (.ref p) (.int 0) H Q:=j4 h (i9 (j:=0) rfl) q
def x6 {H:Hp}{Q:VK}{p:Addr}{x y:V}{xs:List V}(h:SqT K H p (x::y::xs))(q:Q y H):mI K (.ref p) (.int 1) H Q:=j4 h (i9 (j:=1) rfl) q
def ib {H:Hp}{Q:VK}{p:Addr}{x y z:V}{xs:List V}(h:SqT K H p (x::y::z::xs))(q:Q z H):mI K (.ref p) (.int 2) H Q:=j4 h (i9 (j:=2) rfl) q
def md (x:Int){n:Int}(h:0<n):x % n=((x % n).toNat:Int):=(Int.toNat_of_nonneg (Nv x (Int.ne_of_gt h))).symm
def vA (b:Str)(at_ c:Int)(n:Nat)(hn:n<=26):((List.range n).map (lZ b at_ c)).Nodup:=kT λi j hi hj e=>by
 have z:=BX e;have e1:(0+(i:Int)+c/4) % 26=(((0+(i:Int)+c/4) % 26).toNat:Int):=md _ (by decide);have e2:(0+(j:Int)+c/4) % 26=(((0+(j:Int)+c/4) % 26).toNat:Int):=md _ (by decide);rw[e1,e2] at z;have z2:=zm _ _ (by lia) (by lia) z;lia
def R6:("abcdefghijklmnopqrstuvwxyz":Str).length<=sizeLine:=by decide+kernel
def aQ (ss:List Str):(ss.map V.str).all C0=true:=by
 rw[NM,Mq];intro _ _;rfl
def EM {kvs:List (i6×V)}{k:i6}{v:V}(h:(kvs.map (·.1)).Nodup):((E1 kvs k v).map (·.1)).Nodup:=by
 cases e:k9 kvs k with
 |none=>exact BV v h e
 |some x=>
  unfold E1
  rw[if_pos (by rw[N1,e];rfl),Mo]
  have e2:((λkv:i6×V=>kv.1)∘λkv=>if kv.1=k then(kv.1,v) else kv)=λkv=>kv.1:=by
   funext kv;show(if kv.1=k then(kv.1,v) else kv).1=kv.1;split<;>rfl
  rw[e2];exact h
def gu {K:Za}{H:Hp}{d:Addr}{k1 k2 kv:_}{x:Str×J2}(h:H d=some (.dK k1))(t:TieAt K H kv x):TieAt K (upd H d (.dK k2)) kv x:=by
 obtain⟨e,a,ea,s⟩:=t;refine⟨e,a,ea,?_⟩;rcases s with s|s
 .refine .inl ?_;by_cases z:a=d
  .subst z;rcases s with s|⟨_,s⟩<;>(rw[h] at s;cases s)
  .unfold Rd;rw[b7 z];exact s
 .exact .inr s
def E9 {H H1:Hp}{d:Addr}{o:HO}(s:Same H H1)(h:H d=none):Same H (upd H1 d o):=λb u e=>by
 rw[b7 (d9 e h)];exact s _ _ e
def Y9 {ss:List Str}{i:Int}(h0:0<=i)(h1:i<ss.length):∃x,mO (ss.map V.str) i=some (.str x)/\x∈ss:=by
 obtain⟨v,hv,VM⟩:=uz (xs:=ss.map V.str) h0 (by rw[Lz];exact h1);rw[LF] at VM;obtain⟨x,hx,e⟩:=MD.mp VM;exact⟨x,by rw[hv,e],LV hx⟩
def A7 {α:Type}(l:List (Str×α)):(l.map (·.1)).map (Sum.inr:Str->i6)=l.map λx=>Sum.inr x.1:=by rw[Mo];rfl
def T7 {l:List Str}{n:Str}(h:(Sum.inr n:i6)∈l.map (Sum.inr:Str->i6)):n∈l:=by
 obtain⟨x,hx,e⟩:=LB.mp h;rw[←NH e];exact hx
def F8 {kvs:List (i6×V)}{k:i6}(h:k∉kvs.map (·.1)):k9 kvs k=none:=by
 cases e:k9 kvs k with
 |none=>rfl
 |some v=>exact absurd (vq e) h
def Af {a:List (Str×Str)}{b:List (Str×J2)}{n:Str}{t:J2}(h:(a.map (·.1)++b.map (·.1)).Nodup)(f:n∉a.map (·.1)++b.map (·.1)):(a.map (·.1)++(b++[(n,t)]).map (·.1)).Nodup:=by
 rw[LK,←Mv];exact gm h f
def uL {a:List (Str×Str)}{b:List (Str×J2)}{n s:Str}(h:(a.map (·.1)++b.map (·.1)).Nodup)(f:n∉a.map (·.1)++b.map (·.1)):((a++[(n,s)]).map (·.1)++b.map (·.1)).Nodup:=by
 have z:=gm h f;refine(List.Perm.nodup_iff ?_).mpr z;rw[LK,Mv,Mv];exact RG _ PQ
def CV {a:List (Str×Str)}{b:List (Str×J2)}{n:Str}{t:J2}{l:List Str}(h:∀x∈a.map (·.1)++b.map (·.1),x∈l)(f:n∈l):∀x∈a.map (·.1)++(b++[(n,t)]).map (·.1),x∈l:=by
 intro x hx;rw[LK,←Mv] at hx;rcases LO.mp hx with h'|h'
 .exact h x h'
 .have:x=n:=by simpa using h'
  rw[this];exact f
def vk {a:List (Str×Str)}{b:List (Str×J2)}{n s:Str}{l:List Str}(h:∀x∈a.map (·.1)++b.map (·.1),x∈l)(f:n∈l):∀x∈(a++[(n,s)]).map (·.1)++b.map (·.1),x∈l:=by
 intro x hx;rw[LK,Mv] at hx;rcases LO.mp hx with h'|h'
 .exact h x (LH _ h')
 .rcases LO.mp h' with h2|h2
  .have:x=n:=by simpa using h2
   rw[this];exact f
  .exact h x (LP _ h2)
def w4 {α β : Type} {F : α -> β -> Prop} : ∀ {l : List α} {m : List β} {a : α} {b : β}, Paired F l m -> F a b -> Paired F (l ++ [a]) (m ++ [b])
 := by
  intro l m a b hp h;induction hp with
  | nil => exact .cons h .nil
  | cons r _ ih => exact .cons r ih
def hZ : ∀ {kvs : List (i6 × V)} {kv : i6 × V}, (kvs.map (·.1)).Nodup -> kv ∈ kvs -> k9 kvs kv.1 = some kv.2
 := by
  intro kvs kv nd h;induction kvs with
  | nil => cases h
  | cons p r ih =>
    have nd' := MN.mp (show (p.1 :: r.map (·.1)).Nodup from nd)
    rcases Mr.mp h with z | z
    . rw [z]; exact C4 rfl
    . rw [C2 λe => nd'.1 (by rw [e]; exact LB.mpr ⟨kv, z, rfl⟩)]
      exact ih nd'.2 z
def ER {kvs:List (i6×V)}{ss:List Str}(hk:kvs.map (·.1)=ss.map Sum.inr)(nd:(kvs.map (·.1)).Nodup):kvs=ss.map λs=>(Sum.inr s,(k9 kvs (Sum.inr s:i6)).getD .non):=by
 have h1:kvs=kvs.map λkv=>(kv.1,(k9 kvs kv.1).getD .non):=by
  have:∀kv∈kvs,kv=(kv.1,(k9 kvs kv.1).getD .non):=λkv h=>by rw[hZ nd h];rfl
  exact(Qv kvs).symm.trans (MX this)
 have h2:(kvs.map λkv=>(kv.1,(k9 kvs kv.1).getD V.non))=(kvs.map (·.1)).map λk=>(k,(k9 kvs k).getD .non):=by rw[Mo];rfl
 rw[hk,Mo] at h2;exact h1.trans h2
theorem jZ:∀{r a:List (i6×V)},((a++r).map (·.1)).Nodup->r.foldl (λa x=>E1 a x.1 x.2) a=a++r
 |[],a,_=>by simp
 |p::r,a,nd=>by
  rw[NO];have nd':((a++[p]++r).map (·.1)).Nodup:=by rw[Mv];exact nd
  have hf:p.1∉a.map (·.1):=λm=>by
   rw[LK] at nd;exact(Mm.mp nd).2.2 p.1 m p.1 (by simp) rfl
  rw[K1 p.2 (F8 hf),jZ (r:=r) (a:=a++[(p.1,p.2)]) nd',Mv];rfl
def X8 {kvs:List (i6×V)}(nd:(kvs.map (·.1)).Nodup):aU kvs=kvs:=by
 unfold aU;rw[jZ (by simpa using nd)];rfl
def PrV.mono {K:Za}{H H':Hp}{x:V}{kv:i6×V}(l:Le H H')(h:PrV K H x kv):PrV K H' x kv:=let ⟨t,e,s⟩:=h;⟨t,e,l.tup s⟩
def ae {α β:Type}{F:α->β->Prop}{l2 m:List α}(h:l2.Perm m):∀{r:List β},Paired F m r->∃r',Paired F l2 r'/\r'.Perm r:=by
 induction h with
 |nil=>intro r p;cases p;exact⟨[],.nil,.nil⟩
 |cons x _ ih=>
  intro r p
  cases p with
  |cons a b=>
   obtain⟨r',h1,h2⟩:=ih b
   exact⟨_::r',.cons a h1,h2.cons _⟩
 |swap x y l=>
  intro r p
  cases p with
  |cons a b=>
   cases b with
   |cons c d=>exact⟨_::_::_,.cons c (.cons a d),.swap _ _ _⟩
 |trans _ _ ih1 ih2=>
  intro r p
  obtain⟨r',h1,h2⟩:=ih2 p
  obtain⟨r'',h3,h4⟩:=ih1 h1
  exact⟨r'',h3,h4.trans h2⟩
theorem bf:∀pts:List (Str×Str),Paired (fun(kv:i6×V) (x:Str×Str)=>kv=(Sum.inr x.1,.str x.2)) (i8 pts) pts
 |[]=> .nil
 |x::r=> .cons rfl (bf r)
theorem fh:∀{kvs:List (i6×V)} {pts:List (Str×Str)},Paired (fun(kv:i6×V) (x:Str×Str)=>kv=(Sum.inr x.1,.str x.2)) kvs pts->kvs=i8 pts
 |_,_,.nil=>rfl
 |_,_,.cons e t=>by rw[e,fh t];rfl
def AF {kvs:List (i6×V)}{pts:List (Str×Str)}(h:kvs.Perm (i8 pts)):∃Rp,kvs=i8 Rp/\Rp.Perm pts:=by
 obtain⟨r,h1,h2⟩:=ae h (bf pts);exact⟨r,fh h1,h2⟩
def p0 (pts:List (Str×Str)):(i8 pts).length=pts.length:=by unfold i8;rw[Lz]
def fL {pts:List (Str×Str)}{i:Nat}{kv:i6×V}(h:(i8 pts)[i]?=some kv):∃x,pts[i]?=some x/\kv=(Sum.inr x.1,.str x.2):=by
 unfold i8 at h;rw[LF] at h;obtain⟨x,hx,e⟩:=MD.mp h;exact⟨x,hx,e.symm⟩
def U8 {D d:Addr}{kvs:List (i6×V)}{o:Obj}{u:HO}{H H1:Hp}(h:H d=some (.dK kvs))(s:Same (E6 d o kvs H) H1)(hD:H1 D=none):Same H (thaw d (upd H1 D u)):=
 Same.thaw h λb v z=>by rw[b7 (d9 (s _ _ z) hD)];exact s _ _ z
def cg {D d:Addr}{kvs:List (i6×V)}{o:Obj}{u:HO}{H H1:Hp}(s:Same (E6 d o kvs H) H1)(hD:H1 D=none):(thaw d (upd H1 D u)) D=some u:=by
 have hDq:D≠d:=λz=>by rw[z,s _ _ d8] at hD;cases hD
 rw[N3 hDq,d8]
def oT {D d:Addr}{u:HO}{H1:Hp}(hD:H1 D=none):Le H1 (thaw d (upd H1 D u)):=by
 have s:Same H1 (upd H1 D u):=λb v z=>by rw[b7 (d9 z hD)];exact z
 exact s.le.trans vS
def Z7 {pts:List (Str×Str)}(h:(pts.map (·.1)).Nodup):((i8 pts).map (·.1)).Nodup:=by
 rw[G1,←A7];refine Od _ ?_ h;exact λa b h z=>h (NH z)
theorem C6 {α:Type}:∀{l:List (Str×α)} {n:Str} {x y:α},(l.map (·.1)).Nodup->(n,x)∈l->(n,y)∈l->x=y
 |p::r,n,x,y,nd,hx,hy=>by
  have nd':=MN.mp (show(p.1::r.map (·.1)).Nodup from nd);rcases Mr.mp hx with zx|zx
  .rcases Mr.mp hy with zy|zy
   .have:=zx.trans zy.symm;exact(OH this).2
   .exact absurd (LB.mpr ⟨(n,y),zy,by rw[←zx]⟩) nd'.1
  .rcases Mr.mp hy with zy|zy
   .exact absurd (LB.mpr ⟨(n,x),zx,by rw[←zy]⟩) nd'.1
   .exact C6 nd'.2 zx zy
def jC {K:Za}{H:Hp}{kvs:List (i6×V)}{ts:List (Str×J2)}{n:Str}{t:J2}(w:TiesIs K H kvs ts)(nd:(ts.map (·.1)).Nodup)(h:(n,t)∈ts):∃a,k9 kvs (Sum.inr n:i6)=some (.ref a)/\SqT K H a (fG t):=by
 obtain⟨a,x,h1,h2,h3⟩:=TiesIs.val (ts:=ts) w (LB.mpr ⟨(n,t),h,rfl⟩);rw[C6 nd h h2];exact⟨a,h1,h3⟩
def du {pts:List (Str×Str)}{n k:Str}(nd:(pts.map (·.1)).Nodup)(h:(n,k)∈pts):k9 (i8 pts) (Sum.inr n:i6)=some (.str k):=
 hZ (kv:=(Sum.inr n,.str k)) (Z7 nd) (LB.mpr ⟨(n,k),h,rfl⟩)
theorem kh {n:Str}:∀{gs:List Str},Jb (.str n) (gs.map V.str)=decide (n∈gs)
 |[]=>rfl
 |g::r=>by
  show(fc (.str g) (.str n)||Jb (.str n) (r.map V.str))=_;rw[kh (gs:=r),show fc (.str g) (.str n)=decide (g=n) by unfold fc;rw[My];simp];rw[My];simp;constructor
  .rintro(h|h)
   .exact .inl h.symm
   .exact .inr h
  .rintro(h|h)
   .exact .inl h.symm
   .exact .inr h
def R8 {K:Za}{H:Hp}{Q:VK}{l:Addr}{gs:List Str}{n:Str}(h:SqL K H l (gs.map V.str))(q:Q (.bl (!decide (n∈gs))) H):jG K (.str n) (.ref l) H Q:=
 .inr (.inl ⟨l,_,rfl,.inl h,rfl,aQ _,by rw[if_pos rfl,kh];exact q⟩)
def jy {K:Za}{H:Hp}{Q:VK}{l:Addr}{gs:List Str}{n:Str}(h:SqL K H l (gs.map V.str))(q:Q (.bl (decide (n∈gs))) H):wo K (.str n) (.ref l) H Q:=
 zt (.inl h) rfl (aQ _) (by rw[kh];exact q)
def gL (gs:List Str):i6->Bool
 | .inr n=>decide (n∈gs)
 |_=>false
theorem S9 {α β:Type}{F:α->β->Prop}{f:α->Bool}{g:β->Bool}(h:∀a b,F a b->f a=g b):∀{l:List α} {m:List β},Paired F l m->Paired F (l.filter f) (m.filter g)
 |_,_,.nil=> .nil
 |a::l,b::m,.cons r t=>by
  have z:=S9 h t;have e:=h a b r;cases hb:g b with
  |true=>rw[Mw (by rw[e,hb]),Mw hb];exact .cons r z
  |false=>rw[MB (by rw[e,hb];simp),MB (by rw[hb];simp)];exact z
def K7 {α β:Type}{f:α->β}{p:α->Bool}{l:List α}(h:(l.map f).Nodup):((l.filter p).map f).Nodup:=h.sublist ((MO).map f)
def wK {ka kb:List (i6×V)}(nd:((ka++kb).map (·.1)).Nodup):N6 ka kb=ka++kb:=jZ nd
def eV {α β : Type} {F : α -> β -> Prop} : ∀ {l1 l2 : List α} {m1 m2 : List β}, Paired F l1 m1 -> Paired F l2 m2 -> Paired F (l1 ++ l2) (m1 ++ m2)
 := by
  intro l1 l2 m1 m2 hp h;induction hp with
  | nil => exact h
  | cons r _ ih => exact .cons r ih
def vg {K:Za}{H:Hp}{kvs:List (i6×V)}{ts:List (Str×J2)}(w:TiesIs K H kvs ts)(h:(ts.map (·.1)).Nodup):(kvs.map (·.1)).Nodup:=by
 rw[w.keys,←A7];refine Od _ ?_ h;exact λa b h z=>h (NH z)
def kS {K:Za}{H:Hp}{d:Addr}{k1 k2:List (i6×V)}{kvs:List (i6×V)}{ts:List (Str×J2)}(h:H d=some (.dK k1))(w:TiesIs K H kvs ts):TiesIs K (upd H d (.dK k2)) kvs ts:=Paired.imp' (λ_ _ z=>gu h z) w
def Ea {α:Type}{l m:List (Str×α)}(h1:(l.map (·.1)).Nodup)(h2:(m.map (·.1)).Nodup)(h:∀n∈m.map (·.1),n∉l.map (·.1)):((l++m).map (·.1)).Nodup:=by
 rw[LK];exact Mm.mpr ⟨h1,h2,λa ha b hb e=>h b hb (e▸ha)⟩
def N7 {pts:List (Str×Str)}{n:Str}:(k9 (i8 pts) (Sum.inr n:i6)).isSome=decide (n∈pts.map (·.1)):=by
 rw[←N1,My,Nf,Mg];constructor
 .rintro⟨kv,h_,e⟩;obtain⟨x,hx,rfl⟩:=LB.mp h_;exact LB.mpr ⟨x,hx,NH (ME e)⟩
 .intro m;obtain⟨x,hx,rfl⟩:=LB.mp m;exact⟨_,LB.mpr ⟨x,hx,rfl⟩,Ma rfl⟩
def X3 {K:Za}{H:Hp}{kvs:List (i6×V)}{ts:List (Str×J2)}{n:Str}(w:TiesIs K H kvs ts):(k9 kvs (Sum.inr n:i6)).isSome=decide (n∈ts.map (·.1)):=by
 by_cases hn:n∈ts.map (·.1)
 .obtain⟨a,x,h1,_⟩:=TiesIs.val (ts:=ts) w hn;rw[h1,Ma hn];rfl
 .cases e:k9 kvs (Sum.inr n:i6) with
  |none=>simp [hn]
  |some v=>
   have z:=vq e
   rw[w.keys,←A7] at z
   exact absurd (T7 z) hn
theorem tp {K:Za}{H:Hp}{kb:List (i6×V)}:∀{ka:List (i6×V)},(∀kv∈ka,∃y,k9 kb kv.1=some y/\Eq1 K H kv.2 y true)->EqH K H kb ka true
 |[],_=> .nil
 |kv::r,h=>by
  obtain⟨y,h1,h2⟩:=h kv LS;exact EqH.hit (e:=true) (b:=true) h1 h2 (tp λx hx=>h x (LY _ hx))
def BN {K:Za}{H:Hp}(s:Str):Eq1 K H (.str s) (.str s) true:=by
 have z:=Eq1.flat (K:=K) (H:=H) (x:= .str s) (y:= .str s) rfl rfl;rw[sd rfl] at z;exact z
def AG {K:Za}{H:Hp}{a b:Addr}{t:J2}(h:SqT K H a (fG t))(h':SqT K H b (fG t)):Eq1 K H (.ref a) (.ref b) true:=by
 have z:=Eq1.tup h h' rfl rfl;rw[dI rfl] at z;exact z
def CZ {K:Za}{H:Hp}{p p':Addr}{pts Rp:List (Str×Str)}(u_:p≠p')(h1:Rd H p (.dK (i8 pts)))(h2:Rd H p' (.dK (i8 Rp)))(pm:pts.Perm Rp)(nd:(Rp.map (·.1)).Nodup):EqD K H p p' true:=
 .inr ⟨u_,_,_,true,h1,h2,tp λkv h_=>by
  obtain⟨x,hx,rfl⟩:=LB.mp h_;exact⟨_,du nd (pm.mem_iff.mp hx),BN _⟩,by rw[p0,p0,pm.length_eq];simp⟩
def rC {K:Za}{H:Hp}{q q':Addr}{kvs d_:List (i6×V)}{ts WG:List (Str×J2)}(u_:q≠q')(h1:Rd H q (.dK kvs))(h2:Rd H q' (.dK d_))(w:TiesIs K H kvs ts)(w':TiesIs K H d_ WG)(pm:ts.Perm WG)(nd:(WG.map (·.1)).Nodup):EqD K H q q' true:=
 .inr ⟨u_,_,_,true,h1,h2,tp λkv h_=>by
  obtain⟨i,hi⟩:=Nw h_;obtain⟨x,hx,ex,b,eb,sb⟩:=w.get hi;obtain⟨c,e1,e2⟩:=jC w' nd (pm.mem_iff.mp (LV hx));refine⟨.ref c,by rw[ex];exact e1,?_⟩;rw[eb];exact AG sb e2,by rw[w.length,w'.length,pm.length_eq];simp⟩
def pT : ∀ {kvs : List (i6 × V)} {k : i6} {v : V}, k9 kvs k = some v -> (k, v) ∈ kvs
 := by
  intro kvs k v h;induction kvs with
  | nil => cases h
  | cons p r ih =>
    by_cases e : p.1 = k
    . rw [C4 e] at h
      rw [← e, ← Mc h]; exact LS
    . rw [C2 e] at h
      exact LY _ (ih h)
def Ak (a b:J2):Q8 (fG a) (fG b)=decide (a=b):=by
 obtain⟨a1,a2,a3⟩:=a;obtain⟨b1,b2,b3⟩:=b;show(a1==b1&&(a2==b2&&(a3==b3&&true)))=_;rw[My];simp
def qY (a:J2):(fG a).all C0=true:=rfl
def pW {pts:List (Str×Str)}{n:Str}{v:V}(h:k9 (i8 pts) (Sum.inr n:i6)=some v):∃k,v= .str k/\(n,k)∈pts:=by
 obtain⟨x,hx,e⟩:=LB.mp (pT h);obtain⟨x1,x2⟩:=x;have e1:=(OH e).1;have e2:=(OH e).2;exact⟨x2,e2.symm,by rw[←NH e1];exact hx⟩
def Ic {H:Hp}{Q:VK}{pts:List (Str×Str)}{m k:Str}(nd:(pts.map (·.1)).Nodup)(q:Q (.bl (decide ((m,k)∈pts))) H):kW K ((k9 (i8 pts) (Sum.inr m:i6)).getD .non) (.str k) H Q:=by
 cases e:k9 (i8 pts) (Sum.inr m:i6) with
 |none=>
  refine xh (qe ?_)
  rw[Mn (λz=>by rw[du nd z] at e;cases e)] at q;exact q
 |some v=>
  obtain⟨k2,rfl,hk⟩:=pW e
  refine jP ?_
  have:decide (k2=k)=decide ((m,k)∈pts):=by
   rw[My,Mg,Mg];exact⟨λz=>z▸hk,λz=>C6 nd hk z⟩
  rw[this];exact q
def FF {H:Hp}{Q:VK}{kvs:List (i6×V)}{ts:List (Str×J2)}{m:Str}{y:J2}{l:Addr}(w:TiesIs K H kvs ts)(nd:(ts.map (·.1)).Nodup)(hl:SqT K H l (fG y))(q:Q (.bl (decide ((m,y)∈ts))) H):kW K ((k9 kvs (Sum.inr m:i6)).getD .non) (.ref l) H Q:=by
 by_cases hm:m∈ts.map (·.1)
 .obtain⟨a,x,h1,h2,h3⟩:=TiesIs.val (ts:=ts) w hm;rw[h1];refine xh (Ao h3 hl (qY _) (qY _) ?_);rw[Ak];have:decide (x=y)=decide ((m,y)∈ts):=by
   rw[My,Mg,Mg];exact⟨λz=>z▸h2,λz=>C6 nd h2 z⟩
  rw[this];exact q
 .have e:k9 kvs (Sum.inr m:i6)=none:=by
   have z:=X3 (n:=m) w;rw[Mn hm] at z;cases e:k9 kvs (Sum.inr m:i6) with
   |none=>rfl
   |some v=>rw[e] at z;cases z
  rw[e];refine xh (oR hl ?_);rw[Mn (λz=>hm (LB.mpr ⟨_,z,rfl⟩))] at q;exact q
def D0 {W:p8}(h:(b4 W).Nodup):(W.pts.map (·.1)).Nodup:=(Mm.mp h).1
def L9 {W:p8}(h:(b4 W).Nodup):(W.ts.map (·.1)).Nodup:=(Mm.mp h).2.1
def Ei {t:String}(h:t≠"str"):mn t "str"=false:=by
 unfold mn;have e1:(t=="str")=false:=by simpa using h
 rw[e1];simp
abbrev gR:=λP w K mg base=>K3 P w K mg base A9 1 "is_text_of" ["thing","signs","most"] [] (ei K)
def my {f fd}(T:Txt K mg)(F:Fun K "is_text_of" "is_text_of" bI f fd):x8 P w K mg base A9 1 f fd ["thing","signs","most"] (ei K):=by
 walk_at "#sc_is_text_of"
 .obtain⟨v,signs,most,rfl,_⟩:=h;rfl
 .obtain⟨v,signs,most,rfl,h⟩:=h;walk_at "@sc_is_text_of 9LM:Nq~f~e~d602'3Jt ~q~p~o:c'0uw l701f=c'0zk l7002f8q^][2msign;1;k00d0sign,signs;tCI0001s"
  rcases h with⟨x,rfl,hx,k⟩|⟨⟨t,ty,ht⟩,k⟩
  .symm;refine qt (rR (t:="str") rfl (by simp) ?_);symm;rw[if_neg (by decide)];symm;refine D6 (dM (b5 hx) ?_);symm;refine M4 (λh1=>?_) (λh1=>?_)
   .symm;have e:K0 x signs most=false:=by
     unfold K0;rw[Mn (by lia)];rfl
    rw[←e];exact k H (Same.refl H)
   .symm;refine D6 (dM (b5 hx) ?_);symm;refine M4 (λh2=>?_) (λh2=>?_)
    .symm;have e:K0 x signs most=false:=by
      unfold K0;rw[Mn (show ¬((x.length:Int)<=most) by lia)];simp
     rw[←e];exact k H (Same.refl H)
    .symm;refine j9 (n:=x.cps.size) (λi out H'=>H'=H/\out=(x.cps.toList.take i).map λc=>V.bl (decide (c∈signs.cps.toList))) ⟨rfl,rfl⟩ (λi out H' hi _=>by exact hi) ?_ ?_
     .rintro N i v out H1 H2 hi ⟨rfl,rfl⟩ y hN;obtain⟨rfl,c,hc,rfl⟩:=Its.lt y;symm;refine⟨rfl,?_⟩;symm;refine⟨b5 (by rw[Lz,LM,←qi];lia),hN _ _ ⟨rfl,?_⟩⟩;exact A1 (λc=>V.bl (decide (c∈signs.cps.toList))) hc
     .rintro out H1 ⟨rfl,rfl⟩;refine⟨LC _,λD hD=>⟨b5 (by rw[Lz,LM,←qi];lia),?_⟩⟩;symm;refine oq (bs:=x.cps.toList.map λc=>decide (c∈signs.cps.toList)) (SqL.of ?_) ?_
      .show upd H1 D _ D=_;rw[d8,LN (by simp),Mo];rfl
      .have e:K0 x signs most=(x.cps.toList.map λc=>decide (c∈signs.cps.toList)).all id:=by
        unfold K0 F4;rw[Ma (show 1<=(x.length:Int) by lia),Ma (show(x.length:Int)<=most by lia),NM];rfl
       rw[←e];exact k _ λb o q=>by
        show upd H1 D _ b=_;rw[b7 (d9 q hD)];exact q
  .symm;refine qt (rR ty (by simp) ?_);rw[Ei ht];symm;exact k H (Same.refl H)
def AK {x:Str}(h:1<=(x.length:Int)):mO x.cps.toList 0=some (x.cps.toList.headD 0):=by
 refine i9 (j:=0) ?_;have hl:=qi x;cases e:x.cps.toList with
 |nil=>rw[e] at hl;simp at hl;lia
 |cons c r=>rfl
abbrev nM:=λP w K mg base=>K3 P w K mg base A9 2 "is_name" ["thing"] [] (kK K)
def tX {f fd}(T:Txt K mg)(bE:gR P w K mg base)(F:Fun K "is_name" "is_name" iB f fd):x8 P w K mg base A9 2 f fd ["thing"] (kK K):=by
 walk_at "#sc_is_name"
 .obtain⟨v,rfl,_⟩:=h;rfl
 .obtain⟨v,rfl,h⟩:=h;walk_at "@sc_is_name 8'2EH 3'0bE 60i'1Kr '0T.c_NAME_SIGNS '1Kr '0T.c_MOST_NAME_SIGNS '1Dg CI40'1Kr '0T.c_SMALL_LETTERS s";symm;refine⟨v,_,_,rfl,?_⟩;rcases h with⟨x,rfl,hx,k⟩|⟨no,k⟩
  .refine .inl ⟨x,rfl,hx,λH' sm=>?_⟩;symm;refine Q0 (λe=>?_) (λe=>?_)
   .symm;have h1:1<=(x.length:Int):=by
     unfold K0 at e;simp only[Mp,Mg] at e;exact e.1.1
    refine N2 (b5 hx) (AK h1) ?_;symm;have e2:L8 x=vZ x kSL:=by
     unfold L8;rw[show K0 x kNS 24=true from e,PY]
    have q:=k H' sm;rw[e2] at q;exact q
   .have e2:L8 x=false:=by
     unfold L8;rw[show K0 x kNS 24=false from e,Bool.false_and]
    have q:=k H' sm;rw[e2] at q;exact q
  .refine .inr ⟨no,λH' sm=>?_⟩;symm;exact k H' sm
def DH (a b:Str):Prop:=a.cps.toList<b.cps.toList
theorem aR:∀{ss:List Str},Aj ss=true->ss.Pairwise DH
 |[],_=> .nil
 |[_],_=>List.pairwise_singleton _ _
 |x::y::r,h=>by
  rw[nR,Mp] at h;have ih:=aR h.2;have hxy:x.cps.toList<y.cps.toList:=ME h.1;refine NX.mpr ⟨λz hz=>?_,ih⟩;rcases Mr.mp hz with e|e
  .rw[e];exact hxy
  .exact List.lt_trans hxy ((NX.mp ih).1 z e)
theorem qH:∀{a b:List Str},a.Pairwise DH->b.Pairwise DH->a.Perm b->a=b
 |[],b,_,_,p=>(List.Perm.nil_eq p)
 |x::r,[],_,_,p=>(List.Perm.eq_nil p)
 |x::r,y::t,h1,h2,p=>by
  have RL:=NX.mp h1;have UJ:=NX.mp h2;have e:x=y:=NY λne=>by
   have m1:x∈y::t:=p.mem_iff.mp LS;have m2:y∈x::r:=p.mem_iff.mpr LS;rcases Mr.mp m1 with z|z
   .exact ne z
   .rcases Mr.mp m2 with z'|z'
    .exact ne z'.symm
    .have q1:y.cps.toList<x.cps.toList:=UJ.1 x z;have q2:x.cps.toList<y.cps.toList:=RL.1 y z';exact PZ q1 q2
  subst e;rw[qH RL.2 UJ.2 (List.Perm.cons_inv p)]
def F5 {a b:List Str}(h1:sortedS a=true)(h2:sortedS b=true)(nd:a.Nodup)(p:a.Perm b):a=b:=
 qH (aR (dD h1 nd)) (aR (dD h2 (p.nodup_iff.mp nd))) p
structure Ordr (W:p8) (s1 s2:List Str):Prop where
 p1:s1.Perm (W.pts.map (·.1))
 p2:s2.Perm (W.ts.map (·.1))
 o1:sortedS s1=true
 o2:sortedS s2=true
def Ordr.mem {W:p8}{s1 s2:List Str}(h:Ordr W s1 s2){n:Str}:n∈s1++s2↔n∈b4 W:=by
 unfold b4;rw[LO,LO,h.p1.mem_iff,h.p2.mem_iff]
def Ordr.perm {W:p8}{s1 s2:List Str}(h:Ordr W s1 s2):(s1++s2).Perm (b4 W):=h.p1.append h.p2
def Ordr.len {W:p8}{s1 s2:List Str}(h:Ordr W s1 s2):(s1++s2).length=(b4 W).length:=h.perm.length_eq
def g0 (kvm:List (i6×V))(n:Str):Str:=match k9 kvm (Sum.inr n:i6) with
 |some (.str s)=>s
 |_=>""
def fR {kvm:List (i6×V)}{n s:Str}(h:k9 kvm (Sum.inr n:i6)=some (.str s)):g0 kvm n=s:=by unfold g0;rw[h]
def TxtAt (kvm:List (i6×V))(n:Str):Prop:=∃s,k9 kvm (Sum.inr n:i6)=some (.str s)
def TxtAt.at_ {kvm:List (i6×V)}{n:Str}(h:TxtAt kvm n):k9 kvm (Sum.inr n:i6)=some (.str (g0 kvm n)):=by
 obtain⟨s,hs⟩:=h;rw[fR hs];exact hs
def ES {H:Hp}{Q:VK}{d:Addr}{kvm:List (i6×V)}{n:Str}(hD:Rd H d (.dK kvm))(h:TxtAt kvm n)(q:Q (.str (g0 kvm n)) H):mI K (.ref d) (.str n) H Q:=
 C3 (by have z:=O8 (k:=Sum.inr n) hD;rw[h.at_] at z;exact z) q
def og (K:Za):Sp:=λvs H Q _=>∃(a p q:Addr) (kvs:List (i6×V)) (W:p8),vs=[.ref a]/\WebAt K H a p q kvs W/\(b4 W).length<=60/\∀(l:Addr) (H':Hp) (s1 s2:List Str),H l=none->Same H H'->H' l=some (.lst ((s1++s2).map V.str))->Ordr W s1 s2->Q (.ref l) H'
def E4 (W:p8):(b4 W).length=W.pts.length+W.ts.length:=by unfold b4;rw[LJ,Lz,Lz]
abbrev M8:=λP w K mg base=>K3 P w K mg base A9 1 "things" ["web"] [] (og K)
def xJ {f fd}(T:Txt K mg)(F:Fun K "things" "things" jQ f fd):x8 P w K mg base A9 1 f fd ["web"] (og K):=by
 walk_at "#sc_things"
 .obtain⟨a,p,q,kvs,W,rfl,_⟩:=h;rfl
 .obtain⟨a,p,q,kvs,W,rfl,hW,h1,k⟩:=h;rw[E4] at h1;walk_at "@sc_things 8aq;(&240q;(&240";symm;refine A3 hW.tup ?_;symm;refine E3 (ss:=W.pts.map (·.1)) hW.pts (by rw[G1,A7]) (by rw[Lz];lia) (λs1 a1 a2 l1 n1=>?_);obtain⟨H1,e1,f1,m1,_⟩:=b0 (o:= .lst _) n1;rw[e1];have W1:=hW.mono m1.le;symm;refine x6 W1.tup ?_;symm;refine E3 (ss:=W.ts.map (·.1)) W1.ties (by rw[W1.ts.keys,A7]) (by rw[Lz];lia) (λs2 b1 b2 l2 n2=>?_);obtain⟨H2,e2,f2,m2,_⟩:=b0 (o:= .lst _) n2;rw[e2];have g1:=a1.length_eq;have g2:=b1.length_eq;rw[Lz] at g1 g2;refine eh (m2 _ _ f1) f2 (b5 (by rw[Lz,Lz];lia)) (λl3 n3=>?_);obtain⟨H3,e3,f3,m3,_⟩:=b0 (o:= .lst _) n3;rw[e3];refine k l3 H3 s1 s2 (m1.free (m2.free n3)) (m1.trans (m2.trans m3)) ?_ ⟨a1,b1,a2,b2⟩;rw[f3,LK]
def jg (K:Za):Sp:=λvs H Q _=>∃(d:Addr) (kvs:List (i6×V)) (ss:List Str),vs=[.ref d]/\Rd H d (.dK kvs)/\kvs.map (·.1)=ss.map Sum.inr/\ss.Nodup/\ss.length<=60/\∀(l:Addr) (H':Hp) (d_:List (i6×V)),H l=none->Same H H'->H' l=some (.dK d_)->d_.Perm kvs->Q (.ref l) H'
def NewP (K:Za)(H:Hp)(Q:VK)(W:p8):Prop:=∀(a p q:Addr) (kvs:List (i6×V)) (W':p8) (H':Hp),Same H H'->WebAt K H' a p q kvs W'->H' p=some (.dK (i8 W'.pts))->H' q=some (.dK kvs)->p≠q->H p=none->H q=none->W'.pts.Perm W.pts->W'.ts.Perm W.ts->Q (.ref a) H'
def ix (K:Za):Sp:=λvs H Q _=>∃(a p q:Addr) (kvs:List (i6×V)) (W:p8),vs=[.ref a]/\WebAt K H a p q kvs W/\(W.pts.map (·.1)).Nodup/\(W.ts.map (·.1)).Nodup/\W.pts.length<=60/\W.ts.length<=60/\NewP K H Q W
abbrev kI:=λP w K mg base=>K3 P w K mg base A9 1 "in_order" ["named"] [] (jg K)
def rB {f fd}(T:Txt K mg)(F:Fun K "in_order" "in_order" eZ f fd):x8 P w K mg base A9 1 f fd ["named"] (jg K):=by
 walk_at "#sc_in_order"
 .obtain⟨d,kvs,ss,rfl,_⟩:=h;rfl
 .obtain⟨d,kvs,ss,rfl,hd,hk,TZ,hl,k⟩:=h;have nd:(kvs.map (·.1)).Nodup:=by
   rw[hk];refine Od _ ?_ TZ;exact λa b h z=>h (NH z)
  walk_at "@sc_in_order 8wWDO2mname;0;kq;(&70d0name,named;tr602b100";symm;refine E3 (ss:=ss) hd hk (by lia) (λs1 a1 a2 l1 n1=>?_);obtain⟨H1,e1,f1,m1,_⟩:=b0 (o:= .lst _) n1;rw[e1];have hd1:=m1.rd hd;have SS:=a1.length_eq;refine k8 (SqL.of f1) ?_;refine j9 (n:=s1.length) (λi out H'=>Same H1 H'/\Paired (PrV K H') out ((s1.take i).map λs=>(Sum.inr s,(k9 kvs (Sum.inr s:i6)).getD .non))) ⟨Same.refl _,.nil⟩ (λi out H' hi hp=>⟨_,.str (s1[i]),SqL.of (hp.1 _ _ f1),by rw[LF,LA hi];rfl⟩) ?_ ?_
  .rintro N i v out H2 H3 hi ⟨s2,pr⟩ y hN';obtain⟨rfl,hx⟩:=Itl.get y (SqL.of (s2 _ _ f1));rw[LF] at hx;obtain⟨x,C_,rfl⟩:=MD.mp hx;have hxk:(Sum.inr x:i6)∈kvs.map (·.1):=by
    rw[hk];exact LB.mpr ⟨x,a1.mem_iff.mp (LV C_),rfl⟩
   obtain⟨kv,h_,ekv⟩:=LB.mp hxk;have ev:=hZ nd h_;rw[ekv] at ev;have e7:s1.take (i+1)=s1.take i++[x]:=by rw[Mt,C_];rfl
   symm;refine⟨rfl,?_⟩;symm;refine C3 (v:=kv.2) (by have z':=O8 (k:=Sum.inr x) (s2.rd hd1);rw[ev] at z';exact z') ?_;symm;refine⟨b5 (by simp),λt nt=>?_⟩;obtain⟨H4,e4,f4,m4,_⟩:=b0 (o:= .tup _) nt;rw[e4];have v_:=Mj pr;rw[Lz,LM] at v_;refine⟨b5 (by lia),hN' _ _ ⟨s2.trans m4,?_⟩⟩;rw[e7,LK];refine w4 (Paired.imp' (λ_ _ z=>PrV.mono m4.le z) pr) ⟨t,rfl,?_⟩;show SqT K _ t [V.str x,(k9 kvs (Sum.inr x:i6)).getD V.non];rw[ev];exact SqT.of f4
  .rintro out H2 ⟨s2,pr⟩;have v_:=Mj pr;rw[Lz,LM] at v_;refine⟨⟨_,SqL.of (s2 _ _ f1),by rw[Lz];exact LC _⟩,λD hD=>⟨b5 (by lia),?_⟩⟩;obtain⟨H5,e5,f5,m5,_⟩:=b0 (o:= .lst out) hD;show uD _ (upd _ D _) _;rw[e5];symm;rw[LN (LC _)] at pr;refine R5 (SqL.of f5) (Paired.imp' (λ_ _ z=>PrV.mono m5.le z) pr) (b5 (by rw[Lz];lia)) (λl nl=>?_);obtain⟨H6,e6,f6,m6,_⟩:=b0 (o:= .dK _) nl;rw[e6];have mA:=m1.trans (s2.trans (m5.trans m6));have UK:(s1.map λs=>((Sum.inr s:i6),(k9 kvs (Sum.inr s:i6)).getD V.non)).Perm kvs:=by
    refine List.Perm.trans (a1.map _) ?_;rw[←ER hk nd]
   rw[X8 ((UK.map _).nodup_iff.mpr nd)] at f6;exact k l H6 _ ((m1.trans (s2.trans m5)).free nl) mA f6 UK
abbrev aV:=λP w K mg base=>K3 P w K mg base A9 2 "copied" ["web"] [] (ix K)
def xT {f fd}(T:Txt K mg)(bN:kI P w K mg base)(F:Fun K "copied" "copied" kZ f fd):x8 P w K mg base A9 2 f fd ["web"] (ix K):=by
 walk_at "#sc_copied"
 .obtain⟨a,p,q,kvs,W,rfl,_⟩:=h;rfl
 .obtain⟨a,p,q,kvs,W,rfl,hW,d1,d2,l1,l2,k⟩:=h;walk_at "@sc_copied 8ri3'0bN 2403'0bN 240";symm;refine A3 hW.tup ?_;symm;refine⟨p,i8 W.pts,W.pts.map (·.1),rfl,hW.pts,by rw[G1,A7],d1,by rw[Lz];exact l1,λp' H1 kp np' m1 f1 pm1=>?_⟩;have W1:=hW.mono m1.le;symm;refine x6 W1.tup ?_;symm;refine⟨q,kvs,W.ts.map (·.1),rfl,W1.ties,by rw[W1.ts.keys,A7],d2,by rw[Lz];exact l2,λq' H2 kq nq' m2 f2 pm2=>?_⟩;symm;refine⟨b5 (by simp),λl9 n9=>?_⟩;obtain⟨H9,e9,f9,m9,_⟩:=b0 (o:= .tup _) n9;rw[e9];obtain⟨Rp,rfl,pp⟩:=AF pm1;have W2:=hW.mono (m1.trans (m2.trans m9)).le;obtain⟨WG,w',pt⟩:=ae pm2 W2.ts;have g1:=m9 _ _ (m2 _ _ f1);have g2:=m9 _ _ f2;exact k l9 p' q' kq ⟨Rp,WG⟩ H9 (m1.trans (m2.trans m9)) ⟨SqT.of f9,.inl g1,.inl g2,w'⟩ g1 g2 (d9 f1 nq') np' (m1.free nq') pp pt
structure zM (W:p8):Prop where
 nm:∀x∈b4 W,L8 x=true
 kd:∀x∈W.pts,F7 x.2=true
 tk:∀x∈W.ts,F7 x.2.1=true
def dN {x s:Str}{m:Int}(h:K0 x s m=true):(x.length:Int)<=m:=by
 unfold K0 at h;simp only[Mp,Mg] at h;exact h.1.2
def yG {x:Str}(h:L8 x=true):x.length<=1000:=by
 unfold L8 at h;have:=dN (Mp _ _▸h).1;lia
def Gf:mn "dict" "dict"=true:=rfl
structure jS (m:Nat) (W:p8):Prop where
 good:zM W
 kds:∀n∈b4 W,F7 n=true
 l1:W.pts.length<=m
 l2:W.ts.length<=m
def vW (K:Za):Sp:=λvs H Q _=>∃(a p q a' p' q':Addr) (kvs d_:List (i6×V)) (W O:p8),vs=[.ref a,.ref a']/\WebIs 60 K H a p q kvs W/\WebIs 60 K H a' p' q' d_ O/\∀(l:Addr) (H':Hp) (s1 s2:List Str),H l=none->Same H H'->Ordr W s1 s2->H' l=some (.lst (((s1++s2).filter λn=>decide (n∈b4 O)).map V.str))->Q (.ref l) H'
def qA (K:Za):Sp:=λvs H Q _=>∃(a p q a' p' q':Addr) (kvs d_:List (i6×V)) (W O:p8),vs=[.ref a,.ref a']/\WebIs 60 K H a p q kvs W/\WebIs 60 K H a' p' q' d_ O/\∀(l:Addr) (H':Hp) (s1 s2:List Str),H l=none->Same H H'->Ordr W s1 s2->H' l=some (.lst (((s1++s2).filter λn=>!decide (n∈b4 O)).map V.str))->Q (.ref l) H'
def dP (n:Nat):(List.replicate n true).all id=true:=by rw[Mq];intro b hb;exact(SA.mp hb).2
abbrev AW:=λP w K mg base=>K3 P w K mg base A9 2 "both" ["web","other"] [] (vW K)
def Cu {f fd}(T:Txt K mg)(p7:M8 P w K mg base)(F:Fun K "both" "both" tF f fd):x8 P w K mg base A9 2 f fd ["web","other"] (vW K):=by
 walk_at "#sc_both"
 .obtain⟨a,p,q,a',p',q',kvs,d_,W,O,rfl,_⟩:=h;rfl
 .obtain⟨a,p,q,a',p',q',kvs,d_,W,O,rfl,hW,hO,k⟩:=h;have hWl:=hW.len;walk_at "@sc_both 8mname;1;k3)70d0name,other;JM:cI0041s=cI0041s00";symm;refine⟨a,p,q,kvs,W,rfl,hW.at_,by lia,λl1 H1 s1 s2 n1 m1 f1 or=>?_⟩;have hlen:=or.len;refine k8 (SqL.of f1) ?_;refine j9 (n:=(s1++s2).length) (λi out H'=>Same H1 H'/\out=(((s1++s2).take i).filter λn=>decide (n∈b4 O)).map V.str) ⟨Same.refl _,rfl⟩ (λi out H' hi hp=>⟨_,.str ((s1++s2)[i]),SqL.of (hp.1 _ _ f1),by rw[LF,LA hi];rfl⟩) ?_ ?_
  .rintro N i v out H3' H3 hi ⟨s3,rfl⟩ y hN';obtain⟨rfl,hx⟩:=Itl.get y (SqL.of (s3 _ _ f1));rw[LF,LA hi] at hx;cases hx;have O3:=hO.at_.mono (m1.trans s3).le;have e7:(s1++s2).take (i+1)=(s1++s2).take i++[(s1++s2)[i]]:=by rw[Mt,LA hi];rfl
   have r_:=LQ (λn=>decide (n∈b4 O)) ((s1++s2).take i);rw[LM] at r_;have yes:(decide ((s1++s2)[i]∈b4 O))=true->((((s1++s2).take i).filter λn=>decide (n∈b4 O)).map V.str).length<=sizeLine/\N ((((s1++s2).take i).filter λn=>decide (n∈b4 O)).map V.str++[V.str (s1++s2)[i]]) H3:=λhb=>by
    refine⟨b5 (by rw[Lz];lia),hN' _ _ ⟨s3,?_⟩⟩;rw[e7,Mz,Mw (p:=λn=>decide (n∈b4 O)) hb,MT,LK];rfl
   have no:(decide ((s1++s2)[i]∈b4 O))=false->N ((((s1++s2).take i).filter λn=>decide (n∈b4 O)).map V.str) H3:=λhb=>by
    refine hN' _ _ ⟨s3,?_⟩;rw[e7,Mz,MB (p:=λn=>decide (n∈b4 O)) (by rw[hb];simp),MT,MM]
   symm;refine⟨rfl,?_⟩;symm;refine A3 O3.tup ?_;refine U1 (O8 (k:=Sum.inr (s1++s2)[i]) O3.pts) ?_;rw[N7];symm;refine M4 (λb1=>?_) (λb1=>?_)
   .symm;refine yes (by rw[Ma (show(s1++s2)[i]∈b4 O from LH _ b1)])
   .symm;refine x6 O3.tup ?_;refine U1 (O8 (k:=Sum.inr (s1++s2)[i]) O3.ties) ?_;rw[X3 O3.ts];symm;refine M4 (λb2=>?_) (λb2=>?_)
    .symm;refine yes (by rw[Ma (show(s1++s2)[i]∈b4 O from LP _ b2)])
    .exact no (by rw[Mn (show(s1++s2)[i]∉b4 O from λz=>(LO.mp z).elim b1 b2)])
  .rintro out H3 ⟨s3,rfl⟩;have r_:=LQ (λn=>decide (n∈b4 O)) ((s1++s2).take (s1++s2).length);rw[LM] at r_;refine⟨⟨_,SqL.of (s3 _ _ f1),by rw[Lz];exact LC _⟩,λD hD=>⟨b5 (by rw[Lz];lia),?_⟩⟩;rw[LN (LC _)];obtain⟨H4,e4,f4,m4,_⟩:=b0 (H:=H3) (o:= .lst (((s1++s2).filter λn=>decide (n∈b4 O)).map V.str)) hD;refine k D _ s1 s2 ((m1.trans s3).free hD) ?_ or ?_
   .show Same _ (upd _ D _);rw[e4];exact m1.trans (s3.trans m4)
   .show upd _ D _ D=_;rw[d8]
abbrev qk:=λP w K mg base=>K3 P w K mg base A9 2 "alone" ["web","other"] [] (qA K)
def AO {f fd}(T:Txt K mg)(p7:M8 P w K mg base)(F:Fun K "alone" "alone" pq f fd):x8 P w K mg base A9 2 f fd ["web","other"] (qA K):=by
 walk_at "#sc_alone"
 .obtain⟨a,p,q,a',p',q',kvs,d_,W,O,rfl,_⟩:=h;rfl
 .obtain⟨a,p,q,a',p',q',kvs,d_,W,O,rfl,hW,hO,k⟩:=h;have hWl:=hW.len;walk_at "@sc_alone 8mname;1;k3)70d0name,other;JM>cY0041s_cY0041s00";symm;refine⟨a,p,q,kvs,W,rfl,hW.at_,by lia,λl1 H1 s1 s2 n1 m1 f1 or=>?_⟩;have hlen:=or.len;refine k8 (SqL.of f1) ?_;refine j9 (n:=(s1++s2).length) (λi out H'=>Same H1 H'/\out=(((s1++s2).take i).filter λn=>!decide (n∈b4 O)).map V.str) ⟨Same.refl _,rfl⟩ (λi out H' hi hp=>⟨_,.str ((s1++s2)[i]),SqL.of (hp.1 _ _ f1),by rw[LF,LA hi];rfl⟩) ?_ ?_
  .rintro N i v out H3' H3 hi ⟨s3,rfl⟩ y hN';obtain⟨rfl,hx⟩:=Itl.get y (SqL.of (s3 _ _ f1));rw[LF,LA hi] at hx;cases hx;have O3:=hO.at_.mono (m1.trans s3).le;have e7:(s1++s2).take (i+1)=(s1++s2).take i++[(s1++s2)[i]]:=by rw[Mt,LA hi];rfl
   have r_:=LQ (λn=>!decide (n∈b4 O)) ((s1++s2).take i);rw[LM] at r_;have yes:(!decide ((s1++s2)[i]∈b4 O))=true->((((s1++s2).take i).filter λn=>!decide (n∈b4 O)).map V.str).length<=sizeLine/\N ((((s1++s2).take i).filter λn=>!decide (n∈b4 O)).map V.str++[V.str (s1++s2)[i]]) H3:=λhb=>by
    refine⟨b5 (by rw[Lz];lia),hN' _ _ ⟨s3,?_⟩⟩;rw[e7,Mz,Mw (p:=λn=>!decide (n∈b4 O)) hb,MT,LK];rfl
   have no:(!decide ((s1++s2)[i]∈b4 O))=false->N ((((s1++s2).take i).filter λn=>!decide (n∈b4 O)).map V.str) H3:=λhb=>by
    refine hN' _ _ ⟨s3,?_⟩;rw[e7,Mz,MB (p:=λn=>!decide (n∈b4 O)) (by rw[hb];simp),MT,MM]
   symm;refine⟨rfl,?_⟩;symm;refine A3 O3.tup ?_;refine ah (O8 (k:=Sum.inr (s1++s2)[i]) O3.pts) ?_;rw[N7];symm;refine dy (λb1=>?_) (λb1=>?_)
   .symm;refine x6 O3.tup ?_;refine ah (O8 (k:=Sum.inr (s1++s2)[i]) O3.ties) ?_;rw[X3 O3.ts];symm;refine dy (λb2=>?_) (λb2=>?_)
    .symm;refine yes (by rw[Mn (show(s1++s2)[i]∉b4 O from λz=>(LO.mp z).elim b1 b2)];rfl)
    .exact no (by rw[Ma (show(s1++s2)[i]∈b4 O from LP _ b2)];rfl)
   .exact no (by rw[Ma (show(s1++s2)[i]∈b4 O from LH _ b1)];rfl)
  .rintro out H3 ⟨s3,rfl⟩;have r_:=LQ (λn=>!decide (n∈b4 O)) ((s1++s2).take (s1++s2).length);rw[LM] at r_;refine⟨⟨_,SqL.of (s3 _ _ f1),by rw[Lz];exact LC _⟩,λD hD=>⟨b5 (by rw[Lz];lia),?_⟩⟩;rw[LN (LC _)];obtain⟨H4,e4,f4,m4,_⟩:=b0 (H:=H3) (o:= .lst (((s1++s2).filter λn=>!decide (n∈b4 O)).map V.str)) hD;refine k D _ s1 s2 ((m1.trans s3).free hD) ?_ or ?_
   .show Same _ (upd _ D _);rw[e4];exact m1.trans (s3.trans m4)
   .show upd _ D _ D=_;rw[d8]
structure Sd where
 a:Addr
 p:Addr
 q:Addr
 kvs:List (i6×V)
 W:p8
def SdIs (K:Za)(H:Hp)(s:Sd):Prop:=WebIs 60 K H s.a s.p s.q s.kvs s.W
def SdIs.same {H H':Hp}{s:Sd}(h:SdIs K H s)(m:Same H H'):SdIs K H' s:=WebIs.same h m
structure RuleIs (K:Za) (H:Hp) (r bl:Addr) (L R:Sd) (bs:List Sd):Prop where
 tup:SqT K H r [.ref L.a,.ref R.a,.ref bl]
 l:SdIs K H L
 r:SdIs K H R
 bl:SqL K H bl (bs.map λs=>V.ref s.a)
 bars:∀b∈bs,SdIs K H b
def RuleIs.same {H H':Hp}{r bl:Addr}{L R:Sd}{bs:List Sd}(h:RuleIs K H r bl L R bs)(m:Same H H'):RuleIs K H' r bl L R bs:=⟨m.tup h.tup,h.l.same m,h.r.same m,m.seq h.bl,λb hb=>(h.bars b hb).same m⟩
structure oi (n:Str) (L R:p8):Prop where
 p:∀k,(n,k)∈L.pts↔(n,k)∈R.pts
 t:∀t,(n,t)∈L.ts↔(n,t)∈R.ts
structure Kg (L R:p8) (bs:List Sd):Prop where
 l:jS 4 L
 r:jS 4 R
 ag:∀n∈b4 L,n∈b4 R->oi n L R
 len:bs.length<=3
 bars:∀b∈bs,jS 6 b.W/\(∀x∈L.pts,x∈b.W.pts)/\∀x∈L.ts,x∈b.W.ts
def vx (K:Za):Sp:=λvs H Q _=>∃(r bl:Addr) (L R:Sd) (bs:List Sd),vs=[.ref r]/\RuleIs K H r bl L R bs/\∀(l:Addr) (H':Hp) (s1 s2:List Str),H l=none->Same H H'->Ordr L.W s1 s2->H' l=some (.lst (((s1++s2).filter λn=>decide (n∈b4 R.W)).map V.str))->Q (.ref l) H'
def rn (K:Za):Sp:=λvs H Q _=>∃(r bl:Addr) (L R:Sd) (bs:List Sd),vs=[.ref r]/\RuleIs K H r bl L R bs/\∀(l:Addr) (H':Hp) (s1 s2:List Str),H l=none->Same H H'->Ordr L.W s1 s2->H' l=some (.lst (((s1++s2).filter λn=>!decide (n∈b4 R.W)).map V.str))->Q (.ref l) H'
def iZ (K:Za):Sp:=λvs H Q _=>∃(r bl:Addr) (L R:Sd) (bs:List Sd),vs=[.ref r]/\RuleIs K H r bl L R bs/\∀(l:Addr) (H':Hp) (s1 s2:List Str),H l=none->Same H H'->Ordr R.W s1 s2->H' l=some (.lst (((s1++s2).filter λn=>!decide (n∈b4 L.W)).map V.str))->Q (.ref l) H'
abbrev AE:=λP w K mg base=>K3 P w K mg base A9 3 "kept" ["rule"] [] (vx K)
def CW {f fd}(T:Txt K mg)(sZ:AW P w K mg base)(F:Fun K "kept" "kept" tO f fd):x8 P w K mg base A9 3 f fd ["rule"] (vx K):=by
 walk_at "#sc_kept"
 .obtain⟨r,bl,L,R,bs,rfl,_⟩:=h;rfl
 .obtain⟨r,bl,L,R,bs,rfl,hr',k⟩:=h;walk_at "@sc_kept 83'0sZ i4040";symm;refine A3 hr'.tup ?_;symm;refine x6 hr'.tup ?_;symm;exact⟨_,_,_,_,_,_,_,_,_,_,rfl,hr'.l,hr'.r,λl H' s1 s2 n m o f=>k l H' s1 s2 n m o f⟩
abbrev vf:=λP w K mg base=>K3 P w K mg base A9 3 "taken" ["rule"] [] (rn K)
def Ay {f fd}(T:Txt K mg)(dO:qk P w K mg base)(F:Fun K "taken" "taken" pG f fd):x8 P w K mg base A9 3 f fd ["rule"] (rn K):=by
 walk_at "#sc_taken"
 .obtain⟨r,bl,L,R,bs,rfl,_⟩:=h;rfl
 .obtain⟨r,bl,L,R,bs,rfl,hr',k⟩:=h;walk_at "@sc_taken 83'0dO i4040";symm;refine A3 hr'.tup ?_;symm;refine x6 hr'.tup ?_;symm;exact⟨_,_,_,_,_,_,_,_,_,_,rfl,hr'.l,hr'.r,λl H' s1 s2 n m o f=>k l H' s1 s2 n m o f⟩
abbrev bp:=λP w K mg base=>K3 P w K mg base A9 3 "fresh_of" ["rule"] [] (iZ K)
def qD {f fd}(T:Txt K mg)(dO:qk P w K mg base)(F:Fun K "fresh_of" "fresh_of" fm f fd):x8 P w K mg base A9 3 f fd ["rule"] (iZ K):=by
 walk_at "#sc_fresh_of"
 .obtain⟨r,bl,L,R,bs,rfl,_⟩:=h;rfl
 .obtain⟨r,bl,L,R,bs,rfl,hr',k⟩:=h;walk_at "@sc_fresh_of 83'0dO i4040";symm;refine x6 hr'.tup ?_;symm;refine A3 hr'.tup ?_;symm;exact⟨_,_,_,_,_,_,_,_,_,_,rfl,hr'.r,hr'.l,λl H' s1 s2 n m o f=>k l H' s1 s2 n m o f⟩
def cU (K:Za):Sp:=λvs H Q _=>∃(t d:Addr) (x:J2) (kvm:List (i6×V)),vs=[.ref t,.ref d]/\SqT K H t (fG x)/\Rd H d (.dK kvm)/\TxtAt kvm x.2.1/\TxtAt kvm x.2.2/\∀(l:Addr) (H':Hp),H l=none->Same H H'->H' l=some (.tup (fG (x.1,g0 kvm x.2.1,g0 kvm x.2.2)))->Q (.ref l) H'
structure FitP (P W:p8) (kvm:List (i6×V)):Prop where
 len:kvm.length=(b4 P).length
 txt:∀n∈b4 P,TxtAt kvm n
 nd:((b4 P).map (g0 kvm)).Nodup
 pts:∀x∈P.pts,(g0 kvm x.1,x.2)∈W.pts
 ts:∀x∈P.ts,(g0 kvm x.1,(x.2.1,g0 kvm x.2.2.1,g0 kvm x.2.2.2))∈W.ts
def BH {pts:List (Str×Str)}{n s:Str}(h:n∉pts.map (·.1)):E1 (i8 pts) (Sum.inr n:i6) (.str s)=i8 (pts++[(n,s)]):=by
 rw[K1 _ (F8 (by rw[G1,←A7];exact λm=>h (T7 m)))];unfold i8;rw[LK];rfl
def G3 {ms:List (Str×Str)}{n m:Str}(nd:(ms.map (·.1)).Nodup)(h:(n,m)∈ms):g0 (i8 ms) n=m:=fR (du nd h)
abbrev T8:=λP w K mg base=>K3 P w K mg base A9 1 "tie_renamed" ["tie","names"] [] (cU K)
def kG {f fd}(T:Txt K mg)(F:Fun K "tie_renamed" "tie_renamed" ax f fd):x8 P w K mg base A9 1 f fd ["tie","names"] (cU K):=by
 walk_at "#sc_tie_renamed"
 .obtain⟨t,d,x,kvm,rfl,_⟩:=h;rfl
 .obtain⟨t,d,⟨x1,x2,x3⟩,kvm,rfl,hT,hD,k1,k2,k⟩:=h;walk_at "@sc_tie_renamed 8rn40ib140b140";symm;refine A3 hT ?_;symm;refine x6 hT ?_;refine ES hD k1 ?_;symm;refine ib hT ?_;refine ES hD k2 ?_;symm;refine⟨b5 (by simp),λl9 n9=>?_⟩;obtain⟨H9,e9,f9,m9,_⟩:=b0 (o:= .tup _) n9;rw[e9];exact k l9 H9 n9 m9 f9
def mj (x:Str):List Str->List Str
 |[]=>[x]
 |y::r=>if ltCps y.cps.toList x.cps.toList=true then y::mj x r else x::y::r
def ua:List Str->List Str
 |[]=>[]
 |x::r=>mj x (ua r)
theorem nZ (x:Str):∀l,(mj x l).Perm (x::l)
 |[]=> .refl _
 |y::r=>by
  unfold mj;split
  .exact((nZ x r).cons y).trans (.swap _ _ _)
  .exact .refl _
theorem iR:∀l,(ua l).Perm l
 |[]=> .refl _
 |x::r=>(nZ x _).trans ((iR r).cons x)
def qE {a b:Str}(h:ltCps a.cps.toList b.cps.toList=true):ltCps b.cps.toList a.cps.toList=false:=by
 rw[ltCps_eq] at h⊢;exact Mn (PZ (ME h))
theorem sE {x:Str}:∀{l:List Str} {p:Str},risingS p l=true->ltCps x.cps.toList p.cps.toList=false->risingS p (mj x l)=true
 |[],p,_,h=>by unfold mj;unfold risingS;rw[h];rfl
 |y::r,p,h1,h=>by
  have RL:(!ltCps y.cps.toList p.cps.toList&&risingS y r)=true:=h1;rw[Mp] at RL;unfold mj;split
  .next e=>
   show(!ltCps y.cps.toList p.cps.toList&&risingS y (mj x r))=true;rw[RL.1,sE RL.2 (qE e)];rfl
  .next e=>
   show(!ltCps x.cps.toList p.cps.toList&&(!ltCps y.cps.toList x.cps.toList&&risingS y r))=true;rw[h,RL.2];simpa using e
theorem qj:∀l,sortedS (ua l)=true
 |[]=>rfl
 |x::r=>by
  have ih:=qj r;show sortedS (mj x (ua r))=true;cases e:ua r with
  |nil=>rfl
  |cons y t=>
   rw[e] at ih
   unfold mj
   split
   .next z=>exact sE ih (qE z)
   .next z=>
    show(!ltCps y.cps.toList x.cps.toList&&risingS y t)=true
    rw[show risingS y t=true from ih];simpa using z
def E8 (ts:List (Str×J2))(n:Str):J2:=match ts.find? (λx=>decide (x.1=n)) with
 |some x=>x.2
 |none=>("","","")
theorem ig:∀{ts:List (Str×J2)} {n:Str} {t:J2},(ts.map (·.1)).Nodup->(n,t)∈ts->E8 ts n=t
 |[],_,_,_,h=>nomatch h
 |x::r,n,t,nd,h=>by
  unfold E8;have nd':=MN.mp (show(x.1::r.map (·.1)).Nodup from nd);by_cases e:x.1=n
  .rw[List.find?_cons_of_pos (by simpa using e)];rcases Mr.mp h with z|z
   .rw[←z]
   .exact absurd (LB.mpr ⟨_,z,rfl⟩) (e▸nd'.1)
  .rw[List.find?_cons_of_neg (by simpa using e)];rcases Mr.mp h with z|z
   .exact absurd (by rw[←z]) e
   .exact ig nd'.2 z
def cZ {ts:List (Str×J2)}{n:Str}(h:n∈ts.map (·.1)):(n,E8 ts n)∈ts:=by
 unfold E8;cases e:ts.find? (λx=>decide (x.1=n)) with
 |none=>
  obtain⟨x,hx,z⟩:=LB.mp h
  exact absurd (List.find?_eq_none.mp e x hx) (by simpa using z)
 |some x=>
  have z:x.1=n:=by simpa using List.find?_some e
  rw[←z];exact List.mem_of_find?_eq_some e
def Q4 (fx:List (Str×Str))(n im:Str):Bool:=if n∈fx.map (·.1) then decide (im=g0 (i8 fx) n) else !decide (im∈fx.map (·.2))
def uj (L:Str->Str->Bool)(gp:List Str)(fx:List (Str×Str))(n:Str):List Str:=(gp.filter (L n)).filter (Q4 fx n)
def vT (W:p8)(gt:List Str)(fx:List (Str×Str))(n:Str)(t:J2):List Str:=gt.filter λim=>decide (E8 W.ts im=t)&&Q4 fx n im
def gv (nm b:List Str)(x:Str):Str:=g0 (i8 (nm.zip b)) x
def wW (W:p8)(gt:List Str)(fx:List (Str×Str))(nm b:List Str)(x:Str×J2):List Str:=vT W gt fx x.1 (x.2.1,gv nm b x.2.2.1,gv nm b x.2.2.2)
def Ci (a b:Str):Str:=if a.cps.toList<b.cps.toList then b else a
def bY (ts:List (Str×J2))(n:Str):List (Str×J2):=ts.filter λx=>decide (Ci x.2.2.1 x.2.2.2=n)
def zj (ls:List (List Str)):Bool:=ls.all λd=>decide (ls.count d<=d.length)
def X6 (L:Str->Str->Bool)(Pc W:p8)(gp gt:List Str)(fx:List (Str×Str))(nm b:List Str):List Str:=match nm[b.length]? with
 |none=>[]
 |some n=>if n∈Pc.ts.map (·.1) then(wW W gt fx nm b (n,E8 Pc.ts n)).filter (λx=>!decide (x∈b))
  else((uj L gp fx n).filter (λx=>!decide (x∈b))).filter λim=>zj ((bY Pc.ts n).map (wW W gt fx nm (b++[im])))
def ik (img:List Str->List Str):Nat->List Str->List (List Str)
 |0,b=>[b]
 |k+1,b=>(img b).flatMap λx=>ik img k (b++[x])
def di:List (List Str)->List Str->List (List Str)
 |[],b=>[b]
 |c::r,b=>c.flatMap λx=>di r (b++[x])
def JB (img:List Str->List Str)(j:Nat)(row:List Str):Prop:=∀(i:Nat) (x:Str),j<=i->row[i]?=some x->x∈img (row.take i)
theorem gQ:∀{bs:List (List Str)} {b row:List Str},row∈di bs b->∃t,row=b++t/\t.length=bs.length/\∀(i:Nat) (x:Str) (c:List Str),t[i]?=some x->bs[i]?=some c->x∈c
 |[],b,row,h=>by
  rw[Me.mp h];exact⟨[],by simp,rfl,λi x c hx _=>by simp at hx⟩
 |c::r,b,row,h=>by
  obtain⟨x,hx,h'⟩:=List.mem_flatMap.mp h;obtain⟨t,e,hl,hm⟩:=gQ h';refine⟨x::t,by rw[e];simp,by simp [hl],λi y d hy hd=>?_⟩;cases i with
  |zero=>cases hy;cases hd;exact hx
  |succ i=>exact hm i y d hy hd
theorem vy:∀{bs:List (List Str)} {b t:List Str},t.length=bs.length->(∀(i:Nat) (x:Str) (c:List Str),t[i]?=some x->bs[i]?=some c->x∈c)->b++t∈di bs b
 |[],b,[],_,_=>by simp [di]
 |c::r,b,x::t,hl,hm=>by
  refine List.mem_flatMap.mpr ⟨x,hm 0 x c rfl rfl,?_⟩;have z:=vy (bs:=r) (b:=b++[x]) (t:=t) (by simpa using hl) λi y d hy hd=>hm (i+1) y d hy hd;simpa using z
theorem cw {α β:Type}(p:α->Bool)(F:α->List β):∀l:List α,(l.filter p).flatMap F=l.flatMap λx=>if p x=true then F x else []
 |[]=>rfl
 |a::l=>by
  cases e:p a with
  |true=>rw[Mw e,Oe,Oe,if_pos e,cw p F l]
  |false=>rw[MB (by rw[e];decide),Oe,if_neg (by rw[e];decide),cw p F l];rfl
theorem fg {α β:Type}{F G:α->List β}:∀{l:List α},(∀x∈l,F x=G x)->l.flatMap F=l.flatMap G
 |[],_=>rfl
 |a::l,h=>by rw[Oe,Oe,h a LS,fg λx hx=>h x (LY _ hx)]
theorem S0 {α:Type}{p q:α->Bool}:∀{l:List α},(∀x∈l,p x=q x)->l.filter p=l.filter q
 |[],_=>rfl
 |a::l,h=>by
  have z:=S0 (l:=l) λx hx=>h x (LY _ hx);rw[Oq,Oq,h a LS,z]
open Classical in
theorem yT {img:List Str->List Str}:∀{bs:List (List Str)} {b:List Str},(∀(j:Nat) (c:List Str),bs[j]?=some c->∀b':List Str,b'.length=b.length+j->img b'=c.filter λx=>decide (x∈img b'))->
  ik img bs.length b=(di bs b).filter λrow=>decide (JB img b.length row)
 |[],b,_=>by
  show [b]=[b].filter _;rw[Mw (by
   refine Ma λi x hi hx=>?_;rw[MR hi] at hx;cases hx)];rfl
 |c::r,b,h=>by
  show(img b).flatMap (λx=>ik img r.length (b++[x]))=(c.flatMap λx=>di r (b++[x])).filter _;have h0:=h 0 c rfl b (by lia);have hF:∀x,ik img r.length (b++[x])=(di r (b++[x])).filter λrow=>decide (JB img (b++[x]).length row):=λx=>
   yT λj d hd b' hb=>h (j+1) d hd b' (by rw[hb,LJ,Ml];lia)
  rw[List.filter_flatMap,h0,cw];refine fg λx hx=>?_;rw[hF x];by_cases k_:x∈img b
  .rw[if_pos (Ma k_)];refine S0 λrow K'=>?_;obtain⟨t,e,_⟩:=gQ K';rw[My,Mg,Mg];constructor
   .intro ok i y hi hy;by_cases z:i=b.length
    .have e1:row[i]?=some x:=by rw[e,z];simp
     rw[e1] at hy;cases hy;have e2:row.take i=b:=by rw[e,z];simp
     rw[e2];exact k_
    .exact ok i y (by rw[LJ,Ml];lia) hy
   .intro ok i y hi hy;exact ok i y (by rw[LJ,Ml] at hi;lia) hy
  .rw[if_neg (by rw[Mn k_];decide)];refine(Pp.mpr λrow K'=>?_).symm;obtain⟨t,e,_⟩:=gQ K';intro ok;have z:=ME ok b.length x (LC _) (by rw[e];simp);rw[show row.take b.length=b by rw[e];simp] at z;exact k_ z
def rA {c:List Str}{p:Str->Bool}:c.filter p=c.filter λx=>decide (x∈c.filter p):=S0 λx hx=>by
 rw[My,Mg,LW];exact⟨λh=>⟨hx,h⟩,λh=>h.2⟩
theorem vd:∀(nm b:List Str),((nm.zip b).map (·.1)).Sublist nm
 |[],_=> .slnil
 |_::_,[]=>Rj _
 |n::nm,x::b=>(vd nm b).cons_cons n
def oJ {nm:List Str}(b:List Str)(nd:nm.Nodup):((nm.zip b).map (·.1)).Nodup:=nd.sublist (vd nm b)
def oZ {nm b:List Str}{i:Nat}{n x:Str}(h1:nm[i]?=some n)(h2:b[i]?=some x):(n,x)∈nm.zip b:=by
 have z:(nm.zip b)[i]?=some (n,x):=by rw[Qz];exact⟨h1,h2⟩
 exact LV z
def qy {nm b:List Str}{i:Nat}{n x:Str}(nd:nm.Nodup)(h1:nm[i]?=some n)(h2:b[i]?=some x):gv nm b n=x:=G3 (oJ b nd) (oZ h1 h2)
def Bx {nm row:List Str}(nd:nm.Nodup)(hl:row.length=nm.length):nm.map (gv nm row)=row:=by
 refine Tb λi=>?_;rw[LF];by_cases hi:i<nm.length
 .rw[LA hi,LA (show i<row.length by lia)];exact Na some (qy nd (LA hi) (LA (by lia)))
 .rw[MR (by lia),MR (by lia)];rfl
theorem nT:∀{l m:List Str},l.Nodup->(∀x∈l,x∈m)->l.length<=m.length
 |[],m,_,_=>Nd _
 |x::r,m,nd,h=>by
  have nd':=MN.mp nd;have hx:=h x LS;have z:=nT (l:=r) (m:=m.erase x) nd'.2 λy hy=>(List.mem_erase_of_ne (λe:y=x=>nd'.1 (by rw[←e];exact hy))).mpr (h y (LY _ hy));rw[List.length_erase_of_mem hx] at z;have:0<m.length:=List.length_pos_of_mem hx;rw[Mi];lia
theorem ny {α:Type}(f:α->List Str)(d:List Str):∀ts:List α,(ts.map f).count d=(ts.filter λt=>decide (f t=d)).length
 |[]=>rfl
 |t::r=>by
  rw[MG,List.count_cons,ny f d r,Oq];by_cases e:f t=d
  .rw[if_pos (by simpa using e),if_pos (by simpa using e)];rfl
  .rw[if_neg (by simpa using e),if_neg (by simpa using e)];rfl
def DG {α:Type}{ts:List α}{f:α->List Str}{r:α->Str}(hm:∀t∈ts,r t∈f t)(nd:(ts.map r).Nodup):zj (ts.map f)=true:=by
 unfold zj;rw[Mq];intro d hd;rw[Mg,ny];have z:((ts.filter λt=>decide (f t=d)).map r).length<=d.length:=by
  refine nT (nd.sublist (MO.map r)) λx hx=>?_;obtain⟨t,ht,rfl⟩:=LB.mp hx;rw[LW] at ht;rw[←ME ht.2];exact hm t ht.1
 rw[Lz] at z;exact z
def qh (fx:List (Str×Str))(nm row:List Str):Prop:=∀x∈fx,gv nm row x.1=x.2
structure SrchP (L:Str->Str->Bool) (Pc W:p8) (s1 s2 gp gt:List Str) (fx:List (Str×Str)):Prop where
 o:Ordr Pc s1 s2
 o':Ordr W gp gt
 nd:(b4 Pc).Nodup
 nd':(b4 W).Nodup
 ends:∀x∈Pc.ts,x.2.2.1∈Pc.pts.map (·.1)/\x.2.2.2∈Pc.pts.map (·.1)
 fnd:(fx.map (·.1)).Nodup
 fin:∀x∈fx,x.1∈b4 Pc
 ls:∀n x,n∈Pc.pts.map (·.1)->x∈W.pts.map (·.1)->L n x=true->g0 (i8 W.pts) x=g0 (i8 Pc.pts) n
 lc:∀row,FitP Pc W (i8 ((s1++s2).zip row))->∀x∈Pc.pts,L x.1 (gv (s1++s2) row x.1)=true
section
variable {L:Str->Str->Bool} {Pc W:p8} {s1 s2 gp gt:List Str} {fx:List (Str×Str)}
def jm (s1 s2 gp gt:List Str):List (List Str):=List.replicate s1.length gp++List.replicate s2.length gt
def fW:(jm s1 s2 gp gt).length=(s1++s2).length:=by unfold jm;simp
def SrchP.nn (S:SrchP L Pc W s1 s2 gp gt fx):(s1++s2).Nodup:=S.o.perm.nodup_iff.mpr S.nd
def SrchP.is1 (S:SrchP L Pc W s1 s2 gp gt fx){i:Nat}{n:Str}(h:(s1++s2)[i]?=some n):(n∉Pc.ts.map (·.1)/\i<s1.length)\/(n∈Pc.ts.map (·.1)/\s1.length<=i):=by
 by_cases hi:i<s1.length
 .refine .inl ⟨λz=>?_,hi⟩;rw[MF hi] at h;have m1:n∈s1:=LV h;exact(Mm.mp S.nn).2.2 n m1 n (S.o.p2.mem_iff.mpr z) rfl
 .rw[MH (by lia)] at h;exact .inr ⟨S.o.p2.mem_iff.mp (LV h),by lia⟩
def CD {L c:List Str}{p:Str->Bool}(e:L=c.filter p):L=c.filter λx=>decide (x∈L):=by subst e;exact rA
def zp (S:SrchP L Pc W s1 s2 gp gt fx){j:Nat}{c b:List Str}(h:(jm s1 s2 gp gt)[j]?=some c)(hb:b.length=j):X6 L Pc W gp gt fx (s1++s2) b=c.filter λx=>decide (x∈X6 L Pc W gp gt fx (s1++s2) b):=by
 have hj:j<(s1++s2).length:=by
  rw[←fW (gp:=gp) (gt:=gt)];rcases ND j (jm s1 s2 gp gt).length with z|z
  .exact z
  .rw[MR z] at h;cases h
 have hn:(s1++s2)[b.length]?=some ((s1++s2)[j]):=by rw[hb];exact LA hj
 have hc:c=if j<s1.length then gp else gt:=by
  unfold jm at h;by_cases z:j<s1.length
  .rw[MF (by simpa using z),NJ,if_pos z] at h;rw[if_pos z];exact(Mc h).symm
  .rw[MH (by simpa using z),Nk,NJ,if_pos (by rw[LJ] at hj;lia)] at h;rw[if_neg z];exact(Mc h).symm
 obtain⟨p,e⟩:∃p,X6 L Pc W gp gt fx (s1++s2) b=c.filter p:=by
  unfold X6;rw[hn];dsimp only;rcases S.is1 (i:=j) (LA hj) with⟨h1,h2⟩|⟨h1,h2⟩
  .rw[if_neg h1,hc,if_pos h2];unfold uj;rw[OA,OA,OA];exact⟨_,rfl⟩
  .rw[if_pos h1,hc,if_neg (by lia)];unfold wW vT;rw[OA];exact⟨_,rfl⟩
 exact CD e
def kz {n:Str}{l:List Str}(h:n∈l):∃i:Nat,l[i]?=some n:=Nw h
def SrchP.pt_idx (S:SrchP L Pc W s1 s2 gp gt fx){n:Str}(h:n∈Pc.pts.map (·.1)):∃i:Nat,i<s1.length/\(s1++s2)[i]?=some n:=by
 obtain⟨i,hi⟩:=kz (S.o.p1.mem_iff.mpr h);have hl:i<s1.length:=by
  rcases ND i s1.length with z|z
  .exact z
  .rw[MR z] at hi;cases hi
 exact⟨i,hl,by rw[MF hl];exact hi⟩
def jD {nm row:List Str}{i j:Nat}{n:Str}(nd:nm.Nodup)(hl:row.length=nm.length)(h:nm[i]?=some n)(Zd:i<j):gv nm (row.take j) n=gv nm row n:=by
 have hi:i<nm.length:=by
  rcases ND i nm.length with z|z
  .exact z
  .rw[MR z] at h;cases h
 have h2:row[i]?=some row[i]:=LA (by lia);rw[qy nd h h2,qy nd h (b:=row.take j) (x:=row[i]) (by rw[Pk,if_pos Zd];exact h2)]
def Gb {n x:Str}{nm row:List Str}(fnd:(fx.map (·.1)).Nodup)(d:qh fx nm row)(inj:∀y∈fx,gv nm row y.1=gv nm row n->y.1=n)(e:gv nm row n=x):Q4 fx n x=true:=by
 unfold Q4;split
 .next h=>
  obtain⟨y,hy,rfl⟩:=LB.mp h;rw[G3 fnd (show(y.1,y.2)∈fx from hy),←e];exact Ma (d y hy)
 .next h=>
  have z:x∉fx.map (·.2):=λz=>by
   obtain⟨y,hy,ey⟩:=LB.mp z;have z1:=d y hy;rw[ey,←e] at z1;exact h (by rw[←inj y hy z1];exact LB.mpr ⟨y,hy,rfl⟩)
  simpa using z
def HX {pts:List (Str×Str)}{g:List Str}{x kd:Str}(nd:(pts.map (·.1)).Nodup)(p:g.Perm (pts.map (·.1)))(h:x∈g)(hk:g0 (i8 pts) x=kd):(x,kd)∈pts:=by
 obtain⟨y,hy,rfl⟩:=LB.mp (p.mem_iff.mp h);rw[G3 nd (show(y.1,y.2)∈pts from hy)] at hk;rw[←hk];exact hy
def yR {Q:p8}{kvm:List (i6×V)}{x y:Str}(nd:((b4 Q).map (g0 kvm)).Nodup)(hx:x∈b4 Q)(hy:y∈b4 Q)(e:g0 kvm x=g0 kvm y):x=y:=by
 obtain⟨i,hi⟩:=kz hx;obtain⟨j,hj⟩:=kz hy;have e1:((b4 Q).map (g0 kvm))[i]?=some (g0 kvm x):=by rw[LF,hi];rfl
 have e2:((b4 Q).map (g0 kvm))[j]?=some (g0 kvm x):=by rw[LF,hj,e];rfl
 have li:i<((b4 Q).map (g0 kvm)).length:=by
  rcases ND i ((b4 Q).map (g0 kvm)).length with z|z
  .exact z
  .rw[MR z] at e1;cases e1
 have z:=(Tc li nd).mp (e1.trans e2.symm);rw[z,hj] at hi;exact(Mc hi).symm
def jJ (S:SrchP L Pc W s1 s2 gp gt fx){i:Nat}{e:Str}(hi:i<s1.length)(he:e∈Pc.pts.map (·.1))(hle:¬(s1[i].cps.toList<e.cps.toList)):∃j:Nat,j<=i/\(s1++s2)[j]?=some e:=by
 obtain⟨j,hj,Ze⟩:=S.pt_idx he;refine⟨j,?_,Ze⟩;rcases ND i j with z|z
 .exfalso;have nd1:s1.Nodup:=(Mm.mp S.nn).1;have pw:=aR (dD S.o.o1 nd1);have w:=OP.mp pw i j hi hj z;rw[MF hj,LA hj] at Ze;rw[Mc Ze] at w;exact hle w
 .exact z
end
section
variable {L:Str->Str->Bool} {Pc W:p8} {s1 s2 gp gt:List Str} {fx:List (Str×Str)}
def Fn {j:Nat}{c:List Str}(h:(jm s1 s2 gp gt)[j]?=some c):(j<s1.length/\c=gp)\/(s1.length<=j/\c=gt):=by
 unfold jm at h;by_cases z:j<s1.length
 .rw[MF (by simpa using z),NJ,if_pos z] at h;exact .inl ⟨z,(Mc h).symm⟩
 .rw[MH (by simpa using z),Nk,NJ] at h;split at h
  .exact .inr ⟨by lia,(Mc h).symm⟩
  .cases h
def dF {α:Type}{l:List α}{i:Nat}{x:α}(h:l[i]?=some x):i<l.length:=by
 rcases ND i l.length with z|z
 .exact z
 .rw[MR z] at h;cases h
def mem_ch {n x:Str}:x∈uj L gp fx n↔x∈gp/\L n x=true/\Q4 fx n x=true:=by
 unfold uj;rw[LW,LW,and_assoc]
def mem_pl {n x:Str}{t:J2}:x∈vT W gt fx n t↔x∈gt/\E8 W.ts x=t/\Q4 fx n x=true:=by
 unfold vT;rw[LW,Mp,Mg]
def Ej (S:SrchP L Pc W s1 s2 gp gt fx){row:List Str}(hl:row.length=(s1++s2).length)(ok:JB (X6 L Pc W gp gt fx (s1++s2)) 0 row):FitP Pc W (i8 ((s1++s2).zip row))/\qh fx (s1++s2) row:=by
 have nn:=S.nn;have key:∀(i:Nat) (n x:Str),(s1++s2)[i]?=some n->row[i]?=some x->x∉row.take i/\Q4 fx n x=true/\(n∉Pc.ts.map (·.1)->(x,g0 (i8 Pc.pts) n)∈W.pts)/\(n∈Pc.ts.map (·.1)->(x,((E8 Pc.ts n).1,gv (s1++s2) row (E8 Pc.ts n).2.1,gv (s1++s2) row (E8 Pc.ts n).2.2))∈W.ts):=by
  intro i n x hn hx;have Zf:=dF hn;have h0:=ok i x (Nd _) hx;have j':(row.take i).length=i:=by rw[LM];lia
  unfold X6 at h0;rw[j',hn] at h0;dsimp only at h0;rcases S.is1 hn with⟨h1,h2⟩|⟨h1,h2⟩
  .rw[if_neg h1,LW,LW,mem_ch] at h0;refine⟨by simpa using h0.1.2,h0.1.1.2.2,λ_=>HX (D0 S.nd') S.o'.p1 h0.1.1.1 (S.ls n x ((LO.mp (S.o.mem.mp (LV hn))).resolve_right h1) (S.o'.p1.mem_iff.mp h0.1.1.1) h0.1.1.2.1),λz=>absurd z h1⟩
  .rw[if_pos h1,LW] at h0;have hm:=mem_pl.mp (show x∈vT W gt fx n _ from h0.1);refine⟨by simpa using h0.2,hm.2.2,λz=>absurd h1 z,λ_=>?_⟩;have k_:=cZ h1;have he:=S.ends _ k_;obtain⟨j1,hj1,TY⟩:=S.pt_idx he.1;obtain⟨j2,hj2,Vh⟩:=S.pt_idx he.2;have e1:=jD (j:=i) nn hl TY (by lia);have e2:=jD (j:=i) nn hl Vh (by lia);have z:=cZ (S.o'.p2.mem_iff.mp hm.1);rw[hm.2.1] at z;dsimp only at z e1 e2;rw[e1,e2] at z;exact z
 have Zg:row.Nodup:=by
  refine OP.mpr λi j hi hj Zd e=>?_;have z:=(key j ((s1++s2)[j]'(by lia)) row[j] (LA (by lia)) (LA hj)).1;refine z (LV (i:=i) ?_);rw[Pk,if_pos Zd,LA hi,e]
 have XH:∀n∈s1++s2,∃(i:Nat) (x:Str),(s1++s2)[i]?=some n/\row[i]?=some x/\gv (s1++s2) row n=x:=λn hn=>by
  obtain⟨i,hi⟩:=kz hn;have Zf:=dF hi;exact⟨i,row[i],hi,LA (by lia),qy nn hi (LA (by lia))⟩
 refine⟨⟨?_,λn hn=>?_,?_,λx hx=>?_,λx hx=>?_⟩,λx hx=>?_⟩
 .rw[p0,Pj,←S.o.len];lia
 .obtain⟨i,x,h1,h2,_⟩:=XH n (S.o.mem.mpr hn);exact⟨x,du (oJ row nn) (oZ h1 h2)⟩
 .have e:=Bx nn hl;exact((S.o.perm.map (gv (s1++s2) row)).nodup_iff).mp (by rw[e];exact Zg)
 .have hm:x.1∈b4 Pc:=LH _ (LB.mpr ⟨x,hx,rfl⟩);obtain⟨i,y,h1,h2,h3⟩:=XH x.1 (S.o.mem.mpr hm);have l_:x.1∉Pc.ts.map (·.1):=λz=>(Mm.mp S.nd).2.2 x.1 (LB.mpr ⟨x,hx,rfl⟩) x.1 z rfl;have z:=(key i x.1 y h1 h2).2.2.1 l_;rw[G3 (D0 S.nd) (show(x.1,x.2)∈Pc.pts from hx)] at z;rw[show g0 (i8 ((s1++s2).zip row)) x.1=y from h3];exact z
 .have hm:x.1∈Pc.ts.map (·.1):=LB.mpr ⟨x,hx,rfl⟩;obtain⟨i,y,h1,h2,h3⟩:=XH x.1 (S.o.mem.mpr (LP _ hm));have z:=(key i x.1 y h1 h2).2.2.2 hm;rw[ig (L9 S.nd) (show(x.1,x.2)∈Pc.ts from hx)] at z;rw[show g0 (i8 ((s1++s2).zip row)) x.1=y from h3];exact z
 .obtain⟨i,y,h1,h2,h3⟩:=XH x.1 (S.o.mem.mpr (S.fin x hx));have z:=(key i x.1 y h1 h2).2.1;unfold Q4 at z;rw[if_pos (LB.mpr ⟨x,hx,rfl⟩),G3 S.fnd (show(x.1,x.2)∈fx from hx)] at z;rw[h3];exact ME z
def vE (S:SrchP L Pc W s1 s2 gp gt fx){row:List Str}(f:FitP Pc W (i8 ((s1++s2).zip row)))(d:qh fx (s1++s2) row){n:Str}(hn:n∈b4 Pc):Q4 fx n (gv (s1++s2) row n)=true:=
 Gb S.fnd d (λy hy e=>yR f.nd (S.fin y hy) hn e) rfl
def yZ (S:SrchP L Pc W s1 s2 gp gt fx){row:List Str}(f:FitP Pc W (i8 ((s1++s2).zip row)))(d:qh fx (s1++s2) row){x:Str×Str}(hx:x∈Pc.pts):gv (s1++s2) row x.1∈uj L gp fx x.1:=by
 have z:=f.pts x hx;exact mem_ch.mpr ⟨S.o'.p1.mem_iff.mpr (LB.mpr ⟨_,z,rfl⟩),S.lc row f x hx,vE S f d (LH _ (LB.mpr ⟨x,hx,rfl⟩))⟩
def Ax (S:SrchP L Pc W s1 s2 gp gt fx){row:List Str}(f:FitP Pc W (i8 ((s1++s2).zip row)))(d:qh fx (s1++s2) row){x:Str×J2}(hx:x∈Pc.ts):gv (s1++s2) row x.1∈wW W gt fx (s1++s2) row x:=by
 have z:=f.ts x hx;exact mem_pl.mpr ⟨S.o'.p2.mem_iff.mpr (LB.mpr ⟨_,z,rfl⟩),ig (L9 S.nd') z,vE S f d (LP _ (LB.mpr ⟨x,hx,rfl⟩))⟩
def Fp (S:SrchP L Pc W s1 s2 gp gt fx){row:List Str}(f:FitP Pc W (i8 ((s1++s2).zip row)))(d:qh fx (s1++s2) row):zj (Pc.pts.map λx=>uj L gp fx x.1)=true:=by
 refine DG (r:=λx=>gv (s1++s2) row x.1) (λx hx=>yZ S f d hx) ?_;have z:=f.nd;unfold b4 at z;rw[LK,Mo] at z;exact(Mm.mp z).1
def uR (S:SrchP L Pc W s1 s2 gp gt fx){row:List Str}(hl:row.length=(s1++s2).length){i:Nat}{x:Str×J2}(h1:∃j:Nat,j<i/\(s1++s2)[j]?=some x.2.2.1)(h2:∃j:Nat,j<i/\(s1++s2)[j]?=some x.2.2.2):wW W gt fx (s1++s2) (row.take i) x=wW W gt fx (s1++s2) row x:=by
 obtain⟨j1,a1,b1⟩:=h1;obtain⟨j2,a2,b2⟩:=h2;unfold wW;rw[jD S.nn hl b1 a1,jD S.nn hl b2 a2]
def DX (S:SrchP L Pc W s1 s2 gp gt fx){row:List Str}(hl:row.length=(s1++s2).length)(f:FitP Pc W (i8 ((s1++s2).zip row)))(d:qh fx (s1++s2) row):JB (X6 L Pc W gp gt fx (s1++s2)) 0 row:=by
 have nn:=S.nn;have e:=Bx nn hl;have Zg:row.Nodup:=by
  rw[←e];exact((S.o.perm.map (gv (s1++s2) row)).nodup_iff).mpr f.nd
 intro i x _ hx;have Zf:=dF hx;have hn:(s1++s2)[i]?=some ((s1++s2)[i]'(by lia)):=LA (by lia);generalize (s1++s2)[i]'(by lia)=n at hn;have hg:gv (s1++s2) row n=x:=qy nn hn hx;have j':(row.take i).length=i:=by rw[LM];lia
 have VH:x∉row.take i:=λz=>by
  obtain⟨j,hj⟩:=kz z;rw[Pk] at hj;split at hj
  .next hji=>
   have z2:=(Tc (dF hj) Zg).mp (hj.trans hx.symm);lia
  .cases hj
 unfold X6;rw[j',hn];dsimp only;rcases S.is1 hn with⟨h1,h2⟩|⟨h1,h2⟩
 .rw[if_neg h1];have hm:n∈Pc.pts.map (·.1):=by
   rcases LO.mp (S.o.mem.mp (LV hn)) with z|z
   .exact z
   .exact absurd z h1
  obtain⟨y,hy,ey⟩:=LB.mp hm;have hc:=yZ S f d hy;rw[ey,hg] at hc;refine LW.mpr ⟨LW.mpr ⟨hc,by simpa using VH⟩,?_⟩;have et:row.take i++[x]=row.take (i+1):=by rw[Mt,hx];rfl
  rw[et];have Vj:s1[i]=n:=by
   rw[MF h2,LA h2] at hn;exact Mc hn
  refine DG (r:=λt=>gv (s1++s2) row t.1) (λt ht=>?_) ?_
  .unfold bY at ht;rw[LW,Mg] at ht;have he:=S.ends t ht.1;have m1:¬(s1[i].cps.toList<t.2.2.1.cps.toList):=by
    rw[Vj,←ht.2];unfold Ci;split
    .next z=>exact PZ z
    .exact Pz _
   have m2:¬(s1[i].cps.toList<t.2.2.2.cps.toList):=by
    rw[Vj,←ht.2];unfold Ci;split
    .exact Pz _
    .next z=>exact z
   obtain⟨j1,a1,b1⟩:=jJ S h2 he.1 m1;obtain⟨j2,a2,b2⟩:=jJ S h2 he.2 m2;rw[uR S hl ⟨j1,by lia,b1⟩ ⟨j2,by lia,b2⟩];exact Ax S f d ht.1
  .have z:=f.nd;unfold b4 at z;rw[LK,Mo,Mo] at z;exact((Mm.mp z).2.1).sublist (MO.map _)
 .rw[if_pos h1];have k_:=cZ h1;have he:=S.ends _ k_;obtain⟨j1,hj1,TY⟩:=S.pt_idx he.1;obtain⟨j2,hj2,Vh⟩:=S.pt_idx he.2;have hp:=Ax S f d k_;rw[←uR S hl (i:=i) ⟨j1,by lia,TY⟩ ⟨j2,by lia,Vh⟩] at hp;refine LW.mpr ⟨?_,by simpa using VH⟩;have hg':gv (s1++s2) row (n,E8 Pc.ts n).1=x:=hg;rw[hg'] at hp;exact hp
open Classical in
noncomputable def jd (Pc W:p8)(s1 s2 gp gt:List Str)(fx:List (Str×Str)):List (List Str):=(di (jm s1 s2 gp gt) []).filter λrow=>decide (FitP Pc W (i8 ((s1++s2).zip row))/\qh fx (s1++s2) row)
def qF {row:List Str}(h:row∈di (jm s1 s2 gp gt) []):row.length=(s1++s2).length:=by
 obtain⟨t,e,hl,_⟩:=gQ h;rw[e,Qf,hl,fW]
open Classical in
def Bu (S:SrchP L Pc W s1 s2 gp gt fx):ik (X6 L Pc W gp gt fx (s1++s2)) (s1++s2).length []=jd Pc W s1 s2 gp gt fx:=by
 rw[←fW (gp:=gp) (gt:=gt),yT λj c hc b' hb=>zp S hc (by rw[hb];simp)];unfold jd;refine S0 λrow K'=>?_;have hl:=qF K';rw[My,Mg,Mg];exact⟨λok=>Ej S hl ok,λh=>DX S hl h.1 h.2⟩
open Classical in
def xK (S:SrchP L Pc W s1 s2 gp gt fx)(h:zj (Pc.pts.map λx=>uj L gp fx x.1)=false):jd Pc W s1 s2 gp gt fx=[]:=by
 unfold jd;refine Pp.mpr λrow _ z=>?_;have z:=ME z;rw[Fp S z.1 z.2] at h;cases h
end
def nF (K:Za):Sp:=λvs H Q _=>∃(d:Addr) (n im:Str) (fx:List (Str×Str)),vs=[.str n,.str im,.ref d]/\H d=some (.dK (i8 fx))/\∀H',Same H H'->Q (.bl (Q4 fx n im)) H'
def qL {pts:List (Str×Str)}{n:Str}(h:n∈pts.map (·.1)):k9 (i8 pts) (Sum.inr n:i6)=some (.str (g0 (i8 pts) n)):=by
 cases e:k9 (i8 pts) (Sum.inr n:i6) with
 |none=>have z:=N7 (pts:=pts) (n:=n);rw[e,Ma h] at z;cases z
 |some v=>
  obtain⟨k',rfl,_⟩:=pW e
  rw[fR e]
def Bq {pts:List (Str×Str)}:(i8 pts).map (·.2)=(pts.map (·.2)).map V.str:=by unfold i8;rw[Mo,Mo];rfl
abbrev lG:=λP w K mg base=>K3 P w K mg base A9 1 "may_be" ["name","image","fixed"] [] (nF K)
def xr {f fd}(T:Txt K mg)(F:Fun K "may_be" "may_be" kJ f fd):x8 P w K mg base A9 1 f fd ["name","image","fixed"] (nF K):=by
 walk_at "#sc_may_be"
 .obtain⟨d,n,im,fx,rfl,_⟩:=h;rfl
 .obtain⟨d,n,im,fx,rfl,hd,k⟩:=h;walk_at "@sc_may_be 9ucI0002s8CS01b200f8CY01w~0|{2`*~8~7~602s"
  symm;refine U1 (O8 (k:=Sum.inr n) (.inl hd)) ?_;rw[N7];symm;refine M4 (λh1=>?_) (λh1=>?_)
  .symm;refine C3 (v:= .str (g0 (i8 fx) n)) (by have z:=O8 (k:=Sum.inr n) (.inl hd);rw[qL h1] at z;exact z) ?_;symm;have e:Q4 fx n im=decide (im=g0 (i8 fx) n):=by unfold Q4;rw[if_pos h1]
   rw[←e];exact k H (Same.refl H)
  .symm;refine⟨.inr (.inr (.inl ⟨rfl,.inl ⟨_,hd⟩⟩)),?_⟩;symm;refine⟨d,_,rfl,rfl,.inl hd,λv1 n1=>?_⟩;obtain⟨H1,e1,f1,m1,_⟩:=b0 (o:= .ext (iI v1 d)) n1;rw[e1];symm;refine Z9 f1 (.inl (m1 _ _ hd)) (λl2 n2=>?_);obtain⟨H2,e2,f2,m2,_⟩:=b0 (o:= .lst _) n2;rw[e2];refine R8 (gs:=fx.map (·.2)) (SqL.of (by rw[f2,Bq])) ?_;have e:Q4 fx n im=!decide (im∈fx.map (·.2)):=by unfold Q4;rw[if_neg h1]
   rw[←e];exact k H2 (m1.trans m2)
def LstAt (H:Hp)(v:V)(l:List Str):Prop:=∃a,v= .ref a/\H a=some (.lst (l.map V.str))
def LstAt.same {H H':Hp}{v:V}{l:List Str}(h:LstAt H v l)(s:Same H H'):LstAt H' v l:=let ⟨a,e,z⟩:=h;⟨a,e,s _ _ z⟩
def ChAt (H:Hp)(F:Str×Str->List Str)(kvs:List (i6×V))(pts:List (Str×Str)):Prop:=Paired (λkv x=>kv.1=Sum.inr x.1/\LstAt H kv.2 (F x)) kvs pts
def ChAt.same {H H':Hp}{F:Str×Str->List Str}{kvs:List (i6×V)}{pts:List (Str×Str)}(h:ChAt H F kvs pts)(s:Same H H'):ChAt H' F kvs pts:=Paired.imp' (λ_ _ z=>⟨z.1,z.2.same s⟩) h
theorem ChAt.keys {H:Hp}{F:Str×Str->List Str}:∀{kvs:List (i6×V)} {pts:List (Str×Str)},ChAt H F kvs pts->kvs.map (·.1)=(pts.map (·.1)).map Sum.inr
 |_,_,.nil=>rfl
 |_,_,.cons a t=>by rw[MG,a.1,ChAt.keys t];rfl
def xu {p:Str->Bool}{s:List Str}{i:Nat}{x:Str}(h:s[i]?=some x)(hp:p x=true):(s.take (i+1)).filter p=(s.take i).filter p++[x]:=by
 rw[Mt,h,Mz];show _++List.filter p [x]=_;rw[Mw hp];rfl
def uI {p:Str->Bool}{s:List Str}{i:Nat}{x:Str}(h:s[i]?=some x)(hp:p x=false):(s.take (i+1)).filter p=(s.take i).filter p:=by
 rw[Mt,h,Mz];show _++List.filter p [x]=_;rw[MB (by rw[hp];decide)];simp
def iA {p:Str->Bool}{s:List Str}{i:Nat}:((s.take i).filter p).length<=s.length:=Mb (LQ _ _) (by rw[LM];lia)
def N8 {p b:Addr}{o:Obj}{kvs:List (i6×V)}{H:Hp}(h:b≠p):E6 p o kvs H b=H b:=b7 h
def EY {p:Addr}{o:Obj}{kvs:List (i6×V)}{H:Hp}:E6 p o kvs H p=some (.frz o (.dK kvs)):=d8
def gx {p:Addr}{o:Obj}{kvs:List (i6×V)}{H H1:Hp}(s:Same H H1):Same (E6 p o kvs H) (E6 p o kvs H1):=λb u hb=>by
 by_cases z:b=p
 .rw[z,EY] at hb⊢;exact hb
 .rw[N8 z] at hb⊢;exact s _ _ hb
def CJ {kvs:List (i6×V)}{pp:List (Str×Str)}{i:Nat}{kv:i6×V}(h:kvs.map (·.1)=(pp.map (·.1)).map Sum.inr)(e:kvs[i]?=some kv):∃x,pp[i]?=some x/\kv.1=Sum.inr x.1:=by
 have z:(kvs.map (·.1))[i]?=some kv.1:=by rw[LF,e];rfl
 rw[h,LF,LF] at z;cases e2:pp[i]? with
 |none=>rw[e2] at z;cases z
 |some x=>rw[e2] at z;exact⟨x,rfl,(Mc z).symm⟩
def CH {kvs:List (i6×V)}{k:i6}(h:k∈kvs.map (·.1)):∃u,k9 kvs k=some u:=by
 induction kvs with
 |nil=>cases h
 |cons p r ih=>
  by_cases e:p.1=k
  .exact⟨p.2,C4 e⟩
  .rw[C2 e]
   exact ih ((Mr.mp h).resolve_left λz=>e z.symm)
def aW (K:Za):Sp:=λvs H Q _=>∃(p g d:Addr) (e_ z_:List (i6×V)) (pp gg fx:List (Str×Str)) (L:Str->Str->Bool) (gp:List Str),vs=[.ref p,.ref g,.ref d]/\H p=some (.dK e_)/\e_.map (·.1)=(pp.map (·.1)).map Sum.inr/\(pp.map (·.1)).Nodup/\pp.length<=60/\Rd H g (.dK z_)/\z_.map (·.1)=(gg.map (·.1)).map Sum.inr/\(gg.map (·.1)).Nodup/\gg.length<=60/\gp.Perm (gg.map (·.1))/\sortedS gp=true/\
 (∀(n:Str) (v:V) (m:Str) (u:V),(Sum.inr n,v)∈e_->k9 z_ (Sum.inr m:i6)=some u->EqA K H u v (L n m))/\H d=some (.dK (i8 fx))/\d≠p/\
 ∀(c:Addr) (H':Hp) (kvs:List (i6×V)),H c=none->Same H H'->H' c=some (.dK kvs)->ChAt H' (λx=>uj L gp fx x.1) kvs pp->Q (.ref c) H'
abbrev bS:=λP w K mg base=>K3 P w K mg base A9 2 "point_choices" ["piece_looks","web_looks","fixed"] [] (aW K)
def iO {f fd}(T:Txt K mg)(aP:lG P w K mg base)(F:Fun K "point_choices" "point_choices" V1 f fd):x8 P w K mg base A9 2 f fd ["piece_looks","web_looks","fixed"] (aW K):=by
 walk_at "#sc_point_choices"
 .obtain⟨p,g,d,e_,z_,pp,gg,fx,L,gp,rfl,_⟩:=h;rfl
 .obtain⟨p,g,d,e_,z_,pp,gg,fx,L,gp,rfl,hp,hkp,npp,lpp,hg,hkg,ngg,lgg,pgp,ogp,hEq,hd,Vk,k⟩:=h;have lkp:e_.length=pp.length:=by have z:=Na List.length hkp;rwa [Lz,Lz,Lz] at z
  have ngp:gp.Nodup:=pgp.nodup_iff.mpr ngg;have Zh:gp.length<=60:=by rw[pgp.length_eq,Lz];exact lgg
  walk_at "@sc_point_choices 53#9yB,00Eo4o59?6image;51;kq;(&71vd0image,look,web_looks;vJc'2HP X~gb20001fv00hZmimage;42;k06d0image,name,fixed;J+3'0aP 61e0200304803"
  symm;intro c nc;obtain⟨H1,e1,f1,m1,_⟩:=b0 (o:= .dK []) nc;rw[e1];symm;have SQ:=m1 _ _ hp;have Zi:c≠p:=(d9 hp nc).symm;refine E5 SQ (λT' o1=>?_);refine K5 (n:=e_.length) (λi σ H'=>∃(kvs:List (i6×V)) (v1 v2 v3:Option V),σ=[some (.ref p),some (.ref g),some (.ref d),some (.ref c),v1,v2,v3]/\Same (E6 p o1 e_ H) H'/\H' c=some (.dK kvs)/\ChAt H' (λx=>uj L gp fx x.1) kvs (pp.take i)) ⟨[],none,none,none,rfl,?_,?_,.nil⟩ (λi σ H' hi hp=>?_) ?_ ?_
  .exact gx m1
  .rw[N8 Zi];exact f1
  .obtain⟨_,_,_,_,_,s,_⟩:=hp;exact⟨s _ _ d8,hi⟩
  .rintro bk i v σ H2' H2 hi ⟨kvs,v1,v2,v3,rfl,s2,Ti,ch2⟩ ⟨t,kv,h_,nt,rfl,rfl⟩ _ _;obtain⟨x,hx,ex⟩:=CJ hkp h_;obtain⟨kk,look⟩:=kv;have Tf:kk=Sum.inr x.1:=ex;subst Tf;have Uo:=LV h_;obtain⟨H3,e3,f3,m3,_⟩:=b0 (o:= .tup _) nt;rw[e3];have s3:=s2.trans m3;have hg3:Rd H3 g (.dK z_):=((R7 hp).trans s3.le) _ _ rfl hg;have WH:H3 d=some (.dK (i8 fx)):=s3 _ _ (by rw[N8 Vk];exact hd);refine N5 (SqT.of f3) rfl ?_;symm;refine E3 (ss:=gg.map (·.1)) hg3 hkg (by rw[Lz];lia) (λg1 a1 a2 l4 n4=>?_);have eg:g1=gp:=F5 a2 ogp (a1.nodup_iff.mpr ngg) (a1.trans pgp.symm);subst eg;obtain⟨H4,e4,f4,m4,_⟩:=b0 (o:= .lst _) n4;rw[e4];refine k8 (SqL.of f4) ?_;refine j9 (n:=g1.length) (λi out H'=>H'=H4/\out=((g1.take i).filter λim=>L x.1 im).map V.str) ⟨rfl,rfl⟩ (λi out H' hi hp=>⟨g1.map V.str,.str (g1[i]),SqL.of (by rw[hp.1];exact f4),by rw[LF,LA hi];rfl⟩) ?_ ?_
   .rintro N j v out H5 H5' hj ⟨rfl,rfl⟩ y hN';obtain⟨rfl,hy⟩:=Itl.get y (SqL.of f4);rw[LF] at hy;obtain⟨im,TF,rfl⟩:=MD.mp hy;have k_:im∈gg.map (·.1):=a1.mem_iff.mp (LV TF);symm;refine⟨rfl,?_⟩;symm;obtain⟨u,hu⟩:=CH (kvs:=z_) (k:=Sum.inr im) (by rw[hkg];exact LB.mpr ⟨im,k_,rfl⟩);refine C3 (v:=u) (by have z:=O8 (k:=Sum.inr im) (m4.rd hg3);rw[hu] at z;exact z) ?_;symm;refine Hr (((hEq x.1 look im u Uo hu).mono (R7 hp)).mono (s3.trans m4).le) ?_;symm;refine Q0 (λh1=>?_) (λh1=>?_)
    .symm;refine⟨b5 (by rw[Lz];have:=iA (p:=λim=>L x.1 im) (s:=g1) (i:=j);lia),hN' _ _ ⟨rfl,?_⟩⟩;rw[xu TF h1,LK];rfl
    .exact hN' _ _ ⟨rfl,by rw[uI TF h1]⟩
   .rintro out H5 ⟨rfl,rfl⟩;refine⟨⟨_,SqL.of f4,by rw[Lz];exact LC _⟩,λD hD=>⟨b5 (by rw[Lz];have:=iA (p:=λim=>L x.1 im) (s:=g1) (i:=g1.length);lia),?_⟩⟩;rw[LN (LC _)];obtain⟨H6,e6,f6,m6,_⟩:=b0 (H:=H5) (o:= .lst ((g1.filter λim=>L x.1 im).map V.str)) hD;generalize WI:(g1.filter λim=>L x.1 im)=al at e6 f6⊢;have o_:al.length<=60:=by rw[←WI];exact Mb (LQ _ _) Zh
    change O5 _ _ _ (upd H5 D _) _;rw[e6];symm;refine k8 (SqL.of f6) ?_;refine j9 (n:=al.length) (λi out H'=>Same H6 H'/\out=((al.take i).filter (Q4 fx x.1)).map V.str) ⟨Same.refl _,rfl⟩ (λi out H' hi hp=>⟨_,.str (al[i]),SqL.of (hp.1 _ _ f6),by rw[LF,LA hi];rfl⟩) ?_ ?_
    .rintro N j v out H7 H7' hj ⟨s7,rfl⟩ y hN';obtain⟨rfl,hy⟩:=Itl.get y (SqL.of (s7 _ _ f6));rw[LF] at hy;obtain⟨im,TF,rfl⟩:=MD.mp hy;symm;refine⟨rfl,?_⟩;symm;refine⟨d,x.1,im,fx,rfl,s7 _ _ (m6 _ _ (m4 _ _ WH)),λH8 m8=>?_⟩;symm;refine Q0 (λh1=>?_) (λh1=>?_)
     .symm;refine⟨b5 (by rw[Lz];have:=iA (p:=Q4 fx x.1) (s:=al) (i:=j);lia),hN' _ _ ⟨s7.trans m8,?_⟩⟩;rw[xu TF h1,LK];rfl
     .exact hN' _ _ ⟨s7.trans m8,by rw[uI TF h1]⟩
    .rintro out H7 ⟨s7,rfl⟩;refine⟨⟨_,SqL.of (s7 _ _ f6),by rw[Lz];exact LC _⟩,λD2 hD2=>⟨b5 (by rw[Lz];have:=iA (p:=Q4 fx x.1) (s:=al) (i:=al.length);lia),?_⟩⟩;rw[LN (LC _)];obtain⟨H8,e8,f8,m8,_⟩:=b0 (H:=H7) (o:= .lst ((al.filter (Q4 fx x.1)).map V.str)) hD2;have Zj:=m4.trans (m6.trans (s7.trans m8));change BL _ _ (upd H7 D2 _) _;rw[e8];have hc8:H8 c=some (.dK kvs):=Zj _ _ (m3 _ _ Ti);have Zk:=Mj ch2;rw[LM] at Zk;symm;refine dw (E7 (k:=Sum.inr x.1) hc8 (b5 (by lia)) ?_);have fr:x.1∉(pp.take i).map (·.1):=λz=>by
      have e7:pp.take (i+1)=pp.take i++[x]:=by rw[Mt,hx];rfl
      have w:((pp.take (i+1)).map (·.1)).Nodup:=npp.sublist ((NA _ _).map _);rw[e7,LK] at w;exact(Mm.mp w).2.2 x.1 z x.1 (by simp) rfl
     have ek:E1 kvs (Sum.inr x.1:i6) (.ref D2)=kvs++[(Sum.inr x.1,.ref D2)]:=K1 _ (F8 (by rw[ch2.keys];exact λm=>fr (T7 m)));have Zl:(E6 p o1 e_ H) c=none:=by rw[N8 Zi];exact nc
     have cUp:∀{v:V} {l:List Str},LstAt H8 v l->LstAt (upd H8 c (.dK (kvs++[(Sum.inr x.1,V.ref D2)]))) v l:=fun{v l} ⟨a,ea,z⟩=>⟨a,ea,by rw[b7 (λq=>by rw[q,hc8] at z;cases z)];exact z⟩
     walk_at "X";refine⟨kvs++[(Sum.inr x.1,.ref D2)],_,_,_,rfl,E9 (s3.trans Zj) Zl,by rw[d8,ek],?_⟩;rw[ek,show pp.take (i+1)=pp.take i++[x] by rw[Mt,hx];rfl];refine w4 (Paired.imp' (λ_ _ z=>⟨z.1,cUp (z.2.same (m3.trans Zj))⟩) ch2) ⟨rfl,cUp ⟨D2,rfl,?_⟩⟩;rw[f8];show _=some (HO.lst ((uj L g1 fx x.1).map V.str));unfold uj;rw[show(List.filter (L x.1) g1)=al from WI]
  .rintro σ H2 ⟨kvs,v1,v2,v3,rfl,s2,Ti,ch2⟩;refine⟨⟨s2 _ _ d8,LC _⟩,?_⟩;symm;have Zm:thaw p H2 c=some (.dK kvs):=by rw[N3 Zi];exact Ti
   rw[LN (by rw[lkp];exact LC _)] at ch2;refine k c _ kvs nc (Same.thaw hp s2) Zm (Paired.imp' (λkv x z=>⟨z.1,?_⟩) ch2);obtain⟨a,ea,za⟩:=z.2;have hap:a≠p:=λq=>by rw[q,s2 _ _ d8] at za;cases za
   exact⟨a,ea,by rw[N3 hap];exact za⟩
abbrev k2 (a b:Str):List i6:=[Sum.inr a,Sum.inr b]
structure TH (HB H:Hp) (t:Addr) (kvs:List (List i6×V)) (F:Str->Str->List Str):Prop where
 at_:H t=some (.dT kvs)
 no:∀a b,k9 kvs (k2 a b)=none->F a b=[]
 so:∀a b v,k9 kvs (k2 a b)=some v->∃l,v= .ref l/\H l=some (.lst ((F a b).map V.str))/\HB l=none
 inj:∀a b a' b' v,k9 kvs (k2 a b)=some v->k9 kvs (k2 a' b')=some v->a=a'/\b=b'
def TH.same {HB H H2:Hp}{t:Addr}{kvs:List (List i6×V)}{F:Str->Str->List Str}(h:TH HB H t kvs F)(s:Same H H2):TH HB H2 t kvs F:=
 ⟨s _ _ h.at_,h.no,λa b v e=>let ⟨l,q,z,f⟩:=h.so a b v e;⟨l,q,s _ _ z,f⟩,h.inj⟩
def TH.ext {HB H:Hp}{t:Addr}{kvs:List (List i6×V)}{F G:Str->Str->List Str}(h:TH HB H t kvs F)(e:∀a b,G a b=F a b):TH HB H t kvs G:=by
 have:G=F:=funext λa=>funext λb=>e a b;rw[this];exact h
def TH.hit {HB H:Hp}{t l:Addr}{kvs:List (List i6×V)}{F G:Str->Str->List Str}{a' b' im:Str}(h:TH HB H t kvs F)(hv:k9 kvs (k2 a' b')=some (.ref l))(h1:G a' b'=F a' b'++[im])(h2:∀a b,¬(a=a'/\b=b')->G a b=F a b):
  TH HB (upd H l (.lst ((F a' b').map V.str++[.str im]))) t kvs G:=by
 obtain⟨l',e',z',f'⟩:=h.so _ _ _ hv
 cases e'
 have XI:t≠l:=λq=>by rw[←q,h.at_] at z';cases z'
 refine⟨by rw[b7 XI];exact h.at_,λa b e=>?_,λa b v e=>?_,h.inj⟩
 .by_cases q:a=a'/\b=b'
  .rw[q.1,q.2,hv] at e;cases e
  .rw[h2 a b q];exact h.no a b e
 .by_cases q:a=a'/\b=b'
  .obtain⟨rfl,rfl⟩:=q
   rw[hv] at e
   cases e
   exact⟨l,rfl,by rw[d8,h1,LK];rfl,f'⟩
  .obtain⟨l2,e2,z2,f2⟩:=h.so a b v e
   refine⟨l2,e2,?_,f2⟩
   have:l2≠l:=λw=>q (by
    rw[e2,w] at e;exact h.inj a b a' b' _ e hv)
   rw[b7 this,h2 a b q];exact z2
def TH.miss {HB H:Hp}{t l:Addr}{kvs:List (List i6×V)}{F G:Str->Str->List Str}{a' b' im:Str}(h:TH HB H t kvs F)(hv:k9 kvs (k2 a' b')=none)(hl:HB l=none)(l_:∀a b,k9 kvs (k2 a b)≠some (.ref l))(j':l≠t)(h1:G a' b'=F a' b'++[im])(h2:∀a b,¬(a=a'/\b=b')->G a b=F a b):
  TH HB (upd (upd H t (.dT (E1 kvs (k2 a' b') (.ref l)))) l (.lst ([]++[.str im]))) t (E1 kvs (k2 a' b') (.ref l)) G:=by
 have hk:∀{a b:Str},¬(a=a'/\b=b')->k2 a b≠k2 a' b':=fun{a b} q w=>by
  have w1:=Nj w;have w2:=Nj w1.2;exact q ⟨NH w1.1,NH w2.1⟩
 refine⟨by rw[b7 j'.symm,d8],λa b e=>?_,λa b v e=>?_,λa b c d v e e'=>?_⟩
 .by_cases q:a=a'/\b=b'
  .rw[J6,if_pos (by rw[q.1,q.2])] at e;cases e
  .rw[J6,if_neg (hk q)] at e
   rw[h2 a b q];exact h.no a b e
 .by_cases q:a=a'/\b=b'
  .obtain⟨rfl,rfl⟩:=q
   rw[J6,if_pos rfl] at e
   cases e
   exact⟨l,rfl,by rw[d8,h1,h.no _ _ hv];rfl,hl⟩
  .rw[J6,if_neg (hk q)] at e
   obtain⟨l2,e2,z2,f2⟩:=h.so a b v e
   have w1:l2≠l:=λw=>l_ a b (by rw[e,e2,w])
   have w2:l2≠t:=λw=>by rw[w,h.at_] at z2;cases z2
   exact⟨l2,e2,by rw[b7 w1,b7 w2,h2 a b q];exact z2,f2⟩
 .by_cases q:a=a'/\b=b'
  .by_cases q':c=a'/\d=b'
   .exact⟨q.1.trans q'.1.symm,q.2.trans q'.2.symm⟩
   .rw[J6,if_pos (by rw[q.1,q.2])] at e
    rw[J6,if_neg (hk q')] at e'
    cases e
    exact absurd e' (l_ c d)
  .by_cases q':c=a'/\d=b'
   .rw[J6,if_pos (by rw[q'.1,q'.2])] at e'
    rw[J6,if_neg (hk q)] at e
    cases e'
    exact absurd e (l_ a b)
   .rw[J6,if_neg (hk q)] at e
    rw[J6,if_neg (hk q')] at e'
    exact h.inj a b c d v e e'
def PlAt (H:Hp)(v:V)(F:Str->Str->List Str):Prop:=∃(t:Addr) (kvs:List (List i6×V)),v= .ref t/\H t=some (.dT kvs)/\(∀a b,k9 kvs (k2 a b)=none->F a b=[])/\∀a b v,k9 kvs (k2 a b)=some v->LstAt H v (F a b)
def PlAt.same {H H':Hp}{v:V}{F:Str->Str->List Str}(h:PlAt H v F)(s:Same H H'):PlAt H' v F:=
 let ⟨t,kvs,e,a,n,z⟩:=h;⟨t,kvs,e,s _ _ a,n,λx y v q=>(z x y v q).same s⟩
def PlsAt (H:Hp)(F:Str×J2->Str->Str->List Str)(kvs:List (i6×V))(ts:List (Str×J2)):Prop:=Paired (λkv x=>kv.1=Sum.inr x.1/\PlAt H kv.2 (F x)) kvs ts
theorem PlsAt.keys {H:Hp}{F:Str×J2->Str->Str->List Str}:∀{kvs:List (i6×V)} {ts:List (Str×J2)},PlsAt H F kvs ts->kvs.map (·.1)=(ts.map (·.1)).map Sum.inr
 |_,_,.nil=>rfl
 |_,_,.cons a t=>by rw[MG,a.1,PlsAt.keys t];rfl
def PlsAt.same {H H':Hp}{F:Str×J2->Str->Str->List Str}{kvs:List (i6×V)}{ts:List (Str×J2)}(h:PlsAt H F kvs ts)(s:Same H H'):PlsAt H' F kvs ts:=Paired.imp' (λ_ _ z=>⟨z.1,z.2.same s⟩) h
theorem thaw_at {q a:Addr}{H:Hp}{o:Obj}{w u:HO}(hq:H q=some (.frz o w))(ha:H a=some u)(hu:∀o' w',u≠ .frz o' w'):thaw q H a=some u:=by
 have:a≠q:=λz=>by rw[z,hq] at ha;cases ha;exact hu _ _ rfl
 rw[N3 this];exact ha
def LstAt.thaw {q:Addr}{H:Hp}{o:Obj}{w:HO}{v:V}{l:List Str}(hq:H q=some (.frz o w))(h:LstAt H v l):LstAt (thaw q H) v l:=let ⟨a,e,z⟩:=h;⟨a,e,thaw_at hq z (λ_ _ z=>nomatch z)⟩
def PlAt.thaw {q:Addr}{H:Hp}{o:Obj}{w:HO}{v:V}{F:Str->Str->List Str}(hq:H q=some (.frz o w))(h:PlAt H v F):PlAt (thaw q H) v F:=
 let ⟨t,kvs,e,a,n,z⟩:=h;⟨t,kvs,e,thaw_at hq a (λ_ _ z=>nomatch z),n,λx y v q=>(z x y v q).thaw hq⟩
def eQ (K:Za):Sp:=λvs H Q _=>∃(a p q a' p' q' d:Addr) (kvs d_:List (i6×V)) (Pc W:p8) (fx:List (Str×Str)) (gt:List Str),vs=[.ref a,.ref a',.ref d]/\WebAt K H a p q kvs Pc/\H q=some (.dK kvs)/\(Pc.ts.map (·.1)).Nodup/\Pc.ts.length<=60/\WebAt K H a' p' q' d_ W/\(W.ts.map (·.1)).Nodup/\W.ts.length<=60/\gt.Perm (W.ts.map (·.1))/\sortedS gt=true/\H d=some (.dK (i8 fx))/\d≠q/\
 ∀(c:Addr) (H':Hp) (e_:List (i6×V)),H c=none->Same H H'->H' c=some (.dK e_)->PlsAt H' (λx a b=>vT W gt fx x.1 (x.2.1,a,b)) e_ Pc.ts->Q (.ref c) H'
abbrev gr:=λP w K mg base=>K3 P w K mg base A9 2 "tie_places" ["piece","web","fixed"] [] (eQ K)
def mH {f fd}(T:Txt K mg)(aP:lG P w K mg base)(F:Fun K "tie_places" "tie_places" bF f fd):x8 P w K mg base A9 2 f fd ["piece","web","fixed"] (eQ K):=by
 walk_at "#sc_tie_places"
 .obtain⟨a,p,q,a',p',q',d,kvs,d_,Pc,W,fx,gt,rfl,_⟩:=h;rfl
 .obtain⟨a,p,q,a',p',q',d,kvs,d_,Pc,W,fx,gt,rfl,hP,hq,XA,lP,hW,VN,lW,pgt,ogt,hd,Vl,k⟩:=h;have lgt:gt.length<=60:=by rw[pgt.length_eq,Lz];exact lW
  have SY:=hP.ts.length;walk_at "@sc_tie_places 53#9yB,40Eo4o556'0Kf 9yBkq;(&241o758F4107huM>cS4845f_+3'0aP 64e72h%T-~3~2~1T*'0PySem.F.slot_dict_setdefault '0PySem.F.type_dict_setdefault '1dS ~g06ip08j1xU77hZ06304803"
  symm;intro c nc;obtain⟨H1,e1,f1,m1,_⟩:=b0 (o:= .dK []) nc;rw[e1];have hcq:c≠q:=(d9 hq nc).symm;symm;refine x6 (m1.tup hP.tup) ?_;refine E5 (m1 _ _ hq) (λWJ o1=>?_);refine K5 (n:=kvs.length) (λi σ H'=>∃(e_:List (i6×V)) (v1 v2 v3 v4 v5:Option V),σ=[some (.ref a),some (.ref a'),some (.ref d),some (.ref c),v1,v2,v3,v4,v5]/\Same (E6 q o1 kvs H) H'/\H' c=some (.dK e_)/\PlsAt H' (λx a b=>vT W gt fx x.1 (x.2.1,a,b)) e_ (Pc.ts.take i)) ⟨[],none,none,none,none,none,rfl,gx m1,by rw[N8 hcq];exact f1,.nil⟩ (λi σ H' hi hp=>?_) ?_ ?_
  .obtain⟨_,_,_,_,_,_,_,s,_⟩:=hp;exact⟨s _ _ d8,hi⟩
  .rintro bk i v σ H2' H2 hi ⟨e_,v1,v2,v3,v4,v5,rfl,s2,Ti,pl2⟩ ⟨t,kv,h_,nt,rfl,rfl⟩ _ _;obtain⟨H3,e3,f3,m3,_⟩:=b0 (o:= .tup _) nt;rw[e3];have s3:=s2.trans m3;have XJ:=(R7 (o:=o1) hq).trans s3.le;have P3:=hP.mono XJ;have W3:=hW.mono XJ;have WH:H3 d=some (.dK (i8 fx)):=s3 _ _ (by rw[N8 Vl];exact hd);obtain⟨x,hx,ex,tb,eb,sb⟩:=P3.ts.get h_;obtain⟨kk,Up⟩:=kv;have Tf:kk=Sum.inr x.1:=ex;have Uq:Up= .ref tb:=eb;subst Tf Uq;refine N5 (SqT.of f3) rfl ?_;symm;intro th nth;obtain⟨H4,e4,f4,m4,_⟩:=b0 (o:= .dT []) nth;rw[e4];symm;refine x6 (m4.tup W3.tup) ?_;symm;refine E3 (ss:=W.ts.map (·.1)) (m4.rd W3.ties) (by rw[W3.ts.keys,A7]) (by rw[Lz];lia) (λg1 a1 a2 l5 n5=>?_);have eg:g1=gt:=F5 a2 ogt (a1.nodup_iff.mpr VN) (a1.trans pgt.symm);subst eg;obtain⟨H5,e5,f5,m5,_⟩:=b0 (o:= .lst _) n5;rw[e5];refine k8 (SqL.of f5) ?_;have hl5:H3 l5=none:=m4.free n5;refine K5 (n:=g1.length) (λj σ H'=>∃(kt:List (List i6×V)) (w1 w2:Option V),σ=[some (.ref a),some (.ref a'),some (.ref d),some (.ref c),some (.str x.1),some (.ref tb),some (.ref th),w1,w2]/\Same H3 H'/\H' l5=some (.lst (g1.map V.str))/\kt.length<=j/\(∀A B,k9 kt (k2 A B)≠some (.ref l5))/\TH H3 H' th kt λA B=>(g1.take j).filter λim=>decide (E8 W.ts im=(x.2.1,A,B))&&Q4 fx x.1 im) ⟨[],v4,v5,rfl,m4.trans m5,f5,LC _,(λ_ _ z=>nomatch z),⟨m5 _ _ f4,(λ_ _ _=>rfl),(λ_ _ _ z=>nomatch z),λ_ _ _ _ _ z _=>nomatch z⟩⟩ (λj σ H' hj hp=>?_) ?_ ?_
   .obtain⟨_,_,_,_,_,z,_⟩:=hp;walk_at "X";exact⟨g1.map V.str,.str (g1[j]),SqL.of z,by rw[LF,LA hj];rfl⟩
   .rintro bk2 j v σ H6' H6 hj ⟨kt,w1,w2,rfl,s6,Vm,lk6,nl6,th6⟩ y _ _;obtain⟨rfl,hy⟩:=Itl.get y (SqL.of Vm);rw[LF] at hy;obtain⟨im,TF,rfl⟩:=MD.mp hy;have k_:im∈W.ts.map (·.1):=a1.mem_iff.mp (LV TF);have W6:=W3.mono s6.le;obtain⟨aa,hv,hT⟩:=jC W6.ts VN (cZ k_);generalize Zn:E8 W.ts im=to at hT;obtain⟨t1,t2,t3⟩:=to;symm;refine x6 W6.tup ?_;symm;refine C3 (v:= .ref aa) (by have z:=O8 (k:=Sum.inr im) W6.ties;rw[hv] at z;exact z) ?_;symm;refine A3 hT ?_;symm;refine A3 (s6.tup sb) ?_;symm;have stay:(∀A B,(decide (E8 W.ts im=(x.2.1,A,B))&&Q4 fx x.1 im)=false)->∀H7,Same H6 H7->∃(kt:List (List i6×V)) (w1 w2:Option V),[some (.ref a),some (.ref a'),some (.ref d),some (.ref c),some (.str x.1),some (.ref tb),some (.ref th),some (.str im),some (.ref aa)]=[some (.ref a),some (.ref a'),some (.ref d),some (.ref c),some (.str x.1),some (.ref tb),some (.ref th),w1,w2]/\Same H3 H7/\H7 l5=some (.lst (g1.map V.str))/\kt.length<=j+1/\(∀A B,k9 kt (k2 A B)≠some (.ref l5))/\TH H3 H7 th kt λA B=>(g1.take (j+1)).filter λim=>decide (E8 W.ts im=(x.2.1,A,B))&&Q4 fx x.1 im:=λhf H7 m7=>
     ⟨kt,_,_,rfl,s6.trans m7,m7 _ _ Vm,by lia,nl6,(th6.same m7).ext λA B=>uI TF (hf A B)⟩
    refine M4 (λh1=>?_) (λh1=>?_)
    .symm;refine⟨d,x.1,im,fx,rfl,s6 _ _ WH,λH7 m7=>?_⟩;symm;refine Q0 (λh2=>?_) (λh2=>?_)
     .symm;have Zo:=th6.same m7;refine⟨.inr (.inr (.inl ⟨rfl,.inr ⟨_,Zo.at_⟩⟩)),?_⟩;symm;refine ki (m7.tup hT) (by rintro⟨z,_⟩;exact absurd (show(1:Nat)=0 from z) (by decide)) (λl8 n8=>?_);obtain⟨H8,e8,f8,m8,_⟩:=b0 (o:= .tup [.str t2,.str t3]) n8;rw[show Q3 (fG (t1,t2,t3)) (some 1) none=[V.str t2,.str t3] from rfl,e8];symm;refine⟨b5 (by simp),λl9 n9=>?_⟩;obtain⟨H9,e9,f9,m9,o9⟩:=b0 (o:= .lst []) n9;rw[e9];have VO:=Zo.same (m8.trans m9);have s39:=s6.trans (m7.trans (m8.trans m9));have Zp:H3 l9=none:=(s6.trans (m7.trans m8)).free n9;have Ur:=(m7.trans (m8.trans m9)) _ _ Vm;have RC:((g1.take (j+1)).filter λim=>decide (E8 W.ts im=(x.2.1,t2,t3))&&Q4 fx x.1 im)=((g1.take j).filter λim=>decide (E8 W.ts im=(x.2.1,t2,t3))&&Q4 fx x.1 im)++[im]:=xu TF (by rw[Zn,h2,Ma (by rw[show t1=x.2.1 from h1])];rfl);have RF:∀A B,¬(A=t2/\B=t3)->((g1.take (j+1)).filter λim=>decide (E8 W.ts im=(x.2.1,A,B))&&Q4 fx x.1 im)=((g1.take j).filter λim=>decide (E8 W.ts im=(x.2.1,A,B))&&Q4 fx x.1 im):=λA B l_=>uI TF (by
       rw[Zn,Mn (λz=>l_ ?_)];rfl;have z2:=(OH z).2;walk_at "X";exact⟨(OH z2).1.symm,(OH z2).2.symm⟩)
      refine⟨th,l8,kt,k2 t2 t3,.ref l9,rfl,rfl,VO.at_,m9 _ _ f8,b5 (by lia),?_⟩;cases hvk:k9 kt (k2 t2 t3) with
      |some v=>
       obtain⟨l,rfl,hl,Zq⟩:=VO.so _ _ _ hvk
       refine⟨.inl ⟨rfl,_,SqL.of hl⟩,?_⟩
       symm
       refine⟨l,_,.str im,rfl,rfl,hl,b5 (by rw[Lz];have:=iA (p:=λim=>decide (E8 W.ts im=(x.2.1,t2,t3))&&Q4 fx x.1 im) (s:=g1) (i:=j);lia),?_⟩
       have Vn:l5≠l:=λz=>nl6 t2 t3 (by rw[hvk,z])
       walk_at "X"
       exact⟨kt,_,_,rfl,E9 s39 Zq,by rw[b7 Vn];exact Ur,by lia,nl6,VO.hit hvk RC RF⟩
      |none=>
       have j':l9≠th:=λz=>by rw[z,VO.at_] at f9;cases f9
       have l_:∀A B,k9 kt (k2 A B)≠some (.ref l9):=λA B z=>by
        obtain⟨l,e,hl,_⟩:=(Zo.same m8).so _ _ _ z;cases e;rw[n9] at hl;cases hl
       have h59:l5≠l9:=λz=>by
        have:=(m7.trans m8) _ _ Vm;rw[z,n9] at this;cases this
       have h5t:l5≠th:=λz=>by rw[z,VO.at_] at Ur;cases Ur
       refine⟨.inl ⟨rfl,[],SqL.of (by rw[b7 j'];exact f9)⟩,?_⟩
       symm
       refine⟨l9,[],.str im,rfl,rfl,by rw[b7 j'];exact f9,b5 (by simp),?_⟩
       have Zr:H3 th=none:=nth
       walk_at "X"
       refine⟨E1 kt (k2 t2 t3) (.ref l9),_,_,rfl,E9 (E9 s39 Zr) Zp,by rw[b7 h59,b7 h5t];exact Ur,?_,λA B z=>?_,VO.miss hvk Zp l_ j' RC RF⟩
       .have:=O7 kt (k2 t2 t3) (.ref l9);lia
       .rw[J6] at z
        split at z
        .cases z;exact h59 rfl
        .exact nl6 A B z
     .symm;exact stay (λA B=>by rw[h2,RS]) H7 m7
    .symm;exact stay (λA B=>by rw[Zn,Mn (λz=>h1 (OH z).1)];rfl) H6 (Same.refl _)
   .rintro σ H6 ⟨kt,w1,w2,rfl,s6,Vm,lk6,nl6,th6⟩;refine⟨⟨_,SqL.of Vm,by rw[Lz];exact LC _⟩,?_⟩;rw[LN (LC _)] at th6;have Zs:H6 c=some (.dK e_):=s6 _ _ (m3 _ _ Ti);have Zk:=Mj pl2;rw[LM] at Zk;symm;refine dw (E7 (k:=Sum.inr x.1) Zs (b5 (by lia)) ?_);have e7:Pc.ts.take (i+1)=Pc.ts.take i++[x]:=by rw[Mt,hx];rfl
    have fr:x.1∉(Pc.ts.take i).map (·.1):=λz=>by
     have w:((Pc.ts.take (i+1)).map (·.1)).Nodup:=XA.sublist ((NA _ _).map _);rw[e7,LK] at w;exact(Mm.mp w).2.2 x.1 z x.1 (by simp) rfl
    have ek:E1 e_ (Sum.inr x.1:i6) (.ref th)=e_++[(Sum.inr x.1,.ref th)]:=K1 _ (F8 (by rw[pl2.keys];exact λm=>fr (T7 m)));have Zl:(E6 q o1 kvs H) c=none:=by rw[N8 hcq];exact nc
    have cL:∀{v:V} {l:List Str},LstAt H6 v l->LstAt (upd H6 c (.dK (e_++[(Sum.inr x.1,V.ref th)]))) v l:=fun{v l} ⟨a,ea,z⟩=>⟨a,ea,by rw[b7 (λq=>by rw[q,Zs] at z;cases z)];exact z⟩
    have cP:∀{v:V} {F:Str->Str->List Str},PlAt H6 v F->PlAt (upd H6 c (.dK (e_++[(Sum.inr x.1,V.ref th)]))) v F:=fun{v F} ⟨t,kk,e,z,n,so⟩=>⟨t,kk,e,by rw[b7 (λq=>by rw[q,Zs] at z;cases z)];exact z,n,λA B v e=>cL (so A B v e)⟩
    walk_at "X";refine⟨e_++[(Sum.inr x.1,.ref th)],_,_,_,_,_,rfl,E9 (s3.trans s6) Zl,by rw[d8,ek],?_⟩;rw[ek,e7];refine w4 (Paired.imp' (λ_ _ z=>⟨z.1,cP (z.2.same (m3.trans s6))⟩) pl2) ⟨rfl,cP ⟨th,kt,rfl,th6.at_,th6.no,λA B v e=>?_⟩⟩;obtain⟨l,e1,e2,_⟩:=th6.so A B v e;walk_at "X";exact⟨l,e1,e2⟩
  .rintro σ H2 ⟨e_,v1,v2,v3,v4,v5,rfl,s2,Ti,pl2⟩;refine⟨⟨s2 _ _ d8,LC _⟩,?_⟩;symm;have hfq:H2 q=some (.frz o1 (.dK kvs)):=s2 _ _ d8;rw[LN (by lia)] at pl2;exact k c _ e_ nc (Same.thaw hq s2) (thaw_at hfq Ti (λ_ _ z=>nomatch z)) (Paired.imp' (λkv x z=>⟨z.1,z.2.thaw hfq⟩) pl2)
def dR (fx:List (Str×Str))(n:Str):Bool:=!decide (n∈fx.map (·.1))
def FE {td ty tx:TE}{σ:L2.St}{H:Hp}{Q:VK}(q:td σ H λx H1=>∃a,x= .ref a/\HS H1 a/\ty σ H1 λy H2=>tx σ H2 λz H3=>∃o,DGet H3 a y o/\Q (o.getD z) H3):tL td ty tx σ H Q:=q
abbrev LsAt (H:Hp)(xs:List V)(ls:List (List Str)):Prop:=Paired (LstAt H) xs ls
def LsAt.same {H H':Hp}{xs:List V}{ls:List (List Str)}(h:LsAt H xs ls)(s:Same H H'):LsAt H' xs ls:=Paired.imp' (λ_ _ z=>z.same s) h
theorem nV:∀l d:List Str,Q8 (l.map V.str) (d.map V.str)=decide (l=d)
 |[],[]=>rfl
 |[],_::_=>by simp [Q8]
 |_::_,[]=>by simp [Q8]
 |x::l,y::d=>by
  show(fc (.str x) (.str y)&&Q8 (l.map V.str) (d.map V.str))=_;rw[nV l d,My];simp [fc]
def uV (H:Hp):V->List V
 | .ref a=>match H a with
  |some (.lst xs)=>xs
  |_=>[]
 |_=>[]
def rH {H:Hp}{v:V}{l:List Str}(h:LstAt H v l):uV H v=l.map V.str:=by
 obtain⟨a,rfl,z⟩:=h;show(match H a with|some (.lst xs)=>xs|_=>[])=_;rw[z]
theorem rT {H:Hp}{d:List Str}:∀{xs:List V} {ls:List (List Str)},LsAt H xs ls->xs.countP (λz=>Q8 (uV H z) (d.map V.str))=ls.count d
 |_,_,.nil=>rfl
 |_,l::_,.cons a t=>by
  rw[Ri,List.count_cons,rT t,rH a,nV];by_cases e:l=d
  .rw[if_pos (Ma e),if_pos (by simpa using e)]
  .rw[if_neg (by rw[Mn e];decide),if_neg (by simpa using e)]
def nu (K:Za):Sp:=λvs H Q _=>∃(l:Addr) (xs:List V) (ls:List (List Str)),vs=[.ref l]/\H l=some (.lst xs)/\LsAt H xs ls/\ls.length<=60/\∀H',Same H H'->Q (.bl (zj ls)) H'
abbrev kN:=λP w K mg base=>K3 P w K mg base A9 1 "enough" ["lists"] [] (nu K)
def wq {f fd}(T:Txt K mg)(F:Fun K "enough" "enough" jT f fd):x8 P w K mg base A9 1 f fd ["lists"] (nu K):=by
 walk_at "#sc_enough"
 .obtain⟨l,xs,ls,rfl,_⟩:=h;rfl
 .obtain⟨l,xs,ls,rfl,hl,hx,hn,k⟩:=h;have Vo:=Mj hx;walk_at "@sc_enough 8q^][2mdrawn;0;k00d0drawn,lists;tC'0zw T-'0PySem.F.slot_list_count '0PySem.F.type_list_count '2jw X~g0170l70f";symm;refine k8 (SqL.of hl) ?_;refine j9 (n:=xs.length) (λi out H'=>H'=H/\out=(ls.take i).map λd=>V.bl (decide (ls.count d<=d.length))) ⟨rfl,rfl⟩ (λi out H' hi hp=>⟨xs,xs[i],SqL.of (by rw[hp.1];exact hl),LA hi⟩) ?_ ?_
  .rintro N i v out H1' H1 hi ⟨rfl,rfl⟩ y hN';obtain⟨rfl,hy⟩:=Itl.get y (SqL.of hl);obtain⟨d,hd,a,rfl,hda⟩:=B5 hx hy;symm;refine⟨rfl,?_⟩;symm;refine⟨.inl ⟨rfl,_,SqL.of hl⟩,?_⟩;symm;refine⟨l,xs,.ref a,λz=>Q8 (uV H1 z) (d.map V.str),rfl,rfl,hl,λz hz=>?_,?_⟩
   .obtain⟨j,hj⟩:=Nw hz;obtain⟨e,he,b,rfl,hb⟩:=B5 hx hj;exact⟨b,a,_,_,rfl,rfl,SqL.of hb,SqL.of hda,aQ _,aQ _,by show Q8 (uV H1 (V.ref b)) _=_;rw[rH ⟨b,rfl,hb⟩]⟩
   .rw[rT hx];symm;refine D6 (z7 (SqL.of hda) ?_);rw[Lz];symm;refine⟨b5 (by rw[Lz,LM];lia),hN' _ _ ⟨rfl,?_⟩⟩;have e:decide ((ls.count d:Int)<=(d.length:Int))=decide (ls.count d<=d.length):=by rw[My];simp
    rw[e];exact A1 (λd=>V.bl (decide (ls.count d<=d.length))) hd
  .rintro out H1 ⟨rfl,rfl⟩;refine⟨⟨_,SqL.of hl,LC _⟩,λD hD=>⟨b5 (by rw[Lz,LM];lia),?_⟩⟩;rw[LN (by lia)];obtain⟨H2,e2,f2,m2,_⟩:=b0 (H:=H1) (o:= .lst (ls.map λd=>V.bl (decide (ls.count d<=d.length)))) hD;symm;change wG K _ (upd H1 D _) _;rw[e2];refine oq (bs:=ls.map λd=>decide (ls.count d<=d.length)) (SqL.of (by rw[f2,Mo];rfl)) ?_;have e:(ls.map λd=>decide (ls.count d<=d.length)).all id=zj ls:=by unfold zj;rw[NM];rfl
   rw[e];exact k H2 m2
structure Sx (K:Za) (H:Hp) (a p q c pl:Addr) (kvs y_ e_:List (i6×V)) (L:Str->Str->Bool) (Pc W:p8) (s1 s2 gp gt:List Str) (fx:List (Str×Str)):Prop where
 S:SrchP L Pc W s1 s2 gp gt fx
 at_:WebAt K H a p q kvs Pc
 hq:H q=some (.dK kvs)
 l1:(b4 Pc).length<=60
 l2:(b4 W).length<=60
 big:((b4 Pc).length+1)*(max W.pts.length W.ts.length+1) ^ ((b4 Pc).filter (dR fx)).length<=7000000
 hc:H c=some (.dK y_)
 ch:ChAt H (λx=>uj L gp fx x.1) y_ Pc.pts
 hl:H pl=some (.dK e_)
 pls:PlsAt H (λx a b=>vT W gt fx x.1 (x.2.1,a,b)) e_ Pc.ts
def Sx.same {H H':Hp}{a p q c pl:Addr}{kvs y_ e_:List (i6×V)}{L:Str->Str->Bool}{Pc W:p8}{s1 s2 gp gt:List Str}{fx:List (Str×Str)}(h:Sx K H a p q c pl kvs y_ e_ L Pc W s1 s2 gp gt fx)(s:Same H H'):Sx K H' a p q c pl kvs y_ e_ L Pc W s1 s2 gp gt fx:=
 ⟨h.S,h.at_.mono s.le,s _ _ h.hq,h.l1,h.l2,h.big,s _ _ h.hc,h.ch.same s,s _ _ h.hl,h.pls.same s⟩
def qO {α : Type} {R : V -> Str × α -> Prop} : ∀ {kvs : List (i6 × V)} {ts : List (Str × α)} {x : Str × α}, Paired (λkv x => kv.1 = Sum.inr x.1 /\ R kv.2 x) kvs ts -> (ts.map (·.1)).Nodup -> x ∈ ts -> ∃ v, k9 kvs (Sum.inr x.1 : i6) = some v /\ R v x
 := by
  intro kvs ts x hp nd hx;induction hp with
  | nil => cases hx
  | @cons kv y r ts a t ih =>
    have nd' := MN.mp (show (y.1 :: ts.map (·.1)).Nodup from nd)
    rcases Mr.mp hx with z | z
    . subst z
      exact ⟨kv.2, C4 a.1, a.2⟩
    . obtain ⟨v, h1, h2⟩ := ih nd'.2 z
      refine ⟨v, ?_, h2⟩
      rw [C2 (by rw [a.1]; exact λe => nd'.1 (LB.mpr ⟨x, z, (NH e).symm⟩))]; exact h1
def cI (K:Za):Sp:=λvs H Q _=>∃(a p q c pl d:Addr) (kvs y_ e_ kvm:List (i6×V)) (L:Str->Str->Bool) (Pc W:p8) (s1 s2 gp gt:List Str) (fx:List (Str×Str)) (x:Str×J2),vs=[.ref a,.ref pl,.ref d,.str x.1]/\Sx K H a p q c pl kvs y_ e_ L Pc W s1 s2 gp gt fx/\x∈Pc.ts/\Rd H d (.dK kvm)/\TxtAt kvm x.2.2.1/\TxtAt kvm x.2.2.2/\
 ∀(v:V) (H':Hp),Same H H'->LstAt H' v (vT W gt fx x.1 (x.2.1,g0 kvm x.2.2.1,g0 kvm x.2.2.2))->Q v H'
abbrev aD:=λP w K mg base=>K3 P w K mg base A9 2 "tie_choices" ["piece","places","put","name"] [] (cI K)
def kU {f fd}(T:Txt K mg)(B6:T8 P w K mg base)(F:Fun K "tie_choices" "tie_choices" aM f fd):x8 P w K mg base A9 2 f fd ["piece","places","put","name"] (cI K):=by
 walk_at "#sc_tie_choices"
 .obtain⟨a,p,q,c,pl,d,kvs,y_,e_,kvm,L,Pc,W,s1,s2,gp,gt,fx,x,rfl,_⟩:=h;rfl
 .obtain⟨a,p,q,c,pl,d,kvs,y_,e_,kvm,L,Pc,W,s1,s2,gp,gt,fx,x,rfl,X0,hx,hd,t1,t2,k⟩:=h;obtain⟨aa,hv,hT⟩:=jC X0.at_.ts (L9 X0.S.nd) (show(x.1,x.2)∈Pc.ts from hx);walk_at "@sc_tie_choices 54p3'0B6 nF400372j1x8~ub10304U"
  symm;refine x6 X0.at_.tup ?_;symm;refine C3 (v:= .ref aa) (by have z:=O8 (k:=Sum.inr x.1) X0.at_.ties;rw[hv] at z;exact z) ?_;symm;refine⟨aa,d,x.2,kvm,rfl,hT,hd,t1,t2,λl1 H1 n1 m1 f1=>?_⟩;symm;refine ki (SqT.of f1) (by rintro⟨z,_⟩;exact absurd (show(1:Nat)=0 from z) (by decide)) (λl2 n2=>?_);obtain⟨H2,e2,f2,m2,_⟩:=b0 (o:= .tup [.str (g0 kvm x.2.2.1),.str (g0 kvm x.2.2.2)]) n2;rw[show Q3 (fG (x.2.1,g0 kvm x.2.2.1,g0 kvm x.2.2.2)) (some 1) none=[V.str (g0 kvm x.2.2.1),.str (g0 kvm x.2.2.2)] from rfl,e2];have X2:=X0.same (m1.trans m2);obtain⟨v,VM,t,kt,rfl,ht,l_,hso⟩:=qO (R:=λv (x:Str×J2)=>PlAt H2 v λa b=>vT W gt fx x.1 (x.2.1,a,b)) (show Paired _ _ _ from X2.pls) (L9 X0.S.nd) hx;symm;refine FE ?_;symm;refine C3 (v:= .ref t) (by have z:=O8 (k:=Sum.inr x.1) (.inl X2.hl);rw[VM] at z;exact z) ?_;refine⟨t,rfl,.inr ⟨_,.inl ht⟩,?_⟩;symm;refine⟨b5 (by simp),λl3 n3=>?_⟩;obtain⟨H3,e3,f3,m3,_⟩:=b0 (o:= .lst []) n3;rw[e3];refine⟨_,DGet.t (k:=k2 (g0 kvm x.2.2.1) (g0 kvm x.2.2.2)) (m3 _ _ ht) (m3 _ _ f2),?_⟩;have TJ:=m1.trans (m2.trans m3);cases hvk:k9 kt (k2 (g0 kvm x.2.2.1) (g0 kvm x.2.2.2)) with
  |none=>exact k _ H3 TJ ⟨l3,rfl,by rw[f3];have z:=l_ _ _ hvk;dsimp only at z;rw[z];rfl⟩
  |some v=>exact k _ H3 TJ ((hso _ _ _ hvk).same m3)
theorem gE:∀{nm b:List Str} {n x:Str},nm[b.length]?=some n->nm.zip (b++[x])=nm.zip b++[(n,x)]
 |[],b,n,x,h=>by simp at h
 |m::nm,[],n,x,h=>by
  have e:m=n:=by simpa using h
  subst e;simp
 |m::nm,y::b,n,x,h=>by
  have z:=gE (nm:=nm) (b:=b) (n:=n) (x:=x) (by simpa using h);show(m,y)::nm.zip (b++[x])=(m,y)::nm.zip b++[(n,x)];rw[z];rfl
def uZ (nm:List Str):nm.map V.str=(nm.map (Sum.inr:Str->i6)).map kV:=by rw[Mo];rfl
def su {nm b:List Str}(nd:nm.Nodup):aU ((nm.map (Sum.inr:Str->i6)).zip (b.map V.str))=i8 (nm.zip b):=by
 have e:(nm.map (Sum.inr:Str->i6)).zip (b.map V.str)=i8 (nm.zip b):=by rw[List.zip_map];rfl
 rw[e,X8];rw[G1,←A7];exact Od _ (λa b h z=>h (NH z)) (oJ b nd)
def qb {mm:List (Str×Str)}{n:Str}(h:n∈mm.map (·.1)):TxtAt (i8 mm) n:=⟨_,qL h⟩
def qf {nm b:List Str}{i:Nat}{n:Str}(h:nm[i]?=some n)(hi:i<b.length):n∈(nm.zip b).map (·.1):=LB.mpr ⟨(n,b[i]),oZ h (LA hi),rfl⟩
def yd {nm b:List Str}{n:Str}(nd:nm.Nodup)(h:nm[b.length]?=some n):n∉(nm.zip b).map (·.1):=λz=>by
 have w:=oJ (b++[n]) nd;rw[gE h,LK] at w;exact(Mm.mp w).2.2 n z n (by simp) rfl
def je (K:Za):Sp:=λvs H Q _=>∃(a p q c pl d:Addr) (kvs y_ e_:List (i6×V)) (L:Str->Str->Bool) (Pc W:p8) (s1 s2 gp gt:List Str) (fx mm:List (Str×Str)) (n im:Str),vs=[.ref a,.ref pl,.ref d,.str n,.str im]/\Sx K H a p q c pl kvs y_ e_ L Pc W s1 s2 gp gt fx/\H d=some (.dK (i8 mm))/\mm.length<=60/\n∉mm.map (·.1)/\
 (∀x∈bY Pc.ts n,x.2.2.1∈(mm++[(n,im)]).map (·.1)/\x.2.2.2∈(mm++[(n,im)]).map (·.1))/\
 ∀H',Same H H'->Q (.bl (zj ((bY Pc.ts n).map λx=>vT W gt fx x.1 (x.2.1,g0 (i8 (mm++[(n,im)])) x.2.2.1,g0 (i8 (mm++[(n,im)])) x.2.2.2)))) H'
def Jc {α:Type}{p:α->Bool}{s:List α}{i:Nat}{x:α}(h:s[i]?=some x)(hp:p x=true):(s.take (i+1)).filter p=(s.take i).filter p++[x]:=by
 rw[Mt,h,Mz];show _++List.filter p [x]=_;rw[Mw hp];rfl
def Hm {α:Type}{p:α->Bool}{s:List α}{i:Nat}{x:α}(h:s[i]?=some x)(hp:p x=false):(s.take (i+1)).filter p=(s.take i).filter p:=by
 rw[Mt,h,Mz];show _++List.filter p [x]=_;rw[MB (by rw[hp];decide)];simp
def DC {α:Type}{p:α->Bool}{s:List α}{i:Nat}:((s.take i).filter p).length<=s.length:=Mb (LQ _ _) (by rw[LM];lia)
abbrev lJ:=λP w K mg base=>K3 P w K mg base A9 3 "has_room" ["piece","places","put","name","image"] [] (je K)
def rp {f fd}(T:Txt K mg)(aT:kN P w K mg base)(G5:aD P w K mg base)(F:Fun K "has_room" "has_room" fq f fd):x8 P w K mg base A9 3 f fd ["piece","places","put","name","image"] (je K):=by
 walk_at "#sc_has_room"
 .obtain⟨a,p,q,c,pl,d,kvs,y_,e_,L,Pc,W,s1,s2,gp,gt,fx,mm,n,im,rfl,_⟩:=h;rfl
 .obtain⟨a,p,q,c,pl,d,kvs,y_,e_,L,Pc,W,s1,s2,gp,gt,fx,mm,n,im,rfl,X0,hd,lm,nn,he,k⟩:=h;have SY:=X0.at_.ts.length;have l1:=X0.l1;rw[E4] at l1;walk_at "@sc_has_room 55wWDO729Z045039?6tie,told;3;,40vEd0tie,told,name;d1tie,told,name;vJcSq'2Ih XG'0T.b_max '0Boot.«max» 2p01j1x02fv0083'0aT 2mtie;015;k06d0tie,piece,places,longer;t3'0G5 6162e30"
  symm;refine Y4 (.inl hd) (λl1 n1=>?_);obtain⟨H1,e1,f1,m1,_⟩:=b0 (o:= .dK (i8 mm)) n1;rw[e1];symm;refine dw (E7 (k:=Sum.inr n) f1 (b5 (by rw[p0];lia)) ?_);rw[BH nn];have f2:(upd H1 l1 (.dK (i8 (mm++[(n,im)])))) l1=some (.dK (i8 (mm++[(n,im)]))):=d8;have m2:Same H (upd H1 l1 (.dK (i8 (mm++[(n,im)])))):=E9 m1 n1;generalize upd H1 l1 (.dK (i8 (mm++[(n,im)])))=H2 at f2 m2⊢;have X2:=X0.same m2;symm;refine x6 X2.at_.tup ?_;refine E5 X2.hq (λWJ o3=>?_);refine j9 (n:=kvs.length) (λi out H'=>Same (E6 q o3 kvs H2) H'/\out=((Pc.ts.take i).filter λx=>decide (Ci x.2.2.1 x.2.2.2=n)).map λx=>V.str x.1) ⟨Same.refl _,rfl⟩ (λi out H' hi hp=>⟨hp.1 _ _ d8,hi⟩) ?_ ?_
  .rintro N i v out H3' H3 hi ⟨s3,rfl⟩ ⟨t,kv,h_,nt,rfl,rfl⟩ hN';obtain⟨H4,e4,f4,m4,_⟩:=b0 (o:= .tup _) nt;rw[e4];have Us:=(R7 (o:=o3) X2.hq).trans (s3.trans m4).le;have P4:=X2.at_.mono Us;obtain⟨x,hx,ex,tb,eb,sb⟩:=P4.ts.get h_;obtain⟨kk,Up⟩:=kv;have Tf:kk=Sum.inr x.1:=ex;have Uq:Up= .ref tb:=eb;subst Tf Uq;refine N5 (SqT.of f4) rfl ?_;symm;refine⟨rfl,?_⟩;symm;refine ki sb (by rintro⟨z,_⟩;exact absurd (show(1:Nat)=0 from z) (by decide)) (λl5 n5=>?_);obtain⟨H5,e5,f5,m5,_⟩:=b0 (o:= .tup [.str x.2.2.1,.str x.2.2.2]) n5;rw[show Q3 (fG x.2) (some 1) none=[V.str x.2.2.1,.str x.2.2.2] from rfl,e5];symm;refine Fc (SqT.of f5) ?_;symm;rw[show(if x.2.2.1.cps.toList<x.2.2.2.cps.toList then x.2.2.2 else x.2.2.1)=Ci x.2.2.1 x.2.2.2 from rfl];refine M4 (λh1=>?_) (λh1=>?_)
   .symm;refine⟨b5 (by rw[Lz];have:=DC (p:=λx:Str×J2=>decide (Ci x.2.2.1 x.2.2.2=n)) (s:=Pc.ts) (i:=i);lia),hN' _ _ ⟨s3.trans (m4.trans m5),?_⟩⟩;rw[Jc hx (Ma h1),LK];rfl
   .exact hN' _ _ ⟨s3.trans (m4.trans m5),by rw[Hm hx (Mn h1)]⟩
  .rintro out H3 ⟨s3,rfl⟩;refine⟨⟨s3 _ _ d8,LC _⟩,λD hD=>⟨b5 (by rw[Lz];have:=DC (p:=λx:Str×J2=>decide (Ci x.2.2.1 x.2.2.2=n)) (s:=Pc.ts) (i:=kvs.length);lia),?_⟩⟩;rw[LN (by lia)];change O5 _ _ _ (thaw q (upd H3 D (.lst ((bY Pc.ts n).map λx=>V.str x.1)))) _;have sM:=U8 X2.hq s3 hD (u:= .lst ((bY Pc.ts n).map λx=>V.str x.1));have fM:=cg s3 hD (u:= .lst ((bY Pc.ts n).map λx=>V.str x.1));generalize thaw q (upd H3 D (.lst ((bY Pc.ts n).map λx=>V.str x.1)))=HM at sM fM⊢;have XM:=X2.same sM;have WK:∀x∈bY Pc.ts n,x∈Pc.ts:=λx hx=>(LW.mp hx).1;have Sr:(bY Pc.ts n).length<=60:=Mb (LQ _ _) (by lia);generalize bY Pc.ts n=due at fM WK Sr he k;symm;refine k8 (SqL.of fM) ?_;refine j9 (n:=due.length) (λi out H'=>Same HM H'/\LsAt H' out ((due.take i).map λx=>vT W gt fx x.1 (x.2.1,g0 (i8 (mm++[(n,im)])) x.2.2.1,g0 (i8 (mm++[(n,im)])) x.2.2.2))) ⟨Same.refl _,.nil⟩ (λi out H' hi hp=>⟨_,.str (due[i]).1,SqL.of (hp.1 _ _ fM),by rw[LF,LA hi];rfl⟩) ?_ ?_
   .rintro N i v out H4' H4 hi ⟨s4,ls⟩ y hN';obtain⟨rfl,hy⟩:=Itl.get y (SqL.of (s4 _ _ fM));rw[LF] at hy;obtain⟨x,hx,rfl⟩:=MD.mp hy;have Tn:=LV hx;symm;refine⟨rfl,?_⟩;symm;refine⟨a,p,q,c,pl,l1,kvs,y_,e_,_,L,Pc,W,s1,s2,gp,gt,fx,x,rfl,XM.same s4,WK x Tn,.inl (s4 _ _ (sM _ _ f2)),qb (he x Tn).1,qb (he x Tn).2,λv H5 m5 hv=>?_⟩;have Vn:=Mj ls;rw[Lz,LM] at Vn;refine⟨b5 (by lia),hN' _ _ ⟨s4.trans m5,?_⟩⟩;rw[show due.take (i+1)=due.take i++[x] by rw[Mt,hx];rfl,LK];exact w4 (LsAt.same ls m5) hv
   .rintro out H4 ⟨s4,ls⟩;have Vn:=Mj ls;rw[Lz,LM] at Vn;refine⟨⟨_,SqL.of (s4 _ _ fM),by rw[Lz];exact LC _⟩,λD2 hD2=>⟨b5 (by lia),?_⟩⟩;rw[LN (LC _)] at ls;obtain⟨H5,e5,f5,m5,_⟩:=b0 (H:=H4) (o:= .lst out) hD2;change uD _ (upd H4 D2 _) _;rw[e5];symm;exact⟨D2,out,_,rfl,f5,LsAt.same ls m5,by rw[Lz];lia,λH6 m6=>k H6 (m2.trans (sM.trans (s4.trans (m5.trans m6))))⟩
def mP (K:Za):Sp:=λvs H Q _=>∃(a p q c pl bl:Addr) (kvs y_ e_:List (i6×V)) (L:Str->Str->Bool) (Pc W:p8) (s1 s2 gp gt:List Str) (fx:List (Str×Str)) (b:List Str),vs=[.ref a,.ref c,.ref pl,.ref bl]/\Sx K H a p q c pl kvs y_ e_ L Pc W s1 s2 gp gt fx/\H bl=some (.lst (b.map V.str))/\b.length<(s1++s2).length/\Cq H Q λss=>ss=X6 L Pc W gp gt fx (s1++s2) b
abbrev qp:=λP w K mg base=>K3 P w K mg base A9 4 "images" ["piece","choices","places","begun"] [] (mP K)
def xR {f fd}(T:Txt K mg)(p7:M8 P w K mg base)(G5:aD P w K mg base)(eY:lJ P w K mg base)(F:Fun K "images" "images" lX f fd):x8 P w K mg base A9 4 f fd ["piece","choices","places","begun"] (mP K):=by
 walk_at "#sc_images"
 .obtain⟨a,p,q,c,pl,bl,kvs,y_,e_,L,Pc,W,s1,s2,gp,gt,fx,b,rfl,_⟩:=h;rfl
 .obtain⟨a,p,q,c,pl,bl,kvs,y_,e_,L,Pc,W,s1,s2,gp,gt,fx,b,rfl,X0,hb,Zq,k⟩:=h;have S:=X0.S;have nn:=S.nn;have XN:=S.o.len;have l1:=X0.l1;have l2:=X0.l2;have lgt:gt.length<=60:=by rw[S.o'.p2.length_eq,Lz];rw[E4] at l2;lia
  have Zh:gp.length<=60:=by rw[S.o'.p1.length_eq,Lz];rw[E4] at l2;lia
  obtain⟨n,hn⟩:∃n,(s1++s2)[b.length]?=some n:=⟨_,LA Zq⟩
  walk_at "@sc_images 543)7055b4l7356~rXDGe439ucI0540s8mimage;3;k3'0G5 6062e65d0image,begun;JcY0001s009?7image;3;kb105vd0image,begun;vJcY0001sv008mimage;0265;k07d0image,piece,places,put,name;J+3'0eY 616263e4000"
  symm;refine⟨a,p,q,kvs,Pc,rfl,X0.at_,by lia,λln H1 r1 r2 n1 m1 f1 or=>?_⟩;have WL:r1=s1:=F5 or.o1 S.o.o1 (or.p1.nodup_iff.mpr (D0 S.nd)) (or.p1.trans S.o.p1.symm);have WN:r2=s2:=F5 or.o2 S.o.o2 (or.p2.nodup_iff.mpr (L9 S.nd)) (or.p2.trans S.o.p2.symm);subst WL WN;symm;refine D6 (z7 (SqL.of (m1 _ _ hb)) ?_);rw[Lz];refine j5 (SqL.of f1) (i:=(b.length:Int)) (v:= .str n) (i9 (j:=b.length) (by rw[LF,hn];rfl)) ?_;symm;refine⟨ln,bl,(r1++r2).map Sum.inr,b.map V.str,rfl,by rw[←uZ];exact SqL.of f1,SqL.of (m1 _ _ hb),λd nd=>?_⟩;rw[su nn];obtain⟨H2,e2,f2,m2,_⟩:=b0 (o:= .dK (i8 ((r1++r2).zip b))) nd;rw[e2];have s_:=m1.trans m2;have X2:=X0.same s_;have Rn:=s_ _ _ hb;symm;refine x6 X2.at_.tup ?_;symm;refine U1 (O8 (k:=Sum.inr n) X2.at_.ties) ?_;rw[X3 X2.at_.ts];symm;have S':∀(p:Str->Bool) (l:List Str),l.length<=60->∀i,((l.take i).filter p).length<=1000:=λp l hl i=>Mb iA (by lia);refine M4 (λh1=>?_) (λh1=>?_)
  .have hle:r1.length<=b.length:=by
    rcases S.is1 hn with⟨z,_⟩|⟨_,z⟩
    .exact absurd h1 z
    .exact z
   have k_:=cZ h1;have he:=S.ends _ k_;obtain⟨j1,hj1,TY⟩:=S.pt_idx he.1;obtain⟨j2,hj2,Vh⟩:=S.pt_idx he.2;symm;refine⟨a,p,q,c,pl,d,kvs,y_,e_,_,L,Pc,W,r1,r2,gp,gt,fx,(n,E8 Pc.ts n),rfl,X2,k_,.inl f2,qb (qf TY (by lia)),qb (qf Vh (by lia)),λv H3 m3 hv=>?_⟩;obtain⟨lv,rfl,G_⟩:=hv;have etc:vT W gt fx n ((E8 Pc.ts n).1,g0 (i8 ((r1++r2).zip b)) (E8 Pc.ts n).2.1,g0 (i8 ((r1++r2).zip b)) (E8 Pc.ts n).2.2)=wW W gt fx (r1++r2) b (n,E8 Pc.ts n):=rfl;dsimp only at G_;rw[etc] at G_;have M':(wW W gt fx (r1++r2) b (n,E8 Pc.ts n)).length<=60:=Mb (LQ _ _) lgt;generalize Zt:wW W gt fx (r1++r2) b (n,E8 Pc.ts n)=tc at G_ M';refine k8 (SqL.of G_) ?_;refine j9 (n:=tc.length) (λi out H'=>Same H3 H'/\out=((tc.take i).filter λx=>!decide (x∈b)).map V.str) ⟨Same.refl _,rfl⟩ (λi out H' hi hp=>⟨_,.str (tc[i]),SqL.of (hp.1 _ _ G_),by rw[LF,LA hi];rfl⟩) ?_ ?_
   .rintro N i v out H4' H4 hi ⟨s4,rfl⟩ y hN';obtain⟨rfl,hy⟩:=Itl.get y (SqL.of (s4 _ _ G_));rw[LF] at hy;obtain⟨x,hx,rfl⟩:=MD.mp hy;symm;refine⟨rfl,?_⟩;symm;refine R8 (gs:=b) (SqL.of (s4 _ _ (m3 _ _ Rn))) ?_;symm;refine Q0 (λh2=>?_) (λh2=>?_)
    .symm;refine⟨b5 (by rw[Lz];exact S' _ _ M' _),hN' _ _ ⟨s4,?_⟩⟩;rw[xu hx h2,LK];rfl
    .exact hN' _ _ ⟨s4,by rw[uI hx h2]⟩
   .rintro out H4 ⟨s4,rfl⟩;refine⟨⟨_,SqL.of (s4 _ _ G_),by rw[Lz];exact LC _⟩,λD hD=>⟨b5 (by rw[Lz];exact S' _ _ M' _),?_⟩⟩;rw[LN (LC _)];obtain⟨H5,e5,f5,m5,_⟩:=b0 (H:=H4) (o:= .lst ((tc.filter λx=>!decide (x∈b)).map V.str)) hD;show Q _ (upd H4 D _);rw[e5];refine k D H5 _ (s_.free (m3.free (s4.free hD))) (s_.trans (m3.trans (s4.trans m5))) f5 ?_;unfold X6;rw[hn];dsimp only;rw[if_pos h1,Zt]
  .have j':b.length<r1.length:=by
    rcases S.is1 hn with⟨_,z⟩|⟨z,_⟩
    .exact z
    .exact absurd z h1
   have hm:n∈Pc.pts.map (·.1):=by
    rcases LO.mp (S.o.mem.mp (LV hn)) with z|z
    .exact z
    .exact absurd z h1
   obtain⟨y,hy,ey⟩:=LB.mp hm;obtain⟨v,hv,lv,rfl,G_⟩:=qO (R:=λv (x:Str×Str)=>LstAt H2 v (uj L gp fx x.1)) (show Paired _ _ _ from X2.ch) (D0 S.nd) hy;rw[ey] at hv G_;have M':(uj L gp fx n).length<=60:=Mb (LQ _ _) (Mb (LQ _ _) Zh);generalize Zt:uj L gp fx n=tc at G_ M';symm;refine C3 (v:= .ref lv) (by have z:=O8 (k:=Sum.inr n) (.inl X2.hc);rw[hv] at z;exact z) ?_;refine k8 (SqL.of G_) ?_;refine j9 (n:=tc.length) (λi out H'=>Same H2 H'/\out=((tc.take i).filter λx=>!decide (x∈b)).map V.str) ⟨Same.refl _,rfl⟩ (λi out H' hi hp=>⟨_,.str (tc[i]),SqL.of (hp.1 _ _ G_),by rw[LF,LA hi];rfl⟩) ?_ ?_
   .rintro N i v out H4' H4 hi ⟨s4,rfl⟩ y hN';obtain⟨rfl,hy⟩:=Itl.get y (SqL.of (s4 _ _ G_));rw[LF] at hy;obtain⟨x,hx,rfl⟩:=MD.mp hy;symm;refine⟨rfl,?_⟩;symm;refine R8 (gs:=b) (SqL.of (s4 _ _ Rn)) ?_;symm;refine Q0 (λh2=>?_) (λh2=>?_)
    .symm;refine⟨b5 (by rw[Lz];exact S' _ _ M' _),hN' _ _ ⟨s4,?_⟩⟩;rw[xu hx h2,LK];rfl
    .exact hN' _ _ ⟨s4,by rw[uI hx h2]⟩
   .rintro out H4 ⟨s4,rfl⟩;refine⟨⟨_,SqL.of (s4 _ _ G_),by rw[Lz];exact LC _⟩,λD hD=>⟨b5 (by rw[Lz];exact S' _ _ M' _),?_⟩⟩;rw[LN (LC _)];obtain⟨H5,e5,f5,m5,_⟩:=b0 (H:=H4) (o:= .lst ((tc.filter λx=>!decide (x∈b)).map V.str)) hD;have WO:(tc.filter λx=>!decide (x∈b)).length<=60:=Mb (LQ _ _) M';generalize hun:(tc.filter λx=>!decide (x∈b))=un at e5 f5 WO⊢;change O5 _ _ _ (upd H4 D _) _;rw[e5];have Ss:=s4.trans m5;have X5:=X2.same Ss;symm;refine k8 (SqL.of f5) ?_;refine j9 (n:=un.length) (λi out H'=>Same H5 H'/\out=((un.take i).filter λim=>zj ((bY Pc.ts n).map (wW W gt fx (r1++r2) (b++[im])))).map V.str) ⟨Same.refl _,rfl⟩ (λi out H' hi hp=>⟨_,.str (un[i]),SqL.of (hp.1 _ _ f5),by rw[LF,LA hi];rfl⟩) ?_ ?_
    .rintro N i v out H6' H6 hi ⟨s6,rfl⟩ y hN';obtain⟨rfl,hy⟩:=Itl.get y (SqL.of (s6 _ _ f5));rw[LF] at hy;obtain⟨x,hx,rfl⟩:=MD.mp hy;symm;refine⟨rfl,?_⟩;symm;have Vj:r1[b.length]=n:=by
      rw[MF j',LA j'] at hn;exact Mc hn
     have ends:∀t∈bY Pc.ts n,t.2.2.1∈((r1++r2).zip b++[(n,x)]).map (·.1)/\t.2.2.2∈((r1++r2).zip b++[(n,x)]).map (·.1):=λt ht=>by
      unfold bY at ht;rw[LW,Mg] at ht;have he:=S.ends t ht.1;rw[←gE hn];have q1:¬(r1[b.length].cps.toList<t.2.2.1.cps.toList):=by
       rw[Vj,←ht.2];unfold Ci;split
       .next z=>exact PZ z
       .exact Pz _
      have q2:¬(r1[b.length].cps.toList<t.2.2.2.cps.toList):=by
       rw[Vj,←ht.2];unfold Ci;split
       .exact Pz _
       .next z=>exact z
      obtain⟨j1,a1,b1⟩:=jJ S j' he.1 q1;obtain⟨j2,a2,b2⟩:=jJ S j' he.2 q2;exact⟨qf b1 (by rw[LJ,Ml];lia),qf b2 (by rw[LJ,Ml];lia)⟩
     refine⟨a,p,q,c,pl,d,kvs,y_,e_,L,Pc,W,r1,r2,gp,gt,fx,(r1++r2).zip b,n,x,rfl,X5.same s6,s6 _ _ (Ss _ _ f2),by rw[Pj];lia,yd nn hn,ends,λH7 m7=>?_⟩;have een:((bY Pc.ts n).map λt=>vT W gt fx t.1 (t.2.1,g0 (i8 ((r1++r2).zip b++[(n,x)])) t.2.2.1,g0 (i8 ((r1++r2).zip b++[(n,x)])) t.2.2.2))=(bY Pc.ts n).map (wW W gt fx (r1++r2) (b++[x])):=by
      rw[←gE hn];rfl
     rw[een];symm;refine Q0 (λh2=>?_) (λh2=>?_)
     .symm;refine⟨b5 (by rw[Lz];exact S' _ _ WO _),hN' _ _ ⟨s6.trans m7,?_⟩⟩;rw[xu hx h2,LK];rfl
     .exact hN' _ _ ⟨s6.trans m7,by rw[uI hx h2]⟩
    .rintro out H6 ⟨s6,rfl⟩;refine⟨⟨_,SqL.of (s6 _ _ f5),by rw[Lz];exact LC _⟩,λD2 hD2=>⟨b5 (by rw[Lz];exact S' _ _ WO _),?_⟩⟩;rw[LN (LC _)];obtain⟨H7,e7,f7,m7,_⟩:=b0 (H:=H6) (o:= .lst ((un.filter λim=>zj ((bY Pc.ts n).map (wW W gt fx (r1++r2) (b++[im])))).map V.str)) hD2;show Q _ (upd H6 D2 _);rw[e7];refine k D2 H7 _ (s_.free (Ss.free (s6.free hD2))) (s_.trans (Ss.trans (s6.trans m7))) f7 ?_;unfold X6;rw[hn];dsimp only;rw[if_neg h1,Zt,hun]
def ql (img:List Str->List Str):Nat->List Str->Nat
 |0,_=>1
 |k+1,b=>1+((img b).map λx=>ql img k (b++[x])).sum
theorem AL {α:Type}{f:α->Nat}{B:Nat}:∀{l:List α},(∀x∈l,f x<=B)->(l.map f).sum<=l.length*B
 |[],_=>by simp
 |x::l,h=>by
  have z:=AL (l:=l) λy hy=>h y (LY _ hy);have z1:=h x LS;rw[MG,QY,Mi,Sh];lia
def FK {img:List Str->List Str}{k:Nat}{b:List Str}:1<=ql img k b:=by
 cases k with
 |zero=>exact LC _
 |succ k=>show 1<=1+_;lia
theorem vc {α:Type}{f:α->Nat}:∀{l:List α},(∀x∈l,1<=f x)->l.length<=(l.map f).sum
 |[],_=>LC _
 |x::l,h=>by
  have z:=vc (l:=l) λy hy=>h y (LY _ hy);have z1:=h x LS;rw[MG,QY,Mi];lia
def uN {L:Str->Str->Bool}{Pc W:p8}{s1 s2 gp gt:List Str}{fx:List (Str×Str)}(S:SrchP L Pc W s1 s2 gp gt fx)(b:List Str):(X6 L Pc W gp gt fx (s1++s2) b).length<=max W.pts.length W.ts.length:=by
 have h1:=S.o'.p1.length_eq;have h2:=S.o'.p2.length_eq;rw[Lz] at h1 h2;unfold X6;split
 .simp
 .split
  .exact Mb (LQ _ _) (Mb (LQ _ _) (by lia))
  .exact Mb (LQ _ _) (Mb (LQ _ _) (Mb (LQ _ _) (Mb (LQ _ _) (by lia))))
theorem uU {c:Str}:∀{l:List Str},l.Nodup->(∀x∈l,x=c)->l.length<=1
 |[],_,_=>Nd _
 |[_],_,_=>LC _
 |x::y::l,nd,h=>by
  have e1:=h x (by simp);have e2:=h y (by simp);rw[e1,e2] at nd;exact absurd LS (MN.mp nd).1
def BI {L:Str->Str->Bool}{Pc W:p8}{s1 s2 gp gt:List Str}{fx:List (Str×Str)}(S:SrchP L Pc W s1 s2 gp gt fx){b:List Str}{n:Str}(hn:(s1++s2)[b.length]?=some n)(hf:n∈fx.map (·.1)):(X6 L Pc W gp gt fx (s1++s2) b).length<=1:=by
 have T':gp.Nodup:=S.o'.p1.nodup_iff.mpr (D0 S.nd');have Ut:gt.Nodup:=S.o'.p2.nodup_iff.mpr (L9 S.nd');have hm:∀im,Q4 fx n im=true->im=g0 (i8 fx) n:=λim h=>by
  unfold Q4 at h;rw[if_pos hf] at h;exact ME h
 unfold X6;rw[hn];show(if _ then _ else _:List Str).length<=1;split
 .refine uU (c:=g0 (i8 fx) n) ((Ut.sublist MO).sublist MO) λx hx=>?_;have z:=(LW.mp (LW.mp hx).1).2;exact hm x (Bool.and_eq_true_iff.mp z).2
 .refine uU (c:=g0 (i8 fx) n) ((((T'.sublist MO).sublist MO).sublist MO).sublist MO) λx hx=>?_;exact hm x (LW.mp (LW.mp (LW.mp hx).1).1).2
theorem AY {L:Str->Str->Bool}{Pc W:p8}{s1 s2 gp gt:List Str}{fx:List (Str×Str)}(S:SrchP L Pc W s1 s2 gp gt fx):∀(k:Nat) (b:List Str),b.length+k=(s1++s2).length->ql (X6 L Pc W gp gt fx (s1++s2)) k b<=(k+1)*(max W.pts.length W.ts.length+1) ^ (((s1++s2).drop b.length).filter (dR fx)).length
 |0,b,_=>by
  show 1<=_;rw[Nat.zero_add,Nat.one_mul];exact Nat.one_le_pow _ _ (by lia)
 |k+1,b,hk=>by
  obtain⟨n,hn⟩:∃n,(s1++s2)[b.length]?=some n:=⟨_,LA (by lia)⟩
  have hd:(s1++s2).drop b.length=n::(s1++s2).drop (b.length+1):=by
   rw[ML (by lia)];rw[LA (by lia)] at hn;rw[Mc hn]
  have hM:=uN S b;generalize hMM:max W.pts.length W.ts.length=M at*;have ih:∀x∈X6 L Pc W gp gt fx (s1++s2) b,ql (X6 L Pc W gp gt fx (s1++s2)) k (b++[x])<=(k+1)*(M+1) ^ (((s1++s2).drop (b.length+1)).filter (dR fx)).length:=λx _=>by
   have z:=AY S k (b++[x]) (by rw[LJ,Ml];lia);rw[LJ,Ml,hMM] at z;exact z
  have z:=AL (f:=λx=>ql (X6 L Pc W gp gt fx (s1++s2)) k (b++[x])) ih;have z2:1<=(M+1) ^ (((s1++s2).drop (b.length+1)).filter (dR fx)).length:=Nat.one_le_pow _ _ (by lia);show 1+_<=(k+1+1)*_;rw[hd,Oq];generalize hc:(((s1++s2).drop (b.length+1)).filter (dR fx)).length=c at*;by_cases hf:n∈fx.map (·.1)
  .have h1:=BI S hn hf;rw[if_neg (by unfold dR;simp [hf]),hc];have z3:(X6 L Pc W gp gt fx (s1++s2) b).length*((k+1)*(M+1) ^ c)<=1*((k+1)*(M+1) ^ c):=RQ _ h1;rw[Sh (k+1) 1];lia
  .rw[if_pos (by unfold dR;simp [hf]),Mi,hc,Nat.pow_succ];have z3:(X6 L Pc W gp gt fx (s1++s2) b).length*((k+1)*(M+1) ^ c)<=M*((k+1)*(M+1) ^ c):=RQ _ hM;have e1:(k+1+1)*((M+1) ^ c*(M+1))=M*((k+1)*(M+1) ^ c)+((k+1)*(M+1) ^ c+((M+1) ^ c*(M+1))):=by
    rw[Sh (k+1) 1,Nat.one_mul,←Nat.mul_assoc (k+1),Nat.mul_add ((k+1)*(M+1) ^ c) M 1,Nat.mul_one,Nat.mul_comm ((k+1)*(M+1) ^ c) M];lia
   rw[e1];have z4:1<=(k+1)*(M+1) ^ c:=Nat.mul_pos (by lia) z2;lia
def BD (mo:Option Nat)(rows:List (List Str)):List (List Str):=match mo with
 |none=>rows
 |some k=>rows.take k
def Lc (mo:Option Nat)(n:Int):Bool:=match mo with
 |none=>true
 |some k=>!decide (n=(k:Int))
def FL (mv:V)(mo:Option Nat):Prop:=(mv= .non/\mo=none)\/(mv= .int 1/\mo=some 1)
def LoAt (H:Hp)(t w:Addr)(xs:List V)(ls:List (List Str)):Prop:=Paired (λv l=>∃a,v=V.ref a/\a≠t/\a≠w/\H a=some (.lst (l.map V.str))) xs ls
def LoAt.same {H H':Hp}{t w:Addr}{xs:List V}{ls:List (List Str)}(h:LoAt H t w xs ls)(s:Same H H'):LoAt H' t w xs ls:=Paired.imp' (λ_ _ ⟨a,e,n,m,z⟩=>⟨a,e,n,m,s _ _ z⟩) h
def LoAt.upT {H:Hp}{t w:Addr}{xs:List V}{ls:List (List Str)}{u:HO}(h:LoAt H t w xs ls):LoAt (upd H t u) t w xs ls:=Paired.imp' (λ_ _ ⟨a,e,n,m,z⟩=>⟨a,e,n,m,by rw[b7 n];exact z⟩) h
def LoAt.upW {H:Hp}{t w:Addr}{xs:List V}{ls:List (List Str)}{u:HO}(h:LoAt H t w xs ls):LoAt (upd H w u) t w xs ls:=Paired.imp' (λ_ _ ⟨a,e,n,m,z⟩=>⟨a,e,n,m,by rw[b7 m];exact z⟩) h
def ph {α β : Type} {F : α -> β -> Prop} : ∀ {xs : List α} {ls : List β}, Paired F xs ls -> xs ≠ [] -> ∃ XO x XQ l, xs = XO ++ [x] /\ ls = XQ ++ [l] /\ Paired F XO XQ /\ F x l
 := by
  intro xs ls hp u_;induction hp with
  | nil => exact absurd rfl u_
  | @cons x l xs ls a t ih =>
    cases t with
    | nil => exact ⟨[], x, [], l, rfl, rfl, .nil, a⟩
    | cons b t' =>
      obtain ⟨XO, x', XQ, l', e1, e2, h1, h2⟩ := ih (by simp)
      exact ⟨x :: XO, x', l :: XQ, l', by rw [e1]; rfl, by rw [e2]; rfl, .cons a h1, h2⟩
structure LI (mo:Option Nat) (K:Za) (img:List Str->List Str) (n:Nat) (H0 H':Hp) (tl wl:Addr) (xt xw:List V) (rows bs:List (List Str)) (m:Nat):Prop where
 s:Same H0 H'
 ht:H' tl=some (.lst xt)
 hw:H' wl=some (.lst xw)
 lt:LoAt H' tl wl xt rows
 lw:LoAt H' tl wl xw bs
 bl:∀b∈bs,b.length<=n
 sum:m=(bs.map λb=>ql img (n -b.length) b).sum
 all:rows++bs.reverse.flatMap (λb=>ik img (n -b.length) b)=ik img n []
 big:rows.length+m<=7000000
 le1:mo=some 1->rows.length<=1
def qP (K:Za):Sp:=λvs H Q _=>∃(a p q c pl:Addr) (kvs y_ e_:List (i6×V)) (L:Str->Str->Bool) (Pc W:p8) (s1 s2 gp gt:List Str) (fx:List (Str×Str)) (mv:V) (mo:Option Nat),vs=[.ref a,.ref c,.ref pl,mv]/\FL mv mo/\Sx K H a p q c pl kvs y_ e_ L Pc W s1 s2 gp gt fx/\
 ∀(l:Addr) (H':Hp) (xs:List V),H l=none->Same H H'->H' l=some (.lst xs)->LsAt H' xs (BD mo (jd Pc W s1 s2 gp gt fx))->(jd Pc W s1 s2 gp gt fx).length<=7000000->Q (.ref l) H'
def pN {n:Nat}(h:n<=16000000):n<sizeLine:=Oz h (by decide)
def pR {H:Hp}{Q:VK}{i:Int}(q:Q (.bl true) H):rq K (.int i) .non H Q:= .inl (.inl (.inl ⟨rfl,by simpa using q⟩))
def yg {H:Hp}{Q:VK}{i:Int}{mv:V}{mo:Option Nat}(h:FL mv mo)(q:Q (.bl (Lc mo i)) H):rq K (.int i) mv H Q:=by
 rcases h with⟨rfl,rfl⟩|⟨rfl,rfl⟩
 .exact pR q
 .exact rO q
theorem vR {img:List Str->List Str}:∀{k:Nat} {b:List Str},(ik img k b).length<=ql img k b
 |0,_=>LC _
 |k+1,b=>by
  show((img b).flatMap λx=>ik img k (b++[x])).length<=1+((img b).map λx=>ql img k (b++[x])).sum;rw[List.length_flatMap];have z:((img b).map λx=>(ik img k (b++[x])).length).sum<=((img b).map λx=>ql img k (b++[x])).sum:=by
   generalize img b=l;induction l with
   |nil=>exact LC _
   |cons x l ih=>
    rw[MG,MG,QY,QY]
    exact Nat.add_le_add vR ih
  lia
abbrev vm:=λP w K mg base=>K3 P w K mg base A9 5 "lines" ["piece","choices","places","most"] [] (qP K)
def AQ {f fd}(T:Txt K mg)(p7:M8 P w K mg base)(jV:qp P w K mg base)(F:Fun K "lines" "lines" pL f fd):x8 P w K mg base A9 5 f fd ["piece","choices","places","most"] (qP K):=by
 walk_at "#sc_lines"
 .obtain⟨a,p,q,c,pl,kvs,y_,e_,Lr,Pc,W,s1,s2,gp,gt,fx,mv,mo,rfl,_⟩:=h;rfl
 .obtain⟨a,p,q,c,pl,kvs,y_,e_,Lr,Pc,W,s1,s2,gp,gt,fx,mv,mo,rfl,VP,X0,k⟩:=h;have S:=X0.S;have XN:=S.o.len;have l1:=X0.l1;have l2:=X0.l2;have l2':=l2;rw[E4] at l2';have Vp:=Bu S;have hM:=uN S;have Zu:=AY S (s1++s2).length [] (by simp);have TK:=X0.big;rw[←XN,←(S.o.perm.filter (dR fx)).length_eq] at TK;rw[show([]:List Str).length=0 from rfl,Py] at Zu;walk_at "@sc_lines 543)7055U56.2U9'3FR BM>+06_c/l7503f57`-'0PySem.F.slot_list_pop '0PySem.F.type_list_pop '0oG 06h'3br cSl77l74fh%T-~3~2~10577hyB~vX23'0jV 6061e27o8h%T-~3~2~1062a07.78805"
  symm;refine⟨a,p,q,kvs,Pc,rfl,X0.at_,by lia,λln H1 r1 r2 n1 m1 f1 or=>?_⟩;have WL:r1=s1:=F5 or.o1 S.o.o1 (or.p1.nodup_iff.mpr (D0 S.nd)) (or.p1.trans S.o.p1.symm);have WN:r2=s2:=F5 or.o2 S.o.o2 (or.p2.nodup_iff.mpr (L9 S.nd)) (or.p2.trans S.o.p2.symm);subst WL WN;symm;refine⟨b5 (by simp),λtl ntl=>?_⟩;obtain⟨H2,e2,f2,m2,_⟩:=b0 (o:= .lst []) ntl;rw[e2];symm;refine⟨b5 (by simp),λl3 n3=>?_⟩;obtain⟨H3,e3,f3,m3,_⟩:=b0 (o:= .lst []) n3;rw[e3];symm;refine⟨b5 (by simp),λwl nwl=>?_⟩;obtain⟨H4,e4,f4,m4,_⟩:=b0 (o:= .lst [.ref l3]) nwl;rw[e4];symm;have XR:=m4 _ _ (m3 _ _ f2);have f3':=m4 _ _ f3;have h3t:l3≠tl:=(d9 f2 n3).symm;have h3w:l3≠wl:=d9 f3 nwl;have Zv:tl≠wl:=d9 (m3 _ _ f2) nwl;have Vq:=m2.trans (m3.trans m4);have WQ:H1 wl=none:=m2.free (m3.free nwl);generalize hN:(r1++r2).length=n at*;generalize Zw:X6 Lr Pc W gp gt fx (r1++r2)=img at*;refine⟨λm σ H'=>∃(xt xw:List V) (rows bs:List (List Str)) (v1 v2:Option V),σ=[some (.ref a),some (.ref c),some (.ref pl),some mv,some (.ref ln),some (.ref tl),some (.ref wl),v1,v2]/\LI mo K img n H1 H' tl wl xt xw rows bs m,⟨_,[],[.ref l3],[],[[]],none,none,rfl,⟨Vq,XR,f4,.nil,.cons ⟨l3,rfl,h3t,h3w,f3'⟩ .nil,(λb hb=>by rw[Me.mp hb];exact Nd _),rfl,by simp,?_,λ_=>Nd _⟩⟩,?_⟩
  .show 0+(ql img n []+0)<=7000000;lia
  rintro m σ H5 ⟨xt,xw,rows,bs,v1,v2,rfl,L⟩;have Uu:bs.length<=m:=by rw[L.sum];exact vc λ_ _=>FK
  have I_:=Mj L.lw;have XI:=Mj L.lt;have hb5:=L.big;symm;refine⟨!xw.isEmpty,.inl ⟨_,SqL.of L.hw,rfl⟩,?_⟩;cases VQ:xw.isEmpty with
  |true=>
   symm
   have Zx:xw=[]:=by simpa using VQ
   have D_:bs=[]:=by
    have:bs.length=0:=by rw[←I_,Zx];rfl
    exact MZ this
   have ha:=L.all
   rw[D_] at ha
   simp only[List.reverse_nil,List.flatMap_nil,MM] at ha
   rw[Vp] at ha
   have hle:=L.le1
   refine k tl H5 xt (m1.free ntl) (m1.trans L.s) L.ht ?_ ?_
   .rw[←ha]
    have e:BD mo rows=rows:=by
     rcases VP with⟨_,rfl⟩|⟨_,rfl⟩
     .rfl
     .exact LN (hle rfl)
    rw[e]
    exact Paired.imp' (λ_ _ ⟨a,e,_,_,z⟩=>⟨a,e,z⟩) L.lt
   .rw[←ha];lia
  |false=>
   have Zy:xw≠[]:=by
    intro z;rw[z] at VQ;cases VQ
   symm
   refine D6 (z7 (SqL.of L.ht) ?_)
   symm
   refine yg VP ?_
   symm
   refine Q0 (λR_=>?_) (λR_=>?_)
   case refine_2=>
    symm
    have o_:=L.all
    rw[Vp] at o_
    have h1:mo=some 1/\rows.length=1:=by
     rcases VP with⟨_,rfl⟩|⟨_,rfl⟩
     .cases R_
     .refine⟨rfl,?_⟩;have z:(!decide ((xt.length:Int)=((1:Nat):Int)))=false:=R_;simp at z;lia
    have hel:=vR (img:=img) (k:=n) (b:=[])
    rw[Vp] at hel
    refine k tl H5 xt (m1.free ntl) (m1.trans L.s) L.ht ?_ (by lia)
    rw[h1.1,←o_]
    show LsAt H5 xt (List.take 1 _)
    rw[Ot (by lia),LN (by lia)]
    exact Paired.imp' (λ_ _ ⟨a,e,_,_,z⟩=>⟨a,e,z⟩) L.lt
   have Zz:mo=some 1->rows.length=0:=λe=>by
    have z:=L.le1 e;subst e;have z2:(!decide ((xt.length:Int)=((1:Nat):Int)))=true:=R_;simp at z2;lia
   refine⟨λσ' H'=>∃m',m'<m/\∃(xt xw:List V) (rows bs:List (List Str)) (v1 v2:Option V),σ'=[some (.ref a),some (.ref c),some (.ref pl),some mv,some (.ref ln),some (.ref tl),some (.ref wl),v1,v2]/\LI mo K img n H1 H' tl wl xt xw rows bs m',λσ' H' z=>z,?_⟩
   obtain⟨S_,xv,RW,b,exw,VR,lw',a5,rfl,VS,ZA,hb⟩:=ph L.lw Zy
   have hmb:b∈bs:=by rw[VR];simp
   have hbn:=L.bl b hmb
   have Ta:=L.sum
   rw[VR,LK,List.sum_append] at Ta
   have Vj:([b].map λb=>ql img (n -b.length) b).sum=ql img (n -b.length) b:=by simp
   rw[Vj] at Ta
   have o_:=L.all
   rw[VR,Si,List.reverse_singleton,List.singleton_append,Oe] at o_
   have hb'l:RW.length<=m:=by rw[VR,LJ] at Uu;lia
   have hxw':=Mj lw'
   symm
   refine⟨.inl ⟨rfl,_,SqL.of L.hw⟩,?_⟩
   symm
   refine⟨wl,xw,.ref a5,rfl,rfl,L.hw,by rw[exw];simp,?_⟩
   rw[show xw.dropLast=S_ by rw[exw];simp]
   have s6:Same H1 (upd H5 wl (.lst S_)):=E9 L.s WQ
   have f6:(upd H5 wl (.lst S_)) wl=some (.lst S_):=d8
   have t6:(upd H5 wl (.lst S_)) tl=some (.lst xt):=by rw[b7 Zv];exact L.ht
   have b6:(upd H5 wl (.lst S_)) a5=some (.lst (b.map V.str)):=by rw[b7 ZA];exact hb
   have ZC:LoAt (upd H5 wl (.lst S_)) tl wl xt rows:=L.lt.upW
   have ZD:LoAt (upd H5 wl (.lst S_)) tl wl S_ RW:=LoAt.upW (show LoAt H5 tl wl S_ RW from lw')
   generalize upd H5 wl (.lst S_)=H6 at s6 f6 t6 b6 ZC ZD⊢
   symm
   refine D6 (z7 (SqL.of b6) ?_)
   rw[Lz]
   symm
   refine D6 (z7 (SqL.of (s6 _ _ f1)) ?_)
   rw[Lz,hN]
   symm
   refine M4 (λh1=>?_) (λh1=>?_)
   .have RL:b.length=n:=by lia
    symm
    refine⟨.inl ⟨rfl,_,SqL.of t6⟩,?_⟩
    symm
    refine⟨tl,xt,.ref a5,rfl,rfl,t6,pN (by lia),?_⟩
    rw[RL,Nat.sub_self] at Ta o_
    have e1:ql img 0 b=1:=rfl
    have e2:ik img 0 b=[b]:=rfl
    rw[e1] at Ta
    rw[e2] at o_
    have ZE:H1 tl=none:=ntl
    refine⟨m -1,by lia,xt++[.ref a5],S_,rows++[b],RW,_,_,rfl,⟨E9 s6 ZE,d8,by rw[b7 Zv.symm];exact f6,w4 ZC.upT ⟨a5,rfl,VS,ZA,by rw[b7 VS];exact b6⟩,ZD.upT,λb' x_=>L.bl b' (by rw[VR];exact LH _ x_),by lia,by rw[Mv];exact o_,by rw[LJ,Ml];lia,λe=>by rw[LJ,Ml,Zz e];exact LC _⟩⟩
   .have RL:b.length<n:=by lia
    obtain⟨kk,RV⟩:∃kk,n -b.length=kk+1:=⟨n -b.length -1,by lia⟩
    symm
    refine⟨a,p,q,c,pl,a5,kvs,y_,e_,Lr,Pc,W,r1,r2,gp,gt,fx,b,rfl,X0.same (m1.trans s6),b6,by lia,λli H7 ss n7 m7 f7 hss=>?_⟩
    rw[Zw] at hss
    subst hss
    symm
    refine⟨li,_,rfl,SqL.of f7,?_⟩
    have Zf:=hM b
    have hlit:li≠tl:=(d9 t6 n7).symm
    have ZF:li≠wl:=(d9 f6 n7).symm
    refine K5 (n:=(img b).length) (λi σ H'=>∃(Vr:List V) (v2:Option V),σ=[some (.ref a),some (.ref c),some (.ref pl),some mv,some (.ref ln),some (.ref tl),some (.ref wl),some (.ref a5),v2]/\Same H1 H'/\H' li=some (.lst ((img b).map V.str))/\H' tl=some (.lst xt)/\H' wl=some (.lst Vr)/\H' a5=some (.lst (b.map V.str))/\LoAt H' tl wl xt rows/\LoAt H' tl wl Vr (RW++((img b).reverse.take i).map λx=>b++[x])) ⟨S_,v2,rfl,s6.trans m7,f7,m7 _ _ t6,m7 _ _ f6,m7 _ _ b6,ZC.same m7,by simpa using ZD.same m7⟩ (λi σ H' hi hp=>?_) ?_ ?_
    .obtain⟨_,_,_,_,z,_⟩:=hp
     exact⟨SqL.of z,by rw[Lz];exact hi⟩
    .rintro bk i v σ H8' H8 hi ⟨Vr,v2',rfl,s8,g8,t8,w8,b8,lt8,lw8⟩ ⟨rfl,hv⟩ _ _
     rw[Lz] at hv
     have ZG:(img b).reverse[i]?=(img b)[(img b).length -1 -i]?:=List.getElem?_reverse hi
     rw[LF,←ZG] at hv
     obtain⟨x,hx,rfl⟩:=MD.mp hv
     have hl8:=Mj lw8
     rw[LJ,Lz,LM] at hl8
     symm
     refine⟨.inl ⟨rfl,_,SqL.of w8⟩,?_⟩
     symm
     refine⟨b5 (by simp),λl9 n9=>?_⟩
     obtain⟨H9,e9,f9,m9,_⟩:=b0 (o:= .lst [.str x]) n9
     rw[e9]
     refine eh (m9 _ _ b8) f9 (OU (b5 (by rw[Lz];simp;lia))) (λWR n10=>?_)
     obtain⟨WS,Vs,Vt,T_,_⟩:=b0 (o:= .lst (b.map V.str++[.str x])) n10
     rw[Vs]
     have RX:=m9.trans T_
     have ZH:WR≠tl:=(d9 (m9 _ _ t8) n10).symm
     have WT:WR≠wl:=(d9 (m9 _ _ w8) n10).symm
     symm
     refine⟨wl,Vr,.ref WR,rfl,rfl,RX _ _ w8,pN (by lia),?_⟩
     walk_at "X"
     refine⟨Vr++[.ref WR],_,rfl,E9 (s8.trans RX) WQ,by rw[b7 ZF];exact RX _ _ g8,by rw[b7 Zv];exact RX _ _ t8,d8,by rw[b7 ZA];exact RX _ _ b8,(lt8.same RX).upW,?_⟩
     rw[Mt,hx,LK,←Mv]
     refine w4 (lw8.same RX).upW ⟨WR,rfl,ZH,WT,?_⟩
     rw[b7 WT,Vt,LK];rfl
    .rintro σ H8 ⟨Vr,v2',rfl,s8,g8,t8,w8,b8,lt8,lw8⟩
     rw[LN (by rw[List.length_reverse];exact LC _)] at lw8
     refine⟨by show(img b).length=((img b).map V.str).length;rw[Lz],?_⟩
     rw[RV] at Ta o_
     have e1:ql img (kk+1) b=1+((img b).map λx=>ql img kk (b++[x])).sum:=rfl
     have e2:ik img (kk+1) b=(img b).flatMap λx=>ik img kk (b++[x]):=rfl
     rw[e1] at Ta
     rw[e2] at o_
     have ek:∀x:Str,n -(b++[x]).length=kk:=λx=>by rw[LJ,Ml];lia
     have eS:(((img b).reverse.map λx=>b++[x]).map λb=>ql img (n -b.length) b).sum=((img b).map λx=>ql img kk (b++[x])).sum:=by
      rw[Mo,List.map_reverse,List.sum_reverse];exact Na List.sum (MX λx _=>by show ql img (n -(b++[x]).length) (b++[x])=_;rw[ek x])
     refine⟨m -1,by lia,xt,Vr,rows,RW++(img b).reverse.map λx=>b++[x],_,_,rfl,⟨s8,t8,w8,lt8,lw8,λb' x_=>?_,?_,?_,by lia,L.le1⟩⟩
     .rcases LO.mp x_ with z|z
      .exact L.bl b' (by rw[VR];exact LH _ z)
      .obtain⟨x,_,rfl⟩:=LB.mp z
       rw[LJ,Ml];lia
     .rw[LK,List.sum_append,eS];lia
     .rw[Si,←List.map_reverse,List.reverse_reverse,List.flatMap_append,List.flatMap_map]
      rw[←o_]
      congr 1
      congr 1
      exact fg λx _=>by rw[ek x]
def qw (W:p8):List Str:=ua (W.pts.map (·.1))
def si (W:p8):List Str:=ua (W.ts.map (·.1))
def dJ (W:p8):List Str:=qw W++si W
noncomputable def B9 (Pc W:p8)(fx:List (Str×Str)):List (List Str):=jd Pc W (qw Pc) (si Pc) (qw W) (si W) fx
def Q1 (W:p8):Ordr W (qw W) (si W):=⟨iR _,iR _,qj _,qj _⟩
def DcAt (H:Hp)(nm:List Str)(xs:List V)(rows:List (List Str)):Prop:=Paired (λv row=>∃d,v=V.ref d/\H d=some (.dK (i8 (nm.zip row)))) xs rows
def DcAt.same {H H':Hp}{nm:List Str}{xs:List V}{rows:List (List Str)}(h:DcAt H nm xs rows)(s:Same H H'):DcAt H' nm xs rows:=Paired.imp' (λ_ _ ⟨d,e,z⟩=>⟨d,e,s _ _ z⟩) h
def HR (H:Hp)(p q:Addr)(fv:V)(fx:List (Str×Str)):Prop:=(fv= .non/\fx=[])\/∃d,fv= .ref d/\H d=some (.dK (i8 fx))/\d≠p/\d≠q
structure Mx (K:Za) (H:Hp) (a p q a' p' q':Addr) (kvs d_:List (i6×V)) (Pc W:p8) (fx:List (Str×Str)):Prop where
 P:WebIs 60 K H a p q kvs Pc
 G:WebIs 60 K H a' p' q' d_ W
 big:((b4 Pc).length+1)*(max W.pts.length W.ts.length+1) ^ ((b4 Pc).filter (dR fx)).length<=7000000
 fnd:(fx.map (·.1)).Nodup
 fin:∀x∈fx,x.1∈b4 Pc
structure LkP (K:Za) (H:Hp) (pl wl:Addr) (e_ z_:List (i6×V)) (L:Str->Str->Bool) (Pc W:p8):Prop where
 hp:H pl=some (.dK e_)
 kp:e_.map (·.1)=(Pc.pts.map (·.1)).map Sum.inr
 hg:Rd H wl (.dK z_)
 kg:z_.map (·.1)=(W.pts.map (·.1)).map Sum.inr
 eq:∀(n:Str) (v:V) (m:Str) (u:V),(Sum.inr n,v)∈e_->k9 z_ (Sum.inr m:i6)=some u->EqA K H u v (L n m)
 ls:∀n x,n∈Pc.pts.map (·.1)->x∈W.pts.map (·.1)->L n x=true->g0 (i8 W.pts) x=g0 (i8 Pc.pts) n
 lc:∀row,FitP Pc W (i8 ((dJ Pc).zip row))->∀x∈Pc.pts,L x.1 (gv (dJ Pc) row x.1)=true
def LkP.same {H H':Hp}{pl wl:Addr}{e_ z_:List (i6×V)}{L:Str->Str->Bool}{Pc W:p8}(h:LkP K H pl wl e_ z_ L Pc W)(s:Same H H'):LkP K H' pl wl e_ z_ L Pc W:=⟨s _ _ h.hp,h.kp,s.rd h.hg,h.kg,λn v m u a b=>(h.eq n v m u a b).mono s.le,h.ls,h.lc⟩
def IK (H:Hp)(Q:VK)(mo:Option Nat)(Pc W:p8)(fx:List (Str×Str)):Prop:=∀(l:Addr) (H':Hp) (xs:List V),H l=none->Same H H'->H' l=some (.lst xs)->DcAt H' (dJ Pc) xs (BD mo (B9 Pc W fx))->(B9 Pc W fx).length<=7000000->(∀x∈xs,∃d,x=V.ref d/\H d=none)->Q (.ref l) H'
def qU (K:Za):Sp:=λvs H Q _=>∃(a p q a' p' q' pl wl:Addr) (kvs d_ e_ z_:List (i6×V)) (L:Str->Str->Bool) (Pc W:p8) (fx:List (Str×Str)) (fv mv:V) (mo:Option Nat),vs=[.ref a,.ref a',.ref pl,.ref wl,fv,mv]/\Mx K H a p q a' p' q' kvs d_ Pc W fx/\LkP K H pl wl e_ z_ L Pc W/\FL mv mo/\HR H pl q fv fx/\IK H Q mo Pc W fx
def Ca {H:Hp}{a p q a' p' q' pl wl:Addr}{kvs d_ e_ z_:List (i6×V)}{L:Str->Str->Bool}{Pc W:p8}{fx:List (Str×Str)}(h:Mx K H a p q a' p' q' kvs d_ Pc W fx)(l:LkP K H pl wl e_ z_ L Pc W):SrchP L Pc W (qw Pc) (si Pc) (qw W) (si W) fx:=
 ⟨Q1 _,Q1 _,h.P.nd,h.G.nd,h.P.ends,h.fnd,h.fin,l.ls,l.lc⟩
theorem DB {H:Hp}{F:Str×Str->List Str}:∀{kvs:List (i6×V)} {pts:List (Str×Str)},ChAt H F kvs pts->LsAt H (kvs.map (·.2)) (pts.map F)
 |_,_,.nil=> .nil
 |_,_,.cons a t=> .cons a.2 (DB t)
def Mx.same {H0 H1:Hp}{a p q a' p' q':Addr}{kvs d_:List (i6×V)}{Pc W:p8}{fx:List (Str×Str)}(h:Mx K H0 a p q a' p' q' kvs d_ Pc W fx)(s:Same H0 H1):Mx K H1 a p q a' p' q' kvs d_ Pc W fx:=⟨h.P.same s,h.G.same s,h.big,h.fnd,h.fin⟩
def Dz {mo:Option Nat}{rows:List (List Str)}:(BD mo rows).length<=rows.length:=by
 cases mo with
 |none=>exact LC _
 |some k=>exact List.length_take_le' _ _
def Hb (Pc W:p8)(n m:Str):Bool:=decide (g0 (i8 W.pts) m=g0 (i8 Pc.pts) n)
def vY {H:Hp}{a p q a' p' q':Addr}{kvs d_:List (i6×V)}{Pc W:p8}{fx:List (Str×Str)}(M:Mx K H a p q a' p' q' kvs d_ Pc W fx):LkP K H p p' (i8 Pc.pts) (i8 W.pts) (Hb Pc W) Pc W:=by
 refine⟨M.P.hp,by rw[G1,A7],M.G.at_.pts,by rw[G1,A7],λn v m u h1 h2=>?_,λn x _ _ h=>ME h,λrow f x hx=>?_⟩
 .obtain⟨y,hy,e⟩:=LB.mp h1;have e1:y.1=n:=NH (OH e).1;have e2:V.str y.2=v:=(OH e).2;obtain⟨k',rfl,hk'⟩:=pW h2;refine .inl ⟨k',y.2,rfl,e2.symm,?_⟩;unfold Hb;rw[fR h2,←e1,G3 (D0 M.P.nd) (show(y.1,y.2)∈Pc.pts from hy)]
 .have z:=f.pts x hx;refine Ma ?_;rw[G3 (D0 M.P.nd) (show(x.1,x.2)∈Pc.pts from hx)];exact G3 (D0 M.G.nd) z
abbrev oz:=λP w K mg base=>K3 P w K mg base A9 6 "found" ["piece","web","piece_looks","web_looks","fixed","most"] [] (qU K)
def yI {f fd}(T:Txt K mg)(V5:bS P w K mg base)(aT:kN P w K mg base)(bg:gr P w K mg base)(p7:M8 P w K mg base)(oN:vm P w K mg base)(F:Fun K "found" "found" pv f fd):x8 P w K mg base A9 6 f fd ["piece","web","piece_looks","web_looks","fixed","most"] (qU K):=by
 walk_at "#sc_found"
 .obtain⟨a,p,q,a',p',q',pl,wl,kvs,d_,e_,z_,L,Pc,W,fx,fv,mv,mo,rfl,_⟩:=h;rfl
 .obtain⟨a,p,q,a',p',q',pl,wl,kvs,d_,e_,z_,L,Pc,W,fx,fv,mv,mo,rfl,M0,L0,VP,hf,k⟩:=h;have S:=Ca M0 L0;have lP:=M0.P.len;have lW:=M0.G.len;have lP2:=lP;have lW2:=lW;rw[E4] at lP2 lW2;walk_at "@sc_found 56'3He c'0zK 04Pf#04573'0V5 62e369uN3'0aT 2w~0|{2`*~8~7~6078U583'0bg 60e16593)708mrow;9;k3'0oN 6067e85d0row,names;t~rXDGe10"
  refine DF (λσ H'=>∃d,σ=[some (.ref a),some (.ref a'),some (.ref pl),some (.ref wl),some fv,some mv,some (.ref d),none,none,none]/\Same H H'/\H' d=some (.dK (i8 fx))/\d≠pl/\d≠q) ?_ ?_
  .rintro σ H1 ⟨d,rfl,m1,hd,Vk,Vl⟩;have M1:=M0.same m1;have L1:=L0.same m1;symm;refine⟨pl,wl,d,e_,z_,Pc.pts,W.pts,fx,L,qw W,rfl,L1.hp,L1.kp,D0 M1.P.nd,by lia,L1.hg,L1.kg,D0 M1.G.nd,by lia,(Q1 W).p1,(Q1 W).o1,L1.eq,hd,Vk,λc H2 y_ nc m2 hc ch=>?_⟩;have M2:=M1.same m2;symm;refine⟨.inr (.inr (.inl ⟨rfl,.inl ⟨_,hc⟩⟩)),?_⟩;symm;refine⟨c,_,rfl,rfl,.inl hc,λv3 n3=>?_⟩;obtain⟨H3,e3,f3,m3,_⟩:=b0 (o:= .ext (iI v3 c)) n3;rw[e3];symm;refine Z9 f3 (.inl (m3 _ _ hc)) (λl4 n4=>?_);obtain⟨H4,e4,f4,m4,_⟩:=b0 (o:= .lst _) n4;rw[e4];symm;have Su:=m3.trans m4;refine⟨l4,_,_,rfl,f4,LsAt.same (DB ch) Su,by rw[Lz];lia,λH5 m5=>?_⟩;have Ss:=Su.trans m5;have M5:=M2.same Ss;symm;refine hJ (λh1=>?_) (λh1=>?_)
   .symm;refine⟨b5 (by simp),λl6 n6=>?_⟩;obtain⟨H6,e6,f6,m6,_⟩:=b0 (o:= .lst []) n6;rw[e6];have e0:B9 Pc W fx=[]:=xK S h1;refine k l6 H6 [] (m1.free (m2.free (Ss.free n6))) (m1.trans (m2.trans (Ss.trans m6))) f6 (by rw[e0];rcases VP with⟨_,rfl⟩|⟨_,rfl⟩<;>exact .nil) (by rw[e0];exact Nd _) (λ_ h=>nomatch h)
   .symm;refine⟨a,p,q,a',p',q',d,kvs,d_,Pc,W,fx,si W,rfl,M5.P.at_,M5.P.hq,L9 M5.P.nd,by lia,M5.G.at_,L9 M5.G.nd,by lia,(Q1 W).p2,(Q1 W).o2,Ss _ _ (m2 _ _ hd),Vl,λps H6 kvq nps m6 hps pls=>?_⟩;have M6:=M5.same m6;have m26:=Ss.trans m6;symm;refine⟨a,p,q,kvs,Pc,rfl,M6.P.at_,by lia,λln H7 r1 r2 n7 m7 f7 or=>?_⟩;have WL:r1=qw Pc:=F5 or.o1 (Q1 Pc).o1 (or.p1.nodup_iff.mpr (D0 S.nd)) (or.p1.trans (Q1 Pc).p1.symm);have WN:r2=si Pc:=F5 or.o2 (Q1 Pc).o2 (or.p2.nodup_iff.mpr (L9 S.nd)) (or.p2.trans (Q1 Pc).p2.symm);subst WL WN;have M7:=M6.same m7;have WU:=m26.trans m7;symm;refine⟨a,p,q,c,ps,kvs,y_,kvq,L,Pc,W,qw Pc,si Pc,qw W,si W,fx,mv,mo,rfl,VP,⟨S,M7.P.at_,M7.P.hq,by lia,by lia,M0.big,WU _ _ hc,ch.same WU,m7 _ _ hps,pls.same m7⟩,λlr H8 xs n8 m8 f8 ls TK=>?_⟩;have hrl:=Mj ls;refine k8 (SqL.of f8) ?_;refine j9 (n:=xs.length) (λi out H'=>Same H8 H'/\DcAt H' (dJ Pc) out ((BD mo (B9 Pc W fx)).take i)/\∀x∈out,∃d,x=V.ref d/\H d=none) ⟨Same.refl _,.nil,λ_ h=>nomatch h⟩ (λi out H' hi hp=>⟨xs,xs[i],SqL.of (hp.1 _ _ f8),LA hi⟩) ?_ ?_
    .rintro N i v out H9' H9 hi ⟨s9,dc,Ro⟩ y hN';obtain⟨rfl,hy⟩:=Itl.get y (SqL.of (s9 _ _ f8));obtain⟨row,K',ar,rfl,har⟩:=B5 ls hy;have Sr:=Mj dc;rw[LM] at Sr;symm;refine⟨rfl,?_⟩;symm;refine⟨ln,ar,(dJ Pc).map Sum.inr,row.map V.str,rfl,by rw[←uZ];exact SqL.of (s9 _ _ (m8 _ _ f7)),SqL.of (s9 _ _ har),λd2 Uv=>?_⟩;rw[su (nm:=dJ Pc) S.nn];obtain⟨WS,Vs,Vt,T_,_⟩:=b0 (o:= .dK (i8 ((dJ Pc).zip row))) Uv;change _/\N _ (upd H9 d2 (.dK (i8 ((dJ Pc).zip row))));rw[Vs];have WV:(B9 Pc W fx).length<=7000000:=TK;have XI:(BD mo (B9 Pc W fx)).length<=(B9 Pc W fx).length:=Dz;refine⟨OU (pN (by lia)),hN' _ _ ⟨s9.trans T_,?_,λx hx=>?_⟩⟩
     .rw[show(BD mo (B9 Pc W fx)).take (i+1)=(BD mo (B9 Pc W fx)).take i++[row] by rw[Mt,show(BD mo (B9 Pc W fx))[i]?=some row from K'];rfl];exact w4 (DcAt.same dc T_) ⟨d2,rfl,Vt⟩
     .rcases LO.mp hx with z|z
      .exact Ro x z
      .exact⟨d2,Me.mp z,m1.free (m2.free (WU.free (m8.free (s9.free Uv))))⟩
    .rintro out H9 ⟨s9,dc,Ro⟩;have Sr:=Mj dc;rw[LM] at Sr;have WV:(B9 Pc W fx).length<=7000000:=TK;have XI:(BD mo (B9 Pc W fx)).length<=(B9 Pc W fx).length:=Dz;refine⟨⟨_,SqL.of (s9 _ _ f8),LC _⟩,λD hD=>⟨OU (pN (by lia)),?_⟩⟩;rw[LN (by rw[hrl];exact LC _)] at dc;obtain⟨WS,Vs,Vt,T_,_⟩:=b0 (H:=H9) (o:= .lst out) hD;show Q _ (upd H9 D _);rw[Vs];exact k D WS out (m1.free (m2.free (WU.free (m8.free (s9.free hD))))) (m1.trans (m2.trans (WU.trans (m8.trans (s9.trans T_))))) Vt (dc.same T_) TK Ro
  .intro nx hnx;symm;rcases hf with⟨rfl,rfl⟩|⟨d,rfl,hd,Vk,Vl⟩
   .rw[if_pos (by simp)];symm;intro d nd;obtain⟨H1,e1,f1,m1,_⟩:=b0 (o:= .dK []) nd;rw[e1];symm;exact hnx _ _ ⟨d,rfl,m1,f1,(d9 L0.hp nd).symm,(d9 M0.P.hq nd).symm⟩
   .rw[if_neg (by simp)];symm;exact hnx _ _ ⟨d,rfl,Same.refl _,hd,Vk,Vl⟩
def Dt (H:Hp)(nm:List Str)(v:V)(rows:List (List Str)):Prop:=(rows=[]/\v= .non)\/∃(row:List Str) (r:List (List Str)) (d:Addr),rows=row::r/\v= .ref d/\H d=some (.dK (i8 (nm.zip row)))
def cG (K:Za):Sp:=λvs H Q _=>∃(a p q a' p' q' pl wl:Addr) (kvs d_ e_ z_:List (i6×V)) (L:Str->Str->Bool) (Pc W:p8) (fx:List (Str×Str)) (fv:V),vs=[.ref a,.ref a',.ref pl,.ref wl,fv]/\Mx K H a p q a' p' q' kvs d_ Pc W fx/\LkP K H pl wl e_ z_ L Pc W/\HR H pl q fv fx/\∀(v:V) (H':Hp),Same H H'->Dt H' (dJ Pc) v (B9 Pc W fx)->(∀d,v= .ref d->H d=none)->Q v H'
abbrev ej:=λP w K mg base=>K3 P w K mg base A9 7 "first_found" ["piece","web","piece_looks","web_looks","fixed"] [] (cG K)
def lu {f fd}(T:Txt K mg)(bz:oz P w K mg base)(F:Fun K "first_found" "first_found" aJ f fd):x8 P w K mg base A9 7 f fd ["piece","web","piece_looks","web_looks","fixed"] (cG K):=by
 walk_at "#sc_first_found"
 .obtain⟨a,p,q,a',p',q',pl,wl,kvs,d_,e_,z_,L,Pc,W,fx,fv,rfl,_⟩:=h;rfl
 .obtain⟨a,p,q,a',p',q',pl,wl,kvs,d_,e_,z_,L,Pc,W,fx,fv,rfl,M0,L0,hf,k⟩:=h;walk_at "@sc_first_found 553'0bz 6061626364218'3He +0545P"
  symm;refine⟨a,p,q,a',p',q',pl,wl,kvs,d_,e_,z_,L,Pc,W,fx,fv,.int 1,some 1,rfl,M0,L0,.inr ⟨rfl,rfl⟩,hf,λl H1 xs nl m1 f1 dc _ Ro=>?_⟩;have XS:DcAt H1 (dJ Pc) xs ((B9 Pc W fx).take 1):=dc;have Vo:=Mj XS;symm;refine⟨!xs.isEmpty,.inl ⟨_,SqL.of f1,rfl⟩,?_⟩;cases hr:B9 Pc W fx with
  |nil=>
   rw[hr] at XS Vo
   have Zx:xs=[]:=MZ (by simpa using Vo)
   subst Zx
   rw[if_neg (by decide)]
   symm
   exact k .non H1 m1 (.inl ⟨hr,rfl⟩) λ_ z=>nomatch z
  |cons row r=>
   rw[hr] at XS Vo
   obtain⟨x,rfl⟩:∃x,xs=[x]:=by
    match xs,Vo with
    |[x],_=>exact⟨x,rfl⟩
   obtain⟨ZI,WW,d,rfl,hd⟩:=B5 (i:=0) XS rfl
   have er:row=ZI:=Mc WW
   subst er
   rw[if_pos (by rfl)]
   symm
   refine j5 (SqL.of f1) (i9 (j:=0) rfl) ?_
   symm
   exact k (.ref d) H1 m1 (.inr ⟨row,r,d,hr,rfl,hd⟩) λd' e=>by
    obtain⟨d2,e2,z⟩:=Ro (.ref d) (by simp);have e3:d=d2:=by injection e2
    have e4:d=d':=by injection e
    rw[←e4,e3];exact z
def df (K:Za):Sp:=λvs H Q _=>∃(a p q a' p' q' d:Addr) (kvs d_:List (i6×V)) (Pc W:p8) (fx:List (Str×Str)),vs=[.ref a,.ref a',.ref d]/\Mx K H a p q a' p' q' kvs d_ Pc W fx/\H d=some (.dK (i8 fx))/\d≠p/\d≠q/\∀(v:V) (H':Hp),Same H H'->Dt H' (dJ Pc) v (B9 Pc W fx)->(∀d,v= .ref d->H d=none)->Q v H'
abbrev eO:=λP w K mg base=>K3 P w K mg base A9 8 "first_match" ["piece","web","fixed"] [] (df K)
def lj {f fd}(T:Txt K mg)(aK:ej P w K mg base)(F:Fun K "first_match" "first_match" au f fd):x8 P w K mg base A9 8 f fd ["piece","web","fixed"] (df K):=by
 walk_at "#sc_first_match"
 .obtain⟨a,p,q,a',p',q',d,kvs,d_,Pc,W,fx,rfl,_⟩:=h;rfl
 .obtain⟨a,p,q,a',p',q',d,kvs,d_,Pc,W,fx,rfl,M0,hd,n1,n2,k⟩:=h;walk_at "@sc_first_match 83'0aK 6061n40n4172";symm;refine A3 M0.P.at_.tup ?_;symm;refine A3 M0.G.at_.tup ?_;symm;exact⟨a,p,q,a',p',q',p,p',kvs,d_,_,_,_,Pc,W,fx,.ref d,rfl,M0,vY M0,.inr ⟨d,rfl,hd,n1,n2⟩,k⟩
def Y7 (K:Za):Sp:=λvs H Q _=>∃(a p q a' p' q':Addr) (kvs d_:List (i6×V)) (Pc W:p8),vs=[.ref a,.ref a',.non]/\Mx K H a p q a' p' q' kvs d_ Pc W []/\IK H Q none Pc W []
def kC {f fd}(T:Txt K mg)(bz:oz P w K mg base){T9:Addr}(F:FunD K "matches" "matches" W5 T9 f fd):x8 P w K mg base A9 7 f fd ["piece","web","fixed"] (Y7 K):=by
 walk_at "#sc_matches"
 .obtain⟨a,p,q,a',p',q',kvs,d_,Pc,W,rfl,_⟩:=h;rfl
 .obtain⟨a,p,q,a',p',q',kvs,d_,Pc,W,rfl,M0,k⟩:=h;walk_at "@sc_matches 83'0bz 6061n40n41622P";symm;refine A3 M0.P.at_.tup ?_;symm;refine A3 M0.G.at_.tup ?_;symm;exact⟨a,p,q,a',p',q',p,p',kvs,d_,_,_,_,Pc,W,[],.non,.non,none,rfl,M0,vY M0,.inl ⟨rfl,rfl⟩,.inl ⟨rfl,rfl⟩,k⟩
def I0 {t u:TS}{nx:L2.St->Hp->Prop}{rt:V->Hp->Prop}{bk ct:L2.St->Hp->Prop}{σ:L2.St}{H:Hp}(h:∀nx':L2.St->Hp->Prop,(∀σ H,u ⟨nx,rt,bk,ct⟩ σ H->nx' σ H)->t ⟨nx',rt,bk,ct⟩ σ H):xV t u ⟨nx,rt,bk,ct⟩ σ H:=h _ λ_ _ z=>z
def WebIs.up {n m:Nat}{H:Hp}{a p q:Addr}{kvs:List (i6×V)}{W:p8}(h:WebIs n K H a p q kvs W)(l:n<=m):WebIs m K H a p q kvs W:=⟨h.at_,h.hp,h.hq,h.ne,h.nd,Mb h.len l,h.ends,h.nl⟩
structure Fg (B W:p8) (fx:List (Str×Str)):Prop where
 big:((b4 B).length+1)*(max W.pts.length W.ts.length+1) ^ ((b4 B).filter (dR fx)).length<=7000000
 fnd:(fx.map (·.1)).Nodup
 fin:∀x∈fx,x.1∈b4 B
def IW (H H':Hp)(v:V)(bs:List Sd)(W:p8)(fx:List (Str×Str)):Prop:=
 ((∀b∈bs,B9 b.W W fx=[])/\v= .non)\/∃(i:Nat) (b:Sd) (row:List Str) (r:List (List Str)) (t d:Addr),bs[i]?=some b/\(∀b'∈bs.take i,B9 b'.W W fx=[])/\B9 b.W W fx=row::r/\v= .ref t/\H' t=some (.tup [.int (i:Int),.ref d])/\H' d=some (.dK (i8 ((dJ b.W).zip row)))/\H d=none
def nS (K:Za):Sp:=λvs H Q _=>∃(S L R:Sd) (r bl m:Addr) (bs:List Sd) (fx:List (Str×Str)),vs=[.ref S.a,.ref r,.ref m]/\SdIs K H S/\RuleIs K H r bl L R bs/\bs.length<=10/\H m=some (.dK (i8 fx))/\(∀b∈bs,m≠b.p/\m≠b.q/\Fg b.W S.W fx)/\∀(v:V) (H':Hp),Same H H'->IW H H' v bs S.W fx->Q v H'
abbrev lR:=λP w K mg base=>K3 P w K mg base A9 9 "barred" ["web","rule","match"] [] (nS K)
def xM {f fd}(T:Txt K mg)(av:eO P w K mg base)(F:Fun K "barred" "barred" lh f fd):x8 P w K mg base A9 9 f fd ["web","rule","match"] (nS K):=by
 walk_at "#sc_barred"
 .obtain⟨S,L,R,r,bl,m,bs,fx,rfl,_⟩:=h;rfl
 .obtain⟨S,L,R,r,bl,m,bs,fx,rfl,hS,hR,Uu,hm,hb,k⟩:=h;walk_at "@sc_barred 9yB~a241Eo3o4553'0av 64e02huc~905Pf8re358P"
  refine I0 λZJ hx=>?_;rfl';refine ib hR.tup ?_;refine⟨_,rfl,.inl ⟨bl,_,rfl,hR.bl,?_⟩⟩;refine K5 (n:=bs.length) (λi σ H'=>Same H H'/\(∃v3 v4 v5,σ=[some (.ref S.a),some (.ref r),some (.ref m),v3,v4,v5])/\∀b∈bs.take i,B9 b.W S.W fx=[]) ⟨Same.refl _,⟨_,_,_,rfl⟩,λb h=>by simp at h⟩ (λi σ H' hi hp=>⟨_,.ref (bs[i]).a,hp.1.seq hR.bl,by rw[LF,LA hi];rfl⟩) ?_ ?_
  .rintro bk i v σ H1 H1' hi ⟨s1,⟨v3,v4,v5,rfl⟩,l_⟩ ⟨t,x,hx9,nt,rfl,rfl⟩ _ _;have C_:=hx9 _ (s1.seq hR.bl);rw[LF,LA hi] at C_;cases C_;have hbm:=Mu hi;obtain⟨n1,n2,B⟩:=hb _ hbm;obtain⟨H2,e2,f2,m2,_⟩:=b0 (o:= .tup _) nt;rw[e2];have s2:=s1.trans m2;have R2:=hR.same s2;refine N5 (SqT.of f2) rfl ?_;rfl';refine I0 λnx2 TM=>?_;rfl';refine⟨_,_,_,_,_,_,m,_,_,_,_,fx,rfl,⟨WebIs.up (R2.bars _ hbm) (by lia),WebIs.up (hS.same s2) (by lia),B.big,B.fnd,B.fin⟩,s2 _ _ hm,n1,n2,λv' H3 m3 fst nw=>?_⟩;refine TM [some (.ref S.a),some (.ref r),some (.ref m),some (.int (i:Int)),some (.ref (bs[i]).a),some v'] _ ?_;rcases fst with⟨e,rfl⟩|⟨row,rr,d,e,rfl,hd⟩
   .rfl';rw[if_neg (by simp)];rfl';refine⟨s2.trans m3,⟨_,_,_,rfl⟩,λb h=>?_⟩;rw[Mt,LA hi] at h;rcases LO.mp h with z|z
    .exact l_ b z
    .rw[show b=bs[i] by simpa using z];exact e
   .rfl';rw[if_pos (by simp)];rfl';refine⟨b5 (by simp),λt4 n4=>?_⟩;obtain⟨H4,e4,f4,m4,_⟩:=b0 (o:= .tup [.int (i:Int),.ref d]) n4;rw[e4];exact k _ _ (s2.trans (m3.trans m4)) (.inr ⟨i,_,row,rr,t4,d,LA hi,l_,e,rfl,f4,m4 _ _ hd,s2.free (nw d rfl)⟩)
  rintro σ H1 ⟨s1,⟨v3,v4,v5,rfl⟩,l_⟩;refine⟨⟨_,s1.seq hR.bl,by rw[Lz];exact LC _⟩,?_⟩;rw[LN (LC _)] at l_;refine hx [some (.ref S.a),some (.ref r),some (.ref m),v3,v4,v5] H1 ?_;rfl';exact k _ _ s1 (.inl ⟨l_,rfl⟩)
def O6 (x y s:Str):F4 (x++y) s=(F4 x s&&F4 y s):=by
 unfold F4;rw[show(x++y).cps.toList=x.cps.toList++y.cps.toList from NP,List.all_append]
def F0 {c:Nat}{s:Str}(h:c∈s.cps.toList):F4 ⟨#[c]⟩ s=true:=by
 unfold F4;simpa using h
def N9 {x s:Str}(h:F4 x s=true){c:Nat}(hc:c∈x.cps.toList):c∈s.cps.toList:=ME (Mq.mp h c hc)
def W8 {x y s:Str}(h:F4 y s=true)(hs:∀c∈x.cps.toList,c∈y.cps.toList):F4 x s=true:=Mq.mpr λc hc=>Ma (N9 h (hs c hc))
def DR (b:Str)(i:Int)(h0:0<=i)(h1:i<=b.length):(Txt.slice b none (some i)).cps.toList=b.cps.toList.take i.toNat:=by
 have e:Txt.slice b none (some i)=⟨((b.cps.toList.drop 0).take (i -0).toNat).toArray⟩:=by
  show StrLaws.sliceText b none (some i)=_;exact StrLaws.sliceText_to ⟨h0,by simpa [Str.length] using h1⟩
 rw[e];simp
def pM (b:Str)(i:Int)(h0:0<=i)(h1:i<=b.length):(Txt.slice b (some i) none).cps.toList=b.cps.toList.drop i.toNat:=by
 have hl:(b.length:Int)=b.cps.toList.length:=by simp [Str.length]
 have e:Txt.slice b (some i) none=⟨((b.cps.toList.drop i.toNat).take ((b.cps.toList.length:Int) -i).toNat).toArray⟩:=by
  show StrLaws.sliceText b (some i) none=_;exact StrLaws.sliceText_from ⟨h0,by lia⟩
 rw[e];show(b.cps.toList.drop i.toNat).take ((b.cps.toList.length:Int) -i).toNat=_;exact LN (by rw[MY];lia)
def Z1 (i:Int)(h0:0<=i)(h1:i<26):Z2 i∈kSL.cps.toList:=by
 have hl:kSL.cps.toList.length=26:=by decide+kernel
 unfold Z2;rw[MA,LA (by rw[hl];lia)];exact Mu _
def qJ:∀c∈kSL.cps.toList,c∈kNS.cps.toList:=by decide+kernel
def Jh:kSL++("0123456789.":Str)=kNS:=by decide+kernel
theorem uX (c:Nat):∀(n:Nat) (a:Array Nat) (x:Nat),x∈((List.replicate n #[c]).foldl (·++·) a).toList->x∈a.toList\/x=c
 |0,a,x,h=> .inl h
 |n+1,a,x,h=>by
  rw[Sg,NO] at h;rcases uX c n _ x h with h|h
  .rw[NP,LO] at h;rcases h with h|h
   .exact .inl h
   .exact .inr (by simpa using h)
  .exact .inr h
def jE (c:Nat)(n:Int)(x:Nat)(h:x∈(Txt.mul ⟨#[c]⟩ n).cps.toList):x=c:=by
 unfold Txt.mul at h;split at h
 .exact absurd h (by simp [Str.empty])
 .split at h
  .simpa using h
  .rcases uX c _ _ x h with z|z
   .simp at z
   .exact z
def gY (c:Nat)(n:Int)(h:0<=n):(Txt.mul ⟨#[c]⟩ n).length=n.toNat:=by
 unfold Txt.mul;split
 .show 0=n.toNat;lia
 .split
  .next h=>
   have h':n=1:=by simpa [Str.length] using h
   rw[h'];rfl
  .show((List.replicate n.toNat (#[c]:Array Nat)).foldl (·++·) #[]).size=n.toNat;rw[ia];simp
def sh {x s : Str} (h : F4 x s = true) (h1 : 1 <= x.length) : vZ x s = true := by
  unfold vZ;refine Ma (N9 h ?_);cases e : x.cps.toList with
  | nil => exfalso; have : x.cps.toList.length = x.length := by simp [Str.length]
           rw [e] at this; simp at this; lia
  | cons a r => exact LS
def Y5 {x s:Str}{m:Int}(h1:1<=x.length)(h2:(x.length:Int)<=m)(h3:F4 x s=true):K0 x s m=true:=by
 unfold K0;rw[h3,Ma (by lia),Ma h2];rfl
def xS (c:Int)(k:Nat)(hk:k<24):L8 (tm c k)=true:=by
 have hs:F4 (tm c k) kSL=true:=W8 (y:=⟨#[Z2 (c/4 % 26)]⟩) (F0 (Z1 _ (by lia) (by lia))) λx hx=>by
  rw[jE _ _ x hx];exact Oo _
 have hl:=kB c k;unfold L8;rw[Y5 (by lia) (by lia) (W8 (y:=kSL) (by decide+kernel) λx hx=>N9 hs hx),sh hs (by lia)];rfl
def wO (b:Str)(at_ c:Int)(k:Nat)(h0:0<=at_)(h1:at_<=b.length)(hb:b.length<=23)(Vg:1<=b.length)(ha:F4 b kNS=true)(hh:vZ b kSL=true):L8 (lZ b at_ c k)=true:=by
 have e:(lZ b at_ c k).cps.toList=b.cps.toList.take at_.toNat++[Z2 ((0+(k:Int)+c/4) % 26)]++b.cps.toList.drop at_.toNat:=by
  unfold lZ;rw[show ∀x y:Str,(x++y).cps.toList=x.cps.toList++y.cps.toList from λx y=>NP,show ∀x y:Str,(x++y).cps.toList=x.cps.toList++y.cps.toList from λx y=>NP,DR b at_ h0 h1,pM b at_ h0 h1]
 have hm:=Z1 ((0+(k:Int)+c/4) % 26) (by lia) (by lia);have Uu:b.cps.toList.length=b.length:=by simp [Str.length]
 have hl:(lZ b at_ c k).length=b.length+1:=by
  have z:=Na List.length e;rw[LJ,LJ,LM,MY,Ml] at z;have z2:(lZ b at_ c k).cps.toList.length=(lZ b at_ c k).length:=by simp [Str.length]
  lia
 unfold L8;rw[Y5 (by lia) (by lia) (Mq.mpr λx hx=>?_)]
 .show(true&&vZ _ _)=true;rw[PY];unfold vZ;rw[e];refine Ma ?_;unfold vZ at hh;have hh':=ME hh;cases eb:b.cps.toList with
  |nil=>rw[eb] at Uu;simp at Uu;lia
  |cons y r=>
   rw[eb] at hh'
   cases hn:at_.toNat with
   |zero=>exact hm
   |succ j=>exact hh'
 .rw[e] at hx;refine Ma ?_;rcases LO.mp hx with hx|hx
  .rcases LO.mp hx with hx|hx
   .exact N9 ha (MW hx)
   .rw[Me.mp hx];exact qJ _ hm
  .exact N9 ha (ON hx)
def Hw (z:Str)(h:z.length<=9):(Txt.slice z (some 1) (some 9)).cps.toList=z.cps.toList.drop 1:=by
 by_cases h1:1<=z.length
 .have e:Txt.slice z (some 1) (some 9)=Txt.slice z (some 1) none:=by
   show StrLaws.sliceText z (some 1) (some 9)=StrLaws.sliceText z (some 1) none;have q:Builtin.Str.strSliceIndices (some 1) (some 9) 1 z.length=Builtin.Str.strSliceIndices (some 1) none 1 z.length:=by
    unfold Builtin.Str.strSliceIndices;have e1:max (0:Int) (min (9:Int) (z.length:Int))=z.length:=by lia
    simp [e1]
   unfold StrLaws.sliceText;rw[q]
  rw[e];exact pM z 1 (by lia) (by lia)
 .have e:z.cps.toList=[]:=by
   have q:z.cps.toList.length=z.length:=by simp [Str.length]
   exact QZ.mp (by lia)
  rw[e];have q:=Of z (some 1) (some 9);have q2:(Txt.slice z (some 1) (some 9)).cps.toList.length=(Txt.slice z (some 1) (some 9)).length:=by simp [Str.length]
  exact QZ.mp (by lia)
abbrev C5:=λP w K mg base=>K3 P w K mg base A9 1 "_law_mixed" ["_law_cell","_law_k"] [] (dW K)
def mJ {f fd}(T:Txt K mg)(F:Fun K "_law_mixed" "_law_mixed" bJ f fd):x8 P w K mg base A9 1 f fd ["_law_cell","_law_k"] (dW K):=by
 walk_at "#sc__law_mixed"
 .obtain⟨c,k,rfl,_⟩:=h;rfl
 .obtain⟨c,k,rfl,h0,h1,q⟩:=h;walk_at "@sc__law_mixed 52gag001Q1a011152gaaQ0202Q101118gQ02021"
  symm;exact q _ (by lia)
abbrev gM:=λP w K mg base=>K3 P w K mg base A9 2 "_law_names" ["_law_cell","_law_many"] [] (eU K)
def mr {f : Addr} {fd : FuncData} (T : Txt K mg) (h9 : C5 P w K mg base) (F : Fun K "_law_names" "_law_names" bH f fd) : x8 P w K mg base A9 2 f fd ["_law_cell", "_law_many"] (eU K) := by
  refine F.ok sc__law_names (λvs H Q E h => ?_) (λc_ A outer s H vs Q E hr h => ?_)
  . obtain ⟨c, n, rfl, _⟩ := h
    rfl
  . obtain ⟨c, n, rfl, h0, h1, k⟩ := h
    walk_at "@sc__law_names 52K9ucSg0011f8m_law_k;20;<71d0_law_k,_law_letters,_law_cell;tQb1gHV021a00153a02K54b2gHV0019yB<2gHV001o5h~b4a04b3g3znHV0075156g3z6021al7418m_law_k;4260;<71d0_law_k,_law_base,_law_letters,_law_at,_law_cell;taap01xj03b2ga00HV041p01j03x"
    refine qG ?_
    rfl'
    refine DF (λσ H' => H' = H /\ σ = [some (.int c), some (.int n), some (.str kSL), none, none, none, none]) ?_ ?_
    . rintro σ H0 ⟨rfl, rfl⟩
      refine qG ?_
      rfl'
      refine C9 (by decide +kernel) ?_
      rfl'
      refine qG ?_
      rfl'
      have RM := fH (c / 4 % 26) (by lia) (by lia)
      have Vu := Z1 (c / 4 % 26) (by lia) (by lia)
      refine N2 R6 RM ?_
      rfl'
      refine qG ?_
      rfl'
      refine Z8 (by lia) (by lia) ?_
      refine K5 (n := (c / 104 % 23).toNat) (λi σ H' => H' = H0 /\ ∃ (b : Str) (v : Option V), σ = [some (.int c), some (.int n), some (.str kSL), some (.str (kSL ++ ("0123456789." : Str))), some (.str b), v, none] /\ b.length = i + 1 /\ F4 b kNS = true /\ vZ b kSL = true) ⟨rfl, _, none, rfl, rfl, F0 (qJ _ Vu), sh (F0 Vu) (LC 1)⟩ (λi σ H' hi _ => by exact hi) ?_ ?_
      . rintro _ i v σ H1 H2 hi ⟨rfl, b, v', rfl, hb, hba, hbh⟩ ⟨rfl, rfl⟩ _ _
        rfl'
        refine ⟨_, _, rfl, by lia, by lia, λm hm => ?_⟩
        rfl'
        have hl : (kSL ++ ("0123456789." : Str)).cps.toList.length = 37 := by decide +kernel
        obtain ⟨c2, Ti, ZK⟩ := uz (xs := (kSL ++ ("0123456789." : Str)).cps.toList) (i := m % 37) (by lia) (by rw [hl]; lia)
        refine N2 (by decide +kernel) Ti ?_
        refine C9 (j := ⟨#[c2]⟩) (b5 (by rw [A6]; lia)) ?_
        rfl'
        have ZL : c2 ∈ kNS.cps.toList := by rw [← Jh]; exact LV ZK
        refine ⟨rfl, _, _, rfl, by rw [K4, A6]; lia, by rw [O6, hba, F0 ZL]; rfl, ?_⟩
        unfold vZ at hbh ⊢
        rw [show (b ++ (⟨#[c2]⟩ : Str)).cps.toList = b.cps.toList ++ [c2] from NP]
        cases eb : b.cps.toList with
        | nil => have z : b.cps.toList.length = b.length := by simp [Str.length]
                 rw [eb] at z; simp at z; lia
        | cons y r => rw [eb] at hbh; exact hbh
      . rintro σ H1 ⟨rfl, b, v', rfl, hb, hba, hbh⟩
        refine ⟨LC _, ?_⟩
        have Rn : b.length <= 23 := by lia
        refine qG ?_
        rfl'
        refine ⟨_, _, rfl, by lia, by lia, λm hm => ?_⟩
        rfl'
        refine D6 (dM (b5 (by lia)) ?_)
        rfl'
        refine Z8 h0 (by lia) ?_
        refine j9 (n := n.toNat) (λi out H' => H' = H1 /\ out = (List.range i).map λk => V.str (lZ b (m % ((b.length : Int) + 1)) c k)) ⟨rfl, rfl⟩ (λi out H' hi _ => by exact hi) ?_ ?_
        . rintro N i v out H2 H3 hi ⟨rfl, rfl⟩ ⟨rfl, rfl⟩ hN'
          rfl'
          refine ⟨rfl, ?_⟩
          rfl'
          refine de (b5 (by lia)) ?_
          rfl'
          have WX := fH ((0 + (i : Int) + c / 4) % 26) (by lia) (by lia)
          refine N2 R6 WX ?_
          have g1 := Of b Option.none (some (m % ((b.length : Int) + 1)))
          have g2 := Of b (some (m % ((b.length : Int) + 1))) Option.none
          refine C9 (j := ⟨#[Z2 ((0 + (i : Int) + c / 4) % 26)]⟩) (b5 (by rw [A6]; lia)) ?_
          rfl'
          refine de (b5 (by lia)) ?_
          refine C9 (b5 (by rw [K4, A6]; lia)) ?_
          refine ⟨b5 (by rw [Lz, Nq]; lia), hN' _ _ ⟨rfl, ?_⟩⟩
          rw [OF, LK]; rfl
        . rintro out H2 ⟨rfl, rfl⟩
          refine ⟨LC _, λD hD => ⟨b5 (by rw [Lz, Nq]; lia), ?_⟩⟩
          obtain ⟨H5, e5, f5, m5, _⟩ := b0 (o := .lst _) hD
          refine k D _ ((List.range n.toNat).map (lZ b (m % ((b.length : Int) + 1)) c)) hD ?_ ?_ ⟨by rw [Lz, Nq], vA _ _ _ _ (by lia), λs hs => ?_⟩
          . show Same _ (upd _ D _)
            rw [e5]; exact m5
          . show upd _ D _ D = _
            rw [d8, Mo]; rfl
          . obtain ⟨i, _, rfl⟩ := LB.mp hs
            have hz0 := Nv m (show (b.length : Int) + 1 ≠ 0 by lia)
            have Wy := Ng m (show (0 : Int) < (b.length : Int) + 1 by lia)
            exact wO b _ c i hz0 (by lia) (by lia) (by lia) hba hbh
    . intro nx hn
      rfl'
      refine M4 (λh => ?_) (λh => ?_)
      . rfl'
        refine Z8 h0 (by lia) ?_
        refine j9 (n := n.toNat) (λi out H' => H' = H /\ out = (List.range i).map λk => V.str (tm c k)) ⟨rfl, rfl⟩ (λi out H' hi _ => by exact hi) ?_ ?_
        . rintro N i v out H2 H3 hi ⟨rfl, rfl⟩ ⟨rfl, rfl⟩ hN'
          rfl'
          refine ⟨rfl, ?_⟩
          rfl'
          have WX := fH (c / 4 % 26) (by lia) (by lia)
          refine N2 R6 WX ?_
          rfl'
          refine aO (z := ⟨#[Z2 (c / 4 % 26)]⟩) (by rw [A6]; lia) (by lia) (by lia) ?_
          refine ⟨b5 (by rw [Lz, Nq]; lia), hN' _ _ ⟨rfl, ?_⟩⟩
          rw [OF, LK]; rfl
        . rintro out H2 ⟨rfl, rfl⟩
          refine ⟨LC _, λD hD => ⟨b5 (by rw [Lz, Nq]; lia), ?_⟩⟩
          obtain ⟨H5, e5, f5, m5, _⟩ := b0 (o := .lst _) hD
          refine k D _ ((List.range n.toNat).map (tm c)) hD ?_ ?_ ⟨by rw [Lz, Nq], BO _ _, λs hs => ?_⟩
          . show Same _ (upd _ D _)
            rw [e5]; exact m5
          . show upd _ D _ D = _
            rw [d8, Mo]; rfl
          . obtain ⟨i, hi, rfl⟩ := LB.mp hs
            have Vd := Ou.mp hi
            exact xS c i (by lia)
      . rfl'
        exact hn _ _ ⟨rfl, rfl⟩
abbrev bB:=λP w K mg base=>K3 P w K mg base A9 1 "_law_kinds" ["_law_cell"] [] (eI K)
def mh {f fd}(T:Txt K mg)(F:Fun K "_law_kinds" "_law_kinds" bD f fd):x8 P w K mg base A9 1 f fd ["_law_cell"] (eI K):=by
 walk_at "#sc__law_kinds"
 .obtain⟨c,rfl,_⟩:=h;rfl
 .obtain⟨c,rfl,k⟩:=h;walk_at "@sc__law_kinds 51K52b1g00153b1gHV00154gHV0018.na02Q0304iaQ030402paQ02a04103j1j1"
  symm;have RM:=fH (c % 26) (by lia) (by lia);have Vu:=Z1 (c % 26) (by lia) (by lia);generalize Z2 (c % 26)=ch at RM Vu;refine N2 R6 RM ?_;symm;have hco:=fH (c/26 % 26) (by lia) (by lia);have ZM:=Z1 (c/26 % 26) (by lia) (by lia);generalize Z2 (c/26 % 26)=co at hco ZM;refine N2 R6 hco ?_;symm;have b1:=vJ co (c/676 % 8) (by lia);have b2:=vJ ch (c/676 % 8+1) (by lia);refine aO (z:=⟨#[co]⟩) (by rw[A6];lia) (by lia) (by lia) ?_;refine C9 (i:=⟨#[ch]⟩) (b5 (by rw[A6];lia)) ?_;symm;refine aO (z:=⟨#[co]⟩) (by rw[A6];lia) (by lia) (by lia) ?_;symm;refine C9 (j:=⟨#[ch]⟩) (b5 (by rw[A6];lia)) ?_;symm;refine aO (z:=⟨#[ch]⟩) (by rw[A6];lia) (by lia) (by lia) ?_;symm;refine C9 (j:=⟨#[co]⟩) (b5 (by rw[A6];lia)) ?_;symm;refine de (b5 (by rw[K4,A6];lia)) ?_;symm;refine⟨b5 (by simp),λp n=>?_⟩;obtain⟨H5,e5,f5,m5,_⟩:=b0 (o:= .lst _) n;rw[e5];have z1:=gY co (c/676 % 8) (by lia);have z2:=gY ch (c/676 % 8+1) (by lia);have a1:F4 (Txt.mul ⟨#[co]⟩ (c/676 % 8)) kSL=true:=W8 (y:=⟨#[co]⟩) (F0 ZM) λx hx=>by rw[jE _ _ x hx];exact Oo _
  have a2:F4 (Txt.mul ⟨#[ch]⟩ (c/676 % 8+1)) kSL=true:=W8 (y:=⟨#[ch]⟩) (F0 Vu) λx hx=>by rw[jE _ _ x hx];exact Oo _
  refine k p H5 [_,_,_] n m5 f5 ⟨rfl,λx hx=>?_⟩;rcases Mr.mp hx with rfl|hx
  .exact Y5 (by rw[K4,A6];lia) (by rw[K4,A6];lia) (by rw[O6,F0 Vu,a1];rfl)
  rcases Mr.mp hx with rfl|hx
  .exact Y5 (by rw[K4,A6];lia) (by rw[K4,A6];lia) (by rw[O6,F0 Vu,a1];rfl)
  rw[Me.mp hx];have hA:F4 (Txt.mul ⟨#[ch]⟩ (c/676 % 8+1)++(⟨#[co]⟩:Str)) kSL=true:=by rw[O6,a2,F0 ZM];rfl
  have hL:(Txt.mul ⟨#[ch]⟩ (c/676 % 8+1)++(⟨#[co]⟩:Str)).length=(c/676 % 8).toNat+2:=by rw[K4,A6];lia
  generalize Txt.mul ⟨#[ch]⟩ (c/676 % 8+1)++(⟨#[co]⟩:Str)=z at hA hL;have e9:=Hw z (by lia);have Zp:(Txt.slice z (some 1) (some 9)).length=(c/676 % 8).toNat+1:=by
   have q1:(Txt.slice z (some 1) (some 9)).cps.toList.length=(Txt.slice z (some 1) (some 9)).length:=by simp [Str.length]
   have q2:z.cps.toList.length=z.length:=by simp [Str.length]
   rw[e9,MY] at q1;lia
  exact Y5 (by lia) (by lia) (W8 hA λx hx=>by rw[e9] at hx;exact ON hx)
def yl {x:Str}(h:F7 x=true):L8 x=true:=by
 have h':K0 x kSL 8=true:=h;unfold K0 at h';simp only[Mp,Mg] at h';unfold L8;rw[Mp];have ha:∀c∈x.cps.toList,c∈kSL.cps.toList:=λc hc=>ME (Mq.mp (show F4 x kSL=true from h'.2) c hc);constructor
 .unfold K0;rw[Ma h'.1.1,Ma (show(x.length:Int)<=24 by lia),PY,PY];exact Mq.mpr λc hc=>Ma (qJ _ (ha c hc))
 .unfold vZ;refine Ma (ha _ ?_);have hl:=qi x;cases e:x.cps.toList with
  |nil=>rw[e] at hl;simp at hl;lia
  |cons c r=>exact LS
def jL {W:p8}{m:Nat}(h1:∀n∈b4 W,F7 n=true)(h2:∀x∈W.pts,F7 x.2=true)(h3:∀x∈W.ts,F7 x.2.1=true)(l1:W.pts.length<=m)(l2:W.ts.length<=m):jS m W:=
 ⟨⟨λn hn=>yl (h1 n hn),h2,h3⟩,h1,l1,l2⟩
theorem EqN.of0 {H:Hp}{x y:V}{b:Bool}(h:EqN K H 0 x y b):∀n,EqN K H n x y b
 |0=>h
 |n+1=> .inl (EqN.of0 h n)
def Bo {W W':p8}(p1:W'.pts.Perm W.pts)(p2:W'.ts.Perm W.ts):(b4 W').Perm (b4 W):=(p1.map _).append (p2.map _)
theorem pd:∀{a b:List Str},a.Pairwise DH->b.Pairwise DH->(∀x,x∈a↔x∈b)->a=b
 |[],[],_,_,_=>rfl
 |[],y::t,_,_,h=>absurd ((h y).mpr LS) (by simp)
 |x::r,[],_,_,h=>absurd ((h x).mp LS) (by simp)
 |x::r,y::t,h1,h2,h=>by
  have RL:=NX.mp h1;have UJ:=NX.mp h2;have irr:∀z:Str,¬DH z z:=λz=>Pz _;have e:x=y:=NY λne=>by
   rcases Mr.mp ((h x).mp LS) with z|z
   .exact ne z
   .rcases Mr.mp ((h y).mpr LS) with z'|z'
    .exact ne z'.symm
    .have q1:y.cps.toList<x.cps.toList:=UJ.1 x z;have q2:x.cps.toList<y.cps.toList:=RL.1 y z';exact PZ q1 q2
  subst e;rw[pd RL.2 UJ.2 λz=>⟨λhz=>?_,λhz=>?_⟩]
  .rcases Mr.mp ((h z).mp (LY _ hz)) with e|e
   .exact absurd (RL.1 z hz) (by rw[e];exact irr _)
   .exact e
  .rcases Mr.mp ((h z).mpr (LY _ hz)) with e|e
   .exact absurd (UJ.1 z hz) (by rw[e];exact irr _)
   .exact e
def Ordr.r1 {W:p8}{s1 s2:List Str}(h:Ordr W s1 s2)(nd:(b4 W).Nodup):s1.Pairwise DH:=aR (dD h.o1 (h.p1.nodup_iff.mpr (D0 nd)))
def Ordr.r2 {W:p8}{s1 s2:List Str}(h:Ordr W s1 s2)(nd:(b4 W).Nodup):s2.Pairwise DH:=aR (dD h.o2 (h.p2.nodup_iff.mpr (L9 nd)))
def Ordr.uniq {W W':p8}{s1 s2 t1 t2:List Str}(h:Ordr W s1 s2)(h':Ordr W' t1 t2)(p1:W'.pts.Perm W.pts)(p2:W'.ts.Perm W.ts)(nd:(b4 W).Nodup):t1=s1/\t2=s2:=by
 have nd':(b4 W').Nodup:=(Bo p1 p2).nodup_iff.mpr nd;exact⟨pd (h'.r1 nd') (h.r1 nd) λx=>by rw[h'.p1.mem_iff,h.p1.mem_iff,(p1.map _).mem_iff],pd (h'.r2 nd') (h.r2 nd) λx=>by rw[h'.p2.mem_iff,h.p2.mem_iff,(p2.map _).mem_iff]⟩
def DK (H:Hp)(a:Addr):Prop:=∃k,H a=some (.dK k)
structure Wb (K:Za) (H:Hp) (s:Sd):Prop where
 t:SqT K H s.a [.ref s.p,.ref s.q]
 p:DK H s.p
 q:DK H s.q
def aC (gs:List Str)(W:p8):p8:=⟨W.pts.filter λx=>!decide (x.1∈gs),W.ts.filter λx=>!decide (x.1∈gs)⟩
def pI (gs:List Str)(W:p8):Bool:=(aC gs W).ts.any λx=>decide (x.2.2.1∈gs)||decide (x.2.2.2∈gs)
def kR (K:Za):Sp:=λvs H Q E=>∃(a l p q:Addr) (kvs:List (i6×V)) (W:p8) (gs:List Str),vs=[.ref a,.ref l]/\WebAt K H a p q kvs W/\H p=some (.dK (i8 W.pts))/\H q=some (.dK kvs)/\SqL K H l (gs.map V.str)/\(W.pts.map (·.1)).Nodup/\(W.ts.map (·.1)).Nodup/\W.pts.length<=60/\W.ts.length<=60/\(∀x∈W.ts,x.1.length<=100)/\
 if pI gs W=true then ∀H' e,Same H H'->H' e=none->E (.ref (cA K "Loose")) (some e) H' else NewP K H Q (aC gs W)
def NewP.mono {K:Za}{H H1:Hp}{Q:VK}{W:p8}(s:Same H H1)(k:NewP K H Q W):NewP K H1 Q W:=λa p q kvs W' H' s' h1 h2 h3 h4 h5 h6 h7 h8=>k a p q kvs W' H' (s.trans s') h1 h2 h3 h4 (s.free h5) (s.free h6) h7 h8
abbrev mX:=λP w K mg base=>K3 P w K mg base (ic P w) 3 "without" ["web","names"] [] (kR K)
def tZ {f fd}(T:Txt K mg)(B8:aV P w K mg base)(F:Fun K "without" "without" ie f fd):x8 P w K mg base (ic P w) 3 f fd ["web","names"] (kR K):=by
 refine F.okE sc_without (λvs H Q E h=>?_) (λc_ A outer s H vs Q E hr h=>?_)
 .obtain⟨a,l,p,q,kvs,W,gs,rfl,_⟩:=h;rfl
 .obtain⟨a,l,p,q,kvs,W,gs,rfl,hW,hp,hq,hL,nd1,Uv,l1,l2,XN,k⟩:=h;have RO:=p0 W.pts;have SY:=hW.ts.length;walk_at "@sc_without 52wWDO2mname,kind;1;,40Ed0name,kind,names;d1name,kind,names;JcY0002sre0153wWDO2mname,tie;1;,40Ed0name,tie,names;d1name,tie,names;JcY0002sre019y'0QM kq;(&73o4huM:cIFb304101s=cIFb304101sh~h'0T.r_Loose G2'1Lw 0483@2re23"
  symm;refine A3 hW.tup ?_;refine E5 hp (λT' o1=>?_);refine j9 (n:=(i8 W.pts).length) (λi out H'=>Same (E6 p o1 (i8 W.pts) H) H'/\Paired (PrV K H') out (i8 ((W.pts.take i).filter λx=>!decide (x.1∈gs)))) ⟨Same.refl _,.nil⟩ (λi out H' hi hp=>⟨hp.1 _ _ d8,hi⟩) ?_ ?_
  .rintro N i v out H1 H2 hi ⟨s1,pr⟩ ⟨t,kv,h_,nt,rfl,rfl⟩ hN';obtain⟨x,hx,rfl⟩:=fL h_;obtain⟨H3,e3,f3,m3,_⟩:=b0 (o:= .tup _) nt;rw[e3];have L3:=((R7 (o:=o1) hp).trans (s1.trans m3).le).lst hL;have e7:W.pts.take (i+1)=W.pts.take i++[x]:=by rw[Mt,hx];rfl
   have v_:=Mj pr;have r_:=LQ (λx:Str×Str=>!decide (x.1∈gs)) (W.pts.take i);rw[p0] at v_;rw[LM] at r_;refine N5 (SqT.of f3) rfl ?_;symm;refine⟨rfl,?_⟩;symm;refine R8 L3 ?_;symm;refine hJ (λhb=>?_) (λhb=>?_)
   .symm;refine⟨b5 (by simp),λt4 n4=>?_⟩;obtain⟨H4,e4,f4,m4,_⟩:=b0 (o:= .tup _) n4;rw[e4];refine⟨b5 (by lia),hN' _ _ ⟨s1.trans (m3.trans m4),?_⟩⟩;rw[e7,Mz,Mw (by rw[hb];rfl),MT];unfold i8 at pr⊢;rw[LK];exact w4 (Paired.imp' (λ_ _ z=>PrV.mono (m3.trans m4).le z) pr) ⟨t4,rfl,SqT.of f4⟩
   .refine hN' _ _ ⟨s1.trans m3,?_⟩;rw[e7,Mz,MB (by rw[hb];simp),MT,MM];exact Paired.imp' (λ_ _ z=>PrV.mono m3.le z) pr
  .rintro out H1 ⟨s1,pr⟩;have v_:=Mj pr;have r_:=LQ (λx:Str×Str=>!decide (x.1∈gs)) (W.pts.take (i8 W.pts).length);rw[p0] at v_;rw[LM] at r_;refine⟨⟨s1 _ _ d8,LC _⟩,λD hD=>⟨b5 (by lia),?_⟩⟩;have sM:=U8 hp s1 hD (u:= .lst out);have fM:=cg s1 hD (u:= .lst out);have Vw:=Paired.imp' (λ_ _ z=>PrV.mono (oT (d:=p) (u:= .lst out) hD) z) pr;generalize thaw p (upd H1 D (.lst out))=HM at sM fM Vw⊢;rw[LN (by lia)] at Vw;symm;refine R5 (SqL.of fM) Vw (b5 (by rw[p0];refine Mb (LQ _ _) ?_;lia)) (λpp npp=>?_);have eP:aU (i8 (W.pts.filter λx=>!decide (x.1∈gs)))=i8 (aC gs W).pts:=X8 (Z7 (K7 nd1));rw[eP];obtain⟨H2,e2,f2,m2,_⟩:=b0 (o:= .dK (i8 (aC gs W).pts)) npp;show O5 _ _ _ (upd HM pp (.dK (i8 (aC gs W).pts))) _;rw[e2];have s2:=sM.trans m2;have W2:=hW.mono s2.le;have Vx:=s2 _ _ hq;have L2':=s2.seq hL;symm;refine x6 W2.tup ?_;refine E5 Vx (λWJ o2=>?_);refine j9 (n:=kvs.length) (λi out H'=>Same (E6 q o2 kvs H2) H'/\Paired (PrV K H') out ((kvs.take i).filter λkv=>!gL gs kv.1)) ⟨Same.refl _,.nil⟩ (λi out H' hi hp=>⟨hp.1 _ _ d8,hi⟩) ?_ ?_
   .rintro N i v out H3 H3' hi ⟨s3,pr3⟩ ⟨t,kv,h_,nt,rfl,rfl⟩ hN';obtain⟨H4,e4,f4,m4,_⟩:=b0 (o:= .tup _) nt;rw[e4];have Us:=(R7 (o:=o2) Vx).trans (s3.trans m4).le;have L4:=Us.lst L2';obtain⟨x,hx,ex,b,eb,sb⟩:=(W2.ts.mono Us).get h_;obtain⟨kk,Up⟩:=kv;have Tf:kk=Sum.inr x.1:=ex;have Uq:Up= .ref b:=eb;subst Tf Uq;have e7:kvs.take (i+1)=kvs.take i++[(Sum.inr x.1,.ref b)]:=by rw[Mt,h_];rfl
    have ZN:=Mj pr3;have TN:=LQ (λkv:i6×V=>!gL gs kv.1) (kvs.take i);rw[LM] at TN;refine N5 (SqT.of f4) rfl ?_;symm;refine⟨rfl,?_⟩;symm;refine R8 L4 ?_;symm;refine hJ (λhb=>?_) (λhb=>?_)
    .symm;refine⟨b5 (by simp),λt5 n5=>?_⟩;obtain⟨H5,e5,f5,m5,_⟩:=b0 (o:= .tup _) n5;rw[e5];refine⟨b5 (by lia),hN' _ _ ⟨s3.trans (m4.trans m5),?_⟩⟩;rw[e7,Mz,Mw (p:=λkv:i6×V=>!gL gs kv.1) (by show(!decide (x.1∈gs))=true;rw[hb];rfl),MT];exact w4 (Paired.imp' (λ_ _ z=>PrV.mono (m4.trans m5).le z) pr3) ⟨t5,rfl,SqT.of f5⟩
    .refine hN' _ _ ⟨s3.trans m4,?_⟩;rw[e7,Mz,MB (p:=λkv:i6×V=>!gL gs kv.1) (by show ¬(!decide (x.1∈gs))=true;rw[hb];simp),MT,MM];exact Paired.imp' (λ_ _ z=>PrV.mono m4.le z) pr3
   .rintro Uw H3 ⟨s3,pr3⟩;have ZN:=Mj pr3;have TN:=LQ (λkv:i6×V=>!gL gs kv.1) (kvs.take kvs.length);rw[LM] at TN;refine⟨⟨s3 _ _ d8,LC _⟩,λD3 hD3=>⟨b5 (by lia),?_⟩⟩;have ZO:=U8 Vx s3 hD3 (u:= .lst Uw);have fM3:=cg s3 hD3 (u:= .lst Uw);have Vy:=Paired.imp' (λ_ _ z=>PrV.mono (oT (d:=q) (u:= .lst Uw) hD3) z) pr3;generalize thaw q (upd H3 D3 (.lst Uw))=HM3 at ZO fM3 Vy⊢;rw[LN (LC _)] at Vy;have XT:((kvs.filter λkv=>!gL gs kv.1).map (·.1)).Nodup:=K7 WJ;symm;refine R5 (SqL.of fM3) Vy (b5 (by refine Mb (LQ _ _) ?_;lia)) (λqq nqq=>?_);rw[X8 XT];obtain⟨H4,e4,f4,m4,_⟩:=b0 (o:= .dK (kvs.filter λkv=>!gL gs kv.1)) nqq;show O5 _ _ _ (upd HM3 qq _) _;rw[e4];have s4:=s2.trans (ZO.trans m4);have W4:=hW.mono s4.le;have TT:TiesIs K H4 (kvs.filter λkv=>!gL gs kv.1) (aC gs W).ts:=S9 (λkv x z=>by rw[z.1];rfl) W4.ts;have hpp:=(ZO.trans m4) _ _ f2;generalize hkf:(kvs.filter λkv=>!gL gs kv.1)=kvf at TT f4 XT;have lkf:kvf.length<=60:=by rw[←hkf];refine Mb (LQ _ _) ?_;lia
    have L4:=s4.seq hL;symm;refine E3 (ss:=(aC gs W).ts.map (·.1)) (.inl f4) (by rw[TT.keys,A7]) (by rw[Lz,←TT.length];lia) (λs1 a1 a2 ls1 n1=>?_);obtain⟨H5,e5,f5,m5,_⟩:=b0 (o:= .lst _) n1;rw[e5];have Ut:((aC gs W).ts.map (·.1)).Nodup:=K7 Uv;refine k8 (SqL.of f5) ?_;refine iF (n:=s1.length) (λi σ H'=>Same H5 H'/\(∃v4,σ=[some (.ref a),some (.ref l),some (.ref pp),some (.ref qq),v4])/\∀n∈s1.take i,∀t:J2,(n,t)∈(aC gs W).ts->(decide (t.2.1∈gs)||decide (t.2.2∈gs))=false) ⟨Same.refl _,⟨_,rfl⟩,by simp⟩ (λi σ H' hi hp=>⟨_,.str (s1[i]),SqL.of (hp.1 _ _ f5),by rw[LF,LA hi];rfl⟩) ?_ ?_
    .rintro i v σ H6' H6 hi ⟨s6,⟨v4,rfl⟩,ha⟩ y _ _;obtain⟨rfl,hx⟩:=Itl.get y (SqL.of (s6 _ _ f5));rw[LF] at hx;obtain⟨nm,C_,rfl⟩:=MD.mp hx;have SI:=a1.mem_iff.mp (LV C_);obtain⟨⟨Ux,tt⟩,k_,rfl⟩:=LB.mp SI;have Uy:=m5.trans s6;obtain⟨c,ev,sc⟩:=jC (TT.mono Uy.le) Ut k_;have L6:=Uy.seq L4;have F6:Rd H6 qq (.dK kvf):= .inl (Uy _ _ f4);have loud:(decide (tt.2.1∈gs)||decide (tt.2.2∈gs))=true->∀e,H6 e=none->E (.ref (cA K "Loose")) (some e) H6:=λhb e he=>by
      have hl:pI gs W=true:=Nf.mpr ⟨_,k_,hb⟩;rw[if_pos hl] at k;exact k H6 e (s4.trans Uy) he
     have hlen1:Ux.length<=100:=XN _ (LW.mp k_).1;have hlen2:(" is not taken out, but an end of it is":Str).length<=100:=by decide+kernel
     symm;refine C3 (v:= .ref c) (by have z':=O8 (k:=Sum.inr Ux) F6;rw[ev] at z';exact z') ?_;symm;refine x6 sc ?_;symm;refine jy L6 ?_;symm;refine M4 (λh1=>?_) (λh1=>?_)
     .symm;refine⟨Ux,rfl,by lia,λz=>?_⟩;symm;walk_at "X";exact⟨b5 (by simp),loud (by rw[Ma h1];rfl)⟩
     .symm;refine C3 (v:= .ref c) (by have z':=O8 (k:=Sum.inr Ux) F6;rw[ev] at z';exact z') ?_;symm;refine ib sc ?_;symm;refine jy L6 ?_;symm;refine M4 (λh2=>?_) (λh2=>?_)
      .symm;refine⟨Ux,rfl,by lia,λz=>?_⟩;symm;walk_at "X";exact⟨b5 (by simp),loud (by rw[Ma h2,Bool.or_true])⟩
      .symm;refine⟨s6,⟨_,rfl⟩,λn hn t ht=>?_⟩;rw[Mt,C_] at hn;rcases LO.mp hn with h'|h'
       .exact ha n h' t ht
       .have Wf:n=Ux:=by simpa using h'
        subst Wf;rw[C6 Ut ht k_,Mn h1,Mn h2];rfl
    .rintro σ H6 ⟨s6,⟨v4,rfl⟩,ha⟩;refine⟨⟨_,SqL.of (s6 _ _ f5),by rw[Lz];exact LC _⟩,?_⟩;rw[LN (LC _)] at ha;have hl:¬pI gs W=true:=λz=>by
      obtain⟨x,hx,hb⟩:=Nf.mp z;rw[ha x.1 (a1.mem_iff.mpr (LB.mpr ⟨x,hx,rfl⟩)) x.2 hx] at hb;cases hb
     rw[if_neg hl] at k;have Uy:=m5.trans s6;symm;refine⟨b5 (by simp),λt9 n9=>?_⟩;obtain⟨H9,e9,f9,m9,_⟩:=b0 (o:= .tup _) n9;rw[e9];have XU:=Uy.trans m9;symm;exact⟨t9,pp,qq,kvf,aC gs W,rfl,⟨SqT.of f9,.inl (XU _ _ hpp),.inl (XU _ _ f4),TT.mono XU.le⟩,K7 nd1,Ut,Mb (LQ _ _) l1,Mb (LQ _ _) l2,NewP.mono (s4.trans XU) k⟩
def uY (K:Za):Sp:=λvs H Q _=>∃(a p q d:Addr) (kvs:List (i6×V)) (W:p8) (kvm:List (i6×V)),vs=[.ref a,.ref d]/\WebAt K H a p q kvs W/\(b4 W).length<=60/\Rd H d (.dK kvm)/\(∀n∈b4 W,TxtAt kvm n)/\∀(l:Addr) (H':Hp) (s1 s2:List Str),H l=none->Same H H'->H' l=some (.lst (((s1++s2).map (g0 kvm)).map V.str))->Ordr W s1 s2->Q (.ref l) H'
abbrev zU:=λP w K mg base=>K3 P w K mg base A9 2 "line" ["piece","match"] [] (uY K)
def BR {f fd}(T:Txt K mg)(p7:M8 P w K mg base)(F:Fun K "line" "line" tw f fd):x8 P w K mg base A9 2 f fd ["piece","match"] (uY K):=by
 walk_at "#sc_line"
 .obtain⟨a,p,q,d,kvs,W,kvm,rfl,_⟩:=h;rfl
 .obtain⟨a,p,q,d,kvs,W,kvm,rfl,hW,hl,hD,hT,k⟩:=h;walk_at "@sc_line 8mname;1;k3)70d0name,match;tb100";symm;refine⟨a,p,q,kvs,W,rfl,hW,hl,λl1 H1 s1 s2 n1 m1 f1 or=>?_⟩;have hlen:=or.len;refine k8 (SqL.of f1) ?_;refine j9 (n:=(s1++s2).length) (λi out H'=>Same H1 H'/\out=((s1++s2).take i).map λn=>V.str (g0 kvm n)) ⟨Same.refl _,rfl⟩ (λi out H' hi hp=>⟨_,.str ((s1++s2)[i]),SqL.of (hp.1 _ _ f1),by rw[LF,LA hi];rfl⟩) ?_ ?_
  .rintro N i v out H2 H3 hi ⟨s3,rfl⟩ y hN';obtain⟨rfl,hx⟩:=Itl.get y (SqL.of (s3 _ _ f1));rw[LF,LA hi] at hx;cases hx;symm;refine⟨rfl,?_⟩;symm;refine ES ((m1.trans s3).rd hD) (hT _ (or.mem.mp (Mu hi))) ?_;refine⟨b5 (by rw[Lz,LM];lia),hN' _ _ ⟨s3,?_⟩⟩;exact A1 (λn:Str=>V.str (g0 kvm n)) (LA hi)
  .rintro out H2 ⟨s3,rfl⟩;refine⟨⟨_,SqL.of (s3 _ _ f1),by rw[Lz];exact LC _⟩,λD hD'=>⟨b5 (by rw[Lz,LM];lia),?_⟩⟩;rw[LN (LC _)];obtain⟨H3,e3,f3,m3,_⟩:=b0 (o:= .lst ((s1++s2).map λn=>V.str (g0 kvm n))) hD';refine k D _ s1 s2 ((m1.trans s3).free hD') ?_ ?_ or
   .show Same _ (upd _ D _);rw[e3];exact m1.trans (s3.trans m3)
   .show upd _ D _ D=_;rw[d8,Mo];rfl
open Classical in
noncomputable def uK (P W:p8)(kvm:List (i6×V)):Bool:=decide (FitP P W kvm)
open Classical in
def iy {P W:p8}{kvm:List (i6×V)}(h:¬FitP P W kvm):uK P W kvm=false:=by unfold uK;exact Mn h
open Classical in
def uO {P W:p8}{kvm:List (i6×V)}(h:FitP P W kvm):uK P W kvm=true:=by unfold uK;exact Ma h
def KC (K:Za)(H:Hp)(mv:V)(P W:p8)(b:Bool):Prop:=∃d kvm,mv= .ref d/\H d=some (.dK kvm)/\(kvm.map (·.1)).Nodup/\kvm.length<=100/\(∀kv∈kvm,∃t,TyB K H kv.2 t)/\b=uK P W kvm
def Bz (kvm:List (i6×V))(n:Str):Bool:=match k9 kvm (Sum.inr n:i6) with
 |some (.str _)=>true
 |_=>false
def txB_iff {kvm:List (i6×V)}{n:Str}:Bz kvm n=true↔TxtAt kvm n:=by
 unfold Bz TxtAt;constructor
 .intro h;split at h
  .next s e=>exact⟨s,e⟩
  .cases h
 .rintro⟨s,e⟩;rw[e]
def EG {H:Hp}{v:V}{t:String}(h:TyB K H v t):mn t "str"=(match v with| .str _=>true|_=>false):=by
 cases v with
 |non=>cases h;rfl
 |bl _=>cases h;rfl
 |int _=>cases h;rfl
 |str _=>cases h;rfl
 |ref a=>rcases h with⟨rfl,_⟩|⟨rfl,_⟩|⟨rfl,_⟩<;>rfl
 |_=>exact h.elim
def Ex {H:Hp}{kvm:List (i6×V)}(h:∀kv∈kvm,∃t,TyB K H kv.2 t)(n:Str):∃t,TyB K H ((k9 kvm (Sum.inr n:i6)).getD .non) t/\mn t "str"=Bz kvm n:=by
 unfold Bz;cases e:k9 kvm (Sum.inr n:i6) with
 |none=>exact⟨"NoneType",rfl,rfl⟩
 |some v=>
  obtain⟨t,ht⟩:=h _ (pT e)
  refine⟨t,ht,?_⟩
  rw[EG (v:=v) ht]
  cases v<;>rfl
def jf (K:Za):Sp:=λvs H Q _=>∃(a p q a' p' q':Addr) (kvs d_:List (i6×V)) (Pc W:p8) (mv:V) (b:Bool),vs=[.ref a,.ref a',mv]/\WebIs 60 K H a p q kvs Pc/\WebIs 60 K H a' p' q' d_ W/\KC K H mv Pc W b/\∀H',Same H H'->Q (.bl b) H'
abbrev lq:=λP w K mg base=>K3 P w K mg base A9 3 "is_match" ["piece","web","match"] [] (jf K)
def sx {f fd}(T:Txt K mg)(p7:M8 P w K mg base)(tM:zU P w K mg base)(B6:T8 P w K mg base)(F:Fun K "is_match" "is_match" fi f fd):x8 P w K mg base A9 3 f fd ["piece","web","match"] (jf K):=by
 walk_at "#sc_is_match"
 .obtain⟨a,p,q,a',p',q',kvs,d_,Pc,W,mv,b,rfl,_⟩:=h;rfl
 .obtain⟨a,p,q,a',p',q',kvs,d_,Pc,W,mv,b,rfl,hP,hW,hM,k⟩:=h;have hPl:=hP.len;walk_at "@sc_is_match 533)709LM:Nq~f~e~d622'3Jt ~tDO=c/l72l73f9LNq^][2mname;2;k03d0name,match;tq~f~e~di~i0100'3Jt ~q~p~o9Lc/l2w'2IU XG'0T.b_set ~s23'0tM e02l73f9LNq^][2mname,kind;21;,40Ed0name,kind,match,web;d1name,kind,match,web;tCS~i43b20001f8q^][2mname,tie;21;,40Ed0name,tie,match,web;d1name,tie,match,web;tCS~i43b2003'0B6 e12f"
  symm;refine⟨a,p,q,kvs,Pc,rfl,hP.at_,by lia,λln H1 s1 s2 n1 m1 f1 or=>?_⟩;have hlen:=or.len;symm;obtain⟨d,kvm,rfl,hD0,XW,hml,Uh,rfl⟩:=hM;have hD:Rd H d (.dK kvm):= .inl hD0;have D1:=m1.rd hD;refine qt (rR (t:="dict") (.inr (.inr ⟨rfl,_,D1⟩)) (by simp) ?_);rw[Gf];symm;refine D6 (X1 D1 ?_);symm;refine D6 (z7 (SqL.of f1) ?_);rw[Lz,hlen];symm;refine dy (λhz=>?_) (λhz=>?_)
  .symm;rw[←iy (P:=Pc) (W:=W) (kvm:=kvm) (λz=>hz (by rw[z.len]))];exact k _ m1
  have XF:kvm.length=(b4 Pc).length:=Int.ofNat_inj.mp hz;symm;refine k8 (SqL.of f1) ?_;refine j9 (n:=(s1++s2).length) (λi out H'=>Same H1 H'/\out=((s1++s2).take i).map λn=>V.bl (Bz kvm n)) ⟨Same.refl _,rfl⟩ (λi out H' hi hp=>⟨_,.str ((s1++s2)[i]),SqL.of (hp.1 _ _ f1),by rw[LF,LA hi];rfl⟩) ?_ ?_
  .rintro N i v out H2 H3 hi ⟨s3,rfl⟩ y hN';obtain⟨rfl,hx⟩:=Itl.get y (SqL.of (s3 _ _ f1));rw[LF,LA hi] at hx;cases hx;symm;refine⟨rfl,?_⟩;symm;refine⟨d,rfl,.inl ⟨_,s3.rd D1⟩,?_⟩;symm;refine⟨_,O8 (k:=Sum.inr (s1++s2)[i]) (s3.rd D1),?_⟩;obtain⟨t,ht,e⟩:=Ex (K:=K) Uh (s1++s2)[i];symm;refine qt (rR (ht.mono (m1.trans s3)) (by simp) ?_);rw[e];refine⟨b5 (by rw[Lz,LM];lia),hN' _ _ ⟨s3,?_⟩⟩;exact A1 (λn:Str=>V.bl (Bz kvm n)) (LA hi)
  .rintro out H2 ⟨s3,rfl⟩;refine⟨⟨_,SqL.of (s3 _ _ f1),by rw[Lz];exact LC _⟩,λD hD'=>⟨b5 (by rw[Lz,LM];lia),?_⟩⟩;rw[LN (LC _)];have e9:((s1++s2).map λn=>V.bl (Bz kvm n))=((s1++s2).map (Bz kvm)).map V.bl:=by rw[Mo];rfl
   rw[e9];obtain⟨H3,e3,f3,m3,_⟩:=b0 (o:= .lst (((s1++s2).map (Bz kvm)).map V.bl)) hD';have m4:=m1.trans (s3.trans m3);have f4:=m3 _ _ (s3 _ _ f1);symm;change wG K _ (upd H2 D _) _;rw[e3];refine oq (SqL.of f3) ?_;symm;refine hJ (λhb=>?_) (λhb=>?_)
   .symm;rw[←iy (P:=Pc) (W:=W) (kvm:=kvm) (λz=>?_)]
    .exact k _ m4
    .have:((s1++s2).map (Bz kvm)).all id=true:=by
      rw[NM,Mq];exact λn hn=>txB_iff.mpr (z.txt n (or.mem.mp hn))
     rw[this] at hb;cases hb
   have hT:∀n∈b4 Pc,TxtAt kvm n:=λn hn=>by
    rw[NM,Mq] at hb;exact txB_iff.mp (hb n (or.mem.mpr hn))
   symm;refine⟨a,p,q,d,kvs,Pc,kvm,rfl,hP.at_.mono m4.le,by lia,m4.rd hD,hT,λl5 H5 r1 r2 n5 m5 f5 or5=>?_⟩;have WY:=or5.len;symm;refine⟨l5,_,rfl,SqL.of f5,by rw[Lz];lia,λl6 n6=>?_⟩;obtain⟨H6,e6,f6,m6,_⟩:=b0 (o:= .ext (cj l6 (il ((r1++r2).map (g0 kvm))).length)) n6;rw[e6];symm;have Vz:(il ((r1++r2).map (g0 kvm))).length<=1000:=by
    have z:=kM ((r1++r2).map (g0 kvm)) [];rw[Lz] at z;unfold il;simp only[Pd] at z;lia
   refine mZ f6 Vz ?_;symm;refine D6 (z7 (SqL.of (m6 _ _ (m5 _ _ f4))) ?_);rw[Lz,hlen];symm;have m7:=m4.trans (m5.trans m6);have WZ:(il ((r1++r2).map (g0 kvm))).length=(b4 Pc).length↔((b4 Pc).map (g0 kvm)).Nodup:=by
    have z:=qR ((r1++r2).map (g0 kvm));rw[Lz,WY] at z;rw[z];exact(or5.perm.map _).nodup_iff
   refine dy (λXX=>?_) (λXX=>?_)
   .symm;rw[←iy (P:=Pc) (W:=W) (kvm:=kvm) (λz=>XX (by rw[WZ.mpr z.nd]))];exact k _ m7
   have TZ:=WZ.mp (Int.ofNat_inj.mp XX);clear XX;have D7:=m7.rd hD;have ZP:=m7 _ _ hP.hp;have P7:=hP.same m7;have W7:=hW.same m7;have ZQ:=p0 Pc.pts;have SY:=hP.at_.ts.length;rw[E4] at hPl;symm;refine A3 P7.at_.tup ?_;refine E5 ZP (λT' o8=>?_);refine j9 (n:=(i8 Pc.pts).length) (λi out H'=>Same (E6 p o8 (i8 Pc.pts) H6) H'/\out=(Pc.pts.take i).map λx=>V.bl (decide ((g0 kvm x.1,x.2)∈W.pts))) ⟨Same.refl _,rfl⟩ (λi out H' hi hp=>⟨hp.1 _ _ d8,hi⟩) ?_ ?_
   .rintro N i v out H8' H8 hi ⟨s8,rfl⟩ ⟨t,kv,h_,nt,rfl,rfl⟩ hN';obtain⟨x,hx,rfl⟩:=fL h_;obtain⟨H9,e9,f9,m9,_⟩:=b0 (o:= .tup _) nt;rw[e9];have le9:=(R7 (o:=o8) ZP).trans (s8.trans m9).le;have W9:=W7.at_.mono le9;have D9:=le9.dic D7;refine N5 (SqT.of f9) rfl ?_;symm;refine⟨rfl,?_⟩;symm;refine A3 W9.tup ?_;refine⟨p',rfl,.inl ⟨_,W9.pts⟩,?_⟩;symm;refine ES D9 (hT _ (LH _ (LB.mpr ⟨x,LV hx,rfl⟩))) ?_;refine⟨_,O8 (k:=Sum.inr (g0 kvm x.1)) W9.pts,?_⟩;symm;refine Ic (D0 W7.nd) ?_;refine⟨b5 (by rw[Lz,LM];lia),hN' _ _ ⟨s8.trans m9,?_⟩⟩;exact A1 (λx:Str×Str=>V.bl (decide ((g0 kvm x.1,x.2)∈W.pts))) hx
   .rintro out H8 ⟨s8,rfl⟩;refine⟨⟨s8 _ _ d8,LC _⟩,λD8 hD8=>⟨b5 (by rw[Lz,LM];lia),?_⟩⟩;rw[ZQ,LN (LC _)];have Vs:(Pc.pts.map λx=>V.bl (decide ((g0 kvm x.1,x.2)∈W.pts)))=(Pc.pts.map λx=>decide ((g0 kvm x.1,x.2)∈W.pts)).map V.bl:=by rw[Mo];rfl
    rw[Vs];have sM:=U8 ZP s8 hD8 (u:= .lst ((Pc.pts.map λx=>decide ((g0 kvm x.1,x.2)∈W.pts)).map V.bl));have fM:=cg s8 hD8 (u:= .lst ((Pc.pts.map λx=>decide ((g0 kvm x.1,x.2)∈W.pts)).map V.bl));generalize thaw p (upd H8 D8 (.lst ((Pc.pts.map λx=>decide ((g0 kvm x.1,x.2)∈W.pts)).map V.bl)))=HM at sM fM⊢;symm;refine oq (SqL.of fM) ?_;symm;have mM:=m7.trans sM;refine hJ (λRn=>?_) (λRn=>?_)
    .symm;rw[←iy (P:=Pc) (W:=W) (kvm:=kvm) (λz=>?_)]
     .exact k _ mM
     .have:(Pc.pts.map λx=>decide ((g0 kvm x.1,x.2)∈W.pts)).all id=true:=by
       rw[NM,Mq];exact λx hx=>Ma (z.pts x hx)
      rw[this] at Rn;cases Rn
    have ZR:∀x∈Pc.pts,(g0 kvm x.1,x.2)∈W.pts:=λx hx=>by
     rw[NM,Mq] at Rn;exact ME (Rn x hx)
    have DM:=mM.rd hD;have PM:=hP.same mM;have WM:=hW.same mM;have ZS:=PM.hq;symm;refine x6 PM.at_.tup ?_;refine E5 ZS (λWJ o10=>?_);refine j9 (n:=kvs.length) (λi out H'=>Same (E6 q o10 kvs HM) H'/\out=(Pc.ts.take i).map λx=>V.bl (decide ((g0 kvm x.1,(x.2.1,g0 kvm x.2.2.1,g0 kvm x.2.2.2))∈W.ts))) ⟨Same.refl _,rfl⟩ (λi out H' hi hp=>⟨hp.1 _ _ d8,hi⟩) ?_ ?_
    .rintro N i v out H11' XY hi ⟨s11,rfl⟩ ⟨t,kv,h_,nt,rfl,rfl⟩ hN';obtain⟨H12,XZ,VT,s_,_⟩:=b0 (o:= .tup _) nt;rw[XZ];have VA:=(R7 (o:=o10) ZS).trans (s11.trans s_).le;have UL:=WM.at_.mono VA;have D12:=VA.dic DM;obtain⟨x,hx,ex,bb,eb,sb⟩:=(PM.at_.ts.mono VA).get h_;obtain⟨kk,Up⟩:=kv;have Tf:kk=Sum.inr x.1:=ex;have Uq:Up= .ref bb:=eb;subst Tf Uq;have Tn:=LV hx;have VQ:=hP.ends x Tn;refine N5 (SqT.of VT) rfl ?_;symm;refine⟨rfl,?_⟩;symm;refine x6 UL.tup ?_;refine⟨q',rfl,.inl ⟨_,UL.ties⟩,?_⟩;symm;refine ES D12 (hT _ (LP _ (LB.mpr ⟨x,Tn,rfl⟩))) ?_;refine⟨_,O8 (k:=Sum.inr (g0 kvm x.1)) UL.ties,?_⟩;symm;refine⟨bb,d,x.2,kvm,rfl,sb,D12,hT _ (LH _ VQ.1),hT _ (LH _ VQ.2),λl13 H13 n13 TJ UM=>?_⟩;refine FF (UL.mono TJ.le).ts (L9 hW.nd) (SqT.of UM) ?_;refine⟨b5 (by rw[Lz,LM];lia),hN' _ _ ⟨s11.trans (s_.trans TJ),?_⟩⟩;exact A1 (λx:Str×J2=>V.bl (decide ((g0 kvm x.1,(x.2.1,g0 kvm x.2.2.1,g0 kvm x.2.2.2))∈W.ts))) hx
    .rintro out XY ⟨s11,rfl⟩;refine⟨⟨s11 _ _ d8,LC _⟩,λD11 hD11=>⟨b5 (by rw[Lz,LM];lia),?_⟩⟩;rw[SY,LN (LC _)];have X_:(Pc.ts.map λx=>V.bl (decide ((g0 kvm x.1,(x.2.1,g0 kvm x.2.2.1,g0 kvm x.2.2.2))∈W.ts)))=(Pc.ts.map λx=>decide ((g0 kvm x.1,(x.2.1,g0 kvm x.2.2.1,g0 kvm x.2.2.2))∈W.ts)).map V.bl:=by rw[Mo];rfl
     rw[X_];generalize VB:(Pc.ts.map λx=>decide ((g0 kvm x.1,(x.2.1,g0 kvm x.2.2.1,g0 kvm x.2.2.2))∈W.ts))=bs;have sN:=U8 ZS s11 hD11 (u:= .lst (bs.map V.bl));have fN:=cg s11 hD11 (u:= .lst (bs.map V.bl));generalize thaw q (upd XY D11 (.lst (bs.map V.bl)))=HN at sN fN⊢;symm;refine oq (SqL.of fN) ?_;have eF:bs.all id=uK Pc W kvm:=by
      rw[←VB];cases hc:(Pc.ts.map λx=>decide ((g0 kvm x.1,(x.2.1,g0 kvm x.2.2.1,g0 kvm x.2.2.2))∈W.ts)).all id with
      |true=>
       rw[NM,Mq] at hc
       exact(uO ⟨XF,hT,TZ,ZR,λx hx=>ME (hc x hx)⟩).symm
      |false=>
       refine(iy λz=>?_).symm
       have:(Pc.ts.map λx=>decide ((g0 kvm x.1,(x.2.1,g0 kvm x.2.2.1,g0 kvm x.2.2.2))∈W.ts)).all id=true:=by
        rw[NM,Mq];exact λx hx=>Ma (z.ts x hx)
       rw[this] at hc;cases hc
     rw[eF];exact k _ (mM.trans sN)
def V0 (f:Str->Str)(W:p8):p8:=⟨W.pts.map λx=>(f x.1,x.2),W.ts.map λx=>(f x.1,(x.2.1,f x.2.2.1,f x.2.2.2))⟩
def jR (K:Za):Sp:=λvs H Q _=>∃(a d p q:Addr) (kvs nm:List (i6×V)) (W:p8) (f:Str->Str),vs=[.ref a,.ref d]/\WebAt K H a p q kvs W/\H p=some (.dK (i8 W.pts))/\H q=some (.dK kvs)/\Rd H d (.dK nm)/\f=g0 nm/\(∀n∈b4 W,TxtAt nm n)/\((b4 W).map f).Nodup/\(b4 W).length<=60/\
 (∀x∈W.ts,x.2.2.1∈W.pts.map (·.1)/\x.2.2.2∈W.pts.map (·.1))/\NewP K H Q (V0 f W)
abbrev mQ:=λP w K mg base=>K3 P w K mg base A9 3 "renamed" ["web","names"] [] (jR K)
def tW {f fd}(T:Txt K mg)(B6:T8 P w K mg base)(B8:aV P w K mg base)(F:Fun K "renamed" "renamed" iz f fd):x8 P w K mg base A9 3 f fd ["web","names"] (jR K):=by
 walk_at "#sc_renamed"
 .obtain⟨a,d,p,q,kvs,nm,W,f,rfl,_⟩:=h;rfl
 .obtain⟨a,d,p,q,kvs,nm,W,f,rfl,hW,hp,hq,hd,rfl,hT,TZ,hl,hE,k⟩:=h;have hf:∀n∈b4 W,k9 nm (Sum.inr n:i6)=some (.str (g0 nm n)):=λn hn=>(hT n hn).at_;have hln:W.pts.length+W.ts.length<=60:=by unfold b4 at hl;rw[LJ,Lz,Lz] at hl;exact hl
  have hf1:∀x∈W.pts,k9 nm (Sum.inr x.1:i6)=some (.str (g0 nm x.1)):=λx hx=>hf _ (LH _ (LB.mpr ⟨x,hx,rfl⟩));have hf2:∀x∈W.ts,k9 nm (Sum.inr x.1:i6)=some (.str (g0 nm x.1)):=λx hx=>hf _ (LP _ (LB.mpr ⟨x,hx,rfl⟩));have nd1:((V0 (g0 nm) W).pts.map (·.1)).Nodup:=by
   unfold b4 at TZ;rw[LK] at TZ;have z:=(Mm.mp TZ).1;unfold V0;rw[Mo] at z⊢;exact z
  have Uv:((V0 (g0 nm) W).ts.map (·.1)).Nodup:=by
   unfold b4 at TZ;rw[LK] at TZ;have z:=(Mm.mp TZ).2.1;unfold V0;rw[Mo] at z⊢;exact z
  have RO:=p0 W.pts;have SY:=hW.ts.length;walk_at "@sc_renamed 52wWDO2mname,kind;1;,40Ed0name,kind,names;d1name,kind,names;trnb2007153wWDO2mname,tie;1;,40Ed0name,tie,names;d1name,tie,names;trib2003'0B6 e1283@2re23"
  symm;refine A3 hW.tup ?_;refine E5 hp (λT' o1=>?_);refine j9 (n:=(i8 W.pts).length) (λi out H'=>Same (E6 p o1 (i8 W.pts) H) H'/\Paired (PrV K H') out (i8 ((W.pts.take i).map λx=>(g0 nm x.1,x.2)))) ⟨Same.refl _,.nil⟩ (λi out H' hi hp=>⟨hp.1 _ _ d8,hi⟩) ?_ ?_
  .rintro N i v out H1 H2 hi ⟨s1,pr⟩ ⟨t,kv,h_,nt,rfl,rfl⟩ hN';obtain⟨x,hx,rfl⟩:=fL h_;obtain⟨H3,e3,f3,m3,_⟩:=b0 (o:= .tup _) nt;rw[e3];have d3:=((R7 (o:=o1) hp).trans (s1.trans m3).le).dic hd;have e7:W.pts.take (i+1)=W.pts.take i++[x]:=by rw[Mt,hx];rfl
   refine N5 (SqT.of f3) rfl ?_;symm;refine⟨rfl,?_⟩;symm;refine C3 (v:= .str (g0 nm x.1)) (by have z':=O8 (k:=Sum.inr x.1) d3;rw[hf1 x (LV hx)] at z';exact z') ?_;symm;refine⟨b5 (by simp),λt4 n4=>?_⟩;obtain⟨H4,e4,f4,m4,_⟩:=b0 (o:= .tup _) n4;rw[e4];have v_:=Mj pr;rw[p0,Lz,LM] at v_;refine⟨b5 (by lia),hN' _ _ ⟨s1.trans (m3.trans m4),?_⟩⟩;rw[e7,LK];unfold i8 at pr⊢;rw[LK];exact w4 (Paired.imp' (λ_ _ z=>PrV.mono (m3.trans m4).le z) pr) ⟨t4,rfl,SqT.of f4⟩
  .rintro out H1 ⟨s1,pr⟩;have v_:=Mj pr;rw[p0,Lz,LM] at v_;refine⟨⟨s1 _ _ d8,LC _⟩,λD hD=>⟨b5 (by lia),?_⟩⟩;have sM:=U8 hp s1 hD (u:= .lst out);have fM:=cg s1 hD (u:= .lst out);have Vw:=Paired.imp' (λ_ _ z=>PrV.mono (oT (d:=p) (u:= .lst out) hD) z) pr;generalize thaw p (upd H1 D (.lst out))=HM at sM fM Vw⊢;rw[LN (by lia)] at Vw;symm;refine R5 (SqL.of fM) Vw (b5 (by rw[p0,Lz];lia)) (λpp npp=>?_);have eP:aU (i8 (W.pts.map λx=>(g0 nm x.1,x.2)))=i8 (V0 (g0 nm) W).pts:=X8 (Z7 nd1);rw[eP];obtain⟨H2,e2,f2,m2,_⟩:=b0 (o:= .dK (i8 (V0 (g0 nm) W).pts)) npp;show O5 _ _ _ (upd HM pp (.dK (i8 (V0 (g0 nm) W).pts))) _;rw[e2];have s2:=sM.trans m2;have W2:=hW.mono s2.le;have Vx:=s2 _ _ hq;symm;refine x6 W2.tup ?_;refine E5 Vx (λWJ o2=>?_);refine j9 (n:=kvs.length) (λi out H'=>Same (E6 q o2 kvs H2) H'/\∃ks2,Paired (PrV K H') out ks2/\TiesIs K H' ks2 ((W.ts.take i).map λx=>(g0 nm x.1,(x.2.1,g0 nm x.2.2.1,g0 nm x.2.2.2)))) ⟨Same.refl _,[],.nil,.nil⟩ (λi out H' hi hp=>⟨hp.1 _ _ d8,hi⟩) ?_ ?_
   .rintro N i v out H3 H3' hi ⟨s3,ks2,pr3,ti3⟩ ⟨t,kv,h_,nt,rfl,rfl⟩ hN';obtain⟨H4,e4,f4,m4,_⟩:=b0 (o:= .tup _) nt;rw[e4];have Us:=(R7 (o:=o2) Vx).trans (s3.trans m4).le;have d4:=Us.dic (s2.rd hd);obtain⟨x,hx,ex,b,eb,sb⟩:=(W2.ts.mono Us).get h_;have Tn:x∈W.ts:=LV hx;have e7:W.ts.take (i+1)=W.ts.take i++[x]:=by rw[Mt,hx];rfl
    refine N5 (SqT.of f4) rfl ?_;rw[ex,eb];symm;refine⟨rfl,?_⟩;symm;refine C3 (v:= .str (g0 nm x.1)) (by have z':=O8 (k:=Sum.inr x.1) d4;rw[hf2 x Tn] at z';exact z') ?_;symm;refine⟨b,d,x.2,nm,rfl,sb,d4,hT _ (LH _ (hE x Tn).1),hT _ (LH _ (hE x Tn).2),λt5 H5 n5 m5 f5=>?_⟩;symm;refine⟨b5 (by simp),λt6 n6=>?_⟩;obtain⟨H6,e6,f6,m6,_⟩:=b0 (o:= .tup _) n6;rw[e6];have v_:=Mj pr3;have VC:=ti3.length;rw[Lz,LM] at VC;have mA:=m4.trans (m5.trans m6);refine⟨b5 (by lia),hN' _ _ ⟨s3.trans mA,ks2++[((Sum.inr (g0 nm x.1):i6),V.ref t5)],w4 (Paired.imp' (λ_ _ z=>PrV.mono mA.le z) pr3) (show PrV K H6 (.ref t6) ((Sum.inr (g0 nm x.1):i6),V.ref t5) from⟨t6,rfl,SqT.of f6⟩),?_⟩⟩;rw[e7,LK];exact w4 (ti3.mono mA.le) ⟨rfl,t5,rfl,SqT.of (m6 _ _ f5)⟩
   .rintro out H3 ⟨s3,ks2,pr3,ti3⟩;have v_:=Mj pr3;have VC:=ti3.length;rw[Lz,LM] at VC;refine⟨⟨s3 _ _ d8,LC _⟩,λD' hD'=>⟨b5 (by lia),?_⟩⟩;have sN:=U8 Vx s3 hD' (u:= .lst out);have fN:=cg s3 hD' (u:= .lst out);have leN:=oT (d:=q) (u:= .lst out) hD';have prN:=Paired.imp' (λ_ _ z=>PrV.mono leN z) pr3;have Ya:=ti3.mono leN;generalize thaw q (upd H3 D' (.lst out))=HN at sN fN prN Ya⊢;rw[LN (by lia)] at Ya;have XT:(ks2.map (·.1)).Nodup:=by
     rw[Ya.keys,←A7];refine Od _ ?_ Uv;exact λa b h z=>h (NH z)
    symm;refine R5 (SqL.of fN) prN (b5 (by lia)) (λqq nqq=>?_);rw[X8 XT];obtain⟨H5,e5,f5,m5,_⟩:=b0 (o:= .dK ks2) nqq;show O5 _ _ _ (upd HN qq (.dK ks2)) _;rw[e5];symm;refine⟨b5 (by simp),λt9 n9=>?_⟩;obtain⟨H9,e9,f9,m9,_⟩:=b0 (o:= .tup _) n9;rw[e9];symm;have sA:=s2.trans (sN.trans (m5.trans m9));have gp:=m9 _ _ (m5 _ _ (sN _ _ f2));have gq:=m9 _ _ f5;refine⟨t9,pp,qq,ks2,V0 (g0 nm) W,rfl,⟨SqT.of f9,.inl gp,.inl gq,Ya.mono (m5.trans m9).le⟩,nd1,Uv,by unfold V0;rw[Lz];lia,by unfold V0;rw[Lz];lia,λa' p' q' d_ W' H' sH hW' h1 h2 h3 h4 h5 h6 h7=>k a' p' q' d_ W' H' (sA.trans sH) hW' h1 h2 h3 (sA.free h4) (sA.free h5) h6 h7⟩
def IH (W M:p8):p8:=⟨(W.pts.filter λx=>!decide (x.1∈M.pts.map (·.1)))++M.pts,(W.ts.filter λx=>!decide (x.1∈M.ts.map (·.1)))++M.ts⟩
def xC {k:i6}{v:V}:∀{ka:List (i6×V)},(ka.map (·.1)).Nodup->(E1 ka k v).Perm ((ka.filter λx=>!decide (x.1=k))++[(k,v)]):=by
 have rep:∀{ka:List (i6×V)},(ka.map (·.1)).Nodup->(∃x∈ka,x.1=k)->(ka.map λx=>if x.1=k then(x.1,v) else x).Perm ((ka.filter λx=>!decide (x.1=k))++[(k,v)]):=by
  intro ka;induction ka with
  |nil=>rintro _ ⟨x,h,_⟩;cases h
  |cons p r ih=>
   intro nd hx
   have nd':=MN.mp (show(p.1::r.map (·.1)).Nodup from nd)
   by_cases e:p.1=k
   .have hr:∀x∈r,¬x.1=k:=λx hx z=>nd'.1 (by rw[e,←z];exact LB.mpr ⟨x,hx,rfl⟩)
    have e1:(r.map λx=>if x.1=k then(x.1,v) else x)=r:=(MX λx hx=>by rw[if_neg (hr x hx)]).trans (Qv r)
    have e2:(r.filter λx=>!decide (x.1=k))=r:=OT.mpr λx hx=>by rw[Mn (hr x hx)];rfl
    rw[MG,if_pos e,e1,MB (by simp [e]),e2,e]
    exact PQ (l₁:=[(k,v)]) (l₂:=r)
   .rw[MG,if_neg e,Mw (by simp [e]),Rf]
    refine List.Perm.cons _ (ih nd'.2 ?_)
    obtain⟨x,hx,ex⟩:=hx
    rcases Mr.mp hx with z|z
    .exact absurd (z▸ex) e
    .exact⟨x,z,ex⟩
 intro ka nd;cases hv:k9 ka k with
 |none=>
  rw[K1 v hv,OT.mpr λx hx=>?_]
  have:x.1≠k:=λz=>by
   have q:=hZ nd hx;rw[z,hv] at q;cases q
  simp [this]
 |some y=>
  have hx:∃x∈ka,x.1=k:=⟨_,pT hv,rfl⟩
  unfold E1
  rw[if_pos (by rw[N1,hv];rfl)]
  exact rep nd hx
open Classical in
theorem cO:∀{kb ka:List (i6×V)},(ka.map (·.1)).Nodup->(kb.map (·.1)).Nodup->(N6 ka kb).Perm ((ka.filter λx=>!decide (x.1∈kb.map (·.1)))++kb)
 |[],ka,_,_=>by
  show ka.Perm _;rw[MM,OT.mpr λx _=>by simp]
 |p::r,ka,nd,nb=>by
  have nb':=MN.mp (show(p.1::r.map (·.1)).Nodup from nb);have ih:=cO (kb:=r) (ka:=E1 ka p.1 p.2) (EM nd) nb'.2;refine(show(N6 (E1 ka p.1 p.2) r).Perm _ from ih).trans ?_;have h1:=(xC (k:=p.1) (v:=p.2) nd).filter λx=>!decide (x.1∈r.map (·.1));refine(h1.append_right r).trans ?_;rw[Mz,OA,Mw (by rw[Mn nb'.1];rfl),MT,Mv];have e:(ka.filter λx=>(!decide (x.1∈r.map (·.1))&& !decide (x.1=p.1)))=ka.filter λx=>!decide (x.1∈(p::r).map (·.1)):=OK λx _=>by
   rw[My];simp only[Mp,MI,MC,MG,Mr,not_or];exact And.comm
  rw[e];exact Ow _
def om {A:List (Str×Str)}{B:List Str}{n:Str}:((Sum.inr n:i6)∈B.map (Sum.inr:Str->i6))↔n∈B:=⟨T7,λh=>LB.mpr ⟨n,h,rfl⟩⟩
open Classical in
def Cv {A B:List (Str×Str)}(na:(A.map (·.1)).Nodup)(nb:(B.map (·.1)).Nodup):∃U,N6 (i8 A) (i8 B)=i8 U/\U.Perm ((A.filter λx=>!decide (x.1∈B.map (·.1)))++B):=by
 have h:=cO (Z7 na) (Z7 nb);have pr:Paired (fun(kv:i6×V) (x:Str×Str)=>kv=(Sum.inr x.1,.str x.2)) (((i8 A).filter λx=>!decide (x.1∈(i8 B).map (·.1)))++i8 B) ((A.filter λx=>!decide (x.1∈B.map (·.1)))++B):=by
  refine eV (S9 (λkv x e=>?_) (bf A)) (bf B);rw[e,G1,←A7];congr 1;rw[My,Mg,Mg];exact om (A:=A)
 obtain⟨U,h1,h2⟩:=ae h pr;exact⟨U,fh h1,h2⟩
open Classical in
def ED {H:Hp}{ka kb:List (i6×V)}{A B:List (Str×J2)}(wa:TiesIs K H ka A)(wb:TiesIs K H kb B)(na:(A.map (·.1)).Nodup)(nb:(B.map (·.1)).Nodup):∃U,TiesIs K H (N6 ka kb) U/\U.Perm ((A.filter λx=>!decide (x.1∈B.map (·.1)))++B):=by
 have h:=cO (vg wa na) (vg wb nb);have pr:Paired (TieAt K H) ((ka.filter λx=>!decide (x.1∈kb.map (·.1)))++kb) ((A.filter λx=>!decide (x.1∈B.map (·.1)))++B):=by
  refine eV (S9 (λkv x e=>?_) wa) wb;rw[e.1,wb.keys,←A7];congr 1;rw[My,Mg,Mg];exact om (A:=[])
 exact ae h pr
def jA {α:Type}{A B:List (Str×α)}(na:(A.map (·.1)).Nodup)(nb:(B.map (·.1)).Nodup):(((A.filter λx=>!decide (x.1∈B.map (·.1)))++B).map (·.1)).Nodup:=
 Ea (K7 na) nb λn hn hm=>by
  obtain⟨x,hx,rfl⟩:=LB.mp hm;have z:=(LW.mp hx).2;rw[Ma hn] at z;cases z
def mY (K:Za):Sp:=λvs H Q _=>∃(a p q b p2 q2:Addr) (kvs F_:List (i6×V)) (W M:p8),vs=[.ref a,.ref b]/\WebAt K H a p q kvs W/\WebAt K H b p2 q2 F_ M/\(W.pts.map (·.1)).Nodup/\(W.ts.map (·.1)).Nodup/\(M.pts.map (·.1)).Nodup/\(M.ts.map (·.1)).Nodup/\W.pts.length+M.pts.length<=60/\W.ts.length+M.ts.length<=60/\NewP K H Q (IH W M)
def NewP.permM {H H1:Hp}{Q:VK}{W W1:p8}(s:Same H H1)(p1:W1.pts.Perm W.pts)(p2:W1.ts.Perm W.ts)(k:NewP K H Q W):NewP K H1 Q W1:=λa p q kvs W' H' s' h1 h2 h3 h4 h5 h6 h7 h8=>k a p q kvs W' H' (s.trans s') h1 h2 h3 h4 (s.free h5) (s.free h6) (h7.trans p1) (h8.trans p2)
abbrev sr:=λP w K mg base=>K3 P w K mg base A9 3 "united" ["web","more"] [] (mY K)
def wV {f fd}(T:Txt K mg)(B8:aV P w K mg base)(F:Fun K "united" "united" kj f fd):x8 P w K mg base A9 3 f fd ["web","more"] (mY K):=by
 walk_at "#sc_united"
 .obtain⟨a,p,q,b,p2,q2,kvs,F_,W,M,rfl,_⟩:=h;rfl
 .obtain⟨a,p,q,b,p2,q2,kvs,F_,W,M,rfl,hW,hM,Yb,Yc,nm1,nm2,lw1,lw2,k⟩:=h;have SY:=hW.ts.length;have hkl2:=hM.ts.length;walk_at "@sc_united 52wWDO2409%T*'0Oc '0OY '0V3 0224153wWDO2409%T*'0Oc '0OY '0V3 0324183@2re23"
  symm;refine A3 hW.tup ?_;symm;refine Y4 hW.pts (λpp npp=>?_);obtain⟨H1,e1,f1,m1,_⟩:=b0 (o:= .dK _) npp;rw[e1];have M1:=hM.mono m1.le;symm;refine⟨.inr (.inr (.inl ⟨rfl,.inl ⟨_,f1⟩⟩)),?_⟩;symm;refine A3 M1.tup ?_;symm;have nep:pp≠p2:=λz=>by
   have z2:=hM.pts;rw[←z] at z2;rcases z2 with z2|⟨_,z2⟩<;>(rw[npp] at z2;cases z2)
  refine⟨pp,p2,i8 W.pts,i8 M.pts,rfl,rfl,f1,M1.pts,nep,by rw[p0,p0];lia,?_⟩;obtain⟨UP,eUP,ZT⟩:=Cv Yb nm1;rw[eUP];have s2:Same H (upd H1 pp (.dK (i8 UP))):=E9 m1 npp;have f2:(upd H1 pp (.dK (i8 UP))) pp=some (.dK (i8 UP)):=d8;generalize upd H1 pp (.dK (i8 UP))=H2 at s2 f2⊢;have W2:=hW.mono s2.le;symm;refine x6 W2.tup ?_;symm;refine Y4 W2.ties (λqq nqq=>?_);obtain⟨H3,e3,f3,m3,_⟩:=b0 (o:= .dK _) nqq;rw[e3];have s3:=s2.trans m3;have M3:=hM.mono s3.le;have M2:=hM.mono s2.le;symm;refine⟨.inr (.inr (.inl ⟨rfl,.inl ⟨_,f3⟩⟩)),?_⟩;symm;refine x6 M3.tup ?_;symm;have neq:qq≠q2:=λz=>by
   have z2:=M2.ties;rw[←z] at z2;rcases z2 with z2|⟨_,z2⟩<;>(rw[nqq] at z2;cases z2)
  obtain⟨UT,wUT,ZU⟩:=ED (hW.mono s3.le).ts M3.ts Yc nm2;refine⟨qq,q2,kvs,F_,rfl,rfl,f3,M3.ties,neq,by lia,?_⟩;have s4:Same H2 (upd H3 qq (.dK (N6 kvs F_))):=E9 m3 nqq;have f4:(upd H3 qq (.dK (N6 kvs F_))) qq=some (.dK (N6 kvs F_)):=d8;have TT4:TiesIs K (upd H3 qq (.dK (N6 kvs F_))) (N6 kvs F_) UT:=kS f3 wUT;generalize upd H3 qq (.dK (N6 kvs F_))=H4 at s4 f4 TT4⊢;symm;refine⟨b5 (by simp),λt9 n9=>?_⟩;obtain⟨H9,e9,f9,m9,_⟩:=b0 (o:= .tup _) n9;rw[e9];symm;have W_:=LQ (λx:Str×Str=>!decide (x.1∈M.pts.map (·.1))) W.pts;have hfl2:=LQ (λx:Str×J2=>!decide (x.1∈M.ts.map (·.1))) W.ts;refine⟨t9,pp,qq,_,⟨UP,UT⟩,rfl,⟨SqT.of f9,.inl (m9 _ _ (s4 _ _ f2)),.inl (m9 _ _ f4),TT4.mono m9.le⟩,(ZT.map _).nodup_iff.mpr (jA Yb nm1),(ZU.map _).nodup_iff.mpr (jA Yc nm2),?_,?_,NewP.permM (s2.trans (s4.trans m9)) ZT ZU k⟩
  .show UP.length<=60;rw[ZT.length_eq,LJ];lia
  .show UT.length<=60;rw[ZU.length_eq,LJ];lia
def P0 {fr:List (Str×Str)}(nd:(fr.map (·.1)).Nodup){n s:Str}(h:(n,s)∈fr):TxtAt (i8 fr) n/\g0 (i8 fr) n=s:=⟨⟨s,du nd h⟩,fR (du nd h)⟩
def lK {ss:List Str}{f:Str->Str}(nd:ss.Nodup){n:Str}(h:n∈ss):TxtAt (i8 (ss.map λn=>(n,f n))) n/\g0 (i8 (ss.map λn=>(n,f n))) n=f n:=
 P0 (by rw[Mo];exact(Qv ss).symm▸nd) (LB.mpr ⟨n,h,rfl⟩)
def nH (K:Za):Sp:=λvs H Q _=>∃(d l:Addr) (kvs:List (i6×V)) (ss:List Str),vs=[.ref d,.ref l]/\Rd H d (.dK kvs)/\SqL K H l (ss.map V.str)/\ss.Nodup/\ss.length<=60/\(∀n∈ss,TxtAt kvs n)/\∀(d':Addr) (H':Hp),H d'=none->Same H H'->H' d'=some (.dK (i8 (ss.map λn=>(n,g0 kvs n))))->Q (.ref d') H'
abbrev jX:=λP w K mg base=>K3 P w K mg base A9 1 "picked" ["put","names"] [] (nH K)
def yn {f fd}(T:Txt K mg)(F:Fun K "picked" "picked" lS f fd):x8 P w K mg base A9 1 f fd ["put","names"] (nH K):=by
 walk_at "#sc_picked"
 .obtain⟨d,l,kvs,ss,rfl,_⟩:=h;rfl
 .obtain⟨d,l,kvs,ss,rfl,hD,hL,nd,hl,hT,k⟩:=h;walk_at "@sc_picked 8wWDO2mname;0;k01d0name,put;tr602b100";symm;refine k8 hL ?_;refine j9 (n:=ss.length) (λi out H'=>Same H H'/\Paired (PrV K H') out (i8 ((ss.take i).map λn=>(n,g0 kvs n)))) ⟨Same.refl _,.nil⟩ (λi out H' hi hp=>⟨_,.str (ss[i]),hp.1.seq hL,by rw[LF,LA hi];rfl⟩) ?_ ?_
  .rintro N i v out H2' H2 hi ⟨s2,pr⟩ y hN';obtain⟨rfl,hx⟩:=Itl.get y (s2.seq hL);rw[LF,LA hi] at hx;cases hx;have v_:=Mj pr;rw[p0,Lz,LM] at v_;symm;refine⟨rfl,?_⟩;symm;refine ES (s2.rd hD) (hT _ (Mu hi)) ?_;symm;refine⟨b5 (by simp),λt4 n4=>?_⟩;obtain⟨H4,e4,f4,m4,_⟩:=b0 (o:= .tup _) n4;rw[e4];refine⟨b5 (by lia),hN' _ _ ⟨s2.trans m4,?_⟩⟩;rw[Mt,LA hi,LK];unfold i8 at pr⊢;rw[LK];exact w4 (Paired.imp' (λ_ _ z=>PrV.mono m4.le z) pr) ⟨t4,rfl,SqT.of f4⟩
  .rintro out H2 ⟨s2,pr⟩;have v_:=Mj pr;rw[p0,Lz,LM] at v_;refine⟨⟨_,s2.seq hL,by rw[Lz];exact LC _⟩,λD hD'=>⟨b5 (by lia),?_⟩⟩;rw[LN (LC _)] at pr;obtain⟨H3,e3,f3,m3,_⟩:=b0 (H:=H2) (o:= .lst out) hD';symm;change pH K _ (upd H2 D _) _;rw[e3];refine R5 (SqL.of f3) (Paired.imp' (λ_ _ z=>PrV.mono m3.le z) pr) (b5 (by rw[p0,Lz];lia)) (λpp npp=>?_);rw[X8 (Z7 (by rw[Mo];exact(Qv ss).symm▸nd))];obtain⟨H4,e4,f4,m4,_⟩:=b0 (o:= .dK _) npp;rw[e4];exact k pp H4 (s2.free (m3.free npp)) (s2.trans (m3.trans m4)) f4
def gy (K:Za):Sp:=λvs H Q _=>∃(st r m bl:Addr) (x:V) (L R:Sd) (bs:List Sd) (km:List (i6×V)),vs=[.ref st]/\SqT K H st [.ref r,.ref m,x]/\RuleIs K H r bl L R bs/\Rd H m (.dK km)/\(∀n∈b4 L.W,TxtAt km n)/\∀(l:Addr) (H':Hp) (s1 s2:List Str),H l=none->Same H H'->Ordr L.W s1 s2->H' l=some (.lst ((((s1++s2).filter λn=>!decide (n∈b4 R.W)).map (g0 km)).map V.str))->Q (.ref l) H'
abbrev dA:=λP w K mg base=>K3 P w K mg base A9 4 "taken_out" ["step"] [] (gy K)
def oO {f fd}(T:Txt K mg)(pY:vf P w K mg base)(F:Fun K "taken_out" "taken_out" cW f fd):x8 P w K mg base A9 4 f fd ["step"] (gy K):=by
 walk_at "#sc_taken_out"
 .obtain⟨st,r,m,bl,x,L,R,bs,km,rfl,_⟩:=h;rfl
 .obtain⟨st,r,m,bl,x,L,R,bs,km,rfl,hS,hR,hM,hT,k⟩:=h;have Xa:=hR.l.len;walk_at "@sc_taken_out 8mname;0;k3'0pY 240d0name,step;tF4100";symm;refine A3 hS ?_;symm;refine⟨r,bl,L,R,bs,rfl,hR,λl1 H1 s1 s2 n1 m1 or f1=>?_⟩;have hlen:=or.len;have r_:=LQ (λn=>!decide (n∈b4 R.W)) (s1++s2);have k_:∀n∈(s1++s2).filter λn=>!decide (n∈b4 R.W),TxtAt km n:=λn hn=>hT n (or.mem.mp (LW.mp hn).1);have k':=λl H' h1 h2=>k l H' s1 s2 h1 h2 or;clear k;generalize (s1++s2).filter (λn=>!decide (n∈b4 R.W))=ss at f1 r_ k_ k';refine k8 (SqL.of f1) ?_;refine j9 (n:=ss.length) (λi out H'=>Same H1 H'/\out=(ss.take i).map λn=>V.str (g0 km n)) ⟨Same.refl _,rfl⟩ (λi out H' hi hp=>⟨_,.str (ss[i]),SqL.of (hp.1 _ _ f1),by rw[LF,LA hi];rfl⟩) ?_ ?_
  .rintro N i v out H2' H2 hi ⟨s3,rfl⟩ y hN';obtain⟨rfl,hx⟩:=Itl.get y (SqL.of (s3 _ _ f1));rw[LF,LA hi] at hx;cases hx;symm;refine⟨rfl,?_⟩;symm;refine x6 ((m1.trans s3).tup hS) ?_;symm;refine ES ((m1.trans s3).rd hM) (k_ _ (Mu hi)) ?_;refine⟨b5 (by rw[Lz,LM];lia),hN' _ _ ⟨s3,?_⟩⟩;exact A1 (λn:Str=>V.str (g0 km n)) (LA hi)
  .rintro out H2 ⟨s3,rfl⟩;refine⟨⟨_,SqL.of (s3 _ _ f1),by rw[Lz];exact LC _⟩,λD hD'=>⟨b5 (by rw[Lz,LM];lia),?_⟩⟩;rw[LN (LC _)];obtain⟨H3,e3,f3,m3,_⟩:=b0 (H:=H2) (o:= .lst (ss.map λn=>V.str (g0 km n))) hD';refine k' D _ ((m1.trans s3).free hD') ?_ ?_
   .show Same _ (upd H2 D _);rw[e3];exact m1.trans (s3.trans m3)
   .show upd H2 D _ D=_;rw[d8,Mo];rfl
def bh (L:p8)(km kf:List (i6×V))(n:Str):Str:=if n∈b4 L then g0 km n else g0 kf n
structure FrOk (W L R:p8) (fr:List (Str×Str)):Prop where
 ks:(fr.map (·.1)).Perm ((b4 R).filter λn=>!decide (n∈b4 L))
 nm:∀x∈fr,L8 x.2=true
 nd:(fr.map (·.2)).Nodup
 no:∀x∈fr,x.2∉b4 W
 len:fr.length<=4
def FrOk.nd1 {W L R:p8}{fr:List (Str×Str)}(h:FrOk W L R fr)(K_:(b4 R).Nodup):(fr.map (·.1)).Nodup:=h.ks.nodup_iff.mpr (K_.sublist MO)
def FrOk.mem {W L R:p8}{fr:List (Str×Str)}(h:FrOk W L R fr){n:Str}:n∈fr.map (·.1)↔n∈b4 R/\n∉b4 L:=by
 rw[h.ks.mem_iff,LW,MI,MC]
def FrOk.txt {W L R:p8}{fr:List (Str×Str)}(h:FrOk W L R fr)(K_:(b4 R).Nodup){n:Str}(hn:n∈fr.map (·.1)):TxtAt (i8 fr) n/\(n,g0 (i8 fr) n)∈fr:=by
 obtain⟨⟨n',s⟩,hx,e⟩:=LB.mp hn;have e':n'=n:=e;subst e';have z:=P0 (h.nd1 K_) hx;exact⟨z.1,by rw[z.2];exact hx⟩
structure StI (K:Za) (H:Hp) (st r m f bl:Addr) (L R:Sd) (km kf:List (i6×V)) (bs:List Sd):Prop where
 tup:SqT K H st [.ref r,.ref m,.ref f]
 r:RuleIs K H r bl L R bs
 m:H m=some (.dK km)
 f:H f=some (.dK kf)
 b:H bl=some (.lst (bs.map λs=>V.ref s.a))
def StI.same {H H':Hp}{st r m f bl:Addr}{L R:Sd}{km kf:List (i6×V)}{bs:List Sd}(h:StI K H st r m f bl L R km kf bs)(s:Same H H'):StI K H' st r m f bl L R km kf bs:=⟨s.tup h.tup,h.r.same s,s _ _ h.m,s _ _ h.f,s _ _ h.b⟩
def jI {α:Type}{l:List α}{p:α->Bool}(h:l.Nodup):(l.filter p).Nodup:=h.sublist MO
def wI {A B:List (Str×Str)}{n:Str}(nd:((A++B).map (·.1)).Nodup)(h:n∈A.map (·.1)):TxtAt (i8 A++i8 B) n/\g0 (i8 A++i8 B) n=g0 (i8 A) n:=by
 obtain⟨⟨n',s⟩,hx,e⟩:=LB.mp h;have e':n'=n:=e;subst e';have e2:i8 A++i8 B=i8 (A++B):=by unfold i8;rw[LK]
 have z:=P0 nd (LH B hx);rw[LK] at nd;rw[e2,(P0 (Mm.mp nd).1 hx).2];exact z
def wH {A B:List (Str×Str)}{n:Str}(nd:((A++B).map (·.1)).Nodup)(h:n∈B.map (·.1)):TxtAt (i8 A++i8 B) n/\g0 (i8 A++i8 B) n=g0 (i8 B) n:=by
 obtain⟨⟨n',s⟩,hx,e⟩:=LB.mp h;have e':n'=n:=e;subst e';have e2:i8 A++i8 B=i8 (A++B):=by unfold i8;rw[LK]
 have z:=P0 nd (LP A hx);rw[LK] at nd;rw[e2,(P0 (Mm.mp nd).2.1 hx).2];exact z
def bj (ss:List Str)(f:Str->Str):(ss.map λn=>(n,f n)).map (·.1)=ss:=by rw[Mo];exact Qv ss
def nK (K:Za):Sp:=λvs H Q _=>∃(st r m f bl:Addr) (L R:Sd) (km kf:List (i6×V)) (bs:List Sd),vs=[.ref st]/\StI K H st r m f bl L R km kf bs/\(∀n∈b4 L.W,TxtAt km n)/\(∀n∈b4 R.W,n∉b4 L.W->TxtAt kf n)/\∀(d:Addr) (H':Hp) (t1 t2:List Str),H d=none->Same H H'->Ordr R.W t1 t2->H' d=some (.dK (i8 ((t1++t2).map λn=>(n,bh L.W km kf n))))->Q (.ref d) H'
abbrev rQ:=λP w K mg base=>K3 P w K mg base A9 4 "behind" ["step"] [] (nK K)
def wm {f fd}(T:Txt K mg)(P9:jX P w K mg base)(tQ:AE P w K mg base)(F9:bp P w K mg base)(p7:M8 P w K mg base)(F:Fun K "behind" "behind" kO f fd):x8 P w K mg base A9 4 f fd ["step"] (nK K):=by
 walk_at "#sc_behind"
 .obtain⟨st,r,m,f,bl,L,R,km,kf,bs,rfl,_⟩:=h;rfl
 .obtain⟨st,r,m,f,bl,L,R,km,kf,bs,rfl,hS,hM,hF,k⟩:=h;have Xa:=hS.r.l.len;have Xb:=hS.r.r.len;walk_at "@sc_behind 5140523~ci403'0tQ 719%T*'0Oc '0OY '0V3 0223~ci403'0F9 7183~c6223)241"
  symm;refine A3 hS.tup ?_;symm;refine x6 hS.tup ?_;symm;refine⟨r,bl,L,R,bs,rfl,hS.r,λl1 H1 s1 s2 n1 m1 o1 f1=>?_⟩;have S1:=hS.same m1;have SS:=o1.len;have W_:=LQ (λn=>decide (n∈b4 R.W)) (s1++s2);symm;refine⟨m,l1,km,_,rfl,.inl S1.m,SqL.of f1,jI (o1.perm.nodup_iff.mpr hS.r.l.nd),by lia,λn hn=>hM n (o1.mem.mp (LW.mp hn).1),λd2 H2 n2 m2 f2=>?_⟩;have S2:=S1.same m2;symm;refine⟨.inr (.inr (.inl ⟨rfl,.inl ⟨_,f2⟩⟩)),?_⟩;symm;refine ib S2.tup ?_;symm;refine⟨r,bl,L,R,bs,rfl,S2.r,λl3 H3 u1 u2 n3 m3 o3 f3=>?_⟩;have S3:=S2.same m3;have hl3:=o3.len;have TN:=LQ (λn=>!decide (n∈b4 L.W)) (u1++u2);symm;refine⟨f,l3,kf,_,rfl,.inl S3.f,SqL.of f3,jI (o3.perm.nodup_iff.mpr hS.r.r.nd),by lia,λn hn=>hF n (o3.mem.mp (LW.mp hn).1) (by have z:=(LW.mp hn).2;rw[MI,MC] at z;exact z),λd4 H4 n4 m4 f4=>?_⟩;have S4:=S3.same m4;have XR:=m4 _ _ (m3 _ _ f2);have ZV:d2≠d4:=d9 (m3 _ _ f2) n4;have Uk:∀n∈(s1++s2).filter (λn=>decide (n∈b4 R.W)),n∈b4 L.W:=λn hn=>o1.mem.mp (LW.mp hn).1;have l_:∀n∈(u1++u2).filter (λn=>!decide (n∈b4 L.W)),n∉b4 L.W:=λn hn=>by have z:=(LW.mp hn).2;rw[MI,MC] at z;exact z
  have Xc:(((s1++s2).filter λn=>decide (n∈b4 R.W))++((u1++u2).filter λn=>!decide (n∈b4 L.W))).Nodup:=Mm.mpr ⟨jI (o1.perm.nodup_iff.mpr hS.r.l.nd),jI (o3.perm.nodup_iff.mpr hS.r.r.nd),λa ha b hb e=>l_ b hb (e▸Uk a ha)⟩;have Xd:∀n∈b4 R.W,n∈b4 L.W->n∈(s1++s2).filter λn=>decide (n∈b4 R.W):=λn h1 h2=>LW.mpr ⟨o1.mem.mpr h2,Ma h1⟩;have Xe:∀n∈b4 R.W,n∉b4 L.W->n∈(u1++u2).filter λn=>!decide (n∈b4 L.W):=λn h1 h2=>LW.mpr ⟨o3.mem.mpr h1,by rw[Mn h2];rfl⟩;generalize (s1++s2).filter (λn=>decide (n∈b4 R.W))=A at XR Xc Xd W_;generalize (u1++u2).filter (λn=>!decide (n∈b4 L.W))=B at f4 Xc Xe TN;have XW:(((A.map λn=>(n,g0 km n))++(B.map λn=>(n,g0 kf n))).map (·.1)).Nodup:=by rw[LK,bj,bj];exact Xc
  symm;refine⟨d2,d4,_,_,rfl,rfl,XR,.inl f4,ZV,by rw[p0,p0,Lz,Lz];lia,?_⟩;rw[wK (by have z:=Z7 XW;unfold i8 at z⊢;rw[LK] at z;exact z)];have ZW:H1 d2=none:=n2;have s5:Same H1 (upd H4 d2 (.dK (i8 (A.map λn=>(n,g0 km n))++i8 (B.map λn=>(n,g0 kf n))))):=E9 (m2.trans (m3.trans m4)) ZW;have f5:upd H4 d2 (.dK (i8 (A.map λn=>(n,g0 km n))++i8 (B.map λn=>(n,g0 kf n)))) d2=some (.dK (i8 (A.map λn=>(n,g0 km n))++i8 (B.map λn=>(n,g0 kf n)))):=d8;generalize upd H4 d2 (.dK (i8 (A.map λn=>(n,g0 km n))++i8 (B.map λn=>(n,g0 kf n))))=H5 at s5 f5⊢;have S5:=S1.same s5;symm;refine x6 S5.r.tup ?_;symm;refine⟨R.a,R.p,R.q,R.kvs,R.W,rfl,S5.r.r.at_,by lia,λl6 H6 t1 t2 n6 m6 f6 o6=>?_⟩;have Vm:=o6.len;symm;have gA:∀n∈b4 R.W,TxtAt (i8 (A.map λn=>(n,g0 km n))++i8 (B.map λn=>(n,g0 kf n))) n/\g0 (i8 (A.map λn=>(n,g0 km n))++i8 (B.map λn=>(n,g0 kf n))) n=bh L.W km kf n:=λn hn=>by
   unfold bh;by_cases hL:n∈b4 L.W
   .rw[if_pos hL];have hA:=Xd n hn hL;have z:=wI XW (by rw[bj];exact hA);exact⟨z.1,z.2.trans (lK (Mm.mp Xc).1 hA).2⟩
   .rw[if_neg hL];have hB:=Xe n hn hL;have z:=wH XW (by rw[bj];exact hB);exact⟨z.1,z.2.trans (lK (Mm.mp Xc).2.1 hB).2⟩
  refine⟨d2,l6,_,_,rfl,.inl (m6 _ _ f5),SqL.of f6,o6.perm.nodup_iff.mpr hS.r.r.nd,by lia,λn hn=>(gA n (o6.mem.mp hn)).1,λd7 H7 n7 m7 f7=>?_⟩;refine k d7 H7 t1 t2 (m1.free (s5.free (m6.free n7))) (m1.trans (s5.trans (m6.trans m7))) o6 ?_;rw[f7];congr 3;exact MX λn hn=>by rw[(gA n (o6.mem.mp hn)).2]
def gsW (L R:p8)(km:List (i6×V)):List Str:=((b4 L).filter λn=>!decide (n∈b4 R)).map (g0 km)
def qx (W L R:p8)(km kf:List (i6×V)):p8:=IH (aC (gsW L R km) W) (V0 (bh L km kf) R)
structure Lh (W L R:p8) (km:List (i6×V)) (fr:List (Str×Str)):Prop where
 fit:FitP L W km
 lo:∀x∈W.ts,x.1∉gsW L R km->x.2.2.1∉gsW L R km/\x.2.2.2∉gsW L R km
 fo:FrOk W L R fr
 nd:((b4 R).map (bh L km (i8 fr))).Nodup
def EO {gs gs':List Str}(W:p8)(h:∀n,n∈gs↔n∈gs'):aC gs W=aC gs' W:=by
 unfold aC;congr 1
 .exact OK λx _=>by rw[My];simp only[MI,MC];rw[h]
 .exact OK λx _=>by rw[My];simp only[MI,MC];rw[h]
def GD {f g:Str->Str}{W:p8}(h:∀n∈b4 W,f n=g n)(he:∀x∈W.ts,x.2.2.1∈W.pts.map (·.1)/\x.2.2.2∈W.pts.map (·.1)):V0 f W=V0 g W:=by
 unfold V0;congr 1
 .exact MX λx hx=>by rw[h x.1 (LH _ (LB.mpr ⟨x,hx,rfl⟩))]
 .exact MX λx hx=>by rw[h x.1 (LP _ (LB.mpr ⟨x,hx,rfl⟩)),h _ (LH _ (he x hx).1),h _ (LH _ (he x hx).2)]
def nP {α:Type}{A A' B B':List (Str×α)}(pa:A'.Perm A)(pb:B'.Perm B):((A'.filter λx=>!decide (x.1∈B'.map (·.1)))++B').Perm ((A.filter λx=>!decide (x.1∈B.map (·.1)))++B):=by
 refine List.Perm.append ?_ pb;have e:(A'.filter λx=>!decide (x.1∈B'.map (·.1)))=A'.filter λx=>!decide (x.1∈B.map (·.1)):=OK λx _=>by
  rw[My];simp only[MI,MC];rw[(pb.map _).mem_iff]
 rw[e];exact pa.filter _
def tu {L R:p8}{km:List (i6×V)}{s1 s2:List Str}(o:Ordr L s1 s2)(n:Str):n∈((s1++s2).filter λn=>!decide (n∈b4 R)).map (g0 km)↔n∈gsW L R km:=((o.perm.filter _).map _).mem_iff
def pQ {f:Str->Str}{W:p8}(h:((b4 W).map f).Nodup):((V0 f W).pts.map (·.1)).Nodup/\((V0 f W).ts.map (·.1)).Nodup:=by
 unfold b4 at h;rw[LK] at h;have z:=Mm.mp h;unfold V0;have z1:=z.1;have z2:=z.2.1;rw[Mo] at z1 z2;exact⟨by show((W.pts.map λx=>(f x.1,x.2)).map (·.1)).Nodup;rw[Mo];exact z1,by show((W.ts.map λx=>(f x.1,(x.2.1,f x.2.2.1,f x.2.2.2))).map (·.1)).Nodup;rw[Mo];exact z2⟩
def lQ (x y:Str):(x++y).cps.toList=x.cps.toList++y.cps.toList:=NP
def kD (x:Str):x.cps.toList.length=x.length:=by simp [Str.length]
def uH {x:Str}(h:F7 x=true):x.length<=8:=by
 have:=dN (show K0 x kSL 8=true from h);lia
def sP {n kd:Str}{PL:List (Str×Str)}(h:n∉PL.map (·.1)):E1 (i8 PL) (Sum.inr n:i6) (.str kd)=i8 (PL++[(n,kd)]):=by
 rw[K1 _ (F8 (by rw[G1,←A7];exact λm=>h (T7 m)))];unfold i8;rw[LK];rfl
def zz {H:Hp}{l:Addr}{n:Str}{t:J2}{kL:List (i6×V)}{TL:List (Str×J2)}(w:TiesIs K H kL TL)(h:n∉TL.map (·.1))(hl:SqT K H l (fG t)):TiesIs K H (E1 kL (Sum.inr n:i6) (.ref l)) (TL++[(n,t)]):=by
 rw[K1 _ (F8 (by rw[w.keys,←A7];exact λm=>h (T7 m)))];exact w4 w ⟨rfl,l,rfl,hl⟩
def cM {H:Hp}{a d:Addr}{k1:List V}{u:HO}{xs:List V}(h:H d=some (.lst k1))(s:SqT K H a xs):SqT K (upd H d u) a xs:=by
 rcases s with s|s
 .refine .inl ?_;by_cases z:a=d
  .subst z;rcases s with s|⟨_,s⟩<;>(rw[h] at s;cases s)
  .unfold Rd;rw[b7 z];exact s
 .exact .inr s
def xU {H:Hp}{d:Addr}{k1:List V}{u:HO}{kvs:List (i6×V)}{ts:List (Str×J2)}(h:H d=some (.lst k1))(w:TiesIs K H kvs ts):TiesIs K (upd H d u) kvs ts:=
 Paired.imp' (λ_ _ ⟨e,a,ea,s⟩=>⟨e,a,ea,cM h s⟩) w
def ak {H:Hp}{lo:Addr}{xs:List V}{u:HO}{b:Sd}(h:H lo=some (.lst xs))(s:SdIs K H b):SdIs K (upd H lo u) b:=by
 have hp:b.p≠lo:=λz=>by have:=s.hp;rw[z,h] at this;cases this
 have hq:b.q≠lo:=λz=>by have:=s.hq;rw[z,h] at this;cases this
 have e1:upd H lo u b.p=some (.dK (i8 b.W.pts)):=by rw[b7 hp];exact s.hp
 have e2:upd H lo u b.q=some (.dK b.kvs):=by rw[b7 hq];exact s.hq
 exact⟨⟨cM h s.at_.tup,.inl e1,.inl e2,xU h s.at_.ts⟩,e1,e2,s.ne,s.nd,s.len,s.ends,s.nl⟩
structure PcW (W:p8):Prop where
 pc:jS 4 W
 nd:(b4 W).Nodup
 ends:∀x∈W.ts,x.2.2.1∈W.pts.map (·.1)/\x.2.2.2∈W.pts.map (·.1)
def PcW.len {W:p8}(h:PcW W):(b4 W).length<=8:=by
 rw[E4];have:=h.pc.l1;have:=h.pc.l2;lia
def ko (ns:List Int)(a b:Option Int):∃cs:List Int,Q3 (ns.map V.int) a b=cs.map V.int:=⟨_,by unfold Q3;rw[←Qc,←Pl]⟩
def iU (K:Za):Sp:=λvs H Q _=>∃(a b c:Addr) (ns:List Int) (ss ks:List Str),vs=[.ref a,.ref b,.ref c]/\SqL K H a (ns.map V.int)/\SqL K H b (ss.map V.str)/\SqL K H c (ks.map V.str)/\ss.length=ns.length/\ns.length<=6/\ks.length=3/\ss.Nodup/\(∀s∈ss,L8 s=true)/\(∀s∈ks,F7 s=true)/\HK 6 K H Q zM
def dZ (K:Za):Sp:=λvs H Q _=>∃(a:Addr) (ns:List Int),vs=[.ref a,.int 2,.int 6]/\SqL K H a (ns.map V.int)/\HK 6 K H Q zM
abbrev lT:=λP w K mg base=>K3 P w K mg base A9 2 "_law_web" ["_law_cells","_law_names_here","_law_kinds_here"] [] (iU K)
def rh {f fd}(T:Txt K mg)(h9:C5 P w K mg base)(F:Fun K "_law_web" "_law_web" fj f fd):x8 P w K mg base A9 2 f fd ["_law_cells","_law_names_here","_law_kinds_here"] (iU K):=by
 walk_at "#sc__law_web"
 .obtain⟨a,b,c,ns,ss,ks,rfl,_⟩:=h;rfl
 .obtain⟨a,b,c,ns,ss,ks,rfl,hA,hB,hC,hl,hn,hk,SY,XD,hkg,k⟩:=h;walk_at "@sc__law_web 53#54#9yB~a70Eo5o657w~0|{7358b2gHV06l72h'3br M:cS07Uf=cSg0611fhZ083b10559b7g3z6621l77hZr68692b7g3z6621l774b1058re34"
  symm;intro p np;obtain⟨H1,e1,f1,m1,o1⟩:=b0 (o:= .dK []) np;rw[e1];symm;intro q nq;obtain⟨H2,e2,f2,m2,o2⟩:=b0 (o:= .dK []) nq;rw[e2];have TQ:p≠q:=λz=>by rw[←z,f1] at nq;cases nq
  have ZX:H q=none:=m1.free nq;symm;refine⟨_,rfl,.inl ⟨a,_,rfl,(m1.trans m2).seq hA,?_⟩⟩;refine K5 (n:=ns.length) (λi σ H'=>∃(pts:List (Str×Str)) (kvs:List (i6×V)) (ts:List (Str×J2)) (v1 v2 v3 v4 v5:Option V),σ=[some (.ref a),some (.ref b),some (.ref c),some (.ref p),some (.ref q),v1,v2,v3,v4,v5]/\Same H H'/\H' p=some (.dK (i8 pts))/\H' q=some (.dK kvs)/\TiesIs K H' kvs ts/\(pts.map (·.1)++ts.map (·.1)).Nodup/\(∀x∈pts.map (·.1)++ts.map (·.1),x∈ss.take i)/\pts.length+ts.length<=i/\(∀x∈ts,x.2.2.1∈pts.map (·.1)/\x.2.2.2∈pts.map (·.1))/\(∀x∈pts,F7 x.2=true)/\∀x∈ts,F7 x.2.1=true) ⟨[],[],[],none,none,none,none,none,rfl,m1.trans m2,m2 _ _ f1,f2,.nil,Ov,(by simp),LC _,(λ_ h=>nomatch h),(λ_ h=>nomatch h),λ_ h=>nomatch h⟩ (λi σ H' hi hp=>?_) ?_ ?_
  .obtain⟨_,_,_,_,_,_,_,_,_,s,_⟩:=hp;exact⟨_,.int (ns[i]),s.seq hA,by rw[LF,LA hi];rfl⟩
  .rintro _ i v σ H3 H4 hi ⟨pts,kvs,ts,v1,v2,v3,v4,v5,rfl,s3,g3,t3,w3,d1,d2,l1,l2,kk1,kk2⟩ ⟨t,x,hx,nt,rfl,rfl⟩ _ _;have C_:=hx _ (s3.seq hA);rw[LF,LA hi] at C_;cases C_;obtain⟨nm,Xf,ZY⟩:∃nm,(ss.map V.str)[i]?=some (.str nm)/\ss[i]?=some nm:=⟨ss[i],by rw[LF,LA (by lia)];rfl,LA (by lia)⟩
   have e7:ss.take (i+1)=ss.take i++[nm]:=by rw[Mt,ZY];rfl
   have nin:nm∉ss.take i:=λm=>by
    have z:(ss.take (i+1)).Nodup:=SY.sublist (NA _ _);rw[e7] at z;exact(Mm.mp z).2.2 nm m nm (by simp) rfl
   have fresh:nm∉pts.map (·.1)++ts.map (·.1):=λm=>nin (d2 nm m);have VD:∀x∈pts.map (·.1)++ts.map (·.1),x∈ss.take (i+1):=λx hx=>by rw[e7];exact LH _ (d2 x hx)
   obtain⟨H5,e5,f5,m5,_⟩:=b0 (o:= .tup _) nt;rw[e5];refine N5 (SqT.of f5) rfl ?_;symm;refine yE (kQ (.inl (m5 _ _ g3)) (λl nl=>?_));obtain⟨H6,e6,f6,m6,_⟩:=b0 (o:= .lst _) nl;rw[e6];have Ua:H6 l=some (.lst ((pts.map (·.1)).map V.str)):=by rw[f6];unfold i8;rw[Mo,Mo];rfl
   have s6:=s3.trans (m5.trans m6);symm;refine D6 (z7 (s6.seq hC) ?_);rw[Lz,hk];symm;obtain⟨kd,Xg,Uo⟩:=Y9 (ss:=ks) (i:=ns[i]/3 % ((3:Nat):Int)) (by lia) (by lia);refine j5 (s6.seq hC) Xg ?_;symm;refine⟨b5 (by simp),λl8 n8=>?_⟩;obtain⟨H8,e8,f8,m8,_⟩:=b0 (o:= .lst _) n8;rw[e8];have s8:=s6.trans m8;have g8:=m8 _ _ (m6 _ _ (m5 _ _ g3));have t8:=m8 _ _ (m6 _ _ (m5 _ _ t3));have w8:=w3.mono (m5.trans (m6.trans m8)).le;have h8:=m8 _ _ Ua;refine xh (yr (SqL.of h8) (SqL.of f8) (aQ _) rfl ?_);symm;refine Q0 (λhb=>?_) (λhb=>?_)
   .symm;refine j5 (xs:=ss.map V.str) (s8.seq hB) (i9 (j:=i) Xf) ?_;refine dw (E7 (k:=Sum.inr nm) g8 (b5 (by unfold i8;rw[Lz];lia)) ?_);have ep:E1 (i8 pts) (Sum.inr nm:i6) (.str kd)=i8 (pts++[(nm,kd)]):=by
     rw[K1 _ (F8 (by rw[G1,←A7];exact λm=>fresh (LH _ (T7 m))))];unfold i8;rw[LK];rfl
    walk_at "X";refine⟨pts++[(nm,kd)],kvs,ts,_,_,_,_,_,rfl,E9 s8 np,by rw[d8,ep],by rw[b7 (Nr TQ)];exact t8,Paired.imp' (λ_ _ z=>gu g8 z) w8,?_,?_,?_,?_,λx hx=>?_,kk2⟩
    .exact uL d1 fresh
    .exact vk VD (by rw[e7];simp)
    .rw[LJ,Ml];lia
    .intro x hx;rw[LK];walk_at "X";exact⟨LH _ (l2 x hx).1,LH _ (l2 x hx).2⟩
    .rcases LO.mp hx with h'|h'
     .exact kk1 x h'
     .rw[Me.mp h'];exact hkg kd Uo
   .symm;have TC:0<pts.length:=by
     cases pts with
     |nil=>exact absurd hb (by decide)
     |cons _ _=>simp
    refine M4 (λh=>?_) (λh=>?_)
    .symm;symm;refine j5 (xs:=ss.map V.str) (s8.seq hB) (i9 (j:=i) Xf) ?_;refine dw (E7 (k:=Sum.inr nm) g8 (b5 (by unfold i8;rw[Lz];lia)) ?_);have ep:E1 (i8 pts) (Sum.inr nm:i6) (.str kd)=i8 (pts++[(nm,kd)]):=by
      rw[K1 _ (F8 (by rw[G1,←A7];exact λm=>fresh (LH _ (T7 m))))];unfold i8;rw[LK];rfl
     walk_at "X";refine⟨pts++[(nm,kd)],kvs,ts,_,_,_,_,_,rfl,E9 s8 np,by rw[d8,ep],by rw[b7 (Nr TQ)];exact t8,Paired.imp' (λ_ _ z=>gu g8 z) w8,?_,?_,?_,?_,λx hx=>?_,kk2⟩
     .exact uL d1 fresh
     .exact vk VD (by rw[e7];simp)
     .rw[LJ,Ml];lia
     .intro x hx;rw[LK];walk_at "X";exact⟨LH _ (l2 x hx).1,LH _ (l2 x hx).2⟩
     .rcases LO.mp hx with h'|h'
      .exact kk1 x h'
      .rw[Me.mp h'];exact hkg kd Uo
    .symm;refine⟨_,_,rfl,by lia,by lia,λm hm=>?_⟩;symm;refine D6 (z7 (SqL.of h8) ?_);rw[Lz,Lz];symm;obtain⟨o1,Tz,ZZ⟩:=Y9 (ss:=pts.map (·.1)) (i:=m % (pts.length:Int)) (Nv _ (by lia)) (by rw[Lz];exact Ng _ (by lia));refine j5 (SqL.of h8) Tz ?_;symm;refine⟨_,_,rfl,by lia,by lia,λm' hm'=>?_⟩;symm;refine D6 (z7 (SqL.of h8) ?_);rw[Lz,Lz];symm;obtain⟨o2,Th,Z_⟩:=Y9 (ss:=pts.map (·.1)) (i:=m' % (pts.length:Int)) (Nv _ (by lia)) (by rw[Lz];exact Ng _ (by lia));refine j5 (SqL.of h8) Th ?_;symm;refine⟨b5 (by simp),λl9 n9=>?_⟩;obtain⟨H9,e9,f9,m9,_⟩:=b0 (o:= .tup _) n9;rw[e9];have s9:=s8.trans m9;have g9:=m9 _ _ g8;have t9:=m9 _ _ t8;have w9:=w8.mono m9.le;symm;refine j5 (xs:=ss.map V.str) (s9.seq hB) (i9 (j:=i) Xf) ?_;refine dw (E7 (k:=Sum.inr nm) t9 (b5 (by have z:=w9.length;lia)) ?_);have ek:E1 kvs (Sum.inr nm:i6) (.ref l9)=kvs++[(Sum.inr nm,.ref l9)]:=K1 _ (F8 (by rw[w9.keys,←A7];exact λm=>fresh (LP _ (T7 m))));walk_at "X";refine⟨pts,_,ts++[(nm,(kd,o1,o2))],_,_,_,_,_,rfl,E9 s9 ZX,by rw[b7 TQ];exact g9,d8,?_,?_,?_,?_,?_,kk1,λx hx=>?_⟩
     .rw[ek];exact w4 (Paired.imp' (λ_ _ z=>gu t9 z) w9) (gu t9 ⟨rfl,l9,rfl,SqT.of f9⟩)
     .exact Af d1 fresh
     .exact CV VD (by rw[e7];simp)
     .rw[LJ,Ml];lia
     .intro x hx;rcases LO.mp hx with h'|h'
      .exact l2 x h'
      .rw[Me.mp h'];exact⟨ZZ,Z_⟩
     .rcases LO.mp hx with h'|h'
      .exact kk2 x h'
      .rw[Me.mp h'];exact hkg kd Uo
  .rintro σ H3 ⟨pts,kvs,ts,v1,v2,v3,v4,v5,rfl,s3,g3,t3,w3,d1,d2,l1,l2,kk1,kk2⟩;refine⟨⟨_,s3.seq hA,by rw[Lz];exact LC _⟩,?_⟩;symm;refine⟨b5 (by simp),λl9 n9=>?_⟩;obtain⟨H9,e9,f9,m9,_⟩:=b0 (o:= .tup _) n9;rw[e9];have hlen:=w3.length;exact k l9 p q kvs ⟨pts,ts⟩ H9 (s3.trans m9) ⟨⟨SqT.of f9,.inl (m9 _ _ g3),.inl (m9 _ _ t3),w3.mono m9.le⟩,m9 _ _ g3,m9 _ _ t3,TQ,d1,by show(pts.map (·.1)++ts.map (·.1)).length<=6;rw[LJ,Lz,Lz];lia,l2,λx hx=>by have:=dN (Mp _ _▸(show(K0 x kNS 24&&vZ x kSL)=true from XD x (MW (d2 x hx)))).1;lia⟩ ⟨λx hx=>XD x (MW (d2 x hx)),kk1,kk2⟩
def AX (ns:List Int)(a b:Nat):Q3 (ns.map V.int) (some (a:Int)) (some (b:Int))=((ns.drop (min a ns.length)).take (min b ns.length -min a ns.length)).map V.int:=by unfold Q3;rw[HT.sIx_nat,HT.sIx_nat,←Qc,←Pl,Lz]
abbrev fP:=λP w K mg base=>K3 P w K mg base A9 3 "_law_drawn" ["_law_script","_law_start","_law_most"] [] (dZ K)
def ma {f fd}(T:Txt K mg)(fz:lT P w K mg base)(K8:bB P w K mg base)(h9:C5 P w K mg base)(bC:gM P w K mg base)(F:Fun K "_law_drawn" "_law_drawn" bM f fd):x8 P w K mg base A9 3 f fd ["_law_script","_law_start","_law_most"] (dZ K):=by
 walk_at "#sc__law_drawn"
 .obtain⟨a,ns,rfl,_⟩:=h;rfl
 .obtain⟨a,ns,rfl,hA,k⟩:=h;walk_at "@sc__law_drawn 9?3_law_cell;;kp00j01ja0102vd0_law_cell;vtvg00H'0yN 154q~lG~k~j2p03xj183'0fz 63i3'0bC 642l733'0K8 23z6421"
  symm;refine A8 hA (λp1 n1=>?_);obtain⟨H1,e1,f1,m1,_⟩:=b0 (o:= .lst _) n1;rw[e1];obtain⟨cs,e0,hc⟩:∃cs:List Int,Q3 (ns.map V.int) (some 2) (some (2+6))=cs.map V.int/\cs.length<=6:=⟨_,AX ns 2 8,by rw[LM];lia⟩
  rw[e0] at f1;symm;refine k8 (SqL.of f1) ?_;refine j9 (n:=cs.length) (λi out H'=>Same H1 H'/\out=(cs.take i).map λx=>V.int (x % 10 ^ 60)) ⟨Same.refl _,rfl⟩ (λi out H' hi hp=>⟨_,.int (cs[i]),SqL.of (hp.1 _ _ f1),by rw[LF,LA hi];rfl⟩) ?_ ?_
  .rintro N i v out H2 H3 hi ⟨s1,rfl⟩ y hN';obtain⟨rfl,hx⟩:=Itl.get y (SqL.of (s1 _ _ f1));rw[LF,LA hi] at hx;cases hx;symm;refine⟨rfl,?_⟩;symm;refine⟨b5 (by rw[Lz,LM];lia),hN' _ _ ⟨s1,?_⟩⟩;exact A1 (λx:Int=>V.int (x % 10 ^ 60)) (LA hi)
  .rintro out H2 ⟨s1,rfl⟩;refine⟨⟨_,SqL.of (s1 _ _ f1),by rw[Lz];exact LC _⟩,λD hD=>⟨b5 (by rw[Lz,LM];lia),?_⟩⟩;rw[LN (LC _)];obtain⟨H3,e3,f3,m3,_⟩:=b0 (o:= .lst (cs.map λx=>V.int (x % 10 ^ 60))) hD;change O5 _ _ _ (upd H2 D _) _;rw[e3];obtain⟨ds,O',Sr⟩:∃ds:List Int,(cs.map λx=>V.int (x % 10 ^ 60))=ds.map V.int/\ds.length=cs.length:=⟨cs.map λx=>x % 10 ^ 60,by rw[Mo];rfl,Lz _⟩
   rw[O'] at f3;symm;refine A8 (SqL.of f3) (λp4 n4=>?_);obtain⟨H4,e4,f4,m4,_⟩:=b0 (o:= .lst _) n4;rw[e4];rw[show Q3 (ds.map V.int) none (some 1)=(ds.take 1).map V.int by rw[Pl];exact ir _ 1] at f4;symm;refine vV (ns:=ds.take 1) (SqL.of f4) ?_;symm;refine D6 (z7 (SqL.of (m4 _ _ f3)) ?_);rw[Lz,Sr];symm;refine⟨_,_,rfl,by lia,by lia,λp5 H5 ss n5 m5 f5 hss=>?_⟩;symm;refine⟨_,_,rfl,by lia,by lia,λm hm=>?_⟩;symm;refine⟨_,rfl,λp6 H6 ks n6 m6 f6 hks=>?_⟩;symm;refine⟨D,p5,p6,ds,ss,ks,rfl,SqL.of (m6 _ _ (m5 _ _ (m4 _ _ f3))),SqL.of (m6 _ _ f5),SqL.of f6,(by rw[hss.1];lia),by lia,hks.1,hss.2.1,hss.2.2,hks.2,λa' p q kvs W H7 m7 hW=>k a' p q kvs W H7 (m1.trans (s1.trans (m3.trans (m4.trans (m5.trans (m6.trans m7)))))) hW⟩
def oP (b:Str)(at_ d:Int)(k:Nat):Str:=Txt.slice b none (some at_)++(⟨#[Z2 ((0+(k:Int)+d) % 26)]⟩:Str)++Txt.slice b (some at_) none
def Dr (b:Str)(at_ d:Int):oP b at_ d=lZ b at_ (d*4):=by
 funext k;unfold oP lZ;rw[Int.mul_ediv_cancel _ (by decide)]
def yU (b:Str)(at_ d:Int)(k:Nat)(h0:0<=at_)(h1:at_<=b.length)(hb:b.length<=7)(ha:F4 b kSL=true):F7 (oP b at_ d k)=true:=by
 have e:(oP b at_ d k).cps.toList=b.cps.toList.take at_.toNat++[Z2 ((0+(k:Int)+d) % 26)]++b.cps.toList.drop at_.toNat:=by
  unfold oP;rw[lQ,lQ,DR b at_ h0 h1,pM b at_ h0 h1]
 have hm:=Z1 ((0+(k:Int)+d) % 26) (by lia) (by lia);have Uu:b.cps.toList.length=b.length:=kD b;have hl:(oP b at_ d k).length=b.length+1:=by
  have z:=Na List.length e;rw[LJ,LJ,LM,MY,Ml] at z;have z2:=kD (oP b at_ d k);lia
 refine Y5 (by lia) (by lia) (Mq.mpr λx hx=>?_);rw[e] at hx;refine Ma ?_;rcases LO.mp hx with hx|hx
 .rcases LO.mp hx with hx|hx
  .exact N9 ha (MW hx)
  .rw[Me.mp hx];exact hm
 .exact N9 ha (ON hx)
def eG (K:Za):Sp:=λvs H Q _=>∃c n:Int,vs=[.int c,.int n]/\0<=n/\n<=26/\Cq H Q λss=>ss.length=n.toNat/\ss.Nodup/\∀s∈ss,F7 s=true
abbrev gG:=λP w K mg base=>K3 P w K mg base A9 2 "_law_words" ["_law_cell","_law_many"] [] (eG K)
def mz {f fd}(T:Txt K mg)(h9:C5 P w K mg base)(F:Fun K "_law_words" "_law_words" bG f fd):x8 P w K mg base A9 2 f fd ["_law_cell","_law_many"] (eG K):=by
 walk_at "#sc__law_words"
 .obtain⟨c,n,rfl,_⟩:=h;rfl
 .obtain⟨c,n,rfl,h0,h1,k⟩:=h;walk_at "@sc__law_words 52K53K9yB<2g001o4h~b3a03b2g3znHV0074155g3z6021al7318m_law_k;3250;<71d0_law_k,_law_base,_law_letters,_law_at,_law_cell;taap01xj03b2ga00HV041p01j03x"
  symm;refine Z8 (by lia) (by lia) ?_;refine K5 (n:=(c % 8).toNat) (λi σ H'=>H'=H/\∃(b:Str) (v:Option V),σ=[some (.int c),some (.int n),some (.str kSL),some (.str b),v,none]/\b.length=i/\F4 b kSL=true) ⟨rfl,_,none,rfl,rfl,rfl⟩ (λi σ H' hi _=>by exact hi) ?_ ?_
  .rintro _ i v σ H1 H2 hi ⟨rfl,b,v',rfl,hb,hba⟩ ⟨rfl,rfl⟩ _ _;symm;refine⟨_,_,rfl,by lia,by lia,λm hm=>?_⟩;symm;refine N2 R6 (fH (m % 26) (by lia) (by lia)) ?_;refine C9 (j:=⟨#[Z2 (m % 26)]⟩) (b5 (by rw[A6];lia)) ?_;symm;walk_at "X";exact⟨rfl,_,_,rfl,by rw[K4,A6];lia,by rw[O6,hba,F0 (Z1 _ (by lia) (by lia))];rfl⟩
  .rintro σ H1 ⟨rfl,b,v',rfl,hb,hba⟩;refine⟨LC _,?_⟩;symm;refine⟨_,_,rfl,by lia,by lia,λm hm=>?_⟩;symm;refine D6 (dM (b5 (by lia)) ?_);symm;have q0:=Nv m (show(b.length:Int)+1≠0 by lia);have q1:=Ng m (show(0:Int)<(b.length:Int)+1 by lia);generalize m % ((b.length:Int)+1)=at_ at q0 q1⊢;refine Z8 h0 (by lia) ?_;refine j9 (n:=n.toNat) (λi out H'=>H'=H1/\out=(List.range i).map λk=>V.str (oP b at_ (c/8) k)) ⟨rfl,rfl⟩ (λi out H' hi _=>by exact hi) ?_ ?_
   .rintro N i v out H2 H3 hi ⟨rfl,rfl⟩ ⟨rfl,rfl⟩ hN';symm;refine⟨rfl,?_⟩;symm;refine de (b5 (by lia)) ?_;symm;have WX:=fH ((0+(i:Int)+c/8) % 26) (by lia) (by lia);refine N2 R6 WX ?_;have g1:=Of b Option.none (some at_);have g2:=Of b (some at_) Option.none;refine C9 (j:=⟨#[Z2 ((0+(i:Int)+c/8) % 26)]⟩) (b5 (by rw[A6];lia)) ?_;symm;refine de (b5 (by lia)) ?_;refine C9 (b5 (by rw[K4,A6];lia)) ?_;refine⟨b5 (by rw[Lz,Nq];lia),hN' _ _ ⟨rfl,?_⟩⟩;rw[OF,LK];rfl
   .rintro out H2 ⟨rfl,rfl⟩;refine⟨LC _,λD hD=>⟨b5 (by rw[Lz,Nq];lia),?_⟩⟩;obtain⟨H5,e5,f5,m5,_⟩:=b0 (o:= .lst _) hD;refine k D _ ((List.range n.toNat).map (oP b at_ (c/8))) hD ?_ ?_ ⟨by rw[Lz,Nq],by rw[Dr];exact vA _ _ _ _ (by lia),λs hs=>?_⟩
    .show Same _ (upd _ D _);rw[e5];exact m5
    .show upd _ D _ D=_;rw[d8,Mo];rfl
    .obtain⟨i,_,rfl⟩:=LB.mp hs;exact yU b _ _ i q0 (by lia) (by lia) hba
def pB {ws:List Str}(nd:ws.Nodup){i j:Nat}{n:Str}(h1:ws[i]?=some n)(h2:ws[j]?=some n):i=j:=by
 obtain⟨hi,e1⟩:=MQ.mp h1;obtain⟨hj,e2⟩:=MQ.mp h2;have z:=OP.mp nd;rcases SU i j with h|h|h
 .exact absurd (e1.trans e2.symm) (z i j hi hj h)
 .exact h
 .exact absurd (e2.trans e1.symm) (z j i hj hi h)
def Wi (ws:List Str)(o i:Nat)(n:Str):Prop:=∃j,j<i/\ws[2*j+o]?=some n
def Wi.up {ws:List Str}{o i:Nat}{n:Str}(h:Wi ws o i n):Wi ws o (i+1) n:=let ⟨j,a,b⟩:=h;⟨j,QJ a,b⟩
def Wi.mem {ws:List Str}{o i:Nat}{n:Str}(h:Wi ws o i n):n∈ws:=let ⟨_,_,b⟩:=h;LV b
structure P1 (ws:List Str) (W:p8) (i:Nat) (a:List (Str×Str)):Prop where
 nm:∀x∈a,Wi ws 0 i x.1
 ct:a.length<=i
 kd:∀x∈a,F7 x.2=true
 len:(W.pts++a).length<=4
 nd:((W.pts++a).map (·.1)++W.ts.map (·.1)).Nodup
structure P2 (ws:List Str) (W:p8) (pts:List (Str×Str)) (i:Nat) (b:List (Str×J2)):Prop where
 nm:∀x∈b,Wi ws 1 i x.1
 ct:b.length<=i
 kd:∀x∈b,F7 x.2.1=true
 ends:∀x∈b,x.2.2.1∈pts.map (·.1)/\x.2.2.2∈pts.map (·.1)
 len:(W.ts++b).length<=4
 nd:(pts.map (·.1)++(W.ts++b).map (·.1)).Nodup
def P1.up {ws:List Str}{W:p8}{i:Nat}{a:List (Str×Str)}(h:P1 ws W i a):P1 ws W (i+1) a:=⟨λx hx=>(h.nm x hx).up,Td h.ct,h.kd,h.len,h.nd⟩
def P2.up {ws:List Str}{W:p8}{pts:List (Str×Str)}{i:Nat}{b:List (Str×J2)}(h:P2 ws W pts i b):P2 ws W pts (i+1) b:=⟨λx hx=>(h.nm x hx).up,Td h.ct,h.kd,h.ends,h.len,h.nd⟩
def P8 {α:Type}{l:List (Str×α)}{n:Str}(h:n∈l.map (·.1)):∃y,(n,y)∈l:=by
 obtain⟨⟨n',y⟩,h1,h2⟩:=LB.mp h;cases h2;exact⟨y,h1⟩
def P1.fresh {ws:List Str}{W:p8}{i:Nat}{a:List (Str×Str)}{n:Str}(h:P1 ws W i a)(nd:ws.Nodup)(nw:∀n∈b4 W,n∉ws)(hn:ws[2*i+0]?=some n):n∉(W.pts++a).map (·.1)++W.ts.map (·.1):=λm=>by
 have hw:=LV hn;rcases LO.mp m with m|m
 .rw[LK] at m;rcases LO.mp m with m|m
  .exact nw n (LH _ m) hw
  .obtain⟨y,hy⟩:=P8 m;obtain⟨j,hj,e⟩:=h.nm _ hy;have:=pB nd hn e;lia
 .exact nw n (LP _ m) hw
def P1.add {ws:List Str}{W:p8}{i:Nat}{a:List (Str×Str)}{n kd:Str}(h:P1 ws W i a)(nd:ws.Nodup)(nw:∀n∈b4 W,n∉ws)(hn:ws[2*i+0]?=some n)(hk:F7 kd=true)(hl:(W.pts++a).length<4):P1 ws W (i+1) (a++[(n,kd)]):=by
 refine⟨λx hx=>?_,by rw[LJ,Ml];exact Nat.succ_le_succ h.ct,λx hx=>?_,?_,?_⟩
 .rcases LO.mp hx with z|z
  .exact(h.nm x z).up
  .rw[Me.mp z];exact⟨i,PR _,hn⟩
 .rcases LO.mp hx with z|z
  .exact h.kd x z
  .rw[Me.mp z];exact hk
 .rw[←Mv,LJ,Ml];lia
 .rw[←Mv];exact uL h.nd (h.fresh nd nw hn)
def P1.fresh2 {ws:List Str}{W:p8}{j i:Nat}{a:List (Str×Str)}{b:List (Str×J2)}{n:Str}(h1:P1 ws W j a)(h:P2 ws W (W.pts++a) i b)(nd:ws.Nodup)(nw:∀n∈b4 W,n∉ws)(hn:ws[2*i+1]?=some n):n∉(W.pts++a).map (·.1)++(W.ts++b).map (·.1):=λm=>by
 have hw:=LV hn;rcases LO.mp m with m|m
 .rw[LK] at m;rcases LO.mp m with m|m
  .exact nw n (LH _ m) hw
  .obtain⟨y,hy⟩:=P8 m;obtain⟨j,hj,e⟩:=h1.nm _ hy;have:=pB nd hn e;lia
 .rw[LK] at m;rcases LO.mp m with m|m
  .exact nw n (LP _ m) hw
  .obtain⟨y,hy⟩:=P8 m;obtain⟨j,hj,e⟩:=h.nm _ hy;have:=pB nd hn e;lia
def P2.add {ws:List Str}{W:p8}{j i:Nat}{a:List (Str×Str)}{b:List (Str×J2)}{n kd o1 o2:Str}(h:P2 ws W (W.pts++a) i b)(h1:P1 ws W j a)(nd:ws.Nodup)(nw:∀n∈b4 W,n∉ws)(hn:ws[2*i+1]?=some n)(hk:F7 kd=true)(q1:o1∈(W.pts++a).map (·.1))(q2:o2∈(W.pts++a).map (·.1))(hl:(W.ts++b).length<4):P2 ws W (W.pts++a) (i+1) (b++[(n,(kd,o1,o2))]):=by
 refine⟨λx hx=>?_,by rw[LJ,Ml];exact Nat.succ_le_succ h.ct,λx hx=>?_,λx hx=>?_,?_,?_⟩
 .rcases LO.mp hx with z|z
  .exact(h.nm x z).up
  .rw[Me.mp z];exact⟨i,PR _,hn⟩
 .rcases LO.mp hx with z|z
  .exact h.kd x z
  .rw[Me.mp z];exact hk
 .rcases LO.mp hx with z|z
  .exact h.ends x z
  .rw[Me.mp z];exact⟨q1,q2⟩
 .rw[←Mv,LJ,Ml];lia
 .rw[←Mv];exact Af h.nd (h1.fresh2 h nd nw hn)
structure Ext (ws:List Str) (W W':p8):Prop where
 pc:PcW W'
 ps:∃a,W'.pts=W.pts++a/\(∀x∈a,x.1∈ws)/\a.length<=2
 ts:∃b,W'.ts=W.ts++b/\(∀x∈b,x.1∈ws)/\b.length<=2
def FD {ws:List Str}{W:p8}{i j:Nat}{a:List (Str×Str)}{b:List (Str×J2)}(h0:PcW W)(h1:P1 ws W i a)(h2:P2 ws W (W.pts++a) j b)(hi:i<=2)(hj:j<=2)(hk:∀s∈ws,F7 s=true):Ext ws W ⟨W.pts++a,W.ts++b⟩:=by
 refine⟨⟨jL (λn hn=>?_) (λx hx=>?_) (λx hx=>?_) h1.len h2.len,h2.nd,λx hx=>?_⟩,⟨a,rfl,λx hx=>(h1.nm x hx).mem,Mb h1.ct hi⟩,⟨b,rfl,λx hx=>(h2.nm x hx).mem,Mb h2.ct hj⟩⟩
 .rcases LO.mp (show n∈(W.pts++a).map (·.1)++(W.ts++b).map (·.1) from hn) with m|m
  .rw[LK] at m;rcases LO.mp m with m|m
   .exact h0.pc.kds n (LH _ m)
   .obtain⟨y,hy⟩:=P8 m;exact hk n (h1.nm _ hy).mem
  .rw[LK] at m;rcases LO.mp m with m|m
   .exact h0.pc.kds n (LP _ m)
   .obtain⟨y,hy⟩:=P8 m;exact hk n (h2.nm _ hy).mem
 .rcases LO.mp (show x∈W.pts++a from hx) with m|m
  .exact h0.pc.good.kd x m
  .exact h1.kd x m
 .rcases LO.mp (show x∈W.ts++b from hx) with m|m
  .exact h0.pc.good.tk x m
  .exact h2.kd x m
 .rcases LO.mp (show x∈W.ts++b from hx) with m|m
  .have z:=h0.ends x m;show x.2.2.1∈(W.pts++a).map (·.1)/\x.2.2.2∈(W.pts++a).map (·.1);rw[LK];exact⟨LH _ z.1,LH _ z.2⟩
  .exact h2.ends x m
def DA {ws:List Str}(h:4<=ws.length)(i:Nat)(hi:i<4):∃w,ws[i]?=some w/\∀j:Int,j=(i:Int)->mO (ws.map V.str) j=some (.str w):=
 ⟨ws[i],LA (by lia),λj hj=>by rw[hj];exact i9 (j:=i) (by rw[LF,LA (by lia)];rfl)⟩
def eJ (K:Za):Sp:=λvs H Q _=>∃(dp dq lw lk:Addr) (kvs:List (i6×V)) (W:p8) (ws ks:List Str) (c:Int),vs=[.ref dp,.ref dq,.ref lw,.ref lk,.int c]/\H dp=some (.dK (i8 W.pts))/\H dq=some (.dK kvs)/\TiesIs K H kvs W.ts/\PcW W/\(∀n∈b4 W,n∉ws)/\SqL K H lw (ws.map V.str)/\4<=ws.length/\ws.Nodup/\(∀s∈ws,F7 s=true)/\SqL K H lk (ks.map V.str)/\ks.length=3/\(∀s∈ks,F7 s=true)/\∀(s:Sd) (H':Hp),Same H H'->SdIs K H' s->Ext ws W s.W->Q (.ref s.a) H'
abbrev gf:=λP w K mg base=>K3 P w K mg base A9 2 "_law_piece" ["_law_points","_law_ties","_law_words_here","_law_kinds_here","_law_cell"] [] (eJ K)
def mG {f fd}(T:Txt K mg)(h9:C5 P w K mg base)(F:Fun K "_law_piece" "_law_piece" bo f fd):x8 P w K mg base A9 2 f fd ["_law_points","_law_ties","_law_words_here","_law_kinds_here","_law_cell"] (eJ K):=by
 walk_at "#sc__law_piece"
 .obtain⟨dp,dq,lw,lk,kvs,W,ws,ks,c,rfl,_⟩:=h;rfl
 .obtain⟨dp,dq,lw,lk,kvs,W,ws,ks,c,rfl,Vk,Vl,VU,hPc,q_,hW,I_,Uz,Xh,hK,SY,RV,k⟩:=h;have SS:=hPc.pc.l1;have Tj:=hPc.pc.l2;walk_at "@sc__law_piece 50wWDO7051wWDO719yB<2g041o5huc'0uw l701fhZb3g3ze4510b2Q10556w~0|{709yB<2gHV041o5huM>c/06Uf_c'0uw l711f57b6g3z642a105l7658b6g3z642a105l76hZrnb3g3z642a1051e781b2aQ10518re01"
  refine I0 λZJ hx=>?_;rfl';refine Y4 (.inl Vk) (λp np=>?_);obtain⟨H1,e1,f1,m1,_⟩:=b0 (o:= .dK _) np;rw[e1];rfl';refine hx [some (.ref p),some (.ref dq),some (.ref lw),some (.ref lk),some (.int c),none,none,none,none] _ ?_;clear hx;refine I0 λnx2 hx=>?_;rfl';refine Y4 (.inl (m1 _ _ Vl)) (λq nq=>?_);obtain⟨H2,e2,f2,m2,_⟩:=b0 (o:= .dK _) nq;rw[e2];have TQ:p≠q:=d9 f1 nq;have ZX:H q=none:=m1.free nq;have s_:=m1.trans m2;rfl';refine hx [some (.ref p),some (.ref q),some (.ref lw),some (.ref lk),some (.int c),none,none,none,none] _ ?_;clear hx;refine I0 λnx3 hx=>?_;rfl';refine Z8 (by lia) (by lia) ?_;have nd0:((W.pts++([]:List (Str×Str))).map (·.1)++W.ts.map (·.1)).Nodup:=by rw[MM];exact hPc.nd
  refine K5 (n:=(c % 3).toNat) (λi σ H'=>∃(a:List (Str×Str)) (v:Option V),σ=[some (.ref p),some (.ref q),some (.ref lw),some (.ref lk),some (.int c),v,none,none,none]/\Same H H'/\H' p=some (.dK (i8 (W.pts++a)))/\H' q=some (.dK kvs)/\P1 ws W i a) ⟨[],none,rfl,s_,by rw[MM];exact m2 _ _ f1,f2,(λ_ h=>nomatch h),Nd _,(λ_ h=>nomatch h),by rw[MM];exact SS,nd0⟩ (λi σ H' hi _=>by exact hi) ?_ ?_
  .rintro _ i v σ H3' H3 hi ⟨a,v',rfl,s3,g3,t3,h3⟩ ⟨rfl,rfl⟩ _ _;obtain⟨n,hn,hna⟩:=DA I_ (2*i+0) (by lia);have WI:=h3.len;rfl';refine D6 (X1 (.inl g3) ?_);rw[p0];rfl';refine M4 (λc1=>?_) (λc1=>?_)
   .rfl';refine⟨_,_,rfl,by lia,by lia,λm hm=>?_⟩;rfl';obtain⟨kd,Xg,Uo⟩:=Y9 (ss:=ks) (i:=m % 3) (by lia) (by lia);refine j5 (s3.seq hK) Xg ?_;rfl';refine j5 (s3.seq hW) (hna _ (by lia)) ?_;rfl';refine dw (E7 (k:=Sum.inr n) g3 (b5 (by rw[p0];lia)) ?_);have fr:=h3.fresh Uz q_ hn;rw[sP (n:=n) (PL:=W.pts++a) λz=>fr (LH _ z)];rfl';refine⟨a++[(n,kd)],_,rfl,E9 s3 np,by rw[d8,Mv],by rw[b7 TQ.symm];exact t3,h3.add Uz q_ hn (RV _ Uo) (by lia)⟩
   .rfl';walk_at "X";exact⟨a,_,rfl,s3,g3,t3,h3.up⟩
  .rintro σ H3 ⟨a,v',rfl,s3,g3,t3,h3⟩;refine⟨by exact LC _,?_⟩;rfl';refine hx [some (.ref p),some (.ref q),some (.ref lw),some (.ref lk),some (.int c),v',none,none,none] _ ?_;clear hx;refine I0 λnx4 hx=>?_;have WI:=h3.len;generalize Te:W.pts++a=pts at g3 WI;rfl';refine yE (kQ (.inl g3) (λl4 n4=>?_));obtain⟨H4,e4,f4,m4,_⟩:=b0 (o:= .lst _) n4;rw[e4];have f4':H4 l4=some (.lst ((pts.map (·.1)).map V.str)):=by rw[f4];unfold i8;rw[Mo,Mo];rfl
   have s4:=s3.trans m4;have g4:=m4 _ _ g3;have t4:=m4 _ _ t3;rfl';refine hx [some (.ref p),some (.ref q),some (.ref lw),some (.ref lk),some (.int c),v',some (.ref l4),none,none] _ ?_;clear hx;refine I0 λnx5 hx=>?_;rfl';refine Z8 (by lia) (by lia) ?_;refine K5 (n:=(c/3 % 3).toNat) (λi σ H'=>∃(b:List (Str×J2)) (H_:List (i6×V)) (v1 v2 v3:Option V),σ=[some (.ref p),some (.ref q),some (.ref lw),some (.ref lk),some (.int c),v1,some (.ref l4),v2,v3]/\Same H H'/\H' p=some (.dK (i8 pts))/\H' q=some (.dK H_)/\H' l4=some (.lst ((pts.map (·.1)).map V.str))/\TiesIs K H' H_ (W.ts++b)/\P2 ws W pts i b) ⟨[],kvs,_,_,_,rfl,s4,g4,t4,f4',by rw[MM];exact VU.mono s4.le,(λ_ h=>nomatch h),Nd _,(λ_ h=>nomatch h),(λ_ h=>nomatch h),by rw[MM];exact Tj,by rw[MM,←Te];exact h3.nd⟩ (λi σ H' hi _=>by exact hi) ?_ ?_
   .rintro _ i v σ H5' H5 hi ⟨b,H_,v1,v2,v3,rfl,s5,g5,t5,f5,w5,h5⟩ ⟨rfl,rfl⟩ _ _;obtain⟨n,hn,hna⟩:=DA I_ (2*i+1) (by lia);have Uu:=h5.len;have hkl1:=w5.length;rfl';refine⟨b5 (by simp),λl6 n6=>?_⟩;obtain⟨H6,e6,f6,m6,_⟩:=b0 (o:= .lst []) n6;rw[e6];have s6:=s5.trans m6;have g6:=m6 _ _ g5;have t6:=m6 _ _ t5;have Ua:=m6 _ _ f5;have w6:=w5.mono m6.le;refine Ko (yx (SqL.of Ua) (SqL.of f6) (aQ _) rfl ?_);have hem:Q8 ((pts.map (·.1)).map V.str) []=decide (pts=[]):=by cases pts<;>rfl
    rw[hem];rfl';refine dy (λc2=>?_) (λc2=>?_)
    .have TC:0<pts.length:=by
      cases pts with
      |nil=>exact absurd rfl c2
      |cons _ _=>simp
     rfl';refine D6 (X1 (.inl t6) ?_);rw[hkl1];rfl';refine M4 (λc3=>?_) (λc3=>?_)
     .symm;refine⟨_,_,rfl,by lia,by lia,λm hm=>?_⟩;symm;refine D6 (z7 (SqL.of Ua) ?_);rw[Lz,Lz];symm;obtain⟨o1,Tz,ZZ⟩:=Y9 (ss:=pts.map (·.1)) (i:=m % (pts.length:Int)) (Nv _ (by lia)) (by rw[Lz];exact Ng _ (by lia));refine j5 (SqL.of Ua) Tz ?_;symm;refine⟨_,_,rfl,by lia,by lia,λm' hm'=>?_⟩;symm;refine D6 (z7 (SqL.of Ua) ?_);rw[Lz,Lz];symm;obtain⟨o2,Th,Z_⟩:=Y9 (ss:=pts.map (·.1)) (i:=m' % (pts.length:Int)) (Nv _ (by lia)) (by rw[Lz];exact Ng _ (by lia));refine j5 (SqL.of Ua) Th ?_;symm;refine⟨_,_,rfl,by lia,by lia,λm3 hm3=>?_⟩;symm;obtain⟨kd,Xg,Uo⟩:=Y9 (ss:=ks) (i:=m3 % 3) (by lia) (by lia);refine j5 (s6.seq hK) Xg ?_;symm;refine⟨b5 (by simp),λl9 n9=>?_⟩;obtain⟨H9,e9,f9,m9,_⟩:=b0 (o:= .tup _) n9;rw[e9];have s9:=s6.trans m9;have g9:=m9 _ _ g6;have t9:=m9 _ _ t6;have f9':=m9 _ _ Ua;have w9:=w6.mono m9.le;symm;refine j5 (s9.seq hW) (hna _ (by lia)) ?_;symm;refine dw (E7 (k:=Sum.inr n) t9 (b5 (by lia)) ?_);have h5':P2 ws W (W.pts++a) i b:=by rw[Te];exact h5
      have fr:=h3.fresh2 h5' Uz q_ hn;have hm1':o1∈(W.pts++a).map (·.1):=by rw[Te];exact ZZ
      have hm2':o2∈(W.pts++a).map (·.1):=by rw[Te];exact Z_
      have Xi:=h5'.add h3 Uz q_ hn (RV _ Uo) hm1' hm2' (by lia);rw[Te] at Xi;have wt:TiesIs K H9 (E1 H_ (Sum.inr n:i6) (.ref l9)) (W.ts++(b++[(n,(kd,o1,o2))])):=by
       rw[←Mv];exact zz w9 (λz=>fr (LP _ z)) (SqT.of f9)
      have nl4:l4≠q:=λz=>by rw[z,t9] at f9';cases f9'
      symm;walk_at "X";exact⟨b++[(n,(kd,o1,o2))],_,_,_,_,rfl,E9 s9 ZX,by rw[b7 TQ];exact g9,d8,by rw[b7 nl4];exact f9',kS t9 wt,Xi⟩
     .symm;walk_at "X";exact⟨b,H_,_,_,_,rfl,s6,g6,t6,Ua,w6,h5.up⟩
    .symm;walk_at "X";exact⟨b,H_,_,_,_,rfl,s6,g6,t6,Ua,w6,h5.up⟩
   .rintro σ H5 ⟨b,H_,v1,v2,v3,rfl,s5,g5,t5,f5,w5,h5⟩;refine⟨by exact LC _,?_⟩;rfl';refine hx [some (.ref p),some (.ref q),some (.ref lw),some (.ref lk),some (.int c),v1,some (.ref l4),v2,v3] _ ?_;clear hx;rfl';refine⟨b5 (by simp),λl9 n9=>?_⟩;obtain⟨H9,e9,f9,m9,_⟩:=b0 (o:= .tup _) n9;rw[e9];rw[←Te] at h5 g5;have hE:=FD hPc h3 h5 (by lia) (by lia) Xh;refine k ⟨l9,p,q,H_,⟨W.pts++a,W.ts++b⟩⟩ H9 (s5.trans m9) ⟨⟨SqT.of f9,.inl (m9 _ _ g5),.inl (m9 _ _ t5),w5.mono m9.le⟩,m9 _ _ g5,m9 _ _ t5,TQ,hE.pc.nd,Mb hE.pc.len (by lia),hE.pc.ends,λx hx=>Mb (uH (hE.pc.pc.kds x hx)) (by lia)⟩ hE
def DE {ws:List Str}(hl:ws.length=24)(a b:Nat)(h1:a+4<=b)(h2:a+4<=24):∃m,4<=m/\∀x y:Int,x=(a:Int)->y=(b:Int)->Q3 (ws.map V.str) (some x) (some y)=((ws.drop a).take m).map V.str:=by
 refine⟨min b 24 -min a 24,by lia,λx y hx hy=>?_⟩;rw[hx,hy];unfold Q3;rw[HT.sIx_nat,HT.sIx_nat,←Qc,←Pl,Lz,hl,show min a 24=a by lia]
def IA {ws:List Str}(hl:ws.length=24):Q3 (ws.map V.str) none (some 6)=(ws.take 6).map V.str:=by
 have e:(some (6:Int))=some ((6:Nat):Int):=rfl;rw[e];unfold Q3;rw[HT.sIx_nat,HT.sIx_none,←Qc,←Pl,Lz,hl];rfl
def Cr {ws:List Str}(nd:ws.Nodup){n:Str}{a m:Nat}(ha:6<=a)(h1:n∈ws.take 6):n∉(ws.drop a).take m:=λh2=>by
 obtain⟨i,hi⟩:=Nw h1;obtain⟨j,hj⟩:=Nw h2;have hi6:i<6:=by
  have:=(MQ.mp hi).1;rw[LM] at this;lia
 have YC:j<m:=by
  have:=(MQ.mp hj).1;rw[LM] at this;lia
 rw[OV hi6] at hi;rw[OV YC,Qu] at hj;have:=pB nd hi hj;lia
def vn {ws:List Str}(hl:ws.length=24){a m:Nat}(h:4<=m)(ha:a+4<=24):4<=((ws.drop a).take m).length:=by
 rw[LM,MY];lia
def Bt {ws:List Str}(nd:ws.Nodup){a m:Nat}:((ws.drop a).take m).Nodup:=nd.sublist ((NA _ _).trans (List.drop_sublist _ _))
def vv {ws:List Str}{a m:Nat}{n:Str}(h:n∈(ws.drop a).take m):n∈ws:=ON (MW h)
def Gk:PcW ⟨[],[]⟩:=⟨jL (λ_ h=>nomatch h) (λ_ h=>nomatch h) (λ_ h=>nomatch h) (Nd _) (Nd _),Ov,λ_ h=>nomatch h⟩
def Gp {W:p8}{pts:List (Str×Str)}{ts:List (Str×J2)}(h:PcW W)(h1:pts.Sublist W.pts)(h2:ts.Sublist W.ts)(he:∀x∈ts,x.2.2.1∈pts.map (·.1)/\x.2.2.2∈pts.map (·.1)):PcW ⟨pts,ts⟩:=by
 have hs:(b4 ⟨pts,ts⟩).Sublist (b4 W):=(h1.map _).append (h2.map _);exact⟨jL (λn hn=>h.pc.kds n (hs.subset hn)) (λx hx=>h.pc.good.kd x (h1.subset hx)) (λx hx=>h.pc.good.tk x (h2.subset hx)) (Mb h1.length_le h.pc.l1) (Mb h2.length_le h.pc.l2),h.nd.sublist hs,he⟩
def Ext.names {ws:List Str}{W:p8}(h:Ext ws ⟨[],[]⟩ W):∀n∈b4 W,n∈ws:=λn hn=>by
 obtain⟨a,ea,ha,_⟩:=h.ps;obtain⟨b,eb,hb,_⟩:=h.ts;rw[Qf] at ea eb;rcases LO.mp hn with m|m
 .obtain⟨y,hy⟩:=P8 m;rw[ea] at hy;exact ha _ hy
 .obtain⟨y,hy⟩:=P8 m;rw[eb] at hy;exact hb _ hy
def zI {vs:List Str}{L R:p8}{pts:List (Str×Str)}{ts:List (Str×J2)}(hL:PcW L)(h1:pts.Sublist L.pts)(h2:ts.Sublist L.ts)(hE:Ext vs ⟨pts,ts⟩ R)(hv:∀n∈b4 L,n∉vs){n:Str}(hn:n∈b4 L)(hr:n∈b4 R):oi n L R:=by
 obtain⟨a,ea,ha,_⟩:=hE.ps;obtain⟨b,eb,hb,_⟩:=hE.ts;have T':=D0 hL.nd;have Ut:=L9 hL.nd;have dis:=(Mm.mp (show(L.pts.map (·.1)++L.ts.map (·.1)).Nodup from hL.nd)).2.2;have k_:n∈pts.map (·.1)\/n∈ts.map (·.1):=by
  rcases LO.mp hr with m|m
  .rw[ea,LK] at m;rcases LO.mp m with m|m
   .exact .inl m
   .obtain⟨y,hy⟩:=P8 m;exact absurd (ha _ hy) (hv n hn)
  .rw[eb,LK] at m;rcases LO.mp m with m|m
   .exact .inr m
   .obtain⟨y,hy⟩:=P8 m;exact absurd (hb _ hy) (hv n hn)
 refine⟨λk=>⟨λz=>?_,λz=>?_⟩,λt=>⟨λz=>?_,λz=>?_⟩⟩
 .rw[ea];refine LH _ ?_;rcases k_ with m|m
  .obtain⟨y,hy⟩:=P8 m;rw[C6 T' z (h1.subset hy)];exact hy
  .exact absurd rfl (dis n (LB.mpr ⟨_,z,rfl⟩) n ((h2.map _).subset m))
 .rw[ea] at z;rcases LO.mp z with z|z
  .exact h1.subset z
  .exact absurd (ha _ z) (hv n hn)
 .rw[eb];refine LH _ ?_;rcases k_ with m|m
  .exact absurd rfl (dis n ((h1.map _).subset m) n (LB.mpr ⟨_,z,rfl⟩))
  .obtain⟨y,hy⟩:=P8 m;rw[C6 Ut z (h2.subset hy)];exact hy
 .rw[eb] at z;rcases LO.mp z with z|z
  .exact h2.subset z
  .exact absurd (hb _ z) (hv n hn)
def rM {α:Type}{l r:List α}{i:Nat}{x:α}(h:l.Sublist (r.take i))(hx:r[i]?=some x):(l++[x]).Sublist (r.take (i+1)):=by
 rw[Mt,hx];exact h.append (List.Sublist.refl _)
def rm {α:Type}{l r:List α}{i:Nat}(h:l.Sublist (r.take i)):l.Sublist (r.take (i+1)):=h.trans (List.take_sublist_take_left (OE i))
def vG {α:Type}{l r:List (Str×α)}{i:Nat}{x:Str×α}(nd:(r.map (·.1)).Nodup)(h:l.Sublist (r.take i))(hx:r[i]?=some x):x.1∉l.map (·.1):=λm=>by
 have m2:=(h.map (·.1)).subset m;have z:((r.take (i+1)).map (·.1)).Nodup:=nd.sublist ((NA _ _).map _);rw[Mt,hx,LK] at z;exact(Mm.mp z).2.2 x.1 m2 x.1 (by simp) rfl
def vO {pts:List (Str×Str)}{n:Str}(h:(k9 (i8 pts) (Sum.inr n:i6)).isSome=true):n∈pts.map (·.1):=by rw[N7] at h;exact ME h
structure RuX (L R:p8) (bs:List Sd):Prop where
 lp:L.pts.length<=2
 lt:L.ts.length<=2
 ag:∀n∈b4 L,n∈b4 R->oi n L R
 rl:(b4 R).length<=8
 np:∃a:List Str,(∀n∈R.pts.map (·.1),n∉b4 L->n∈a)/\a.length<=2
 nt:∃a:List Str,(∀n∈R.ts.map (·.1),n∉b4 L->n∈a)/\a.length<=2
 kd:∀n∈b4 R,F7 n=true
 bl:bs.length<=2
 bx:∀b∈bs,∃A,(b4 b.W).Perm (b4 L++A)/\A.length<=4
def Cy {ws:List Str}{L B:p8}(h:Ext ws L B):∃A,(b4 B).Perm (b4 L++A)/\A.length<=4:=by
 obtain⟨a,ea,_,la⟩:=h.ps;obtain⟨b,eb,_,lb⟩:=h.ts;refine⟨a.map (·.1)++b.map (·.1),?_,by rw[LJ,Lz,Lz];lia⟩;unfold b4;rw[ea,eb,LK,LK,Mv,Mv];refine RG _ ?_;rw[←Mv,←Mv];exact List.Perm.append_right _ PQ
def gI (K:Za):Sp:=λvs H Q _=>∃(c:Int) (lk:Addr) (ks:List Str),vs=[.int c,.ref lk,.int 2]/\SqL K H lk (ks.map V.str)/\ks.length=3/\(∀s∈ks,F7 s=true)/\∀(r bl:Addr) (L R:Sd) (bs:List Sd) (H':Hp),Same H H'->RuleIs K H' r bl L R bs->H' bl=some (.lst (bs.map λs=>V.ref s.a))->RuX L.W R.W bs->Q (.ref r) H'
abbrev iS:=λP w K mg base=>K3 P w K mg base A9 3 "_law_rule" ["_law_cell","_law_kinds_here","_law_most"] [] (gI K)
def pO {f fd}(T:Txt K mg)(bc:gG P w K mg base)(P6:gf P w K mg base)(h9:C5 P w K mg base)(F:Fun K "_law_rule" "_law_rule" cQ f fd):x8 P w K mg base A9 3 f fd ["_law_cell","_law_kinds_here","_law_most"] (gI K):=by
 walk_at "#sc__law_rule"
 .obtain⟨c,lk,ks,rfl,_⟩:=h;rfl
 .obtain⟨c,lk,ks,rfl,hK,SY,RV,k⟩:=h;walk_at "@sc__law_rule 533'0bc 6021543'0P6 n#n#np03xj1612gHV00155#56#9yB~a244Eo7o8huc'0zk g3z602a10711fhZF44085089yB~a244Eo7o8huM>cIFF4408105s>cIFF4408105s_cSg3z602a10711fhZF4408608593'0P6 6566np03j1j1612g3z602115:U9yB<2g3z6021a021o75;p03ja1Q107ja1Q107h%T-~3~2~10:23'0P6 n44n446;612g3z602a10718r64e9:"
  refine I0 λZJ hx=>?_;rfl';refine⟨c,24,rfl,by lia,by lia,λlw H1 ws _ m1 f1 hw=>?_⟩;obtain⟨I_,Uz,Xh⟩:=hw;have I_:ws.length=24:=I_;rfl';refine hx [some (.int c),some (.ref lk),some (.int 2),some (.ref lw),none,none,none,none,none,none,none,none] _ ?_;clear hx;refine I0 λnx2 hx=>?_;rfl';intro d1 n1;obtain⟨H2,e2,f2,m2,_⟩:=b0 (o:= .dK []) n1;rw[e2];rfl';intro d2 n2;obtain⟨H3,e3,f3,m3,_⟩:=b0 (o:= .dK []) n2;rw[e3];rfl';refine A8 (SqL.of (m3 _ _ (m2 _ _ f1))) (λl4 n4=>?_);rw[IA I_];obtain⟨H4,e4,f4,m4,_⟩:=b0 (o:= .lst _) n4;rw[e4];have Vq:=m2.trans (m3.trans m4);rfl';refine⟨d1,d2,l4,lk,[],⟨[],[]⟩,ws.take 6,ks,_,rfl,m4 _ _ (m3 _ _ f2),m4 _ _ f3,.nil,Gk,(λ_ h=>nomatch h),SqL.of f4,by rw[LM];lia,Uz.sublist (NA _ _),λs hs=>Xh s (MW hs),(m1.trans Vq).seq hK,SY,RV,λL H5 m5 hL hLE=>?_⟩;have VW:=m1.trans (Vq.trans m5);have VX:=hLE.pc;have hLn:=hLE.names;have Vn:=VX.len;rw[E4] at Vn;have TR:∀{a m:Nat},6<=a->∀n∈b4 L.W,n∉(ws.drop a).take m:=λha n hn=>Cr Uz ha (hLn n hn);have fw5:H5 lw=some (.lst (ws.map V.str)):=(Vq.trans m5) _ _ f1;rfl';refine hx [some (.int c),some (.ref lk),some (.int 2),some (.ref lw),some (.ref L.a),none,none,none,none,none,none,none] _ ?_;clear hx;refine I0 λnx3 hx=>?_;rfl';intro dp np;obtain⟨H6,e6,f6,m6,_⟩:=b0 (o:= .dK []) np;rw[e6];rfl';refine hx [some (.int c),some (.ref lk),some (.int 2),some (.ref lw),some (.ref L.a),some (.ref dp),none,none,none,none,none,none] _ ?_;clear hx;refine I0 λnx4 hx=>?_;rfl';intro dq nq;obtain⟨H7,e7,f7,m7,_⟩:=b0 (o:= .dK []) nq;rw[e7];rfl';refine hx [some (.int c),some (.ref lk),some (.int 2),some (.ref lw),some (.ref L.a),some (.ref dp),some (.ref dq),none,none,none,none,none] _ ?_;clear hx;have m67:=m6.trans m7;have VY:H5 dq=none:=m6.free nq;have TQ:dp≠dq:=d9 f6 nq;have L7:=hL.same m67;have plp:dp≠L.p:=λz=>by rw[z,hL.hp] at np;cases np
  have qlp:dq≠L.p:=λz=>by rw[z,hL.hp] at VY;cases VY
  have plq:dp≠L.q:=λz=>by rw[z,hL.hq] at np;cases np
  have qlq:dq≠L.q:=λz=>by rw[z,hL.hq] at VY;cases VY
  have T':=D0 VX.nd;have Ut:=L9 VX.nd;refine I0 λnx5 hx=>?_;rfl';refine A3 L7.at_.tup ?_;rfl';refine⟨_,rfl,.inr ⟨L.p,_,rfl,.inl ⟨L7.hp,λnd1 ob1=>?_⟩⟩⟩;have nB1:E6 L.p ob1 (i8 L.W.pts) H5 dp=none:=by rw[N8 plp];exact np
  have nB2:E6 L.p ob1 (i8 L.W.pts) H5 dq=none:=by rw[N8 qlp];exact VY
  refine K5 (n:=(i8 L.W.pts).length) (λi σ H'=>∃(pts:List (Str×Str)) (v7 v8:Option V),σ=[some (.int c),some (.ref lk),some (.int 2),some (.ref lw),some (.ref L.a),some (.ref dp),some (.ref dq),v7,v8,none,none,none]/\Same (E6 L.p ob1 (i8 L.W.pts) H5) H'/\H' dp=some (.dK (i8 pts))/\H' dq=some (.dK [])/\pts.Sublist (L.W.pts.take i)) ⟨[],none,none,rfl,gx m67,by rw[N8 plp];exact m7 _ _ f6,by rw[N8 qlp];exact f7,Rj _⟩ (λi σ H' hi hp=>?_) ?_ ?_
  .obtain⟨_,_,_,_,s,_⟩:=hp;exact⟨s _ _ d8,hi⟩
  .rintro _ i v σ H8 H9 hi ⟨pts,v7,v8,rfl,s8,g8,t8,sb⟩ ⟨t,kv,h_,nt,rfl,rfl⟩ _ _;obtain⟨x,TM,rfl⟩:=fL h_;obtain⟨HA,eA,fA,mA,_⟩:=b0 (o:= .tup _) nt;rw[eA];rw[p0] at hi;have sA:=s8.trans mA;have gA:=mA _ _ g8;have tA:=mA _ _ t8;have WA:=hL.at_.mono ((R7 (o:=ob1) hL.hp).trans sA.le);have Tn:x∈L.W.pts:=LV TM;have RO:=sb.length_le;rw[LM] at RO;refine N5 (SqT.of fA) rfl ?_;rfl';refine⟨_,_,rfl,by lia,by lia,λm hm=>?_⟩;rfl';refine M4 (λh1=>?_) (λh1=>?_)
   .rfl';refine A3 WA.tup ?_;rfl';refine C3 (v:= .str x.2) (by have z':=O8 (k:=Sum.inr x.1) WA.pts;rw[du T' Tn] at z';exact z') ?_;rfl';refine dw (E7 (k:=Sum.inr x.1) gA (b5 (by rw[p0];lia)) ?_);rw[sP (vG T' sb TM)];rfl';walk_at "X";exact⟨pts++[x],_,_,rfl,E9 sA nB1,d8,by rw[b7 TQ.symm];exact tA,rM sb TM⟩
   .rfl';walk_at "X";exact⟨pts,_,_,rfl,sA,gA,tA,rm sb⟩
  rintro σ H8 ⟨pts,v7,v8,rfl,s8,g8,t8,sb⟩;rw[LN (by rw[p0];exact LC _)] at sb;refine⟨⟨s8 _ _ d8,rfl⟩,?_⟩;have sT:Same H5 (thaw L.p H8):=s8.thaw hL.hp;have gT:(thaw L.p H8) dp=some (.dK (i8 pts)):=by rw[N3 plp];exact g8
  have tT:(thaw L.p H8) dq=some (.dK []):=by rw[N3 qlp];exact t8
  generalize thaw L.p H8=HT at sT gT tT⊢;have LT:=hL.same sT;rfl';refine hx [some (.int c),some (.ref lk),some (.int 2),some (.ref lw),some (.ref L.a),some (.ref dp),some (.ref dq),v7,v8,none,none,none] _ ?_;clear hx;refine I0 λnx6 hx=>?_;rfl';refine x6 LT.at_.tup ?_;rfl';refine⟨_,rfl,.inr ⟨L.q,_,rfl,.inl ⟨LT.hq,λUv Vc=>?_⟩⟩⟩;have nC1:E6 L.q Vc L.kvs H5 dp=none:=by rw[N8 plq];exact np
  have nC2:E6 L.q Vc L.kvs H5 dq=none:=by rw[N8 qlq];exact VY
  have hkvl:=hL.at_.ts.length;refine K5 (n:=L.kvs.length) (λi σ H'=>∃(H_:List (i6×V)) (Sy:List (Str×J2)) (v7 v8:Option V),σ=[some (.int c),some (.ref lk),some (.int 2),some (.ref lw),some (.ref L.a),some (.ref dp),some (.ref dq),v7,v8,none,none,none]/\Same (E6 L.q Vc L.kvs H5) H'/\H' dp=some (.dK (i8 pts))/\H' dq=some (.dK H_)/\TiesIs K H' H_ Sy/\Sy.Sublist (L.W.ts.take i)/\∀x∈Sy,x.2.2.1∈pts.map (·.1)/\x.2.2.2∈pts.map (·.1)) ⟨[],[],_,_,rfl,gx sT,by rw[N8 plq];exact gT,by rw[N8 qlq];exact tT,.nil,Rj _,λ_ h=>nomatch h⟩ (λi σ H' hi hp=>?_) ?_ ?_
  .obtain⟨_,_,_,_,_,s,_⟩:=hp;exact⟨s _ _ d8,hi⟩
  .rintro _ i v σ H9 H9' hi ⟨H_,Sy,w7,w8,rfl,s9,g9,t9,w9,Ub,Yd⟩ ⟨t,kv,h_,nt,rfl,rfl⟩ _ _;obtain⟨HA,eA,fA,mA,_⟩:=b0 (o:= .tup _) nt;rw[eA];have sA:=s9.trans mA;have gA:=mA _ _ g9;have tA:=mA _ _ t9;have wA:=w9.mono mA.le;have WA:=hL.at_.mono ((R7 (o:=Vc) hL.hq).trans sA.le);obtain⟨x,TM,ex,b,eb,sb2⟩:=WA.ts.get h_;obtain⟨kk,Up⟩:=kv;have Tf:kk=Sum.inr x.1:=ex;have Uq:Up= .ref b:=eb;subst Tf Uq;have hv:DGet HA L.q (kV (Sum.inr x.1)) (some (.ref b)):=by
    have z':=O8 (k:=Sum.inr x.1) WA.ties;rw[hZ (kv:=(Sum.inr x.1,.ref b)) Uv (LV h_)] at z';exact z'
   have RO:=Ub.length_le;rw[LM] at RO;have TY:=wA.length;have skip:∀{v7 v8:Option V},∃(H_:List (i6×V)) (Sy:List (Str×J2)) (u7 u8:Option V),[some (.int c),some (.ref lk),some (.int 2),some (.ref lw),some (.ref L.a),some (.ref dp),some (.ref dq),v7,v8,none,none,none]=[some (.int c),some (.ref lk),some (.int 2),some (.ref lw),some (.ref L.a),some (.ref dp),some (.ref dq),u7,u8,none,none,none]/\Same (E6 L.q Vc L.kvs H5) HA/\HA dp=some (.dK (i8 pts))/\HA dq=some (.dK H_)/\TiesIs K HA H_ Sy/\Sy.Sublist (L.W.ts.take (i+1))/\∀x∈Sy,x.2.2.1∈pts.map (·.1)/\x.2.2.2∈pts.map (·.1):=fun{v7 v8}=>⟨H_,Sy,v7,v8,rfl,sA,gA,tA,wA,rm Ub,Yd⟩
   refine N5 (SqT.of fA) rfl ?_;rfl';refine x6 WA.tup ?_;rfl';refine C3 (v:= .ref b) hv ?_;rfl';refine x6 sb2 ?_;rfl';refine U1 (O8 (k:=Sum.inr x.2.2.1) (.inl gA)) ?_;rfl';refine Q0 (λh1=>?_) (λh1=>?_)
   .rfl';refine x6 WA.tup ?_;rfl';refine C3 (v:= .ref b) hv ?_;rfl';refine ib sb2 ?_;rfl';refine U1 (O8 (k:=Sum.inr x.2.2.2) (.inl gA)) ?_;rfl';refine Q0 (λh2=>?_) (λh2=>?_)
    .rfl';refine⟨_,_,rfl,by lia,by lia,λm hm=>?_⟩;rfl';refine M4 (λh3=>?_) (λh3=>?_)
     .rfl';refine x6 WA.tup ?_;rfl';refine C3 (v:= .ref b) hv ?_;rfl';refine dw (E7 (k:=Sum.inr x.1) tA (b5 (by lia)) ?_);rfl';refine⟨_,Sy++[x],_,_,rfl,E9 sA nC2,by rw[b7 TQ];exact gA,d8,kS tA (zz (n:=x.1) (t:=x.2) wA (vG Ut Ub TM) sb2),rM Ub TM,λy hy=>?_⟩;rcases LO.mp hy with z|z
      .exact Yd y z
      .rw[Me.mp z];walk_at "X";exact⟨vO h1,vO h2⟩
     .rfl';walk_at "X";exact skip
    .rfl';walk_at "X";exact skip
   .rfl';walk_at "X";exact skip
  rintro σ H9 ⟨H_,Sy,w7,w8,rfl,s9,g9,t9,w9,Ub,Yd⟩;rw[LN (by rw[hkvl];exact LC _)] at Ub;refine⟨⟨s9 _ _ d8,rfl⟩,?_⟩;have sU:Same H5 (thaw L.q H9):=s9.thaw hL.hq;have gU:(thaw L.q H9) dp=some (.dK (i8 pts)):=by rw[N3 plq];exact g9
  have tU:(thaw L.q H9) dq=some (.dK H_):=by rw[N3 qlq];exact t9
  have wU:TiesIs K (thaw L.q H9) H_ Sy:=w9.mono vS;generalize thaw L.q H9=HU at sU gU tU wU⊢;have hPk:=Gp VX sb Ub Yd;rfl';refine hx [some (.int c),some (.ref lk),some (.int 2),some (.ref lw),some (.ref L.a),some (.ref dp),some (.ref dq),w7,w8,none,none,none] _ ?_;clear hx;refine I0 λnx7 hx=>?_;obtain⟨m6,hm6,cut6⟩:=DE I_ 6 12 (by lia) (by lia);rfl';refine A8 (SqL.of (sU _ _ fw5)) (λlA nA=>?_);rw[cut6 6 12 rfl rfl];obtain⟨HA,eA,fA,mA,_⟩:=b0 (o:= .lst _) nA;rw[eA];rfl';refine⟨_,_,rfl,by lia,by lia,λmm hmm=>?_⟩;rfl';have nsub:(b4 ⟨pts,Sy⟩).Sublist (b4 L.W):=(sb.map _).append (Ub.map _);refine⟨dp,dq,lA,lk,H_,⟨pts,Sy⟩,(ws.drop 6).take m6,ks,_,rfl,mA _ _ gU,mA _ _ tU,wU.mono mA.le,hPk,λn hn=>TR (LC 6) n (nsub.subset hn),SqL.of fA,vn I_ hm6 (by lia),Bt Uz,λs hs=>Xh s (vv hs),(VW.trans (sU.trans mA)).seq hK,SY,RV,λR HB mB hR hRE=>?_⟩;have s5B:=sU.trans (mA.trans mB);rfl';refine hx [some (.int c),some (.ref lk),some (.int 2),some (.ref lw),some (.ref L.a),some (.ref dp),some (.ref dq),w7,w8,some (.ref R.a),none,none] _ ?_;clear hx;have hAg:∀n∈b4 L.W,n∈b4 R.W->oi n L.W R.W:=λn hn hr=>zI VX sb Ub hRE (TR (LC 6)) hn hr;clear gU tU wU g9 t9 w9 s9 gT tT s8 g8 t8;refine I0 λnx8 hx=>?_;rfl';refine⟨b5 (by simp),λlb nb=>?_⟩;obtain⟨HC,eC,fC,mC,_⟩:=b0 (o:= .lst []) nb;rw[eC];rfl';refine hx [some (.int c),some (.ref lk),some (.int 2),some (.ref lw),some (.ref L.a),some (.ref dp),some (.ref dq),w7,w8,some (.ref R.a),some (.ref lb),none] _ ?_;clear hx;refine I0 λnx9 hx=>?_;rfl';refine⟨_,_,rfl,by lia,by lia,λmb hmb=>?_⟩;rfl';refine Z8 (by lia) (by lia) ?_;refine K5 (n:=(mb % (2+1)).toNat) (λi σ H'=>∃(bs:List Sd) (u7 u8 Ye:Option V),σ=[some (.int c),some (.ref lk),some (.int 2),some (.ref lw),some (.ref L.a),some (.ref dp),some (.ref dq),u7,u8,some (.ref R.a),some (.ref lb),Ye]/\Same HB H'/\H' lb=some (.lst (bs.map λs=>V.ref s.a))/\bs.length=i/\∀b∈bs,SdIs K H' b/\∃vs,Ext vs L.W b.W) ⟨[],_,_,_,rfl,mC,fC,rfl,λ_ h=>nomatch h⟩ (λi σ H' hi _=>by exact hi) ?_ ?_
  .rintro _ i v σ HD HD' hi ⟨bs,u7,u8,Ye,rfl,sD,gD,lD,VB⟩ ⟨rfl,rfl⟩ _ _;have hi3:i<2:=by lia
   obtain⟨mk,Xj,cutk⟩:=DE I_ (12+4*i) (18+4*i) (by lia) (by lia);have s5D:=s5B.trans sD;have LD:=hL.same s5D;symm;refine A8 (SqL.of (s5D _ _ fw5)) (λlE nE=>?_);rw[cutk _ _ (by lia) (by lia)];obtain⟨HE,eE,fE,mE,_⟩:=b0 (o:= .lst _) nE;rw[eE];have LE:=LD.same mE;symm;refine⟨.inl ⟨rfl,_,SqL.of (mE _ _ gD)⟩,?_⟩;symm;refine A3 LE.at_.tup ?_;symm;refine x6 LE.at_.tup ?_;symm;refine⟨_,_,rfl,by lia,by lia,λm4 hm4=>?_⟩;symm;refine⟨L.p,L.q,lE,lk,L.kvs,L.W,(ws.drop (12+4*i)).take mk,ks,_,rfl,LE.hp,LE.hq,LE.at_.ts,VX,TR (by lia),SqL.of fE,vn I_ Xj (by lia),Bt Uz,λs hs=>Xh s (vv hs),(VW.trans (s5D.trans mE)).seq hK,SY,RV,λb HF mF hB hBE=>?_⟩;have Xk:=mE.trans mF;symm;refine⟨lb,_,_,rfl,rfl,Xk _ _ gD,mS (by rw[Lz];lia),?_⟩;symm;refine⟨bs++[b],_,_,_,rfl,E9 (sD.trans Xk) nb,by rw[d8,LK];rfl,by rw[LJ,Ml];lia,λd hd=>?_⟩;rcases LO.mp hd with z|z
   .walk_at "X";exact⟨ak (Xk _ _ gD) ((VB d z).1.same Xk),(VB d z).2⟩
   .rw[Me.mp z];exact⟨ak (Xk _ _ gD) hB,_,hBE⟩
  rintro σ HD ⟨bs,u7,u8,Ye,rfl,sD,gD,lD,VB⟩;refine⟨by exact LC _,?_⟩;rfl';refine hx [some (.int c),some (.ref lk),some (.int 2),some (.ref lw),some (.ref L.a),some (.ref dp),some (.ref dq),u7,u8,some (.ref R.a),some (.ref lb),Ye] _ ?_;clear hx;rfl';refine⟨b5 (by simp),λlr nr=>?_⟩;obtain⟨HE,eE,fE,mE,_⟩:=b0 (o:= .tup _) nr;rw[eE];have sDE:=sD.trans mE;refine k lr lb L R bs HE (VW.trans (s5B.trans sDE)) ⟨SqT.of fE,hL.same (s5B.trans sDE),hR.same sDE,SqL.of (mE _ _ gD),λb hb=>(VB b hb).1.same mE⟩ (mE _ _ gD) ⟨?_,?_,hAg,hRE.pc.len,?_,?_,hRE.pc.pc.kds,by lia,λb hb=>let ⟨_,z⟩:=(VB b hb).2;Cy z⟩
  .obtain⟨a,ea,_,la⟩:=hLE.ps;rw[ea];exact la
  .obtain⟨a,ea,_,la⟩:=hLE.ts;rw[ea];exact la
  .obtain⟨a,ea,_,la⟩:=hRE.ps;refine⟨a.map (·.1),λn hn hl=>?_,by rw[Lz];exact la⟩;rw[ea,LK] at hn;exact(LO.mp hn).resolve_left λz=>hl (LH _ ((sb.map _).subset z))
  .obtain⟨a,ea,_,la⟩:=hRE.ts;refine⟨a.map (·.1),λn hn hl=>?_,by rw[Lz];exact la⟩;rw[ea,LK] at hn;exact(LO.mp hn).resolve_left λz=>hl (LP _ ((Ub.map _).subset z))
def De (W L R:p8)(km:List (i6×V))(fr:List (Str×Str))(x:Str×Str):Prop:=(x∈W.pts/\x.1∉gsW L R km)\/∃w,(w,x.1)∈fr/\(w,x.2)∈R.pts
def BF (W L R:p8)(km:List (i6×V))(fr:List (Str×Str))(x:Str×J2):Prop:=(x∈W.ts/\x.1∉gsW L R km)\/∃w b e,(w,x.1)∈fr/\(w,(x.2.1,b,e))∈R.ts/\x.2.2.1=bh L km (i8 fr) b/\x.2.2.2=bh L km (i8 fr) e
theorem iD {f:Str->Str}:∀{l:List Str},l.Nodup->(∀a∈l,∀b∈l,f a=f b->a=b)->(l.map f).Nodup
 |[],_,_=>Ov
 |x::r,nd,h=>by
  have nd':=MN.mp nd;refine MN.mpr ⟨λm=>?_,iD nd'.2 λa ha b hb=>h a (LY _ ha) b (LY _ hb)⟩;obtain⟨y,hy,e⟩:=LB.mp m;exact nd'.1 ((h y (LY _ hy) x LS e)▸hy)
def jb {l:List (Str×Str)}{n m s:Str}(nd:(l.map (·.2)).Nodup)(h1:(n,s)∈l)(h2:(m,s)∈l):n=m:=
 C6 (l:=l.map λx=>(x.2,x.1)) (n:=s) (by rw[Mo];exact nd) (LB.mpr ⟨_,h1,rfl⟩) (LB.mpr ⟨_,h2,rfl⟩)
section
variable {W L R:p8} {km:List (i6×V)} {fr:List (Str×Str)}
def jx (km kf:List (i6×V)){n:Str}(h:n∈b4 L):bh L km kf n=g0 km n:=by unfold bh;rw[if_pos h]
def ju (km kf:List (i6×V)){n:Str}(h:n∉b4 L):bh L km kf n=g0 kf n:=by unfold bh;rw[if_neg h]
def pA (h:FitP L W km){w:Str}(hL:w∈b4 L)(hR:w∈b4 R):g0 km w∉gsW L R km:=λz=>by
 obtain⟨n,hn,e⟩:=LB.mp z;obtain⟨h1,h2⟩:=LW.mp hn;rw[MI,MC] at h2;exact h2 (yR h.nd h1 hL e▸hR)
def Bd {α:Type}{A B:List (Str×α)}{x:Str×α}:x∈(A.filter λx=>!decide (x.1∈B.map (·.1)))++B↔(x∈A/\x.1∉B.map (·.1))\/x∈B:=by
 rw[LO,LW,MI,MC]
def gF (fo:FrOk W L R fr)(K_:(b4 R).Nodup){w n:Str}(h:(w,n)∈fr)(km:List (i6×V)):bh L km (i8 fr) w=n:=by
 rw[ju _ _ (fo.mem.mp (LB.mpr ⟨_,h,rfl⟩)).2];exact(P0 (fo.nd1 K_) h).2
def CQ (h:FitP L W km)(ag:∀n∈b4 L,n∈b4 R->oi n L R)(fo:FrOk W L R fr)(K_:(b4 R).Nodup)(VN:(b4 W).Nodup)(x:Str×Str):x∈(qx W L R km (i8 fr)).pts↔De W L R km fr x:=by
 show x∈((aC (gsW L R km) W).pts.filter λx=>!decide (x.1∈(V0 (bh L km (i8 fr)) R).pts.map (·.1)))++(V0 (bh L km (i8 fr)) R).pts↔_;rw[Bd];have Tu:∀y,y∈(aC (gsW L R km) W).pts↔y∈W.pts/\y.1∉gsW L R km:=λy=>by
  show y∈W.pts.filter _↔_;rw[LW,MI,MC]
 have UN:∀w k,(w,k)∈R.pts->w∈b4 L->(g0 km w,k)∈W.pts/\g0 km w∉gsW L R km:=λw k hw hL=>by
  have hR:w∈b4 R:=LH _ (LB.mpr ⟨_,hw,rfl⟩);exact⟨h.pts _ (((ag w hL hR).p k).mpr hw),pA h hL hR⟩
 rw[Tu];constructor
 .rintro(⟨⟨h1,h2⟩,_⟩|hx)
  .exact .inl ⟨h1,h2⟩
  .obtain⟨⟨w,k⟩,hw,rfl⟩:=LB.mp hx;by_cases hL:w∈b4 L
   .left;show(bh L _ _ w,k)∈W.pts/\bh L _ _ w∉_;rw[jx _ _ hL];exact UN w k hw hL
   .right;have hR:w∈b4 R:=LH _ (LB.mpr ⟨_,hw,rfl⟩);refine⟨w,?_,hw⟩;show(w,bh L _ _ w)∈fr;rw[ju _ _ hL];exact(fo.txt K_ (fo.mem.mpr ⟨hR,hL⟩)).2
 .rintro(⟨h1,h2⟩|⟨w,h1,h2⟩)
  .by_cases hx:x.1∈(V0 (bh L km (i8 fr)) R).pts.map (·.1)
   .right;obtain⟨y,hy,ey⟩:=LB.mp hx;obtain⟨⟨w,k⟩,hw,rfl⟩:=LB.mp hy;have UA:bh L km (i8 fr) w=x.1:=ey;have hR:w∈b4 R:=LH _ (LB.mpr ⟨_,hw,rfl⟩);by_cases hL:w∈b4 L
    .have z:=(UN w k hw hL).1;rw[←jx km (i8 fr) hL,UA] at z;have e2:x.2=k:=C6 (D0 VN) h1 z;refine LB.mpr ⟨(w,k),hw,?_⟩;show(bh L _ _ w,k)=x;rw[UA,←e2]
    .rw[ju _ _ hL] at UA;exact absurd (LH _ (LB.mpr ⟨x,h1,rfl⟩)) (UA▸fo.no _ (fo.txt K_ (fo.mem.mpr ⟨hR,hL⟩)).2)
   .exact .inl ⟨⟨h1,h2⟩,hx⟩
  .right;refine LB.mpr ⟨(w,x.2),h2,?_⟩;show(bh L _ _ w,x.2)=x;rw[gF fo K_ h1]
def Gs (h:FitP L W km)(ag:∀n∈b4 L,n∈b4 R->oi n L R)(fo:FrOk W L R fr)(K_:(b4 R).Nodup)(VN:(b4 W).Nodup)(eL:∀x∈L.ts,x.2.2.1∈L.pts.map (·.1)/\x.2.2.2∈L.pts.map (·.1))(x:Str×J2):x∈(qx W L R km (i8 fr)).ts↔BF W L R km fr x:=by
 show x∈((aC (gsW L R km) W).ts.filter λx=>!decide (x.1∈(V0 (bh L km (i8 fr)) R).ts.map (·.1)))++(V0 (bh L km (i8 fr)) R).ts↔_;rw[Bd];have Tu:∀y,y∈(aC (gsW L R km) W).ts↔y∈W.ts/\y.1∉gsW L R km:=λy=>by
  show y∈W.ts.filter _↔_;rw[LW,MI,MC]
 have UO:∀w k b e,(w,(k,b,e))∈R.ts->w∈b4 L->(bh L km (i8 fr) w,(k,bh L km (i8 fr) b,bh L km (i8 fr) e))∈W.ts/\bh L km (i8 fr) w∉gsW L R km:=λw k b e hw hL=>by
  have hR:w∈b4 R:=LP _ (LB.mpr ⟨_,hw,rfl⟩);have hl:=((ag w hL hR).t (k,b,e)).mpr hw;have UI:=eL _ hl;have z:=h.ts _ hl;rw[jx _ _ hL,jx _ _ (LH _ UI.1),jx _ _ (LH _ UI.2)];exact⟨z,pA h hL hR⟩
 rw[Tu];constructor
 .rintro(⟨⟨h1,h2⟩,_⟩|hx)
  .exact .inl ⟨h1,h2⟩
  .obtain⟨⟨w,k,b,e⟩,hw,rfl⟩:=LB.mp hx;by_cases hL:w∈b4 L
   .exact .inl (UO w k b e hw hL)
   .right;have hR:w∈b4 R:=LP _ (LB.mpr ⟨_,hw,rfl⟩);refine⟨w,b,e,?_,hw,rfl,rfl⟩;show(w,bh L _ _ w)∈fr;rw[ju _ _ hL];exact(fo.txt K_ (fo.mem.mpr ⟨hR,hL⟩)).2
 .rintro(⟨h1,h2⟩|⟨w,b,e,h1,h2,h3,h4⟩)
  .by_cases hx:x.1∈(V0 (bh L km (i8 fr)) R).ts.map (·.1)
   .right;obtain⟨y,hy,ey⟩:=LB.mp hx;obtain⟨⟨w,k,b,e⟩,hw,rfl⟩:=LB.mp hy;have UA:bh L km (i8 fr) w=x.1:=ey;have hR:w∈b4 R:=LP _ (LB.mpr ⟨_,hw,rfl⟩);by_cases hL:w∈b4 L
    .have z:=(UO w k b e hw hL).1;rw[UA] at z;have e2:x.2=(k,bh L km (i8 fr) b,bh L km (i8 fr) e):=C6 (L9 VN) h1 z;refine LB.mpr ⟨(w,(k,b,e)),hw,?_⟩;show(bh L _ _ w,(k,bh L _ _ b,bh L _ _ e))=x;rw[UA,←e2]
    .rw[ju _ _ hL] at UA;exact absurd (LP _ (LB.mpr ⟨x,h1,rfl⟩)) (UA▸fo.no _ (fo.txt K_ (fo.mem.mpr ⟨hR,hL⟩)).2)
   .exact .inl ⟨⟨h1,h2⟩,hx⟩
  .right;refine LB.mpr ⟨(w,(x.2.1,b,e)),h2,?_⟩;show(bh L _ _ w,(x.2.1,bh L _ _ b,bh L _ _ e))=x;rw[gF fo K_ h1,←h3,←h4]
def O4 {α:Type}{l:List (Str×α)}(h:(l.map (·.1)).Nodup):l.Nodup:=List.Pairwise.of_map (·.1) (λa b hab e=>hab (by rw[e])) h
end
def qK (ms:List (Str×Str)):(i8 ms).map (·.2)=(ms.map (·.2)).map V.str:=by unfold i8;rw[Mo,Mo];rfl
def cE (K:Za):Sp:=λvs H Q _=>∃(S L R:Sd) (r bl f:Addr) (bs:List Sd) (fr:List (Str×Str)) (W0:p8),vs=[.ref S.a,.ref r,.ref f]/\SdIs K H S/\RuleIs K H r bl L R bs/\H f=some (.dK (i8 fr))/\FrOk W0 L.W R.W fr/\∀(b:Bool) (H':Hp),(b=true↔∀x∈fr,x.2∉b4 S.W)->Same H H'->Q (.bl b) H'
abbrev eN:=λP w K mg base=>K3 P w K mg base A9 4 "names_serve" ["web","rule","fresh"] [] (cE K)
def kY {f fd}(T:Txt K mg)(F9:bp P w K mg base)(iE:nM P w K mg base)(F:Fun K "names_serve" "names_serve" aL f fd):x8 P w K mg base A9 4 f fd ["web","rule","fresh"] (cE K):=by
 walk_at "#sc_names_serve"
 .obtain⟨S,L,R,r,bl,f,bs,fr,W0,rfl,_⟩:=h;rfl
 .obtain⟨S,L,R,r,bl,f,bs,fr,W0,rfl,hS,hR,hF,ok,k⟩:=h;have r_:=ok.len;walk_at "@sc_names_serve 533'0F9 719LM:Nq~f~e~d622'3Jt ~tDO=c/l72l73f9LNq^][2mname;2;k03d0name,fresh;t3'0iE 2~i01009Lc/l2w'2IU XG'0T.b_set ~s2w~0|{2`*~8~7~602l73f8'1JG q'2JV XG'0T.b_any '0Boot.«any» 2mname;0;'1Bf 02d0name,web;t'2KU CI0041s'1Dg CI0041s"
  symm;refine⟨r,bl,L,R,bs,rfl,hR,λl1 H1 s1 s2 n1 m1 or f1=>?_⟩;have pg:((s1++s2).filter λn=>!decide (n∈b4 L.W)).Perm (fr.map (·.1)):=(or.perm.filter _).trans ok.ks.symm;generalize (s1++s2).filter (λn=>!decide (n∈b4 L.W))=gs at f1 pg;have hgl:=pg.length_eq;rw[Lz] at hgl;have F1:=m1 _ _ hF;symm;refine qt (rR (t:="dict") (.inr (.inr ⟨rfl,_,.inl F1⟩)) (by simp) ?_);symm;rw[if_neg (by decide)];symm;refine D6 (X1 (.inl F1) ?_);symm;refine D6 (z7 (SqL.of f1) ?_);rw[p0,Lz,hgl];symm;rw[if_neg (by simp)];symm;refine k8 (SqL.of f1) ?_;refine j9 (n:=fr.length) (λi out H'=>Same H1 H'/\out=List.replicate i (V.bl true)) ⟨Same.refl _,rfl⟩ (λi out H' hi hp=>⟨_,.str (gs[i]'(by lia)),SqL.of (hp.1 _ _ f1),by rw[LF,LA (show i<gs.length by lia)];rfl⟩) ?_ ?_
  .rintro N i v out H2' H2 hi ⟨s2',rfl⟩ y hN';obtain⟨rfl,hx⟩:=Itl.get y (SqL.of (s2' _ _ f1));rw[LF,LA (show i<gs.length by lia)] at hx;cases hx;obtain⟨x,hm,ex⟩:=LB.mp (pg.mem_iff.mp (Mu (show i<gs.length by lia)));rw[←ex];symm;refine⟨rfl,?_⟩;symm;refine⟨f,rfl,.inl ⟨_,.inl (s2' _ _ F1)⟩,?_⟩;symm;refine⟨_,O8 (k:=Sum.inr x.1) (show Rd H2 f _ from .inl (s2' _ _ F1)),?_⟩;rw[du (k:=x.2) (ok.nd1 hR.r.nd) hm];symm;refine⟨_,rfl,.inl ⟨x.2,rfl,yG (ok.nm x hm),λH3 m3=>?_⟩⟩;rw[ok.nm x hm];refine⟨b5 (by rw[Nk];lia),hN' _ _ ⟨s2'.trans m3,?_⟩⟩;rw[List.replicate_succ']
  .rintro out H2 ⟨s2',rfl⟩;refine⟨⟨_,SqL.of (s2' _ _ f1),by rw[Lz];lia⟩,λD hD=>⟨b5 (by rw[Nk];lia),?_⟩⟩;obtain⟨H3,e3,f3,m3,_⟩:=b0 (H:=H2) (o:= .lst (List.replicate fr.length (V.bl true))) hD;symm;change wG K _ (upd H2 D _) _;rw[e3];refine oq (bs:=List.replicate fr.length true) (SqL.of (by rw[f3,List.map_replicate])) ?_;rw[dP];have TJ:=s2'.trans m3;have F3:=TJ _ _ F1;symm;refine⟨.inr (.inr (.inl ⟨rfl,.inl ⟨_,F3⟩⟩)),?_⟩;symm;refine⟨f,_,rfl,rfl,.inl F3,λv4 n4=>?_⟩;obtain⟨H4,e4,f4,m4,_⟩:=b0 (o:= .ext (iI v4 f)) n4;rw[e4];symm;refine Z9 f4 (.inl (m4 _ _ F3)) (λl5 n5=>?_);rw[qK];obtain⟨H5,e5,f5,m5,_⟩:=b0 (o:= .lst _) n5;rw[e5];symm;refine⟨l5,_,rfl,SqL.of f5,by rw[Lz];lia,λl6 n6=>?_⟩;obtain⟨H6,e6,f6,m6,_⟩:=b0 (o:= .ext (cj l6 (il (fr.map (·.2))).length)) n6;rw[e6];have Uc:=TJ.trans (m4.trans (m5.trans m6));have Vz:(il (fr.map (·.2))).length=fr.length:=by
    have z:=(qR (fr.map (·.2))).mpr ok.nd;rw[Lz] at z;exact z
   symm;refine mZ f6 (by lia) ?_;rw[Vz];symm;refine D6 (z7 (SqL.of (Uc _ _ f1)) ?_);rw[Lz,hgl];symm;rw[if_neg (by simp)];have F6:=Uc _ _ F1;have S6:=hS.same (m1.trans Uc);symm;refine⟨f,_,rfl,.inl ⟨F6,λndf o=>?_⟩⟩;refine j9 (n:=(i8 fr).length) (λi out H'=>Same (E6 f o (i8 fr) H6) H'/\out=(fr.take i).map λx=>V.bl (decide (x.2∈b4 S.W))) ⟨Same.refl _,rfl⟩ (λi out H' hi hp=>⟨hp.1 _ _ d8,hi⟩) ?_ ?_
   .rintro N i v out H7' H7 hi ⟨s7,rfl⟩ ⟨rfl,kv,h_,rfl⟩ hN';have le7:=(R7 (o:=o) F6).trans s7.le;have S7:=S6.at_.mono le7;obtain⟨x,hx,rfl⟩:=fL h_;rw[p0] at hi;have ex:∀b,b=decide (x.2∈b4 S.W)->((fr.take i).map λx=>V.bl (decide (x.2∈b4 S.W)))++[V.bl b]=(fr.take (i+1)).map λx=>V.bl (decide (x.2∈b4 S.W)):=λb hb=>by rw[hb];exact A1 (λx:Str×Str=>V.bl (decide (x.2∈b4 S.W))) hx
    symm;refine⟨rfl,?_⟩;symm;refine j4 S7.tup (i9 (j:=0) rfl) ?_;refine U1 (O8 (k:=Sum.inr x.2) S7.pts) ?_;rw[N7];by_cases hz:x.2∈S.W.pts.map (·.1)
    .rw[Ma hz];symm;exact⟨b5 (by rw[Lz,LM];lia),hN' _ _ ⟨s7,ex _ (Ma (LH _ hz)).symm⟩⟩
    .rw[Mn hz];symm;refine j4 S7.tup (i9 (j:=1) rfl) ?_;refine U1 (O8 (k:=Sum.inr x.2) S7.ties) ?_;rw[X3 S7.ts];exact⟨b5 (by rw[Lz,LM];lia),hN' _ _ ⟨s7,ex _ (by rw[My,Mg,Mg];exact⟨λq=>LP _ q,λq=>(LO.mp q).resolve_left hz⟩)⟩⟩
   .rintro out H7 ⟨s7,rfl⟩;rw[p0,LN (LC _),show(fr.map λx=>V.bl (decide (x.2∈b4 S.W)))=(fr.map λx=>decide (x.2∈b4 S.W)).map V.bl by rw[Mo];rfl];refine⟨⟨s7 _ _ d8,by rw[p0];exact LC _⟩,λD8 n8=>⟨b5 (by rw[Lz,Lz];lia),?_⟩⟩;have s8:=U8 F6 s7 n8 (u:= .lst ((fr.map λx=>decide (x.2∈b4 S.W)).map V.bl));have f8:=cg s7 n8 (u:= .lst ((fr.map λx=>decide (x.2∈b4 S.W)).map V.bl));generalize thaw f (upd H7 D8 (.lst ((fr.map λx=>decide (x.2∈b4 S.W)).map V.bl)))=H8 at s8 f8⊢;symm;refine⟨D8,_,rfl,SqL.of f8,?_⟩;symm;refine k _ _ ?_ (m1.trans (Uc.trans s8));rw[MI,List.any_map,SR];exact⟨λz x hx=>λq=>z x hx (Ma q),λz x hx q=>z x hx (ME q)⟩
structure CU (m:Addr) (bs:List Sd) (fx:List (Str×Str)):Prop where
 len:bs.length<=10
 b:∀b∈bs,m≠b.p/\m≠b.q/\∀W:p8,W.pts.length<=28->W.ts.length<=28->Fg b.W W fx
structure yk (W L R:p8) (fx:List (Str×Str)) (bs:List Sd):Prop where
 fit:FitP L W (i8 fx)
 lo:∀x∈W.ts,x.1∉gsW L R (i8 fx)->x.2.2.1∉gsW L R (i8 fx)/\x.2.2.2∉gsW L R (i8 fx)
 no:∀b∈bs,B9 b.W W fx=[]
structure JI (W L R:p8) (fx fr:List (Str×Str)) (bs:List Sd):Prop where
 r:yk W L R fx bs
 f:∀x∈fr,x.2∉b4 W
abbrev wB:List Str:=["NoMatch","Loose","Barred","NoNames"]
def pV {W L:p8}{km:List (i6×V)}(h:FitP L W km){n:Str}(hn:n∈b4 L):g0 km n∈b4 W:=by
 rcases LO.mp hn with z|z
 .obtain⟨x,hx,rfl⟩:=LB.mp z;exact LH _ (LB.mpr ⟨_,h.pts x hx,rfl⟩)
 .obtain⟨x,hx,rfl⟩:=LB.mp z;exact LP _ (LB.mpr ⟨_,h.ts x hx,rfl⟩)
def FrOk.mv {W0 W L R:p8}{fr:List (Str×Str)}(h:FrOk W0 L R fr)(no:∀x∈fr,x.2∉b4 W):FrOk W L R fr:=⟨h.ks,h.nm,h.nd,no,h.len⟩
def Dy {W L R:p8}{km:List (i6×V)}{fr:List (Str×Str)}(h:FitP L W km)(fo:FrOk W L R fr)(K_:(b4 R).Nodup):((b4 R).map (bh L km (i8 fr))).Nodup:=iD K_ λa ha b hb e=>by
 by_cases hA:a∈b4 L<;>by_cases hB:b∈b4 L
 .rw[jx _ _ hA,jx _ _ hB] at e;exact yR h.nd hA hB e
 .rw[jx _ _ hA,ju _ _ hB] at e;exact absurd (e▸pV h hA) (fo.no _ (fo.txt K_ (fo.mem.mpr ⟨hb,hB⟩)).2)
 .rw[ju _ _ hA,jx _ _ hB] at e;exact absurd (e▸pV h hB) (fo.no _ (fo.txt K_ (fo.mem.mpr ⟨ha,hA⟩)).2)
 .rw[ju _ _ hA,ju _ _ hB] at e;have z1:=(fo.txt K_ (fo.mem.mpr ⟨ha,hA⟩)).2;rw[e] at z1;exact jb fo.nd z1 (fo.txt K_ (fo.mem.mpr ⟨hb,hB⟩)).2
def jY (K:Za):Sp:=λvs H Q E=>∃(S L R:Sd) (st r m f bl:Addr) (kf:List (i6×V)) (bs:List Sd) (fx:List (Str×Str)),vs=[.ref S.a,.ref st]/\SdIs K H S/\StI K H st r m f bl L R (i8 fx) kf bs/\CU m bs fx/\(fx.map (·.1)).Nodup/\fx.length<=100/\(S.W.pts.length<=28/\S.W.ts.length<=28)/\(b4 L.W).length<=8/\(b4 R.W).length<=8/\(yk S.W L.W R.W fx bs->NewP K H Q (aC (gsW L.W R.W (i8 fx)) S.W))/\(¬yk S.W L.W R.W fx bs->∀c∈wB,∀H' e,Same H H'->H' e=none->E (.ref (cA K c)) (some e) H')
def oK (K:Za):Sp:=λvs H Q E=>∃(S L R:Sd) (st r m f bl:Addr) (fr:List (Str×Str)) (bs:List Sd) (fx:List (Str×Str)) (W0:p8),vs=[.ref S.a,.ref st]/\SdIs K H S/\StI K H st r m f bl L R (i8 fx) (i8 fr) bs/\CU m bs fx/\(fx.map (·.1)).Nodup/\fx.length<=100/\(S.W.pts.length<=28/\S.W.ts.length<=28)/\(b4 L.W).length<=8/\(b4 R.W).length<=8/\FrOk W0 L.W R.W fr/\(JI S.W L.W R.W fx fr bs->NewP K H Q (qx S.W L.W R.W (i8 fx) (i8 fr)))/\(¬JI S.W L.W R.W fx fr bs->∀c∈wB,∀H' e,Same H H'->H' e=none->E (.ref (cA K c)) (some e) H')
abbrev iL:=λP w K mg base=>K3 P w K mg base (ic P w) 10 "rest_of" ["web","step"] [] (jY K)
def uh {f fd}(T:Txt K mg)(fu:lq P w K mg base)(ij:mX P w K mg base)(J5:dA P w K mg base)(X4:lR P w K mg base)(F:Fun K "rest_of" "rest_of" iM f fd):x8 P w K mg base (ic P w) 10 f fd ["web","step"] (jY K):=by
 refine F.okE sc_rest_of (λvs H Q E h=>?_) (λc_ A outer s H vs Q E hr h=>?_)
 .obtain⟨S,L,R,st,r,m,f,bl,kf,bs,fx,rfl,_⟩:=h;rfl
 .obtain⟨S,L,R,st,r,m,f,bl,kf,bs,fx,rfl,hS,hT,nb,knd,kln,hsz,Xa,Xb,k,kE⟩:=h;walk_at "@sc_rest_of 52419uN3'0fu n4260241h~h'0T.r_NoMatch G2K53A'0ij R6023'0J5 719uc~93'0X4 6062241Pfh~h'0T.r_Barred G2K803"
  symm;refine j4 hT.tup (i9 (j:=0) rfl) ?_;symm;refine j4 hT.r.tup (i9 (j:=0) rfl) ?_;symm;refine j4 hT.tup (i9 (j:=1) rfl) ?_;symm;refine⟨L.a,L.p,L.q,S.a,S.p,S.q,L.kvs,S.kvs,L.W,S.W,.ref m,uK L.W S.W (i8 fx),rfl,hT.r.l,hS,⟨m,_,rfl,hT.m,Z7 knd,by rw[p0];exact kln,λkv hk=>?_,rfl⟩,λH1 m1=>?_⟩
  .obtain⟨x,_,rfl⟩:=LB.mp hk;exact⟨"str",rfl⟩
  have T1:=hT.same m1;have S1:=hS.same m1;by_cases fit:FitP L.W S.W (i8 fx);case neg=>
   rw[iy fit]
   symm
   exact⟨b5 (by simp),λe he=>kE (λz=>fit z.fit) _ (by simp) H1 e m1 he⟩
  rw[uO fit];symm;refine⟨st,r,m,bl,.ref f,L,R,bs,_,rfl,T1.tup,T1.r,.inl T1.m,fit.txt,λl2 H2 s1 s2 n2 m2 o2 f2=>?_⟩;have T2:=T1.same m2;have S2:=S1.same m2;symm;have UQ:=tu (R:=R.W) (km:=i8 fx) o2;generalize ((s1++s2).filter λn=>!decide (n∈b4 R.W)).map (g0 (i8 fx))=gs at f2 UQ;have hsz':=S2.len;rw[E4] at hsz';refine⟨S.a,l2,S.p,S.q,S.kvs,S.W,gs,rfl,S2.at_,S2.hp,S2.hq,SqL.of f2,D0 hS.nd,L9 hS.nd,by lia,by lia,λx hx=>hS.nl _ (LP _ (LB.mpr ⟨x,hx,rfl⟩)),?_⟩;by_cases hl:pI gs S.W=true;case pos=>
   rw[if_pos hl]
   refine λH3 e m3 he=>kE (λz=>?_) _ (by simp) H3 e (m1.trans (m2.trans m3)) he
   obtain⟨x,hx,hz⟩:=Nf.mp hl
   have C_:=LW.mp (show x∈S.W.ts.filter λx=>!decide (x.1∈gs) from hx)
   have hn:x.1∉gsW L.W R.W (i8 fx):=λq=>by
    have q2:=C_.2;rw[Ma ((UQ _).mpr q)] at q2;cases q2
   have he:=z.lo x C_.1 hn
   rw[Rz,Mg,Mg,UQ,UQ] at hz
   exact hz.elim he.1 he.2
  have lo:∀x∈S.W.ts,x.1∉gsW L.W R.W (i8 fx)->x.2.2.1∉gsW L.W R.W (i8 fx)/\x.2.2.2∉gsW L.W R.W (i8 fx):=λx hx hn=>by
   have hf:x∈S.W.ts.filter λx=>!decide (x.1∈gs):=LW.mpr ⟨hx,by rw[Mn λq=>hn ((UQ _).mp q)];rfl⟩;have no:¬(decide (x.2.2.1∈gs)||decide (x.2.2.2∈gs))=true:=λq=>hl (Nf.mpr ⟨x,hf,q⟩);rw[Rz,Mg,Mg,UQ,UQ] at no;exact⟨λq=>no (.inl q),λq=>no (.inr q)⟩
  rw[if_neg hl,EO S.W UQ];intro a3 p3 q3 k3 W3 H3 m3 w3 hp3 hq3 ne3 np3 nq3 e31 e32;have T3:=T2.same m3;have S3:=S2.same m3;symm;refine j4 T3.tup (i9 (j:=1) rfl) ?_;symm;refine⟨S,L,R,r,bl,m,bs,fx,rfl,S3,T3.r,nb.len,T3.m,λb hb=>⟨(nb.b b hb).1,(nb.b b hb).2.1,(nb.b b hb).2.2 _ hsz.1 hsz.2⟩,λv H4 m4 Xl=>?_⟩;have m04:=m1.trans (m2.trans (m3.trans m4));rcases Xl with⟨no,rfl⟩|⟨i,b,row,rr,t,d,hb,_,hr,rfl,_⟩
  rotate_left
  .symm;rw[if_pos (by simp)];symm;refine⟨b5 (by simp),λe he=>kE (λz=>?_) _ (by simp) H4 e m04 he⟩;rw[z.no b (LV hb)] at hr;cases hr
  symm;rw[if_neg (by simp)];symm;exact k ⟨fit,lo,no⟩ a3 p3 q3 k3 W3 H4 m04 (w3.mono m4.le) (m4 _ _ hp3) (m4 _ _ hq3) ne3 ((m1.trans m2).free np3) ((m1.trans m2).free nq3) e31 e32
abbrev kc:=λP w K mg base=>K3 P w K mg base (ic P w) 11 "done" ["web","step"] [] (oK K)
def Cs {f fd}(T:Txt K mg)(V9:iL P w K mg base)(aN:eN P w K mg base)(kH:sr P w K mg base)(iC:mQ P w K mg base)(jK:rQ P w K mg base)(F:Fun K "done" "done" uf f fd):x8 P w K mg base (ic P w) 11 f fd ["web","step"] (oK K):=by
 refine F.okE sc_done (λvs H Q E h=>?_) (λc_ A outer s H vs Q E hr h=>?_)
 .obtain⟨S,L,R,st,r,m,f,bl,fr,bs,fx,W0,rfl,_⟩:=h;rfl
 .obtain⟨S,L,R,st,r,m,f,bl,fr,bs,fx,W0,rfl,hS,hT,nb,knd,kln,hsz,Xa,Xb,fo,k,kE⟩:=h;walk_at "@sc_done 524153A'0V9 Re019uN3'0aN 6062241h~h'0T.r_NoNames G2K83'0kH 6323'0iC i423'0jK 71"
  symm;refine j4 hT.tup (i9 (j:=0) rfl) ?_;symm;by_cases can:yk S.W L.W R.W fx bs;case neg=>exact⟨S,L,R,st,r,m,f,bl,i8 fr,bs,fx,rfl,hS,hT,nb,knd,kln,hsz,Xa,Xb,λz=>absurd z can,λ_ c hc H' e s' he=>kE (λz=>can z.r) c hc H' e s' he⟩
  refine⟨S,L,R,st,r,m,f,bl,i8 fr,bs,fx,rfl,hS,hT,nb,knd,kln,hsz,Xa,Xb,λ_=>?_,λz=>absurd can z⟩;intro a3 p3 q3 k3 W3 H3 m3 w3 hp3 hq3 ne3 np3 nq3 e31 e32;have T3:=hT.same m3;have S3:=hS.same m3;symm;refine j4 T3.tup (i9 (j:=2) rfl) ?_;symm;refine⟨S,L,R,r,bl,f,bs,fr,W0,rfl,S3,T3.r,T3.f,fo,λb H4 hb m4=>?_⟩;by_cases no:∀x∈fr,x.2∉b4 S.W;case neg=>
   rw[show b=false from QN.mpr λz=>no (hb.mp z)]
   symm
   exact⟨b5 (by simp),λe he=>kE (λz=>no z.f) _ (by simp) H4 e (m3.trans m4) he⟩
  rw[hb.mpr no];have fo:=fo.mv no;have nd:=Dy can.fit fo hT.r.r.nd;have k:=k ⟨can,no⟩;have T4:=T3.same m4;symm;refine j4 T4.r.tup (i9 (j:=1) rfl) ?_;symm;refine⟨st,r,m,f,bl,L,R,i8 fx,i8 fr,bs,rfl,T4,can.fit.txt,λn h1 h2=>(fo.txt hT.r.r.nd (fo.mem.mpr ⟨h1,h2⟩)).1,λd5 H5 t1 t2 n5 m5 o5 f5=>?_⟩;have T5:=T4.same m5;have nds:=o5.perm.nodup_iff.mpr hT.r.r.nd;have gb:∀n∈b4 R.W,TxtAt (i8 ((t1++t2).map λn=>(n,bh L.W (i8 fx) (i8 fr) n))) n/\g0 (i8 ((t1++t2).map λn=>(n,bh L.W (i8 fx) (i8 fr) n))) n=bh L.W (i8 fx) (i8 fr) n:=λn hn=>lK nds (o5.mem.mpr hn);generalize i8 ((t1++t2).map λn=>(n,bh L.W (i8 fx) (i8 fr) n))=nm at f5 gb;have ndb:((b4 R.W).map (g0 nm)).Nodup:=by
   rw[MX λn hn=>(gb n hn).2];exact nd
  symm;refine⟨R.a,d5,R.p,R.q,R.kvs,nm,R.W,g0 nm,rfl,T5.r.r.at_,T5.r.r.hp,T5.r.r.hq,.inl f5,rfl,λn hn=>(gb n hn).1,ndb,by lia,T5.r.r.ends,?_⟩;rw[GD (λn hn=>(gb n hn).2) T5.r.r.ends];intro a6 p6 q6 k6 W6 H6 m6 w6 hp6 hq6 ne6 np6 nq6 e61 e62;have Xm:=m4.trans (m5.trans m6);symm;have nr:=pQ nd;have Yb:(W3.pts.map (·.1)).Nodup:=(e31.map _).nodup_iff.mpr (K7 (D0 hS.nd));have Yc:(W3.ts.map (·.1)).Nodup:=(e32.map _).nodup_iff.mpr (K7 (L9 hS.nd));have lf1:=LQ (λx:Str×Str=>!decide (x.1∈gsW L.W R.W (i8 fx))) S.W.pts;have lf2:=LQ (λx:Str×J2=>!decide (x.1∈gsW L.W R.W (i8 fx))) S.W.ts;have le1:=e31.length_eq;have Zb:=e32.length_eq;have XJ:=e61.length_eq;have Us:=e62.length_eq;rw[show(V0 (bh L.W (i8 fx) (i8 fr)) R.W).pts.length=R.W.pts.length from Lz _] at XJ;rw[show(V0 (bh L.W (i8 fx) (i8 fr)) R.W).ts.length=R.W.ts.length from Lz _] at Us;rw[show(aC (gsW L.W R.W (i8 fx)) S.W).pts.length=(S.W.pts.filter λx=>!decide (x.1∈gsW L.W R.W (i8 fx))).length from rfl] at le1;rw[show(aC (gsW L.W R.W (i8 fx)) S.W).ts.length=(S.W.ts.filter λx=>!decide (x.1∈gsW L.W R.W (i8 fx))).length from rfl] at Zb;rw[E4] at Xb;refine⟨a3,p3,q3,a6,p6,q6,k3,k6,W3,W6,rfl,w3.mono Xm.le,w6,Yb,Yc,(e61.map _).nodup_iff.mpr nr.1,(e62.map _).nodup_iff.mpr nr.2,by lia,by lia,NewP.permM (W:=qx S.W L.W R.W (i8 fx) (i8 fr)) (m3.trans Xm) (nP e31 e61) (nP e32 e62) k⟩
theorem Bj {α:Type}[DecidableEq α]{a:α}:∀{l:List α},l.Nodup->l.length<=(l.filter λx=>!decide (x=a)).length+1
 |[],_=>Nd _
 |x::r,nd=>by
  have nd':=MN.mp nd;by_cases e:x=a
  .have hr:(r.filter λx=>!decide (x=a))=r:=OT.mpr λy hy=>by rw[Mn (λz=>nd'.1 (by rw[e,←z];exact hy))];rfl
   rw[MB (by simp [e]),hr];simp
  .rw[Mw (by simp [e]),Mi,Mi];have:=Bj (a:=a) nd'.2;lia
theorem Y8 {α:Type}[DecidableEq α]:∀{m l:List α},l.Nodup->(∀x∈l,x∈m)->l.length<=m.length
 |[],l,_,h=>by
  cases l with
  |nil=>exact LC _
  |cons x r=>exact absurd (h x LS) (by simp)
 |a::m,l,nd,h=>by
  have z:=Bj (a:=a) nd;have z2:=Y8 (m:=m) (l:=l.filter λx=>!decide (x=a)) (nd.sublist MO) λx hx=>by
   have q:=LW.mp hx;rcases Mr.mp (h x q.1) with e|e
   .have q2:=q.2;rw[Ma e] at q2;cases q2
   .exact e
  rw[Mi];lia
def fT {m:List (Str×Str)}{n:Str}(nk:(m.map (·.1)).Nodup)(h:n∈m.map (·.1)):(n,g0 (i8 m) n)∈m:=by
 obtain⟨x,hx,rfl⟩:=LB.mp h;rw[G3 nk (show(x.1,x.2)∈m from hx)];exact hx
def qv {m m':List (Str×Str)}{n:Str}(nk:(m.map (·.1)).Nodup)(nk':(m'.map (·.1)).Nodup)(hs:∀x∈m,x∈m')(h:n∈m.map (·.1)):g0 (i8 m') n=g0 (i8 m) n:=G3 nk' (hs _ (fT nk h))
def FQ {W:p8}(h:(b4 W).Nodup):(dJ W).Nodup:=(Q1 W).perm.nodup_iff.mpr h
def wZ (Pc:p8)(ms:List (Str×Str)):List Str:=(dJ Pc).map (g0 (i8 ms))
section
variable {Pc W:p8} {ms fx:List (Str×Str)}
def qW:(wZ Pc ms).length=(dJ Pc).length:=Lz _
def xH (nd:(b4 Pc).Nodup)(f:FitP Pc W (i8 ms)):wZ Pc ms∈di (jm (qw Pc) (si Pc) (qw W) (si W)) []:=by
 have z:=vy (bs:=jm (qw Pc) (si Pc) (qw W) (si W)) (b:=[]) (t:=wZ Pc ms) (by rw[fW,qW];rfl) λi x c hx hc=>by
  unfold wZ at hx;rw[LF] at hx;cases en:(dJ Pc)[i]? with
  |none=>rw[en] at hx;cases hx
  |some n=>
   rw[en] at hx
   cases hx
   have Yf:(qw Pc++si Pc)[i]?=some n:=en
   rcases Fn hc with⟨hi,rfl⟩|⟨hi,rfl⟩
   .rw[MF hi] at Yf
    obtain⟨y,hy,rfl⟩:=LB.mp ((Q1 Pc).p1.mem_iff.mp (LV Yf))
    exact(Q1 W).p1.mem_iff.mpr (LB.mpr ⟨_,f.pts y hy,rfl⟩)
   .rw[MH hi] at Yf
    obtain⟨y,hy,rfl⟩:=LB.mp ((Q1 Pc).p2.mem_iff.mp (LV Yf))
    exact(Q1 W).p2.mem_iff.mpr (LB.mpr ⟨_,f.ts y hy,rfl⟩)
 simpa using z
open Classical in
def mem_rows {row:List Str}:row∈B9 Pc W fx↔row∈di (jm (qw Pc) (si Pc) (qw W) (si W)) []/\FitP Pc W (i8 ((dJ Pc).zip row))/\qh fx (dJ Pc) row:=by
 unfold B9 jd;rw[LW,Mg];exact Iff.rfl
def rK {row:List Str}(h:row∈B9 Pc W fx):row.length=(dJ Pc).length:=qF (mem_rows.mp h).1
end
def ja {α β:Type}{R:α->β->Prop}{l:List α}{m:List β}{j:Nat}{b:β}(hp:Paired R l m)(h:m[j]?=some b):∃a,l[j]?=some a/\R a b:=by
 induction hp generalizing j with
 |nil=>cases h
 |cons z t ih=>cases j with
  |zero=>cases h;exact⟨_,rfl,z⟩
  |succ j=>exact ih h
structure WPm (A B:p8):Prop where
 p:A.pts.Perm B.pts
 t:A.ts.Perm B.ts
structure WOk (n:Nat) (W:p8):Prop where
 nd:(b4 W).Nodup
 ends:∀x∈W.ts,x.2.2.1∈W.pts.map (·.1)/\x.2.2.2∈W.pts.map (·.1)
 nl:∀x∈b4 W,x.length<=100
 p:W.pts.length<=n
 t:W.ts.length<=n
section
variable {A B C W W' L L' R:p8} {n:Nat}
def WPm.nm (h:WPm A B):(b4 A).Perm (b4 B):=(h.p.map _).append (h.t.map _)
def WPm.rf (A:p8):WPm A A:=⟨Ow _,Ow _⟩
def WPm.sy (h:WPm A B):WPm B A:=⟨h.p.symm,h.t.symm⟩
def WPm.tr (h:WPm A B)(k:WPm B C):WPm A C:=⟨h.p.trans k.p,h.t.trans k.t⟩
def WOk.pm (h:WOk n W)(c:WPm W' W):WOk n W':=⟨c.nm.nodup_iff.mpr h.nd,λx hx=>have z:=h.ends x (c.t.mem_iff.mp hx);⟨(c.p.map _).mem_iff.mpr z.1,(c.p.map _).mem_iff.mpr z.2⟩,λx hx=>h.nl x (c.nm.mem_iff.mp hx),by rw[c.p.length_eq];exact h.p,by rw[c.t.length_eq];exact h.t⟩
def WOk.up {m:Nat}(h:WOk n W)(l:n<=m):WOk m W:=⟨h.nd,h.ends,h.nl,Mb h.p l,Mb h.t l⟩
def FitP.cp {km Yg:List (i6×V)}(f:FitP L W km)(c:WPm L' L)(p1:∀x,x∈W.pts->x∈W'.pts)(p2:∀x,x∈W.ts->x∈W'.ts)(hl:Yg.length=km.length)(ht:∀n∈b4 L,TxtAt Yg n/\g0 Yg n=g0 km n)(ends:∀x∈L.ts,x.2.2.1∈L.pts.map (·.1)/\x.2.2.2∈L.pts.map (·.1)):FitP L' W' Yg:=by
 refine⟨hl.trans (f.len.trans c.nm.length_eq.symm),λn hn=>(ht n (c.nm.mem_iff.mp hn)).1,?_,λx hx=>?_,λx hx=>?_⟩
 .rw[(c.nm.map _).nodup_iff,MX λn hn=>(ht n hn).2];exact f.nd
 .have z:=c.p.mem_iff.mp hx;rw[(ht _ (LH _ (LB.mpr ⟨x,z,rfl⟩))).2];exact p1 _ (f.pts x z)
 .have z:=c.t.mem_iff.mp hx;rw[(ht _ (LP _ (LB.mpr ⟨x,z,rfl⟩))).2,(ht _ (LH _ (ends x z).1)).2,(ht _ (LH _ (ends x z).2)).2];exact p2 _ (f.ts x z)
def Cd {fx Yh:List (Str×Str)}(nB:(b4 B).Nodup)(eB:∀x∈B.ts,x.2.2.1∈B.pts.map (·.1)/\x.2.2.2∈B.pts.map (·.1))(c:WPm A B)(p1:∀x,x∈W'.pts->x∈W.pts)(p2:∀x,x∈W'.ts->x∈W.ts)(pf:∀x,x∈fx->x∈Yh)(h:B9 A W fx=[]):B9 B W' Yh=[]:=by
 refine List.eq_nil_iff_forall_not_mem.mpr λrow hr=>?_;obtain⟨r1,r2,r3⟩:=mem_rows.mp hr;have eA:dJ A=dJ B:=by
  have z:=(Q1 B).uniq (Q1 A) c.p c.t nB;unfold dJ;rw[z.1,z.2]
 have nA:(b4 A).Nodup:=c.nm.nodup_iff.mpr nB;have f2:FitP A W (i8 ((dJ A).zip row)):=by
  rw[eA];exact r2.cp c p1 p2 rfl (λn hn=>⟨r2.txt n hn,rfl⟩) eB
 have hl:=rK hr;have e:wZ A ((dJ A).zip row)=row:=by
  rw[←eA] at hl;refine List.ext_getElem (by rw[qW,hl]) λj h1 h2=>?_;have z:(wZ A ((dJ A).zip row))[j]=g0 (i8 ((dJ A).zip row)) ((dJ A)[j]'(by rw[←hl];exact h2)):=List.getElem_map _;rw[z];exact G3 (by rw[List.map_fst_zip (by lia)];exact FQ nA) (List.mem_iff_getElem.mpr ⟨j,by rw[Pj];lia,List.getElem_zip⟩)
 have z:row∈B9 A W fx:=mem_rows.mpr ⟨by have:=xH nA f2;rw[e] at this;exact this,f2,λx hx=>by rw[eA];exact r3 x (pf x hx)⟩;rw[h] at z;cases z
def yB {km:List (i6×V)}{x:Str}:x∈gsW L R km↔∃n,n∈b4 L/\n∉b4 R/\g0 km n=x:=by
 unfold gsW;rw[LB];simp only[LW,MI,MC,and_assoc]
end
structure StX where
 st:Addr
 r:Addr
 m:Addr
 f:Addr
 bl:Addr
 L:Sd
 R:Sd
 fx:List (Str×Str)
 fr:List (Str×Str)
 bs:List Sd
abbrev StX.gs (X:StX):List Str:=gsW X.L.W X.R.W (i8 X.fx)
abbrev StX.at_ (K:Za)(H:Hp)(X:StX):Prop:=StI K H X.st X.r X.m X.f X.bl X.L X.R (i8 X.fx) (i8 X.fr) X.bs
abbrev StX.can (X:StX)(W:p8):Prop:=JI W X.L.W X.R.W X.fx X.fr X.bs
abbrev StX.go (X:StX)(W:p8):p8:=qx W X.L.W X.R.W (i8 X.fx) (i8 X.fr)
abbrev StX.bw (X:StX)(n:Str):Str:=bh X.L.W (i8 X.fx) (i8 X.fr) n
structure StA (K:Za) (H:Hp) (X:StX):Prop where
 i:X.at_ K H
 x:RuX X.L.W X.R.W X.bs
 d:∀b∈X.bs,X.m≠b.p/\X.m≠b.q
 nk:(X.fx.map (·.1)).Nodup
 pk:(X.fx.map (·.1)).Perm (b4 X.L.W)
 fo:FrOk ⟨[],[]⟩ X.L.W X.R.W X.fr
structure Stp (K:Za) (H:Hp) (W:p8) (X:StX):Prop where
 a:StA K H X
 c:X.can W
structure Beh (W:p8) (X:StX) (W1:p8):Prop where
 p:∀x,x∈W1.pts↔De W X.L.W X.R.W (i8 X.fx) X.fr x
 t:∀x,x∈W1.ts↔BF W X.L.W X.R.W (i8 X.fx) X.fr x
 n1:(W1.pts.map (·.1)).Nodup
 n2:(W1.ts.map (·.1)).Nodup
structure Apart (X Y:StX) (W1 W2:p8):Prop where
 f:∀x∈X.fr.map (·.2),x∉Y.fr.map (·.2)
 g:∀x∈X.fx.map (·.2),x∈Y.fx.map (·.2)->x∉X.gs/\x∉Y.gs
 b1:∀b∈X.bs,B9 b.W W2 X.fx=[]
 b2:∀b∈Y.bs,B9 b.W W1 Y.fx=[]
section
variable {H H':Hp} {W W' W1 W2:p8} {X Y:StX} {n:Nat}
def StA.same (h:StA K H X)(s:Same H H'):StA K H' X:=⟨h.i.same s,h.x,h.d,h.nk,h.pk,h.fo⟩
def StA.l4 (h:StA K H X):(b4 X.L.W).length<=4:=by
 rw[E4];have:=h.x.lp;have:=h.x.lt;lia
def StA.kl (h:StA K H X):X.fx.length<=4:=by
 have z:=h.pk.length_eq;have:=h.l4;rw[Lz] at z;lia
def Bc {L:p8}{b:p8}{fx:List (Str×Str)}(h4:(b4 L).length<=4)(nk:(fx.map (·.1)).Nodup)(pk:(fx.map (·.1)).Perm (b4 L))(bx:∃A,(b4 b).Perm (b4 L++A)/\A.length<=4)(w1:W.pts.length<=28)(w2:W.ts.length<=28):Fg b W fx:=by
 obtain⟨A,pm,hA⟩:=bx;refine⟨?_,nk,λx hx=>pm.mem_iff.mpr (LH _ (pk.mem_iff.mp (LB.mpr ⟨x,hx,rfl⟩)))⟩;have f1:((b4 b).filter (dR fx)).length<=4:=by
  rw[(pm.filter _).length_eq,Mz,LJ,Pp.mpr]
  .rw[Pd,Nat.zero_add];exact Mb (LQ _ _) hA
  .intro n hn;have z:n∈fx.map (·.1):=pk.mem_iff.mpr hn;unfold dR;simp only[MI,MC,Decidable.not_not,Bool.not_eq_true];first|exact z|simpa using z
 have f2:(b4 b).length<=8:=by
  rw[pm.length_eq,LJ];lia
 calc ((b4 b).length+1)*(max W.pts.length W.ts.length+1) ^ ((b4 b).filter (dR fx)).length<=9*29 ^ 4:=Nat.mul_le_mul (by lia) (Mb (Sj (show max W.pts.length W.ts.length+1<=29 by lia) _) (RR (by decide) f1))
  _<=7000000:=by decide
def StA.bn (h:StA K H X):CU X.m X.bs X.fx:=⟨Mb h.x.bl (by decide),λb hb=>⟨(h.d b hb).1,(h.d b hb).2,λ_ w1 w2=>Bc h.l4 h.nk h.pk (h.x.bx b hb) w1 w2⟩⟩
def Stp.fit (h:Stp K H W X):FitP X.L.W W (i8 X.fx):=h.c.r.fit
def Stp.fo (h:Stp K H W X):FrOk W X.L.W X.R.W X.fr:=h.a.fo.mv h.c.f
def Stp.nd (h:Stp K H W X):((b4 X.R.W).map X.bw).Nodup:=Dy h.fit h.fo h.a.i.r.r.nd
def StA.im (h:StA K H X){n:Str}(hn:n∈b4 X.L.W):g0 (i8 X.fx) n∈X.fx.map (·.2):=LB.mpr ⟨_,fT h.nk (h.pk.mem_iff.mpr hn),rfl⟩
def StA.of (h:StA K H X){n:Str}(hn:n∈X.fx.map (·.2)):∃w∈b4 X.L.W,g0 (i8 X.fx) w=n:=by
 obtain⟨y,hy,rfl⟩:=LB.mp hn;exact⟨y.1,h.pk.mem_iff.mp (LB.mpr ⟨y,hy,rfl⟩),(P0 h.nk (show(y.1,y.2)∈X.fx from hy)).2⟩
def Stp.inW (h:Stp K H W X){n:Str}(hn:n∈X.fx.map (·.2)):n∈b4 W:=by
 obtain⟨w,hw,rfl⟩:=h.a.of hn;exact pV h.fit hw
def Stp.gsW (h:Stp K H W X){n:Str}(z:n∈X.gs):n∈X.fx.map (·.2)/\n∈b4 W:=by
 obtain⟨w,hw,rfl⟩:=LB.mp z;have z:=h.a.im (LW.mp hw).1;exact⟨z,h.inW z⟩
def Stp.beh (h:Stp K H W X)(nd:(b4 W).Nodup)(p1:W1.pts.Perm (X.go W).pts)(p2:W1.ts.Perm (X.go W).ts):Beh W X W1:=
 ⟨λx=>p1.mem_iff.trans (CQ h.fit h.a.x.ag h.fo h.a.i.r.r.nd nd x),λx=>p2.mem_iff.trans (Gs h.fit h.a.x.ag h.fo h.a.i.r.r.nd nd h.a.i.r.l.ends x),(p1.map _).nodup_iff.mpr (jA (K7 (D0 nd)) (pQ h.nd).1),(p2.map _).nodup_iff.mpr (jA (K7 (L9 nd)) (pQ h.nd).2)⟩
def Stp.goes (h:Stp K H W X)(nd:(b4 W).Nodup):Beh W X (X.go W):=h.beh nd (Ow _) (Ow _)
def Beh.nm (b:Beh W X W1)(h:Stp K H W X){n:Str}:n∈b4 W1↔(n∈b4 W/\n∉X.gs)\/n∈X.fr.map (·.2):=by
 constructor
 .intro z;rcases LO.mp z with z|z
  .obtain⟨x,hx,rfl⟩:=LB.mp z;rcases(b.p x).mp hx with⟨h1,h2⟩|⟨w,h1,_⟩
   .exact .inl ⟨LH _ (LB.mpr ⟨x,h1,rfl⟩),h2⟩
   .exact .inr (LB.mpr ⟨_,h1,rfl⟩)
  .obtain⟨x,hx,rfl⟩:=LB.mp z;rcases(b.t x).mp hx with⟨h1,h2⟩|⟨w,_,_,h1,_⟩
   .exact .inl ⟨LP _ (LB.mpr ⟨x,h1,rfl⟩),h2⟩
   .exact .inr (LB.mpr ⟨_,h1,rfl⟩)
 .rintro(⟨z,hg⟩|z)
  .rcases LO.mp z with z|z
   .obtain⟨x,hx,rfl⟩:=LB.mp z;exact LH _ (LB.mpr ⟨x,(b.p x).mpr (.inl ⟨hx,hg⟩),rfl⟩)
   .obtain⟨x,hx,rfl⟩:=LB.mp z;exact LP _ (LB.mpr ⟨x,(b.t x).mpr (.inl ⟨hx,hg⟩),rfl⟩)
  .obtain⟨y,hy,rfl⟩:=LB.mp z;rcases LO.mp (h.fo.mem.mp (LB.mpr ⟨y,hy,rfl⟩)).1 with q|q
   .obtain⟨x,hx,e⟩:=LB.mp q;exact LH _ (LB.mpr ⟨(y.2,x.2),(b.p _).mpr (.inr ⟨y.1,hy,by rw[←show x.1=y.1 from e];exact hx⟩),rfl⟩)
   .obtain⟨x,hx,e⟩:=LB.mp q;exact LP _ (LB.mpr ⟨(y.2,(x.2.1,X.bw x.2.2.1,X.bw x.2.2.2)),(b.t _).mpr (.inr ⟨y.1,_,_,hy,by rw[←show x.1=y.1 from e];exact hx,rfl,rfl⟩),rfl⟩)
def Stp.endN (h:Stp K H W X){n:Str}(hn:n∈X.R.W.pts.map (·.1)):(X.bw n∈X.fx.map (·.2)/\X.bw n∉X.gs/\X.bw n∈W.pts.map (·.1))\/(n,X.bw n)∈X.fr:=by
 have hR:n∈b4 X.R.W:=LH _ hn;by_cases hL:n∈b4 X.L.W
 .unfold StX.bw;rw[jx _ _ hL];refine .inl ⟨h.a.im hL,pA h.fit hL hR,?_⟩;obtain⟨x,hx,rfl⟩:=LB.mp hn;exact LB.mpr ⟨_,h.fit.pts x (((h.a.x.ag _ hL hR).p x.2).mpr hx),rfl⟩
 .unfold StX.bw;rw[ju _ _ hL];exact .inr (h.fo.txt h.a.i.r.r.nd (h.fo.mem.mpr ⟨hR,hL⟩)).2
def Beh.ok (b:Beh W X W1)(h:Stp K H W X)(o:WOk n W):WOk (n+2) W1:=by
 have fno:∀{w m:Str},(w,m)∈X.fr->m∉b4 W:=λz=>h.fo.no _ z;have nd1:(b4 W1).Nodup:=Mm.mpr ⟨b.n1,b.n2,λa ha c hc e=>by
  subst e;obtain⟨x,hx,rfl⟩:=LB.mp ha;obtain⟨y,hy,e⟩:=LB.mp hc;rcases(b.p x).mp hx with⟨h1,_⟩|⟨w,h1,RL⟩<;>rcases(b.t y).mp hy with⟨h2,_⟩|⟨w',_,_,h2,UJ,_⟩
  .exact(Mm.mp o.nd).2.2 x.1 (LB.mpr ⟨x,h1,rfl⟩) x.1 (LB.mpr ⟨y,h2,e⟩) rfl
  .exact fno h2 (LH _ (LB.mpr ⟨x,h1,e.symm⟩))
  .exact fno h1 (LP _ (LB.mpr ⟨y,h2,e⟩))
  .rw[show y.1=x.1 from e] at h2;have q:=jb h.fo.nd h1 h2;subst q;exact(Mm.mp h.a.i.r.r.nd).2.2 w (LB.mpr ⟨_,RL,rfl⟩) w (LB.mpr ⟨_,UJ,rfl⟩) rfl⟩
 have old:∀{m:Str},m∈W.pts.map (·.1)->m∉X.gs->m∈W1.pts.map (·.1):=λz q=>by
  obtain⟨x,hx,rfl⟩:=LB.mp z;exact LB.mpr ⟨x,(b.p x).mpr (.inl ⟨hx,q⟩),rfl⟩
 have new:∀{m:Str},m∈X.R.W.pts.map (·.1)->X.bw m∈W1.pts.map (·.1):=fun{m} hm=>by
  rcases h.endN hm with⟨_,h2,h3⟩|h2
  .exact old h3 h2
  .obtain⟨x,hx,rfl⟩:=LB.mp hm;exact LB.mpr ⟨(_,x.2),(b.p _).mpr (.inr ⟨_,h2,hx⟩),rfl⟩
 refine⟨nd1,λx hx=>?_,λx hx=>?_,?_,?_⟩
 .rcases(b.t x).mp hx with⟨h1,h2⟩|⟨w,c,e,_,h2,e1,e2⟩
  .exact⟨old (o.ends x h1).1 (h.c.r.lo x h1 h2).1,old (o.ends x h1).2 (h.c.r.lo x h1 h2).2⟩
  .rw[e1,e2];exact⟨new (h.a.i.r.r.ends _ h2).1,new (h.a.i.r.r.ends _ h2).2⟩
 .rcases(b.nm h).mp hx with z|z
  .exact o.nl x z.1
  .obtain⟨y,hy,rfl⟩:=LB.mp z;have z:=h.fo.nm y hy;unfold L8 at z;have:=dN (Mp _ _▸z).1;lia
 .obtain⟨a,ha,la⟩:=h.a.x.np;have z:=Y8 (m:=W.pts.map (·.1)++a.map X.bw) b.n1 λx hx=>?_
  .rw[Lz,LJ,Lz,Lz] at z;have:=o.p;lia
  .obtain⟨y,hy,rfl⟩:=LB.mp hx;rcases(b.p y).mp hy with⟨h1,_⟩|⟨w,h1,h2⟩
   .exact LH _ (LB.mpr ⟨y,h1,rfl⟩)
   .exact LP _ (LB.mpr ⟨w,ha w (LB.mpr ⟨_,h2,rfl⟩) (h.fo.mem.mp (LB.mpr ⟨_,h1,rfl⟩)).2,gF h.fo h.a.i.r.r.nd h1 _⟩)
 .obtain⟨a,ha,la⟩:=h.a.x.nt;have z:=Y8 (m:=W.ts.map (·.1)++a.map X.bw) b.n2 λx hx=>?_
  .rw[Lz,LJ,Lz,Lz] at z;have:=o.t;lia
  .obtain⟨y,hy,rfl⟩:=LB.mp hx;rcases(b.t y).mp hy with⟨h1,_⟩|⟨w,c,e,h1,h2,_⟩
   .exact LH _ (LB.mpr ⟨y,h1,rfl⟩)
   .exact LP _ (LB.mpr ⟨w,ha w (LB.mpr ⟨_,h2,rfl⟩) (h.fo.mem.mp (LB.mpr ⟨_,h1,rfl⟩)).2,gF h.fo h.a.i.r.r.nd h1 _⟩)
def Stp.mv (h:Stp K H W X)(k:Stp K H W Y)(b:Beh W X W1)(f:∀x∈X.fr.map (·.2),x∉Y.fr.map (·.2))(g:∀x∈X.fx.map (·.2),x∈Y.fx.map (·.2)->x∉X.gs/\x∉Y.gs)(no:∀b∈Y.bs,B9 b.W W1 Y.fx=[]):Stp K H W1 Y:=by
 have kp:∀{n:Str},n∈b4 Y.L.W->g0 (i8 Y.fx) n∉X.gs:=λhn z=>(g _ (h.gsW z).1 (k.a.im hn)).1 z;refine⟨k.a,⟨⟨⟨k.fit.len,k.fit.txt,k.fit.nd,λx hx=>(b.p _).mpr (.inl ⟨k.fit.pts x hx,kp (LH _ (LB.mpr ⟨x,hx,rfl⟩))⟩),λx hx=>(b.t _).mpr (.inl ⟨k.fit.ts x hx,kp (LP _ (LB.mpr ⟨x,hx,rfl⟩))⟩)⟩,λx hx hn=>?_,no⟩,λx hx z=>?_⟩⟩
 .rcases(b.t _).mp hx with⟨h1,_⟩|⟨w,c,e,_,h2,e1,e2⟩
  .exact k.c.r.lo x h1 hn
  .have en:=h.a.i.r.r.ends _ h2;have bad:∀{m:Str},m∈X.R.W.pts.map (·.1)->X.bw m∉Y.gs:=λhm zg=>by
    rcases h.endN hm with⟨q,_,_⟩|q
    .exact(g _ q (k.gsW zg).1).2 zg
    .exact h.fo.no _ q (k.gsW zg).2
   rw[e1,e2];exact⟨bad en.1,bad en.2⟩
 .rcases(b.nm h).mp z with q|q
  .exact k.c.f x hx q.1
  .exact f _ q (LB.mpr ⟨x,hx,rfl⟩)
def Apart.sy (a:Apart X Y W1 W2):Apart Y X W2 W1:=⟨λx h1 h2=>a.f x h2 h1,λx h1 h2=>(a.g x h2 h1).symm,a.b2,a.b1⟩
def Bm (h:Stp K H W X)(k:Stp K H W Y)(b:Beh W X W1)(c:Beh W Y W2)(o1:Y.can W1)(o2:X.can W2):Apart X Y W1 W2:=by
 have gn:∀{X Y:StX} {W1:p8},Stp K H W X->Stp K H W Y->Beh W X W1->Y.can W1->∀x∈Y.fx.map (·.2),x∉X.gs:=fun{X Y W1} h k b o x hx=>by
  obtain⟨w,hw,e⟩:=k.a.of hx;have z:=pV o.r.fit hw;rw[e] at z;rcases(b.nm h).mp z with q|q
  .exact q.2
  .obtain⟨y,UE,e'⟩:=LB.mp q;exact absurd (show y.2∈b4 W by rw[show y.2=x from e'];exact k.inW hx) (h.fo.no y UE)
 refine⟨λx hx hy=>?_,λx hx hy=>⟨gn h k b o1 x hy,gn k h c o2 x hx⟩,o2.r.no,o1.r.no⟩;obtain⟨y,UE,rfl⟩:=LB.mp hy;exact o1.f y UE ((b.nm h).mpr (.inr hx))
def yV {a g1 n1 g2 n2:Prop}(h1:n1->g2)(h2:n2->g1):(((a/\g1)\/n1)/\g2)\/n2↔(((a/\g2)\/n2)/\g1)\/n1:=by
 constructor<;>rintro(⟨⟨q,r⟩|q,s⟩|q)
 .exact .inl ⟨.inl ⟨q,s⟩,r⟩
 .exact .inr q
 .exact .inl ⟨.inr q,h2 q⟩
 .exact .inl ⟨.inl ⟨q,s⟩,r⟩
 .exact .inr q
 .exact .inl ⟨.inr q,h1 q⟩
def Beh.swp {UL W21:p8}(h:Stp K H W X)(k:Stp K H W Y)(b:Beh W X W1)(c:Beh W Y W2)(d:Beh W1 Y UL)(e:Beh W2 X W21):UL.pts.Perm W21.pts/\UL.ts.Perm W21.ts:=by
 have no:∀{X Y:StX},Stp K H W X->Stp K H W Y->∀{n w:Str},(w,n)∈X.fr->n∉Y.gs:=fun{X Y} h k {n w} hw z=>h.fo.no _ hw (k.gsW z).2;refine⟨(NR (O4 d.n1) (O4 e.n1)).mpr λx=>?_,(NR (O4 d.n2) (O4 e.n2)).mpr λx=>?_⟩
 .rw[d.p,e.p];unfold De;rw[b.p,c.p];exact yV (fun⟨w,z,_⟩=>no h k z) fun⟨w,z,_⟩=>no k h z
 .rw[d.t,e.t];unfold BF;rw[b.t,c.t];exact yV (fun⟨w,_,_,z,_⟩=>no h k z) fun⟨w,_,_,z,_⟩=>no k h z
end
structure Cp (X Y:StX):Prop where
 l:WPm Y.L.W X.L.W
 r:WPm Y.R.W X.R.W
 b:Paired (λs t:Sd=>WPm t.W s.W) X.bs Y.bs
 m:Y.fx.Perm X.fx
 f:Y.fr.Perm X.fr
theorem vp:∀bs:List Sd,Paired (λs t:Sd=>WPm t.W s.W) bs bs
 |[]=> .nil
 |b::bs=> .cons (WPm.rf _) (vp bs)
def Cp.rf (X:StX):Cp X X:=⟨WPm.rf _,WPm.rf _,vp _,Ow _,Ow _⟩
section
variable {H H':Hp} {W W' W1 W2:p8} {X Y:StX} {n:Nat}
def Cp.get (c:Cp X Y)(h:StA K H X)(k:StA K H' Y){w:Str}(hw:w∈b4 X.L.W):g0 (i8 Y.fx) w=g0 (i8 X.fx) w:=qv h.nk k.nk (λx hx=>c.m.mem_iff.mpr hx) (h.pk.mem_iff.mpr hw)
def Cp.gs (c:Cp X Y)(h:StA K H X)(k:StA K H' Y){x:Str}:x∈Y.gs↔x∈X.gs:=by
 rw[yB,yB];constructor
 .rintro⟨w,h1,h2,h3⟩;have z:=c.l.nm.mem_iff.mp h1;exact⟨w,z,λq=>h2 (c.r.nm.mem_iff.mpr q),by rw[←c.get h k z];exact h3⟩
 .rintro⟨w,h1,h2,h3⟩;exact⟨w,c.l.nm.mem_iff.mpr h1,λq=>h2 (c.r.nm.mem_iff.mp q),by rw[c.get h k h1];exact h3⟩
def Cp.bw (c:Cp X Y)(h:StA K H X)(k:StA K H' Y){w:Str}(hw:w∈b4 X.R.W):Y.bw w=X.bw w:=by
 unfold StX.bw;by_cases z:w∈b4 X.L.W
 .rw[jx _ _ (c.l.nm.mem_iff.mpr z),jx _ _ z];exact c.get h k z
 .rw[ju _ _ λq=>z (c.l.nm.mem_iff.mp q),ju _ _ z];exact qv (h.fo.nd1 h.i.r.r.nd) (k.fo.nd1 k.i.r.r.nd) (λx hx=>c.f.mem_iff.mpr hx) (h.fo.mem.mpr ⟨hw,z⟩)
def Cp.can (c:Cp X Y)(h:StA K H X)(k:StA K H' Y)(w:WPm W' W)(o:X.can W):Y.can W':=by
 refine⟨⟨o.r.fit.cp c.l (λx hx=>w.p.mem_iff.mpr hx) (λx hx=>w.t.mem_iff.mpr hx) (by rw[p0,p0];exact c.m.length_eq) (λn hn=>⟨(P0 k.nk (fT k.nk (k.pk.mem_iff.mpr (c.l.nm.mem_iff.mpr hn)))).1,c.get h k hn⟩) h.i.r.l.ends,λx hx hg=>?_,λb hb=>?_⟩,λx hx z=>?_⟩
 .have z:=o.r.lo x (w.t.mem_iff.mp hx) λq=>hg ((c.gs h k).mpr q);exact⟨λq=>z.1 ((c.gs h k).mp q),λq=>z.2 ((c.gs h k).mp q)⟩
 .obtain⟨j,hj⟩:=Nw hb;obtain⟨s,hs,z⟩:=ja c.b hj;have B:=k.i.r.bars b hb;exact Cd (A:=s.W) B.nd B.ends z.sy (λx hx=>w.p.mem_iff.mp hx) (λx hx=>w.t.mem_iff.mp hx) (λx hx=>c.m.mem_iff.mpr hx) (o.r.no s (LV hs))
 .exact o.f x (c.f.mem_iff.mp hx) (w.nm.mem_iff.mp z)
def Cp.beh (c:Cp X Y)(h:StA K H X)(k:StA K H' Y)(w:WPm W' W)(b:Beh W X W1)(d:Beh W' Y W2):WPm W2 W1:=by
 refine⟨(NR (O4 d.n1) (O4 b.n1)).mpr λx=>?_,(NR (O4 d.n2) (O4 b.n2)).mpr λx=>?_⟩
 .rw[d.p,b.p];unfold De;refine or_congr (Ul w.p.mem_iff (not_congr (c.gs h k))) (RH λv=>Ul c.f.mem_iff c.r.p.mem_iff)
 .rw[d.t,b.t];unfold BF;refine or_congr (Ul w.t.mem_iff (not_congr (c.gs h k))) (RH λv=>RH λp=>RH λq=>Ul c.f.mem_iff ⟨fun⟨h1,h2,h3⟩=>?_,fun⟨h1,h2,h3⟩=>?_⟩)
  .have z:=c.r.t.mem_iff.mp h1;have e:=h.i.r.r.ends _ z;exact⟨z,h2.trans (c.bw h k (LH _ e.1)),h3.trans (c.bw h k (LH _ e.2))⟩
  .have e:=h.i.r.r.ends _ h1;exact⟨c.r.t.mem_iff.mpr h1,h2.trans (c.bw h k (LH _ e.1)).symm,h3.trans (c.bw h k (LH _ e.2)).symm⟩
end
def wk (W:p8)(ys:List StX):p8:=ys.foldl (λW X=>X.go W) W
def Gok (W:p8):List StX->Prop
 |[]=>True
 |X::r=>X.can W/\Gok (X.go W) r
section
variable {H H':Hp} {W W':p8} {X Y:StX} {ys zs a b:List StX} {n:Nat}
def oS (W:p8)(a b:List StX):wk W (a++b)=wk (wk W a) b:=List.foldl_append
def gok_app:Gok W (a++b)↔Gok W a/\Gok (wk W a) b:=by
 induction a generalizing W with
 |nil=>exact⟨λh=>⟨trivial,h⟩,λh=>h.2⟩
 |cons X r ih=>
  show X.can W/\Gok (X.go W) (r++b)↔(X.can W/\Gok (X.go W) r)/\Gok (wk (X.go W) r) b
  rw[ih,and_assoc]
def wj (hy:∀y∈ys,StA K H y)(o:WOk n W)(g:Gok W ys):WOk (n+2*ys.length) (wk W ys):=by
 induction ys generalizing W n with
 |nil=>exact o
 |cons X r ih=>
  have s:Stp K H W X:=⟨hy X LS,g.1⟩
  have z:=ih (λy h=>hy y (LY _ h)) ((s.goes o.nd).ok s o) g.2
  exact z.up (by rw[Mi];lia)
def Gok.cp (c:Paired Cp ys zs)(hy:∀y∈ys,StA K H y)(hz:∀z∈zs,StA K H' z)(o:WOk n W)(w:WPm W' W)(g:Gok W ys):Gok W' zs/\WPm (wk W' zs) (wk W ys):=by
 induction c generalizing W W' n with
 |nil=>exact⟨trivial,w⟩
 | @cons X Y ys zs h t ih=>
  have a:=hy X LS
  have b:=hz Y LS
  have k:=h.can a b w g.1
  have s:Stp K H W X:=⟨a,g.1⟩
  have s':Stp K H' W' Y:=⟨b,k⟩
  have B:=s.goes o.nd
  have w1:=h.beh a b w B (s'.goes (o.pm w).nd)
  have z:=ih (λy q=>hy y (LY _ q)) (λy q=>hz y (LY _ q)) (B.ok s o) w1 g.2
  exact⟨⟨k,z.1⟩,z.2⟩
theorem oF:∀ys:List StX,Paired Cp ys ys
 |[]=> .nil
 |y::ys=> .cons (Cp.rf y) (oF ys)
def ui (hy:∀y∈a++X::Y::b,StA K H y)(o:WOk n W)(g:Gok W (a++X::Y::b))(s:Gok (wk W a) [Y,X]):Gok W (a++Y::X::b)/\WPm (wk W (a++Y::X::b)) (wk W (a++X::Y::b)):=by
 have g':=gok_app.mp g;have hX:=hy X (by simp);have hY:=hy Y (by simp);have oV:=wj (λy h=>hy y (LH _ h)) o g'.1;rw[oS,oS,gok_app];generalize wk W a=V at g' s oV;obtain⟨g1,g2,g3,g4⟩:=g';obtain⟨s1,s2,_⟩:=s;have h1:Stp K H V X:=⟨hX,g2⟩
 have h2:Stp K H V Y:=⟨hY,s1⟩
 have B1:=h1.goes oV.nd;have B2:=h2.goes oV.nd;have o1:=B1.ok h1 oV;have h12:Stp K H (X.go V) Y:=⟨hY,g3⟩
 have h21:Stp K H (Y.go V) X:=⟨hX,s2⟩
 have B12:=h12.goes o1.nd;have sw:=Beh.swp h1 h2 B1 B2 B12 (h21.goes (B2.ok h2 oV).nd);have z:=Gok.cp (oF b) (λy h=>hy y (by simp [h])) (λy h=>hy y (by simp [h])) (B12.ok h12 o1) (W':=X.go (Y.go V)) ⟨sw.1.symm,sw.2.symm⟩ g4;exact⟨⟨g1,s1,s2,z.1⟩,z.2⟩
end
def gN {H:Hp}{S:Sd}{X:StX}{n:Nat}{Q:VK}{E:XK}(hS:SdIs K H S)(a:StA K H X)(o:WOk n S.W)(hn:n<=28)(k:X.can S.W->∀(D:Sd) (H':Hp),Same H H'->SdIs K H' D->H D.p=none->H D.q=none->WPm D.W (X.go S.W)->Beh S.W X D.W->WOk (n+2) D.W->Q (.ref D.a) H')(kE:¬X.can S.W->∀c∈wB,∀H' e,Same H H'->H' e=none->E (.ref (cA K c)) (some e) H'):oK K [.ref S.a,.ref X.st] H Q E:=by
 refine⟨S,X.L,X.R,X.st,X.r,X.m,X.f,X.bl,X.fr,X.bs,X.fx,_,rfl,hS,a.i,a.bn,a.nk,Mb a.kl (by decide),⟨Mb o.p hn,Mb o.t hn⟩,Mb a.l4 (by decide),a.x.rl,a.fo,λcan=>?_,kE⟩;intro a3 p3 q3 k3 W3 H3 m3 w3 hp3 hq3 ne3 np3 nq3 e31 e32;have s:Stp K H S.W X:=⟨a,can⟩
 have B:=s.beh o.nd e31 e32;have O:=B.ok s o;refine k can ⟨a3,p3,q3,k3,W3⟩ H3 m3 ⟨w3,hp3,hq3,ne3,O.nd,?_,O.ends,O.nl⟩ np3 nq3 ⟨e31,e32⟩ B O;show(b4 W3).length<=60;rw[E4];have z1:W3.pts.length<=n+2:=O.p;have z2:W3.ts.length<=n+2:=O.t;lia
def nU (K:Za):Sp:=λvs H Q _=>∃(d1 d2:Addr) (k1 k2:List (i6×V)) (s1 s2:List Str),vs=[.ref d1,.ref d2]/\H d1=some (.dK k1)/\H d2=some (.dK k2)/\k1.map (·.2)=s1.map V.str/\k2.map (·.2)=s2.map V.str/\s1.length<=60/\∀(l:Addr) (us:List Str) (H':Hp),H l=none->Same H H'->H' l=some (.lst (us.map V.str))->(∀x,x∈us↔x∈s1/\x∈s2)->us.length<=60->Q (.ref l) H'
abbrev qQ:=λP w K mg base=>K3 P w K mg base A9 1 "common" ["one","other"] [] (nU K)
def wy {f fd}(T:Txt K mg)(F:Fun K "common" "common" jW f fd):x8 P w K mg base A9 1 f fd ["one","other"] (nU K):=by
 walk_at "#sc_common"
 .obtain⟨d1,d2,k1,k2,s1,s2,rfl,_⟩:=h;rfl
 .obtain⟨d1,d2,k1,k2,s1,s2,rfl,h1,h2,e1,e2,hl,k⟩:=h;walk_at "@sc_common 52w~0|{2`*~8~7~6018mimage;2;kq'2yY XG(&2`*~8~7~600d0image,images;JcI0001s00"
  refine I0 λZJ hx=>?_;rfl';refine⟨.inr (.inr (.inl ⟨rfl,.inl ⟨_,h2⟩⟩)),?_⟩;rfl';refine⟨d2,_,rfl,rfl,.inl h2,λv1 n1=>?_⟩;obtain⟨H1,z1,f1,m1,_⟩:=b0 (o:= .ext (iI v1 d2)) n1;rw[z1];rfl';refine Z9 f1 (.inl (m1 _ _ h2)) (λli n2=>?_);obtain⟨H2,z2,f2,m2,_⟩:=b0 (o:= .lst _) n2;rw[z2];rw[e2] at f2;have s_:=m1.trans m2;rfl';refine hx [some (.ref d1),some (.ref d2),some (.ref li)] _ ?_;clear hx;have g1:=s_ _ _ h1;rfl';refine⟨.inr (.inr (.inl ⟨rfl,.inl ⟨_,g1⟩⟩)),?_⟩;rfl';refine⟨d1,_,rfl,rfl,.inl g1,λv3 n3=>?_⟩;obtain⟨H3,z3,f3,m3,_⟩:=b0 (o:= .ext (iI v3 d1)) n3;rw[z3];rfl';refine⟨v3,d1,_,s1,rfl,f3,.inl (m3 _ _ g1),e1,by lia,λi_ pm lo nlo=>?_⟩;obtain⟨H4,z4,f4,m4,_⟩:=b0 (o:= .lst (i_.map V.str)) nlo;rw[z4];have RO:=pm.length_eq;have Su:=m3.trans m4;refine k8 (SqL.of f4) ?_;refine j9 (n:=i_.length) (λi out H'=>Same H4 H'/\out=((i_.take i).filter λn=>decide (n∈s2)).map V.str) ⟨Same.refl _,rfl⟩ (λi out H' hi hp=>⟨_,.str (i_[i]),SqL.of (hp.1 _ _ f4),by rw[LF,LA hi];rfl⟩) ?_ ?_
  .rintro N i v out H5' H5 hi ⟨s5,rfl⟩ y hN';obtain⟨rfl,hy⟩:=Itl.get y (SqL.of (s5 _ _ f4));have ex:i_[i]?=some i_[i]:=LA hi;rw[LF,ex] at hy;cases hy;have e7:i_.take (i+1)=i_.take i++[i_[i]]:=by rw[Mt,ex];rfl
   have r_:=LQ (λn=>decide (n∈s2)) (i_.take i);rw[LM] at r_;rfl';refine⟨rfl,?_⟩;rfl';refine jy (SqL.of (s5 _ _ (Su _ _ f2))) ?_;rfl';refine M4 (λhb=>?_) (λhb=>?_)
   .rfl';refine⟨b5 (by rw[Lz];lia),hN' _ _ ⟨s5,?_⟩⟩;rw[e7,Mz,Mw (p:=λn=>decide (n∈s2)) (Ma hb),MT,LK];rfl
   .refine hN' _ _ ⟨s5,?_⟩;rw[e7,Mz,MB (p:=λn=>decide (n∈s2)) (by simp [hb]),MT,MM]
  .rintro out H5 ⟨s5,rfl⟩;rw[LN (LC _)];have r_:=LQ (λn=>decide (n∈s2)) i_;refine⟨⟨_,SqL.of (s5 _ _ f4),by rw[Lz];exact LC _⟩,λD hD=>⟨b5 (by rw[Lz];lia),?_⟩⟩;obtain⟨H6,z6,f6,m6,_⟩:=b0 (H:=H5) (o:= .lst ((i_.filter λn=>decide (n∈s2)).map V.str)) hD;change Q (.ref D) (upd H5 D (.lst ((i_.filter λn=>decide (n∈s2)).map V.str)));rw[z6];have s05:=s_.trans (Su.trans s5);exact k D _ H6 (s05.free hD) (s05.trans m6) f6 (λx=>by rw[LW,pm.mem_iff,Mg]) (by lia)
def sf (K:Za):Sp:=λvs H Q _=>∃(S:Sd) (X Y:StX) (n:Nat),vs=[.ref S.a,.ref X.st,.ref Y.st]/\SdIs K H S/\WOk n S.W/\n<=26/\Stp K H S.W X/\Stp K H S.W Y/\∀(v:V) (H':Hp) (W1 W2:p8),Same H H'->Beh S.W X W1->Beh S.W Y W2->(v= .non/\Apart X Y W1 W2\/(∃t,v= .ref t)/\¬Apart X Y W1 W2)->Q v H'
abbrev ow:=λP w K mg base=>K3 P w K mg base (ic P w) 12 "clash" ["web","one","other"] [] (sf K)
def zo {f fd}(T:Txt K mg)(R9:kc P w K mg base)(gS:qQ P w K mg base)(J5:dA P w K mg base)(X4:lR P w K mg base)(F:Fun K "clash" "clash" oI f fd):x8 P w K mg base (ic P w) 12 f fd ["web","one","other"] (sf K):=by
 refine F.okE sc_clash (λvs H Q E h=>?_) (λc_ A outer s H vs Q E hr h=>?_)
 .obtain⟨S,X,Y,n,rfl,_⟩:=h;rfl
 .obtain⟨S,X,Y,n,rfl,hS,o,hn,hX,hY,k⟩:=h;have vals:∀a:List (Str×Str),(i8 a).map (·.2)=(a.map (·.2)).map V.str:=λa=>qK a;have fl1:=hX.fo.len;have kl1:=hX.a.kl;have kl2:=hY.a.kl;walk_at "@sc_clash 53A~mRe0154A~mRe02553'0gS i41429u+058riK4556a3'0J5 713'0J5 729?7name;6;k3'0gS i4142vd0name,out;vJcI0001sv009u+078riK479uc~93'0X4 64i4141Pf8riK19uc~93'0X4 63i4242Pf8riK18P"
  symm;refine gN hS hX.a o (by lia) (λ_ D1 H1 t1 S1 _ _ _ B1 O1=>?_) (λz=>absurd hX.c z);symm;refine gN (hS.same t1) (hY.a.same t1) o (by lia) (λ_ D2 H2 t2 S2 _ _ _ B2 O2=>?_) (λz=>absurd hY.c z);have t12:=t1.trans t2;have T2:=hX.a.i.same t12;have U2:=hY.a.i.same t12;symm;refine j4 T2.tup (i9 (j:=2) rfl) ?_;symm;refine j4 U2.tup (i9 (j:=2) rfl) ?_;symm;refine⟨X.f,Y.f,_,_,X.fr.map (·.2),Y.fr.map (·.2),rfl,T2.f,U2.f,vals X.fr,vals Y.fr,by rw[Lz];lia,λl3 us H3 _ t3 g3 P_ _=>?_⟩;have Yi:=t12.trans t3;symm;cases us with
  |cons x r=>
   refine⟨true,.inl ⟨_,SqL.of g3,rfl⟩,?_⟩
   symm
   refine j5 (v:= .str x) (SqL.of g3) (i9 (j:=0) rfl) ?_
   symm
   refine⟨b5 (by simp),λlt nlt=>?_⟩
   obtain⟨HA,zA,gA,tA,_⟩:=b0 (o:= .tup _) nlt
   rw[zA]
   have y:=(P_ x).mp LS
   exact k _ HA D1.W D2.W (Yi.trans tA) B1 B2 (.inr ⟨⟨lt,rfl⟩,λa=>a.f x y.1 y.2⟩)
  |nil=>?_
  refine⟨false,.inl ⟨[],SqL.of g3,rfl⟩,?_⟩;have af:∀x∈X.fr.map (·.2),x∉Y.fr.map (·.2):=λx h1 h2=>by
   have:=(P_ x).mpr ⟨h1,h2⟩;cases this
  have T3:=hX.a.i.same Yi;have U3:=hY.a.i.same Yi;symm;refine⟨X.st,X.r,X.m,X.bl,.ref X.f,X.L,X.R,X.bs,_,rfl,T3.tup,T3.r,.inl T3.m,hX.fit.txt,λl4 H4 u1 u2 _ t4 o4 g4=>?_⟩;have U4:=U3.same t4;symm;refine⟨Y.st,Y.r,Y.m,Y.bl,.ref Y.f,Y.L,Y.R,Y.bs,_,rfl,U4.tup,U4.r,.inl U4.m,hY.fit.txt,λl5 H5 w1 w2 _ t5 o5 g5=>?_⟩;have h4:=tu (R:=X.R.W) (km:=i8 X.fx) o4;have h5:=tu (R:=Y.R.W) (km:=i8 Y.fx) o5;have z4:=LQ (λn=>!decide (n∈b4 X.R.W)) (u1++u2);have z5:=LQ (λn=>!decide (n∈b4 Y.R.W)) (w1++w2);have y4:=o4.len;have y5:=o5.len;have v4:=hX.a.l4;have v5:=hY.a.l4;have x4:(((u1++u2).filter λn=>!decide (n∈b4 X.R.W)).map (g0 (i8 X.fx))).length<=24:=by rw[Lz];lia
  have x5:(((w1++w2).filter λn=>!decide (n∈b4 Y.R.W)).map (g0 (i8 Y.fx))).length<=24:=by rw[Lz];lia
  generalize ((u1++u2).filter λn=>!decide (n∈b4 X.R.W)).map (g0 (i8 X.fx))=o1 at g4 h4 x4;generalize ((w1++w2).filter λn=>!decide (n∈b4 Y.R.W)).map (g0 (i8 Y.fx))=o2 at g5 h5 x5;clear z4 z5 y4 y5 v4 v5 o4 o5;symm;refine eh (t5 _ _ g4) g5 (b5 (by rw[Lz,Lz];lia)) (λlo nlo=>?_);rw[←LK];obtain⟨H6,z6,g6,t6,_⟩:=b0 (o:= .lst ((o1++o2).map V.str)) nlo;rw[z6];have Yj:=t4.trans (t5.trans t6);have T6:=T3.same Yj;have U6:=U3.same Yj;symm;refine j4 T6.tup (i9 (j:=1) rfl) ?_;symm;refine j4 U6.tup (i9 (j:=1) rfl) ?_;symm;refine⟨X.m,Y.m,_,_,X.fx.map (·.2),Y.fx.map (·.2),rfl,T6.m,U6.m,vals X.fx,vals Y.fx,by rw[Lz];lia,λl7 us H7 _ t7 g7 P_ WO=>?_⟩;refine k8 (SqL.of g7) ?_;refine j9 (n:=us.length) (λi out H'=>Same H7 H'/\out=((us.take i).filter λn=>decide (n∈o1++o2)).map V.str) ⟨Same.refl _,rfl⟩ (λi out H' hi hp=>⟨_,.str (us[i]),SqL.of (hp.1 _ _ g7),by rw[LF,LA hi];rfl⟩) ?_ ?_
  .rintro N i v out H8' H8 hi ⟨s8,rfl⟩ y hN';obtain⟨rfl,hy⟩:=Itl.get y (SqL.of (s8 _ _ g7));have ex:us[i]?=some us[i]:=LA hi;rw[LF,ex] at hy;cases hy;have e7:us.take (i+1)=us.take i++[us[i]]:=by rw[Mt,ex];rfl
   have r_:=LQ (λn=>decide (n∈o1++o2)) (us.take i);rw[LM] at r_;symm;refine⟨rfl,?_⟩;symm;refine jy (SqL.of (s8 _ _ (t7 _ _ g6))) ?_;symm;refine M4 (λhb=>?_) (λhb=>?_)
   .symm;refine⟨b5 (by rw[Lz];lia),hN' _ _ ⟨s8,?_⟩⟩;rw[e7,Mz,Mw (p:=λn=>decide (n∈o1++o2)) (Ma hb),MT,LK];rfl
   .refine hN' _ _ ⟨s8,?_⟩;rw[e7,Mz,MB (p:=λn=>decide (n∈o1++o2)) (by simp [hb]),MT,MM]
  rintro out H8 ⟨s8,rfl⟩;rw[LN (LC _)];have r_:=LQ (λn=>decide (n∈o1++o2)) us;refine⟨⟨_,SqL.of (s8 _ _ g7),by rw[Lz];exact LC _⟩,λlg nlg=>⟨b5 (by rw[Lz];lia),?_⟩⟩;obtain⟨H9,z9,g9,t9,_⟩:=b0 (H:=H8) (o:= .lst ((us.filter λn=>decide (n∈o1++o2)).map V.str)) nlg;change O5 _ _ _ (upd H8 lg (.lst ((us.filter λn=>decide (n∈o1++o2)).map V.str))) _;rw[z9];have Yk:∀x,x∈(us.filter λn=>decide (n∈o1++o2))↔(x∈X.fx.map (·.2)/\x∈Y.fx.map (·.2))/\(x∈X.gs\/x∈Y.gs):=λx=>by
   rw[LW,P_,Mg,LO,h4,h5]
  generalize us.filter (λn=>decide (n∈o1++o2))=gl at g9 Yk;have t39:=Yj.trans (t7.trans (s8.trans t9));have VZ:=Yi.trans t39;have t29:=t3.trans t39;clear h4 h5 r_ P_ WO z9 z6 g6 g7 s8 t7 t9 g4 g5 T2 U2 T3 U3 T6 U6 U4 Yj;symm;cases gl with
  |cons x r=>
   refine⟨true,.inl ⟨_,SqL.of g9,rfl⟩,?_⟩
   symm
   refine j5 (v:= .str x) (SqL.of g9) (i9 (j:=0) rfl) ?_
   symm
   refine⟨b5 (by simp),λlt nlt=>?_⟩
   obtain⟨HA,zA,gA,tA,_⟩:=b0 (o:= .tup _) nlt
   rw[zA]
   have y:=(Yk x).mp LS
   exact k _ HA D1.W D2.W (VZ.trans tA) B1 B2 (.inr ⟨⟨lt,rfl⟩,λa=>y.2.elim (a.g x y.1.1 y.1.2).1 (a.g x y.1.1 y.1.2).2⟩)
  |nil=>?_
  have ag:∀x∈X.fx.map (·.2),x∈Y.fx.map (·.2)->x∉X.gs/\x∉Y.gs:=λx h1 h2=>⟨λh3=>(nomatch (Yk x).mpr ⟨⟨h1,h2⟩,.inl h3⟩),λh3=>(nomatch (Yk x).mpr ⟨⟨h1,h2⟩,.inr h3⟩)⟩
  refine⟨false,.inl ⟨_,SqL.of g9,rfl⟩,?_⟩;have T9:=hX.a.i.same VZ;have U9:=hY.a.i.same VZ;symm;refine j4 T9.tup (i9 (j:=0) rfl) ?_;symm;refine j4 T9.tup (i9 (j:=1) rfl) ?_;symm;refine⟨D2,X.L,X.R,X.r,X.bl,X.m,X.bs,X.fx,rfl,S2.same t29,T9.r,hX.a.bn.len,T9.m,λb hb=>⟨(hX.a.bn.b b hb).1,(hX.a.bn.b b hb).2.1,(hX.a.bn.b b hb).2.2 _ (Mb O2.p (by lia)) (Mb O2.t (by lia))⟩,λv HA tA Xl=>?_⟩;rcases Xl with⟨no1,rfl⟩|⟨i,b,row,rr,t,d,hb,_,hr,rfl,_⟩
  rotate_left
  .symm;rw[if_pos (by simp)];symm;refine⟨b5 (by simp),λlt nlt=>?_⟩;obtain⟨HB,zB,gB,tB,_⟩:=b0 (o:= .tup _) nlt;rw[zB];exact k _ HB D1.W D2.W (VZ.trans (tA.trans tB)) B1 B2 (.inr ⟨⟨lt,rfl⟩,λa=>by rw[a.b1 b (LV hb)] at hr;cases hr⟩)
  symm;rw[if_neg (by simp)];have Yl:=U9.same tA;symm;refine j4 Yl.tup (i9 (j:=0) rfl) ?_;symm;refine j4 Yl.tup (i9 (j:=1) rfl) ?_;symm;refine⟨D1,Y.L,Y.R,Y.r,Y.bl,Y.m,Y.bs,Y.fx,rfl,S1.same (t2.trans (t29.trans tA)),Yl.r,hY.a.bn.len,Yl.m,λb hb=>⟨(hY.a.bn.b b hb).1,(hY.a.bn.b b hb).2.1,(hY.a.bn.b b hb).2.2 _ (Mb O1.p (by lia)) (Mb O1.t (by lia))⟩,λv HB tB Xl=>?_⟩;rcases Xl with⟨no2,rfl⟩|⟨i,b,row,rr,t,d,hb,_,hr,rfl,_⟩
  rotate_left
  .symm;rw[if_pos (by simp)];symm;refine⟨b5 (by simp),λlt nlt=>?_⟩;obtain⟨HC,zC,gC,tC,_⟩:=b0 (o:= .tup _) nlt;rw[zC];exact k _ HC D1.W D2.W (VZ.trans (tA.trans (tB.trans tC))) B1 B2 (.inr ⟨⟨lt,rfl⟩,λa=>by rw[a.b2 b (LV hb)] at hr;cases hr⟩)
  symm;rw[if_neg (by simp)];symm;exact k _ HB D1.W D2.W (VZ.trans (tA.trans tB)) B1 B2 (.inl ⟨rfl,af,ag,no1,no2⟩)
def qc (T:Txt K mg){c:Str}(h:c∈wB):PySem.W.subIn K (.ref (cA K c)) (.ref (cA K "GlueError"))=some true:=by
 simp only[wB,Mr,List.not_mem_nil,or_false] at h;rcases h with rfl|rfl|rfl|rfl
 .exact T.s_NoMatch_GlueError
 .exact T.s_Loose_GlueError
 .exact T.s_Barred_GlueError
 .exact T.s_NoNames_GlueError
def ck (K:Za):Sp:=λvs H Q _=>∃(S L R:Sd) (r m bl:Addr) (bs:List Sd) (fx:List (Str×Str)),vs=[.ref S.a,.ref r,.ref m]/\SdIs K H S/\RuleIs K H r bl L R bs/\H bl=some (.lst (bs.map λs=>V.ref s.a))/\H m=some (.dK (i8 fx))/\CU m bs fx/\(fx.map (·.1)).Nodup/\fx.length<=100/\(S.W.pts.length<=28/\S.W.ts.length<=28)/\(b4 L.W).length<=8/\(b4 R.W).length<=8/\∀(b:Bool) (H':Hp),(b=true↔yk S.W L.W R.W fx bs)->Same H H'->Q (.bl b) H'
abbrev eT:=λP w K mg base=>K3 P w K mg base A9 11 "can_be_done" ["web","rule","match"] [] (ck K)
def lI {f fd}(T:Txt K mg)(V9:iL P w K mg base)(F:Fun K "can_be_done" "can_be_done" aG f fd):x8 P w K mg base A9 11 f fd ["web","rule","match"] (ck K):=by
 walk_at "#sc_can_be_done"
 .obtain⟨S,L,R,r,m,bl,bs,fx,rfl,_⟩:=h;rfl
 .obtain⟨S,L,R,r,m,bl,bs,fx,rfl,hS,hR,Uu,hm,nb,nd,hl,hsz,l8,r8,k⟩:=h;have hN:=sc_can_be_done.nd;have hu:=k7 hr;refine⟨_,QSs.r (x9 (zG T.t_GlueError (λpins Es=>(A2 (wC (Ku V9 (hr.mono (by decide)) (c0 (qV 0) (c0 (U7 (c0 (qV 1) (c0 (qV 2) (c0 Aw j0)))) j0)))))) (λex=>(A2 (l0 pU))))
   (A2 (l0 pU))),?_⟩
  symm;refine sW ?_;symm;intro f nf;obtain⟨H1,e1,f1,m1,_⟩:=b0 (o:= .dK []) nf;rw[e1];symm;refine⟨b5 (by simp),λst nst=>?_⟩;obtain⟨H2,e2,f2,m2,_⟩:=b0 (o:= .tup [.ref r,.ref m,.ref f]) nst;rw[e2];have V':=m1.trans m2;symm;refine⟨S,L,R,st,r,m,f,bl,[],bs,fx,rfl,hS.same V',⟨SqT.of f2,hR.same V',V' _ _ hm,m2 _ _ f1,V' _ _ Uu⟩,nb,nd,hl,hsz,l8,r8,λcan=>?_,λnc c hc H3 e s3 he=>?_⟩
  .intro a3 p3 q3 k3 W3 H3 m3 w3 hp3 hq3 ne3 np3 nq3 e31 e32;symm;exact k true H3 ⟨λ_=>can,λ_=>rfl⟩ (V'.trans m3)
  .refine⟨_,e,rfl,rfl,qc T hc,?_⟩;symm;exact k false _ ⟨λz=>(nomatch z),λz=>absurd z nc⟩ (V'.trans (E9 s3 (s3.free he)))
structure Ru where
 r:Addr
 bl:Addr
 L:Sd
 R:Sd
 bs:List Sd
structure RuA (K:Za) (H:Hp) (u:Ru):Prop where
 ru:RuleIs K H u.r u.bl u.L u.R u.bs
 b:H u.bl=some (.lst (u.bs.map λs=>V.ref s.a))
 x:RuX u.L.W u.R.W u.bs
def RuA.same {H H':Hp}{u:Ru}(h:RuA K H u)(s:Same H H'):RuA K H' u:=⟨h.ru.same s,s _ _ h.b,h.x⟩
structure ChA (K:Za) (H H':Hp) (W:p8) (us:List Ru) (v:V):Prop where
 ex:∃(t d:Addr) (i:Nat) (u:Ru) (fx:List (Str×Str)),v= .ref t/\SqT K H' t [.int i,.ref d]/\us[i]?=some u/\H d=none/\H' d=some (.dK (i8 fx))/\fx.map (·.1)=dJ u.L.W/\yk W u.L.W u.R.W fx u.bs
def Ar {H:Hp}{d a:Addr}{ys xs:List V}{u:HO}(h:H d=some (.lst ys))(s:SqT K H a xs):SqT K (upd H d u) a xs:=cM h s
def ChA.same {H H' H2:Hp}{W:p8}{us:List Ru}{v:V}(h:ChA K H H' W us v)(s:Same H' H2):ChA K H H2 W us v:=by
 obtain⟨t,d,i,u,fx,h1,h2,h3,h4,h5,h6⟩:=h.ex;exact⟨t,d,i,u,fx,h1,s.tup h2,h3,h4,s _ _ h5,h6⟩
def ChA.upd {H H':Hp}{W:p8}{us:List Ru}{v:V}{l:Addr}{ys:List V}{o:HO}(h:ChA K H H' W us v)(hl:H' l=some (.lst ys)):ChA K H (upd H' l o) W us v:=by
 obtain⟨t,d,i,u,fx,h1,h2,h3,h4,h5,h6⟩:=h.ex;exact⟨t,d,i,u,fx,h1,Ar hl h2,h3,h4,by rw[b7 (λz=>by rw[z,hl] at h5;cases h5)];exact h5,h6⟩
def qd {n:Nat}(h:n<=16000000):n<=sizeLine:=Mb h (by decide)
def zu {S L:p8}{row:List Str}(h:row∈B9 L S []):((dJ L).zip row).map (·.1)=dJ L:=List.map_fst_zip (by rw[rK h];exact LC _)
def ke (K:Za):Sp:=λvs H Q _=>∃(S:Sd) (us:List Ru) (lr:Addr),vs=[.ref S.a,.ref lr]/\SdIs K H S/\S.W.pts.length<=7/\S.W.ts.length<=6/\H lr=some (.lst (us.map λu=>V.ref u.r))/\us.length<=2/\(∀u∈us,RuA K H u)/\∀(l:Addr) (H':Hp) (xs:List V),Same H H'->H' l=some (.lst xs)->(∀x∈xs,ChA K H H' S.W us x)->Q (.ref l) H'
abbrev nI:=λP w K mg base=>K3 P w K mg base A9 12 "choices" ["web","rules"] [] (ke K)
def uJ {f fd}(T:Txt K mg)(aw:eT P w K mg base)(mW:K3 P w K mg base A9 7 "matches" ["piece","web","fixed"] [] (Y7 K))(bX:K3 P w K mg base A9 7 "matches" ["piece","web","fixed"] [.non] (Y7 K))(F:Fun K "choices" "choices" iu f fd):x8 P w K mg base A9 12 f fd ["web","rules"] (ke K):=by
 walk_at "#sc_choices"
 .obtain⟨S,us,lr,rfl,_⟩:=h;rfl
 .obtain⟨S,us,lr,rfl,hS,sp,st,hlr,Tj,P_,k⟩:=h;walk_at "@sc_choices 52U9yB~a71Eo3o4h%T-'0PySem.F.slot_list_extend '0PySem.F.type_list_extend '0jv 022mmatch;043;k3'0bX n4470d0match,web,rule,number;J+3'0aw 61e20re30802"
  symm;refine⟨b5 (by simp),λlt nlt=>?_⟩;obtain⟨H1,e1,f1,m1,_⟩:=b0 (o:= .lst []) nlt;rw[e1];symm;refine⟨_,rfl,.inl ⟨lr,_,rfl,SqL.of (m1 _ _ hlr),?_⟩⟩;refine iF (n:=us.length) (λi σ H'=>(∃u:Nat->Option V,σ=[some (.ref S.a),some (.ref lr),some (.ref lt),u 3,u 4])/\Same H H'/\∃xs:List V,H' lt=some (.lst xs)/\(∀x∈xs,ChA K H H' S.W us x)/\xs.length<=i*7000000) ⟨sg rfl,m1,[],f1,(λ_ h=>nomatch h),Nd _⟩ (λi σ H' hi hp=>⟨_,.ref (us[i]).r,SqL.of (hp.2.1 _ _ hlr),by rw[LF,LA hi];rfl⟩) ?_ ?_
  .rintro i v σ H2' H2 hi ⟨⟨u0,rfl⟩,s2,xs,g2,nw,Vo⟩ ⟨t,x,hx9,nt,rfl,rfl⟩ _ _;have C_:=hx9 _ (SqL.of (s2 _ _ hlr));rw[LF,LA hi] at C_;cases C_;obtain⟨H3,e3,f3,m3,_⟩:=b0 (o:= .tup _) nt;rw[e3];have s3:=s2.trans m3;have VE:=P_ _ (Mu hi);have hui:us[i]?=some us[i]:=LA hi;generalize us[i]=u at VE hui f3⊢;have U3:=VE.same s3;have S3:=hS.same s3;have h4:(b4 u.L.W).length<=4:=by
    rw[E4];have:=VE.x.lp;have:=VE.x.lt;lia
   refine N5 (SqT.of f3) rfl ?_;symm;refine⟨.inl ⟨rfl,_,SqL.of (m3 _ _ g2)⟩,?_⟩;symm;refine j4 U3.ru.tup (i9 (j:=0) rfl) ?_;symm;have big:((b4 u.L.W).length+1)*(max S.W.pts.length S.W.ts.length+1) ^ ((b4 u.L.W).filter (dR [])).length<=7000000:=by
    have f1:((b4 u.L.W).filter (dR [])).length<=4:=Mb (LQ _ _) h4;calc ((b4 u.L.W).length+1)*(max S.W.pts.length S.W.ts.length+1) ^ ((b4 u.L.W).filter (dR [])).length<=5*8 ^ 4:=Nat.mul_le_mul (by lia) (Mb (Sj (show max S.W.pts.length S.W.ts.length+1<=8 by lia) _) (RR (by decide) f1))
     _<=7000000:=by decide
   refine⟨u.L.a,u.L.p,u.L.q,S.a,S.p,S.q,u.L.kvs,S.kvs,u.L.W,S.W,rfl,⟨U3.ru.l,S3,big,Ov,λ_ h=>nomatch h⟩,λlm H4 ys nlm m4 f4 dc hrl nwy=>?_⟩;have s4:=s3.trans m4;replace dc:DcAt H4 (dJ u.L.W) ys (B9 u.L.W S.W []):=dc;have Ym:=Mj dc;refine k8 (SqL.of f4) ?_;refine j9 (n:=ys.length) (λj out H'=>Same H4 H'/\(∀x∈out,ChA K H H' S.W us x)/\out.length<=j) ⟨Same.refl _,(λ_ h=>nomatch h),LC _⟩ (λj out H' hj hp=>⟨_,ys[j],SqL.of (hp.1 _ _ f4),LA hj⟩) ?_ ?_
   .rintro N j v out H5' H5 hj ⟨s5,Yn,v_⟩ y hN';obtain⟨rfl,hxx⟩:=Itl.get y (SqL.of (s5 _ _ f4));rw[LA hj] at hxx;obtain⟨row,K',d,ed,hd⟩:=B5 dc (LA hj);have ev:v= .ref d:=by rw[←ed];exact(Mc hxx).symm
    subst ev;have hrm:=LV K';obtain⟨d',ed',nd'⟩:=nwy _ (Mu hj);have edd:d=d':=V.ref.inj (ed.symm.trans ed');subst edd;have VF:=m4.trans s5;have ks:=zu hrm;have pk:(((dJ u.L.W).zip row).map (·.1)).Perm (b4 u.L.W):=by rw[ks];exact(Q1 u.L.W).perm
    have nk:=pk.nodup_iff.mpr U3.ru.l.nd;have hzl:((dJ u.L.W).zip row).length<=100:=by
     have z:=pk.length_eq;rw[Lz] at z;lia
    symm;refine⟨rfl,?_⟩;symm;refine⟨S,u.L,u.R,u.r,d,u.bl,u.bs,(dJ u.L.W).zip row,rfl,S3.same VF,(U3.same VF).ru,(U3.same VF).b,s5 _ _ hd,⟨Mb VE.x.bl (by decide),λb hb=>⟨(d9 (U3.ru.bars b hb).hp nd').symm,(d9 (U3.ru.bars b hb).hq nd').symm,λ_ w1 w2=>Bc h4 nk pk (VE.x.bx b hb) w1 w2⟩⟩,nk,hzl,⟨by lia,by lia⟩,by lia,VE.x.rl,λb H6 hb m6=>?_⟩;have s6:=s5.trans m6;symm;refine Q0 (λht=>?_) (λhf=>?_)
    .symm;refine⟨b5 (by simp),λt6 nt6=>?_⟩;obtain⟨H7,e7,f7,m7,_⟩:=b0 (o:= .tup [.int (i:Int),.ref d]) nt6;rw[e7];refine⟨qd (by lia),hN' _ _ ⟨s6.trans m7,λx hx=>?_,?_⟩⟩
     .rcases LO.mp hx with z|z
      .exact(Yn x z).same (m6.trans m7)
      .exact⟨t6,d,i,u,_,Me.mp z,SqT.of f7,hui,s3.free nd',(s6.trans m7) _ _ hd,ks,hb.mp ht⟩
     .rw[LJ,Ml];lia
    .exact hN' _ _ ⟨s6,λx hx=>(Yn x hx).same m6,by lia⟩
   rintro out H5 ⟨s5,Yn,v_⟩;refine⟨⟨_,SqL.of (s5 _ _ f4),LC _⟩,λD hD=>⟨qd (by lia),?_⟩⟩;obtain⟨H6,e6,f6,m6,_⟩:=b0 (H:=H5) (o:= .lst out) hD;change uD _ (upd H5 D (.lst out)) _;rw[e6];have Uy:=m3.trans (m4.trans (s5.trans m6));have g6:=Uy _ _ g2;symm;refine⟨lt,D,xs,out,rfl,rfl,g6,f6,qd (by lia),?_⟩;walk_at "X";refine⟨sg rfl,E9 (s4.trans (s5.trans m6)) nlt,xs++out,d8,λx hx=>?_,?_⟩
   .rcases LO.mp hx with z|z
    .exact((nw x z).same Uy).upd g6
    .exact((Yn x z).same m6).upd g6
   .rw[LJ];lia
  rintro σ H2 ⟨⟨u0,rfl⟩,s2,xs,g2,nw,Vo⟩;refine⟨⟨_,SqL.of (s2 _ _ hlr),by rw[Lz];exact LC _⟩,?_⟩;symm;exact k lt H2 xs s2 g2 nw
def SdIs.ok {H:Hp}{S:Sd}{n:Nat}(h:SdIs K H S)(p:S.W.pts.length<=n)(t:S.W.ts.length<=n):WOk n S.W:=⟨h.nd,h.ends,h.nl,p,t⟩
def dG {H:Hp}{S:Sd}{Q:VK}{E:XK}(hS:SdIs K H S)(k:∀(D:Sd) (H':Hp),Same H H'->SdIs K H' D->H D.p=none->H D.q=none->WPm D.W S.W->Q (.ref D.a) H'):ix K [.ref S.a] H Q E:=by
 have hl:=hS.len;rw[E4] at hl;refine⟨S.a,S.p,S.q,S.kvs,S.W,rfl,hS.at_,D0 hS.nd,L9 hS.nd,by lia,by lia,λa p q kv W H1 m1 h1 hp hq ne np nq e1 e2=>?_⟩;have c:WPm W S.W:=⟨e1,e2⟩
 have o:=(hS.ok (n:=60) (by lia) (by lia)).pm c;exact k ⟨a,p,q,kv,W⟩ H1 m1 ⟨h1,hp,hq,ne,o.nd,by show(b4 W).length<=60;rw[c.nm.length_eq];exact hS.len,o.ends,o.nl⟩ np nq c
def cS (K:Za):Sp:=λvs H Q _=>∃(r bl:Addr) (L R:Sd) (bs:List Sd),vs=[.ref r]/\RuleIs K H r bl L R bs/\bs.length<=2/\∀(r' Yo:Addr) (L' R':Sd) (RW:List Sd) (H':Hp),Same H H'->RuleIs K H' r' Yo L' R' RW->H' Yo=some (.lst (RW.map λs=>V.ref s.a))->WPm L'.W L.W->WPm R'.W R.W->Paired (λs t:Sd=>WPm t.W s.W) bs RW->Q (.ref r') H'
abbrev eR:=λP w K mg base=>K3 P w K mg base A9 3 "rule_copied" ["rule"] [] (cS K)
def lL {f fd}(T:Txt K mg)(B8:aV P w K mg base)(F:Fun K "rule_copied" "rule_copied" aH f fd):x8 P w K mg base A9 3 f fd ["rule"] (cS K):=by
 walk_at "#sc_rule_copied"
 .obtain⟨r,bl,L,R,bs,rfl,_⟩:=h;rfl
 .obtain⟨r,bl,L,R,bs,rfl,hR,Rn,k⟩:=h;walk_at "@sc_rule_copied 8rn3@240i3@240mbar;;k40d0bar;t3@70";symm;refine j4 hR.tup (i9 (j:=0) rfl) ?_;symm;refine dG hR.l λL' H1 m1 hL _ _ cL=>?_;symm;refine j4 (m1.tup hR.tup) (i9 (j:=1) rfl) ?_;symm;refine dG (hR.same m1).r λR' H2 m2 hR' _ _ cR=>?_;have s_:=m1.trans m2;symm;refine j4 (s_.tup hR.tup) (i9 (j:=2) rfl) ?_;refine k8 (s_.seq hR.bl) ?_;refine j9 (n:=bs.length) (λi out H'=>Same H2 H'/\∃ds:List Sd,out=ds.map (λs=>V.ref s.a)/\(∀d∈ds,SdIs K H' d)/\Paired (λs t:Sd=>WPm t.W s.W) (bs.take i) ds) ⟨Same.refl _,[],rfl,(λ_ h=>nomatch h),.nil⟩ (λi out H' hi hp=>⟨_,.ref (bs[i]).a,(s_.trans hp.1).seq hR.bl,by rw[LF,LA hi];rfl⟩) ?_ ?_
  .rintro N i v out H3' H3 hi ⟨s3,ds,rfl,hd,pr⟩ y hN';obtain⟨rfl,hx⟩:=Itl.get y ((s_.trans s3).seq hR.bl);rw[LF,LA hi] at hx;cases hx;have v_:=Mj pr;rw[LM] at v_;symm;refine⟨rfl,?_⟩;symm;refine dG ((hR.bars _ (Mu hi)).same (s_.trans s3)) λD H4 m4 hD _ _ cD=>?_;refine⟨b5 (by rw[Lz];lia),hN' _ _ ⟨s3.trans m4,ds++[D],by rw[LK];rfl,λd z=>?_,?_⟩⟩
   .rcases LO.mp z with z|z
    .exact(hd d z).same m4
    .rw[Me.mp z];exact hD
   .rw[Mt,LA hi];exact w4 pr cD
  rintro out H3 ⟨s3,ds,rfl,hd,pr⟩;rw[LN (LC _)] at pr;have v_:=Mj pr;refine⟨⟨_,(s_.trans s3).seq hR.bl,by rw[Lz];exact LC _⟩,λl4 n4=>⟨b5 (by rw[Lz];lia),?_⟩⟩;obtain⟨H4,e4,f4,m4,_⟩:=b0 (H:=H3) (o:= .lst (ds.map λs=>V.ref s.a)) n4;change uD _ (upd H3 l4 (.lst (ds.map λs=>V.ref s.a))) _;rw[e4];symm;refine⟨b5 (by simp),λl5 n5=>?_⟩;obtain⟨H5,e5,f5,m5,_⟩:=b0 (o:= .tup _) n5;rw[e5];have m45:=m4.trans m5;have VF:=s3.trans m45;exact k l5 l4 L' R' ds H5 (s_.trans VF) ⟨SqT.of f5,hL.same (m2.trans VF),hR'.same VF,SqL.of (m5 _ _ f4),λb hb=>(hd b hb).same m45⟩ (m5 _ _ f4) cL cR pr
def mV {fx:List (Str×Str)}{ks:List Str}(nk:(fx.map (·.1)).Nodup)(p:ks.Perm (fx.map (·.1))):(ks.map λn=>(n,g0 (i8 fx) n)).Perm fx:=by
 refine(p.map _).trans ?_;rw[Mo,MX (g:=id) λx hx=>?_,List.map_id];show(x.1,g0 (i8 fx) x.1)=x;rw[G3 nk (show(x.1,x.2)∈fx from hx)]
def RuX.cp {L R L' R':p8}{bs RW:List Sd}(h:RuX L R bs)(l:WPm L' L)(r:WPm R' R)(b:Paired (λs t:Sd=>WPm t.W s.W) bs RW):RuX L' R' RW:=by
 obtain⟨a,ha,la⟩:=h.np;obtain⟨c,hc,lc⟩:=h.nt;refine⟨by rw[l.p.length_eq];exact h.lp,by rw[l.t.length_eq];exact h.lt,λn h1 h2=>?_,by rw[r.nm.length_eq];exact h.rl,⟨a,λn h1 h2=>ha n ((r.p.map _).mem_iff.mp h1) λz=>h2 (l.nm.mem_iff.mpr z),la⟩,⟨c,λn h1 h2=>hc n ((r.t.map _).mem_iff.mp h1) λz=>h2 (l.nm.mem_iff.mpr z),lc⟩,λn hn=>h.kd n (r.nm.mem_iff.mp hn),by rw[←Mj b];exact h.bl,λd hd=>?_⟩
 .have z:=h.ag n (l.nm.mem_iff.mp h1) (r.nm.mem_iff.mp h2);exact⟨λk=>by rw[l.p.mem_iff,r.p.mem_iff];exact z.p k,λt=>by rw[l.t.mem_iff,r.t.mem_iff];exact z.t t⟩
 .obtain⟨j,hj⟩:=Nw hd;obtain⟨s,hs,z⟩:=ja b hj;obtain⟨A,pm,lA⟩:=h.bx s (LV hs);exact⟨A,z.nm.trans (pm.trans (l.nm.symm.append_right A)),lA⟩
def FrOk.cp {W L R L' R':p8}{fr V_:List (Str×Str)}(h:FrOk W L R fr)(l:WPm L' L)(r:WPm R' R)(f:V_.Perm fr):FrOk W L' R' V_:=by
 refine⟨(f.map _).trans (h.ks.trans ?_),λx hx=>h.nm x (f.mem_iff.mp hx),(f.map _).nodup_iff.mpr h.nd,λx hx=>h.no x (f.mem_iff.mp hx),by rw[f.length_eq];exact h.len⟩;rw[OK (q:=λn=>!decide (n∈b4 L')) λn _=>by rw[My];simp only[MI,MC,l.nm.mem_iff]];exact r.nm.symm.filter _
def cT (K:Za):Sp:=λvs H Q _=>∃X:StX,vs=[.ref X.st]/\StA K H X/\∀(Y:StX) (H':Hp),Same H H'->StA K H' Y->Cp X Y->Q (.ref Y.st) H'
abbrev dY:=λP w K mg base=>K3 P w K mg base A9 4 "step_copied" ["step"] [] (cT K)
def lU {f fd}(T:Txt K mg)(P9:jX P w K mg base)(F9:bp P w K mg base)(p7:M8 P w K mg base)(aA:eR P w K mg base)(F:Fun K "step_copied" "step_copied" aB f fd):x8 P w K mg base A9 4 f fd ["step"] (cT K):=by
 walk_at "#sc_step_copied"
 .obtain⟨X,rfl,_⟩:=h;rfl
 .obtain⟨X,rfl,hX,k⟩:=h;have hT:=hX.i;have hl4:=hX.l4;have hr8:=hX.x.rl;walk_at "@sc_step_copied 51408rn3'0aA 71i3~ci403)2413~ci403'0F9 71"
  symm;refine j4 hT.tup (i9 (j:=0) rfl) ?_;symm;refine⟨X.r,X.bl,X.L,X.R,X.bs,rfl,hT.r,hX.x.bl,λr' Yo L' R' RW H1 m1 R1 B1 cL cR cb=>?_⟩;have T1:=hT.same m1;symm;refine j4 T1.tup (i9 (j:=1) rfl) ?_;symm;refine j4 T1.r.tup (i9 (j:=0) rfl) ?_;symm;refine⟨X.L.a,X.L.p,X.L.q,X.L.kvs,X.L.W,rfl,T1.r.l.at_,by lia,λl2 H2 s1 s2 _ m2 f2 o2=>?_⟩;have T2:=T1.same m2;have pk:(s1++s2).Perm (X.fx.map (·.1)):=o2.perm.trans hX.pk.symm;have pl:=o2.len;symm;refine⟨X.m,l2,_,_,rfl,.inl T2.m,SqL.of f2,pk.nodup_iff.mpr hX.nk,by lia,λn hn=>(P0 hX.nk (fT hX.nk (pk.mem_iff.mp hn))).1,λm' H3 Ux m3 f3=>?_⟩;have T3:=T2.same m3;have cm:=mV hX.nk pk;generalize ((s1++s2).map λn=>(n,g0 (i8 X.fx) n))=Yh at f3 cm;symm;refine j4 T3.tup (i9 (j:=2) rfl) ?_;symm;refine⟨X.r,X.bl,X.L,X.R,X.bs,rfl,T3.r,λl4 H4 u1 u2 _ m4 o4 f4=>?_⟩;have T4:=T3.same m4;have fk:((u1++u2).filter λn=>!decide (n∈b4 X.L.W)).Perm (X.fr.map (·.1)):=(o4.perm.filter _).trans hX.fo.ks.symm;generalize (u1++u2).filter (λn=>!decide (n∈b4 X.L.W))=us at f4 fk;have nf:=hX.fo.nd1 hT.r.r.nd;have ul:=fk.length_eq;have r_:=hX.fo.len;rw[Lz] at ul;symm;refine⟨X.f,l4,_,_,rfl,.inl T4.f,SqL.of f4,fk.nodup_iff.mpr nf,by lia,λn hn=>(P0 nf (fT nf (fk.mem_iff.mp hn))).1,λf' H5 _ m5 f5=>?_⟩;have cf:=mV nf fk;generalize (us.map λn=>(n,g0 (i8 X.fr) n))=V_ at f5 cf;symm;refine⟨b5 (by simp),λt nt=>?_⟩;obtain⟨H6,e6,f6,m6,_⟩:=b0 (o:= .tup _) nt;rw[e6];have Xm:=m4.trans (m5.trans m6);have Uc:=m2.trans (m3.trans Xm);refine k ⟨t,r',m',f',Yo,L',R',Yh,V_,RW⟩ H6 (m1.trans Uc) ⟨⟨SqT.of f6,R1.same Uc,Xm _ _ f3,m6 _ _ f5,Uc _ _ B1⟩,hX.x.cp cL cR cb,λb hb=>⟨?_,?_⟩,(cm.map _).nodup_iff.mpr hX.nk,(cm.map _).trans (hX.pk.trans cL.nm.symm),hX.fo.cp cL cR cf⟩ ⟨cL,cR,cb,cm,cf⟩
  .exact(d9 (m2 _ _ (R1.bars b hb).hp) Ux).symm
  .exact(d9 (m2 _ _ (R1.bars b hb).hq) Ux).symm
abbrev sts (ys:List StX):List V:=ys.map λy=>V.ref y.st
abbrev sI (ds:List Sd):List V:=ds.map λd=>V.ref d.a
def eo (K:Za):Sp:=λvs H Q _=>∃(lr:Addr) (ys:List StX),vs=[.ref lr]/\SqL K H lr (sts ys)/\ys.length<=14/\(∀y∈ys,StA K H y)/\∀(l:Addr) (zs:List StX) (H':Hp),Same H H'->H' l=some (.lst (sts zs))->(∀z∈zs,StA K H' z)->Paired Cp ys zs->Q (.ref l) H'
abbrev fS:=λP w K mg base=>K3 P w K mg base A9 5 "row_copied" ["row"] [] (eo K)
def mf {f fd}(T:Txt K mg)(az:dY P w K mg base)(F:Fun K "row_copied" "row_copied" bt f fd):x8 P w K mg base A9 5 f fd ["row"] (eo K):=by
 walk_at "#sc_row_copied"
 .obtain⟨lr,ys,rfl,_⟩:=h;rfl
 .obtain⟨lr,ys,rfl,hR,hl,hy,k⟩:=h;walk_at "@sc_row_copied 8mstep;;k00d0step;t3'0az 70";symm;refine k8 hR ?_;refine j9 (n:=ys.length) (λi out H'=>Same H H'/\∃zs:List StX,out=sts zs/\(∀z∈zs,StA K H' z)/\Paired Cp (ys.take i) zs) ⟨Same.refl _,[],rfl,(λ_ h=>nomatch h),.nil⟩ (λi out H' hi hp=>⟨_,.ref (ys[i]).st,hp.1.seq hR,by rw[LF,LA hi];rfl⟩) ?_ ?_
  .rintro N i v out H3' H3 hi ⟨s3,zs,rfl,hz,pr⟩ y hN';obtain⟨rfl,hx⟩:=Itl.get y (s3.seq hR);rw[LF,LA hi] at hx;cases hx;have v_:=Mj pr;rw[LM] at v_;symm;refine⟨rfl,?_⟩;symm;refine⟨ys[i],rfl,(hy _ (Mu hi)).same s3,λY H4 m4 hY cY=>?_⟩;refine⟨b5 (by rw[Lz];lia),hN' _ _ ⟨s3.trans m4,zs++[Y],by unfold sts;rw[LK];rfl,λd z=>?_,?_⟩⟩
   .rcases LO.mp z with z|z
    .exact(hz d z).same m4
    .rw[Me.mp z];exact hY
   .rw[Mt,LA hi];exact w4 pr cY
  rintro out H3 ⟨s3,zs,rfl,hz,pr⟩;rw[LN (LC _)] at pr;have v_:=Mj pr;refine⟨⟨_,s3.seq hR,by rw[Lz];exact LC _⟩,λl4 n4=>⟨b5 (by rw[Lz];lia),?_⟩⟩;obtain⟨H4,e4,f4,m4,_⟩:=b0 (H:=H3) (o:= .lst (sts zs)) n4;change Q (.ref l4) (upd H3 l4 (.lst (sts zs)));rw[e4];exact k l4 zs H4 (s3.trans m4) f4 (λz h=>(hz z h).same m4) pr
def Gu {W:p8}{ys:List StX}{i:Nat}{X:StX}(h:ys[i]?=some X):(Gok W (ys.take (i+1))↔Gok W (ys.take i)/\X.can (wk W (ys.take i)))/\wk W (ys.take (i+1))=X.go (wk W (ys.take i)):=by
 have e:ys.take (i+1)=ys.take i++[X]:=by rw[Mt,h];rfl
 rw[e,gok_app,oS];exact⟨⟨λz=>⟨z.1,z.2.1⟩,λz=>⟨z.1,z.2,trivial⟩⟩,rfl⟩
def tq {W:p8}{ys:List StX}(i:Nat)(g:Gok W ys):Gok W (ys.take i):=by
 rw[←RI i ys] at g;exact(gok_app.mp g).1
def we {α:Type}{ds:List α}{e:α}{j:Nat}{d:α}(h:(ds++[e])[j]?=some d):ds[j]?=some d\/(j=ds.length/\d=e):=by
 by_cases hj:j<ds.length
 .rw[MF hj] at h;exact .inl h
 .rw[MH (by lia)] at h;have z:j -ds.length=0:=NY λz=>by
   rw[MR (by simp;lia)] at h;cases h
  rw[z] at h;cases h;exact .inr ⟨by lia,rfl⟩
def V4 (K:Za):Sp:=λvs H Q E=>∃(S:Sd) (lr:Addr) (ys:List StX) (n:Nat),vs=[.ref S.a,.ref lr]/\SdIs K H S/\WOk n S.W/\n+2*ys.length<=28/\SqL K H lr (sts ys)/\(∀y∈ys,StA K H y)/\
 (Gok S.W ys->∀(l:Addr) (ds:List Sd) (H':Hp),Same H H'->H' l=some (.lst (sI ds))->ds.length=ys.length+1->(∀(i:Nat) (d:Sd),ds[i]?=some d->SdIs K H' d/\WPm d.W (wk S.W (ys.take i)))->Q (.ref l) H')/\(¬Gok S.W ys->∀c∈wB,∀H' e,Same H H'->H' e=none->E (.ref (cA K c)) (some e) H')
abbrev F2:=λP w K mg base=>K3 P w K mg base (ic P w) 12 "gone_through" ["web","row"] [] (V4 K)
def jl {f fd}(T:Txt K mg)(B8:aV P w K mg base)(R9:kc P w K mg base)(F:Fun K "gone_through" "gone_through" X9 f fd):x8 P w K mg base (ic P w) 12 f fd ["web","row"] (V4 K):=by
 refine F.okE sc_gone_through (λvs H Q E h=>?_) (λc_ A outer s H vs Q E hr h=>?_)
 .obtain⟨S,lr,ys,n,rfl,_⟩:=h;rfl
 .obtain⟨S,lr,ys,n,rfl,hS,o,hl,hR,hy,k,kE⟩:=h;walk_at "@sc_gone_through 52.23@709y'0QM k01o3h%T-~3~2~1022A~mRnb2~n73802"
  symm;refine dG hS λD1 H1 m1 C1 _ _ c1=>?_;symm;refine⟨b5 (by simp),λl nl=>?_⟩;obtain⟨H2,e3,f2,m2,_⟩:=b0 (o:= .lst [.ref D1.a]) nl;rw[e3];symm;refine k8 ((m1.trans m2).seq hR) ?_;refine iF (n:=ys.length) (λi σ H'=>(∃u:Nat->Option V,σ=[some (.ref S.a),some (.ref lr),some (.ref l),u 3])/\Same H1 H'/\Gok S.W (ys.take i)/\∃(ds:List Sd) (d:Sd),H' l=some (.lst (sI ds++[.ref d.a]))/\ds.length=i/\∀(j:Nat) (c:Sd),(ds++[d])[j]?=some c->SdIs K H' c/\WPm c.W (wk S.W (ys.take j)))
   ⟨sg rfl,m2,trivial,[],D1,f2,rfl,λj c hc=>by
    rcases we hc with z|⟨rfl,rfl⟩
    .cases z
    .exact⟨C1.same m2,c1⟩⟩ (λi σ H' hi hp=>⟨_,.ref (ys[i]).st,(m1.trans hp.2.1).seq hR,by rw[LF,LA hi];rfl⟩) ?_ ?_
  .rintro i v σ H3' H3 hi ⟨⟨u,rfl⟩,s3,gi,ds,d,f3,Sr,O'⟩ y _ _;obtain⟨rfl,hx⟩:=Itl.get y ((m1.trans s3).seq hR);rw[LF,LA hi] at hx;cases hx;have s03:=m1.trans s3;have hA:=hy _ (Mu hi);have VS:=Gu (W:=S.W) (LA hi);have l_:Gok S.W ys->Gok S.W (ys.take (i+1)):=tq _;obtain⟨WH,Yp⟩:=O' i d (by rw[←Sr];simp);have oV:=wj (λy h=>hy y (MW h)) o gi;rw[LM,Nat.min_eq_left (OU hi)] at oV;have oD:=oV.pm Yp;symm;refine⟨.inl ⟨rfl,_,SqL.of f3⟩,?_⟩;symm;refine j5 (SqL.of f3) (L2.atI_last _ _) ?_;symm;have cr:=Cp.rf ys[i];refine gN WH (hA.same s03) oD (by lia) (λcan D H4 m4 hD _ _ _ B _=>?_) (λnc c hc H4 e s4 he=>?_)
   .have cV:=cr.can hA hA Yp.sy can;have sV:Stp K H _ ys[i]:=⟨hA,cV⟩
    have wD:=cr.beh hA hA Yp (sV.goes oV.nd) B;have f4:=m4 _ _ f3;refine⟨l,_,_,rfl,rfl,f4,?_,?_⟩
    .rw[LJ,Lz];exact Oz (show ds.length+1<=15 by lia) (by decide)
    symm;walk_at "X";refine⟨sg rfl,E9 (s3.trans m4) nl,VS.1.mpr ⟨gi,cV⟩,ds++[d],D,by rw[d8,show sI (ds++[d])=sI ds++[.ref d.a] by show List.map _ _=_;rw[LK];rfl],by rw[LJ,Sr];rfl,λj c hc=>?_⟩;rcases we hc with z|⟨rfl,rfl⟩
    .exact⟨ak f4 ((O' j c z).1.same m4),(O' j c z).2⟩
    .rw[LJ,Sr];exact⟨ak f4 hD,by rw[show i+[d].length=i+1 from rfl,VS.2];exact wD⟩
   .exact kE (λg=>nc (cr.can hA hA Yp (VS.1.mp (l_ g)).2)) c hc H4 e (s03.trans s4) he
  .rintro σ H3 ⟨⟨u,rfl⟩,s3,gi,ds,d,f3,Sr,O'⟩;refine⟨⟨_,(m1.trans s3).seq hR,by rw[Lz];exact LC _⟩,?_⟩;rw[LN (LC _)] at gi;symm;exact k gi l (ds++[d]) H3 (m1.trans s3) (by rw[f3,show sI (ds++[d])=sI ds++[.ref d.a] by show List.map _ _=_;rw[LK];rfl]) (by rw[LJ,Sr];rfl) O'
def P5 (K:Za):Sp:=λvs H Q _=>∃(S:Sd) (lr:Addr) (ys:List StX) (n:Nat),vs=[.ref S.a,.ref lr]/\SdIs K H S/\WOk n S.W/\n+2*ys.length<=28/\SqL K H lr (sts ys)/\(∀y∈ys,StA K H y)/\∀(b:Bool) (H':Hp),(b=true↔Gok S.W ys)->Same H H'->Q (.bl b) H'
abbrev Q5:=λP w K mg base=>K3 P w K mg base A9 13 "can_be_gone_through" ["web","row"] [] (P5 K)
def bO {f fd}(T:Txt K mg)(j6:F2 P w K mg base)(F:Fun K "can_be_gone_through" "can_be_gone_through" G8 f fd):x8 P w K mg base A9 13 f fd ["web","row"] (P5 K):=by
 walk_at "#sc_can_be_gone_through"
 .obtain⟨S,lr,ys,n,rfl,_⟩:=h;rfl
 .obtain⟨S,lr,ys,n,rfl,hS,o,hl,hR,hy,k⟩:=h;have hN:=sc_can_be_gone_through.nd;have hu:=k7 hr;refine⟨_,QSs.r (x9 (zG T.t_GlueError (λpins Es=>(A2 (wC (Ku j6 (hr.mono (by decide)) (c0 (qV 0) (c0 (qV 1) j0)))))) (λex=>(A2 (l0 pU))))
   (A2 (l0 pU))),?_⟩
  symm;refine sW ?_;symm;refine⟨S,lr,ys,n,rfl,hS,o,hl,hR,hy,λg l ds H1 m1 _ _ _=>?_,λng c hc H1 e s1 he=>?_⟩
  .symm;exact k true H1 ⟨λ_=>g,λ_=>rfl⟩ m1
  .refine⟨_,e,rfl,rfl,qc T hc,?_⟩;symm;exact k false _ ⟨λz=>(nomatch z),λz=>absurd z ng⟩ (E9 s1 (s1.free he))
def Bv (a b:List StX)(X Y:StX):(sts (a++X::Y::b)).take a.length++[.ref Y.st,.ref X.st]++(sts (a++X::Y::b)).drop (a.length+2)=sts (a++Y::X::b):=by
 have e:sts (a++X::Y::b)=sts a++ .ref X.st:: .ref Y.st::sts b:=LK;rw[e,List.take_left' (by rw[Lz]),←List.drop_drop,List.drop_left' (by rw[Lz])];show sts a++[_,_]++sts b=List.map _ _;rw[Mv,LK];rfl
def AA {xs:List V}{i:Int}{j:Nat}{v:V}(e:i=(j:Int))(h:xs[j]?=some v):mO xs i=some v:=by rw[e];exact i9 h
def vQ (a b:List StX)(X Y:StX):(sts (a++X::Y::b))[a.length]?=some (.ref X.st):=by
 rw[show sts (a++X::Y::b)=sts a++ .ref X.st:: .ref Y.st::sts b from LK,MH (by rw[Lz];exact LC _),Lz,Nat.sub_self];rfl
def qN (a b:List StX)(X Y:StX):(sts (a++X::Y::b))[a.length+1]?=some (.ref Y.st):=by
 rw[show sts (a++X::Y::b)=sts a++ .ref X.st:: .ref Y.st::sts b from LK,MH (by rw[Lz];lia),Lz,Nat.add_sub_cancel_left];rfl
def Ek {ds:List Sd}{j:Nat}(h:j<ds.length):(sI ds)[j]?=some (.ref (ds[j]).a):=by rw[LF,LA h];rfl
structure RowI (K:Za) (H:Hp) (S:Sd) (lr:Addr) (a b:List StX) (X Y:StX):Prop where
 s:SdIs K H S
 o:WOk 6 S.W
 l:(a++X::Y::b).length<=11
 r:H lr=some (.lst (sts (a++X::Y::b)))
 y:∀y∈a++X::Y::b,StA K H y
 g:Gok S.W (a++X::Y::b)
section
variable {H H':Hp} {S:Sd} {lr:Addr} {a b:List StX} {X Y:StX}
def RowI.same (h:RowI K H S lr a b X Y)(s:Same H H'):RowI K H' S lr a b X Y:=⟨h.s.same s,h.o,h.l,s _ _ h.r,λy z=>(h.y y z).same s,h.g⟩
def RowI.ln (h:RowI K H S lr a b X Y):a.length+b.length+2<=11:=by
 have:=h.l;rw[LJ,Mi,Mi] at this;lia
def RowI.hX (h:RowI K H S lr a b X Y):StA K H X:=h.y X (by simp)
def RowI.hY (h:RowI K H S lr a b X Y):StA K H Y:=h.y Y (by simp)
def RowI.oV (h:RowI K H S lr a b X Y):WOk (6+2*a.length) (wk S.W a):=wj (λy z=>h.y y (LH _ z)) h.o (gok_app.mp h.g).1
def RowI.gV (h:RowI K H S lr a b X Y):X.can (wk S.W a)/\Y.can (X.go (wk S.W a)):=⟨(gok_app.mp h.g).2.1,(gok_app.mp h.g).2.2.1⟩
def jF {Q:VK}{E:XK}(h:RowI K H S lr a b X Y)(k:∀(l:Addr) (ds:List Sd) (d:Sd) (H':Hp),Same H H'->H' l=some (.lst (sI ds))->ds.length=(a++X::Y::b).length+1->(∀(i:Nat) (d:Sd),ds[i]?=some d->SdIs K H' d/\WPm d.W (wk S.W ((a++X::Y::b).take i)))->(sI ds)[a.length]?=some (.ref d.a)->SdIs K H' d->WPm d.W (wk S.W a)->Q (.ref l) H'):V4 K [.ref S.a,.ref lr] H Q E:=by
 have hl:=h.l;have ln:=h.ln;refine⟨S,lr,_,6,rfl,h.s,h.o,by lia,SqL.of h.r,h.y,λ_ l ds H' s f e hd=>?_,λz=>absurd h.g z⟩;have hj:a.length<ds.length:=by rw[e,LJ];lia
 have z:=hd a.length _ (LA hj);rw[List.take_left' rfl] at z;exact k l ds ds[a.length] H' s f e hd (Ek hj) z.1 z.2
end
def aj (K:Za):Sp:=λvs H Q _=>∃(S:Sd) (lr:Addr) (a b:List StX) (X Y:StX),vs=[.ref S.a,.ref lr,.int a.length]/\RowI K H S lr a b X Y/\(¬Gok (wk S.W a) [Y,X]->∀H',Same H H'->Q .non H')/\(Gok (wk S.W a) [Y,X]->∀(l:Addr) (zs:List StX) (H':Hp),Same H H'->H' l=some (.lst (sts zs))->(∀z∈zs,StA K H' z)->Paired Cp (a++Y::X::b) zs->Q (.ref l) H')
abbrev Q9:=λP w K mg base=>K3 P w K mg base (ic P w) 14 "changed_places" ["web","row","k"] [] (aj K)
def fO {f fd}(T:Txt K mg)(j6:F2 P w K mg base)(G9:Q5 P w K mg base)(bu:fS P w K mg base)(F:Fun K "changed_places" "changed_places" R4 f fd):x8 P w K mg base (ic P w) 14 f fd ["web","row","k"] (aj K):=by
 refine F.okE sc_changed_places (λvs H Q E h=>?_) (λc_ A outer s H vs Q E hr h=>?_)
 .obtain⟨S,lr,a,b,X,Y,rfl,_⟩:=h;rfl
 .obtain⟨S,lr,a,b,X,Y,rfl,h,kn,ky⟩:=h;have ln:=h.ln;walk_at "@sc_changed_places 53A~4Re0154.ib1a021b1029uN3'0G9 nb302748P83'0bu 2aap01xj0204p01ja021x"
  symm;refine jF h λl1 ds d H1 m1 f1 _ _ h1 hd wd=>?_;have I1:=h.same m1;symm;refine j5 (SqL.of I1.r) (AA (j:=a.length+1) rfl (qN a b X Y)) ?_;symm;refine j5 (SqL.of I1.r) (i9 (vQ a b X Y)) ?_;symm;refine⟨b5 (by simp),λl2 n2=>?_⟩;obtain⟨H2,e2,f2,m2,_⟩:=b0 (o:= .lst [.ref Y.st,.ref X.st]) n2;rw[e2];have I2:=I1.same m2;symm;refine j5 (SqL.of (m2 _ _ f1)) (i9 h1) ?_;symm;have two:∀{H:Hp},RowI K H S lr a b X Y->∀y∈[Y,X],StA K H y:=λI y hy=>by
   rcases Mr.mp hy with rfl|z
   .exact I.hY
   .rw[Me.mp z];exact I.hX
  refine⟨d,l2,[Y,X],6+2*a.length,rfl,hd.same m2,h.oV.pm wd,by show _+2*2<=28;lia,SqL.of f2,two I2,λt H3 ht m3=>?_⟩;have Ud:=m2.trans m3;have I3:=I2.same m3;have iff:Gok d.W [Y,X]↔Gok (wk S.W a) [Y,X]:=⟨λg=>(Gok.cp (oF _) (two I3) (two I3) (h.oV.pm wd) wd.sy g).1,λg=>(Gok.cp (oF _) (two I3) (two I3) h.oV wd g).1⟩
  by_cases g:Gok (wk S.W a) [Y,X];case neg=>
   rw[show t=false from QN.mpr λz=>g (iff.mp (ht.mp z))]
   symm
   exact kn g H3 (m1.trans Ud)
  rw[ht.mpr (iff.mpr g)];symm;refine A8 (SqL.of I3.r) (λl4 n4=>?_);obtain⟨H4,e4,f4,m4,_⟩:=b0 (o:= .lst _) n4;rw[e4];rw[ir] at f4;symm;refine eh f4 ((m3.trans m4) _ _ f2) (b5 (by rw[LM,Lz,LJ];show min _ _+2<=1000;lia)) (λl5 n5=>?_);obtain⟨H5,e5,f5,m5,_⟩:=b0 (o:= .lst _) n5;rw[e5];have m35:=m4.trans m5;symm;refine A8 (SqL.of (m35 _ _ I3.r)) (λl6 n6=>?_);obtain⟨H6,e6,f6,m6,_⟩:=b0 (o:= .lst _) n6;rw[e6];rw[show((a.length:Int)+2)=((a.length+2:Nat):Int) from rfl,dj] at f6;refine eh (m6 _ _ f5) f6 (b5 (by rw[LJ,LM,MY,Lz,LJ,Mi,Mi];show min _ _+2+_<=1000;lia)) (λl7 n7=>?_);rw[Bv];obtain⟨H7,e7,f7,m7,_⟩:=b0 (o:= .lst _) n7;rw[e7];have m37:=m35.trans (m6.trans m7);symm;refine⟨l7,_,rfl,SqL.of f7,by rw[LJ,Mi,Mi];lia,λy hy=>(I3.y y ?_).same m37,λl8 zs H8 m8 f8 hz c=>ky g l8 zs H8 (m1.trans (Ud.trans (m37.trans m8))) f8 hz c⟩;simp only[LO,Mr] at hy⊢;rcases hy with z|z|z|z
  .exact .inl z
  .exact .inr (.inr (.inl z))
  .exact .inr (.inl z)
  .exact .inr (.inr (.inr z))
def iV (K:Za):Sp:=λvs H Q _=>∃(S:Sd) (X:StX) (n:Nat),vs=[.ref S.a,.ref X.st]/\SdIs K H S/\WOk n S.W/\n<=28/\StA K H X/\∀(b:Bool) (H':Hp),(b=true↔X.can S.W)->Same H H'->Q (.bl b) H'
abbrev ku:=λP w K mg base=>K3 P w K mg base A9 12 "_law_can" ["_law_web_here","_law_step_here"] [] (iV K)
def sG {f fd}(T:Txt K mg)(R9:kc P w K mg base)(F:Fun K "_law_can" "_law_can" eW f fd):x8 P w K mg base A9 12 f fd ["_law_web_here","_law_step_here"] (iV K):=by
 walk_at "#sc__law_can"
 .obtain⟨S,X,n,rfl,_⟩:=h;rfl
 .obtain⟨S,X,n,rfl,hS,o,hn,hX,k⟩:=h;have hN:=sc__law_can.nd;have hu:=k7 hr;refine⟨_,QSs.r (x9 (j8 (i:=2) hN rfl (by walk_at "l") pU)
   (x9 (zG T.t_GlueError (λpins Es=>(A2 (wC (Ku R9 (hr.mono (by decide)) (c0 (qV 0) (c0 (qV 1) j0)))))) (λex=>(A2 (j8 (i:=2) hN rfl (by walk_at "l") pU))))
   (A2 (l0 (qV 2))))),?_⟩
  symm;refine sW ?_;symm;refine gN hS hX o hn (λcan D H1 m1 _ _ _ _ _ _=>?_) (λnc c hc H1 e s1 he=>?_)
  .symm;exact k true H1 ⟨λ_=>can,λ_=>rfl⟩ m1
  .refine⟨_,e,rfl,rfl,qc T hc,?_⟩;symm;exact k false _ ⟨λz=>(nomatch z),λz=>absurd z nc⟩ (E9 s1 (s1.free he))
def fZ (K:Za):Sp:=λvs H Q _=>∃(S:Sd) (lr:Addr) (a b:List StX) (X Y:StX),vs=[.ref S.a,.ref lr,.int a.length]/\RowI K H S lr a b X Y/\¬Gok (wk S.W a) [Y,X]/\∀H',Same H H'->Q (.bl true) H'
abbrev ji:=λP w K mg base=>K3 P w K mg base (ic P w) 13 "_law_kept" ["_law_web_here","_law_row_here","_law_k"] [] (fZ K)
def oC {f fd}(T:Txt K mg)(j6:F2 P w K mg base)(fJ:ku P w K mg base)(dH:ow P w K mg base)(F:Fun K "_law_kept" "_law_kept" dv f fd):x8 P w K mg base (ic P w) 13 f fd ["_law_web_here","_law_row_here","_law_k"] (fZ K):=by
 refine F.okE sc__law_kept (λvs H Q E h=>?_) (λc_ A outer s H vs Q E hr h=>?_)
 .obtain⟨S,lr,a,b,X,Y,rfl,_⟩:=h;rfl
 .obtain⟨S,lr,a,b,X,Y,rfl,h,ng,k⟩:=h;have ln:=h.ln;walk_at "@sc__law_kept 53A~4Re019LN3'0fJ ib302b1a0218C~9A'0dH Rnb302ib102b1a021Pf"
  symm;refine jF h λl1 ds d H1 m1 f1 _ _ h1 hd wd=>?_;have I1:=h.same m1;symm;refine j5 (SqL.of f1) (i9 h1) ?_;symm;refine j5 (SqL.of I1.r) (AA (j:=a.length+1) rfl (qN a b X Y)) ?_;symm;have oD:=h.oV.pm wd;refine⟨d,Y,_,rfl,hd,oD,by lia,I1.hY,λt H2 ht m2=>?_⟩;have I2:=I1.same m2;have s_:=m1.trans m2;by_cases c:Y.can d.W;case neg=>
   rw[show t=false from QN.mpr λz=>c (ht.mp z)]
   symm
   exact k H2 s_
  rw[ht.mpr c];symm;refine j5 (SqL.of (m2 _ _ f1)) (i9 h1) ?_;symm;refine j5 (SqL.of I2.r) (i9 (vQ a b X Y)) ?_;symm;refine j5 (SqL.of I2.r) (AA (j:=a.length+1) rfl (qN a b X Y)) ?_;symm;have sX:Stp K H2 d.W X:=⟨I2.hX,(Cp.rf X).can I2.hX I2.hX wd h.gV.1⟩
  have sY:Stp K H2 d.W Y:=⟨I2.hY,c⟩
  refine⟨d,X,Y,_,rfl,hd.same m2,oD,by lia,sX,sY,λv H3 W1 W2 m3 B1 B2 hv=>?_⟩;rcases hv with⟨rfl,ap⟩|⟨⟨t,rfl⟩,_⟩
  .exfalso;have z:=sY.mv sX B2 ap.sy.f ap.sy.g ap.sy.b2;have zV:=(Cp.rf X).can I2.hX I2.hX ((Cp.rf Y).beh I2.hY I2.hY wd.sy B2 ((⟨I2.hY,(Cp.rf Y).can I2.hY I2.hY wd.sy c⟩:Stp K H2 _ Y).goes h.oV.nd)) z.c;exact ng ⟨(Cp.rf Y).can I2.hY I2.hY wd.sy c,zV,trivial⟩
  .symm;exact k H3 (s_.trans m3)
section
variable {H:Hp}
def oM {xs ys:List V}{n:Nat}(pr:Paired (λx y=>EqN K H n x y true) xs ys)(j:Nat)(x y:V)(b:Bool)(h1:xs[j]?=some x)(h2:ys[j]?=some y)(h3:(List.replicate xs.length true)[j]?=some b):EqN K H n x y b:=by
 have e3:b=true:=(SA.mp (LV h3)).2;subst e3;obtain⟨y',UE,z⟩:=B5 pr h1;rw[h2] at UE;cases UE;exact z
def oH {a c:Addr}{xs ys:List V}{n:Nat}(hs:(SqT K H a xs/\SqT K H c ys)\/(SqL K H a xs/\SqL K H c ys))(pr:Paired (λx y=>EqN K H n x y true) xs ys):EqN K H (n+1) (.ref a) (.ref c) true:=by
 by_cases e:a=c
 .exact EqN.of0 (.inr ⟨a,c,rfl,rfl,.inl ⟨e,rfl⟩⟩) _
 .exact .inr ⟨a,c,xs,ys,List.replicate xs.length true,rfl,rfl,e,hs,Mj pr,Nk,oM pr,(dP _).symm⟩
def vz {a c:Addr}{xs ys:List V}(h1:H a=some (.lst xs))(h2:H c=some (.lst ys))(pr:Paired (λx y=>EqN K H 8 x y true) xs ys):Jy K H (.ref a) (.ref c) (List.replicate xs.length true):=
 ⟨a,c,xs,ys,rfl,rfl,.inr ⟨SqL.of h1,SqL.of h2⟩,Mj pr,Nk,oM pr⟩
def vH {d e:Addr}{a b:List (Str×Str)}(hd:H d=some (.dK (i8 a)))(he:H e=some (.dK (i8 b)))(p:a.Perm b)(nd:(b.map (·.1)).Nodup)(n:Nat):EqN K H n (.ref d) (.ref e) true:=by
 refine EqN.of0 (.inr ⟨d,e,rfl,rfl,?_⟩) n;by_cases z:d=e
 .exact .inl ⟨z,rfl⟩
 .exact CZ z (.inl hd) (.inl he) p nd
def vN {A C:Sd}{n:Nat}(h:SdIs K H A)(h':SdIs K H C)(c:WPm A.W C.W):EqN K H (n+1) (.ref A.a) (.ref C.a) true:=by
 refine oH (.inl ⟨h.at_.tup,h'.at_.tup⟩) (.cons (vH h.hp h'.hp c.p (D0 h'.nd) n) (.cons (EqN.of0 (.inr ⟨A.q,C.q,rfl,rfl,?_⟩) n) .nil));by_cases z:A.q=C.q
 .exact .inl ⟨z,rfl⟩
 .exact rC z h.at_.ties h'.at_.ties h.at_.ts h'.at_.ts c.t (L9 h'.nd)
def Gm {n:Nat}{bs cs:List Sd}(c:Paired (λs t:Sd=>WPm t.W s.W) bs cs):(∀b∈bs,SdIs K H b)->(∀b∈cs,SdIs K H b)->Paired (λx y=>EqN K H (n+1) x y true) (sI cs) (sI bs):=by
 induction c with
 |nil=>exact λ_ _=> .nil
 |cons h _ ih=>exact λh1 h2=> .cons (vN (h2 _ LS) (h1 _ LS) h) (ih (λb z=>h1 b (LY _ z)) λb z=>h2 b (LY _ z))
def GB {X Y:StX}(h:StA K H X)(k:StA K H Y)(c:Cp X Y):EqN K H 8 (.ref Y.st) (.ref X.st) true:=
 oH (.inl ⟨k.i.tup,h.i.tup⟩) (.cons (oH (.inl ⟨k.i.r.tup,h.i.r.tup⟩) (.cons (vN k.i.r.l h.i.r.l c.l) (.cons (vN k.i.r.r h.i.r.r c.r) (.cons (oH (.inr ⟨k.i.r.bl,h.i.r.bl⟩) (Gm c.b h.i.r.bars k.i.r.bars)) .nil)))) (.cons (vH k.i.m h.i.m c.m h.nk _) (.cons (vH k.i.f h.i.f c.f (h.fo.nd1 h.i.r.r.nd) _) .nil)))
def uM {ys zs:List StX}(c:Paired Cp ys zs):(∀y∈ys,StA K H y)->(∀z∈zs,StA K H z)->Paired (λx y=>EqN K H 8 x y true) (sts zs) (sts ys):=by
 induction c with
 |nil=>exact λ_ _=> .nil
 |cons h _ ih=>exact λh1 h2=> .cons (GB (h1 _ LS) (h2 _ LS) h) (ih (λb z=>h1 b (LY _ z)) λb z=>h2 b (LY _ z))
end
def zR {α:Type}{R S T:α->α->Prop}(f:∀a b c,R a b->S b c->T a c){xs ys zs:List α}(h:Paired R xs ys):Paired S ys zs->Paired T xs zs:=by
 induction h generalizing zs with
 |nil=>intro k;cases k;exact .nil
 |cons a _ ih=>intro k;cases k with|cons b t=>exact .cons (f _ _ _ a b) (ih t)
def Cp.tr {X Y Z:StX}(h:Cp X Y)(k:Cp Y Z):Cp X Z:=⟨k.l.tr h.l,k.r.tr h.r,zR (λ_ _ _ a b=>b.tr a) h.b k.b,k.m.trans h.m,k.f.trans h.f⟩
def Az {α β:Type}{R:α->β->Prop}:∀{xs:List α} {ys:List β},xs.length=ys.length->(∀(i:Nat) (x:α) (y:β),xs[i]?=some x->ys[i]?=some y->R x y)->Paired R xs ys:=by
 intro xs;induction xs with
 |nil=>intro ys e _;rw[MZ e.symm];exact .nil
 |cons x r ih=>
  intro ys e h
  cases ys with
  |nil=>cases e
  |cons y t=>exact .cons (h 0 x y rfl rfl) (ih (Nat.succ.inj e) λi a b h1 h2=>h (i+1) a b h1 h2)
def Cw {α β:Type}{R:α->β->Prop}{a b:List α}{zs:List β}(h:Paired R (a++b) zs):∃c d,zs=c++d/\Paired R a c/\Paired R b d:=by
 induction a generalizing zs with
 |nil=>exact⟨[],zs,rfl,.nil,h⟩
 |cons x r ih=>
  cases h with
  |cons z t=>
   obtain⟨c,d,e,h1,h2⟩:=ih t
   exact⟨_::c,d,by rw[e];rfl,.cons z h1,h2⟩
def zb {α β:Type}{R:α->β->Prop}{xs:List α}{zs:List β}(h:Paired R xs zs)(i:Nat):Paired R (xs.take i) (zs.take i):=by
 induction h generalizing i with
 |nil=>rw[Sq,Sq];exact .nil
 |cons z _ ih=>cases i with
  |zero=>exact .nil
  |succ i=>exact .cons z (ih i)
section
variable {H:Hp} {S:Sd} {lr lt:Addr} {a b zs:List StX} {X Y:StX}
def RowI.rs (h:RowI K H S lr a b X Y):∀y∈a++Y::X::b,StA K H y:=λy hy=>h.y y<|by
 simp only[LO,Mr] at hy⊢;rcases hy with z|z|z|z
 .exact .inl z
 .exact .inr (.inr (.inl z))
 .exact .inr (.inl z)
 .exact .inr (.inr (.inr z))
def RowI.sw (h:RowI K H S lr a b X Y)(g:Gok (wk S.W a) [Y,X])(hl:H lt=some (.lst (sts zs)))(hz:∀z∈zs,StA K H z)(c:Paired Cp (a++Y::X::b) zs):∃a' b' X' Y',zs=a'++Y'::X'::b'/\RowI K H S lt a' b' Y' X'/\a'.length=a.length/\Gok (wk S.W a') [X',Y']/\Paired Cp (a++X::Y::b) (a'++X'::Y'::b')/\WPm (wk S.W zs) (wk S.W (a++X::Y::b)):=by
 have sw:=ui h.y h.o h.g g;have gz:=Gok.cp c h.rs hz h.o (WPm.rf S.W) sw.1;obtain⟨a',d,rfl,ca,cd⟩:=Cw c;cases cd with
 | @cons _ Y' _ _ cY cd=>
  cases cd with
  | @cons _ X' _ b' cX cb=>
   have la:=Mj ca
   have lb:=Mj cb
   have ln:=h.ln
   have ga:=Gok.cp ca (λy z=>h.y y (LH _ z)) (λz q=>hz z (LH _ q)) h.o (WPm.rf S.W) (gok_app.mp h.g).1
   refine⟨a',b',X',Y',rfl,⟨h.s,h.o,by rw[LJ,Mi,Mi];lia,hl,hz,gz.1⟩,la.symm,?_,eV ca (.cons cX (.cons cY cb)),gz.2.tr sw.2⟩
   refine(Gok.cp (K:=K) (H:=H) (H':=H) (ys:=[X,Y]) (.cons cX (.cons cY .nil)) (λy q=>?_) (λy q=>?_) h.oV ga.2 ⟨h.gV.1,h.gV.2,trivial⟩).1
   .rcases Mr.mp q with rfl|q
    .exact h.hX
    .rw[Me.mp q];exact h.hY
   .rcases Mr.mp q with rfl|q
    .exact hz _ (by simp)
    .rw[Me.mp q];exact hz _ (by simp)
def RowI.webs (h:RowI K H S lr a b X Y)(g:Gok (wk S.W a) [Y,X])(hz:∀z∈zs,StA K H z)(c:Paired Cp (a++Y::X::b) zs)(i:Nat)(hi:i≠a.length+1):WPm (wk S.W (zs.take i)) (wk S.W ((a++X::Y::b).take i)):=by
 have sw:=ui h.y h.o h.g g;refine(Gok.cp (zb c i) (λy q=>h.rs y (MW q)) (λy q=>hz y (MW q)) h.o (WPm.rf S.W) (tq i sw.1)).2.tr ?_;rcases ND a.length i with q|q
 .obtain⟨j,rfl⟩:∃j,i=a.length+(j+2):=⟨i -a.length -2,by lia⟩
  rw[OI,OI];have gt:=tq (a.length+(j+2)) h.g;rw[OI] at gt;refine(ui (λy z=>h.y y ?_) h.o gt g).2;rcases LO.mp z with z|z
  .exact LH _ z
  .exact LP _ (MW (i:=j+2) (l:=X::Y::b) z)
 .rw[Ot q,Ot q];exact WPm.rf _
end
def bQ (K:Za):Sp:=λvs H Q _=>∃(S:Sd) (lr lt:Addr) (a b zs:List StX) (X Y:StX),vs=[.ref S.a,.ref lr,.int a.length,.ref lt]/\RowI K H S lr a b X Y/\Gok (wk S.W a) [Y,X]/\H lt=some (.lst (sts zs))/\(∀z∈zs,StA K H z)/\Paired Cp (a++Y::X::b) zs/\∀H',Same H H'->Q (.bl true) H'
abbrev dn:=λP w K mg base=>K3 P w K mg base (ic P w) 15 "_law_changed" ["_law_web_here","_law_row_here","_law_k","_law_told"] [] (bQ K)
def jn {f fd}(T:Txt K mg)(j6:F2 P w K mg base)(C8:Q9 P w K mg base)(dH:ow P w K mg base)(F:Fun K "_law_changed" "_law_changed" Y1 f fd):x8 P w K mg base (ic P w) 15 f fd ["_law_web_here","_law_row_here","_law_k","_law_told"] (bQ K):=by
 refine F.okE sc__law_changed (λvs H Q E h=>?_) (λc_ A outer s H vs Q E hr h=>?_)
 .obtain⟨S,lr,lt,a,b,zs,X,Y,rfl,_⟩:=h;rfl
 .obtain⟨S,lr,lt,a,b,zs,X,Y,rfl,h,g,ht,hz,c,k⟩:=h;have ln:=h.ln;walk_at "@sc__law_changed 9Lc/03aap01xj02.ib1a021b102p01ja021xf54A~4Re0155A~4Re039LM:c/p05xja021p04xja021f=c/p05ja021xp04ja021xf8'2EH C'0zK A'0dH Rnb402ib102b1a021Pf'1Dg CSA'0C8 R60e3201f"
  symm;refine A8 (SqL.of h.r) (λl4 n4=>?_);obtain⟨H4,e4,f4,m4,_⟩:=b0 (o:= .lst _) n4;rw[e4];rw[ir] at f4;symm;refine j5 (SqL.of (m4 _ _ h.r)) (AA (j:=a.length+1) rfl (qN a b X Y)) ?_;symm;refine j5 (SqL.of (m4 _ _ h.r)) (i9 (vQ a b X Y)) ?_;symm;refine⟨b5 (by simp),λl2 n2=>?_⟩;obtain⟨H2,e2,f2,m2,_⟩:=b0 (o:= .lst [.ref Y.st,.ref X.st]) n2;rw[e2];symm;refine eh (m2 _ _ f4) f2 (b5 (by rw[LM,Lz,LJ];show min _ _+2<=1000;lia)) (λl5 n5=>?_);obtain⟨H5,e5,f5,m5,_⟩:=b0 (o:= .lst _) n5;rw[e5];have VW:=m4.trans (m2.trans m5);symm;refine A8 (SqL.of (VW _ _ h.r)) (λl6 n6=>?_);obtain⟨H6,e6,f6,m6,_⟩:=b0 (o:= .lst _) n6;rw[e6];rw[show((a.length:Int)+2)=((a.length+2:Nat):Int) from rfl,dj] at f6;refine eh (m6 _ _ f5) f6 (b5 (by rw[LJ,LM,MY,Lz,LJ,Mi,Mi];show min _ _+2+_<=1000;lia)) (λl7 n7=>?_);rw[Bv];obtain⟨H7,e7,f7,m7,_⟩:=b0 (o:= .lst _) n7;rw[e7];have Xn:=VW.trans (m6.trans m7);have I7:=h.same Xn;have hz7:∀z∈zs,StA K H7 z:=λz q=>(hz z q).same Xn;symm;refine .inr ⟨_,vz (Xn _ _ ht) f7 (uM c I7.rs hz7),?_⟩;rw[dP];clear f4 f2 f5 f6 f7;symm;refine jF I7 λlw ds d H8 m8 f8 l8 O' h8 hd wd=>?_;have I8:=I7.same m8;have hz8:∀z∈zs,StA K H8 z:=λz q=>(hz7 z q).same m8;obtain⟨a',b',X',Y',ez,It,la,gt,cc,_⟩:=I8.sw g (m8 _ _ (Xn _ _ ht)) hz8 c;have web:=I8.webs g hz8 c;rw[ez] at web;symm;refine jF It λlo es _ H9 m9 f9 l9 hes _ _ _=>?_;have I9:=I8.same m9;have el:es.length=ds.length:=by rw[l9,l8,LJ,LJ,la];show a.length+(b'.length+2)+1=a.length+(b.length+2)+1;have:=Mj cc;rw[LJ,LJ,la] at this;exact(Na (·+1) this).symm
  have key:∀{Hn:Hp},Same H9 Hn->∀(i:Nat) (x y:V),i≠a.length+1->(sI es)[i]?=some x->(sI ds)[i]?=some y->EqN K Hn 8 x y true:=fun{Hn} s i x y hi h1 h2=>by
   rw[LF] at h1 h2;cases e1:es[i]? with
   |none=>rw[e1] at h1;cases h1
   |some e=>
    cases e2:ds[i]? with
    |none=>rw[e2] at h2;cases h2
    |some f=>
     rw[e1] at h1;rw[e2] at h2
     cases h1;cases h2
     have z1:=hes i e e1
     have z2:=O' i f e2
     exact vN (z1.1.same s) (z2.1.same (m9.trans s)) (z1.2.tr ((web i hi).tr z2.2.sy))
  symm;refine A8 (SqL.of f9) (λlA nA=>?_);obtain⟨HA,eA,fA,mA,_⟩:=b0 (o:= .lst _) nA;rw[eA];rw[show((a.length:Int)+1)=((a.length+1:Nat):Int) from rfl,ir] at fA;symm;refine A8 (SqL.of (mA _ _ (m9 _ _ f8))) (λlB nB=>?_);obtain⟨HB,eB,fB,mB,_⟩:=b0 (o:= .lst _) nB;rw[eB];rw[show((a.length:Int)+1)=((a.length+1:Nat):Int) from rfl,ir] at fB;have mAB:=mA.trans mB;refine .inr ⟨_,vz (mB _ _ fA) fB (Az (by rw[LM,LM,Lz,Lz,el]) λi x y h1 h2=>?_),?_⟩
  .rw[Pk] at h1 h2;by_cases q:i<a.length+1
   .rw[if_pos q] at h1 h2;exact key mAB i x y (by lia) h1 h2
   .rw[if_neg q] at h1;cases h1
  rw[dP];symm;refine A8 (SqL.of (mAB _ _ f9)) (λlC nC=>?_);obtain⟨HC,eC,fC,mC,_⟩:=b0 (o:= .lst _) nC;rw[eC];rw[show((a.length:Int)+2)=((a.length+2:Nat):Int) from rfl,dj] at fC;have mAC:=mAB.trans mC;symm;refine A8 (SqL.of (mAC _ _ (m9 _ _ f8))) (λlD nD=>?_);obtain⟨HD,eD,fD,mD,_⟩:=b0 (o:= .lst _) nD;rw[eD];rw[show((a.length:Int)+2)=((a.length+2:Nat):Int) from rfl,dj] at fD;have mAD:=mAC.trans mD;refine .inr ⟨_,vz (mD _ _ fC) fD (Az (by rw[MY,MY,Lz,Lz,el]) λi x y h1 h2=>?_),?_⟩
  .rw[Qu] at h1 h2;exact key mAD _ x y (by lia) h1 h2
  rw[dP];have Yq:=m9.trans mAD;have ID:=I8.same Yq;clear fA fB fC fD key;symm;refine j5 (SqL.of (Yq _ _ f8)) (i9 h8) ?_;symm;refine j5 (SqL.of ID.r) (i9 (vQ a b X Y)) ?_;symm;refine j5 (SqL.of ID.r) (AA (j:=a.length+1) rfl (qN a b X Y)) ?_;symm;have oD:=h.oV.pm wd;have sX:Stp K HD d.W X:=⟨ID.hX,(Cp.rf X).can ID.hX ID.hX wd h.gV.1⟩
  have sY:Stp K HD d.W Y:=⟨ID.hY,(Cp.rf Y).can ID.hY ID.hY wd g.1⟩
  refine⟨d,X,Y,_,rfl,hd.same Yq,oD,by lia,sX,sY,λv HE W1 W2 mE B1 B2 hv=>?_⟩;have o1:Y.can W1:=(Cp.rf Y).can ID.hY ID.hY ((Cp.rf X).beh ID.hX ID.hX wd ((⟨ID.hX,h.gV.1⟩:Stp K HD _ X).goes h.oV.nd) B1) h.gV.2;have o2:X.can W2:=(Cp.rf X).can ID.hX ID.hX ((Cp.rf Y).beh ID.hY ID.hY wd ((⟨ID.hY,g.1⟩:Stp K HD _ Y).goes h.oV.nd) B2) g.2.1;rcases hv with⟨rfl,_⟩|⟨_,na⟩
  rotate_left
  .exact absurd (Bm sX sY B1 B2 o1 o2) na
  have m8E:=Yq.trans mE;symm;rw[if_pos (by simp)];symm;refine⟨S,lt,a',b',Y',X',by rw[la];rfl,It.same m8E,λz=>absurd gt z,λ_ lf us HF mF fF hu cu=>?_⟩;have m8F:=m8E.trans mF;have IF:=I8.same m8F;symm;refine .inr ⟨_,vz fF IF.r (uM (zR (R:=Cp) (S:=Cp) (T:=Cp) (λ_ _ _ a b=>a.tr b) cc cu) IF.y hu),?_⟩;rw[dP];exact k HF (Xn.trans (m8.trans m8F))
def cH (K:Za):Sp:=λvs H Q _=>∃S:Sd,vs=[.ref S.a]/\SdIs K H S/\∀(l:Addr) (H':Hp) (ss:List Str),Same H H'->H' l=some (.lst (ss.map V.str))->ss.Perm (b4 S.W)->Q (.ref l) H'
abbrev aI:=λP w K mg base=>K3 P w K mg base A9 1 "_law_things" ["_law_piece_here"] [] (cH K)
def jU {f fd}(T:Txt K mg)(F:Fun K "_law_things" "_law_things" ay f fd):x8 P w K mg base A9 1 f fd ["_law_piece_here"] (cH K):=by
 walk_at "#sc__law_things"
 .obtain⟨S,rfl,_⟩:=h;rfl
 .obtain⟨S,rfl,hS,k⟩:=h;have h1:=hS.len;rw[E4] at h1;walk_at "@sc__law_things 8aq;(&240q;(&240";symm;refine j4 hS.at_.tup (i9 (j:=0) rfl) ?_;symm;refine E3 (ss:=S.W.pts.map (·.1)) hS.at_.pts (by rw[G1,A7]) (by rw[Lz];lia) (λs1 a1 a2 l1 n1=>?_);obtain⟨H1,e1,f1,m1,_⟩:=b0 (o:= .lst _) n1;rw[e1];have W1:=hS.same m1;symm;refine j4 W1.at_.tup (i9 (j:=1) rfl) ?_;symm;refine E3 (ss:=S.W.ts.map (·.1)) W1.at_.ties (by rw[W1.at_.ts.keys,A7]) (by rw[Lz];lia) (λs2 b1 b2 l2 n2=>?_);obtain⟨H2,e2,f2,m2,_⟩:=b0 (o:= .lst _) n2;rw[e2];have g1:=a1.length_eq;have g2:=b1.length_eq;rw[Lz] at g1 g2;refine eh (m2 _ _ f1) f2 (b5 (by rw[Lz,Lz];lia)) (λl3 n3=>?_);obtain⟨H3,e3,f3,m3,_⟩:=b0 (o:= .lst _) n3;rw[e3];exact k l3 H3 (s1++s2) (m1.trans (m2.trans m3)) (by rw[f3,LK]) (a1.append b1)
abbrev iJ (x:Str):Nat:=x.cps.toList.headD 0
def fY (K:Za):Sp:=λvs H Q _=>∃(S:Sd) (c:Int),vs=[.ref S.a,.int c]/\SdIs K H S/\(b4 S.W).length<=12/\(∀x∈b4 S.W,1<=x.length)/\∀(mk:Nat) (H':Hp),Same H H'->mk∈kSL.cps.toList->(∀x∈b4 S.W,iJ x≠mk)->Q (.str ⟨#[mk]⟩) H'
def FX:kSL.cps.toList.Nodup:=by decide+kernel
def tS:kSL.cps.toList.length=26:=by decide+kernel
def Ir {x:Str}(h:1<=x.length):mO x.cps.toList 0=some (iJ x):=by
 refine i9 (j:=0) ?_;have e:x.cps.toList.length=x.length:=kD x;unfold iJ;cases z:x.cps.toList with
 |nil=>rw[z] at e;simp at e;lia
 |cons c r=>rfl
abbrev jh:=λP w K mg base=>K3 P w K mg base A9 2 "_law_mark" ["_law_web_here","_law_cell"] [] (fY K)
def qa {f fd}(T:Txt K mg)(G7:aI P w K mg base)(F:Fun K "_law_mark" "_law_mark" cJ f fd):x8 P w K mg base A9 2 f fd ["_law_web_here","_law_cell"] (fY K):=by
 walk_at "#sc__law_mark"
 .obtain⟨S,c,rfl,_⟩:=h;rfl
 .obtain⟨S,c,rfl,hS,hl,hn,k⟩:=h;walk_at "@sc__law_mark 52K53m_law_name;;k3'0G7 70d0_law_name;t409?4_law_sign;3;k02vd0_law_sign,_law_firsts;vJcY0001sv008b4g01l74"
  symm;refine⟨S,rfl,hS,λl1 H1 ss m1 f1 pm=>?_⟩;have pl:=pm.length_eq;refine k8 (SqL.of f1) ?_;refine j9 (n:=ss.length) (λi out H'=>Same H1 H'/\out=(ss.take i).map λx=>V.str ⟨#[iJ x]⟩) ⟨Same.refl _,rfl⟩ (λi out H' hi hp=>⟨_,.str (ss[i]),SqL.of (hp.1 _ _ f1),by rw[LF,LA hi];rfl⟩) ?_ ?_
  .rintro N i v out H2' H2 hi ⟨s2,rfl⟩ y hN';obtain⟨rfl,hx⟩:=Itl.get y (SqL.of (s2 _ _ f1));rw[LF,LA hi] at hx;cases hx;have hm:=pm.mem_iff.mp (Mu hi);symm;refine⟨rfl,?_⟩;symm;refine N2 (b5 (Mb (hS.nl _ hm) (by decide))) (Ir (hn _ hm)) ?_;refine⟨b5 (by rw[Lz,LM];lia),hN' _ _ ⟨s2,?_⟩⟩;exact A1 (λx:Str=>V.str ⟨#[iJ x]⟩) (LA hi)
  rintro out H2 ⟨s2,rfl⟩;rw[LN (LC _)];refine⟨⟨_,SqL.of (s2 _ _ f1),by rw[Lz];exact LC _⟩,λD hD=>⟨b5 (by rw[Lz];lia),?_⟩⟩;obtain⟨H3,e3,f3,m3,_⟩:=b0 (H:=H2) (o:= .lst (ss.map λx=>V.str ⟨#[iJ x]⟩)) hD;change O5 _ _ _ (upd H2 D (.lst (ss.map λx=>V.str ⟨#[iJ x]⟩))) _;rw[e3];have ef:(ss.map λx=>V.str ⟨#[iJ x]⟩)=(ss.map λx=>(⟨#[iJ x]⟩:Str)).map V.str:=by rw[Mo];rfl
  rw[ef] at f3;have k_:∀n:Nat,(⟨#[n]⟩:Str)∈ss.map (λx=>(⟨#[iJ x]⟩:Str))↔n∈ss.map iJ:=λn=>by
   rw[LB,LB];exact⟨fun⟨x,h1,h2⟩=>⟨x,h1,by injection h2 with h2;simpa using h2⟩,fun⟨x,h1,h2⟩=>⟨x,h1,by rw[h2]⟩⟩
  generalize ss.map (λx=>(⟨#[iJ x]⟩:Str))=fs at f3 k_;symm;refine j9 (n:=kSL.cps.size) (λi out H'=>Same H3 H'/\out=((kSL.cps.toList.take i).filter λn=>!decide (n∈ss.map iJ)).map λn=>V.str ⟨#[n]⟩) ⟨Same.refl _,rfl⟩ (λi out H' hi _=>by exact hi) ?_ ?_
  .rintro N i v out H4' H4 hi ⟨s4,rfl⟩ y hN';obtain⟨rfl,n,Wf,rfl⟩:=Its.lt y;have e7:kSL.cps.toList.take (i+1)=kSL.cps.toList.take i++[n]:=by rw[Mt,Wf];rfl
   have r_:=LQ (λn=>!decide (n∈ss.map iJ)) (kSL.cps.toList.take i);rw[LM,tS] at r_;symm;refine⟨rfl,?_⟩;symm;refine R8 (gs:=fs) (SqL.of (s4 _ _ f3)) ?_;symm;refine dy (λhb=>?_) (λhb=>?_)
   .rw[k_] at hb;symm;refine⟨b5 (by rw[Lz];lia),hN' _ _ ⟨s4,?_⟩⟩;rw[e7,Mz,Mw (p:=λn=>!decide (n∈ss.map iJ)) (by rw[Mn hb];rfl),MT,LK];rfl
   .rw[k_] at hb;refine hN' _ _ ⟨s4,?_⟩;rw[e7,Mz,MB (p:=λn=>!decide (n∈ss.map iJ)) (by rw[Ma hb];decide),MT,MM]
  rintro out H4 ⟨s4,rfl⟩;rw[show kSL.cps.size=kSL.cps.toList.length from rfl,LN (LC _)];have r_:=LQ (λn=>!decide (n∈ss.map iJ)) kSL.cps.toList;rw[tS] at r_;have mem:∀n,n∈(kSL.cps.toList.filter λn=>!decide (n∈ss.map iJ))->n∈kSL.cps.toList/\n∉ss.map iJ:=λn h=>by
   have z:=LW.mp h;exact⟨z.1,λq=>by have:=z.2;rw[Ma q] at this;cases this⟩
  have pos:0<(kSL.cps.toList.filter λn=>!decide (n∈ss.map iJ)).length:=by
   refine Nat.pos_of_ne_zero λz=>?_;have e:=MZ z;have q:=Y8 (m:=ss.map iJ) FX λn h=>NY λhb=>by
    have:n∈(kSL.cps.toList.filter λn=>!decide (n∈ss.map iJ)):=LW.mpr ⟨h,by rw[Mn hb];rfl⟩;rw[e] at this;cases this
   rw[tS,Lz] at q;lia
  refine⟨LC _,λD5 hD5=>⟨b5 (by rw[Lz];lia),?_⟩⟩;generalize (kSL.cps.toList.filter λn=>!decide (n∈ss.map iJ))=fr at mem pos;obtain⟨H5,e5,f5,m5,_⟩:=b0 (H:=H4) (o:= .lst (fr.map λn=>V.str ⟨#[n]⟩)) hD5;change O5 _ _ _ (upd H4 D5 (.lst (fr.map λn=>V.str ⟨#[n]⟩))) _;rw[e5];symm;refine D6 (z7 (SqL.of f5) ?_);rw[Lz];symm;have q0:=Nv c (show(fr.length:Int)≠0 by lia);have q1:=Ng c (show(0:Int)<(fr.length:Int) by lia);obtain⟨j,hj⟩:∃j:Nat,c % (fr.length:Int)=j:=⟨(c % (fr.length:Int)).toNat,by lia⟩
  have Xo:j<fr.length:=by lia
  rw[hj];refine j5 (v:= .str ⟨#[fr[j]]⟩) (SqL.of f5) (i9 (by rw[LF,LA Xo];rfl)) ?_;have z:=mem _ (Mu Xo);exact k fr[j] H5 (m1.trans (s2.trans (m3.trans (s4.trans m5)))) z.1 λx hx e=>z.2 (LB.mpr ⟨x,pm.mem_iff.mpr hx,e⟩)
def ee (K:Za):Sp:=λvs H Q _=>∃S:Sd,vs=[.ref S.a]/\SdIs K H S/\∀b:Bool,(b=true->S.W.pts.length<=7/\S.W.ts.length<=6)->Q (.bl b) H
abbrev gO:=λP w K mg base=>K3 P w K mg base A9 1 "_law_small" ["_law_web_here"] [] (ee K)
def mx {f fd}(T:Txt K mg)(F:Fun K "_law_small" "_law_small" bL f fd):x8 P w K mg base A9 1 f fd ["_law_web_here"] (ee K):=by
 walk_at "#sc__law_small"
 .obtain⟨S,rfl,_⟩:=h;rfl
 .obtain⟨S,rfl,hS,k⟩:=h;walk_at "@sc__law_small 8'2EH C'0zw l2401f'1Dg C'0zw l2401f";symm;refine j4 hS.at_.tup (i9 (j:=0) rfl) ?_;symm;refine D6 (X1 (.inl hS.hp) ?_);rw[p0];symm;refine M4 (λh1=>?_) (λh1=>?_)
  .symm;refine j4 hS.at_.tup (i9 (j:=1) rfl) ?_;symm;refine D6 (X1 (.inl hS.hq) ?_);rw[hS.at_.ts.length];symm;exact k _ λz=>⟨by lia,by have:=ME z;lia⟩
  .exact k _ λz=>nomatch z
abbrev yo (i:Nat):Str:=((toString (i:Int):String):Str)
def ox:∀i:Nat,i<11->(i:Int).natAbs.log2<1920/\(yo i).length<=2/\F4 (yo i) kNS=true/\46∉(yo i).cps.toList:=by decide+kernel
def CF:∀i:Nat,i<11->∀j:Nat,j<11->(yo i).cps.toList=(yo j).cps.toList->i=j:=by decide+kernel
def FN (mk n:Nat)(x:Str):Prop:=∃r,x.cps.toList=mk::((yo n).cps.toList++46::r)
def yF {c:Nat}:∀{u u' v v':List Nat},c∉u->c∉u'->u++c::v=u'++c::v'->u=u':=by
 intro u;induction u with
 |nil=>intro u' v v' _ h2 e;cases u' with
  |nil=>rfl
  |cons y t=>exact absurd (by rw[(Nj e).1];exact LS) h2
 |cons x r ih=>intro u' v v' h1 h2 e;cases u' with
  |nil=>exact absurd (by rw[←(Nj e).1];exact LS) h1
  |cons y t=>
   have z:=Nj e
   rw[z.1,ih (λq=>h1 (LY _ q)) (λq=>h2 (LY _ q)) z.2]
def FN.uq {mk i j:Nat}{x:Str}(hi:i<11)(hj:j<11)(h:FN mk i x)(k:FN mk j x):i=j:=by
 obtain⟨r,e⟩:=h;obtain⟨s,f⟩:=k;exact CF i hi j hj (yF (ox i hi).2.2.2 (ox j hj).2.2.2 (Nj (e.symm.trans f)).2)
def HJ {d:Int}(h:0<=d):∃r,(Txt.mul (⟨#[46]⟩:Str) (1+d)).cps.toList=46::r/\r.length=d.toNat/\F4 (Txt.mul (⟨#[46]⟩:Str) (1+d)) kNS=true:=by
 have hl:=gY 46 (1+d) (by lia);have ha:=jE 46 (1+d);have hn:F4 (Txt.mul (⟨#[46]⟩:Str) (1+d)) kNS=true:=W8 (y:=⟨#[46]⟩) (by decide+kernel) λx hx=>by rw[ha x hx];exact Oo _
 have e:=kD (Txt.mul (⟨#[46]⟩:Str) (1+d));cases z:(Txt.mul (⟨#[46]⟩:Str) (1+d)).cps.toList with
 |nil=>rw[z] at e;simp at e;lia
 |cons c r=>
  have:=ha c (by rw[z];exact LS)
  rw[z] at e
  refine⟨r,by rw[this],?_,hn⟩
  rw[Mi] at e;lia
def BE (mk n:Nat)(d:Int)(x:Str):Str:=(⟨#[mk]⟩:Str)++yo n++Txt.mul (⟨#[46]⟩:Str) (1+d)++x
section
variable {mk n:Nat} {d:Int} {x y:Str}
def vt:(BE mk n d x).cps.toList=mk::((yo n).cps.toList++((Txt.mul (⟨#[46]⟩:Str) (1+d)).cps.toList++x.cps.toList)):=by
 unfold BE;rw[lQ,lQ,lQ];show [mk]++_++_++_=_;rw[Mv,Mv];rfl
def Ig (h:0<=d):FN mk n (BE mk n d x):=by
 obtain⟨r,e,_⟩:=HJ h;exact⟨r++x.cps.toList,by rw[vt,e];rfl⟩
def Fl (e:BE mk n d x=BE mk n d y):x=y:=by
 have z:=Na (λs:Str=>s.cps.toList) e;simp only[vt] at z;exact Dl (Ra (Ra (Nj z).2))
def Dc (hm:mk∈kSL.cps.toList)(hn:n<11)(h:0<=d)(h':d<12)(hx:F7 x=true):L8 (BE mk n d x)=true:=by
 obtain⟨r,e,el,ha⟩:=HJ h;have hd:=ox n hn;have h8:=uH hx;have hl:(BE mk n d x).length=1+(yo n).length+(1+d.toNat)+x.length:=by
  have q:∀z:Str,z.cps.toList.length=z.length:=kD;rw[←q,vt,e,Mi,LJ,LJ,Mi,q,q,el];lia
 have hk:F4 x kNS=true:=by
  have z:=hx;unfold F7 K0 at z;rw[Mp] at z;exact Mq.mpr λc hc=>Ma (qJ _ (N9 z.2 hc))
 unfold L8;rw[Y5 (by lia) (by lia) (by unfold BE;rw[O6,O6,O6,F0 (qJ _ hm),hd.2.2.1,ha,hk];rfl)];show(true&&vZ _ _)=true;rw[PY];unfold vZ;rw[vt];exact Ma hm
end
def gJ (K:Za):Sp:=λvs H Q _=>∃(u:Ru) (m:Addr) (mk n:Nat) (c:Int),vs=[.ref u.r,.ref m,.str ⟨#[mk]⟩,.int n,.int c]/\RuA K H u/\mk∈kSL.cps.toList/\n<11/\∀(st f:Addr) (fr:List (Str×Str)) (H':Hp),Same H H'->H' st=some (.tup [.ref u.r,.ref m,.ref f])->H' f=some (.dK (i8 fr))->FrOk ⟨[],[]⟩ u.L.W u.R.W fr->(∀x∈fr,FN mk n x.2)->Q (.ref st) H'
abbrev iW:=λP w K mg base=>K3 P w K mg base A9 2 "_law_step" ["_law_rule_here","_law_match","_law_mark_here","_law_number","_law_cell"] [] (gJ K)
def oE {f fd}(T:Txt K mg)(G7:aI P w K mg base)(F:Fun K "_law_step" "_law_step" dz f fd):x8 P w K mg base A9 2 f fd ["_law_rule_here","_law_match","_law_mark_here","_law_number","_law_cell"] (gJ K):=by
 walk_at "#sc__law_step"
 .obtain⟨u,m,mk,n,c,rfl,_⟩:=h;rfl
 .obtain⟨u,m,mk,n,c,rfl,hU,hm,hn,k⟩:=h;have hr8:=hU.x.rl;have d0:0<=c % 12:=by lia
  have d1:c % 12<12:=by lia
  have dg:=ox n hn;walk_at "@sc__law_step 55#9yBk3'0G7 240o6huM>cY06F401s_cY06F401shZaaa02w'0pD ~p~o73QKa1g041065068r60e15"
  symm;intro f nf;obtain⟨H1,e1,f1,m1,_⟩:=b0 (o:= .dK []) nf;rw[e1];symm;refine j4 (m1.tup hU.ru.tup) (i9 (j:=1) rfl) ?_;symm;refine⟨u.R,rfl,hU.ru.r.same m1,λl2 H2 ss m2 f2 pm=>?_⟩;have s_:=m1.trans m2;have nlf:l2≠f:=λz=>by have q:=m2 _ _ f1;rw[←z,f2] at q;cases q
  have pl:=pm.length_eq;have nd:=pm.nodup_iff.mpr hU.ru.r.nd;refine k8 (SqL.of f2) ?_;refine iF (n:=ss.length) (λi σ H'=>(∃v:Nat->Option V,σ=[some (.ref u.r),some (.ref m),some (.str ⟨#[mk]⟩),some (.int n),some (.int c),some (.ref f),v 6])/\Same H H'/\H' l2=some (.lst (ss.map V.str))/\∃fr:List (Str×Str),H' f=some (.dK (i8 fr))/\fr.map (·.1)=(ss.take i).filter (λx=>!decide (x∈b4 u.L.W))/\∀x∈fr,x.2=BE mk n (c % 12) x.1) ⟨sg rfl,s_,f2,[],m2 _ _ f1,rfl,λ_ h=>nomatch h⟩ (λi σ H' hi hp=>⟨_,.str (ss[i]),SqL.of hp.2.2.1,by rw[LF,LA hi];rfl⟩) ?_ ?_
  .rintro i v σ H3' H3 hi ⟨⟨v0,rfl⟩,s3,f3,fr,g3,ek,Ro⟩ y _ _;obtain⟨rfl,hx⟩:=Itl.get y (SqL.of f3);have ex:ss[i]?=some ss[i]:=LA hi;rw[LF,ex] at hx;cases hx;have U3:=hU.same s3;have VU:ss.take (i+1)=ss.take i++[ss[i]]:=by rw[Mt,ex];rfl
   have hk:F7 ss[i]=true:=hU.x.kd _ (pm.mem_iff.mp (Mu hi));have h8:=uH hk;have q_:ss[i]∉ss.take i:=λq=>by
    have z:(ss.take (i+1)).Nodup:=nd.sublist (NA _ _);rw[VU] at z;exact(Mm.mp z).2.2 _ q _ (by simp) rfl
   generalize ss[i]=w at ex VU hk h8 q_;have r_:fr.length<=8:=by
    have z:=Na List.length ek;rw[Lz] at z;rw[z];have y:=LQ (λx=>!decide (x∈b4 u.L.W)) (ss.take i);rw[LM] at y;lia
   have keep:w∈b4 u.L.W->fr.map (·.1)=(ss.take (i+1)).filter (λx=>!decide (x∈b4 u.L.W)):=λk_=>by rw[VU,Mz,ek,MB (by simp [k_])];simp
   symm;refine j4 U3.ru.tup (i9 (j:=0) rfl) ?_;symm;refine j4 U3.ru.l.at_.tup (i9 (j:=0) rfl) ?_;refine ah (O8 (k:=Sum.inr w) U3.ru.l.at_.pts) ?_;rw[N7];symm;refine dy (λhb=>?_) (λhb=>?_);rotate_left
   .symm;walk_at "X";exact⟨sg rfl,s3,f3,fr,g3,keep (LH _ hb),Ro⟩
   symm;refine j4 U3.ru.tup (i9 (j:=0) rfl) ?_;symm;refine j4 U3.ru.l.at_.tup (i9 (j:=1) rfl) ?_;refine ah (O8 (k:=Sum.inr w) U3.ru.l.at_.ties) ?_;rw[X3 U3.ru.l.at_.ts];symm;refine dy (λhc=>?_) (λhc=>?_);rotate_left
   .symm;walk_at "X";exact⟨sg rfl,s3,f3,fr,g3,keep (LP _ hc),Ro⟩
   have VH:w∉b4 u.L.W:=λz=>(LO.mp z).elim hb hc;have V_:w∉fr.map (·.1):=λz=>by
    rw[ek] at z;exact q_ (LW.mp z).1
   symm;refine⟨_,rfl,dg.1,?_⟩;symm;refine C9 (b5 (by rw[A6];show 1+(yo n).length<=1000;lia)) ?_;symm;refine aO (by rw[show(Str.ofString ".").length=1 from rfl];lia) (by lia) (by lia) ?_;rw[show Str.ofString "."=(⟨#[46]⟩:Str) by decide+kernel];have ml:=gY 46 (1+c % 12) (by lia);refine C9 (b5 (by rw[K4,A6,ml];show 1+(yo n).length+_<=1000;lia)) ?_;symm;refine C9 (b5 (by rw[K4,K4,A6,ml];show 1+(yo n).length+_+_<=1000;lia)) ?_;symm;refine dw (E7 (k:=Sum.inr w) g3 (mS (by rw[p0];lia)) ?_);rw[sP V_];walk_at "X";refine⟨sg rfl,E9 s3 nf,by rw[b7 nlf];exact f3,_,d8,?_,λx hx=>?_⟩
   .rw[LK,ek,VU,Mz,Mw (by simp [VH])];rfl
   .rcases LO.mp hx with z|z
    .exact Ro x z
    .rw[Me.mp z];rfl
  rintro σ H3 ⟨⟨v0,rfl⟩,s3,f3,fr,g3,ek,Ro⟩;refine⟨⟨_,SqL.of f3,by rw[Lz];exact LC _⟩,?_⟩;rw[LN (LC _)] at ek;symm;refine⟨b5 (by simp),λst nst=>?_⟩;obtain⟨H4,e4,f4,m4,_⟩:=b0 (o:= .tup _) nst;rw[e4];have ks:(fr.map (·.1)).Perm ((b4 u.R.W).filter λx=>!decide (x∈b4 u.L.W)):=by rw[ek];exact pm.filter _
  have nk:(fr.map (·.1)).Nodup:=by rw[ek];exact nd.sublist MO
  refine k st f fr H4 (s3.trans m4) f4 (m4 _ _ g3) ⟨ks,λx hx=>?_,?_,λ_ _ z=>absurd z List.not_mem_nil,?_⟩ λx hx=>?_
  .rw[Ro x hx];exact Dc hm hn d0 d1 (hU.x.kd _ (LW.mp (ks.mem_iff.mp (LB.mpr ⟨x,hx,rfl⟩))).1)
  .rw[show fr.map (·.2)=(fr.map (·.1)).map (BE mk n (c % 12)) by rw[Mo];exact MX λx hx=>Ro x hx];exact iD nk λ_ _ _ _ e=>Fl e
  .obtain⟨a,ha,la⟩:=hU.x.np;obtain⟨b,hb,lb⟩:=hU.x.nt;have z:=Y8 (m:=a++b) nk λx hx=>by
    obtain⟨q1,q2⟩:=LW.mp (ks.mem_iff.mp hx);rw[MI,MC] at q2;rcases LO.mp q1 with q|q
    .exact LH _ (ha x q q2)
    .exact LP _ (hb x q q2)
   rw[Lz,LJ] at z;lia
  .rw[Ro x hx];exact Ig d0
def StA.updL {H:Hp}{d:Addr}{ys:List V}{u:HO}{x:StX}(h:H d=some (.lst ys))(n:x.bl≠d)(z:StA K H x):StA K (upd H d u) x:=by
 have n1:x.m≠d:=λe=>by have y:=z.i.m;rw[e,h] at y;cases y
 have n2:x.f≠d:=λe=>by have y:=z.i.f;rw[e,h] at y;cases y
 have e3:upd H d u x.bl=some (.lst (x.bs.map λs=>V.ref s.a)):=by rw[b7 n];exact z.i.b
 exact⟨⟨cM h z.i.tup,⟨cM h z.i.r.tup,ak h z.i.r.l,ak h z.i.r.r,SqL.of e3,λb hb=>ak h (z.i.r.bars b hb)⟩,by rw[b7 n1];exact z.i.m,by rw[b7 n2];exact z.i.f,e3⟩,z.x,z.d,z.nk,z.pk,z.fo⟩
def NmI (mk n:Nat)(W:p8):Prop:=∀x∈b4 W,iJ x≠mk\/∃j,j<n/\FN mk j x
section
variable {mk n:Nat} {W W1:p8} {H:Hp} {X:StX}
def Jl {x:Str}(h:FN mk n x):iJ x=mk:=by
 obtain⟨r,e⟩:=h;unfold iJ;rw[e];rfl
def NmI.fr (h:NmI mk n W)(hn:n<11){x:Str}(f:FN mk n x):x∉b4 W:=λz=>by
 rcases h x z with q|⟨j,hj,q⟩
 .exact q (Jl f)
 .have:=q.uq (by lia) hn f;lia
def NmI.go (h:NmI mk n W)(s:Stp K H W X)(B:Beh W X W1)(f:∀x∈X.fr,FN mk n x.2):NmI mk (n+1) W1:=λx hx=>by
 rcases(B.nm s).mp hx with⟨z,_⟩|z
 .rcases h x z with q|⟨j,hj,q⟩
  .exact .inl q
  .exact .inr ⟨j,by lia,q⟩
 .obtain⟨y,hy,rfl⟩:=LB.mp z;exact .inr ⟨n,by lia,f y hy⟩
end
def ChA.wk {H0 H H':Hp}{W:p8}{us:List Ru}{v:V}(h:ChA K H H' W us v)(s:Same H0 H):ChA K H0 H' W us v:=by
 obtain⟨t,d,i,u,fx,h1,h2,h3,h4,h5,h6⟩:=h.ex;exact⟨t,d,i,u,fx,h1,h2,h3,s.free h4,h5,h6⟩
def iY (K:Za):Sp:=λvs H Q _=>∃(S:Sd) (us:List Ru) (lr lc:Addr) (cs:List Int) (mk:Nat),vs=[.ref S.a,.ref lr,.ref lc,.str ⟨#[mk]⟩]/\SdIs K H S/\WOk 6 S.W/\H lr=some (.lst (us.map λu=>V.ref u.r))/\us.length<=2/\(∀u∈us,RuA K H u)/\SqL K H lc (cs.map V.int)/\cs.length<=11/\mk∈kSL.cps.toList/\(∀x∈b4 S.W,iJ x≠mk)/\∀(l:Addr) (ys:List StX) (H':Hp),Same H H'->H' l=some (.lst (sts ys))->ys.length<=11->(∀y∈ys,StA K H' y)->Gok S.W ys->Q (.ref l) H'
abbrev kX:=λP w K mg base=>K3 P w K mg base (ic P w) 13 "_law_row" ["_law_web_here","_law_rules","_law_cells","_law_mark_here"] [] (iY K)
def rj {f fd}(T:Txt K mg)(bq:gO P w K mg base)(iN:nI P w K mg base)(h9:C5 P w K mg base)(cv:iW P w K mg base)(R9:kc P w K mg base)(F:Fun K "_law_row" "_law_row" fb f fd):x8 P w K mg base (ic P w) 13 f fd ["_law_web_here","_law_rules","_law_cells","_law_mark_here"] (iY K):=by
 refine F.okE sc__law_row (λvs H Q E h=>?_) (λc_ A outer s H vs Q E hr h=>?_)
 .obtain⟨S,us,lr,lc,cs,mk,rfl,_⟩:=h;rfl
 .obtain⟨S,us,lr,lc,cs,mk,rfl,hS,o,hlr,Q_,P_,hlc,M',Xj,Xf,k⟩:=h;walk_at "@sc__law_row 54U9y'0QM k02o556U9u+3'0bq 70h~b63'0iN e01huc'2JQ X~g06Uf9'2kF b6g3z6521l76Eo7o89%T-~3~2~10423'0cv nb1076863nl7475h~b0A~mR602b4~n804"
  symm;refine⟨b5 (by simp),λl nl=>?_⟩;obtain⟨H1,e1,f1,m1,_⟩:=b0 (o:= .lst []) nl;rw[e1];symm;refine k8 (m1.seq hlc) ?_;refine iF (n:=cs.length) (λi σ H'=>∃(D:Sd) (ys:List StX),(∃u:Nat->Option V,σ=[some (.ref D.a),some (.ref lr),some (.ref lc),some (.str ⟨#[mk]⟩),some (.ref l),u 5,u 6,u 7,u 8])/\Same H H'/\H' l=some (.lst (sts ys))/\ys.length<=i/\SdIs K H' D/\WPm D.W (wk S.W ys)/\(∀y∈ys,StA K H' y/\y.bl≠l)/\Gok S.W ys/\NmI mk ys.length D.W) ⟨S,[],sg rfl,m1,f1,LC _,hS.same m1,WPm.rf _,(λ_ h=>nomatch h),trivial,λx hx=> .inl (Xf x hx)⟩ (λi σ H' hi hp=>by obtain⟨_,_,_,s,_⟩:=hp;exact⟨_,.int (cs[i]),s.seq hlc,by rw[LF,LA hi];rfl⟩) ?_ ?_
  .rintro i v σ H2' H2 hi ⟨D,ys,⟨u0,rfl⟩,s2,f2,Ym,hD,wD,hy,g,nm⟩ y _ _;obtain⟨rfl,hx⟩:=Itl.get y (s2.seq hlc);rw[LF,LA hi] at hx;cases hx;have oV:=wj (λy h=>(hy y h).1) o g;have oD:=oV.pm wD;generalize cs[i]=c;symm;refine⟨b5 (by simp),λle nle=>?_⟩;obtain⟨H3,e3,f3,m3,_⟩:=b0 (o:= .lst []) nle;rw[e3];rfl';refine I0 λnx hx=>?_;have fin:∀(lx:Addr) (xs:List V) (H3:Hp),Same H2 H3->H3 lx=some (.lst xs)->(∀x∈xs,ChA K H2 H3 D.W us x)->nx [some (.ref D.a),some (.ref lr),some (.ref lc),some (.str ⟨#[mk]⟩),some (.ref l),some (.int c),some (.ref lx),u0 7,u0 8] H3:=λlx xs H3 m3 f3 hx3=>by
    refine hx _ _ ?_;symm;refine⟨b5 (by simp),λl4 n4=>?_⟩;obtain⟨H4,e4,f4,m4,_⟩:=b0 (o:= .lst []) n4;rw[e4];have Su:=m3.trans m4;refine⟨lx,l4,xs,rfl,rfl,SqL.of (m4 _ _ f3),SqL.of f4,?_⟩;symm;refine Q0 (λht=>?_) (λ_=>?_);rotate_left
    .symm;walk_at "X";exact⟨D,ys,sg rfl,s2.trans Su,Su _ _ f2,by lia,hD.same Su,wD,λy h=>⟨(hy y h).1.same Su,(hy y h).2⟩,g,nm⟩
    have pos:0<xs.length:=by
     cases xs with
     |nil=>cases ht
     |cons _ _=>exact Nat.succ_pos _
    symm;refine⟨_,_,rfl,by lia,by lia,λm hm=>?_⟩;symm;refine D6 (z7 (SqL.of (m4 _ _ f3)) ?_);symm;have q0:=Nv m (show(xs.length:Int)≠0 by lia);have q1:=Ng m (show(0:Int)<(xs.length:Int) by lia);obtain⟨j,hj⟩:∃j:Nat,m % (xs.length:Int)=j:=⟨(m % (xs.length:Int)).toNat,by lia⟩
    have Xo:j<xs.length:=by lia
    rw[hj];obtain⟨t,d,n,u,fx,ev,ht,hu,nd,hd,ks,can⟩:=(hx3 _ (Mu Xo)).ex;refine j5 (v:= .ref t) (SqL.of (m4 _ _ f3)) (i9 (by rw[LA Xo,ev])) ?_;symm;refine N5 (m4.tup ht) rfl ?_;symm;have s4:=s2.trans Su;have U0:=P_ u (LV hu);have U4:=U0.same s4;refine⟨.inl ⟨rfl,_,SqL.of (Su _ _ f2)⟩,?_⟩;symm;refine j5 (v:= .ref u.r) (SqL.of (s4 _ _ hlr)) (i9 (by rw[LF,hu];rfl)) ?_;symm;refine D6 (z7 (SqL.of (Su _ _ f2)) ?_);rw[Lz];symm;refine⟨u,d,mk,ys.length,c,rfl,U4,Xj,by lia,λst f fr H5 m5 ft ff fo UY=>?_⟩;have Ss:=Su.trans m5;have f5:=Ss _ _ f2;have pk:(fx.map (·.1)).Perm (b4 u.L.W):=by rw[ks];exact(Q1 u.L.W).perm
    have U2:=U0.same s2;obtain⟨X,eX⟩:∃X:StX,X=⟨st,u.r,d,f,u.bl,u.L,u.R,fx,fr,u.bs⟩:=⟨_,rfl⟩
    have hX:StA K H5 X:=by
     rw[eX];exact⟨⟨SqT.of ft,(U4.same m5).ru,(m4.trans m5) _ _ hd,ff,(U4.same m5).b⟩,U0.x,λb hb=>⟨(d9 (U2.ru.bars b hb).hp nd).symm,(d9 (U2.ru.bars b hb).hq nd).symm⟩,pk.nodup_iff.mpr U0.ru.l.nd,pk,fo⟩
    have nX:X.bl≠l:=by rw[eX];exact d9 U0.b nl
    have cn:X.can D.W:=by rw[eX];exact⟨can,λx hx=>nm.fr (by lia) (UY x hx)⟩
    have fX:∀x∈X.fr,FN mk ys.length x.2:=by rw[eX];exact UY
    have eSt:st=X.st:=by rw[eX]
    rw[eSt];clear eX hx3 eSt UY fo ff ft can;refine⟨l,_,_,rfl,rfl,f5,?_,?_⟩
    .rw[Lz];exact Oz (show ys.length<=15 by lia) (by decide)
    have s6:=E9 (o:= .lst (sts ys++[.ref X.st])) (s4.trans m5) nl;have hA:=hX.updL (u:= .lst (sts ys++[.ref X.st])) f5 nX;have hD6:=ak (u:= .lst (sts ys++[.ref X.st])) f5 (hD.same Ss);have hy6:∀y∈ys,StA K (upd H5 l (.lst (sts ys++[.ref X.st]))) y:=λy h=>((hy y h).1.same Ss).updL f5 (hy y h).2;have f6:upd H5 l (.lst (sts ys++[.ref X.st])) l=some (.lst (sts ys++[.ref X.st])):=d8;generalize upd H5 l (.lst (sts ys++[.ref X.st]))=H6 at s6 hA hD6 hy6 f6⊢;symm;refine j5 (SqL.of f6) (L2.atI_last _ _) ?_;symm;refine gN hD6 hA oD (by lia) (λ_ D' H7 m7 hD' _ _ _ B _=>?_) (λz=>absurd cn z);symm;walk_at "X";have cr:=Cp.rf X;have cV:=cr.can hA hA wD.sy cn;have sV:Stp K H6 _ X:=⟨hA,cV⟩
    refine⟨D',ys++[X],sg rfl,s6.trans m7,by rw[m7 _ _ f6,show sts (ys++[X])=sts ys++[.ref X.st] from LK],by rw[LJ];show ys.length+1<=_;lia,hD',?_,λy h=>?_,gok_app.mpr ⟨g,cV,trivial⟩,?_⟩
    .rw[oS];exact cr.beh hA hA wD (sV.goes oV.nd) B
    .rcases LO.mp h with z|z
     .exact⟨(hy6 y z).same m7,(hy y z).2⟩
     .rw[Me.mp z];exact⟨hA.same m7,nX⟩
    .rw[LJ];exact nm.go ⟨hA,cn⟩ B fX
   clear hx;symm;refine⟨D,rfl,hD.same m3,λb hb=>?_⟩;symm;refine Q0 (λht=>?_) (λ_=>?_);rotate_left
   .rfl';exact fin le [] H3 m3 f3 λ_ h=>nomatch h
   symm;refine⟨D,us,lr,rfl,hD.same m3,(hb ht).1,(hb ht).2,(s2.trans m3) _ _ hlr,Q_,λu h=>(P_ u h).same (s2.trans m3),λl4 H4 xs m4 f4 hx4=>?_⟩;rfl';exact fin l4 xs H4 (m3.trans m4) f4 λx h=>(hx4 x h).wk m3
  rintro σ H2 ⟨D,ys,⟨u0,rfl⟩,s2,f2,Ym,hD,wD,hy,g,nm⟩;refine⟨⟨_,s2.seq hlc,by rw[Lz];exact LC _⟩,?_⟩;symm;exact k l ys H2 s2 f2 (by lia) (λy h=>(hy y h).1) g
def uS {ds:List Sd}{n:Nat}(e:ds.length=n+1):∃d,ds[n]?=some d/\mO (sI ds) (-1)=some (.ref d.a):=by
 obtain⟨i,d,rfl⟩:∃i d,ds=i++[d]:=⟨ds.dropLast,ds.getLast (by rintro rfl;cases e),(List.dropLast_concat_getLast _).symm⟩
 have z:i.length=n:=by simpa using e
 refine⟨d,by rw[←z];simp,?_⟩;rw[show sI (i++[d])=sI i++[.ref d.a] from LK];exact L2.atI_last _ _
def FC {ys:List StX}{j:Nat}(h:j+1<ys.length):∃(a:List StX) (X Y:StX) (b:List StX),ys=a++X::Y::b/\a.length=j:=by
 refine⟨ys.take j,ys[j],ys[j+1],ys.drop (j+2),?_,by rw[LM];lia⟩;rw[←ML,←ML,RI]
def Ji {H:Hp}{A C:Sd}(h:SdIs K H A)(h':SdIs K H C)(c:WPm A.W C.W):Jy K H (.ref A.a) (.ref C.a) [true,true]:=by
 have z:EqN K H 8 (.ref A.q) (.ref C.q) true:=by
  refine EqN.of0 (.inr ⟨A.q,C.q,rfl,rfl,?_⟩) _;by_cases z:A.q=C.q
  .exact .inl ⟨z,rfl⟩
  .exact rC z h.at_.ties h'.at_.ties h.at_.ts h'.at_.ts c.t (L9 h'.nd)
 exact⟨A.a,C.a,_,_,rfl,rfl,.inl ⟨h.at_.tup,h'.at_.tup⟩,rfl,rfl,oM (.cons (vH h.hp h'.hp c.p (D0 h'.nd) 8) (.cons z .nil))⟩
def yu {x:Str}(h:L8 x=true):1<=x.length:=by
 unfold L8 K0 at h;simp only[Mp,Mg] at h;have:=h.1.1.1;lia
def oW (K:Za):Sp:=λvs H Q _=>∃(a:Addr) (ns:List Int),vs=[.ref a]/\SqL K H a (ns.map V.int)/\ns.length<=63/\∀H',Q (.bl true) H'
def EW {f fd}(T:Txt K mg)(K8:bB P w K mg base)(h9:C5 P w K mg base)(bP:fP P w K mg base)(Z5:iS P w K mg base)(fe:kX P w K mg base)(bZ:jh P w K mg base)(j6:F2 P w K mg base)(C8:Q9 P w K mg base)(dC:ji P w K mg base)(Y6:dn P w K mg base)(F:Fun K "law" "law" yq f fd):x8 P w K mg base A9 16 f fd ["_law_script"] (oW K):=by
 walk_at "#sc_law"
 .obtain⟨a,ns,rfl,_⟩:=h;rfl
 .obtain⟨a,ns,rfl,hA,hl,k⟩:=h;walk_at "@sc_law 9?1_law_cell;;kp00xj1vd0_law_cell;vtvg00H'0yN 152q~lG~k~j2p01xj153q~lG~k~j2p01j1j1543'0K8 23ziq~lG~k~j2p01j1j11553'0bP 61i1156.i3'0Z5 6264213'0Z5 63642157A'0fe ~56566ia.n1i11p01j1j13'0bZ e5258FA~4~5e57~n9yBka.i11p01j1xo9huc'0zk l771f5:g3z6921H'0EK l775;A'0C8 ~565e7:h'3br c'0zK 0;PfhLNA'0dC ~565e7:9LNA'0Y6 ~56567e:;h~b70;8CSFA~4~5e57~n08f"
  symm;refine A8 hA (λp1 n1=>?_);obtain⟨H1,e1,f1,m1,_⟩:=b0 (o:= .lst _) n1;rw[e1];rw[show Q3 (ns.map V.int) none (some 24)=(ns.take 24).map V.int by rw[Pl];exact ir _ 24] at f1;generalize Wl:ns.take 24=cs at f1;have hc:cs.length<=24:=by rw[←Wl,LM];lia
  symm;refine k8 (SqL.of f1) ?_;refine j9 (n:=cs.length) (λi out H'=>Same H1 H'/\out=(cs.take i).map λx=>V.int (x % 10 ^ 60)) ⟨Same.refl _,rfl⟩ (λi out H' hi hp=>⟨_,.int (cs[i]),SqL.of (hp.1 _ _ f1),by rw[LF,LA hi];rfl⟩) ?_ ?_
  .rintro N i v out H2 H3 hi ⟨s1,rfl⟩ y hN';obtain⟨rfl,hx⟩:=Itl.get y (SqL.of (s1 _ _ f1));rw[LF,LA hi] at hx;cases hx;symm;refine⟨rfl,?_⟩;symm;refine⟨b5 (by rw[Lz,LM];lia),hN' _ _ ⟨s1,?_⟩⟩;exact A1 (λx:Int=>V.int (x % 10 ^ 60)) (LA hi)
  rintro out H2 ⟨s1,rfl⟩;refine⟨⟨_,SqL.of (s1 _ _ f1),by rw[Lz];exact LC _⟩,λD hD=>⟨b5 (by rw[Lz,LM];lia),?_⟩⟩;rw[LN (LC _)];obtain⟨H3,e3,f3,m3,_⟩:=b0 (o:= .lst (cs.map λx=>V.int (x % 10 ^ 60))) hD;change O5 _ _ _ (upd H2 D _) _;rw[e3];obtain⟨ds,O',Sr⟩:∃ds:List Int,(cs.map λx=>V.int (x % 10 ^ 60))=ds.map V.int/\ds.length=cs.length:=⟨cs.map λx=>x % 10 ^ 60,by rw[Mo];rfl,Lz _⟩
  rw[O'] at f3;clear O' Wl f1 e3 e1;symm;refine A8 (SqL.of f3) (λp4 n4=>?_);obtain⟨H4,e4,f4,m4,_⟩:=b0 (o:= .lst _) n4;rw[e4];obtain⟨u4,z4⟩:=ko ds none (some 1);rw[z4] at f4;symm;refine vV (SqL.of f4) ?_;symm;have Xp:=m4 _ _ f3;refine A8 (SqL.of Xp) (λp5 n5=>?_);obtain⟨H5,e5,f5,m5,_⟩:=b0 (o:= .lst _) n5;rw[e5];obtain⟨u5,z5⟩:=ko ds (some 1) (some 2);rw[z5] at f5;symm;refine vV (SqL.of f5) ?_;symm;have Xq:=m5 _ _ Xp;refine A8 (SqL.of Xq) (λp6 n6=>?_);obtain⟨H6,e6,f6,m6,_⟩:=b0 (o:= .lst _) n6;rw[e6];obtain⟨u6,z6⟩:=ko ds (some 2) (some 3);rw[z6] at f6;symm;refine vV (SqL.of f6) ?_;symm;refine⟨_,_,rfl,by lia,by lia,λm hm=>?_⟩;symm;refine⟨_,rfl,λlk H7 ks n7 m7 f7 hks=>?_⟩;have Xr:=m7 _ _ (m6 _ _ Xq);clear f3 Xp Xq f4 f5 f6 z4 z5 z6 e4 e5 e6;generalize u4.sum=c1;generalize u5.sum=c2;symm;refine⟨D,ds,rfl,SqL.of Xr,λa' p q kvs W H8 m8 hW hG=>?_⟩;have S8:SdIs K H8 ⟨a',p,q,kvs,W⟩:=WebIs.up hW (by decide);have I_:=hW.len;have o:WOk 6 W:=by
   rw[E4] at I_;exact⟨hW.nd,hW.ends,hW.nl,by lia,by lia⟩
  obtain⟨S,eS⟩:∃S:Sd,S=⟨a',p,q,kvs,W⟩:=⟨_,rfl⟩
  rw[←eS] at S8;rw[show a'=S.a by rw[eS]];rw[show W=S.W by rw[eS]] at o hG I_;clear eS hW;symm;refine⟨_,lk,ks,rfl,SqL.of (m8 _ _ f7),hks.1,hks.2,λr1 b1 L1 R1 bs1 H9 m9 hR1 Vg hx1=>?_⟩;symm;refine⟨_,lk,ks,rfl,SqL.of (m9 _ _ (m8 _ _ f7)),hks.1,hks.2,λr2 b2 Lb Rb bs2 WS T_ hR2 Rn TM=>?_⟩;symm;refine⟨b5 (by simp),λlr nlr=>?_⟩;obtain⟨XY,e11,UB,m11,_⟩:=b0 (o:= .lst [.ref r1,.ref r2]) nlr;rw[e11];obtain⟨us,eu,Q_,P_⟩:∃us:List Ru,[V.ref r1,V.ref r2]=us.map (λu=>V.ref u.r)/\us.length<=2/\∀u∈us,RuA K XY u:=⟨[⟨r1,b1,L1,R1,bs1⟩,⟨r2,b2,Lb,Rb,bs2⟩],rfl,LC _,λu hu=>by
   rcases Mr.mp hu with rfl|hu
   .exact(⟨hR1,Vg,hx1⟩:RuA K H9 _).same (T_.trans m11)
   .rw[Me.mp hu];exact(⟨hR2,Rn,TM⟩:RuA K WS _).same m11⟩
  rw[eu] at UB;have Xs:=m9.trans (T_.trans m11);have Yr:=S8.same Xs;have fD:=Xs _ _ (m8 _ _ Xr);clear eu hR1 Vg hx1 hR2 Rn TM Xr f7 e11;symm;refine⟨b5 (by simp),λl12 n12=>?_⟩;obtain⟨H12,XZ,VT,s_,_⟩:=b0 (o:= .lst [.int 5,.int 6,.int 7]) n12;rw[XZ];symm;refine A8 (SqL.of (s_ _ _ fD)) (λp13 n13=>?_);obtain⟨H13,X_,UM,TJ,_⟩:=b0 (o:= .lst _) n13;rw[X_];rw[show Q3 (ds.map V.int) (some 8) (some 16)=_ from AX ds 8 16] at UM;obtain⟨Xt,z13,l13⟩:∃Xt,((ds.drop (min 8 ds.length)).take (min 16 ds.length -min 8 ds.length))=Xt/\Xt.length<=8:=⟨_,rfl,by rw[LM];lia⟩
  rw[z13] at UM;refine eh (TJ _ _ VT) UM (b5 (by rw[Lz];show 3+_<=1000;lia)) (λl14 n14=>?_);obtain⟨H14,e14,Xu,Vq,_⟩:=b0 (o:= .lst _) n14;rw[e14];rw[show [V.int 5,V.int 6,V.int 7]++Xt.map V.int=([5,6,7]++Xt).map V.int by rw[LK];rfl] at Xu;have UR:=s_.trans (TJ.trans Vq);symm;refine⟨S,_,rfl,Yr.same UR,by lia,λx hx=>yu (hG.nm x hx),λmk H15 m15 Xj hhd=>?_⟩;have SD:=UR.trans m15;symm;refine⟨S,us,lr,l14,_,mk,rfl,Yr.same SD,o,SD _ _ UB,Q_,λu hu=>(P_ u hu).same SD,SqL.of (m15 _ _ Xu),by rw[LJ];show 3+_<=11;lia,Xj,hhd,λly ys H16 Uc f16 Ym hy g=>?_⟩;have US:=SD.trans Uc;have S16:=Yr.same US;have Xv:=US _ _ fD;clear VT UM Xu UB P_ XZ X_ e14 Yr S8 hhd;symm;refine⟨S,ly,ys,6,rfl,S16,o,by lia,SqL.of f16,hy,λ_ l17 es H17 m17 f17 el17 h17=>?_,λz=>absurd g z⟩;obtain⟨E,hE,aE⟩:=uS el17;obtain⟨SE,wE⟩:=h17 _ E hE;rw[LN (LC _)] at wE;symm;refine j5 (SqL.of f17) aE ?_;symm;refine⟨b5 (by simp),λl18 n18=>?_⟩;obtain⟨H18,e18,Ys,m18,_⟩:=b0 (o:= .lst [.int 0,.int 1]) n18;rw[e18];symm;refine A8 (SqL.of ((m17.trans m18) _ _ Xv)) (λp19 n19=>?_);obtain⟨H19,e19,Xw,m19,_⟩:=b0 (o:= .lst _) n19;rw[e19];rw[show Q3 (ds.map V.int) (some 16) none=(ds.drop 16).map V.int by rw[Qc];exact dj _ 16] at Xw;refine eh (m19 _ _ Ys) Xw (b5 (by rw[Lz,MY];show 2+_<=1000;lia)) (λl20 ZW=>?_);obtain⟨H20,e20,UU,m20,_⟩:=b0 (o:= .lst _) ZW;rw[e20];rw[show [V.int 0,V.int 1]++(ds.drop 16).map V.int=([0,1]++ds.drop 16).map V.int by rw[LK];rfl] at UU;generalize [0,1]++ds.drop 16=To at UU;have UW:=m18.trans (m19.trans m20);have TU:=m17.trans UW;have S20:=S16.same TU;have SE20:=SE.same UW;clear Ys Xw e18 e19 e20 h17 f17 Xv fD;refine k8 (SqL.of UU) ?_;refine iF (n:=To.length) (λi σ H'=>∃(lt:Addr) (zs:List StX),(∃u:Nat->Option V,σ=[some (.ref a),some (.ref D),some (.int c1),some (.int c2),some (.ref lk),some (.ref S.a),some (.ref lr),some (.ref lt),some (.ref E.a),u 9,u 10,u 11])/\Same H20 H'/\H' lt=some (.lst (sts zs))/\zs.length<=11/\(∀z∈zs,StA K H' z)/\Gok S.W zs/\WPm (wk S.W zs) (wk S.W ys)) ⟨ly,ys,sg rfl,Same.refl _,TU _ _ f16,Ym,λy h=>(hy y h).same TU,g,WPm.rf _⟩ (λi σ H' hi hp=>by obtain⟨_,_,_,s,_⟩:=hp;exact⟨_,.int (To[i]),SqL.of (s _ _ UU),by rw[LF,LA hi];rfl⟩) ?_ ?_
  .rintro i v σ H21' H21 hi ⟨lt,zs,⟨u0,rfl⟩,UC,UX,zl,hz,gz,wz⟩ y _ _;obtain⟨rfl,hx⟩:=Itl.get y (SqL.of (UC _ _ UU));rw[LF,LA hi] at hx;cases hx;generalize To[i]=c;symm;refine D6 (z7 (SqL.of UX) ?_);rw[Lz];symm;refine M4 (λh1=>?_) (λ_=>?_);rotate_left
   .symm;walk_at "X";exact⟨lt,zs,sg rfl,UC,UX,zl,hz,gz,wz⟩
   symm;refine⟨_,_,rfl,by lia,by lia,λm hm=>?_⟩;symm;refine D6 (z7 (SqL.of UX) ?_);rw[Lz];symm;have q0:=Nv m (show(zs.length:Int) -1≠0 by lia);have q1:=Ng m (show(0:Int)<(zs.length:Int) -1 by lia);obtain⟨j,hj⟩:∃j:Nat,m % ((zs.length:Int) -1)=j:=⟨(m % ((zs.length:Int) -1)).toNat,by lia⟩
   rw[hj];obtain⟨a1,X,Y,b1,rfl,rfl⟩:=FC (ys:=zs) (j:=j) (by lia);have I:RowI K H21 S lt a1 b1 X Y:=⟨S20.same UC,o,zl,UX,hz,gz⟩
   refine⟨S,lt,a1,b1,X,Y,rfl,I,λng H22 m22=>?_,λgt l22 us' H22 m22 f22 hu c22=>?_⟩
   .symm;rw[if_pos (by simp)];symm;refine⟨S,lt,a1,b1,X,Y,rfl,I.same m22,ng,λH23 Ud=>?_⟩;have Yt:=(I.same m22).same Ud;symm;walk_at "X";exact⟨lt,_,sg rfl,UC.trans (m22.trans Ud),Yt.r,zl,Yt.y,gz,wz⟩
   .symm;rw[if_neg (by simp)];symm;refine⟨S,lt,l22,a1,b1,us',X,Y,rfl,I.same m22,gt,f22,hu,c22,λH23 Ud=>?_⟩;have Yt:=(I.same m22).same Ud;have hu23:∀z∈us',StA K H23 z:=λz h=>(hu z h).same Ud;obtain⟨a2,b2,X2,Y2,rfl,J,_,_,_,w2⟩:=Yt.sw gt (Ud _ _ f22) hu23 c22;symm;walk_at "X";exact⟨l22,_,sg rfl,UC.trans (m22.trans Ud),J.r,J.l,J.y,J.g,w2.tr wz⟩
  rintro σ H21 ⟨lt,zs,⟨u0,rfl⟩,UC,UX,zl,hz,gz,wz⟩;refine⟨⟨_,SqL.of (UC _ _ UU),by rw[Lz];exact LC _⟩,?_⟩;symm;refine⟨S,lt,zs,6,rfl,S20.same UC,o,by lia,SqL.of UX,hz,λ_ l22 es2 H22 m22 f22 el22 h22=>?_,λz=>absurd gz z⟩;obtain⟨F,hF,aF⟩:=uS el22;obtain⟨SF,wF⟩:=h22 _ F hF;rw[LN (LC _)] at wF;symm;refine j5 (SqL.of f22) aF ?_;symm;refine .inr ⟨_,Ji SF (SE20.same (UC.trans m22)) (wF.tr (wz.tr wE.sy)),?_⟩;exact k H22
end
def all_mk {l:PySem.W.OpenLaw}{w:World}{K:Za}{h:Heap}{mg:Str->Option Value}{fa f0 f1 f2 f3 f4 f5 f6 f7 f8 f9 Vt UB VT UM Xu f15 f16 f17 Ys Xw UU UX f22 f23 f24 f25 f26 f27 f28 f29 f30 f31 f32 f33 Xp Xq f36 Xr f38 f39 f40 f41 f42 f43 f44 f45 f46 f47 f48 f49 f50 f51 f52 f53 f54 f55 f56 f57 f58 f59 f60 f61:Addr}{od11 an11:Option Addr}{sl11:Array (Option Value)}{oc11 kV11 dc11 pm11 Xx ct11:Value}{T11:Addr}{tc11:Value}{td11:Option Addr}{tn11:Nat}{ts11:Array (Option Value)}{t_MOST_NAME_SIGNS t_NAME_SIGNS t_SMALL_LETTERS:Tok}{C_Barred C_GlueError C_Loose C_NoMatch C_NoNames:Addr}{cd_GlueError:ClassData}(X:K.In h)(G:h.Ns mainGlobals mg)(Zc:mg "law"=some (.ref fa))
  (a0:FnIn K "is_text_of" bI f0)
  (a1:FnIn K "is_name" iB f1)
  (a2:FnIn K "in_order" eZ f2)
  (a3:FnIn K "copied" kZ f3)
  (a4:FnIn K "things" jQ f4)
  (a5:FnIn K "without" ie f5)
  (a6:FnIn K "united" kj f6)
  (a7:FnIn K "tie_renamed" ax f7)
  (a8:FnIn K "renamed" iz f8)
  (a9:FnIn K "is_match" fi f9)
  (a10:FnIn K "line" tw Vt)
  (a11:PySem.W.nsIn K mainGlobals "matches"=some (some (.ref UB))) (l11:K.lookup UB=some ⟨oc11,od11,.func (PySem.W.fnOf "matches" "matches" (O9 W5) (J1 W5) (b9 W5) (.ref T11) kV11 dc11 pm11 an11 Xx ct11),sl11⟩) (c11:PySem.W.codeIn K Xx "matches"=true) (k11:PySem.W.keepIn K (.ref UB)=true) (t11:K.lookup T11=some ⟨tc11,td11,.seq #[Value.none] tn11,ts11⟩)
  (a12:FnIn K "first_match" au VT)
  (a13:FnIn K "first_found" aJ UM)
  (a14:FnIn K "found" pv Xu)
  (a15:FnIn K "may_be" kJ f15)
  (a16:FnIn K "point_choices" V1 f16)
  (a17:FnIn K "tie_places" bF f17)
  (a18:FnIn K "enough" jT Ys)
  (a19:FnIn K "lines" pL Xw)
  (a20:FnIn K "images" lX UU)
  (a21:FnIn K "tie_choices" aM UX)
  (a22:FnIn K "has_room" fq f22)
  (a23:FnIn K "both" tF f23)
  (a24:FnIn K "alone" pq f24)
  (a25:FnIn K "kept" tO f25)
  (a26:FnIn K "taken" pG f26)
  (a27:FnIn K "fresh_of" fm f27)
  (a28:FnIn K "rule_copied" aH f28)
  (a29:FnIn K "picked" lS f29)
  (a30:FnIn K "barred" lh f30)
  (a31:FnIn K "taken_out" cW f31)
  (a32:FnIn K "names_serve" aL f32)
  (a33:FnIn K "rest_of" iM f33)
  (a34:FnIn K "done" uf Xp)
  (a35:FnIn K "behind" kO Xq)
  (a36:FnIn K "step_copied" aB f36)
  (a37:FnIn K "gone_through" X9 Xr)
  (a38:FnIn K "row_copied" bt f38)
  (a39:FnIn K "common" jW f39)
  (a40:FnIn K "clash" oI f40)
  (a41:FnIn K "can_be_gone_through" G8 f41)
  (a42:FnIn K "changed_places" R4 f42)
  (a43:FnIn K "can_be_done" aG f43)
  (a44:FnIn K "choices" iu f44)
  (a45:FnIn K "_law_mixed" bJ f45)
  (a46:FnIn K "_law_names" bH f46)
  (a47:FnIn K "_law_kinds" bD f47)
  (a48:FnIn K "_law_web" fj f48)
  (a49:FnIn K "_law_drawn" bM f49)
  (a50:FnIn K "_law_words" bG f50)
  (a51:FnIn K "_law_piece" bo f51)
  (a52:FnIn K "_law_rule" cQ f52)
  (a53:FnIn K "_law_things" ay f53)
  (a54:FnIn K "_law_mark" cJ f54)
  (a55:FnIn K "_law_small" bL f55)
  (a56:FnIn K "_law_step" dz f56)
  (a57:FnIn K "_law_row" fb f57)
  (a58:FnIn K "_law_can" eW f58)
  (a59:FnIn K "_law_changed" Y1 f59)
  (a60:FnIn K "_law_kept" dv f60)
  (a61:FnIn K "law" yq f61)
  (z_all:PySem.W.nsIn K mainGlobals "all"=some none)
  (z_any:PySem.W.nsIn K mainGlobals "any"=some none)
  (z_dict:PySem.W.nsIn K mainGlobals "dict"=some none)
  (z_enumerate:PySem.W.nsIn K mainGlobals "enumerate"=some none)
  (z_isinstance:PySem.W.nsIn K mainGlobals "isinstance"=some none)
  (z_len:PySem.W.nsIn K mainGlobals "len"=some none)
  (z_list:PySem.W.nsIn K mainGlobals "list"=some none)
  (z_max:PySem.W.nsIn K mainGlobals "max"=some none)
  (z_range:PySem.W.nsIn K mainGlobals "range"=some none)
  (z_reversed:PySem.W.nsIn K mainGlobals "reversed"=some none)
  (z_set:PySem.W.nsIn K mainGlobals "set"=some none)
  (z_sorted:PySem.W.nsIn K mainGlobals "sorted"=some none)
  (z_str:PySem.W.nsIn K mainGlobals "str"=some none)
  (z_sum:PySem.W.nsIn K mainGlobals "sum"=some none)
  (z_zip:PySem.W.nsIn K mainGlobals "zip"=some none)
  (v_MOST_NAME_SIGNS:PySem.W.nsIn K mainGlobals "MOST_NAME_SIGNS"=some (some (.int 24 t_MOST_NAME_SIGNS)))
  (v_NAME_SIGNS:PySem.W.nsIn K mainGlobals "NAME_SIGNS"=some (some (.str gk t_NAME_SIGNS)))
  (v_SMALL_LETTERS:PySem.W.nsIn K mainGlobals "SMALL_LETTERS"=some (some (.str bT t_SMALL_LETTERS)))
  (n_Barred:PySem.W.nsIn K mainGlobals "Barred"=some (some (.ref C_Barred)))
  (n_GlueError:PySem.W.nsIn K mainGlobals "GlueError"=some (some (.ref C_GlueError)))
  (n_Loose:PySem.W.nsIn K mainGlobals "Loose"=some (some (.ref C_Loose)))
  (n_NoMatch:PySem.W.nsIn K mainGlobals "NoMatch"=some (some (.ref C_NoMatch)))
  (n_NoNames:PySem.W.nsIn K mainGlobals "NoNames"=some (some (.ref C_NoNames)))
  (xr_Barred:PySem.W.excIn K C_Barred GK "ValueError.__new__"=true)
  (xr_Loose:PySem.W.excIn K C_Loose GK "ValueError.__new__"=true)
  (xr_NoMatch:PySem.W.excIn K C_NoMatch GK "ValueError.__new__"=true)
  (xr_NoNames:PySem.W.excIn K C_NoNames GK "ValueError.__new__"=true)
  (xt_GlueError:PySem.W.typeIn K (.ref C_GlueError)=some (.type "type"))
  (xb_GlueError:PySem.W.subIn K (.ref C_GlueError) (.type "BaseException")=some true)
  (xc_GlueError:PySem.W.clsIn K C_GlueError=some cd_GlueError)
  (xs_Barred_GlueError:PySem.W.subIn K (.ref C_Barred) (.ref C_GlueError)=some true)
  (xs_Loose_GlueError:PySem.W.subIn K (.ref C_Loose) (.ref C_GlueError)=some true)
  (xs_NoMatch_GlueError:PySem.W.subIn K (.ref C_NoMatch) (.ref C_GlueError)=some true)
  (xs_NoNames_GlueError:PySem.W.subIn K (.ref C_NoNames) (.ref C_GlueError)=some true)
  :
  ∃fd:FuncData,(∀(s:Shared) (v:Value),BindsTo s fd ⟨[v],[]⟩ [("_law_script",v)])/\∀base:Heap,K.In base->base.Ns mainGlobals mg->x8 l.prog w K mg base A9 16 fa fd ["_law_script"] (oW K):=by
 have ec_Barred:cA K "Barred"=C_Barred:=by unfold cA;rw[n_Barred]
 have ec_GlueError:cA K "GlueError"=C_GlueError:=by unfold cA;rw[n_GlueError]
 have ec_Loose:cA K "Loose"=C_Loose:=by unfold cA;rw[n_Loose]
 have ec_NoMatch:cA K "NoMatch"=C_NoMatch:=by unfold cA;rw[n_NoMatch]
 have ec_NoNames:cA K "NoNames"=C_NoNames:=by unfold cA;rw[n_NoNames]
 have T:Txt K mg:=⟨by rw[ec_Barred];exact⟨Nu X G n_Barred,xr_Barred⟩,by rw[ec_Loose];exact⟨Nu X G n_Loose,xr_Loose⟩,by rw[ec_NoMatch];exact⟨Nu X G n_NoMatch,xr_NoMatch⟩,by rw[ec_NoNames];exact⟨Nu X G n_NoNames,xr_NoNames⟩,by rw[ec_GlueError];exact⟨Nu X G n_GlueError,xt_GlueError,xb_GlueError,by rw[xc_GlueError];rfl⟩,by rw[ec_Barred,ec_GlueError];exact xs_Barred_GlueError,by rw[ec_Loose,ec_GlueError];exact xs_Loose_GlueError,by rw[ec_NoMatch,ec_GlueError];exact xs_NoMatch_GlueError,by rw[ec_NoNames,ec_GlueError];exact xs_NoNames_GlueError,MJ X G z_all,MJ X G z_any,MJ X G z_dict,MJ X G z_enumerate,MJ X G z_isinstance,MJ X G z_len,MJ X G z_list,MJ X G z_max,MJ X G z_range,MJ X G z_reversed,MJ X G z_set,MJ X G z_sorted,MJ X G z_str,MJ X G z_sum,MJ X G z_zip,⟨_,Nu X G v_MOST_NAME_SIGNS,_,rfl⟩,⟨_,Nu X G v_NAME_SIGNS,_,rfl⟩,⟨_,Nu X G v_SMALL_LETTERS,_,rfl⟩⟩
 refine Fq X G Zc a61 (fun{base f fd} F=>?_) λ_ _ _ _ _ _ s v=> .of_eq rfl
 have bE:gR l.prog w K mg base:=j3 X G a0 (λF=>my T F) (by walk_at "b")
 have bN:kI l.prog w K mg base:=j3 X G a2 (λF=>rB T F) (by walk_at "b")
 have p7:M8 l.prog w K mg base:=j3 X G a4 (λF=>xJ T F) (by walk_at "b")
 have B6:T8 l.prog w K mg base:=j3 X G a7 (λF=>kG T F) (by walk_at "b")
 have aP:lG l.prog w K mg base:=j3 X G a15 (λF=>xr T F) (by walk_at "b")
 have aT:kN l.prog w K mg base:=j3 X G a18 (λF=>wq T F) (by walk_at "b")
 have P9:jX l.prog w K mg base:=j3 X G a29 (λF=>yn T F) (by walk_at "b")
 have gS:qQ l.prog w K mg base:=j3 X G a39 (λF=>wy T F) (by walk_at "b")
 have h9:C5 l.prog w K mg base:=j3 X G a45 (λF=>mJ T F) (by walk_at "b")
 have K8:bB l.prog w K mg base:=j3 X G a47 (λF=>mh T F) (by walk_at "b")
 have G7:aI l.prog w K mg base:=j3 X G a53 (λF=>jU T F) (by walk_at "b")
 have bq:gO l.prog w K mg base:=j3 X G a55 (λF=>mx T F) (by walk_at "b")
 have iE:nM l.prog w K mg base:=j3 X G a1 (λF=>tX T bE F) (by walk_at "b")
 have B8:aV l.prog w K mg base:=j3 X G a3 (λF=>xT T bN F) (by walk_at "b")
 have tM:zU l.prog w K mg base:=j3 X G a10 (λF=>BR T p7 F) (by walk_at "b")
 have V5:bS l.prog w K mg base:=j3 X G a16 (λF=>iO T aP F) (by walk_at "b")
 have bg:gr l.prog w K mg base:=j3 X G a17 (λF=>mH T aP F) (by walk_at "b")
 have G5:aD l.prog w K mg base:=j3 X G a21 (λF=>kU T B6 F) (by walk_at "b")
 have sZ:AW l.prog w K mg base:=j3 X G a23 (λF=>Cu T p7 F) (by walk_at "b")
 have dO:qk l.prog w K mg base:=j3 X G a24 (λF=>AO T p7 F) (by walk_at "b")
 have bC:gM l.prog w K mg base:=j3 X G a46 (λF=>mr T h9 F) (by walk_at "b")
 have fz:lT l.prog w K mg base:=j3 X G a48 (λF=>rh T h9 F) (by walk_at "b")
 have bc:gG l.prog w K mg base:=j3 X G a50 (λF=>mz T h9 F) (by walk_at "b")
 have P6:gf l.prog w K mg base:=j3 X G a51 (λF=>mG T h9 F) (by walk_at "b")
 have bZ:jh l.prog w K mg base:=j3 X G a54 (λF=>qa T G7 F) (by walk_at "b")
 have cv:iW l.prog w K mg base:=j3 X G a56 (λF=>oE T G7 F) (by walk_at "b")
 have ij:mX l.prog w K mg base:=j3 X G a5 (λF=>tZ T B8 F) (by walk_at "b")
 have kH:sr l.prog w K mg base:=j3 X G a6 (λF=>wV T B8 F) (by walk_at "b")
 have iC:mQ l.prog w K mg base:=j3 X G a8 (λF=>tW T B6 B8 F) (by walk_at "b")
 have fu:lq l.prog w K mg base:=j3 X G a9 (λF=>sx T p7 tM B6 F) (by walk_at "b")
 have eY:lJ l.prog w K mg base:=j3 X G a22 (λF=>rp T aT G5 F) (by walk_at "b")
 have tQ:AE l.prog w K mg base:=j3 X G a25 (λF=>CW T sZ F) (by walk_at "b")
 have pY:vf l.prog w K mg base:=j3 X G a26 (λF=>Ay T dO F) (by walk_at "b")
 have F9:bp l.prog w K mg base:=j3 X G a27 (λF=>qD T dO F) (by walk_at "b")
 have aA:eR l.prog w K mg base:=j3 X G a28 (λF=>lL T B8 F) (by walk_at "b")
 have bP:fP l.prog w K mg base:=j3 X G a49 (λF=>ma T fz K8 h9 bC F) (by walk_at "b")
 have Z5:iS l.prog w K mg base:=j3 X G a52 (λF=>pO T bc P6 h9 F) (by walk_at "b")
 have jV:qp l.prog w K mg base:=j3 X G a20 (λF=>xR T p7 G5 eY F) (by walk_at "b")
 have J5:dA l.prog w K mg base:=j3 X G a31 (λF=>oO T pY F) (by walk_at "b")
 have aN:eN l.prog w K mg base:=j3 X G a32 (λF=>kY T F9 iE F) (by walk_at "b")
 have jK:rQ l.prog w K mg base:=j3 X G a35 (λF=>wm T P9 tQ F9 p7 F) (by walk_at "b")
 have az:dY l.prog w K mg base:=j3 X G a36 (λF=>lU T P9 F9 p7 aA F) (by walk_at "b")
 have oN:vm l.prog w K mg base:=j3 X G a19 (λF=>AQ T p7 jV F) (by walk_at "b")
 have bu:fS l.prog w K mg base:=j3 X G a38 (λF=>mf T az F) (by walk_at "b")
 have bz:oz l.prog w K mg base:=j3 X G a14 (λF=>yI T V5 aT bg p7 oN F) (by walk_at "b")
 have F11:=BP (st:=W5) l11 c11 k11
 have mW:K3 l.prog w K mg base A9 7 "matches" ["piece","web","fixed"] [] (Y7 K):=⟨UB,_,[],kC T bz F11,Nu X G a11,k11,λs us hX hl=>(match us,(by simpa using hl:us.length=3) with|[_,_,_],_=>PySem.W.binds_K hX rfl t11 rfl rfl rfl),.nil⟩
 have bX:K3 l.prog w K mg base A9 7 "matches" ["piece","web","fixed"] [.non] (Y7 K):=⟨UB,_,[Value.none],kC T bz F11,Nu X G a11,k11,λs us hX hl=>(match us,(by simpa using hl:us.length=2) with|[_,_],_=>PySem.W.binds_K hX rfl t11 rfl rfl rfl),.cons rfl .nil⟩
 have aK:ej l.prog w K mg base:=j3 X G a13 (λF=>lu T bz F) (by walk_at "b")
 have av:eO l.prog w K mg base:=j3 X G a12 (λF=>lj T aK F) (by walk_at "b")
 have X4:lR l.prog w K mg base:=j3 X G a30 (λF=>xM T av F) (by walk_at "b")
 have V9:iL l.prog w K mg base:=j3 X G a33 (λF=>uh T fu ij J5 X4 F) (by walk_at "b")
 have R9:kc l.prog w K mg base:=j3 X G a34 (λF=>Cs T V9 aN kH iC jK F) (by walk_at "b")
 have aw:eT l.prog w K mg base:=j3 X G a43 (λF=>lI T V9 F) (by walk_at "b")
 have j6:F2 l.prog w K mg base:=j3 X G a37 (λF=>jl T B8 R9 F) (by walk_at "b")
 have dH:ow l.prog w K mg base:=j3 X G a40 (λF=>zo T R9 gS J5 X4 F) (by walk_at "b")
 have iN:nI l.prog w K mg base:=j3 X G a44 (λF=>uJ T aw mW bX F) (by walk_at "b")
 have fJ:ku l.prog w K mg base:=j3 X G a58 (λF=>sG T R9 F) (by walk_at "b")
 have G9:Q5 l.prog w K mg base:=j3 X G a41 (λF=>bO T j6 F) (by walk_at "b")
 have fe:kX l.prog w K mg base:=j3 X G a57 (λF=>rj T bq iN h9 cv R9 F) (by walk_at "b")
 have dC:ji l.prog w K mg base:=j3 X G a60 (λF=>oC T j6 fJ dH F) (by walk_at "b")
 have C8:Q9 l.prog w K mg base:=j3 X G a42 (λF=>fO T j6 G9 bu F) (by walk_at "b")
 have Y6:dn l.prog w K mg base:=j3 X G a59 (λF=>jn T j6 C8 dH F) (by walk_at "b")
 exact EW T K8 h9 bP Z5 fe bZ j6 C8 dC Y6 F
def walk {l:PySem.W.OpenLaw}{q:Program}{loose:List Str}{XP:(Str->Option Value)->Heap->Prop}{YP:World->Heap->Prop}{d:DefRec}{K:Params->Za}(hn:l.most=some 63)(Wn:d.params.defaults=[])
  (hY:∀(w:World) (h:Heap),YP w h->(K w.params).In h)
  (F:∀(w:World) (mg:Str->Option Value) (fa:Addr) (h:Heap),(K w.params).In h->h.Ns mainGlobals mg->mg d.name=some (.ref fa)->
   ∃fd:FuncData,(∀(s:Shared) (u:Value),BindsTo s fd ⟨[u],[]⟩ [("_law_script",u)])/\∀base:Heap,(K w.params).In base->base.Ns mainGlobals mg->x8 l.prog w (K w.params) mg base A9 16 fa fd ["_law_script"] (oW (K w.params))):
  PySem.W.WalkO q loose XP YP l.row.toRowW d [] (λf vs=>PySem.call f vs):=
 L2.walk_of (n:=63) (k:=16) (x:="_law_script") (CX:=λ_=>A9) (sp:=λw=>oW (K w.params)) hn (by decide) Wn ⟨rfl,by decide,by decide⟩ hY F (λ_ _ a ns hl _ hS=>⟨a,ns,rfl,hS,hl,λ_=>rfl⟩) λ_ _ _ _ _ z=>z
end K82
namespace PySem.W.Fast
def tw8858207015482761082:=Nat
def tw12897812659114485664:=Nat
def tw13690296909480446894:=Nat
def tw1545306953703112933:=Nat
def tw407640299756430648:=Nat
def tw13228795281719684946:=Nat
def tw12347005318552579194:=Nat
def tw5428028792470498721:=Nat
def tw18385191817314933385:=Nat
def tw12339342189445847974:=Nat
def tw2341677787882937199:=Nat
def tw17830940991598056851:=Nat
def tw17124326099763975711:=Nat
def tw13510702696361223136:=Nat
def tw7095945494682408680:=Nat
def tw2335810399419736593:=Nat
def tw1318647165774975227:=Nat
def tw590687748510859963:=Nat
def tw3329316453966020313:=Nat
def tw17117855680002741811:=Nat
def tw17203421052638541076:=Nat
def tw2336893364135401417:=Nat
def tw4999361113570348538:=Nat
def tw11693903598495280798:=Nat
def tw12327342053177623661:=Nat
def tw11592369542032388940:=Nat
def tw13830890080269067321:=Nat
def tw13449352561764194651:=Nat
def tw8652343710198191378:=Nat
def tw9979983174200469570:=Nat
def tw11015055097157086820:=Nat
def tw16011250912689809557:=Nat
def tw12161322519003877037:=Nat
def tw362583992869911330:=Nat
def tw8502703347065339614:=Nat
def tw3742303791647201611:=Nat
def tw3204020376087883071:=Nat
def tw6735676371913871896:=Nat
def tw2902180331852227463:=Nat
def tw2107397347121867383:=Nat
def tw2577699650305872216:=Nat
def tw7448952585708392796:=Nat
def tw4334301857598758938:=Nat
def tw14545038633861931436:=Nat
def tw1273314879519869773:=Nat
def tw4908069843175808247:=Nat
def tw12896489566366615623:=Nat
def tw9788972502517270390:=Nat
def tw4009932703343485111:=Nat
def tw2343496658732446645:=Nat
def tw8104789378307937111:=Nat
def tw2012722048110564126:=Nat
def tw16361814502778611765:=Nat
def tw17993707457596031822:=Nat
def tw11280002427345204149:=Nat
def tw8335934302929538869:=Nat
def tw359293746478781410:=Nat
def tw1980071960392494128:=Nat
def tw13070238835909814630:=Nat
def tw18104961936134341692:=Nat
def tw4859890728162807435:=Nat
def tw12721034570148403823:=Nat
def tw6733445039964960434:=Nat
def tw12168470338660571107:=Nat
def tw6667418776849921310:=Nat
def tw817458996574799603:=Nat
def tw18057205354388893776:=Nat
def tw9480435947494629691:=Nat
def tw10847848798382179255:=Nat
def tw14476561922618786823:=Nat
def tw1732861623033801292:=Nat
def tw11998197443067841083:=Nat
def tw3175415904765272019:=Nat
def tw17692608217849649426:=Nat
def tw9701028747135845920:=Nat
def tw12084044852044470392:=Nat
def tw18033542403035829571:=Nat
def tw7250223536938922670:=Nat
def tw2780484270606179909:=Nat
def tw3235535499228815767:=Nat
def tw14614280492543570590:=Nat
def tw2991998404722257100:=Nat
def tw2581513232715102593:=Nat
def tw7670956059855923988:=Nat
def tw9710043051259024073:=Nat
def tw15555076346017409156:=Nat
def tw6175437730683411595:=Nat
def tw16742238046870473089:=Nat
def tw13503708595985420125:=Nat
def tw10161325744768575789:=Nat
def tw13688449141094846685:=Nat
def tw14748416438207112193:=Nat
def tw6441312911584439595:=Nat
def tw16413265159725275830:=Nat
def tw17463230970159951339:=Nat
def tw2123255002952604483:=Nat
def tw8926971556875126407:=Nat
def tw4749976469324431269:=Nat
def tw12036772676652407701:=Nat
def tw17577157806667473674:=Nat
def tw15747209943730517699:=Nat
def tw1663129387544763791:=Nat
def tw11354537564603506782:=Nat
def tw7209621580974304381:=Nat
def tw1536449092493389053:=Nat
def tw15354759369525915677:=Nat
def tw12448024438206594249:=Nat
def tw9244038951055661020:=Nat
def tw606412369694318660:=Nat
def tw12753471558984707348:=Nat
def tw12347166020172351200:=Nat
def tw3550020906406761420:=Nat
def tw17524287834279477444:=Nat
def tw16302687039985815932:=Nat
def tw16918406914365176927:=Nat
def tw6356459946044987348:=Nat
def tw17400465770624044303:=Nat
def tw3313468341237557584:=Nat
def tw17113297369693539407:=Nat
def tw5616492014035635011:=Nat
def tw1241525182784464290:=Nat
def tw6122361351189678104:=Nat
def tw17355843065603681470:=Nat
def tw9301140298746851325:=Nat
def tw15039513144667708587:=Nat
def tw12255918061247284754:=Nat
def tw3562358355935735292:=Nat
def tw5895502054076936497:=Nat
def tw17575527650911484066:=Nat
def tw12746098418590051384:=Nat
def tw8282489343162537029:=Nat
def tw9447346278854856390:=Nat
def tw543200363280084692:=Nat
def tw5506447830156260762:=Nat
def tw10569042647788407647:=Nat
def tw5849773480632716799:=Nat
def tw3728484214197644819:=Nat
def tw2240988237164534773:=Nat
def tw16765031794987887926:=Nat
def tw3176947545414117867:=Nat
def tw15375779692814302755:=Nat
def tw9545637983567644184:=Nat
def tw16707007135863854111:=Nat
def tw2040202948858684027:=Nat
def tw12228487741931179510:=Nat
def tw13431294821239701368:=Nat
def tw18293771018424976818:=Nat
def tw15119545240347692732:=Nat
def tw5939549164484447940:=Nat
def tw6322369292393215498:=Nat
def tw13268703245725483908:=Nat
def tw3903211519867580737:=Nat
def tw3745961777469922789:=Nat
def tw3059664711471038109:=Nat
def tw8840090930714450292:=Nat
def tw3856847692253322070:=Nat
def tw9306487589024328356:=Nat
def tw17515728708324206224:=Nat
def tw4019710873389848328:=Nat
def tw13543619191729455438:=Nat
def tw12475895607654837419:=Nat
def tw11461465024477096977:=Nat
def tw9873699561085443280:=Nat
def tw14259293949087180376:=Nat
def tw6159254683067420547:=Nat
def tw15134517581066388252:=Nat
def tw13223174248634023516:=Nat
def tw10876889058824853571:=Nat
def tw15685766536876740349:=Nat
def tw14968220422156637067:=Nat
def tw3040511982353758974:=Nat
def tw1771087320296647345:=Nat
def tw15901686033425872969:=Nat
def tw17324748401770623168:=Nat
def tw14191843042304710593:=Nat
def tw9244897376276933081:=Nat
def tw12355548604295576197:=Nat
def tw4046614467029780629:=Nat
def tw6236035786817820915:=Nat
def tw8987098719413480048:=Nat
def tw8804198303083043932:=Nat
def tw16945044278851611003:=Nat
def tw13390864559448376303:=Nat
def tw33836373046717960:=Nat
def tw17965516690706259593:=Nat
def tw10094011951427560245:=Nat
def tw10739456877762544392:=Nat
def tw7554735392359905889:=Nat
def tw6926136583915865855:=Nat
def tw14953564400636102489:=Nat
def tw9216892914881288448:=Nat
def tw14055157690300319683:=Nat
def tw96460187257483693:=Nat
def tw1984773967115431275:=Nat
def tw8389627994422933309:=Nat
def tw10966955148426858466:=Nat
def tw722415974719698951:=Nat
def tw3491399705310130453:=Nat
def tw4134681613648499823:=Nat
def tw1490907052468619166:=Nat
def tw16897047041727313508:=Nat
def tw15371760550795588628:=Nat
def tw202498413006375175:=Nat
def tw14833963661102321178:=Nat
def tw7975108687066157009:=Nat
def tw7226579862056745284:=Nat
def tw2576229930222547532:=Nat
def tw2493605645014548573:=Nat
def tw15899978876033707699:=Nat
def tw10592551041028844617:=Nat
def tw5903111024494812823:=Nat
def tw17883653077857963280:=Nat
def tw1332040700540232541:=Nat
def tw16128971280686661238:=Nat
def tw12523849943444913141:=Nat
def tw10979100199184529938:=Nat
def tw333213942402366180:=Nat
def tw2968785099171574334:=Nat
def tw14265483652546007894:=Nat
def tw7252232503992921757:=Nat
def tw14846484467085922420:=Nat
def tw7957066444900751901:=Nat
def tw15787887484950591264:=Nat
def tw15950592963908218831:=Nat
def tw11835080276475978629:=Nat
def tw8937092295668309416:=Nat
def tw13470708397243164166:=Nat
def tw9536700039997952411:=Nat
def tw9481875733113307982:=Nat
def tw2676959672095923238:=Nat
def tw15496136113227735354:=Nat
def tw6581228112818886659:=Nat
def tw10905824127533061589:=Nat
def tw18359526264820801047:=Nat
def tw3759957927257699096:=Nat
def tw9898956725129605549:=Nat
def tw4743318056723831785:=Nat
def tw4338808060794176026:=Nat
def tw5346851291311024387:=Nat
def tw9604628449474384010:=Nat
def tw8362167909547363788:=Nat
def tw8141186954207762984:=Nat
def tw7066594675015998376:=Nat
def tw6616276345694315175:=Nat
def tw2821374903544964105:=Nat
def tw17081443149703137152:=Nat
def tw16182558387265035788:=Nat
def tw5259053571592206833:=Nat
def tw2464194817730486839:=Nat
def tw8441263750758993555:=Nat
def tw4554989919530491447:=Nat
def tw3260341925483275753:=Nat
def tw13425874304111925312:=Nat
def tw14690745483913725595:=Nat
def tw12736815692816112679:=Nat
def tw1232681527866211814:=Nat
def tw2192886181920876001:=Nat
def tw11394811768766493308:=Nat
def tw10484049368606454064:=Nat
def tw16620202929740737549:=Nat
def tw2872401558706331413:=Nat
def tw13441501069989650029:=Nat
def tw4805967993028162619:=Nat
def tw8758989667130786605:=Nat
def tw8066164956664803840:=Nat
def tw2213112216503873175:=Nat
def tw1446098585243711235:=Nat
def tw12285839698276812048:=Nat
def tw11897236538337810648:=Nat
def tw11797303562227562049:=Nat
def tw12869952872701712155:=Nat
def tw5694064215908855523:=Nat
def tw6153934966704840328:=Nat
def tw5162176698818977517:=Nat
def tw13344698010332896117:=Nat
def tw1289659523496389291:=Nat
def tw11353529285663776690:=Nat
def tw1244191275160151648:=Nat
def tw4406718875401548227:=Nat
def tw16502350698586706227:=Nat
def tw3581946051666927713:=Nat
def tw5554679276431928645:=Nat
def tw5828878670447390112:=Nat
def tw5420767751284428632:=Nat
def tw14150619252832189418:=Nat
def tw10455850019083145383:=Nat
def tw8628162991829653129:=Nat
def tw18412212491591428565:=Nat
def tw16576176128955534876:=Nat
def tw3820344142788653525:=Nat
def tw10817222616056660687:=Nat
def tw241550189320826918:=Nat
def tw9401476520089023476:=Nat
def tw7076228221915986324:=Nat
def tw5455874487846737157:=Nat
def tw2622498215602248846:=Nat
def tw12439229583042020422:=Nat
end PySem.W.Fast
open PySem PySem.W PyProof.Rows
local macro_rules| `(tactic|walk_at "F")=> `(tactic|(refine' L2.FnIn.mk' ?a ?l ?c ?k;(case a=>k_is);(case l=>k_is);(case c=>k_is);(case k=>k_is)))
set_option maxRecDepth 100000 in
set_option maxHeartbeats 0 in
theorem PySem.Challenge.cw_gluework_k82_whole_any_order_holds : PySem.Challenge.rw_gluework_k82_whole_any_order.Holds := by
 w_on;o_law;k_head;(case hw=>w_witness2);k_fill;refine K82.walk (l:=PySem.Challenge.rw_gluework_k82_whole_any_order) rfl rfl (λw h Y=>PySem.W.kIn_of Y) ?F;case F=>
  intro w mg fa h KX G hmg
  refine' K82.all_mk KX G hmg ?a0 ?a1 ?a2 ?a3 ?a4 ?a5 ?a6 ?a7 ?a8 ?a9 ?a10 ?a11 ?l11 ?c11 ?k11 ?t11 ?a12 ?a13 ?a14 ?a15 ?a16 ?a17 ?a18 ?a19 ?a20 ?a21 ?a22 ?a23 ?a24 ?a25 ?a26 ?a27 ?a28 ?a29 ?a30 ?a31 ?a32 ?a33 ?a34 ?a35 ?a36 ?a37 ?a38 ?a39 ?a40 ?a41 ?a42 ?a43 ?a44 ?a45 ?a46 ?a47 ?a48 ?a49 ?a50 ?a51 ?a52 ?a53 ?a54 ?a55 ?a56 ?a57 ?a58 ?a59 ?a60 ?a61 ?z_all ?z_any ?z_dict ?z_enumerate ?z_isinstance ?z_len ?z_list ?z_max ?z_range ?z_reversed ?z_set ?z_sorted ?z_str ?z_sum ?z_zip ?v_MOST_NAME_SIGNS ?v_NAME_SIGNS ?v_SMALL_LETTERS ?n_Barred ?n_GlueError ?n_Loose ?n_NoMatch ?n_NoNames ?xr_Barred ?xr_Loose ?xr_NoMatch ?xr_NoNames ?xt_GlueError ?xb_GlueError ?xc_GlueError ?xs_Barred_GlueError ?xs_Loose_GlueError ?xs_NoMatch_GlueError ?xs_NoNames_GlueError
  (case a0=>walk_at "F")
  (case a1=>walk_at "F")
  (case a2=>walk_at "F")
  (case a3=>walk_at "F")
  (case a4=>walk_at "F")
  (case a5=>walk_at "F")
  (case a6=>walk_at "F")
  (case a7=>walk_at "F")
  (case a8=>walk_at "F")
  (case a9=>walk_at "F")
  (case a10=>walk_at "F")
  (case a11|l11|c11|k11|t11=>k_is)
  (case a12=>walk_at "F")
  (case a13=>walk_at "F")
  (case a14=>walk_at "F")
  (case a15=>walk_at "F")
  (case a16=>walk_at "F")
  (case a17=>walk_at "F")
  (case a18=>walk_at "F")
  (case a19=>walk_at "F")
  (case a20=>walk_at "F")
  (case a21=>walk_at "F")
  (case a22=>walk_at "F")
  (case a23=>walk_at "F")
  (case a24=>walk_at "F")
  (case a25=>walk_at "F")
  (case a26=>walk_at "F")
  (case a27=>walk_at "F")
  (case a28=>walk_at "F")
  (case a29=>walk_at "F")
  (case a30=>walk_at "F")
  (case a31=>walk_at "F")
  (case a32=>walk_at "F")
  (case a33=>walk_at "F")
  (case a34=>walk_at "F")
  (case a35=>walk_at "F")
  (case a36=>walk_at "F")
  (case a37=>walk_at "F")
  (case a38=>walk_at "F")
  (case a39=>walk_at "F")
  (case a40=>walk_at "F")
  (case a41=>walk_at "F")
  (case a42=>walk_at "F")
  (case a43=>walk_at "F")
  (case a44=>walk_at "F")
  (case a45=>walk_at "F")
  (case a46=>walk_at "F")
  (case a47=>walk_at "F")
  (case a48=>walk_at "F")
  (case a49=>walk_at "F")
  (case a50=>walk_at "F")
  (case a51=>walk_at "F")
  (case a52=>walk_at "F")
  (case a53=>walk_at "F")
  (case a54=>walk_at "F")
  (case a55=>walk_at "F")
  (case a56=>walk_at "F")
  (case a57=>walk_at "F")
  (case a58=>walk_at "F")
  (case a59=>walk_at "F")
  (case a60=>walk_at "F")
  (case a61=>walk_at "F")
  (case z_all|z_any|z_dict|z_enumerate|z_isinstance|z_len|z_list|z_max|z_range|z_reversed|z_set|z_sorted|z_str|z_sum|z_zip|v_MOST_NAME_SIGNS|v_NAME_SIGNS|v_SMALL_LETTERS|n_Barred|n_GlueError|n_Loose|n_NoMatch|n_NoNames=>k_is)
  (case xr_Barred=>k_exc)
  (case xr_Loose=>k_exc)
  (case xr_NoMatch=>k_exc)
  (case xr_NoNames=>k_exc)
  (case xt_GlueError|xb_GlueError|xc_GlueError|xs_Barred_GlueError|xs_Loose_GlueError|xs_NoMatch_GlueError|xs_NoNames_GlueError=>k_is)
