import PyProof.Rows.All
import Wide.All
import OpenK.AllK
import Wide.FinOn
import PyProof.EqAt
import PyProof.EqKinds
import PyProof.TupleCall
import PyProof.NeKinds
import PyProof.AttrMissHeap
import PyProof.ExcClass3
import PyProof.RulesAs
import PyProof.Rows.FStr
import OpenK.KOwn
import PyProof.NsDelKeeps
import PyProof.Rows.Catch
import PyProof.Rows.SetFrom
import PyProof.SetRoads
import PyProof.FactsAll.NoneType
import KE.KRevIter
import PyProof.ZipIter
import KE.KItemsList
import PyProof.MinMaxWalk
import PyProof.WalksMore
import PyProof.FString5
import PyProof.Rows.SortShellK
import PySem.Challenge.RW_gluework_k45_splits_exact
abbrev Za:=PySem.W.Frag
abbrev Ll:=@List.length_map
abbrev Lm:=@List.getElem?_eq_getElem
abbrev Ln:=@List.mem_map
abbrev Lo:=@List.getElem?_map
abbrev Lp:=@Nat.le_refl
abbrev Lr:=@List.map_append
abbrev Ls:=@List.mem_append_left
abbrev Lu:=@List.take_of_length_le
abbrev Lv:=@List.mem_cons_self
abbrev Lw:=@List.mem_cons_of_mem
abbrev Lx:=@PySem.wpAny_bind
abbrev Ly:=@PySem.Heap.get?_push_of_some
abbrev Lz:=@List.length_take
abbrev LA:=@decide_eq_true_eq
abbrev LB:=@List.length_append
abbrev LC:=@List.mem_append
abbrev LD:=@List.length_filter_le
abbrev LF:=@List.mem_of_getElem?
abbrev LG:=@List.mem_append_right
abbrev LH:=@List.map_map
abbrev LI:=@PySem.Heap.lt_size
abbrev LJ:=@Nat.lt_of_lt_of_le
abbrev LK:=@PySem.wpAny_pure
abbrev LL:=@decide_eq_false
abbrev LM:=@List.getElem_mem
abbrev LN:=@decide_eq_true
abbrev LO:=@Option.some.inj
abbrev LP:=@PyProof.Rows.wpS_bind
abbrev LQ:=@Bool.eq_iff_iff
abbrev LR:=@List.size_toArray
abbrev LS:=@List.append_assoc
abbrev LU:=@List.nodup_append
abbrev LV:=@List.mem_singleton
abbrev LW:=@List.mem_filter
abbrev LY:=@PySem.Heap.get?_push_size
abbrev LZ:=@List.all_eq_true
abbrev Ma:=@Nat.ne_of_lt
abbrev Mb:=@Array.getElem?_toList
abbrev Mc:=@PySem.Paired.length
abbrev Md:=@PyProof.Rows.wpS_pure
abbrev Me:=@List.take_succ
abbrev Mf:=@List.getElem?_eq_some_iff
abbrev Mg:=@Bool.and_eq_true
abbrev Mh:=@Nat.le_trans
abbrev Mi:=@List.mem_cons
abbrev Mj:=@List.drop_eq_getElem_cons
abbrev Ml:=@Array.getElem?_eq_getElem
abbrev Mm:=@List.filter_append
abbrev Mn:=@Bool.false_ne_true
abbrev Mo:=@List.cons.inj
abbrev Mq:=@List.filter_cons_of_pos
abbrev Mr:=@List.filter_cons_of_neg
abbrev Ms:=@List.map_cons
abbrev Mu:=@List.length_singleton
abbrev Mv:=@List.length_cons
abbrev Mw:=@congrArg
abbrev Mx:=@List.getD_eq_getElem?_getD
abbrev My:=@Option.map_eq_some_iff
abbrev Mz:=@Array.length_toList
abbrev MA:=@Array.toList_append
abbrev MB:=@List.pairwise_append
abbrev MC:=@Int.emod_lt_of_pos
abbrev MD:=@List.append_nil
abbrev ME:=@PySem.PassesOwn.never
abbrev MG:=@List.mem_of_mem_take
abbrev MJ:=@List.getElem?_append_right
abbrev MK:=@Nat.lt_or_ge
abbrev ML:=@List.take_append_drop
abbrev MM:=@Int.emod_nonneg
abbrev MN:=@List.filter_nil
abbrev MO:=@PySem.W.mg_none_of
abbrev MP:=@List.nodup_cons
abbrev MQ:=@List.eq_nil_of_length_eq_zero
abbrev MR:=@decide_eq_false_iff_not
abbrev MS:=@List.Perm.refl
abbrev MT:=@Classical.byContradiction
abbrev MU:=@PySem.Around.under_plainId
abbrev MV:=@List.getElem?_of_mem
abbrev MW:=@Array.perm_iff_toList_perm
abbrev MX:=@PySem.F.plainAttrs_dict
abbrev MY:=@PySem.wpAny_truthy_bool
abbrev MZ:=@List.mem_of_mem_drop
abbrev Na:=@List.pairwise_cons
abbrev Nb:=@List.length_replicate
abbrev Nc:=@List.all_map
abbrev Nd:=@List.cons_lt_cons_iff
abbrev Nf:=@PyProof.Rows.wpS_forRange
abbrev Ng:=@List.perm_append_comm
abbrev Nh:=@List.length_drop
abbrev Ni:=@Nat.lt_irrefl
abbrev Nj:=@PySem.wpAny_holding
abbrev Nk:=@List.pairwise_map
abbrev Nl:=@List.drop_of_length_le
abbrev Nm:=@List.getElem?_append_left
abbrev Nn:=@PySem.codeAny_builtin
abbrev Nr:=@List.any_eq_true
abbrev Nt:=@List.lookup_cons
abbrev Nu:=@Int.le_refl
abbrev Nv:=@of_decide_eq_true
abbrev Nw:=@Bool.not_eq_true'
abbrev Nx:=@List.Perm.append_left
abbrev Ny:=@List.nodup_nil
abbrev Nz:=@List.lt_irrefl
abbrev NA:=@Bool.false_eq_true
abbrev NB:=@List.getElem?_drop
abbrev NC:=@PySem.wpAny_richCompare_same_room
abbrev ND:=@List.foldl_cons
abbrev NF:=@PySem.W.mg_of
abbrev NG:=@Prod.mk.inj
abbrev NH:=@PySem.F.plainAttrs_list
abbrev NI:=@Int.le_of_lt
abbrev NJ:=@Int.le_trans
abbrev NK:=@List.mem_flatMap
abbrev NL:=@Sum.inr.inj
abbrev NM:=@List.map_congr_left
abbrev NN:=@List.filter_sublist
abbrev NO:=@PySem.call_meetsIn
abbrev NP:=@PySem.F.slot_dict_values
abbrev NQ:=@List.filterMap_cons_some
abbrev NR:=@Nat.le_succ
abbrev NS:=@List.dropLast_concat_getLast
abbrev NT:=@List.drop_zero
abbrev NU:=@PySem.W.kia_one
abbrev NV:=@PySem.Calls.callWith_builtin
abbrev NW:=@PySem.F.slot_NoneType_hash
abbrev NX:=@List.countP_cons
abbrev NY:=@Nat.le_of_lt
abbrev NZ:=@PySem.plainId_quiet
abbrev Oa:=@List.find?_eq_none
abbrev Ob:=@List.getElem?_eq_none
abbrev Oc:=@Int.zero_add
abbrev Od:=@List.pairwise_iff_getElem
abbrev Oe:=@List.mem_of_find?_eq_some
abbrev Of:=@Array.toList_reverse
abbrev Og:=@List.take_sublist
abbrev Oh:=@PyProof.Rows.slot_tuple_getitem
abbrev Oi:=@PySem.wpAny_newObj_type
abbrev Oj:=@PySem.F.slot_dict_update
abbrev Ol:=@PySem.F.slot_list_append
abbrev Om:=@PySem.F.type_list_append
abbrev Oo:=@PySem.F.type_dict_values
abbrev Oq:=@List.filterMap_cons_none
abbrev Ot:=@PySem.mem_of_lookup
abbrev Ou:=@List.all_cons
abbrev Ov:=@Nat.zero_le
abbrev Ow:=@PySem.wpAny_getItem_str_slice
abbrev Ox:=@Bool.and_true
abbrev Oy:=@List.countP_cons_of_pos
abbrev Oz:=@PyProof.Rows.wpS_mono
abbrev OA:=@List.countP_eq_zero
abbrev OB:=@List.take_append_of_le_length
abbrev OC:=@List.mem_range
abbrev OD:=@Ne.symm
abbrev OE:=@Array.getElem?_eq_none
abbrev OF:=@List.Perm.append_right
abbrev OG:=@List.mem_filterMap
abbrev OH:=@PySem.tupleKind_room_in1
abbrev OI:=@Nat.lt_of_le_of_lt
abbrev OJ:=@List.getElem?_take
abbrev OK:=@PyProof.Rows.callWith_type1
abbrev OL:=@List.find?_cons
abbrev OM:=@PySem.F.called_set
abbrev ON:=@List.map_id
abbrev OO:=@PySem.wpAny_pyIter_list
abbrev OP:=@Array.toList_push
abbrev OQ:=@List.exists_cons_of_ne_nil
abbrev OR:=@PySem.Calls.call_function_entry
abbrev OS:=@List.getElem?_zip_eq_some
abbrev OT:=@Nat.min_le_right
abbrev OU:=@Option.getD_some
abbrev OX:=@PySem.W.hideAll_get
abbrev OY:=@List.filterMap_cons
abbrev OZ:=@List.reverse_append
abbrev Pa:=@List.flatten_append
abbrev Pb:=@PySem.wpAny_typeOf
abbrev Pd:=@beq_iff_eq
abbrev Pe:=@PySem.AutoSeq1.sub_tuple_tuple
abbrev Pf:=@PySem.F.slot_list_getattribute
abbrev Pg:=@PySem.wpAny_rule
abbrev Ph:=@PySem.F.type_dict_update
abbrev Pj:=@PySem.wpAny_Call_Name_kw
abbrev Pk:=@PySem.wpAny_Call_method0_late
abbrev Pl:=@List.length_nil
abbrev Pm:=@PySem.wpAny_passesOwn
abbrev Pn:=@List.range_succ
abbrev Po:=@PyProof.Rows.F.plain_set_update_loop
abbrev Pp:=@PySem.MeetsSeq3.entry_eq_loop
abbrev Pq:=@List.countP_cons_of_neg
abbrev Pr:=@List.Perm.of_eq
abbrev Pt:=@Nat.not_lt_zero
abbrev Pu:=@Bool.true_and
abbrev Pw:=@List.append_cancel_left
abbrev Px:=@List.getElem?_set_self
abbrev Py:=@PySem.wpAny_pyNext_list_item
abbrev Pz:=@List.range_succ_eq_map
abbrev PB:=@PySem.AutoSeq1.sub_list_list
abbrev PC:=@List.flatten_singleton
abbrev PD:=@PySem.wpAny_mono
abbrev PF:=@PySem.typeIs_str
abbrev PH:=@List.Pairwise.map
abbrev PJ:=@List.mapM_toArray
abbrev PK:=@List.flatten_cons
abbrev PL:=@List.length_range
abbrev PN:=@List.Pairwise.imp
abbrev PQ:=@if_false
abbrev PR:=@Prod.ext
abbrev PU:=@List.drop_drop
abbrev PY:=@PySem.wpAny_pyNext_list_end
abbrev PZ:=@PySem.codeAny_mono
abbrev Qc:=@PySem.F.slot_dict_get
abbrev Qd:=@Bool.beq_eq_decide_eq
abbrev Qe:=@Nat.le_of_sub_eq_zero
abbrev Qf:=@PySem.wpAny_call_entry
abbrev Qg:=@beq_self_eq_true
abbrev Qi:=@List.drop_append_of_le_length
abbrev Qj:=@PySem.Calls.evalArgs_plain
abbrev Qk:=@List.replicate_succ'
abbrev Ql:=@PySem.wpAny_execs_nil
abbrev Qm:=@PySem.SeqAt.EqAt.same
abbrev Qn:=@PySem.evalArgs_none
abbrev Qp:=@beq_eq_false_iff_ne
abbrev Qq:=@List.forIn_cons
abbrev Qr:=@List.nil_append
abbrev Qt:=@Bool.or_eq_true
abbrev Qu:=@PySem.post_val_or_str
abbrev Qv:=@Nat.min_le_left
abbrev Qw:=@List.length_pos_iff
abbrev Qx:=@List.drop_length_add_append
abbrev Qy:=@List.find?_some
abbrev Qz:=@PySem.Calls.Name_function_global
abbrev QB:=@Int.fdiv_eq_ediv_of_nonneg
abbrev QC:=@Array.toList_setIfInBounds
abbrev QD:=@PySem.SeqAt.EqAt.int_str
abbrev QF:=@PySem.SeqAt.EqAt.str_int
abbrev QH:=@PySem.W.of_hideAll
abbrev QJ:=@List.map_nil
abbrev QK:=@Nat.add_zero
abbrev QL:=@PySem.Heap.size_push
abbrev QM:=@PyProof.Rows.pairsOf_toList
abbrev QN:=@PySem.F.args_tuple_add_2
abbrev QQ:=@Option.isSome_map
abbrev QR:=@Option.some.injEq
abbrev QU:=@PySem.wpAny_comprehension_free
abbrev QV:=@Nat.lt_succ_of_lt
abbrev QX:=@PySem.SeqAt.RcAt.lists_lengths
abbrev QY:=@PySem.richCompare_gives
abbrev QZ:=@PyProof.Rows.typeIs_bool
abbrev Ra:=@List.ext_getElem?
abbrev Rb:=@List.length_erase_of_mem
abbrev Rc:=@Bool.eq_false_iff
abbrev Rf:=@List.Pairwise.imp_of_mem
abbrev Rg:=@PySem.F.entry_tuple_add
abbrev Rh:=@PySem.F.args_dict_get_2
abbrev Ri:=@PySem.wpAny_newList
abbrev Rk:=@PyProof.Rows.wpS_get
abbrev Rl:=@PyProof.Rows.wpS_reverse
abbrev Rm:=@List.pairwise_singleton
abbrev Rn:=@List.map_take
abbrev Ro:=@List.cons_append
abbrev Rp:=@List.mem_reverse
abbrev Rr:=@PySem.wpAny_forIn_list
abbrev Rt:=@List.all_toArray
abbrev Ru:=@PySem.W.cellsFrom_some
abbrev Rv:=@PySem.F.slot_tuple_add
abbrev Ry:=@PySem.F.entry_dict_get
abbrev RB:=@List.drop_eq_nil_of_le
abbrev RC:=@List.find?_cons_of_pos
abbrev RD:=@List.flatMap_singleton
abbrev RF:=@List.of_mem_zip
abbrev RG:=@Option.map_some
abbrev RH:=@Nat.le_antisymm
abbrev RI:=@PySem.Txt.slice_le
abbrev RJ:=@PySem.F.slot_tuple_eq
abbrev RK:=@PySem.F.slot_tuple_ne
abbrev RL:=@PyProof.Rows.listItems_at
abbrev RM:=@List.countP_mono_left
abbrev RO:=@PySem.F.slot_tuple_lt
abbrev RQ:=@PySem.Data.seq.inj
abbrev RR:=@List.map_id'
abbrev RS:=@PyProof.Rows.wpS_lift
abbrev RT:=@PyProof.Rows.wpS_modify
abbrev RU:=@List.getElem?_set_ne
abbrev RW:=@List.drop_eq_nil_iff
abbrev RX:=@PySem.F.slot_list_eq
abbrev RY:=@PySem.F.slot_list_ne
abbrev RZ:=@List.reverse_reverse
abbrev Sa:=@List.map_eq_cons_iff
abbrev Sb:=@PySem.F.slot_list_lt
abbrev Se:=@List.mem_erase_of_ne
abbrev Sf:=@Nat.pow_le_pow_right
abbrev Sg:=@Bool.false_and
abbrev Sh:=@List.forIn_nil
abbrev Si:=@List.take_zero
abbrev Sj:=@List.drop_left
abbrev Sk:=@PySem.sizeLine_eq
abbrev Sl:=@if_true
abbrev Ss:=@List.getElem_of_mem
abbrev Su:=@PySem.W.kdu_collect
abbrev Sv:=@PySem.W.looks_subIn
abbrev Sx:=@List.getElem?_range
abbrev Sy:=@List.flatMap_append
abbrev Sz:=@Array.append_assoc
abbrev SA:=@PySem.wpAny_standAt
abbrev SE:=@PySem.W.callWith_K
abbrev SF:=@Bool.or_false
abbrev SH:=@List.any_cons
abbrev SJ:=@PySem.strLen_append
abbrev SK:=@Nat.sub_pos_iff_lt
abbrev SM:=@PySem.W.kdl_values
abbrev SO:=@Array.getElem?_map
abbrev SQ:=@List.lt_trans
abbrev SU:=@decide_eq_true_iff
abbrev SV:=@Int.ofNat_inj
abbrev SW:=@List.mem_replicate
abbrev SX:=@List.map_replicate
abbrev SY:=@List.map_singleton
abbrev Te:=@PySem.call_meets
abbrev Tf:=@PySem.W.kitx_dict
abbrev Tj:=@List.any_eq_false
abbrev Tp:=@Nat.lt_trichotomy
abbrev Tr:=@Nat.le_of_lt_succ
abbrev Tt:=@List.drop_sublist
abbrev Tu:=@bne_self_eq_false
abbrev Tw:=@List.filter_congr
abbrev Tx:=@List.flatMap_cons
abbrev Tz:=@Nat.ne_of_gt
abbrev TF:=@Nat.lt_trans
abbrev TN:=@Nat.succ_pos
abbrev TU:=@Nat.zero_add
abbrev TV:=@Nat.sub_self
abbrev UA:=@List.not_lt
abbrev UB:=@PySem.wpAny_map
abbrev VY:=@Option.ext
abbrev Wx:=@or_assoc
set_option Elab.async false
set_option linter.all false
set_option maxRecDepth 100000
namespace L2
open PySem PySem.Spec PyProof.Rows
abbrev i6:=Sum Int Str
def ef:i6->Value->Bool
 | .inl k,v=>Value.isInt k v
 | .inr x,v=>Value.isStrOf x v
def IK (w:World):i6->Int
 | .inl k=>hashInt k
 | .inr x=>hashStr w x
theorem C3:∀{k:i6} {v:Value},ef k v=true->(∃i t,k=Sum.inl i/\v=Value.int i t)\/(∃x t,k=Sum.inr x/\v=Value.str x t)
 | .inl i,v,h=>by
  obtain⟨t,e⟩:=Value.isInt_shape (k:=i) (v:=v) h;exact .inl ⟨i,t,rfl,e⟩
 | .inr x,v,h=>by
  obtain⟨t,e⟩:=Value.isStrOf_shape (x:=x) (v:=v) h;exact .inr ⟨x,t,rfl,e⟩
def xB (i:Int)(t:Tok):ef (.inl i) (.int i t)=true:=by simp [ef,Value.isInt]
def wX (x:Str)(t:Tok):ef (.inr x) (.str x t)=true:=by simp [ef,Value.isStrOf]
def zO (a b:Int):decide ((Sum.inl a:i6)=Sum.inl b)=(a==b):=by grind
def yl (a b:Str):decide ((Sum.inr a:i6)=Sum.inr b)=decide (a=b):=by grind
def Bo (a:Int)(b:Str):decide ((Sum.inl a:i6)=Sum.inr b)=false:=LL (λq=>nomatch q)
def Bp (a:Str)(b:Int):decide ((Sum.inr a:i6)=Sum.inl b)=false:=LL (λq=>nomatch q)
def q8 (prog:Program)(w:World):PySem.KeyKind prog w i6 where
 is:=ef
 hash:=IK w
 inj:=λv a b ha hb=>by
  rcases C3 ha with⟨i,t,rfl,rfl⟩|⟨x,t,rfl,rfl⟩
  .rcases C3 hb with⟨j,u,rfl,e⟩|⟨y,u,rfl,e⟩
   .injection e with e1 _;rw[e1]
   .exact nomatch e
  .rcases C3 hb with⟨j,u,rfl,e⟩|⟨y,u,rfl,e⟩
   .exact nomatch e
   .injection e with e1 _;rw[e1]
 byValue:=λk v h=>by
  rcases C3 h with⟨i,t,rfl,rfl⟩|⟨x,t,rfl,rfl⟩<;>rfl
 pyHash:=λhv h=>by
  rcases C3 hv with⟨i,t,rfl,rfl⟩|⟨x,t,rfl,rfl⟩
  .exact wpAny_pyHash_int h
  .exact wpAny_pyHash_str h
 eqBool:=λhu hv h=>by
  rcases C3 hu with⟨i,t,rfl,rfl⟩|⟨x,t,rfl,rfl⟩
  .rcases C3 hv with⟨j,u,rfl,rfl⟩|⟨y,u,rfl,rfl⟩
   .rw[zO] at h;exact wpAny_eqBool_int h
   .rw[Bo] at h;exact QD i t y u _ _ _ _ h
  .rcases C3 hv with⟨j,u,rfl,rfl⟩|⟨y,u,rfl,rfl⟩
   .rw[Bp] at h;exact QF x t j u _ _ _ _ h
   .rw[yl] at h;exact wpAny_eqBool_str h
 «strs»:=λk x t v h=>by
  rcases C3 h with⟨i,u,rfl,e⟩|⟨y,u,rfl,e⟩
  .exact nomatch e
  .injection e with e1 _
   subst e1;cases v<;>rfl
def sL (prog:Program)(w:World)(i:Int)(t:Tok):(q8 prog w).is (.inl i) (.int i t)=true:=xB i t
def rH (prog:Program)(w:World)(x:Str)(t:Tok):(q8 prog w).is (.inr x) (.str x t)=true:=wX x t
inductive V where
 |non|bl (b:Bool)|int (i:Int)|str (x:Str)|byt (b:Array UInt8)|flt (b:UInt64)|ref (a:Addr)|ty (n:String)
 deriving DecidableEq
def RelV:V->Value->Prop
 | .non,u=>u=Value.none
 | .bl b,u=>u=Value.bool b
 | .int i,u=>∃t,u=Value.int i t
 | .str x,u=>∃t,u=Value.str x t
 | .byt b,u=>∃t,u=Value.bytes b t
 | .flt b,u=>∃t,u=Value.float b t
 | .ref a,u=>u=Value.ref a
 | .ty n,u=>u=Value.type n
abbrev Vals:List V->List Value->Prop:=Paired RelV
def Vals.length {xs:List V}{us:List Value}(r:Vals xs us):xs.length=us.length:=Mc r
theorem Vals.get:∀{xs:List V} {us:List Value} {i:Nat} {x:V},Vals xs us->xs[i]?=some x->∃u,us[i]?=some u/\RelV x u
 |_,_,_,_,.nil,e=>by simp at e
 |_,_,0,_,.cons r _,e=>by simp at e;subst e;exact⟨_,rfl,r⟩
 |_,_,i+1,x,.cons _ t,e=>by
  obtain⟨u,h1,h2⟩:=Vals.get (i:=i) (x:=x) t (by simpa using e);exact⟨u,by simpa using h1,h2⟩
theorem Vals.set {x:V}{u:Value}(r:RelV x u):∀{xs:List V} {us:List Value} (i:Nat),Vals xs us->Vals (xs.set i x) (us.set i u)
 |_,_,_,.nil=> .nil
 |_,_,0,.cons _ t=> .cons r t
 |_,_,i+1,.cons q t=> .cons q (Vals.set r i t)
theorem Vals.append:∀{xs ys:List V} {us ws:List Value},Vals xs us->Vals ys ws->Vals (xs++ys) (us++ws)
 |_,_,_,_,.nil,s=>s
 |_,_,_,_,.cons r t,s=> .cons r (Vals.append t s)
theorem Vals.take:∀{xs:List V} {us:List Value} (n:Nat),Vals xs us->Vals (xs.take n) (us.take n)
 |_,_,0,_=> .nil
 |_,_,_+1,.nil=> .nil
 |_,_,n+1,.cons r t=> .cons r (Vals.take n t)
theorem Vals.drop:∀{xs:List V} {us:List Value} (n:Nat),Vals xs us->Vals (xs.drop n) (us.drop n)
 |_,_,0,r=>r
 |_,_,_+1,.nil=> .nil
 |_,_,n+1,.cons _ t=>Vals.drop n t
def RelO:Option V->Option Value->Prop
 |some v,some u=>RelV v u
 |none,none=>True
 |_,_=>False
def KV {κ:Type}:List (κ×V)->List (κ×Value)->Prop:=Paired fun(p:κ×V) (q:κ×Value)=>p.1=q.1/\RelV p.2 q.2
def kV:i6->V
 | .inl i=> .int i
 | .inr x=> .str x
inductive HO where
 |lst (xs:List V)
 |tup (xs:List V)
 |dK (kvs:List (i6×V))|dT (kvs:List (List i6×V))
 |set (S:Int->Bool) (n:Nat)
 |ins (C dx:Addr) (fs:List (Str×V))
 |own (x:Addr)
 |xd (fs:List (Str×V))
 |met (f x:Addr)
 |rng (lo hi:Int)
 |frz (o:Obj) (u:HO)
 |tbl (ps:Array Value)
 |ext (φ:Heap->Prop)
abbrev Hp:=Addr->Option HO
def upd (H:Hp)(a:Addr)(o:HO):Hp:=λb=>if b=a then some o else H b
theorem d8 {H:Hp}{a:Addr}{o:HO}:upd H a o a=some o:=by unfold upd;rw[if_pos rfl]
theorem d9 {H:Hp}{a b:Addr}{o:HO}(h:b≠a):upd H a o b=H b:=by unfold upd;rw[if_neg h]
def Ii {H:Hp}{a b:Addr}{o u:HO}(h:H a=some o)(h':H b=some u)(d:o≠u):a≠b:=by
 intro e;subst e;rw[h] at h';exact d (LO h')
def d6 {H:Hp}{a b:Addr}{o:HO}(h:H a=some o)(h':H b=none):a≠b:=by
 intro e;subst e;rw[h] at h';cases h'
section
variable (P:Program) (w:World)
def ObjOk (H:Hp)(h:Heap)(a:Addr):HO->Prop
 | .lst xs=>xs.length<=sizeLine/\∃(a_:List Value) (n:Nat),Vals xs a_/\h.get? a=some {cls:= .type "list",data:= .seq a_.toArray n}
 | .tup xs=>xs.length<=sizeLine/\∃a_:List Value,Vals xs a_/\IsTup h a a_.toArray
 | .dK kvs=>kvs.length<=sizeLine/\(a==sysModules)=false/\∃vs,KV kvs vs/\h.DictOf (q8 P w) a vs
 | .dT kvs=>kvs.length<=sizeLine/\(a==sysModules)=false/\∃xs:List (List i6×Addr×Value),
   Paired (fun(p:List i6×V) (q:List i6×Addr×Value)=>p.1=q.1/\H q.2.1=some (.tup (p.1.map kV))/\RelV p.2 q.2.2) kvs xs/\
   ∃o es ep,h.get? a=some o/\o.ExactDict/\o.data= .dict es ep/\es.toList=xs.map (entryOfKey (tupleKind (q8 P w)))/\(xs.map (·.1)).Nodup
 | .set S n=>h.SetOf (intKind P w) a S n
 | .ins C dx fs=>H dx=some (.own a)/\fs.length<=1000/\dx≠a/\h.get? a=some (PySem.W.instObj C dx)/\
   ∃mA,h.Ns1 dx mA/\(∀f,RelO (fs.lookup f) (mA f))/\PySem.Within mA (fs.map (·.1))
 | .own _=>∃o,h.get? a=some o
 | .xd fs=>∃mA,h.Ns1 a mA/\∀f,RelO (fs.lookup f) (mA f)
 | .rng lo hi=>∃t u v,h.get? a=some {cls:= .type "range",data:= .fields #[.int lo t,.int hi u,.int 1 v]}
 | .frz o u=>h.get? a=some o/\ObjOk H h a u
 | .tbl ps=>h.get? a=some {cls:= .none,data:= .fields ps}
 | .met f x=>h.get? a=some (PySem.W.methodObj (.ref f) (.ref x))
 | .ext φ=>φ h/\(∃o,h.get? a=some o)/\∀h1 h2:Heap,φ h1->(∀o,h1.get? a=some o->h2.get? a=some o)->φ h2
def HOk (H:Hp)(h:Heap):Prop:=∀a o,H a=some o->ObjOk P w H h a o
end
section
variable {P:Program} {w:World} {H H':Hp} {h h':Heap} {a:Addr} {o:HO}
def ObjOk.lt (x:ObjOk P w H h a o):a<h.objs.size:=by
 cases o with
 |lst xs=>obtain⟨_,_,_,_,e⟩:=x;exact LI e
 |tup xs=>obtain⟨_,_,_,p⟩:=x;exact p.lt
 |dK kvs=>obtain⟨_,_,_,_,o,_,_,e,_⟩:=x;exact LI e
 |dT kvs=>obtain⟨_,_,_,_,o,_,_,e,_⟩:=x;exact LI e
 |set S n=>obtain⟨o,_,_,_,e,_⟩:=x;exact LI e
 |ins C dx fs=>obtain⟨_,_,_,e,_⟩:=x;exact LI e
 |own y=>obtain⟨_,e⟩:=x;exact LI e
 |xd fs=>obtain⟨_,⟨_,_,_,e,_⟩,_⟩:=x;exact LI e
 |rng lo hi=>obtain⟨_,_,_,e⟩:=x;exact LI e
 |frz ob u=>obtain⟨e,_⟩:=x;exact LI e
 |tbl ps=>exact LI (show h.get? a=some _ from x)
 |met f y=>exact LI (show h.get? a=some _ from x)
 |ext φ=>obtain⟨_,⟨_,e⟩,_⟩:=x;exact LI e
theorem Paired.mapP {α β:Type}{F G:α->β->Prop}:∀{l₁:List α} {l₂:List β},Paired F l₁ l₂->(∀a b,F a b->G a b)->Paired G l₁ l₂
 |_,_,.nil,_=> .nil
 |_,_,.cons r t,f=> .cons (f _ _ r) (Paired.mapP t f)
def Paired.imp' {α β:Type}{F G:α->β->Prop}(f:∀a b,F a b->G a b){l₁:List α}{l₂:List β}(r:Paired F l₁ l₂):Paired G l₁ l₂:=Paired.mapP r f
def ObjOk.stay (x:ObjOk P w H h a o)(k:∀b u,(b=a\/H b=some (.own a))->h.get? b=some u->h'.get? b=some u)
  (ho:∀b,H b=some (.own a)->H' b=some (.own a)) (ht:∀b xs,H b=some (.tup xs)->H' b=some (.tup xs)):ObjOk P w H' h' a o:=by
 induction o with
 |lst xs=>obtain⟨z,a_,n,r,e⟩:=x;exact⟨z,a_,n,r,k _ _ (.inl rfl) e⟩
 |tup xs=>obtain⟨z,a_,r,ob,e,c⟩:=x;exact⟨z,a_,r,ob,k _ _ (.inl rfl) e,c⟩
 |dK kvs=>obtain⟨z,y,vs,r,ob,es,ep,e,c⟩:=x;exact⟨z,y,vs,r,ob,es,ep,k _ _ (.inl rfl) e,c⟩
 |dT kvs=>
  obtain⟨z,y,xs,r,ob,es,ep,e,c⟩:=x
  exact⟨z,y,xs,Paired.mapP r λp q z=>⟨z.1,ht _ _ z.2.1,z.2.2⟩,ob,es,ep,k _ _ (.inl rfl) e,c⟩
 |set S n=>obtain⟨ob,es,ep,t,e,c⟩:=x;exact⟨ob,es,ep,t,k _ _ (.inl rfl) e,c⟩
 |ins C dx fs=>
  obtain⟨d,z,ne,e,mA,⟨od,es,ep,e2,c⟩,r⟩:=x
  exact⟨ho _ d,z,ne,k _ _ (.inl rfl) e,mA,⟨od,es,ep,k _ _ (.inr d) e2,c⟩,r⟩
 |own y=>obtain⟨ob,e⟩:=x;exact⟨ob,k _ _ (.inl rfl) e⟩
 |xd fs=>obtain⟨mA,⟨od,es,ep,e,c⟩,r⟩:=x;exact⟨mA,⟨od,es,ep,k _ _ (.inl rfl) e,c⟩,r⟩
 |rng lo hi=>obtain⟨t,u,v,e⟩:=x;exact⟨t,u,v,k _ _ (.inl rfl) e⟩
 |frz ob u ih=>obtain⟨e,q⟩:=x;exact⟨k _ _ (.inl rfl) e,ih q⟩
 |tbl ps=>
  have e:h.get? a=some {cls:= .none,data:= .fields ps}:=x
  show h'.get? a=some {cls:= .none,data:= .fields ps}
  exact k a _ (.inl rfl) e
 |met f y=>
  have e:h.get? a=some (PySem.W.methodObj (.ref f) (.ref y)):=x
  show h'.get? a=some (PySem.W.methodObj (.ref f) (.ref y))
  exact k a _ (.inl rfl) e
 |ext φ=>obtain⟨p,⟨o,e⟩,st⟩:=x;exact⟨st _ _ p λo q=>k _ _ (.inl rfl) q,⟨o,k _ _ (.inl rfl) e⟩,st⟩
def HOk.lt (x:HOk P w H h)(e:H a=some o):a<h.objs.size:=(x a o e).lt
def HOk.fresh (x:HOk P w H h)(e:h.objs.size<=a):H a=none:=by
 cases q:H a with
 |none=>rfl
 |some u=>exact absurd (LJ (x.lt q) e) (Ni _)
def HOk.kept (x:HOk P w H h)(k:∀b u,h.get? b=some u->h'.get? b=some u):HOk P w H h':=λa o e=>
 (x a o e).stay (λb u _ q=>k b u q) (λ_ q=>q) λ_ _ q=>q
def HOk.laid (x:HOk P w H h)(k:∀b u,h.get? b=some u->h'.get? b=some u)(hp:h.objs.size<=a)(new:ObjOk P w (upd H a o) h' a o):HOk P w (upd H a o) h':=λb u e=>by
 have hn:=x.fresh hp;by_cases hb:b=a
 .subst hb;rw[d8] at e;cases e;exact new
 .rw[d9 hb] at e;exact(x b u e).stay (λc v _ q=>k c v q) (λc q=>by rw[d9 (d6 q hn)];exact q) λc xs q=>by rw[d9 (d6 q hn)];exact q
end
def Rd (H:Hp)(a:Addr)(u:HO):Prop:=H a=some u\/∃o,H a=some (.frz o u)
def Rd.ok {P:Program}{w:World}{H:Hp}{h:Heap}{a:Addr}{u:HO}(r:Rd H a u)(x:HOk P w H h):ObjOk P w H h a u:=by
 rcases r with r|⟨o,r⟩
 .exact x a u r
 .obtain⟨_,q⟩:=x a _ r;exact q
def Hr:Option HO->Prop
 |some (.lst _)=>True
 |some (.dK _)=>True
 |some (.dT _)=>True
 |some (.set _ _)=>True
 |some (.ins _ _ _)=>True
 |some (.ext _)=>True
 |_=>False
section
variable {P:Program} {w:World} {H:Hp} {h h':Heap} {x e:Addr} {o':HO}
def HOk.write (ok:HOk P w H h)(mu:Hr (H x))(he:e=x\/H e=some (.own x))(k:∀b u,b≠e->h.get? b=some u->h'.get? b=some u)(Vl:∃u,h'.get? e=some u)
  (new:ObjOk P w (upd H x o') h' x o'):HOk P w (upd H x o') h':=λb u q=>by
 have WZ:∀c y,H c=some (.own y)->c≠x:=λc y r z=>by subst z;rw[r] at mu;exact mu
 have ZD:∀c xs,H c=some (.tup xs)->c≠x:=λc xs r z=>by subst z;rw[r] at mu;exact mu
 by_cases hb:b=x
 .subst hb;rw[d8] at q;cases q;exact new
 .rw[d9 hb] at q
  by_cases hbe:b=e
  .have q':H b=some (.own x):=by
    rcases he with z|z
    .exact absurd (hbe.trans z) hb
    .rw[hbe];exact z
   rw[q] at q';cases q'
   obtain⟨v,hv⟩:=Vl
   exact⟨v,by rw[hbe];exact hv⟩
  .refine(ok b u q).stay (λc v hc r=>k c v ?_ r) (λc r=>by rw[d9 (WZ c b r)];exact r) λc xs r=>by rw[d9 (ZD c xs r)];exact r
   rcases hc with rfl|hc
   .exact hbe
   .rintro rfl
    rcases he with z|z
    .exact WZ c b hc z
    .rw[hc] at z;cases z;exact hb rfl
end
structure Un (fs ex:List Addr) (H H':Hp) (h h':Heap):Prop where
 keep:∀b o,h.get? b=some o->H b=none->b∉fs->b∉ex->h'.get? b=some o
 slot:∀b o,h.get? b=some o->H b=none->b∈fs->b∉ex->∃sl,h'.get? b=some {o with slots:=sl}
 free:∀b o,h.get? b=some o->H b=none->b∉ex->H' b=none
 there:∀b o,h.get? b=some o->b∉ex->∃o',h'.get? b=some o'
 tups:∀b xs,H b=some (.tup xs)->H' b=some (.tup xs)
 frzs:∀b o u,H b=some (.frz o u)->H' b=some (.frz o u)
 tbls:∀b ps,H b=some (.tbl ps)->∃more,H' b=some (.tbl (ps++more))
section
variable {fs fs' ex Ux:List Addr} {H H1 H2:Hp} {h h1 h2 h':Heap} {a x e:Addr} {o:HO}
def Un.any (u:Un fs ex H H1 h h1){b:Addr}{ob:Obj}(q:h.get? b=some ob)(n:H b=none)(hx:b∉ex):∃sl,h1.get? b=some {ob with slots:=sl}:=by
 by_cases hb:b∈fs
 .exact u.slot b ob q n hb hx
 .exact⟨ob.slots,u.keep b ob q n hb hx⟩
def Un.kept (k:∀b u,h.get? b=some u->h'.get? b=some u):Un fs ex H H h h':=
 ⟨λb ob q _ _ _=>k b ob q,λb ob q _ _ _=>⟨ob.slots,k b ob q⟩,λ_ _ _ n _=>n,λb ob q _=>⟨ob,k b ob q⟩,λ_ _ q=>q,λ_ _ _ q=>q,λ_ ps q=>⟨#[],by rw[q];simp⟩⟩
def Un.refl:Un fs ex H H h h:=Un.kept λ_ _ q=>q
def Un.laid (k:∀b u,h.get? b=some u->h'.get? b=some u)(hp:h.objs.size<=a)(hn:H a=none):Un fs ex H (upd H a o) h h' where
 keep:=λb u q _ _ _=>k b u q
 slot:=λb u q _ _ _=>⟨u.slots,k b u q⟩
 free:=λb u q n _=>by rw[d9 (Ma (LJ (LI q) hp))];exact n
 there:=λb u q _=>⟨u,k b u q⟩
 tups:=λb xs q=>by rw[d9 (d6 q hn)];exact q
 frzs:=λb u xs q=>by rw[d9 (d6 q hn)];exact q
 tbls:=λb ps q=>⟨#[],by rw[d9 (d6 q hn),q];simp⟩
def Un.write (mu:Hr (H x))(he:e=x\/H e=some (.own x))(k:∀b u,b≠e->h.get? b=some u->h'.get? b=some u)(Vl:∃u,h'.get? e=some u):Un fs ex H (upd H x o) h h':=by
 have hx:∀b,H b=none->b≠x:=λb n z=>by subst z;rw[n] at mu;exact mu
 have hb:∀b,H b=none->b≠e:=λb n z=>by
  subst z;rcases he with r|r
  .exact hx b n r
  .rw[n] at r;cases r
 have hm:∀b u,H b=some u->¬Hr (some u)->b≠x:=λb u q nm z=>by subst z;rw[q] at mu;exact nm mu
 refine⟨λb u q n _ _=>k b u (hb b n) q,λb u q n _ _=>⟨u.slots,k b u (hb b n) q⟩,λb u q n _=>by rw[d9 (hx b n)];exact n,λb u q _=>?_,
  λb xs q=>by rw[d9 (hm b _ q λz=>z)];exact q,λb u xs q=>by rw[d9 (hm b _ q λz=>z)];exact q,λb ps q=>⟨#[],by rw[d9 (hm b _ q λz=>z),q];simp⟩⟩
 by_cases hbe:b=e
 .subst hbe;exact Vl
 .exact⟨u,k b u hbe q⟩
end
def Jd (h:Heap)(H:Hp):List Addr:=(List.range h.objs.size).filter λa=>(H a).isSome
def qY (h:Heap)(H:Hp):Heap:=PySem.W.hideAll h (Jd h H)
def xP (h:Heap)(H:Hp):(qY h H).objs.size=h.objs.size:=PySem.W.hideAll_size _ _
def zW {h:Heap}{H:Hp}{b:Addr}{o:Obj}(e:h.get? b=some o)(n:H b=none):(qY h H).get? b=some o:=
 OX _ e λhm=>by
  have q:(H b).isSome=true:=(LW.mp hm).2;rw[n] at q;simp at q
def CY {h:Heap}{H:Hp}{b:Addr}{o:Obj}(e:(qY h H).get? b=some o):h.get? b=some o/\H b=none:=by
 have e':h.get? b=some o:=QH (Jd h H) e;refine⟨e',?_⟩;cases q:H b with
 |none=>rfl
 |some x=>
  have hm:b∈Jd h H:=LW.mpr ⟨OC.mpr (LI e'),by simp [q]⟩
  have z:(qY h H).get? b=none:=PySem.W.hideAll_none (Jd h H) hm
  rw[z] at e;cases e
def CT (g h:Heap)(L:Addr):List (Addr×Obj):=(List.range h.objs.size).filterMap λa=>if a=L\/(g.get? a).isSome=true then none else(h.get? a).map λo=>(a,o)
def au (g h:Heap)(L d:Addr):List (Addr×Obj):=(CT g h L).filter λp=>decide (p.1≠d)
structure Mod (K:Za) (mg:Str->Option Value) (base:Heap):Prop where
 kin:K.In base
 glob:base.Ns mainGlobals mg
 blt:∃mb,base.Ns builtinsNs mb/\∀x:Str,x≠"__name__"->mb x=bootBuiltins x
 nolimit:base.NoLimit
structure Cx where
 prog:Program
 w:World
 K:Za
 mg:Str->Option Value
 base:Heap
 A:Around
 N:List Str
 s₀:Shared
 H₀:Hp
 env:Env
 outer:List Env
 stack:List Env
 ex:List Addr
 fn:Str->Bool
 calm:Bool
 pn:List (Addr×Obj)
 xe:Value->Shared->Prop
def bu (l:List Env):List Addr:=l.filterMap (·.frame)
abbrev Cx.fs (X:Cx):List Addr:=bu X.outer
def JQ (sc:Scope)(x:Str):Prop:=sc.names.lookup x=some .local\/sc.names.lookup x=some .cell\/sc.names.lookup x=some .free
def DF (sc:Scope)(x:Str):Prop:=sc.names.lookup x=some .local\/sc.names.lookup x=some .cell
def JR (env:Env)(h:Heap)(m:Str->Option Value)(x:Str)(u:Value):Prop:=
 (env.kindOf x=some .local/\m x=some u)\/((env.kindOf x=some .cell\/env.kindOf x=some .free)/\∃c,env.cells.lookup x=some c/\h.IsCell c (some u))
structure Cx.Ok (X:Cx):Prop where
 mod:Mod X.K X.mg X.base
 kind:X.env.scope.kind= .function
 glob:X.env.globals=mainGlobals
 blt:X.env.builtins=builtinsNs
 above:X.s₀.heap.objs.size<=X.env.locals
 inj:∀x y c,X.env.cells.lookup x=some c->X.env.cells.lookup y=some c->x=y
 has:∀x,(X.env.kindOf x=some .cell\/X.env.kindOf x=some .free)->∃c,X.env.cells.lookup x=some c
 cab:∀x c,X.fn x=true->X.env.cells.lookup x=some c->X.s₀.heap.objs.size<=c
 hd:X.calm=true->X.A.handled=none
 frames:X.A.frames=some X.stack
 stk:X.stack=X.outer\/(X.stack=X.env::X.outer/\X.env.frame=some X.env.locals)
 exf:∀b∈X.ex,b≠X.env.locals/\∀x c,X.env.cells.lookup x=some c->c≠b
 bs:∀b o,X.base.get? b=some o->X.s₀.heap.get? b=some o/\X.H₀ b=none
 bsz:X.base.objs.size<=X.s₀.heap.objs.size
 noex:∀b o,X.base.get? b=some o->b∉X.ex
 exfs:∀b∈X.ex,b∉X.fs
 funs:X.s₀.heap.FunFrames X.base X.outer
 frf:∀b∈X.fs,X.H₀ b=none
structure Inv (X:Cx) (pins:List (Addr×Obj)) (σ:List (Option V)) (H:Hp) (s:Shared):Prop where
 ok:X.Ok
 os:s.os=X.s₀.os
 bare:AllBare s.gens
 base:Un X.fs X.ex X.H₀ H X.s₀.heap s.heap
 loc:∃m,s.heap.Ns X.env.locals m/\∀(i:Nat) (x:Str) (v:V),X.N[i]?=some x->σ[i]?=some (some v)->JQ X.env.scope x->∃u,RelV v u/\JR X.env s.heap m x u
 cell:∀x c,X.env.cells.lookup x=some c->∃v,s.heap.IsCell c v
 free:H X.env.locals=none
 freeC:∀x c,X.env.cells.lookup x=some c->H c=none
 pin:∀p∈X.pn++pins,s.heap.get? p.1=some p.2/\H p.1=none/\p.1≠X.env.locals/\p.1∉X.fs/\∀v,p.2.data≠ .cell v
 hok:HOk X.prog X.w H s.heap
 len:σ.length=X.N.length
section
variable {X:Cx} {pins:List (Addr×Obj)} {σ:List (Option V)} {H H':Hp} {s:Shared} {h':Heap}
def Cx.Ok.nofr (ok:X.Ok){b:Addr}{o:Obj}(e:X.base.get? b=some o):b∉X.fs:=λhb=>by
 have:=(ok.funs.mem hb).1;rw[e] at this;cases this
def Inv.bs (I:Inv X pins σ H s):∀b o,X.base.get? b=some o->s.heap.get? b=some o/\H b=none:=λb o e=>
 ⟨I.base.keep b o (I.ok.bs b o e).1 (I.ok.bs b o e).2 (I.ok.nofr e) (I.ok.noex b o e),I.base.free b o (I.ok.bs b o e).1 (I.ok.bs b o e).2 (I.ok.noex b o e)⟩
def Inv.bk (I:Inv X pins σ H s):∀b o,X.base.get? b=some o->s.heap.get? b=some o:=λb o e=>(I.bs b o e).1
def Inv.mod (I:Inv X pins σ H s):Mod X.K X.mg X.base:=I.ok.mod
def Inv.kIn (I:Inv X pins σ H s):X.K.In s.heap:=I.ok.mod.kin.keeps I.bk
def Inv.lt (I:Inv X pins σ H s):X.env.locals<s.heap.objs.size:=let ⟨_,hn,_⟩:=I.loc;hn.lt
def Inv.sz (I:Inv X pins σ H s):X.s₀.heap.objs.size<=s.heap.objs.size:=Mh I.ok.above (NY I.lt)
def Inv.nofs (I:Inv X pins σ H s){a:Addr}(h:s.heap.objs.size<=a):a∉X.fs:=λhb=>by
 obtain⟨_,o,ho,_⟩:=I.ok.funs.mem hb;exact absurd (LJ (LI ho) (Mh I.sz h)) (Ni _)
def Inv.cne (I:Inv X pins σ H s):∀x c,X.env.cells.lookup x=some c->c≠X.env.locals:=λx c e z=>by
 obtain⟨v,o,ho,hd⟩:=I.cell x c e;obtain⟨m,⟨o',es,ep,UN,ZE,_⟩,_⟩:=I.loc;rw[z,UN] at ho;cases ho;rw[ZE] at hd;cases hd
def Inv.funs (I:Inv X pins σ H s):s.heap.FunFrames X.base X.outer:=by
 have all:∀(l:List Env),(∀b∈bu l,b∈X.fs)->X.s₀.heap.FunFrames X.base l->s.heap.FunFrames X.base l:=by
  intro l;induction l with
  |nil=>intro _ _;trivial
  |cons env r ih=>
   intro hs hl
   obtain⟨hk,⟨L,o,hf,hn,ho,hd⟩,hr⟩:=hl
   have hL:L∈X.fs:=hs L (by unfold bu;rw[OY,hf];exact Lv)
   obtain⟨sl,e⟩:=I.base.slot L o ho (I.ok.frf L hL) hL λz=>I.ok.exfs L z hL
   exact⟨hk,⟨L,_,hf,hn,e,hd⟩,ih (λb hb=>hs b (by unfold bu;rw[OY,hf];exact Lw _ hb)) hr⟩
 exact all X.outer (λ_ hb=>hb) I.ok.funs
def Inv.stack (I:Inv X pins σ H s):s.heap.FunFrames X.base X.stack:=by
 rcases I.ok.stk with e|⟨e,hf⟩
 .rw[e];exact I.funs
 .rw[e];obtain⟨m,hn,_⟩:=I.loc;refine .cons (by rw[I.ok.kind];decide) hf hn ?_ I.funs;exact Heap.get?_none_of_le (Mh I.ok.bsz I.ok.above)
def Inv.stkSub (I:Inv X pins σ H s):∀b∈bu X.stack,b∈X.env.locals::X.fs:=λb hb=>by
 rcases I.ok.stk with e|⟨e,hf⟩
 .rw[e] at hb;exact Lw _ hb
 .rw[e] at hb;unfold bu at hb;rw[OY,hf] at hb;exact hb
def Inv.stkFree (I:Inv X pins σ H s):∀b∈bu X.stack,H b=none:=λb hb=>by
 rcases Mi.mp (I.stkSub b hb) with e|hb
 .rw[e];exact I.free
 .obtain⟨_,o,ho,_⟩:=I.ok.funs.mem hb;exact I.base.free b o ho (I.ok.frf b hb) λz=>I.ok.exfs b z hb
def Inv.step {g':Array GenState}{t':Nat}{d':Drawn}{ch:List Addr}(I:Inv X pins σ H s)
  (Uy:∀b∈ch,(b∈X.ex\/X.s₀.heap.objs.size<=b)/\b≠X.env.locals/\(∀x c,X.env.cells.lookup x=some c->c≠b)/\∀p∈X.pn++pins,p.1≠b)
  (keep:∀b o,b≠X.env.locals->b∉X.fs->b∉ch->s.heap.get? b=some o->H b=none->h'.get? b=some o)
  (slot:∀b o,b≠X.env.locals->b∈X.fs->b∉ch->s.heap.get? b=some o->H b=none->∃sl,h'.get? b=some {o with slots:=sl}) (free:∀b o,b∉ch->s.heap.get? b=some o->H b=none->H' b=none)
  (there:∀b o,b∉ch->s.heap.get? b=some o->∃o',h'.get? b=some o')
  (tups:∀b xs,H b=some (.tup xs)->H' b=some (.tup xs)) (frzs:∀b o u,H b=some (.frz o u)->H' b=some (.frz o u)) (tbls:∀b ps,H b=some (.tbl ps)->∃more,H' b=some (.tbl (ps++more)))
  (ns:∀m,s.heap.Ns X.env.locals m->h'.Ns X.env.locals m) (hok:HOk X.prog X.w H' h') (hg:AllBare g'):
  Inv X pins σ H' {s with heap:=h',gens:=g',drawn:=d',toks:=t'}:=by
 have neL:∀b o,X.s₀.heap.get? b=some o->b≠X.env.locals:=λb o e=>Ma (LJ (LI e) I.ok.above)
 have YF:∀b o,X.s₀.heap.get? b=some o->b∉X.ex->b∉ch:=λb o e hx hb=>by
  rcases(Uy b hb).1 with z|z
  .exact hx z
  .exact absurd (LJ (LI e) z) (Ni _)
 have cellK:∀x c,X.env.cells.lookup x=some c->∀v,s.heap.IsCell c v->h'.IsCell c v:=λx c e v ⟨o,ho,hd⟩=>by
  have W_:c∉ch:=λz=>(Uy c z).2.2.1 x c e rfl;by_cases hc:c∈X.fs
  .obtain⟨sl,q⟩:=slot c o (I.cne x c e) hc W_ ho (I.freeC x c e);exact⟨_,q,hd⟩
  .exact⟨o,keep c o (I.cne x c e) hc W_ ho (I.freeC x c e),hd⟩
 refine⟨I.ok,I.os,hg,⟨λb o e n hb hx=>?_,λb o e n hb hx=>?_,λb o e n hx=>?_,λb o e hx=>?_,λb xs e=>tups b xs (I.base.tups b xs e),λb o xs e=>frzs b o xs (I.base.frzs b o xs e),λb ps e=>?_⟩,?_,λx c e=>?_,?_,λx c e=>?_,λp hp=>?_,hok,I.len⟩
 .exact keep b o (neL b o e) hb (YF b o e hx) (I.base.keep b o e n hb hx) (I.base.free b o e n hx)
 .obtain⟨sl,e1⟩:=I.base.slot b o e n hb hx
  obtain⟨sl',e2⟩:=slot b _ (neL b o e) hb (YF b o e hx) e1 (I.base.free b o e n hx)
  exact⟨sl',e2⟩
 .obtain⟨o',e1⟩:=I.base.there b o e hx
  exact free b o' (YF b o e hx) e1 (I.base.free b o e n hx)
 .obtain⟨o',e1⟩:=I.base.there b o e hx
  exact there b o' (YF b o e hx) e1
 .obtain⟨m1,e1⟩:=I.base.tbls b ps e
  obtain⟨m2,e2⟩:=tbls b _ e1
  exact⟨m1++m2,by rw[e2,Sz]⟩
 .obtain⟨m,hn,hl⟩:=I.loc
  refine⟨m,ns m hn,λi x v e1 e2 e3=>?_⟩
  obtain⟨u,r,l⟩:=hl i x v e1 e2 e3
  refine⟨u,r,?_⟩
  rcases l with l|⟨k,c,e,z⟩
  .exact .inl l
  .exact .inr ⟨k,c,e,cellK x c e _ z⟩
 .obtain⟨v,z⟩:=I.cell x c e
  exact⟨v,cellK x c e v z⟩
 .obtain⟨m,⟨o,_,_,ho,_⟩,_⟩:=I.loc
  exact free _ o (λz=>(Uy _ z).2.1 rfl) ho I.free
 .obtain⟨v,o,ho,hd⟩:=I.cell x c e
  exact free c o (λz=>(Uy c z).2.2.1 x c e rfl) ho (I.freeC x c e)
 .obtain⟨e,n,ne,nf,d⟩:=I.pin p hp
  have W_:p.1∉ch:=λz=>(Uy p.1 z).2.2.2 p hp rfl
  exact⟨keep p.1 p.2 ne nf W_ e n,free p.1 p.2 W_ e n,ne,nf,d⟩
def Inv.un {t':Nat}(I:Inv X pins σ H s)(u:Un X.fs [] H H' s.heap h')(hok:HOk X.prog X.w H' h'):Inv X pins σ H' {s with heap:=h',toks:=t'}:=by
 obtain⟨m,⟨o,es,ep,ho,r⟩,_⟩:=id I.loc;obtain⟨sl,hL⟩:=u.any ho I.free (by simp);exact I.step (g':=s.gens) (d':=s.drawn) (ch:=[]) (λ_ z=>nomatch z) (λb o _ hb _ e n=>u.keep b o e n hb (by simp)) (λb o _ hb _ e n=>u.slot b o e n hb (by simp)) (λb o _ e n=>u.free b o e n (by simp)) (λb o _ e=>u.there b o e (by simp)) u.tups u.frzs u.tbls (λm' hm=>by
  obtain⟨o',Ua,Xa,UN,r'⟩:=hm;rw[ho] at UN;cases UN;exact⟨_,Ua,Xa,hL,r'⟩) hok I.bare
def Inv.call {g':Array GenState}{t':Nat}{d':Drawn}{ch:List Addr}(I:Inv X pins σ H s)(u:Un (bu X.stack) ch H H' s.heap h')(hok:HOk X.prog X.w H' h')(hg:AllBare g')
  (Uy:∀b∈ch,(b∈X.ex\/X.s₀.heap.objs.size<=b)/\b≠X.env.locals/\(∀x c,X.env.cells.lookup x=some c->c≠b)/\∀p∈X.pn++pins,p.1≠b):
  Inv X pins σ H' {s with heap:=h',gens:=g',drawn:=d',toks:=t'}:=by
 obtain⟨m,⟨o,es,ep,ho,r⟩,_⟩:=id I.loc
 obtain⟨sl,hL⟩:=u.any ho I.free λz=>(Uy _ z).2.1 rfl
 exact I.step (ch:=ch) Uy (λb o hL hb hc e n=>u.keep b o e n (λz=>(Mi.mp (I.stkSub b z)).elim hL hb) hc) (λb o _ _ hc e n=>u.any e n hc) (λb o hc e n=>u.free b o e n hc) (λb o hc e=>u.there b o e hc) u.tups u.frzs u.tbls (λm' hm=>by
  obtain⟨o',Ua,Xa,UN,r'⟩:=hm;rw[ho] at UN;cases UN;exact⟨_,Ua,Xa,hL,r'⟩) hok hg
def Inv.turned {t':Nat}{it:Addr}(I:Inv X pins σ H s)(k:∀b o,b≠it->s.heap.get? b=some o->h'.get? b=some o)(hn:H it=none)(hL:it≠X.env.locals)
  (h1:it∈X.ex\/X.s₀.heap.objs.size<=it) (h2:∀x c,X.env.cells.lookup x=some c->c≠it) (h3:∀p∈X.pn++pins,p.1≠it):Inv X pins σ H {s with heap:=h',toks:=t'}:=by
 have nit:∀b u,H b=some u->b≠it:=λb u e z=>by rw[z,hn] at e;cases e
 refine I.step (g':=s.gens) (d':=s.drawn) (ch:=[it]) (λb hb=>?_) (λb o _ _ hc e _=>k b o (λz=>hc (by simp [z])) e) (λb o _ _ hc e _=>⟨o.slots,k b o (λz=>hc (by simp [z])) e⟩) (λ_ _ _ _ n=>n)
  (λb o hc e=>⟨o,k b o (λz=>hc (by simp [z])) e⟩) (λ_ _ e=>e) (λ_ _ _ e=>e) (λb ps e=>⟨#[],by rw[e];simp⟩) (λm hm=>?_) (λb u e=>?_) I.bare
 .have e:b=it:=by simpa using hb
  subst e
  exact⟨h1,hL,h2,h3⟩
 .obtain⟨o,es,ep,ho,r⟩:=hm
  exact⟨o,es,ep,k _ o (OD hL) ho,r⟩
 .refine(I.hok b u e).stay (λc v hc q=>k c v ?_ q) (λ_ q=>q) λ_ _ q=>q
  rcases hc with z|z
  .rw[z];exact nit b u e
  .exact nit c _ z
def Inv.tok (I:Inv X pins σ H s)(t:Nat):Inv X pins σ H {s with toks:=t}:=I.un (h':=s.heap) (t':=t) Un.refl I.hok
def Inv.kept {t':Nat}(I:Inv X pins σ H s)(k:∀b u,s.heap.get? b=some u->h'.get? b=some u):Inv X pins σ H {s with heap:=h',toks:=t'}:=I.un (Un.kept k) (I.hok.kept k)
def Inv.laid {a:Addr}{o:HO}{t':Nat}(I:Inv X pins σ H s)(k:∀b u,s.heap.get? b=some u->h'.get? b=some u)(hp:s.heap.objs.size<=a)(new:ObjOk X.prog X.w (upd H a o) h' a o):
  Inv X pins σ (upd H a o) {s with heap:=h',toks:=t'}:=I.un (Un.laid k hp (I.hok.fresh hp)) (I.hok.laid k hp new)
def Inv.write {x e:Addr}{o:HO}{t':Nat}(I:Inv X pins σ H s)(mu:Hr (H x))(he:e=x\/H e=some (.own x))(k:∀b u,b≠e->s.heap.get? b=some u->h'.get? b=some u)(Vl:∃u,h'.get? e=some u)
  (new:ObjOk X.prog X.w (upd H x o) h' x o):Inv X pins σ (upd H x o) {s with heap:=h',toks:=t'}:=I.un (Un.write mu he k Vl) (I.hok.write mu he k Vl new)
def Inv.weak {σ':List (Option V)}(I:Inv X pins σ H s)(hl:σ'.length=σ.length)(w:∀(i:Nat) v,σ'[i]?=some (some v)->σ[i]?=some (some v)):Inv X pins σ' H s:=
 ⟨I.ok,I.os,I.bare,I.base,let ⟨m,hn,RE⟩:=I.loc;⟨m,hn,λi x v e1 e2 e3=>RE i x v e1 (w i v e2) e3⟩,I.cell,I.free,I.freeC,I.pin,I.hok,hl.trans I.len⟩
def Inv.pins_of {i_:List (Addr×Obj)}(I:Inv X pins σ H s)(h:∀p∈i_,s.heap.get? p.1=some p.2/\H p.1=none/\p.1≠X.env.locals/\p.1∉X.fs/\∀v,p.2.data≠ .cell v):Inv X i_ σ H s:=
 ⟨I.ok,I.os,I.bare,I.base,I.loc,I.cell,I.free,I.freeC,λp hp=>(LC.mp hp).elim (λz=>I.pin p (Ls _ z)) (h p),I.hok,I.len⟩
def tO {N:List Str}(hN:N.Nodup){i j:Nat}{x:Str}(a:N[i]?=some x)(b:N[j]?=some x):i=j:=by
 obtain⟨h1,e1⟩:=Mf.mp a;obtain⟨h2,e2⟩:=Mf.mp b;exact(List.getElem_inj hN).mp (e1.trans e2.symm)
def oU {M:Model}{A:Around}{E:Value->Shared->Prop}{i:Nat}{x:Str}{v:V}{u:Value}{Q:Unit->Shared->Prop}(I:Inv X pins σ H s)(hN:X.N.Nodup)(hi:X.N[i]?=some x)(hx:DF X.env.scope x)(r:RelV v u)
  (h:∀s',Inv X pins (σ.set i (some v)) H s'->(∃a,Heap.SameBut a s.heap s'.heap/\(a=X.env.locals\/X.env.cells.lookup x=some a))->Q () s') (hf:X.fn x=true\/X.env.scope.names.lookup x=some .local:=by first|exact .inl rfl|exact .inr rfl|assumption):wpAny M A (storeName X.env x u) Q E s:=by
 obtain⟨m,hn,hl⟩:=id I.loc
 have ZF:(X.env.scope.kind== .class||(X.env.scope.kind== .module&&X.env.locals !=X.env.globals))=false:=by rw[I.ok.kind];rfl
 have hiσ:i<σ.length:=by rw[I.len];exact(Mf.mp hi).1
 have cne:=I.cne
 have tracked:∀{a:Addr} {h':Heap},(∃o,s.heap.get? a=some o/\H a=none)->Heap.SameBut a s.heap h'->HOk X.prog X.w H h':=fun{a h'} ha hs b ob e=>by
  obtain⟨_,_,Vm⟩:=ha;refine(I.hok b ob e).stay (λc w' hc q=>(hs.2 c ?_).trans q) (λ_ q=>q) λ_ _ q=>q;rintro rfl;rcases hc with rfl|hc
  .rw[Vm] at e;cases e
  .rw[Vm] at hc;cases hc
 rcases hx with hk|hk
 .refine wpAny_storeName_local hk hn (λh' ZG hs=>?_) ZF
  obtain⟨oL,_,_,hoL,_⟩:=id hn
  refine h _ ⟨I.ok,I.os,I.bare,⟨λb o e n hb hx=>?_,λb o e n hb hx=>?_,I.base.free,λb o e hx=>?_,I.base.tups,I.base.frzs,I.base.tbls⟩,⟨_,ZG,λj y v' e1 e2 e3=>?_⟩,λy c e=>?_,I.free,I.freeC,λp hp=>?_,tracked ⟨oL,hoL,I.free⟩ hs,by simpa using I.len⟩ ⟨_,hs,.inl rfl⟩
  .exact(hs.2 b (Ma (LJ (LI e) I.ok.above))).trans (I.base.keep b o e n hb hx)
  .obtain⟨sl,e1⟩:=I.base.slot b o e n hb hx
   exact⟨sl,(hs.2 b (Ma (LJ (LI e) I.ok.above))).trans e1⟩
  .obtain⟨o',e1⟩:=I.base.there b o e hx
   exact⟨o',(hs.2 b (Ma (LJ (LI e) I.ok.above))).trans e1⟩
  .by_cases hj:j=i
   .subst hj
    rw[hi] at e1;cases e1
    rw[Px hiσ] at e2
    cases e2
    exact⟨u,r,.inl ⟨hk,by simp⟩⟩
   .rw[RU (OD hj)] at e2
    obtain⟨u',r',q⟩:=hl j y v' e1 e2 e3
    refine⟨u',r',?_⟩
    rcases q with⟨k,e⟩|⟨k,c,e,z⟩
    .refine .inl ⟨k,?_⟩
     have:y≠x:=λe=>hj (tO hN e1 (e▸hi))
     simp [this,e]
    .exact .inr ⟨k,c,e,z.sameBut hs (cne y c e)⟩
  .obtain⟨w',z⟩:=I.cell y c e
   exact⟨w',z.sameBut hs (cne y c e)⟩
  .obtain⟨e,n,ne,nf,d⟩:=I.pin p hp
   exact⟨(hs.2 p.1 ne).trans e,n,ne,nf,d⟩
 .have Xb:X.fn x=true:=by
   rcases hf with z|z
   .exact z
   .rw[z] at hk;cases hk
  obtain⟨c,hc⟩:=I.ok.has x (.inl hk)
  obtain⟨w',z⟩:=I.cell x c hc
  refine wpAny_storeName_cell I.ok.kind hk hc z (λh' TM hs=>?_)
  obtain⟨oc,VF,VG⟩:=id z
  refine h {s with heap:=h'} ⟨I.ok,I.os,I.bare,⟨λb o e n hb hx=>?_,λb o e n hb hx=>?_,I.base.free,λb o e hx=>?_,I.base.tups,I.base.frzs,I.base.tbls⟩,⟨m,hn.sameBut hs (OD (cne x c hc)),λj y v' e1 e2 e3=>?_⟩,λy c' e=>?_,I.free,I.freeC,λp hp=>?_,tracked ⟨oc,VF,I.freeC x c hc⟩ hs,by simpa using I.len⟩ ⟨c,hs,.inr hc⟩
  .exact(hs.2 b (Ma (LJ (LI e) (I.ok.cab x c Xb hc)))).trans (I.base.keep b o e n hb hx)
  .obtain⟨sl,e1⟩:=I.base.slot b o e n hb hx
   exact⟨sl,(hs.2 b (Ma (LJ (LI e) (I.ok.cab x c Xb hc)))).trans e1⟩
  .obtain⟨o',e1⟩:=I.base.there b o e hx
   exact⟨o',(hs.2 b (Ma (LJ (LI e) (I.ok.cab x c Xb hc)))).trans e1⟩
  .by_cases hj:j=i
   .subst hj
    rw[hi] at e1;cases e1
    rw[Px hiσ] at e2
    cases e2
    exact⟨u,r,.inr ⟨.inl hk,c,hc,TM⟩⟩
   .rw[RU (OD hj)] at e2
    obtain⟨u',r',q⟩:=hl j y v' e1 e2 e3
    refine⟨u',r',?_⟩
    rcases q with q|⟨k,c',e,z'⟩
    .exact .inl q
    .refine .inr ⟨k,c',e,z'.sameBut hs ?_⟩
     rintro rfl
     exact hj (tO hN e1 (I.ok.inj _ _ _ e hc▸hi))
  .by_cases Xc:c'=c
   .subst Xc;exact⟨_,TM⟩
   .obtain⟨w2,z2⟩:=I.cell y c' e
    exact⟨w2,z2.sameBut hs Xc⟩
  .obtain⟨e,n,ne,nf,d⟩:=I.pin p hp
   refine⟨(hs.2 p.1 ?_).trans e,n,ne,nf,d⟩
   intro q
   rw[q,VF] at e
   have q':oc=p.2:=LO e
   exact d w' (by rw[←q'];exact VG)
def tu {M:Model}{A:Around}{E:Value->Shared->Prop}{i:Nat}{x:Str}{v:V}{u:Value}{Q:Unit->Shared->Prop}(I:Inv X pins σ H s)(hN:X.N.Nodup)(hi:X.N[i]?=some x)(hx:DF X.env.scope x)(r:RelV v u)
  (h:∀s',Inv X pins (σ.set i (some v)) H s'->Q () s') (hf:X.fn x=true\/X.env.scope.names.lookup x=some .local:=by first|exact .inl rfl|exact .inr rfl|assumption):wpAny M A (storeName X.env x u) Q E s:=
 oU I hN hi hx r (λs' I' _=>h s' I') hf
def Inv.call' {s':Shared}{ch:List Addr}(I:Inv X pins σ H s)(ho:s'.os=s.os)(u:Un (bu X.stack) ch H H' s.heap s'.heap)(hok:HOk X.prog X.w H' s'.heap)(hg:AllBare s'.gens)
  (Uy:∀b∈ch,(b∈X.ex\/X.s₀.heap.objs.size<=b)/\b≠X.env.locals/\(∀x c,X.env.cells.lookup x=some c->c≠b)/\∀p∈X.pn++pins,p.1≠b):Inv X pins σ H' s':=by
 obtain⟨h',g',d',t',o'⟩:=s'
 have e:o'=s.os:=ho
 subst e
 exact I.call (g':=g') (t':=t') (d':=d') u hok hg Uy
end
abbrev XK:=Value->Option Addr->Hp->Prop
abbrev St:=List (Option V)
abbrev VK:=V->Hp->Prop
abbrev TE:=St->Hp->VK->Prop
abbrev TT:=St->Hp->(Bool->Hp->Prop)->Prop
abbrev TA:=St->Hp->(List V->Hp->Prop)->Prop
structure sZ where
 nx:St->Hp->Prop
 rt:VK
 bk:St->Hp->Prop:=λ_ _=>False
 ct:St->Hp->Prop:=λ_ _=>False
abbrev TS:=sZ->St->Hp->Prop
def EP (X:Cx)(pins:List (Addr×Obj))(σ:St)(Q:VK)(u:Value)(s':Shared):Prop:=∃v H',Inv X pins σ H' s'/\RelV v u/\Q v H'
def TP (X:Cx)(pins:List (Addr×Obj))(σ:St)(Q:Bool->Hp->Prop)(b:Bool)(s':Shared):Prop:=∃H',Inv X pins σ H' s'/\Q b H'
def AP (X:Cx)(pins:List (Addr×Obj))(σ:St)(Q:List V->Hp->Prop)(us:List Value)(s':Shared):Prop:=∃vs H',Inv X pins σ H' s'/\Vals vs us/\Q vs H'
def SP (X:Cx)(pins:List (Addr×Obj))(D:sZ)(f:Flow)(s':Shared):Prop:=
 match f with
 | .next=>∃σ' H',Inv X pins σ' H' s'/\D.nx σ' H'
 | .brk=>∃σ' H',Inv X pins σ' H' s'/\D.bk σ' H'
 | .cont=>∃σ' H',Inv X pins σ' H' s'/\D.ct σ' H'
 | .ret u=>∃v σ' H',Inv X pins σ' H' s'/\RelV v u/\D.rt v H'
def PE (X:Cx)(e:Expr)(t:TE):Prop:=
 ∀(pins:List (Addr×Obj)) (s:Shared) (σ:St) (H:Hp) (Q:VK),Inv X pins σ H s->t σ H Q->wpAny (model X.prog X.w) X.A (eval e X.env) (EP X pins σ Q) X.xe s
def PT (X:Cx)(e:Expr)(t:TT):Prop:=
 ∀(pins:List (Addr×Obj)) (s:Shared) (σ:St) (H:Hp) (Q:Bool->Hp->Prop),Inv X pins σ H s->t σ H Q->wpAny (model X.prog X.w) X.A (isTrue e X.env (eval e X.env)) (TP X pins σ Q) X.xe s
def PW (X:Cx)(e:Expr)(t:TT):Prop:=
 ∀(whole:Sem Value) (pins:List (Addr×Obj)) (s:Shared) (σ:St) (H:Hp) (Q:Bool->Hp->Prop),Inv X pins σ H s->t σ H Q->wpAny (model X.prog X.w) X.A (isTrue e X.env whole) (TP X pins σ Q) X.xe s
def PW.pt {X:Cx}{e:Expr}{t:TT}(h:PW X e t):PT X e t:=h _
def PA (X:Cx)(es:List Expr)(t:TA):Prop:=
 ∀(pos:Pos) (pins:List (Addr×Obj)) (s:Shared) (σ:St) (H:Hp) (Q:List V->Hp->Prop),Inv X pins σ H s->t σ H Q->wpAny (model X.prog X.w) X.A (spliced (backTo pos (starEach es X.env))) (AP X pins σ Q) X.xe s
def PS (X:Cx)(st:Stmt)(t:TS):Prop:=
 ∀(pins:List (Addr×Obj)) (s:Shared) (σ:St) (H:Hp) (D:sZ),Inv X pins σ H s->t D σ H->wpAny (model X.prog X.w) X.A (exec st X.env) (SP X pins D) X.xe s
def PSs (X:Cx)(st:List Stmt)(t:TS):Prop:=
 ∀(pins:List (Addr×Obj)) (s:Shared) (σ:St) (H:Hp) (D:sZ),Inv X pins σ H s->t D σ H->wpAny (model X.prog X.w) X.A (execs st X.env) (SP X pins D) X.xe s
def N3 {α:Type}{t:Sem α}{Q Q':α->Shared->Prop}{M:Model}{A:Around}{E:Value->Shared->Prop}{s:Shared}(h:wpAny M A t Q E s)(hQ:∀a s,Q a s->Q' a s):wpAny M A t Q' E s:=PD h hQ λ_ _ x=>x
section
variable {X:Cx}
def zQ (i:Nat):TE:=λσ H Q=>∃v,σ[i]?=some (some v)/\Q v H
def tC (v:V):TE:=λ_ H Q=>Q v H
def FN {i:Nat}{x:Str}{pos:Pos}(hN:X.N[i]?=some x)(hv:JQ X.env.scope x)(hd:(x==("__debug__":Str))=false:=by decide)(SN:(x==("__classdict__":Str))=false:=by decide):PE X (.Name x pos) (zQ i):=by
 intro pins s σ H Q I h;obtain⟨v,e,h⟩:=h;obtain⟨m,hn,hl⟩:=I.loc;obtain⟨u,r,l⟩:=hl i x v hN e hv;have fin:EP X pins σ Q u s:=⟨v,H,I,r,h⟩
 rcases l with⟨hk,hm⟩|⟨hk,c,hc,SR⟩
 .exact wpAny_Name (wpAny_loadName_local I.ok.kind hk hn hm fin) hd
 .rcases hk with hk|hk
  .exact wpAny_Name (wpAny_loadName_cell I.ok.kind hk hc SR fin) hd
  .exact wpAny_Name (wpAny_loadName_free I.ok.kind hk hc SR fin SN) hd
def Em {i j pos}:PE X (.Constant (.int i) j pos) (tC (.int i)):=λ_ _ _ H _ I h=>wpAny_Constant_int ⟨.int i,H,I.tok _,⟨_,rfl⟩,h⟩
def Iy {b j pos}:PE X (.Constant (.bool b) j pos) (tC (.bl b)):=λ_ _ _ H _ I h=>Constant_bool ⟨.bl b,H,I,rfl,h⟩
def Ez {j pos}:PE X (.Constant .none j pos) (tC .non):=λ_ _ _ H _ I h=>Constant_none ⟨.non,H,I,rfl,h⟩
def Gs {x j pos}:PE X (.Constant (.str x) j pos) (tC (.str x)):=λ_ _ _ H _ I h=>Calls.Constant_str ⟨.str x,H,I.tok _,⟨_,rfl⟩,h⟩
def Gl (X:Cx)(x:Str):Prop:=X.env.kindOf x=some .globalImplicit
def gM {E:Value->Shared->Prop}{pins:List (Addr×Obj)}{s:Shared}{σ:St}{H:Hp}{x:Str}{u:Value}{pos:Pos}{Q:Value->Shared->Prop}(I:Inv X pins σ H s)(hg:Gl X x)(hm:X.mg x=some u)(h:Q u s)
  (hd:(x==("__debug__":Str))=false:=by decide):wpAny (model X.prog X.w) X.A (eval (.Name x pos) X.env) Q E s:=
 Qz I.ok.kind hg (Calls.loadGlobal_global (by rw[I.ok.glob];exact I.mod.glob.keeps I.bk) hm h) hd
def lS {E:Value->Shared->Prop}{pins:List (Addr×Obj)}{s:Shared}{σ:St}{H:Hp}{x:Str}{u:Value}{pos:Pos}{Q:Value->Shared->Prop}(I:Inv X pins σ H s)(hg:Gl X x)(hm:X.mg x=none)(hv:bootBuiltins x=some u)(h:Q u s)
  (hn:x≠"__name__":=by decide) (hd:(x==("__debug__":Str))=false:=by decide):wpAny (model X.prog X.w) X.A (eval (.Name x pos) X.env) Q E s:=by
 obtain⟨mb,h1,h2⟩:=I.mod.blt
 exact Qz I.ok.kind hg (Calls.loadGlobal_builtin (by rw[I.ok.glob];exact I.mod.glob.keeps I.bk) hm (by rw[I.ok.blt];exact h1.keeps I.bk) ((h2 x hn).trans hv) h) hd
def Df {x:Str}{v:V}{u:Value}{pos:Pos}(hg:Gl X x)(hm:X.mg x=some u)(r:RelV v u)(hd:(x==("__debug__":Str))=false:=by decide):PE X (.Name x pos) (tC v):=
 λ_ _ _ H _ I h=>gM I hg hm ⟨v,H,I,r,h⟩ hd
def Ce {x:Str}{v:V}{u:Value}{pos:Pos}(hg:Gl X x)(hm:X.mg x=none)(hv:bootBuiltins x=some u)(r:RelV v u)(hn:x≠"__name__":=by decide)(hd:(x==("__debug__":Str))=false:=by decide):PE X (.Name x pos) (tC v):=
 λ_ _ _ H _ I h=>lS I hg hm hv ⟨v,H,I,r,h⟩ hn hd
variable {a b:Expr} {ta tb:TE} {pos:Pos}
def RelV.none_iff {x:V}{v:Value}(r:RelV x v):(v==Value.none)=decide (x= .non):=by grind [cases V,RelV]
variable {tA UO:TT} {au:List Expr}
def Fx (t u:TT):TT:=λσ H Q=>t σ H λc H1=>if c=true then u σ H1 Q else Q false H1
def JL (t u:TT):TT:=λσ H Q=>t σ H λc H1=>if c=true then Q true H1 else u σ H1 Q
def Eu (t:TT):TT:=λσ H Q=>t σ H λc H1=>Q (!c) H1
def CH (ha:PT X a tA):PW X (.BoolOp .And [a] pos) tA:=by
 intro wh pins s σ H Q I h;refine isTrue_and (N3 (ha pins s σ H Q I h) λc s1 e=>?_);cases c with
 |true=>exact isTrue_and_nil e
 |false=>exact e
def Fj (ha:PT X a tA):PW X (.BoolOp .Or [a] pos) tA:=by
 intro wh pins s σ H Q I h;refine isTrue_or (N3 (ha pins s σ H Q I h) λc s1 e=>?_);cases c with
 |false=>exact isTrue_or_nil e
 |true=>exact e
def Gf (ha:PT X a tA)(hb:PW X (.BoolOp .And (b::au) pos) UO):PW X (.BoolOp .And (a::b::au) pos) (Fx tA UO):=by
 intro wh pins s σ H Q I h;refine isTrue_and (N3 (ha pins s σ H _ I h) λc s1 ⟨H1,I1,q1⟩=>?_);cases c with
 |true=>exact hb wh pins s1 σ H1 Q I1 q1
 |false=>exact⟨H1,I1,q1⟩
def HL (ha:PT X a tA)(hb:PW X (.BoolOp .Or (b::au) pos) UO):PW X (.BoolOp .Or (a::b::au) pos) (JL tA UO):=by
 intro wh pins s σ H Q I h;refine isTrue_or (N3 (ha pins s σ H _ I h) λc s1 ⟨H1,I1,q1⟩=>?_);cases c with
 |true=>exact⟨H1,I1,q1⟩
 |false=>exact hb wh pins s1 σ H1 Q I1 q1
def FV (ha:PT X a tA):PT X (.UnaryOp .Not a pos) (Eu tA):=by
 intro pins s σ H Q I h;exact isTrue_not (ha pins s σ H (λc H1=>Q (!c) H1) I h)
def AM (ta tb:TE):TE:=λσ H Q=>ta σ H λx H1=>∃c,x= .bl c/\if c=true then tb σ H1 Q else Q (.bl false) H1
def Fs (ta tb:TE):TE:=λσ H Q=>ta σ H λx H1=>∃c,x= .bl c/\if c=true then Q (.bl true) H1 else tb σ H1 Q
def AX (ta:TE):TE:=λσ H Q=>ta σ H λx H1=>∃c,x= .bl c/\Q (.bl (!c)) H1
def FZ {op}{t:TE}(h:PE X a t):PE X (.BoolOp op [a] pos) t:=λpins s σ H Q I hw=>BoolOp_one (h pins s σ H Q I hw)
def FW (ha:PE X a ta)(hb:PE X (.BoolOp .And (b::au) pos) tb):PE X (.BoolOp .And (a::b::au) pos) (AM ta tb):=by
 intro pins s σ H Q I h;refine BoolOp_and (N3 (ha pins s σ H _ I h) λv s1 ⟨x,H1,I1,r1,q1⟩=>?_);obtain⟨c,rfl,q1⟩:=q1;cases r1;refine MY ?_;cases c with
 |true=>exact hb pins s1 σ H1 Q I1 q1
 |false=>exact⟨.bl false,H1,I1,rfl,q1⟩
def ID (ha:PE X a ta)(hb:PE X (.BoolOp .Or (b::au) pos) tb):PE X (.BoolOp .Or (a::b::au) pos) (Fs ta tb):=by
 intro pins s σ H Q I h;refine BoolOp_or (N3 (ha pins s σ H _ I h) λv s1 ⟨x,H1,I1,r1,q1⟩=>?_);obtain⟨c,rfl,q1⟩:=q1;cases r1;refine MY ?_;cases c with
 |false=>exact hb pins s1 σ H1 Q I1 q1
 |true=>exact⟨.bl true,H1,I1,rfl,q1⟩
def Gk (ha:PE X a ta):PE X (.UnaryOp .Not a pos) (AX ta):=by
 intro pins s σ H Q I h;refine UnaryOp_ (N3 (ha pins s σ H _ I h) λv s1 ⟨x,H1,I1,r1,q1⟩=>?_);obtain⟨c,rfl,q1⟩:=q1;cases r1;exact not_of (MY ⟨.bl (!c),H1,I1,rfl,q1⟩)
end
def SqL (K:Za)(H:Hp)(a:Addr)(xs:List V):Prop:=
 Rd H a (.lst xs)\/
  ∃(o:Obj) (a_:Array Value) (n:Nat),K.lookup a=some o/\o.cls= .type "list"/\o.dict=none/\o.data= .seq a_ n/\a_.size<=sizeLine/\Vals xs a_.toList
def SqT (K:Za)(H:Hp)(a:Addr)(xs:List V):Prop:=
 Rd H a (.tup xs)\/
  ∃(o:Obj) (a_:Array Value) (n:Nat),K.lookup a=some o/\o.cls= .type "tuple"/\o.data= .seq a_ n/\a_.size<=sizeLine/\Vals xs a_.toList
def IM:Value->Option V
 | .none=>some .non
 | .bool b=>some (.bl b)
 | .int i _=>some (.int i)
 | .str x _=>some (.str x)
 | .bytes b _=>some (.byt b)
 | .float b _=>some (.flt b)
 | .ref a=>some (.ref a)
 | .type n=>some (.ty n)
 |_=>none
def RelV.abs {x:V}{u:Value}(r:RelV x u):IM u=some x:=by grind [cases V,RelV,IM]
def RelV.inj {x y:V}{u:Value}(r:RelV x u)(q:RelV y u):x=y:=LO (r.abs.symm.trans q.abs)
theorem Vals.inj:∀{xs ys:List V} {us:List Value},Vals xs us->Vals ys us->xs=ys
 |_,_,_,.nil,.nil=>rfl
 |_,_,_,.cons r t,.cons r' t'=>by rw[r.inj r',Vals.inj t t']
section
variable {X:Cx} {pins:List (Addr×Obj)} {σ:St} {H:Hp} {s:Shared} {a:Addr} {xs ys:List V}
def SqL.of {K:Za}(h:H a=some (.lst xs)):SqL K H a xs:= .inl (.inl h)
def SqT.of {K:Za}(h:H a=some (.tup xs)):SqT K H a xs:= .inl (.inl h)
def Inv.list (I:Inv X pins σ H s)(h:SqL X.K H a xs):∃a_:List Value,Vals xs a_/\PlainL s.heap a a_.toArray/\xs.length<=sizeLine:=by
 rcases h with h|⟨o,a_,n,hk,hc,hd,hs,hz,r⟩
 .obtain⟨z,a_,n,r,e⟩:=h.ok I.hok;exact⟨a_,r,⟨_,n,e,rfl,rfl,rfl⟩,z⟩
 .refine⟨a_.toList,r,⟨o,n,I.kIn a o hk,hc,hd,by simpa using hs⟩,?_⟩;have e:=r.length;simp only[Mz] at e;lia
def Inv.tuple (I:Inv X pins σ H s)(h:SqT X.K H a xs):∃a_:List Value,Vals xs a_/\IsTup s.heap a a_.toArray/\xs.length<=sizeLine:=by
 rcases h with h|⟨o,a_,n,hk,hc,hs,hz,r⟩
 .obtain⟨z,a_,r,p⟩:=h.ok I.hok;exact⟨a_,r,p,z⟩
 .refine⟨a_.toList,r,⟨o,I.kIn a o hk,hc,n,by simpa using hs⟩,?_⟩;have e:=r.length;simp only[Mz] at e;lia
def Inv.list_inj (I:Inv X pins σ H s)(h:SqL X.K H a xs)(h':SqL X.K H a ys):xs=ys:=by
 obtain⟨a_,r,⟨o,n,e,_,_,d⟩,_⟩:=I.list h;obtain⟨its',r',⟨o',n',e',_,_,d'⟩,_⟩:=I.list h';rw[e] at e';cases e';rw[d] at d';injection d' with d1 _
 have:a_=its':=by simpa using Mw Array.toList d1
 subst this;exact r.inj r'
def Inv.tuple_inj (I:Inv X pins σ H s)(h:SqT X.K H a xs)(h':SqT X.K H a ys):xs=ys:=by
 obtain⟨a_,r,⟨o,e,_,n,d⟩,_⟩:=I.tuple h;obtain⟨its',r',⟨o',e',_,n',d'⟩,_⟩:=I.tuple h';rw[e] at e';cases e';rw[d] at d';injection d' with d1 _
 have:a_=its':=by simpa using Mw Array.toList d1
 subst this;exact r.inj r'
end
abbrev Cx.wish (X:Cx)(E:Value->Shared->Prop):Cx:={X with xe:=E}
abbrev Cx.nox (X:Cx):Cx:=X.wish λ_ _=>False
def Cx.Ok.wish {X:Cx}(ok:X.Ok)(E:Value->Shared->Prop):(X.wish E).Ok:=
 ⟨ok.mod,ok.kind,ok.glob,ok.blt,ok.above,ok.inj,ok.has,ok.cab,ok.hd,ok.frames,ok.stk,ok.exf,ok.bs,ok.bsz,ok.noex,ok.exfs,ok.funs,ok.frf⟩
def Cx.Ok.unwish {X:Cx}{E:Value->Shared->Prop}(ok:(X.wish E).Ok):X.Ok:=
 ⟨ok.mod,ok.kind,ok.glob,ok.blt,ok.above,ok.inj,ok.has,ok.cab,ok.hd,ok.frames,ok.stk,ok.exf,ok.bs,ok.bsz,ok.noex,ok.exfs,ok.funs,ok.frf⟩
section
variable {X:Cx} {pins:List (Addr×Obj)} {σ:St} {H:Hp} {s:Shared} {E:Value->Shared->Prop}
def Inv.wish (I:Inv X pins σ H s)(E:Value->Shared->Prop):Inv (X.wish E) pins σ H s:=⟨I.ok.wish E,I.os,I.bare,I.base,I.loc,I.cell,I.free,I.freeC,I.pin,I.hok,I.len⟩
def Inv.unwish (I:Inv (X.wish E) pins σ H s):Inv X pins σ H s:=⟨I.ok.unwish,I.os,I.bare,I.base,I.loc,I.cell,I.free,I.freeC,I.pin,I.hok,I.len⟩
def SP.unwish {D:sZ}{f:Flow}{s':Shared}(h:SP (X.wish E) pins D f s'):SP X pins D f s':=by
 cases f with
 |next=>obtain⟨σ',H',I,q⟩:=h;exact⟨σ',H',I.unwish,q⟩
 |brk=>obtain⟨σ',H',I,q⟩:=h;exact⟨σ',H',I.unwish,q⟩
 |cont=>obtain⟨σ',H',I,q⟩:=h;exact⟨σ',H',I.unwish,q⟩
 |ret u=>obtain⟨v,σ',H',I,r,q⟩:=h;exact⟨v,σ',H',I.unwish,r,q⟩
def PSs.nox {st:List Stmt}{t:TS}(h:PSs X.nox st t):PSs X st t:=λpins s σ H D I hw=>
 PD (h pins s σ H D (I.wish _) hw) (λ_ _ q=>q.unwish) λ_ _ z=>False.elim z
end
section
variable {X:Cx} {st:Stmt} {au:List Stmt} {t u:TS} {e:Expr} {te:TE} {pos:Pos}
def yI:TS:=λD σ H=>D.nx σ H
def Ag (t u:TS):TS:=λD σ H=>t {D with nx:=u D} σ H
def BH:PSs X [] yI:=λ_ _ σ H _ I h=>Ql ⟨σ,H,I,h⟩
def zI (h1:PS X st t)(h2:PSs X au u):PSs X (st::au) (Ag t u):=by
 intro pins s σ H D I h;refine wpAny_execs_cons (N3 (h1 pins s σ H {D with nx:=u D} I h) λf s1 q=>?_);cases f with
 |next=>
  obtain⟨σ',H',I',q⟩:=q
  exact h2 pins s1 σ' H' D I' q
 |ret v=>exact q
 |brk=>exact q
 |cont=>exact q
def CW (h1:PS X st t):PSs X [st] t:=by
 intro pins s σ H D I h;refine wpAny_execs_cons (N3 (h1 pins s σ H D I h) λf s1 q=>?_);cases f with
 |next=>exact Ql q
 |ret v=>exact q
 |brk=>exact q
 |cont=>exact q
def Inv.quiet {pins:List (Addr×Obj)}{σ:St}{H:Hp}{s:Shared}(I:Inv X pins σ H s):interactive X.env=false:=by simp [interactive,I.ok.kind]
def zJ (te:TE):TS:=λD σ H=>te σ H λ_ H1=>D.nx σ H1
def CD (he:PE X e te)(hs:swapsWith e none pos.line X.env=pure false:=by rfl):PS X (.Expr e pos) (zJ te):=by
 intro pins s σ H D I h;exact wpAny_Expr_any (N3 (he pins s σ H _ I h) λv s1 ⟨x,H1,I1,r1,q1⟩=>⟨σ,H1,I1,q1⟩) I.quiet hs
def Ex (te:TE):TS:=λD σ H=>te σ H D.rt
def Ed (he:PE X e te):PS X (.Return (some e) pos) (Ex te):=by
 intro pins s σ H D I h;exact wpAny_Return_some (N3 (he pins s σ H _ I h) λv s1 ⟨x,H1,I1,r1,q1⟩=>⟨x,σ,H1,I1,r1,q1⟩)
def EF (c:TT)(t u:TS):TS:=λD σ H=>c σ H λb H1=>if b=true then t D σ H1 else u D σ H1
def Ho {c:Expr}{a b:List Stmt}{tc:TT}(hc:PT X c tc)(ha:PSs X a t)(hb:PSs X b u):PS X (.If c a b pos) (EF tc t u):=by
 intro pins s σ H D I h;refine wpAny_If (N3 (hc pins s σ H _ I h) λd s1 ⟨H1,I1,q1⟩=>?_);cases d with
 |true=>exact ha pins s1 σ H1 D I1 q1
 |false=>exact hb pins s1 σ H1 D I1 q1
end
abbrev TG:=V->St->Hp->(St->Hp->Prop)->Prop
abbrev uQ:=List V->St->Hp->(St->Hp->Prop)->Prop
def PG (X:Cx)(target:Expr)(t:TG):Prop:=
 ∀(pins:List (Addr×Obj)) (s:Shared) (σ:St) (H:Hp) (v:V) (u:Value) (Q:St->Hp->Prop),Inv X pins σ H s->RelV v u->t v σ H Q->
  wpAny (model X.prog X.w) X.A (assign target X.env u) (λ_ s'=>∃σ' H',Inv X pins σ' H' s'/\Q σ' H') X.xe s
def Ds (X:Cx)(ts:List Expr)(t:uQ):Prop:=
 ∀(pins:List (Addr×Obj)) (s:Shared) (σ:St) (H:Hp) (vs:List V) (us:List Value) (Q:St->Hp->Prop),Inv X pins σ H s->Vals vs us->t vs σ H Q->
  wpAny (model X.prog X.w) X.A (assignInOrder ((assignEach ts X.env).map (·.2)) us) (λ_ s'=>∃σ' H',Inv X pins σ' H' s'/\Q σ' H') X.xe s
abbrev uL:=V->V->V->Hp->(Hp->Prop)->Prop
def xg (X:Cx)(t:uL):Prop:=
 ∀(pins:List (Addr×Obj)) (s:Shared) (σ:St) (H:Hp) (o i v:V) (ov iv u:Value) (Q:Hp->Prop),Inv X pins σ H s->RelV o ov->RelV i iv->RelV v u->t o i v H Q->
  wpAny (model X.prog X.w) X.A (setItem ov iv u) (λ_ s'=>∃H',Inv X pins σ H' s'/\Q H') X.xe s
section
variable {X:Cx} {pos:Pos}
def R9 (i:Nat):TG:=λv σ H Q=>Q (σ.set i (some v)) H
def CC {i:Nat}{x:Str}(hN:X.N.Nodup)(hi:X.N[i]?=some x)(hx:DF X.env.scope x)(hf:X.fn x=true\/X.env.scope.names.lookup x=some .local:=by first|exact .inl rfl|exact .inr rfl|assumption):PG X (.Name x pos) (R9 i):=by
 intro pins s σ H v u Q I r h;exact wpAny_assign_Name (tu I hN hi hx r (λs' I'=>⟨_,H,I',h⟩) hf)
def EN:uQ:=λvs σ H Q=>vs=[]/\Q σ H
def vW (t:TG)(u:uQ):uQ:=λvs σ H Q=>∃v r,vs=v::r/\t v σ H λσ' H'=>u r σ' H' Q
def CO:Ds X [] EN:=by
 intro pins s σ H vs us Q I r h;obtain⟨e,h⟩:=h;subst e;cases r;exact assignInOrder_nil ⟨σ,H,I,h⟩
def Bf {e:Expr}{es:List Expr}{t:TG}{u:uQ}(h1:PG X e t)(h2:Ds X es u)
  (hs:(assignEach (e::es) X.env).map (·.2)=assign e X.env::(assignEach es X.env).map (·.2):=by rfl):Ds X (e::es) (vW t u):=by
 intro pins s σ H vs us Q I r h
 obtain⟨v,vr,e1,h⟩:=h
 subst e1
 cases r with
 |cons r rr=>
  rw[hs]
  refine assignInOrder_cons (N3 (h1 pins s σ H _ _ _ I r h) λ_ s1 ⟨σ1,H1,I1,q1⟩=>?_)
  exact h2 pins s1 σ1 H1 _ _ Q I1 rr q1
def zf (K:Za)(n:Nat)(t:uQ):TG:=λv σ H Q=>∃a xs,v= .ref a/\SqT K H a xs/\xs.length=n/\t xs σ H Q
def Ff {es:List Expr}{k:Nat}{t:uQ}{n:Nat}(hc:X.calm=true)(h:Ds X es t)
  (hn:(assignEach es X.env).length=n:=by rfl) (Ub:(assignEach es X.env).findIdx? (·.1)=none:=by rfl):PG X (.Tuple es k pos) (zf X.K n t):=by
 intro pins s σ H v u Q I r hw
 obtain⟨a,xs,e1,hq,hl,hw⟩:=hw
 subst e1
 cases r
 obtain⟨a_,rv,ht,hz⟩:=I.tuple hq
 refine assign_Tuple_tuple (I.ok.hd hc) ht (by simp [hn,←hl,rv.length]) Ub λh' hx=>?_
 have I1:Inv X pins σ H {s with heap:=h'}:=I.kept (t':=s.toks) λb o e=>hx b o (Ma (LI e)) e
 exact h pins _ σ H xs _ Q I1 (by simpa using rv) hw
def Dg (to ti:TE)(t:uL):TG:=λv σ H Q=>to σ H λo H1=>ti σ H1 λi H2=>t o i v H2 λH3=>Q σ H3
def Ef {o i:Expr}{to ti:TE}{t:uL}(ho:PE X o to)(hi:PE X i ti)(hs:xg X t)
  (ha:∀v,assign (.Subscript o i pos) X.env v=(do
   let ov←holding [v] (eval o X.env)
   let iv←holding [v,ov] (eval i X.env)
   standAt pos
   holding [v,ov,iv] (setItem ov iv v)
   release [v,ov,iv] []):=by intro _;rfl):PG X (.Subscript o i pos) (Dg to ti t):=by
 intro pins s σ H v u Q I r h
 rw[ha]
 refine Lx (Nj (N3 (ho pins s σ H _ I h) λov s1 ⟨x,H1,I1,r1,q1⟩=>?_))
 refine Lx (Nj (N3 (hi pins s1 σ H1 _ I1 q1) λiv s2 ⟨y,H2,I2,r2,q2⟩=>?_))
 refine Lx (SA (Lx (Nj (N3 (hs pins s2 σ H2 x y v ov iv u _ I2 r1 r2 r q2) λ_ s3 ⟨H3,I3,q3⟩=>?_))))
 exact wpAny_release ⟨σ,H3,I3,q3⟩
def uV (te:TE)(g:TG):TS:=λD σ H=>te σ H λx H1=>g x σ H1 D.nx
def Ga {tg e:Expr}{te:TE}{g:TG}(he:PE X e te)(hg:PG X tg g)(hs:swapsWithSole [tg] e pos.line X.env=pure false:=by rfl)(hw:swappedStores [tg] e X.env=pure none:=by rfl)
  (h1:(assignEach [tg] X.env).map (·.2)=[assign tg X.env]:=by rfl):PS X (.Assign [tg] e pos) (uV te g):=by
 intro pins s σ H D I h
 refine wpAny_Assign_stores (N3 (he pins s σ H _ I h) λv s1 ⟨x,H1,I1,r1,q1⟩=>?_) hs hw
 rw[h1]
 exact N3 (hg pins s1 σ H1 x v _ I1 r1 q1) λ_ s2 q=>q
def EZ {i:Nat}{x:Str}{e:Expr}{te:TE}{pos':Pos}(hN:X.N.Nodup)(hi:X.N[i]?=some x)(hx:DF X.env.scope x)(he:PE X e te)(hs:swapsWith e (some (.Name x pos')) pos.line X.env=pure false:=by rfl)(hf:X.fn x=true\/X.env.scope.names.lookup x=some .local:=by first|exact .inl rfl|exact .inr rfl|assumption):
  PS X (.Assign [.Name x pos'] e pos) (uV te (R9 i)):=by
 intro pins s σ H D I h
 refine wpAny_Assign_Name (N3 (he pins s σ H _ I h) λv s1 ⟨y,H1,I1,r1,q1⟩=>?_) hs
 exact tu I1 hN hi hx r1 (λs2 I2=>⟨_,H1,I2,q1⟩) hf
end
section
variable {X:Cx} {pos:Pos}
end
structure It where
 go:Nat->Hp->Prop
 yld:Nat->Hp->V->Hp->Prop
 stop:Nat->Hp->Prop
def gN (X:Cx)(pins:List (Addr×Obj))(H:Hp)(b:Addr):Prop:=
 H b=none/\b≠X.env.locals/\b∉X.fs/\(b∈X.ex\/X.s₀.heap.objs.size<=b)/\(∀x c,X.env.cells.lookup x=some c->c≠b)/\∀p∈X.pn++pins,p.1≠b
def Inv.fpOk {X:Cx}{pins:List (Addr×Obj)}{σ:St}{H H':Hp}{s:Shared}{b:Addr}(I:Inv X pins σ H s)(hb:s.heap.objs.size<=b)(hn:H' b=none):gN X pins H' b:=by
 refine⟨hn,Tz (LJ I.lt hb),I.nofs hb,.inr (Mh I.sz hb),λx c e z=>?_,λp hp z=>?_⟩
 .obtain⟨v,q⟩:=I.cell x c e;exact absurd (LJ q.lt (by rw[z];exact hb)) (Ni _)
 .exact absurd (LJ (LI (I.pin p hp).1) (by rw[z];exact hb)) (Ni _)
structure jD (P:Program) (w:World) (K:Za) (tg:Expr) (J:It) (fp:List Addr) (it:Addr) (tn:Nat->Heap->Prop):Prop where
 mem:it∈fp
 obj:∀i h,tn i h->∀b∈fp,∃o,h.get? b=some o/\∀v,o.data≠ .cell v
 keep:∀i h h',tn i h->(∀b∈fp,∀o,h.get? b=some o->h'.get? b=some o)->tn i h'
 item:∀(X:Cx),X.prog=P->X.w=w->X.K=K->X.calm=true->∀(i:Nat) (pins:List (Addr×Obj)) (s:Shared) (σ:St) (H:Hp) (E:Value->Shared->Prop),Inv X pins σ H s->(∀b∈fp,gN X pins H b)->tn i s.heap->J.go i H->
  wpAny (model P w) X.A (pyNext (.ref it)) (λr s1=>∃u,r=some u/\
   wpAny (model P w) X.A (letOwnedTupleGo tg (.ref it) u) (λ_ s2=>∃x H',Inv X pins σ H' s2/\RelV x u/\J.yld i H x H'/\tn (i+1) s2.heap/\∀b∈fp,H' b=none) E s1) E s
 done:∀(X:Cx),X.prog=P->X.w=w->X.K=K->X.calm=true->∀(i:Nat) (pins:List (Addr×Obj)) (s:Shared) (σ:St) (H:Hp) (E:Value->Shared->Prop),Inv X pins σ H s->(∀b∈fp,gN X pins H b)->tn i s.heap->J.stop i H->
  wpAny (model P w) X.A (pyNext (.ref it)) (λr s1=>r=none/\Inv X pins σ H s1) E s
 self:∀(A:Around) (i:Nat) (s:Shared) (Q:Value->Shared->Prop) (E:Value->Shared->Prop),tn i s.heap->Q (.ref it) s->wpAny (model P w) A (pyIter (.ref it)) Q E s
abbrev TI:=St->Hp->(It->Hp->Prop)->Prop
def IX (X:Cx)(pins:List (Addr×Obj))(σ:St)(tg:Expr)(R:It->Hp->Prop)(Xd:Value)(s2:Shared):Prop:=
 ∃(it:Addr) (fp:List Addr) (tn:Nat->Heap->Prop) (J:It) (H':Hp),Xd= .ref it/\Inv X pins σ H' s2/\jD X.prog X.w X.K tg J fp it tn/\tn 0 s2.heap/\(∀b∈fp,gN X pins H' b)/\R J H'
def PI (X:Cx)(tg iter:Expr)(wi:TI):Prop:=
 ∀(pins:List (Addr×Obj)) (s:Shared) (σ:St) (H:Hp) (R:It->Hp->Prop),Inv X pins σ H s->wi σ H R->
  wpAny (model X.prog X.w) X.A (eval iter X.env) (λv s1=>wpAny (model X.prog X.w) X.A (pyIter v) (IX X pins σ tg R) X.xe s1) X.xe s
def wq {M : Model} {A : Around} {E : Value -> Shared -> Prop} {s : Shared} {tg : Expr} {it : Addr} {u : Value} {o : Obj} {n : String} {vs : Array Value} {Q : Unit -> Shared -> Prop} (ho : s.heap.get? it = some o) (hc : o.cls = .type n) (hd : o.data = .fields vs)
    (hn : ["enumerate", "zip", "dict_itemiterator", "dict_reverseitemiterator", "odict_iterator", "itertools.zip_longest", "itertools.pairwise"].contains n = false) (hQ : Q () s) : wpAny M A (letOwnedTupleGo tg (.ref it) u) Q E s := by
  unfold letOwnedTupleGo
  cases tg <;> first
    | exact LK hQ
    | (cases u <;> first
        | exact LK hQ
        | (refine Lx (wpAny_load ho ?_)
           rw [hc, hd]
           show wpAny M A (if (["enumerate", "zip", "dict_itemiterator", "dict_reverseitemiterator", "odict_iterator", "itertools.zip_longest", "itertools.pairwise"].contains n && vs[0]? == some (rawInt _)) = true then _ else _) Q E s
           rw [if_neg (by intro h; rw [hn, Sg] at h; cases h)]
           exact LK hQ))
def Itl (K:Za)(a:Addr):It:=
 ⟨λi H=>∃xs x,SqL K H a xs/\xs[i]?=some x,λi H x H'=>H'=H/\∀xs,SqL K H a xs->xs[i]?=some x,λi H=>∃xs,SqL K H a xs/\xs.length<=i⟩
def Jj (K:Za)(a:Addr):It:=
 ⟨λi H=>∃xs x,SqT K H a xs/\xs[i]?=some x,λi H x H'=>H'=H/\∀xs,SqT K H a xs->xs[i]?=some x,λi H=>∃xs,SqT K H a xs/\xs.length<=i⟩
def Jp (lo:Int)(n:Nat):It:=⟨λi _=>i<n,λi H x H'=>H'=H/\x= .int (lo+i),λi _=>n<=i⟩
def xv {P:Program}{w:World}{K:Za}{tg:Expr}(a it:Addr):jD P w K tg (Itl K a) [it] it (λi h=>h.IsListIter it a i) where
 mem:=by simp
 obj:=λi h st b hb=>by
  have e:b=it:=by simpa using hb
  subst e;obtain⟨o,e,c,d⟩:=st;exact⟨o,e,λv z=>by rw[d] at z;cases z⟩
 keep:=λi h h' st k=>st.at λo e=>k it (by simp) o e
 item:=by
  intro X hP hw hK hc i pins s σ H E I hf st hg;subst hP hw hK;obtain⟨xs,x,hq,hx⟩:=hg;obtain⟨a_,rv,p,hz⟩:=I.list hq;obtain⟨u,hu,ru⟩:=rv.get hx;obtain⟨f0,f1,f2,f3,f4,f5⟩:=hf it (by simp);refine Py st p.isList (x:=u) (by simpa using hu) λh' e_ sb=>?_;have I1:Inv X pins σ H {s with heap:=h'}:=I.turned (t':=s.toks) (λb o hb e=>(sb.2 b hb).trans e) f0 f1 f3 f4 f5;obtain⟨o,e,c,d⟩:=id e_;exact⟨u,rfl,wq (s:={s with heap:=h'}) e c d (by decide) ⟨x,H,I1,ru,⟨rfl,λys hy=>by rw[I.list_inj hy hq];exact hx⟩,e_,λb hb=>(hf b hb).1⟩⟩
 done:=by
  intro X hP hw hK hc i pins s σ H E I hf st hg;subst hP hw hK;obtain⟨xs,hq,hx⟩:=hg;obtain⟨a_,rv,p,hz⟩:=I.list hq;obtain⟨f0,f1,f2,f3,f4,f5⟩:=hf it (by simp);have hl:=rv.length;exact PY (I.ok.hd hc) st p.isList (by simp;lia) λh' eb=>⟨rfl,I.turned (t':=s.toks) (λb o hb e=>eb b o hb e) f0 f1 f3 f4 f5⟩
 self:=λ_ _ _ _ _ st h=>wpAny_pyIter_listiter st h
def vi {P:Program}{w:World}{K:Za}{tg:Expr}(a it:Addr):jD P w K tg (Jj K a) [it] it (λi h=>h.IsTupleIter it a i) where
 mem:=by simp
 obj:=λi h st b hb=>by
  have e:b=it:=by simpa using hb
  subst e;obtain⟨o,e,c,d⟩:=st;exact⟨o,e,λv z=>by rw[d] at z;cases z⟩
 keep:=λi h h' st k=>st.at λo e=>k it (by simp) o e
 item:=by
  intro X hP hw hK hc i pins s σ H E I hf st hg;subst hP hw hK;obtain⟨xs,x,hq,hx⟩:=hg;obtain⟨a_,rv,p,hz⟩:=I.tuple hq;obtain⟨u,hu,ru⟩:=rv.get hx;obtain⟨f0,f1,f2,f3,f4,f5⟩:=hf it (by simp);refine wpAny_pyNext_tuple_item st (show s.heap.IsTuple a a_.toArray from p) (x:=u) (by simpa using hu) λh' e_ sb=>?_;have I1:Inv X pins σ H {s with heap:=h'}:=I.turned (t':=s.toks) (λb o hb e=>(sb.2 b hb).trans e) f0 f1 f3 f4 f5;obtain⟨o,e,c,d⟩:=id e_;exact⟨u,rfl,wq (s:={s with heap:=h'}) e c d (by decide) ⟨x,H,I1,ru,⟨rfl,λys hy=>by rw[I.tuple_inj hy hq];exact hx⟩,e_,λb hb=>(hf b hb).1⟩⟩
 done:=by
  intro X hP hw hK hc i pins s σ H E I hf st hg;subst hP hw hK;obtain⟨xs,hq,hx⟩:=hg;obtain⟨a_,rv,p,hz⟩:=I.tuple hq;obtain⟨f0,f1,f2,f3,f4,f5⟩:=hf it (by simp);have hl:=rv.length;exact wpAny_pyNext_tuple_end (I.ok.hd hc) st (show s.heap.IsTuple a a_.toArray from p) (by simp;lia) λh' eb=>⟨rfl,I.turned (t':=s.toks) (λb o hb e=>eb b o hb e) f0 f1 f3 f4 f5⟩
 self:=λ_ _ _ _ _ st h=>wpAny_pyIter_tupleiter st h
def uF {P:Program}{w:World}{K:Za}{tg:Expr}(it:Addr)(lo:Int)(n:Nat):jD P w K tg (Jp lo n) [it] it (λi h=>IsRangeIter h it (lo+(i:Nat)*1) ((n:Int) -(i:Nat)) 1) where
 mem:=by simp
 obj:=λi h st b hb=>by
  have e:b=it:=by simpa using hb
  subst e;exact⟨_,st,λv z=>by
   have z':Data.fields _=Data.cell v:=z;cases z'⟩
 keep:=λi h h' st k=>k it (by simp) _ st
 item:=by
  intro X hP hw hK hc i pins s σ H E I hf st hg;subst hP hw hK;obtain⟨f0,f1,f2,f3,f4,f5⟩:=hf it (by simp);have W:=Walks.range (prog:=X.prog) (w:=X.w) (I.ok.hd hc) it lo 1 n;refine W.item i s _ _ hg st λv h' tk hv e_ kk=>?_;obtain⟨t,rfl⟩:=hv;have I1:Inv X pins σ H {s with heap:=h',toks:=tk}:=I.turned (λb o hb e=>kk b o (by simpa using hb) e) f0 f1 f3 f4 f5;refine⟨_,rfl,wq (s:={s with heap:=h',toks:=tk}) (n:="range_iterator") e_ rfl rfl (by decide) ⟨.int (lo+i),H,I1,⟨t,?_⟩,⟨rfl,rfl⟩,e_,λb hb=>(hf b hb).1⟩⟩;rw[Int.mul_one]
 done:=by
  intro X hP hw hK hc i pins s σ H E I hf st hg;subst hP hw hK;obtain⟨f0,f1,f2,f3,f4,f5⟩:=hf it (by simp);exact wpAny_pyNext_range_end (I.ok.hd hc) st (by have:n<=i:=hg;lia) λh' eb=>⟨rfl,I.turned (t':=s.toks) (λb o hb e=>eb b o hb e) f0 f1 f3 f4 f5⟩
 self:=λ_ _ _ _ _ st h=>wpAny_pyIter_rangeiter st h
section
variable {X:Cx} {tg:Expr}
def zE {pins:List (Addr×Obj)}{σ:St}{H:Hp}{s:Shared}{R:It->Hp->Prop}{E:Value->Shared->Prop}{lo hi:Int}{t u v:Tok}{tk:Nat}(I:Inv X pins σ H s)(h1: -(2 ^ 62)<=lo)(h2:lo<2 ^ 62)(h3: -(2 ^ 62)<=hi)(h4:hi<2 ^ 62)
  (q:R (Jp lo (hi -lo).toNat) H):wpAny (model X.prog X.w) X.A (pyIter (.ref s.heap.objs.size)) (IX X pins σ tg R) E {s with heap:=s.heap.push {cls:= .type "range",data:= .fields #[.int lo t,.int hi u,.int 1 v]},toks:=tk}:=by
 refine wpAny_pyIter_range (IsRange.new ..) (small_one h1 h2 h3 h4) ?_
 have I1:Inv X pins σ H {s with heap:=s.heap.push {cls:= .type "range",data:= .fields #[.int lo t,.int hi u,.int 1 v]},toks:=tk}:=I.kept λb o e=>Ly _ e
 refine⟨(s.heap.push {cls:= .type "range",data:= .fields #[.int lo t,.int hi u,.int 1 v]}).objs.size,[(s.heap.push {cls:= .type "range",data:= .fields #[.int lo t,.int hi u,.int 1 v]}).objs.size],_,_,H,rfl,
  I1.kept (t':=tk) λb o e=>Ly _ e,uF _ lo (hi -lo).toNat,?_,λb hb=>?_,q⟩
 .have e1:lo+((0:Nat):Int)*1=lo:=by simp
  have e2:(((hi -lo).toNat:Nat):Int) -((0:Nat):Int)=Builtin.Range.rangeSize lo hi 1:=by rw[rangeSize_one];split<;>lia
  show IsRangeIter _ _ (lo+((0:Nat):Int)*1) ((((hi -lo).toNat:Nat):Int) -((0:Nat):Int)) 1
  rw[e1,e2]
  exact LY _ rfl
 .have e:b=(s.heap.push {cls:= .type "range",data:= .fields #[.int lo t,.int hi u,.int 1 v]}).objs.size:=by simpa using hb
  subst e
  exact I1.fpOk (Lp _) (I1.hok.fresh (Lp _))
def Bs (ta:TA):TI:=λσ H R=>ta σ H λvs H1=>∃j:Int,vs=[.int j]/\-(2 ^ 62)<=j/\j<2 ^ 62/\R (Jp 0 j.toNat) H1
def xN {a:Expr}{ta:TA}{p pos:Pos}(hg:Gl X "range")(hm:X.mg "range"=none)(ha:PA X [a] ta)(hs:starEach [a] X.env=[(false,eval a X.env)]:=by rfl):PI X tg (.Call (.Name "range" p) [a] [] pos) (Bs ta):=by
 intro pins s σ H R I h;refine Call_ (lS I hg hm boot_range (OK (N3 (ha pos pins s σ H _ I h) λus s1 ⟨vs,H1,I1,r1,q1⟩=>?_) hs rfl));obtain⟨j,e,q1,q2,q⟩:=q1;subst e;cases r1 with
 |cons r rr=>
  cases rr
  obtain⟨t,rfl⟩:=r
  exact call_range_1 (zE I1 (by lia) (by lia) q1 q2 (by simpa using q))
def lW (fp:List Addr)(h:Heap):List (Addr×Obj):=fp.filterMap λb=>(h.get? b).map λo=>(b,o)
def bU {fp:List Addr}{h:Heap}{b:Addr}{o:Obj}(hb:b∈fp)(e:h.get? b=some o):(b,o)∈lW fp h:=OG.mpr ⟨b,hb,by rw[e];rfl⟩
def wZ {fp:List Addr}{h:Heap}{p:Addr×Obj}(hp:p∈lW fp h):p.1∈fp/\h.get? p.1=some p.2:=by
 obtain⟨b,hb,e⟩:=OG.mp hp;cases q:h.get? b with
 |none=>rw[q] at e;cases e
 |some o=>
  rw[q] at e
  have e':(b,o)=p:=LO e
  subst e'
  exact⟨hb,q⟩
def Inv.pinned {pins:List (Addr×Obj)}{σ:St}{H:Hp}{s:Shared}{fp:List Addr}(I:Inv X pins σ H s)(hf:∀b∈fp,gN X pins H b)(ho:∀b∈fp,∃o,s.heap.get? b=some o/\∀v,o.data≠ .cell v):Inv X (pins++lW fp s.heap) σ H s:=
 I.pins_of λp hp=>(LC.mp hp).elim (λz=>I.pin p (LG _ z)) λz=>by
  obtain⟨hb,e⟩:=wZ z;obtain⟨f0,f1,f2,_⟩:=hf p.1 hb;obtain⟨o,e',d⟩:=ho p.1 hb;rw[e] at e';cases e';exact⟨e,f0,f1,f2,d⟩
def Inv.unpinned {pins pl:List (Addr×Obj)}{σ:St}{H:Hp}{s:Shared}(I:Inv X (pins++pl) σ H s):Inv X pins σ H s:=I.pins_of λp hp=>I.pin p (LG _ (Ls _ hp))
end
abbrev R2:=V->V->Hp->VK->Prop
def OpR (X:Cx)(f:Value->Value->Sem Value)(r:R2):Prop:=
 ∀(pins:List (Addr×Obj)) (s:Shared) (σ:St) (H:Hp) (x y:V) (v u:Value) (Q:VK),Inv X pins σ H s->RelV x v->RelV y u->r x y H Q->
  wpAny (model X.prog X.w) X.A (f v u) (EP X pins σ Q) X.xe s
def IY (X:Cx)(f:Value->Sem Value)(r:V->Hp->VK->Prop):Prop:=
 ∀(pins:List (Addr×Obj)) (s:Shared) (σ:St) (H:Hp) (x:V) (v:Value) (Q:VK),Inv X pins σ H s->RelV x v->r x H Q->
  wpAny (model X.prog X.w) X.A (f v) (EP X pins σ Q) X.xe s
def CallR (X:Cx)(f:Value)(r:List V->Hp->VK->Prop):Prop:=
 ∀(pins:List (Addr×Obj)) (s:Shared) (σ:St) (H:Hp) (xs:List V) (us:List Value) (Q:VK),Inv X pins σ H s->Vals xs us->r xs H Q->
  wpAny (model X.prog X.w) X.A (call f us) (EP X pins σ Q) X.xe s
def Ki (X:Cx)(r:V->Hp->(Bool->Hp->Prop)->Prop):Prop:=
 ∀(pins:List (Addr×Obj)) (s:Shared) (σ:St) (H:Hp) (x:V) (v:Value) (Q:Bool->Hp->Prop),Inv X pins σ H s->RelV x v->r x H Q->
  wpAny (model X.prog X.w) X.A (truthy v) (TP X pins σ Q) X.xe s
def Cd (r:R2)(ta tb:TE):TE:=λσ H Q=>ta σ H λx H1=>tb σ H1 λy H2=>r x y H2 Q
def JZ (r:V->Hp->VK->Prop)(ta:TE):TE:=λσ H Q=>ta σ H λx H1=>r x H1 Q
def rI (C:Int->Int->Prop)(g:Int->Int->V):R2:=λx y H Q=>∃i j,x= .int i/\y= .int j/\C i j/\Q (g i j) H
def Cz (g:Int->Int->V):R2:=λx y H Q=>∃i j,x= .int i/\y= .int j/\Q (g i j) H
def rU (g:Int->V):V->Hp->VK->Prop:=λx H Q=>∃i,x= .int i/\Q (g i) H
section
variable {X:Cx} {a b c:Expr} {ta tb tc:TE} {pos:Pos}
def Gp (ha:PE X a ta)(hb:PE X b tb){pins:List (Addr×Obj)}{s:Shared}{σ:St}{H:Hp}{R:V->V->Hp->Prop}(I:Inv X pins σ H s)
  (h:ta σ H λx H1=>tb σ H1 λy H2=>R x y H2) {Q:Value->Shared->Prop} {f:Value->Value->Sem Value}
  (hf:∀v u s2 x y H2,Inv X pins σ H2 s2->RelV x v->RelV y u->R x y H2->wpAny (model X.prog X.w) X.A (f v u) Q X.xe s2):
  wpAny (model X.prog X.w) X.A (eval a X.env) (λv s₁=>wpAny (model X.prog X.w) X.A (eval b X.env) (λu s₂=>wpAny (model X.prog X.w) X.A (f v u) Q X.xe s₂) X.xe s₁) X.xe s:=by
 refine N3 (ha pins s σ H _ I h) λv s1 ⟨x,H1,I1,r1,q1⟩=>?_
 refine N3 (hb pins s1 σ H1 _ I1 q1) λu s2 ⟨y,H2,I2,r2,q2⟩=>?_
 exact hf v u s2 x y H2 I2 r1 r2 q2
def Hi {op:Operator}{r:R2}(ho:OpR X (binaryOp op) r)(ha:PE X a ta)(hb:PE X b tb):PE X (.BinOp a op b pos) (Cd r ta tb):=by
 intro pins s σ H Q I h;exact wpAny_BinOp (Gp ha hb I h λv u s2 x y H2 I2 rx ry q=>ho pins s2 σ H2 x y v u Q I2 rx ry q)
def Hf {op:UnaryOp}{r:V->Hp->VK->Prop}(ho:IY X (unaryOp op) r)(ha:PE X a ta):PE X (.UnaryOp op a pos) (JZ r ta):=by
 intro pins s σ H Q I h;exact UnaryOp_ (N3 (ha pins s σ H _ I h) λv s1 ⟨x,H1,I1,r1,q1⟩=>ho pins s1 σ H1 x v Q I1 r1 q1)
def Jl {f:Value->Value->Sem Value}{C:Int->Int->Prop}{g:Int->Int->Int}
  (rule:∀(i j:Int) (t u:Tok) (s:Shared) (Q:Value->Shared->Prop) (E:Value->Shared->Prop),C i j->Q (.int (g i j) s.toks) {s with toks:=s.toks+1}->wpAny (model X.prog X.w) X.A (f (.int i t) (.int j u)) Q E s):
  OpR X f (rI C λi j=> .int (g i j)):=by
 intro pins s σ H x y v u Q I rx ry h
 obtain⟨i,j,rfl,rfl,hc,q⟩:=h
 obtain⟨t,rfl⟩:=rx
 obtain⟨t',rfl⟩:=ry
 exact rule i j t t' s _ _ hc ⟨.int (g i j),H,I.tok _,⟨_,rfl⟩,q⟩
def Hn {f:Value->Value->Sem Value}{g:Int->Int->Int}
  (rule:∀(i j:Int) (t u:Tok) (s:Shared) (Q:Value->Shared->Prop) (E:Value->Shared->Prop),Q (.int (g i j) s.toks) {s with toks:=s.toks+1}->wpAny (model X.prog X.w) X.A (f (.int i t) (.int j u)) Q E s):
  OpR X f (Cz λi j=> .int (g i j)):=by
 intro pins s σ H x y v u Q I rx ry h
 obtain⟨i,j,rfl,rfl,q⟩:=h
 obtain⟨t,rfl⟩:=rx
 obtain⟨t',rfl⟩:=ry
 exact rule i j t t' s _ _ ⟨.int (g i j),H,I.tok _,⟨_,rfl⟩,q⟩
def Ic {f:Value->Value->Sem Value}{g:Int->Int->Bool}
  (rule:∀(i j:Int) (t u:Tok) (s:Shared) (Q:Value->Shared->Prop) (E:Value->Shared->Prop),Q (.bool (g i j)) s->wpAny (model X.prog X.w) X.A (f (.int i t) (.int j u)) Q E s):
  OpR X f (Cz λi j=> .bl (g i j)):=by
 intro pins s σ H x y v u Q I rx ry h
 obtain⟨i,j,rfl,rfl,q⟩:=h
 obtain⟨t,rfl⟩:=rx
 obtain⟨t',rfl⟩:=ry
 exact rule i j t t' s _ _ ⟨.bl (g i j),H,I,rfl,q⟩
def GX (i j:Int):Prop:=0<j/\j<1073741824
def Jt (i j:Int):Prop:=0<=j/\j<=1000000/\i.natAbs<2 ^ 64
def CMul (i j:Int):Prop:=(-(2 ^ 64)<i/\i<2 ^ 64)\/(-(2 ^ 64)<j/\j<2 ^ 64)
def CMul.ok {i j:Int}(h:CMul i j):IntMulOk i j:=by
 rcases h with⟨h1,h2⟩|⟨h1,h2⟩
 .exact .of_left (intBits_le_64 h1 h2)
 .exact .of_right (intBits_le_64 h1 h2)
def vj (k:Nat):(0:Int)<=2 ^ k:=by
 rw[two_pow_cast];exact Int.natCast_nonneg _
def op_add:OpR X (binaryOp .Add) (Cz λi j=> .int (i+j)):=Hn λ_ _ _ _ _ _ _ q=>add_int q
def op_mul:OpR X (binaryOp .Mult) (rI CMul λi j=> .int (i*j)):=Jl λ_ _ _ _ _ _ _ hc q=>mul_int q hc.ok
def P9:OpR X (binaryOp .FloorDiv) (rI GX λi j=> .int (i/j)):=Jl λi j _ _ _ _ _ hc q=>by
 have h1:(0:Int)<j:=hc.1;have h2:j<1073741824:=hc.2;exact floordiv_int (by lia) (by rw[QB i (by lia)];exact q) (.inl (PyProof.noPylong_small (by lia)))
def Q3:OpR X (binaryOp .Mod) (rI (λ_ j=>0<j) λi j=> .int (i % j)):=Jl λi j _ _ _ _ _ hc q=>by
 have h1:(0:Int)<j:=hc;exact mod_int' (by lia) (by rw[Int.fmod_eq_emod_of_nonneg i (by lia)];exact q)
def qP:OpR X (binaryOp .RShift) (rI (λ_ j=>0<=j) λi j=> .int (i/2 ^ j.toNat)):=Jl λi j _ _ _ _ _ hc q=>
 rshift_int hc (by rw[QB i (vj _)];exact q)
def pT:OpR X (binaryOp .BitAnd) (Cz λi j=> .int (Builtin.bitAnd i j)):=Hn λ_ _ _ _ _ _ _ q=>and_int q
def KQ {f:Value->Sem Value}{g:Int->Int}
  (rule:∀(i:Int) (t:Tok) (s:Shared) (Q:Value->Shared->Prop) (E:Value->Shared->Prop),Q (.int (g i) s.toks) {s with toks:=s.toks+1}->wpAny (model X.prog X.w) X.A (f (.int i t)) Q E s):
  IY X f (rU λi=> .int (g i)):=by
 intro pins s σ H x v Q I rx h
 obtain⟨i,rfl,q⟩:=h
 obtain⟨t,rfl⟩:=rx
 exact rule i t s _ _ ⟨.int (g i),H,I.tok _,⟨_,rfl⟩,q⟩
def FO:IY X (unaryOp .USub) (rU λi=> .int (-i)):=KQ λ_ _ _ _ _ q=>neg_int q
end
def Hw:V->V->Bool
 | .non,.non=>true| .non,.int _=>true| .int _,.non=>true| .non,.bl _=>true| .bl _,.non=>true| .non,.str _=>true| .str _,.non=>true
 | .int _,.int _=>true| .bl _,.bl _=>true| .str _,.str _=>true| .byt _,.byt _=>true
 | .int _,.str _=>true| .str _,.int _=>true| .bl _,.str _=>true| .str _,.bl _=>true
 |_,_=>false
def Jm:R2:=λx y H Q=>Hw x y=true/\Q (.bl (decide (x=y))) H
def JN:R2:=λx y H Q=>Hw x y=true/\Q (.bl (!decide (x=y))) H
def jV {i j:Int}:decide (V.int i=V.int j)=(i==j):=by
 rw[LQ];simp
def Bd {i j:Bool}:decide (V.bl i=V.bl j)=(i==j):=by
 rw[LQ];simp
def qx {i j:Str}:decide (V.str i=V.str j)=(i==j):=by
 rw[LQ];simp
def vD {i j:Array UInt8}:decide (V.byt i=V.byt j)=(i.toList==j.toList):=by
 rw[LQ];cases i;cases j;simp
section
variable {X:Cx} {a b c:Expr} {ta tb tc:TE} {pos:Pos}
def z7 {pins:List (Addr×Obj)}{σ:St}{H:Hp}{s:Shared}{Q:VK}{k k':Bool}(I:Inv X pins σ H s)(q:Q (.bl k) H)(e:k=k'):EP X pins σ Q (.bool k') s:=by
 subst e;exact⟨.bl k,H,I,rfl,q⟩
def op_eq:OpR X (compareOp .Eq) Jm:=by
 intro pins s σ H x y v u Q I rx ry h;obtain⟨hs,q⟩:=h;cases x with
 |non=>
  cases rx
  cases y with
  |non=>cases ry;exact PySem.EqNone.eq_none_none (z7 I q (by simp))
  |bl j=>cases ry;exact PySem.EqNone.eq_none_bool (z7 I q (by simp))
  |int j=>obtain⟨t',rfl⟩:=ry;exact PySem.EqNone.eq_none_int (z7 I q (by simp))
  |str j=>obtain⟨t',rfl⟩:=ry;exact PySem.EqNone.eq_none_str (z7 I q (by simp))
  |_=>exact absurd (show false=true from hs) Mn
 |bl i=>
  cases rx
  cases y with
  |non=>cases ry;exact PySem.EqNone.eq_bool_none (z7 I q (by simp))
  |bl j=>cases ry;exact eq_bool (z7 I q Bd)
  |str j=>obtain⟨t',rfl⟩:=ry;exact PySem.EqMixed.eq_bool_str (z7 I q (by simp))
  |_=>exact absurd (show false=true from hs) Mn
 |int i=>
  obtain⟨t,rfl⟩:=rx
  cases y with
  |non=>cases ry;exact PySem.EqNone.eq_int_none (z7 I q (by simp))
  |int j=>obtain⟨t',rfl⟩:=ry;exact eq_int (z7 I q jV)
  |str j=>obtain⟨t',rfl⟩:=ry;exact PySem.EqMixed.eq_int_str (z7 I q (by simp))
  |_=>exact absurd (show false=true from hs) Mn
 |str i=>
  obtain⟨t,rfl⟩:=rx
  cases y with
  |non=>cases ry;exact PySem.EqNone.eq_str_none (z7 I q (by simp))
  |bl j=>cases ry;exact PySem.EqMixed.eq_str_bool (z7 I q (by simp))
  |int j=>obtain⟨t',rfl⟩:=ry;exact PySem.EqMixed.eq_str_int (z7 I q (by simp))
  |str j=>obtain⟨t',rfl⟩:=ry;exact eq_str (z7 I q qx)
  |_=>exact absurd (show false=true from hs) Mn
 |byt i=>
  obtain⟨t,rfl⟩:=rx
  cases y with
  |byt j=>obtain⟨t',rfl⟩:=ry;exact PySem.W.eq_bytes (z7 I q vD)
  |_=>exact absurd (show false=true from hs) Mn
 |_=>cases y<;>exact absurd (show false=true from hs) Mn
def op_ne:OpR X (compareOp .NotEq) JN:=by
 intro pins s σ H x y v u Q I rx ry h;obtain⟨hs,q⟩:=h;cases x with
 |non=>
  cases rx
  cases y with
  |non=>cases ry;exact PySem.EqNone.ne_none_none (z7 I q (by simp))
  |bl j=>cases ry;exact PySem.EqNone.ne_none_bool (z7 I q (by simp))
  |int j=>obtain⟨t',rfl⟩:=ry;exact PySem.EqNone.ne_none_int (z7 I q (by simp))
  |str j=>obtain⟨t',rfl⟩:=ry;exact PySem.EqNone.ne_none_str (z7 I q (by simp))
  |_=>exact absurd (show false=true from hs) Mn
 |bl i=>
  cases rx
  cases y with
  |non=>cases ry;exact PySem.EqNone.ne_bool_none (z7 I q (by simp))
  |bl j=>cases ry;exact ne_bool (z7 I q (Mw not Bd))
  |str j=>obtain⟨t',rfl⟩:=ry;exact PySem.EqMixed.ne_bool_str (z7 I q (by simp))
  |_=>exact absurd (show false=true from hs) Mn
 |int i=>
  obtain⟨t,rfl⟩:=rx
  cases y with
  |non=>cases ry;exact PySem.EqNone.ne_int_none (z7 I q (by simp))
  |int j=>obtain⟨t',rfl⟩:=ry;exact ne_int (z7 I q (Mw not jV))
  |str j=>obtain⟨t',rfl⟩:=ry;exact PySem.EqMixed.ne_int_str (z7 I q (by simp))
  |_=>exact absurd (show false=true from hs) Mn
 |str i=>
  obtain⟨t,rfl⟩:=rx
  cases y with
  |non=>cases ry;exact PySem.EqNone.ne_str_none (z7 I q (by simp))
  |bl j=>cases ry;exact PySem.EqMixed.ne_str_bool (z7 I q (by simp))
  |int j=>obtain⟨t',rfl⟩:=ry;exact PySem.EqMixed.ne_str_int (z7 I q (by simp))
  |str j=>obtain⟨t',rfl⟩:=ry;exact ne_str (z7 I q (Mw not qx))
  |_=>exact absurd (show false=true from hs) Mn
 |byt i=>
  obtain⟨t,rfl⟩:=rx
  cases y with
  |byt j=>obtain⟨t',rfl⟩:=ry;exact PySem.W.ne_bytes (z7 I q (Mw not vD))
  |_=>exact absurd (show false=true from hs) Mn
 |_=>cases y<;>exact absurd (show false=true from hs) Mn
def op_lt:OpR X (compareOp .Lt) (Cz λi j=> .bl (decide (i<j))):=Ic λ_ _ _ _ _ _ _ q=>lt_int q
def oS:OpR X (compareOp .Gt) (Cz λi j=> .bl (decide (j<i))):=Ic λ_ _ _ _ _ _ _ q=>gt_int q
def xH:OpR X (compareOp .Lt) (λx y H Q=>∃i j,x= .str i/\y= .str j/\Q (.bl (decide (i.cps.toList<j.cps.toList))) H):=by
 intro pins s σ H x y v u Q I rx ry h;obtain⟨i,j,rfl,rfl,q⟩:=h;obtain⟨t,rfl⟩:=rx;obtain⟨t',rfl⟩:=ry;exact lt_str (z7 I q rfl)
def wV:OpR X (compareOp .In) (λx y H Q=>∃i j,x= .str i/\y= .str j/\Q (.bl (!(Builtin.Str.occurrences j i 0 j.length 1).isEmpty)) H):=by
 intro pins s σ H x y v u Q I rx ry h;obtain⟨i,j,rfl,rfl,q⟩:=h;obtain⟨t,rfl⟩:=rx;obtain⟨t',rfl⟩:=ry;exact in_str (z7 I q rfl)
def OpR.or {f:Value->Value->Sem Value}{r r':R2}(h:OpR X f r)(h':OpR X f r'):OpR X f (λx y H Q=>r x y H Q\/r' x y H Q):=by
 intro pins s σ H x y v u Q I rx ry q;rcases q with q|q
 .exact h pins s σ H x y v u Q I rx ry q
 .exact h' pins s σ H x y v u Q I rx ry q
def u9 (b:Expr){op:CmpOp}(h:op≠ .In:=by decide)(h2:op≠ .NotIn:=by decide):behindInMarks op b=false:=by
 have e1:(op==CmpOp.In)=false:=by cases op<;>first|rfl|exact absurd rfl h
 have e2:(op==CmpOp.NotIn)=false:=by cases op<;>first|rfl|exact absurd rfl h2
 cases b<;>simp [behindInMarks,e1,e2]
def Dl {op:CmpOp}{r:R2}(ho:OpR X (compareOp op) r)(ha:PE X a ta)(hb:PE X b tb)(hm:behindInMarks op b=false):PE X (.Compare a [op] [b] pos) (Cd r ta tb):=by
 intro pins s σ H Q I h;exact wpAny_Compare1 (Gp ha hb I h λv u s2 x y H2 I2 rx ry q=>ho pins s2 σ H2 x y v u Q I2 rx ry q) hm
def AN (t:TE):TT:=λσ H Q=>t σ H λx H'=>∃k,x= .bl k/\Q k H'
def Dm {op:CmpOp}{r:R2}(ho:OpR X (compareOp op) r)(ha:PE X a ta)(hb:PE X b tb)(hm:behindInMarks op b=false):PT X (.Compare a [op] [b] pos) (AN (Cd r ta tb)):=by
 intro pins s σ H Q I h;refine wpAny_isTrue_Compare1 (N3 (ha pins s σ H _ I h) λv s1 ⟨x,H1,I1,r1,q1⟩=>N3 (hb pins s1 σ H1 _ I1 q1) λu s2 ⟨y,H2,I2,r2,q2⟩=>
  N3 (ho pins s2 σ H2 x y v u _ I2 r1 r2 q2) λc s3 ⟨z,H3,I3,r3,k,e,q3⟩=>?_) hm
 subst e;cases r3;exact MY ⟨H3,I3,q3⟩
def AR (K:Za)(x:V)(H:Hp)(k:Bool):Prop:=
 match x with
 | .non=>k=false
 | .bl b=>k=b
 | .int i=>k=(i !=0)
 | .str y=>y.length<=sizeLine/\k=((y.length:Int) !=0)
 | .byt y=>y.size<=sizeLine/\k=((y.size:Int) !=0)
 | .ref p=>(∃xs,SqL K H p xs/\k=!xs.isEmpty)\/(∃xs,SqT K H p xs/\k=!xs.isEmpty)\/∃kvs,H p=some (.dK kvs)/\k=!kvs.isEmpty
 |_=>False
def uN {κ:Type}{kvs:List (κ×V)}{vs:List (κ×Value)}(r:KV kvs vs):(!vs.isEmpty)=!kvs.isEmpty:=by
 cases r<;>rfl
def mS {xs:List V}{a_:List Value}(r:Vals xs a_):(!a_.toArray.isEmpty)=!xs.isEmpty:=by
 cases r<;>simp
def ip:(sizeLine:Nat)<2 ^ 63:=by rw[Sk];decide
def ED:Ki X (λx H Q=>∃k,AR X.K x H k/\Q k H):=by
 intro pins s σ H x v Q I rx h;obtain⟨k,e,q⟩:=h;have hl:=ip;have hs:sizeLine=16777216:=Sk;cases x with
 |non=>
  cases rx
  have e':k=false:=e
  subst e'
  exact truthy_none ⟨H,I,q⟩
 |bl b=>
  cases rx
  have e':k=b:=e
  subst e'
  exact MY ⟨H,I,q⟩
 |int i=>
  obtain⟨t,rfl⟩:=rx
  have e':k=(i !=0):=e
  subst e'
  exact PySem.P.truthy_int ⟨H,I,q⟩
 |str y=>
  obtain⟨t,rfl⟩:=rx
  obtain⟨hy,e'⟩:y.length<=sizeLine/\k=((y.length:Int) !=0):=e
  subst e'
  exact PySem.P.truthy_str (by lia) ⟨H,I.tok _,q⟩
 |byt y=>
  obtain⟨t,rfl⟩:=rx
  obtain⟨hy,e'⟩:y.size<=sizeLine/\k=((y.size:Int) !=0):=e
  subst e'
  exact PySem.W.truthy_bytes (by lia) ⟨H,I.tok _,q⟩
 |ref p=>
  cases rx
  have e':(∃xs,SqL X.K H p xs/\k=!xs.isEmpty)\/(∃xs,SqT X.K H p xs/\k=!xs.isEmpty)\/∃kvs,H p=some (.dK kvs)/\k=!kvs.isEmpty:=e
  rcases e' with⟨xs,hx,e'⟩|⟨xs,hx,e'⟩|⟨kvs,hx,e'⟩
  .subst e'
   obtain⟨a_,r,pl,hz⟩:=I.list hx
   have hlen:=r.length
   exact wpAny_truthy_list pl.isList (by simp only[LR];lia) ⟨H,I.tok _,by rw[mS r];exact q⟩
  .subst e'
   obtain⟨a_,r,pl,hz⟩:=I.tuple hx
   have hlen:=r.length
   exact truthy_tuple pl (by simp only[LR];lia) ⟨H,I.tok _,by rw[mS r];exact q⟩
  .subst e'
   obtain⟨hz,hS,vs,r,m⟩:kvs.length<=sizeLine/\(p==sysModules)=false/\∃vs,KV kvs vs/\s.heap.DictOf (q8 X.prog X.w) p vs:=I.hok p _ hx
   have hlen:kvs.length=vs.length:=Mc r
   exact wpAny_truthy_dict hS m (by lia) ⟨H,I.tok _,by rw[uN r];exact q⟩
 |_=>exact(show False from e).elim
def yE (ha:PE X a ta)(he:∀whole,isTrue a X.env whole=(do let v←whole;standAt a.pos;holding [v] (truthy v))):
  PT X a (λσ H Q=>ta σ H λx H'=>∃k,AR X.K x H' k/\Q k H'):=by
 intro pins s σ H Q I h
 exact isTrue_plain (N3 (ha pins s σ H _ I h) λv s1 ⟨x,H1,I1,r1,q1⟩=>ED pins s1 σ H1 x v Q I1 r1 q1) (he _)
def op_add_str:OpR X (binaryOp .Add) (λx y H Q=>∃i j,x= .str i/\y= .str j/\i.length+j.length<=sizeLine/\Q (.str (i++j)) H):=by
 intro pins s σ H x y v u Q I rx ry h;obtain⟨i,j,rfl,rfl,hz,q⟩:=h;obtain⟨t,rfl⟩:=rx;obtain⟨t',rfl⟩:=ry;exact add_str (λt' tk=>⟨.str (i++j),H,I.tok _,⟨_,rfl⟩,q⟩) hz
def O7 {x:V}{us:List Value}(r:Vals [x] us):∃u,us=[u]/\RelV x u:=by
 cases r with
 |cons r1 r2=>cases r2;exact⟨_,rfl,r1⟩
def kW {x y:V}{us:List Value}(r:Vals [x,y] us):∃u w',us=[u,w']/\RelV x u/\RelV y w':=by
 cases r with
 |cons r1 r2=>
  cases r2 with
  |cons r3 r4=>cases r4;exact⟨_,_,rfl,r1,r3⟩
def Hl (K:Za)(x:V)(H:Hp)(n:Nat):Prop:=
 match x with
 | .str y=>y.length<=sizeLine/\n=y.length
 | .byt y=>y.size<=sizeLine/\n=y.size
 | .ref p=>(∃xs,SqL K H p xs/\n=xs.length)\/∃xs,SqT K H p xs/\n=xs.length
 |_=>False
def call_len:CallR X (.builtin "len") (λxs H Q=>∃x n,xs=[x]/\Hl X.K x H n/\Q (.int n) H):=by
 intro pins s σ H xs us Q I r h;obtain⟨x,n,rfl,e,q⟩:=h;obtain⟨u,rfl,rx⟩:=O7 r;have hl:=ip;have hs:sizeLine=16777216:=Sk;cases x with
 |str y=>
  obtain⟨t,rfl⟩:=rx
  obtain⟨hy,e'⟩:y.length<=sizeLine/\n=y.length:=e
  subst e'
  exact len_str (by lia) ⟨.int _,H,I.tok _,⟨_,rfl⟩,q⟩
 |byt y=>
  obtain⟨t,rfl⟩:=rx
  obtain⟨hy,e'⟩:y.size<=sizeLine/\n=y.size:=e
  subst e'
  exact PySem.W.len_bytes (by lia) ⟨.int _,H,I.tok _,⟨_,rfl⟩,q⟩
 |ref p=>
  cases rx
  have e':(∃xs,SqL X.K H p xs/\n=xs.length)\/∃xs,SqT X.K H p xs/\n=xs.length:=e
  rcases e' with⟨xs,hx,e'⟩|⟨xs,hx,e'⟩
  .subst e'
   obtain⟨a_,r',pl,hz⟩:=I.list hx
   have hlen:=r'.length
   exact Calls.call_len_list pl.isList (by simp only[LR];lia) ⟨.int xs.length,H,I.tok _,⟨_,by simp only[LR];rw[hlen]⟩,q⟩
  .subst e'
   obtain⟨a_,r',pl,hz⟩:=I.tuple hx
   have hlen:=r'.length
   exact len_tuple pl (by simp only[LR];lia) ⟨.int xs.length,H,I.tok _,⟨_,by simp only[LR];rw[hlen]⟩,q⟩
 |_=>exact(show False from e).elim
end
structure Kw (h:Heap) (x dx C:Addr) (mA:Str->Option Value):Prop where
 obj:h.get? x=some (PySem.W.instObj C dx)
 ns:h.Ns1 dx mA
 ne:dx≠x
section
variable {prog:Program} {w:World} {A:Around} {E:Value->Shared->Prop} {s:Shared} {K:Za} {x dx C f:Addr} {mA:Str->Option Value} {name:Str} {v:Value}
end
def RelO.some_of {v:V}{o:Option Value}(r:RelO (some v) o):∃u,o=some u/\RelV v u:=by
 cases o with
 |none=>exact(show False from r).elim
 |some u=>exact⟨u,rfl,r⟩
section
variable {P:Program} {w:World} {H H':Hp} {h h':Heap} {a C dx:Addr} {fs fs':List (Str×V)}
end
structure KA (K:Za) (C:Addr):Prop where
 pg:PySem.W.plainGet K C Str.empty=true
 hd:PySem.W.hasDictIn K C=true
 po:PySem.W.plainOver K C=true
 sa:PySem.W.findIn K (.ref C) "__setattr__"=some (some (.builtin "object.__setattr__"))
structure Lj (K:Za) (C:Addr) (f:Str) (v:V) (u:Value):Prop where
 at_:PySem.W.findIn K (.ref C) f=some (some u)
 rel:RelV v u
 get:PySem.W.specialIn K u "__get__"=some none
 cp:PySem.W.copiedNames.contains f=false
structure Ky (K:Za) (C:Addr) (m:Str) (f:Addr):Prop where
 at_:PySem.W.findIn K (.ref C) m=some (some (.ref f))
 fn:PySem.W.isFn K (.ref f)=true
 kp:PySem.W.keepIn K (.ref f)=true
section
variable {X:Cx} {pins:List (Addr×Obj)} {σ:St} {H:Hp} {s:Shared} {a C dx:Addr} {fs:List (Str×V)} {f:Str} {v:V} {A:Around} {E:Value->Shared->Prop}
end
section
variable {X:Cx} {o e value:Expr} {f:Str} {pos pos' x_:Pos} {ta tv:TE}
end
section
variable {X:Cx} {pins:List (Addr×Obj)} {σ:St} {H:Hp} {s:Shared} {A:Around} {E:Value->Shared->Prop} {Q:Value->Shared->Prop} {c:Value} {b:Bool}
inductive me (K:Za) (H:Hp):V->Value->Prop where
 |non:me K H .non (.type "NoneType")
 |bl (x:Bool):me K H (.bl x) (.type "bool")
 |int (i:Int):me K H (.int i) (.type "int")
 |str (x:Str):me K H (.str x) (.type "str")
 |flt (x:UInt64):me K H (.flt x) (.type "float")
 |lst {a:Addr} {xs:List V} (e:H a=some (.lst xs)):me K H (.ref a) (.type "list")
 |frz {a:Addr} {o:Obj} {xs:List V} (e:H a=some (.frz o (.lst xs))):me K H (.ref a) (.type "list")
 |tup {a:Addr} {xs:List V} (e:H a=some (.tup xs)):me K H (.ref a) (.type "tuple")
 |dK {a:Addr} {kvs:List (i6×V)} (e:H a=some (.dK kvs)):me K H (.ref a) (.type "dict")
 |dT {a:Addr} {kvs:List (List i6×V)} (e:H a=some (.dT kvs)):me K H (.ref a) (.type "dict")
 |ins {a C dx:Addr} {fs:List (Str×V)} (e:H a=some (.ins C dx fs)) (cl:KA K C) (ha:PySem.W.findIn K (.ref C) "__class__"=some (some (.builtin "object.__class__")))
   (hn:PySem.W.specialIn K (.builtin "object.__class__") "__get__"=some (some (.builtin "getset_descriptor.__get__"))) (htk:PySem.W.takesIn K (.builtin "object.__class__")=some true)
   (hm:PySem.W.mroIn K C (.type "object")=some true):me K H (.ref a) (.ref C)
end
structure Room (k:Nat) (A:Around):Prop where
 hd:A.handled=none
 dp:A.depth+3*k+5<recursionLimit
 un:A.units+16*k+200<cLine
def Room.mono {j k:Nat}{A:Around}(r:Room k A)(h:j<=k):Room j A:=⟨r.hd,by have:=r.dp;lia,by have:=r.un;lia⟩
def Room.deeper {k:Nat}{A:Around}(r:Room (k+1) A)(env:Env):Room k (A.deeper env):=
 ⟨r.hd,by have:=r.dp;show A.depth+1+3*k+5<_;lia,by have:=r.un;show A.units+3+16*k+200<_;lia⟩
def Room.depth {k:Nat}{A:Around}(r:Room k A):A.depth<recursionLimit:=by have:=r.dp;lia
def Room.units {k:Nat}{A:Around}(r:Room k A):A.units+64<cLine:=by have:=r.un;lia
def um:TA:=λ_ H Q=>Q [] H
def vO (ta:TE)(tr:TA):TA:=λσ H Q=>ta σ H λx H1=>tr σ H1 λxs H2=>Q (x::xs) H2
section
variable {X:Cx} {e:Expr} {es:List Expr} {te:TE} {t:TA} {pos:Pos}
def EA:PA X [] um:=λ_ _ _ _ H Q I h=>Calls.spliced_nil ⟨[],H,I,.nil,h⟩
def BS (ha:PE X e te)(hr:PA X es t)(hs:starEach (e::es) X.env=(false,eval e X.env)::starEach es X.env:=by rfl):PA X (e::es) (vO te t):=by
 intro pos pins s σ H Q I h;rw[hs];show wpAny _ _ (spliced ((false,eval e X.env)::backTo pos (starEach es X.env))) _ _ s;refine Calls.spliced_cons (N3 (ha pins s σ H _ I h) λu s1 ⟨x,H1,I1,r1,q1⟩=>?_);exact N3 (hr pos pins s1 σ H1 _ I1 q1) λus s2 ⟨xs,H2,I2,r2,q2⟩=>⟨x::xs,H2,I2,.cons r1 r2,q2⟩
def Eo (t:TA):TE:=λσ H Q=>t σ H λxs H1=>xs.length<=sizeLine/\∀p,H1 p=none->Q (.ref p) (upd H1 p (.tup xs))
def FD (t:TA):TE:=λσ H Q=>t σ H λxs H1=>xs.length<=sizeLine/\∀p,H1 p=none->Q (.ref p) (upd H1 p (.lst xs))
def EU {x1}(h:PA X es t):PE X (.Tuple es x1 pos) (Eo t):=by
 intro pins s σ H Q I hq;refine wpAny_Tuple_spliced (N3 (h pos pins s σ H _ I hq) λus s1 ⟨xs,H1,I1,r,z,q⟩=>⟨by rw[←r.length];exact z,?_⟩);have hf:H1 s1.heap.objs.size=none:=I1.hok.fresh (Lp _);refine⟨.ref s1.heap.objs.size,upd H1 s1.heap.objs.size (.tup xs),I1.laid (t':=s1.toks) (λb u e=>Ly _ e) (Lp _) ?_,rfl,q _ hf⟩;exact⟨z,us,r,⟨_,LY _ rfl,rfl,_,rfl⟩⟩
def Fo (h:PA X es t):PE X (.List es pos) (FD t):=by
 intro pins s σ H Q I hq;refine wpAny_List_spliced (N3 (h pos pins s σ H _ I hq) λus s1 ⟨xs,H1,I1,r,z,q⟩=>⟨by rw[←r.length];exact z,?_⟩);have hf:H1 s1.heap.objs.size=none:=I1.hok.fresh (Lp _);refine⟨.ref s1.heap.objs.size,upd H1 s1.heap.objs.size (.lst xs),I1.laid (t':=s1.toks) (λb u e=>Ly _ e) (Lp _) ?_,rfl,q _ hf⟩;exact⟨z,us,0,r,LY _ rfl⟩
end
abbrev Sp:=List V->Hp->VK->XK->Prop
abbrev rD:=List Env->Hp->Shared->XK->Value->Shared->Prop
structure Dr (P:Program) (w:World) (K:Za) (mg:Str->Option Value) (base:Heap) (A:Around) (outer:List Env) (s:Shared) (H:Hp):Prop where
 frames:A.frames=some outer
 mod:Mod K mg base
 bs:∀b o,base.get? b=some o->s.heap.get? b=some o/\H b=none
 bsz:base.objs.size<=s.heap.objs.size
 funs:s.heap.FunFrames base outer
 frf:∀b∈bu outer,H b=none
 hok:HOk P w H s.heap
 bare:AllBare s.gens
def CE (outer:List Env)(P:Program)(w:World)(H:Hp)(s:Shared)(Q:VK)(u:Value)(s':Shared):Prop:=
 ∃v H',s'.os=s.os/\AllBare s'.gens/\Un (bu outer) [] H H' s.heap s'.heap/\HOk P w H' s'.heap/\RelV v u/\Q v H'
def CR (CX:rD)(outer:List Env)(P:Program)(w:World)(H:Hp)(s:Shared)(Q:VK)(E:XK)(r:Result)(s':Shared):Prop:=
 match r with
 | .ok (.ret u)=>CE outer P w H s Q u s'
 | .ok _=>False
 | .error e=>CX outer H s E e s'
structure u6 (P:Program) (w:World) (K:Za) (mg:Str->Option Value) (base:Heap) (CX:rD) (k:Nat) (f:Addr) (fd:FuncData) (ps:List Str) (sp:Sp):Prop where
 len:∀vs H Q E,sp vs H Q E->vs.length=ps.length
 run:∀(A:Around) (outer:List Env) (s:Shared) (H:Hp) (args:Args) (us:List Value) (vs:List V) (Q:VK) (E:XK),Room k A->Dr P w K mg base A outer s H->BindsTo s fd args (ps.zip us)->Vals vs us->sp vs H Q E->
  codeAny (model P w) A (.call (.ref f) args) (CR CX outer P w H s Q E) s
section
variable {X:Cx} {pins:List (Addr×Obj)} {σ:St} {H:Hp} {s s':Shared}
def Inv.env0 (I:Inv X pins σ H s):Dr X.prog X.w X.K X.mg X.base X.A X.stack s H:=
 ⟨I.ok.frames,I.ok.mod,I.bs,Mh I.ok.bsz I.sz,I.stack,I.stkFree,I.hok,I.bare⟩
def Inv.after {Q:VK}{u:Value}(I:Inv X pins σ H s)(h:CE X.stack X.prog X.w H s Q u s'):EP X pins σ Q u s':=by
 obtain⟨v,H',os,bare,un,hok,r,q⟩:=h;obtain⟨hh,g,d,t,os'⟩:=s';obtain rfl:os'=s.os:=os;exact⟨v,H',I.call (h':=hh) (g':=g) (d':=d) (t':=t) (ch:=[]) un hok bare (λb z=>absurd z (by simp)),r,q⟩
end
def si (sp:Sp)(p_:List V)(E:XK)(t:TA):TE:=λσ H Q=>t σ H λvs H1=>sp (vs++p_) H1 Q E
def Binds (K:Za)(fd:FuncData)(ps:List Str)(ds:List Value):Prop:=
 ∀(s:Shared) (us:List Value),K.In s.heap->(us++ds).length=ps.length->BindsTo s fd ⟨us,[]⟩ (ps.zip (us++ds))
def Binds.all {K:Za}{fd:FuncData}{ps:List Str}(h:∀us:List Value,us.length=ps.length->bindArgs fd ⟨us,[]⟩=pure (ps.zip us)):Binds K fd ps []:=λs us _ hl=>by
 rw[MD] at hl⊢;exact .of_eq (h us hl)
def dA (CX:rD)(X:Cx)(E:XK):Prop:=∀(pins:List (Addr×Obj)) (σ:St) (H:Hp) (s:Shared) (e:Value) (s':Shared),Inv X pins σ H s->CX X.stack H s E e s'->X.xe e s'
section
variable {X:Cx} {CX:rD} {k:Nat} {f C:Addr} {fd:FuncData} {ps:List Str} {sp:Sp} {p_:List V} {ds:List Value} {E:XK} {x m:Str} {p pos apos:Pos} {e o:Expr} {es:List Expr} {ta:TE} {t:TA}
def Ei {pins:List (Addr×Obj)}{σ:St}{H:Hp}{s:Shared}{Q:VK}{us:List Value}{vs:List V}(F:u6 X.prog X.w X.K X.mg X.base CX k f fd ps sp)(hr:Room k X.A)(hb:Binds X.K fd ps ds)(hd:Vals p_ ds)(hx:dA CX X E)
  (I:Inv X pins σ H s) (r:Vals vs us) (h:sp (vs++p_) H Q E):wpAny (model X.prog X.w) X.A (call (.ref f) us) (EP X pins σ Q) X.xe s:=by
 have r2:Vals (vs++p_) (us++ds):=r.append hd
 have hl:(us++ds).length=ps.length:=by rw[←r2.length];exact F.len _ _ _ _ h
 refine wpAny_call (PZ (F.run X.A X.stack s H ⟨us,[]⟩ (us++ds) (vs++p_) Q E hr I.env0 (hb s us I.kIn hl) r2 h) λr s' hq=>?_)
 cases r with
 |error e=>exact hx pins σ H s e s' I hq
 |ok fl=>
  cases fl with
  |ret u=>exact I.after hq
  |next=>exact False.elim hq
  |brk=>exact False.elim hq
  |cont=>exact False.elim hq
def BM (F:u6 X.prog X.w X.K X.mg X.base CX k f fd ps sp)(hr:Room k X.A)(hg:Gl X x)(hm:X.mg x=some (.ref f))(hk:PySem.W.keepIn X.K (.ref f)=true)(hb:Binds X.K fd ps ds)(hd:Vals p_ ds)(hx:dA CX X E)
  (ha:PA X (e::es) t) (q_:(x==("__debug__":Str))=false:=by decide) (he:starEach (e::es) X.env=(false,eval e X.env)::starEach es X.env:=by rfl) (z_:(backTo pos (starEach es X.env)).any (·.1)=false:=by rfl):
  PE X (.Call (.Name x p) (e::es) [] pos) (si sp p_ E t):=by
 intro pins s σ H Q I h
 refine Pj (gM I hg hm ?_ q_)
 refine SE (h₀:=X.base) I.ok.mod.kin hk (N3 (ha pos pins s σ H _ I h) λus s1 ⟨vs,H1,I1,r,q⟩=>⟨I1.kIn,?_⟩) he z_
 exact Ei F hr hb hd hx I1 r q
structure Mk (K:Za) (C f:Addr):Prop where
 makes:PySem.W.makesIn K C=true
 init:PySem.W.findIn K (.ref C) "__init__"=some (some (.ref f))
 fn:PySem.W.isFn K (.ref f)=true
 kp:PySem.W.keepIn K (.ref C)=true
end
section
variable {X:Cx} {CX:rD} {k:Nat} {f C:Addr} {fd:FuncData} {ps ks:List Str} {sp:Sp} {E:XK} {x m:Str} {p pos apos kpos:Pos} {e o:Expr} {es:List Expr} {kws:List Keyword} {te ta:TE} {t tk:TA} {nm:Option Str}
structure JU (K:Za) (fd:FuncData) (ps ks:List Str) (g:List Value->List Value->List Value) (gV:List V->List V->List V):Prop where
 to:∀(s:Shared) (us ws:List Value),K.In s.heap->(g us ws).length=ps.length->BindsTo s fd ⟨us,ks.zip ws⟩ (ps.zip (g us ws))
 rel:∀{vs:List V} {us:List Value} {zs:List V} {ws:List Value},Vals vs us->Vals zs ws->Vals (gV vs zs) (g us ws)
variable {g:List Value->List Value->List Value} {gV:List V->List V->List V}
end
structure i4 (N P:List Str) (sc:Scope):Prop where
 kind:sc.kind= .function
 co:sc.isCoroutine=false
 gen:sc.isGenerator=false
 nd:N.Nodup
 pre:N.take P.length=P
 par:∀x∈P,sc.names.lookup x=some .local\/sc.names.lookup x=some .cell
 nofree:∀y∈sc.names,y.2≠ .free
theorem pf {kindOf:Str->Option NameKind}{x:Str}:∀{binds:List (Str×Value)} {m:Str->Option Value},(∀v,(x,v)∉binds)->bindL kindOf binds m x=m x
 |[],_,_=>rfl
 |(n,v)::r,m,h=>by
  unfold bindL;rw[pf λw hw=>h w (Lw _ hw)];split
  .have:x≠n:=by rintro rfl;exact h v Lv
   simp [this]
  .rfl
theorem oK {kindOf:Str->Option NameKind}{x:Str}:∀{binds:List (Str×Value)} {m:Str->Option Value},(∀v,(x,v)∉binds)->bindC kindOf binds m x=m x
 |[],_,_=>rfl
 |(n,v)::r,m,h=>by
  unfold bindC;rw[oK λw hw=>h w (Lw _ hw)];split
  .rfl
  .have:x≠n:=by rintro rfl;exact h v Lv
   simp [this]
theorem pC {kindOf:Str->Option NameKind}{x:Str}{v:Value}:∀{P:List Str} {vs:List Value} {i:Nat} {m:Str->Option Value},P.Nodup->P[i]?=some x->vs[i]?=some v->kindOf x=some .local->
  bindL kindOf (P.zip vs) m x=some v
 |[],_,_,_,_,h,_,_=>by simp at h
 |_::_,[],_,_,_,_,h,_=>by simp at h
 |p::P,w::vs,0,m,nd,h1,h2,hk=>by
  simp at h1 h2;subst h1;subst h2;show bindL kindOf ((p,w)::P.zip vs) m p=_;unfold bindL;rw[pf λv hv=>(MP.mp nd).1 (RF hv).1,if_pos hk];simp
 |p::P,w::vs,i+1,m,nd,h1,h2,hk=>by
  show bindL kindOf ((p,w)::P.zip vs) m x=_;unfold bindL;exact pC (i:=i) (MP.mp nd).2 (by simpa using h1) (by simpa using h2) hk
theorem pL {kindOf:Str->Option NameKind}{x:Str}{v:Value}:∀{P:List Str} {vs:List Value} {i:Nat} {m:Str->Option Value},P.Nodup->P[i]?=some x->vs[i]?=some v->kindOf x≠some .local->
  bindC kindOf (P.zip vs) m x=some v
 |[],_,_,_,_,h,_,_=>by simp at h
 |_::_,[],_,_,_,_,h,_=>by simp at h
 |p::P,w::vs,0,m,nd,h1,h2,hk=>by
  simp at h1 h2;subst h1;subst h2;show bindC kindOf ((p,w)::P.zip vs) m p=_;unfold bindC;rw[oK λv hv=>(MP.mp nd).1 (RF hv).1,if_neg hk];simp
 |p::P,w::vs,i+1,m,nd,h1,h2,hk=>by
  show bindC kindOf ((p,w)::P.zip vs) m x=_;unfold bindC;exact pL (i:=i) (MP.mp nd).2 (by simpa using h1) (by simpa using h2) hk
def gD (N:List Str)(vs:List V):St:=vs.map some++List.replicate (N.length -vs.length) none
def kg (CX:rD)(P:Program)(w:World)(K:Za)(mg:Str->Option Value)(base:Heap)(N:List Str)(qual:Str)(scope:Scope)(f:Addr)(cd:Value)(A:Around)(outer:List Env)(s:Shared)(H:Hp)(E:XK):Cx where
 prog:=P
 w:=w
 K:=K
 mg:=mg
 base:=base
 A:=A.deeper (envOfC qual scope s.heap.objs.size f cd)
 N:=N
 s₀:=s
 H₀:=H
 env:=envOfC qual scope s.heap.objs.size f cd
 outer:=outer
 stack:=envOfC qual scope s.heap.objs.size f cd::outer
 ex:=[]
 calm:=true
 fn:=λ_=>true
 pn:=[]
 xe:=λe s'=>wpAny (model P w) (A.deeper (envOfC qual scope s.heap.objs.size f cd)) («leaving» (envOfC qual scope s.heap.objs.size f cd) e) (λ_ Wy=>CX outer H s E e Wy) (λe' Wy=>CX outer H s E e' Wy) s'
def tG {sc:Scope}{n:Nat}{x:Str}(h:sc.names.lookup x=some .cell):∃c,(cellsFrom n sc.names []).lookup x=some c:=by
 have q:=Ru sc.names n [] (.inl h);exact Option.isSome_iff_exists.mp q
def xQ {CX:rD}{P:Program}{w:World}{K:Za}{mg:Str->Option Value}{base:Heap}{N ps:List Str}{qual:Str}{scope:Scope}{f:Addr}{cd:Value}{A:Around}{outer:List Env}{s s1:Shared}{H:Hp}{E:XK}{us:List Value}{vs:List V}
  (S:i4 N ps scope) (hd:A.handled=none) (e0:Dr P w K mg base A outer s H) (hl:vs.length=ps.length) (r:Vals vs us)
  (x:InCallC s s.heap.objs.size (bindL (envOfC qual scope s.heap.objs.size f cd).kindOf (ps.zip us) λ_=>none) (cellsFrom (s.heap.objs.size+1) scope.names []) (bindC (envOfC qual scope s.heap.objs.size f cd).kindOf (ps.zip us) λ_=>none) s1):
  Inv (kg CX P w K mg base N qual scope f cd A outer s H E) [] (gD N vs) H s1:=by
 have z_:ps.length<=N.length:=by have:=Mw List.length S.pre;rw[Lz] at this;lia
 obtain⟨h1,tk,rfl,hk⟩:=x.done
 have Xe:∀b:Addr,b∉(kg CX P w K mg base N qual scope f cd A outer s H E).ex:=λb z=>absurd (show b∈([]:List Addr) from z) (by simp)
 refine⟨⟨e0.mod,S.kind,rfl,rfl,Lp _,λy z c h1 h2=>?_,λy hy=>?_,λy c _ h=>?_,λ_=>hd,Around.frames_deeper e0.frames,.inr ⟨rfl,rfl⟩,λb z=>absurd z (Xe b),e0.bs,e0.bsz,λb _ _=>Xe b,λb z=>absurd z (Xe b),e0.funs,e0.frf⟩,
  rfl,e0.bare,Un.kept hk,⟨_,x.toInCall.ns,λi y v h1 h2 h3=>?_⟩,λy c h=>⟨_,x.cell y c h⟩,e0.hok.fresh (Lp _),λy c h=>?_,λp hp=>absurd (show p∈([]:List (Addr×Obj)) from hp) (by simp),e0.hok.kept hk,?_⟩
 .exact name_of_addr x.apart (Ot h1) (Ot h2)
 .have hy:scope.names.lookup y=some .cell\/scope.names.lookup y=some .free:=hy
  rcases hy with hy|hy
  .exact tG hy
  .exact absurd rfl (S.nofree _ (Ot hy))
 .exact NY (x.above y c (Ot h))
 .have hi:i<vs.length:=by
   unfold gD at h2;by_cases hi:i<vs.length
   .exact hi
   .rw[MJ (by simpa using hi)] at h2;rw[List.getElem?_replicate] at h2;split at h2<;>cases h2
  have ha:vs[i]?=some v:=by
   unfold gD at h2;rw[Nm (by simpa using hi),Lo] at h2;cases e:vs[i]? with
   |none=>rw[e] at h2;cases h2
   |some a=>rw[e] at h2;cases h2;rfl
  obtain⟨u,hu,rv⟩:=r.get ha
  have hp:ps[i]?=some y:=by
   rw[←S.pre,List.getElem?_take_of_lt (by lia)];exact h1
  have ndP:ps.Nodup:=by rw[←S.pre];exact S.nd.sublist (Og _ _)
  refine⟨u,rv,?_⟩
  rcases S.par y (LF hp) with k|k
  .exact .inl ⟨k,pC ndP hp hu k⟩
  .obtain⟨c,e⟩:=tG (n:=s.heap.objs.size+1) k
   refine .inr ⟨.inl k,c,e,?_⟩
   have q:=x.cell y c e
   rw[pL ndP hp hu (by show scope.names.lookup y≠_;rw[k];decide)] at q
   exact q
 .exact e0.hok.fresh (NY (x.above y c (Ot h)))
 .unfold gD
  show _=N.length
  rw[LB,Ll,Nb]
  lia
def DU {CX:rD}{P:Program}{w:World}{K:Za}{mg:Str->Option Value}{base:Heap}{k:Nat}{f:Addr}{name qual:Str}{params:Arguments}{body:List Stmt}{scope:Scope}{dV kV doc pm c_ ct oc:Value}{an od:Option Addr}
  {SS:Array (Option Value)} {N ps:List Str} {sp:Sp} (lk:K.lookup f=some ⟨oc,od,.func (PySem.W.fnOf name qual params body scope dV kV doc pm an c_ ct),SS⟩) (SN:PySem.W.codeIn K c_ qual=true) (S:i4 N ps scope)
  (len:∀vs H Q E,sp vs H Q E->vs.length=ps.length)
  (O':∀(A:Around) (outer:List Env) (s:Shared) (H:Hp) (vs:List V) (Q:VK) (E:XK),Room k (A.deeper (envOfC qual scope s.heap.objs.size f c_))->sp vs H Q E->
   ∃t,PSs (kg CX P w K mg base N qual scope f c_ A outer s H E) body t/\t {nx:=λ_ H'=>Q .non H',rt:=Q} (gD N vs) H):
  u6 P w K mg base CX (k+1) f (PySem.W.fnOf name qual params body scope dV kV doc pm an c_ ct) ps sp:=by
 refine⟨len,λA outer s H args us vs Q E hr e0 hb r TR=>?_⟩
 have hl:=len _ _ _ _ TR
 have KX:K.In s.heap:=e0.mod.kin.keeps λb o e=>(e0.bs b o e).1
 have lim:s.heap.NoLimit:=e0.mod.nolimit.keeps λb o e=>(e0.bs b o e).1
 have Xf:∀y∈ps.zip us,scope.names.lookup y.1=some .local\/(scope.names.lookup y.1=some .cell/\((cellsFrom (s.heap.objs.size+1) scope.names []).lookup y.1).isSome=true):=fun⟨n,v⟩ hy=>by
  rcases S.par n (RF hy).1 with q|q
  .exact .inl q
  .exact .inr ⟨q,Ru _ _ _ (.inl q)⟩
 refine codeAny_call_function hr.depth (KX _ _ lk) rfl S.co S.gen rfl (PySem.W.codeRec_of KX SN) (hb _ _ _ _ ?_)
 refine wpAny_newFunctionEnv_cells S.kind Xf λenv he s1 x=>?_
 subst he
 refine⟨lim.keeps x.toInCall.keep,codeAny_func ?_⟩
 obtain⟨t,ht,hq⟩:=O' A outer s H vs Q E (hr.deeper _) TR
 have I:Inv (kg CX P w K mg base N qual scope f c_ A outer s H E) [] (gD N vs) H s1:=xQ S hr.hd e0 hl r x
 refine PD (ht [] s1 (gD N vs) H _ I hq) (λfl s' hs=>?_) λe s' hs=>hs
 have fin:∀{σ':St} {H':Hp} {v:V} {u:Value},Inv (kg CX P w K mg base N qual scope f c_ A outer s H E) [] σ' H' s'->RelV v u->Q v H'->CE outer P w H s Q u s':=
  fun{σ' H' v u} J rv q=>⟨v,H',J.os,J.bare,J.base,J.hok,rv,q⟩
 cases fl with
 |ret u=>
  obtain⟨v,σ',H',J,rv,q⟩:=hs
  exact fin J rv q
 |next=>
  obtain⟨σ',H',J,q⟩:=hs
  exact fin (v:=V.non) (u:=Value.none) J rfl q
 |brk=>
  obtain⟨_,_,_,q⟩:=hs
  exact False.elim q
 |cont=>
  obtain⟨_,_,_,q⟩:=hs
  exact False.elim q
section
variable {X:Cx} {x:Str} {p pos:Pos} {e:Expr} {es:List Expr} {t:TA} {id T:String} {r:List V->Hp->VK->Prop}
def Gn (r:List V->Hp->VK->Prop)(t:TA):TE:=λσ H Q=>t σ H λvs H1=>r vs H1 Q
def yA (hc:CallR X (.builtin id) r)(hg:Gl X x)(hm:X.mg x=none)(hv:bootBuiltins x=some (.builtin id))(ha:PA X (e::es) t)(hn:x≠"__name__":=by decide)(q_:(x==("__debug__":Str))=false:=by decide)
  (he:starEach (e::es) X.env=(false,eval e X.env)::starEach es X.env:=by rfl) (z_:(backTo pos (starEach es X.env)).any (·.1)=false:=by rfl):PE X (.Call (.Name x p) (e::es) [] pos) (Gn r t):=by
 intro pins s σ H Q I h
 refine Pj (lS I hg hm hv ?_ hn q_)
 exact PyProof.Rows.callWith_builtin1 (N3 (ha pos pins s σ H _ I h) λus s1 ⟨vs,H1,I1,r1,q1⟩=>hc pins s1 σ H1 vs us Q I1 r1 q1) he z_
def wD (hc:CallR X (.type T) r)(hg:Gl X x)(hm:X.mg x=none)(hv:bootBuiltins x=some (.type T))(ha:PA X (e::es) t)(hn:x≠"__name__":=by decide)(q_:(x==("__debug__":Str))=false:=by decide)
  (he:starEach (e::es) X.env=(false,eval e X.env)::starEach es X.env:=by rfl) (z_:(backTo pos (starEach es X.env)).any (·.1)=false:=by rfl):PE X (.Call (.Name x p) (e::es) [] pos) (Gn r t):=by
 intro pins s σ H Q I h
 refine Pj (lS I hg hm hv ?_ hn q_)
 exact OK (N3 (ha pos pins s σ H _ I h) λus s1 ⟨vs,H1,I1,r1,q1⟩=>hc pins s1 σ H1 vs us Q I1 r1 q1) he z_
end
end L2
namespace HT
open PySem PyProof.Rows
section
open PySem.SeqAt
open PySem.AutoSeq1 (wpAny_loadPart')
open PySem.MeetsSeq PySem.MeetsSeq2 PySem.MeetsSeq3
end
section
variable {prog:Program} {w:World} {A:Around} {E:Value->Shared->Prop} {s:Shared}
def cat_tup {t b:Addr}{vs ws:List Value}{Q:Value->Shared->Prop}(ht:IsTup s.heap t vs.toArray)(hb:IsTup s.heap b ws.toArray)(hv:vs≠[])
  (h1:ws=[]->Q (.ref t) s) (h2:ws≠[]->Q (.ref s.heap.objs.size) {s with heap:=s.heap.push {cls:= .type "tuple",data:= .seq (vs++ws).toArray}})
  (hsz:vs.length+ws.length<=sizeLine):wpAny (model prog w) A (binaryOp .Add (.ref t) (.ref b)) Q E s:=by
 obtain⟨⟨cls,dd,data,sl⟩,ho,hc,n,hd⟩:=id ht
 obtain⟨⟨cls2,dd2,data2,sl2⟩,S',hc2,n2,hd2⟩:=id hb
 simp only at hc hd hc2 hd2
 subst hc hd hc2 hd2
 have e:vs.toArray++ws.toArray=(vs++ws).toArray:=by simp
 by_cases hw:ws=[]
 .exact concat_meets ⟨_,ho,rfl⟩ ⟨_,S',rfl⟩ noFill_tuple_add seq_tuple_add Rv Rg (QN _ _)
   (tuple_addW1 t b vs.toArray ws.toArray n n2 dd dd2 sl sl2 (by simpa using hv) (by simp [hw])) ⟨ho,S',h1 hw⟩
 .refine concat_meets ⟨_,ho,rfl⟩ ⟨_,S',rfl⟩ noFill_tuple_add seq_tuple_add Rv Rg (QN _ _)
   (tuple_addW2 t b vs.toArray ws.toArray n n2 dd dd2 sl sl2 (by simpa using hv) (by simpa using hw) (by rw[LR,LR];exact hsz)) ⟨ho,S',?_⟩
  rw[e]
  exact h2 hw
def sIx (n d:Nat):Option Int->Nat
 |none=>d
 |some v=>if v<0 then(v+(n:Int)).toNat else min v.toNat n
def sIx_nat (n d k:Nat):sIx n d (some (k:Int))=min k n:=by
 show(if(k:Int)<0 then((k:Int)+(n:Int)).toNat else min (k:Int).toNat n)=min k n;rw[if_neg (by lia),Int.toNat_natCast]
def Ea (n d:Nat)(hd:d<=n)(o:Option Int):sIx n d o<=n:=by
 cases o with
 |none=>exact hd
 |some v=>
  show(if v<0 then(v+(n:Int)).toNat else min v.toNat n)<=n
  by_cases hv:v<0
  .rw[if_pos hv];lia
  .rw[if_neg hv];exact OT _ _
def vG (v:Int)(n d:Nat):(if v<0 then max (v+(n:Int)) 0 else min v (n:Int))=((sIx n d (some v):Nat):Int):=by
 show(if v<0 then max (v+(n:Int)) 0 else min v (n:Int))=(((if v<0 then(v+(n:Int)).toNat else min v.toNat n):Nat):Int);by_cases hv:v<0
 .simp only[if_pos hv];lia
 .simp only[if_neg hv];lia
def uI (lo hi:Option Int)(n:Nat):Builtin.Slice.sliceAdjust lo hi 1 (n:Int)=(((sIx n 0 lo:Nat):Int),((sIx n n hi:Nat):Int)):=by
 have h1:¬((1:Int)<0):=by lia
 unfold Builtin.Slice.sliceAdjust;simp only[h1,PQ];refine PR ?_ ?_
 .cases lo with
  |none=>rfl
  |some v=>exact vG v n 0
 .cases hi with
  |none=>rfl
  |some v=>exact vG v n n
def ui (i j:Nat):Builtin.Slice.slicePlaces (i:Int) (j:Int) 1=j -i:=by
 unfold Builtin.Slice.slicePlaces;have h1:(1:Int)>0:=by lia
 simp only[h1,Sl,Int.ediv_one];split<;>lia
def nI {v:Value}{o:Option Int}{Q:Option Int->Shared->Prop}(p:IsPart v o)(h:Q o s):wpAny (model prog w) A (Builtin.Slice.slicePartIndex v) Q E s:=by
 cases p with
 |none=>exact slicePart_none h
 |int i t=>exact slicePart_int h
def iT {sl:Addr}{vl vu:Value}{lo hi:Option Int}{n:Nat}{Q:Int×Int×Nat->Shared->Prop}(hs:s.heap.IsSliceOf sl vl vu .none)(pl:IsPart vl lo)(pu:IsPart vu hi)
  (h:Q (((sIx n 0 lo:Nat):Int),1,sIx n n hi -sIx n 0 lo) s):wpAny (model prog w) A (Builtin.Slice.sliceApplied (.ref sl) (pure (n:Int))) Q E s:=by
 obtain⟨os,Xg,VH,Wz⟩:=id hs
 unfold Builtin.Slice.sliceApplied Builtin.Slice.sliceFields
 refine Lx (Lx (wpAny_field Xg Wz (x:=vl) rfl (Lx (wpAny_field Xg Wz (x:=vu) rfl (Lx (wpAny_field Xg Wz (x:= .none) rfl (LK ?_)))))))
 refine Lx (slicePart_none ?_)
 show wpAny _ _ (if((1:Int)==0)=true then _ else _) _ _ s
 rw[if_neg (by decide)]
 refine Lx (nI pl (Lx (nI pu (Lx (LK ?_)))))
 show wpAny _ _ (match Builtin.Slice.sliceAdjust lo hi 1 (n:Int) with|(lo,hi)=>pure (lo,(1:Int),Builtin.Slice.slicePlaces lo hi 1)) _ _ s
 rw[uI lo hi n]
 show wpAny _ _ (pure (((sIx n 0 lo:Nat):Int),(1:Int),Builtin.Slice.slicePlaces ((sIx n 0 lo:Nat):Int) ((sIx n n hi:Nat):Int) 1)) _ _ s
 rw[ui]
 exact LK h
def Be (xs:Array Value)(i k:Nat):((List.range k).filterMap fun(m:Nat)=>xs[((i:Int)+(m:Int)*1).toNat]?).toArray=((xs.toList.drop i).take k).toArray:=by
 have e:(fun(m:Nat)=>xs[((i:Int)+(m:Int)*1).toNat]?)=λm=>xs[i+m]?:=by
  funext m;have:((i:Int)+(m:Int)*1).toNat=i+m:=by lia
  rw[this]
 rw[e];have:=pick_run xs i k;rw[List.filterMap_map] at this;have e2:((λx=>xs[x]?)∘λx=>i+x)=λm=>xs[i+m]?:=rfl;rw[e2] at this;rw[this]
def getItem_tuple_cut {t sl:Addr}{items:Array Value}{vl vu:Value}{lo hi:Option Int}{Q:Value->Shared->Prop}(ht:IsTup s.heap t items)(hs:s.heap.IsSliceOf sl vl vu .none)(pl:IsPart vl lo)(pu:IsPart vu hi)
  (hw:¬(sIx items.size 0 lo=0/\sIx items.size items.size hi=items.size))
  (h:Q (.ref s.heap.objs.size) {s with heap:=s.heap.push {cls:= .type "tuple",data:= .seq ((items.toList.drop (sIx items.size 0 lo)).take (sIx items.size items.size hi -sIx items.size 0 lo)).toArray}})
  (hsz:items.size<=sizeLine):wpAny (model prog w) A (getItem (.ref t) (.ref sl)) Q E s:=by
 have S_:sizeOk (.seq ((items.toList.drop (sIx items.size 0 lo)).take (sIx items.size items.size hi -sIx items.size 0 lo)).toArray):=by
  show((items.toList.drop (sIx items.size 0 lo)).take (sIx items.size items.size hi -sIx items.size 0 lo)).toArray.size<=sizeLine;rw[LR,Lz,Nh,Mz];lia
 have hj:sIx items.size items.size hi<=items.size:=Ea _ _ (Lp _) hi
 obtain⟨os,Xg,VH,Wz⟩:=id hs
 have hTs:s.TypeIs (.ref sl) "slice":=⟨os,Xg,VH⟩
 unfold getItem
 try with_reducible refine Nj ?_
 first|refine Lx (LK ?_)|skip
 refine Lx (wpAny_sequenceKey ht.typeIs (by decide) ?_)
 refine Lx (wpAny_callSpecial?_slot (name:=Str.ofString "__getitem__") ht.typeIs Oh
  (Qf Oh ht.typeIs entry_tuple_getitem ?_ (args_tuple_getitem _ _)))
 show wpAny _ _ (Builtin.Tuple.tupleItemsOf (.ref t)>>=_) _ _ s
 refine Lx (tupleItemsOf_ ht ?_)
 refine Lx (Pb hTs ?_)
 rw[if_pos (by decide)]
 refine Lx (iT hs pl pu ?_)
 have Ta:¬((((sIx items.size 0 lo:Nat):Int)==0&&(1:Int)==1&&(sIx items.size items.size hi -sIx items.size 0 lo)==items.size)=true):=by
  intro q;rw[Mg,Mg] at q;have q1:((sIx items.size 0 lo:Nat):Int)=0:=eq_of_beq q.1.1;have q2:sIx items.size items.size hi -sIx items.size 0 lo=items.size:=eq_of_beq q.2;exact hw ⟨by lia,by lia⟩
 show wpAny _ _ (if(((sIx items.size 0 lo:Nat):Int)==0&&(1:Int)==1&&(sIx items.size items.size hi -sIx items.size 0 lo)==items.size)=true then _ else _) _ _ s
 rw[if_neg Ta,Be]
 first
  |exact Lx (m:=Builtin.Tuple.tupleExact _) (Oi (LK ⟨_,rfl,LK h⟩) S_)
  |exact Lx (m:=Builtin.Tuple.tupleExact _) (Oi (Lx (LK (LK ⟨_,rfl,LK h⟩))) S_)
  |exact Lx (Lx (m:=Builtin.Tuple.tupleExact _) (Oi (LK (LK ⟨_,rfl,LK h⟩)) S_))
  |exact Lx (Lx (m:=Builtin.Tuple.tupleExact _) (Oi (LK ⟨_,rfl,LK h⟩) S_))
end
end HT
namespace L2
open PySem PySem.Spec PyProof.Rows
abbrev TO:=St->Hp->(Option Int->Hp->Prop)->Prop
def PO (X:Cx)(e:Option Expr)(t:TO):Prop:=
 ∀(pins:List (Addr×Obj)) (s:Shared) (σ:St) (H:Hp) (Q:Option Int->Hp->Prop),Inv X pins σ H s->t σ H Q->
  wpAny (model X.prog X.w) X.A (evalPart e X.env) (λu s'=>∃o H',Inv X pins σ H' s'/\IsPart u o/\Q o H') X.xe s
def qE:TO:=λ_ H Q=>Q none H
def zU (t:TE):TO:=λσ H Q=>t σ H λx H1=>∃i,x= .int i/\Q (some i) H1
def tZ {ns:List Int}:∀{us:List Value},Vals (ns.map V.int) us->IntsAre us ns:=by
 induction ns with
 |nil=>intro us r;rw[QJ] at r;cases r;exact .nil
 |cons n ns ih=>
  intro us r
  rw[Ms] at r
  cases r with
  |cons r1 r2=>
   obtain⟨t,e⟩:=r1
   subst e
   exact .cons n t (ih r2)
section
variable {X:Cx} {e:Expr} {te:TE} {lo hi:Option Expr} {tl th:TO} {pos p2:Pos}
def Cj:PO X none qE:=by
 intro pins s σ H Q I h;rw[evalPart_none];exact LK ⟨none,H,I,.none,h⟩
def BL (h:PE X e te):PO X (some e) (zU te):=by
 intro pins s σ H Q I hw;rw[evalPart_some];refine N3 (h pins s σ H _ I hw) λu s1 ⟨x,H1,I1,r1,q1⟩=>?_;obtain⟨i,rfl,q⟩:=q1;obtain⟨t,rfl⟩:=r1;exact⟨some i,H1,I1,.int i t,q⟩
def SlR (X:Cx)(r:V->Option Int->Option Int->Hp->VK->Prop):Prop:=
 ∀(pins:List (Addr×Obj)) (s:Shared) (σ:St) (H:Hp) (x:V) (v vl vu:Value) (lo hi:Option Int) (sl:Addr) (Q:VK),Inv X pins σ H s->RelV x v->s.heap.IsSliceOf sl vl vu .none->IsPart vl lo->IsPart vu hi->r x lo hi H Q->
  ∃T id,typeLookup (.type T) "__getitem__"=pure (some (.builtin id))/\s.TypeIs v T/\wpAny (model X.prog X.w) X.A (getItem v (.ref sl)) (EP X pins σ Q) X.xe s
def SlR.or {r r':V->Option Int->Option Int->Hp->VK->Prop}(h:SlR X r)(h':SlR X r'):SlR X (λx lo hi H Q=>r x lo hi H Q\/r' x lo hi H Q):=by grind [SlR]
def Jy (r:V->Option Int->Option Int->Hp->VK->Prop)(te:TE)(tl th:TO):TE:=λσ H Q=>te σ H λx H1=>tl σ H1 λl H2=>th σ H2 λu H3=>r x l u H3 Q
def Am {r:V->Option Int->Option Int->Hp->VK->Prop}(hr:SlR X r)(he:PE X e te)(hl:PO X lo tl)(hu:PO X hi th):PE X (.Subscript e (.Slice lo hi none p2) pos) (Jy r te tl th):=by
 intro pins s σ H Q I h;refine Subscript_ (N3 (he pins s σ H _ I h) λv s1 ⟨x,H1,I1,r1,q1⟩=>?_);refine wpAny_Slice (N3 (hl pins s1 σ H1 _ I1 q1) λvl s2 ⟨l,H2,I2,pl,q2⟩=>N3 (hu pins s2 σ H2 _ I2 q2) λvu s3 ⟨u,H3,I3,pu,q3⟩=>?_);rw[evalPart_none];refine LK ?_;have I4:Inv X pins σ H3 {s3 with heap:=s3.heap.push {cls:= .type "slice",data:= .fields #[vl,vu,.none]}}:=I3.kept (t':=s3.toks) λb ob q=>Ly _ q;obtain⟨T,id,hT,ht,hg⟩:=hr pins {s3 with heap:=s3.heap.push {cls:= .type "slice",data:= .fields #[vl,vu,.none]}} σ H3 x v vl vu l u s3.heap.objs.size Q I4 r1 (Heap.IsSliceOf.new ..) pl pu q3;show wpAny (model X.prog X.w) X.A (subscriptTail e (.Slice lo hi none p2) v (.ref s3.heap.objs.size)) (EP X pins σ Q) X.xe {s3 with heap:=s3.heap.push {cls:= .type "slice",data:= .fields #[vl,vu,.none]}};exact tail_any (ops:=[.ref s3.heap.objs.size,v]) ht hT hg (by with_unfolding_all rfl)
def fq (xs:List V)(lo hi:Option Int):List V:=(xs.drop (HT.sIx xs.length 0 lo)).take (HT.sIx xs.length xs.length hi -HT.sIx xs.length 0 lo)
def jd (xs:List V)(lo hi:Option Int):(fq xs lo hi).length<=xs.length:=by
 unfold fq;rw[Lz,Nh];lia
def IL (K:Za):V->Option Int->Option Int->Hp->VK->Prop:=λx lo hi H Q=>∃a xs,x= .ref a/\SqT K H a xs/\
 ¬(HT.sIx xs.length 0 lo=0/\HT.sIx xs.length xs.length hi=xs.length)/\∀p,H p=none->Q (.ref p) (upd H p (.tup (fq xs lo hi)))
def sl_tup:SlR X (IL X.K):=by
 intro pins s σ H x v vl vu lo hi sl Q I rx hs pl pu h;obtain⟨a,xs,rfl,hx,hw,q⟩:=h;cases rx;obtain⟨a_,r,ht,hz⟩:=I.tuple hx;have hlen:a_.toArray.size=xs.length:=by rw[LR];exact r.length.symm
 refine⟨"tuple",_,Oh.lookup,ht.typeIs,?_⟩;refine HT.getItem_tuple_cut ht hs pl pu (by rw[hlen];exact hw) ?_ (by rw[hlen];exact hz);rw[hlen];refine⟨.ref s.heap.objs.size,_,I.laid (t':=s.toks) (o:= .tup (fq xs lo hi)) (λb ob q=>Ly _ q) (Lp _) ?_,rfl,q _ (I.hok.fresh (Lp _))⟩;exact⟨Mh (jd xs lo hi) hz,_,(r.drop (HT.sIx xs.length 0 lo)).take (HT.sIx xs.length xs.length hi -HT.sIx xs.length 0 lo),IsTup.new _ _⟩
def Dx (K:Za):R2:=λx y H Q=>∃a b xs ys,x= .ref a/\y= .ref b/\SqT K H a xs/\SqT K H b ys/\xs≠[]/\xs.length+ys.length<=sizeLine/\
 (ys=[]->Q (.ref a) H)/\(ys≠[]->∀p,H p=none->Q (.ref p) (upd H p (.tup (xs++ys))))
def Vals.nil_iff {xs:List V}{us:List Value}(r:Vals xs us):us=[]↔xs=[]:=by
 cases r with
 |nil=>simp
 |cons _ _=>simp
def CJ:OpR X (binaryOp .Add) (Dx X.K):=by
 intro pins s σ H x y v u Q I rx ry h;obtain⟨a,b,xs,ys,rfl,rfl,ha,hb,hx,hz,q1,q2⟩:=h;cases rx;cases ry;obtain⟨a_,r1,p1,_⟩:=I.tuple ha;obtain⟨O_,r2,p2,_⟩:=I.tuple hb;refine HT.cat_tup p1 p2 (λz=>hx (r1.nil_iff.mp z)) (λz=>⟨.ref a,H,I,rfl,q1 (r2.nil_iff.mp z)⟩) (λz=>?_) (by rw[←r1.length,←r2.length];exact hz);refine⟨.ref s.heap.objs.size,_,I.laid (t':=s.toks) (o:= .tup (xs++ys)) (λb ob q=>Ly _ q) (Lp _) ?_,rfl,q2 (λw=>z (r2.nil_iff.mpr w)) _ (I.hok.fresh (Lp _))⟩;exact⟨by rw[LB];exact hz,_,r1.append r2,IsTup.new _ _⟩
end
def BW (n:Nat)(i:Int):Option Nat:=if 0<=i then(if i<n then some i.toNat else none) else if -(n:Int)<=i then some (i+n).toNat else none
def rJ {α:Type}(xs:List α)(i:Int):Option α:=(BW xs.length i).bind λj=>xs[j]?
theorem vP {n:Nat}{i:Int}{j:Nat}(h:BW n i=some j):seqIndex? i n=some j/\j<n/\-(n:Int)<=i/\i<n:=by
 unfold BW at h;by_cases h0:0<=i
 .rw[if_pos h0] at h;by_cases h1:i<n
  .rw[if_pos h1] at h;have e:i.toNat=j:=LO h;exact⟨by rw[seqIndex_of h0 h1,e],by lia,by lia,h1⟩
  .rw[if_neg h1] at h;cases h
 .rw[if_neg h0] at h;by_cases h1: -(n:Int)<=i
  .rw[if_pos h1] at h;have e:(i+n).toNat=j:=LO h;exact⟨by rw[seqIndex_neg (by lia) h1,e],by lia,h1,by lia⟩
  .rw[if_neg h1] at h;cases h
def qy {α:Type}{xs:List α}{i:Int}{v:α}(h:rJ xs i=some v):∃j,seqIndex? i xs.length=some j/\xs[j]?=some v/\j<xs.length/\-(xs.length:Int)<=i/\i<xs.length:=by grind [rJ,BW,vP]
def b6 {α:Type}{xs:List α}{j:Nat}{v:α}(h:xs[j]?=some v):rJ xs (j:Int)=some v:=by
 have hj:j<xs.length:=(Mf.mp h).1;have e:BW xs.length (j:Int)=some j:=by
  unfold BW;rw[if_pos (by lia),if_pos (by lia)];simp
 unfold rJ;rw[e];exact h
def vq (b:Expr):Prop:=∀o i,subscripted b false o i=operate [o,i] (getItem o i)
def IxR (X:Cx)(r:R2):Prop:=
 ∀(value slice:Expr) (pins:List (Addr×Obj)) (s:Shared) (σ:St) (H:Hp) (x y:V) (v u:Value) (Q:VK),Inv X pins σ H s->RelV x v->RelV y u->r x y H Q->
  subscripted slice false v u=operate [v,u] (getItem v u)->wpAny (model X.prog X.w) X.A (subscriptTail value slice v u) (EP X pins σ Q) X.xe s
def Cw (X:Cx)(id:String)(r:V->List V->Hp->VK->Prop):Prop:=
 ∀(pins:List (Addr×Obj)) (s:Shared) (σ:St) (H:Hp) (x:V) (xs:List V) (v:Value) (us:List Value) (Q:VK),Inv X pins σ H s->RelV x v->Vals xs us->r x xs H Q->
  wpAny (model X.prog X.w) X.A (call (.builtin id) (v::us)) (EP X pins σ Q) X.xe s
section
variable {X:Cx} {a b:Expr} {ta tb:TE} {pos:Pos}
def IxR.or {r r':R2}(h:IxR X r)(h':IxR X r'):IxR X (λx y H Q=>r x y H Q\/r' x y H Q):=by
 intro value slice pins s σ H x y v u Q I rx ry q hs;rcases q with q|q
 .exact h value slice pins s σ H x y v u Q I rx ry q hs
 .exact h' value slice pins s σ H x y v u Q I rx ry q hs
def GH {r:R2}(hr:IxR X r)(ha:PE X a ta)(hb:PE X b tb)(hs:vq b):PE X (.Subscript a b pos) (Cd r ta tb):=by
 intro pins s σ H Q I h;exact Subscript_ (Gp ha hb I h λv u s2 x y H2 I2 rx ry q=>hr a b pins s2 σ H2 x y v u Q I2 rx ry q (hs _ _))
def Hq (K:Za):R2:=λx y H Q=>∃p xs i v,x= .ref p/\y= .int i/\SqL K H p xs/\rJ xs i=some v/\Q v H
def Hx (K:Za):R2:=λx y H Q=>∃p xs i v,x= .ref p/\y= .int i/\SqT K H p xs/\rJ xs i=some v/\Q v H
def HU:R2:=λx y H Q=>∃z i c,x= .str z/\y= .int i/\z.length<=sizeLine/\rJ z.cps.toList i=some c/\Q (.str ⟨#[c]⟩) H
def ix_list:IxR X (Hq X.K):=by
 intro value slice pins s σ H x y v u Q I rx ry h hs;obtain⟨p,xs,i,z,rfl,rfl,hq,he,q⟩:=h;cases rx;obtain⟨t,rfl⟩:=ry;obtain⟨a_,r,pl,hz⟩:=I.list hq;obtain⟨j,h1,h2,h3,h4,h5⟩:=qy he;obtain⟨w,ew,UP⟩:=r.get h2;have hl:=r.length;have hn:=ip;have fin:EP X pins σ Q w s:=⟨z,H,I,UP,q⟩
 by_cases h0:0<=i
 .have hj:i.toNat=j:=by
   rw[seqIndex_of h0 h5] at h1;exact LO h1
  exact item_listR pl.isList h0 (by lia) (by rw[hj];simpa using ew) fin hs
 .have hj:(i+(a_.toArray.size:Int)).toNat=j:=by
   rw[seqIndex_neg (by lia) h4] at h1;rw[LR,←hl];exact LO h1
  exact subscriptTail_builtinR (x:=w) pl.isList.typeIs slot_list_getitem.lookup
   (wpAny_getItem_list_neg (Q:=λr s'=>r=w/\EP X pins σ Q r s') pl.isList (by lia) (by rw[LR]<;>lia) (by lia) (by rw[hj];simpa using ew) ⟨rfl,fin⟩) hs
def ix_tup:IxR X (Hx X.K):=by
 intro value slice pins s σ H x y v u Q I rx ry h hs;obtain⟨p,xs,i,z,rfl,rfl,hq,he,q⟩:=h;cases rx;obtain⟨t,rfl⟩:=ry;obtain⟨a_,r,pl,hz⟩:=I.tuple hq;obtain⟨j,h1,h2,h3,h4,h5⟩:=qy he;obtain⟨w,ew,UP⟩:=r.get h2;have hl:=r.length;have hn:=ip;have fin:EP X pins σ Q w s:=⟨z,H,I,UP,q⟩
 exact subscriptTail_builtinR (x:=w) pl.typeIs slot_tuple_getitem.lookup
  (getItem_tuple (j:=j) (Q:=λr s'=>r=w/\EP X pins σ Q r s') pl (by lia) (by lia) (by rw[LR,←hl];exact h1) (by simpa using ew) ⟨rfl,fin⟩) hs
def EO:IxR X HU:=by
 intro value slice pins s σ H x y v u Q I rx ry h hs;obtain⟨z,i,c,rfl,rfl,hz,he,q⟩:=h;obtain⟨t,rfl⟩:=rx;obtain⟨t',rfl⟩:=ry;obtain⟨j,h1,h2,h3,h4,h5⟩:=qy he;have hl:z.cps.toList.length=z.length:=by simp [Str.length]
 rw[hl] at h1 h4 h5;have hn:=ip;exact tail_any (PF s z t) slot_str_getitem.lookup (getItem_str (c:=c) (by
  have e1:decide (i< -(2 ^ 63:Int))=false:=LL (by lia);have e2:decide (i≥2 ^ 63)=false:=LL (by lia);rw[e1,e2,SF]) (by rw[h1];simpa using h2) ⟨.str ⟨#[c]⟩,H,I.tok _,⟨_,rfl⟩,q⟩) hs
def Ko (K:Za):R2:=λx y H Q=>Hq K x y H Q\/Hx K x y H Q\/HU x y H Q
def ix_seq:IxR X (Ko X.K):=ix_list.or (ix_tup.or EO)
def uz (a_:List Value)(n j:Nat)(u:Value):Obj.mapSeq (·.setIfInBounds j u) {cls:= .type "list",data:= .seq a_.toArray n}={cls:= .type "list",data:= .seq (a_.set j u).toArray n}:=by
 simp [Obj.mapSeq]
def Inv.lst {pins:List (Addr×Obj)}{σ:St}{H:Hp}{s:Shared}{p:Addr}{xs:List V}(I:Inv X pins σ H s)(h:H p=some (.lst xs)):
  ∃(a_:List Value) (n:Nat),Vals xs a_/\s.heap.get? p=some {cls:= .type "list",data:= .seq a_.toArray n}/\xs.length<=sizeLine:=by
 obtain⟨z,a_,n,r,e⟩:=I.hok p _ h
 exact⟨a_,n,r,e,z⟩
def Inv.lstUpd {pins:List (Addr×Obj)}{σ:St}{H:Hp}{s:Shared}{p:Addr}{xs ys:List V}{a_ its':List Value}{n n':Nat}{f:Obj->Obj}(I:Inv X pins σ H s)(h:H p=some (.lst xs))
  (ho:s.heap.get? p=some {cls:= .type "list",data:= .seq a_.toArray n}) (hf:f {cls:= .type "list",data:= .seq a_.toArray n}={cls:= .type "list",data:= .seq its'.toArray n'}) (r:Vals ys its') (hz:ys.length<=sizeLine) (t:Nat):
  Inv X pins σ (upd H p (.lst ys)) {s with heap:=s.heap.update p f,toks:=t}:=by
 have e:(s.heap.update p f).get? p=some {cls:= .type "list",data:= .seq its'.toArray n'}:=by
  rw[Heap.get?_update_self f ho (by rw[hf]<;>rfl),hf]
 refine I.write (x:=p) (e:=p) (by rw[h];trivial) (.inl rfl) (λb u hb q=>(Heap.get?_update_other _ _ (OD hb)).trans q) ⟨_,e⟩ ?_
 exact⟨hz,its',n',r,e⟩
def DC:V->V->V->Hp->(Hp->Prop)->Prop:=λo i v H Q=>∃p xs k j,o= .ref p/\i= .int k/\H p=some (.lst xs)/\BW xs.length k=some j/\Q (upd H p (.lst (xs.set j v)))
def Ax:xg X DC:=by
 intro pins s σ H o i v ov iv u Q I ro ri rv h;obtain⟨p,xs,k,j,rfl,rfl,hp,hj,q⟩:=h;cases ro;obtain⟨t,rfl⟩:=ri;obtain⟨a_,n,r,ho,hz⟩:=I.lst hp;obtain⟨h1,h2,h3,h4⟩:=vP hj;have hl:=r.length;have hn:=ip;have I':Inv X pins σ (upd H p (.lst (xs.set j v))) {s with heap:=s.heap.update p (Obj.mapSeq (·.setIfInBounds j u))}:=
  I.lstUpd hp ho (uz a_ n j u) (r.set rv j) (by rw[List.length_set];exact hz) s.toks
 by_cases h0:0<=k
 .have hk:k.toNat=j:=by
   rw[seqIndex_of h0 h4] at h1;exact LO h1
  exact PySem.W.ki_setAt ho h0 (by lia) (by rw[LR,←hl];exact h4) (by rw[hk];exact⟨_,I',q⟩)
 .have hk:(k+(a_.toArray.size:Int)).toNat=j:=by
   rw[seqIndex_neg (by lia) h3] at h1;rw[LR,←hl];exact LO h1
  exact PySem.W.ki_setBack ho (by lia) (by rw[LR,←hl];exact h3) (by lia) (by rw[hk];exact⟨_,I',q⟩)
def qA (lo hi:Option Int)(n:Nat):(sliceBounds lo hi none n).1=((HT.sIx n 0 lo:Nat):Int)/\(sliceBounds lo hi none n).2.1=((HT.sIx n n hi:Nat):Int)/\(sliceBounds lo hi none n).2.2=1:=by
 refine⟨?_,?_,rfl⟩
 .cases lo with
  |none=>simp [sliceBounds,HT.sIx]
  |some i=>
   simp only[sliceBounds,HT.sIx,Option.getD_none,show(1:Int)>0 by decide,Sl]
   by_cases h:i<0
   .simp only[h,Sl]<;>lia
   .simp only[h,PQ]<;>lia
 .cases hi with
  |none=>simp [sliceBounds,HT.sIx]
  |some i=>
   simp only[sliceBounds,HT.sIx,Option.getD_none,show(1:Int)>0 by decide,Sl]
   by_cases h:i<0
   .simp only[h,Sl]<;>lia
   .simp only[h,PQ]<;>lia
def oy (a_:List Value)(lo hi:Option Int):slicePick a_.toArray lo hi none=((a_.drop (HT.sIx a_.length 0 lo)).take (HT.sIx a_.length a_.length hi -HT.sIx a_.length 0 lo)).toArray:=by
 obtain⟨h1,h2,h3⟩:=qA lo hi a_.toArray.size;unfold slicePick;rw[h1,h2,h3];simp only[sliceRange_one,pick_run,LR]<;>rfl
def GN (K:Za):V->Option Int->Option Int->Hp->VK->Prop:=λx lo hi H Q=>∃a xs,x= .ref a/\SqL K H a xs/\∀p,H p=none->Q (.ref p) (upd H p (.lst (fq xs lo hi)))
def sl_list:SlR X (GN X.K):=by
 intro pins s σ H x v vl vu lo hi sl Q I rx hs pl pu h;obtain⟨a,xs,rfl,hx,q⟩:=h;cases rx;obtain⟨a_,r,ht,hz⟩:=I.list hx;have hlen:=r.length;refine⟨"list",_,slot_list_getitem.lookup,ht.isList.typeIs,?_⟩;refine wpAny_getItem_list_slice ht.isList hs pl pu .none (by simp) ?_ (by rw[LR]<;>lia);rw[oy,←hlen];refine⟨.ref s.heap.objs.size,_,I.laid (t':=s.toks) (o:= .lst (fq xs lo hi)) (λb ob q=>Ly _ q) (Lp _) ?_,rfl,q _ (I.hok.fresh (Lp _))⟩;exact⟨Mh (jd xs lo hi) hz,_,0,(r.drop (HT.sIx xs.length 0 lo)).take (HT.sIx xs.length xs.length hi -HT.sIx xs.length 0 lo),LY _ rfl⟩
def E3:V->Bool
 | .non=>true
 | .bl _=>true
 | .int _=>true
 | .str _=>true
 |_=>false
def dq:V->V->Bool
 | .non,.non=>true
 | .bl a,.bl b=>a==b
 | .bl a,.int b=>(if a then 1 else 0)==b
 | .int a,.bl b=>a==(if b then 1 else 0)
 | .int a,.int b=>a==b
 | .str a,.str b=>a==b
 |_,_=>false
def bY {A:Around}{s:Shared}{y x:V}{u v:Value}(ry:RelV y u)(rx:RelV x v)(fy:E3 y=true)(fx:E3 x=true):SeqAt.EqAt A s u v (dq y x):=by
 cases y with
 |non=>
  cases ry
  cases x with
  |non=>cases rx;exact Qm _
  |bl b=>cases rx;exact SeqAt.EqAt.none_bool b
  |int b=>obtain⟨t,rfl⟩:=rx;exact SeqAt.EqAt.none_int b t
  |str b=>obtain⟨t,rfl⟩:=rx;exact SeqAt.EqAt.none_str b t
  |_=>exact absurd (show false=true from fx) Mn
 |bl a=>
  cases ry
  cases x with
  |non=>cases rx;exact SeqAt.EqAt.bool_none a
  |bl b=>cases rx;exact SeqAt.EqAt.bool_bool a b
  |int b=>obtain⟨t,rfl⟩:=rx;exact SeqAt.EqAt.bool_int a b t
  |str b=>obtain⟨t,rfl⟩:=rx;exact SeqAt.EqAt.bool_str a b t
  |_=>exact absurd (show false=true from fx) Mn
 |int a=>
  obtain⟨t',rfl⟩:=ry
  cases x with
  |non=>cases rx;exact SeqAt.EqAt.int_none a t'
  |bl b=>cases rx;exact SeqAt.EqAt.int_bool a t' b
  |int b=>obtain⟨t,rfl⟩:=rx;exact SeqAt.EqAt.int_int a t' b t
  |str b=>obtain⟨t,rfl⟩:=rx;exact QD a t' b t
  |_=>exact absurd (show false=true from fx) Mn
 |str a=>
  obtain⟨t',rfl⟩:=ry
  cases x with
  |non=>cases rx;exact SeqAt.EqAt.str_none a t'
  |bl b=>cases rx;exact SeqAt.EqAt.str_bool a t' b
  |int b=>obtain⟨t,rfl⟩:=rx;exact QF a t' b t
  |str b=>obtain⟨t,rfl⟩:=rx;exact SeqAt.EqAt.str_str a t' b t
  |_=>exact absurd (show false=true from fx) Mn
 |_=>exact absurd (show false=true from fy) Mn
def tS (x:V)(u:Value):Bool:=match u with
 | .none=>dq .non x
 | .bool b=>dq (.bl b) x
 | .int i _=>dq (.int i) x
 | .str z _=>dq (.str z) x
 |_=>false
def yC {x y:V}{u:Value}(r:RelV y u)(f:E3 y=true):tS x u=dq y x:=by grind [cases V,RelV,E3,tS,dq]
theorem fU {x:V}:∀{xs:List V} {us:List Value},Vals xs us->xs.all E3=true->us.any (tS x)=xs.any λy=>dq y x
 |_,_,.nil,_=>rfl
 |y::xs,u::us,.cons r t,f=>by
  rw[Ou,Mg] at f;rw[SH,SH,yC r f.1,fU t f.2]
theorem dc {A:Around}{s:Shared}{x:V}{v:Value}(rx:RelV x v)(fx:E3 x=true):∀{xs:List V} {us:List Value},Vals xs us->xs.all E3=true->∀u∈us,SeqAt.EqAt A s u v (tS x u)
 |_,_,.nil,_=>λu hu=>by cases hu
 |y::xs,u::us,.cons r t,f=>λu' hu=>by
  rw[Ou,Mg] at f;rcases Mi.mp hu with rfl|hu
  .rw[yC r f.1];exact bY r rx f.1 fx
  .exact dc rx fx t f.2 u' hu
def Gy (x:V)(xs:List V):Bool:=xs.any λy=>dq y x
def Jb (K:Za)(neg:Bool):R2:=λx y H Q=>∃p xs,y= .ref p/\(SqL K H p xs\/SqT K H p xs)/\E3 x=true/\xs.all E3=true/\Q (.bl (if neg then !Gy x xs else Gy x xs)) H
def op_in_seq:OpR X (compareOp .In) (Jb X.K false):=by
 intro pins s σ H x y v u Q I rx ry h;obtain⟨p,xs,rfl,hq,fx,fs,q⟩:=h;cases ry;rcases hq with hq|hq
 .obtain⟨a_,r,pl,hz⟩:=I.list hq;refine SeqAt.in_listAt (tS x) pl.isList (λw hw=>dc rx fx r fs w (by simpa using hw)) ⟨.bl _,H,I,rfl,?_⟩;rw[show a_.toArray.any (tS x)=a_.any (tS x) by simp,fU r fs];exact q
 .obtain⟨a_,r,pl,hz⟩:=I.tuple hq;refine SeqAt.in_tupleAt (tS x) pl (λw hw=>dc rx fx r fs w (by simpa using hw)) ⟨.bl _,H,I,rfl,?_⟩;rw[show a_.toArray.any (tS x)=a_.any (tS x) by simp,fU r fs];exact q
def op_notIn_seq:OpR X (compareOp .NotIn) (Jb X.K true):=by
 intro pins s σ H x y v u Q I rx ry h;obtain⟨p,xs,rfl,hq,fx,fs,q⟩:=h;cases ry;rcases hq with hq|hq
 .obtain⟨a_,r,pl,hz⟩:=I.list hq;refine SeqAt.notIn_listAt (tS x) pl.isList (λw hw=>dc rx fx r fs w (by simpa using hw)) ⟨.bl _,H,I,rfl,?_⟩;rw[show a_.toArray.any (tS x)=a_.any (tS x) by simp,fU r fs];exact q
 .obtain⟨a_,r,pl,hz⟩:=I.tuple hq;refine SeqAt.notIn_tupleAt (tS x) pl (λw hw=>dc rx fx r fs w (by simpa using hw)) ⟨.bl _,H,I,rfl,?_⟩;rw[show a_.toArray.any (tS x)=a_.any (tS x) by simp,fU r fs];exact q
def qg:OpR X (compareOp .NotIn) (λx y H Q=>∃i j,x= .str i/\y= .str j/\Q (.bl (!(!(Builtin.Str.occurrences j i 0 j.length 1).isEmpty))) H):=by
 intro pins s σ H x y v u Q I rx ry h;obtain⟨i,j,rfl,rfl,q⟩:=h;obtain⟨t,rfl⟩:=rx;obtain⟨t',rfl⟩:=ry;exact notIn_str ⟨.bl _,H,I,rfl,q⟩
def CallR.or {f:Value}{r r':List V->Hp->VK->Prop}(h:CallR X f r)(h':CallR X f r'):CallR X f (λxs H Q=>r xs H Q\/r' xs H Q):=by grind [CallR]
def call_list_of:CallR X (.type "list") (λxs H Q=>∃p ys,xs=[.ref p]/\(SqL X.K H p ys\/SqT X.K H p ys)/\∀l,H l=none->Q (.ref l) (upd H l (.lst ys))):=by
 intro pins s σ H xs us Q I r h;obtain⟨p,ys,rfl,hq,q⟩:=h;obtain⟨u,rfl,rx⟩:=O7 r;cases rx;have fin:∀(a_:List Value),Vals ys a_->ys.length<=sizeLine->∀(h':Heap) (c':Nat),(∀b o',s.heap.get? b=some o'->h'.get? b=some o')->
   h'.get? s.heap.objs.size=some {cls:= .type "list",dict:=none,data:= .seq a_.toArray c',slots:= #[]}->EP X pins σ Q (.ref s.heap.objs.size) {s with heap:=h'}:=λa_ r' hz h' c' kp e=>
  ⟨.ref s.heap.objs.size,_,I.laid (t':=s.toks) kp (Lp _) (show ObjOk X.prog X.w _ h' _ (.lst ys) from⟨hz,a_,c',r',e⟩),rfl,q _ (I.hok.fresh (Lp _))⟩
 rcases hq with hq|hq
 .obtain⟨a_,r',pl,hz⟩:=I.list hq;have hlen:=r'.length;obtain⟨o,ho,hc,n,hd⟩:=pl.isList;exact call_list_seq p (.inl rfl) ho hc hd (λh' c' kp e=>fin a_ r' hz h' c' kp e) (by simp only[LR]<;>lia)
 .obtain⟨a_,r',pl,hz⟩:=I.tuple hq;have hlen:=r'.length;obtain⟨o,ho,hc,n,hd⟩:=pl;exact call_list_seq p (.inr rfl) ho hc hd (λh' c' kp e=>fin a_ r' hz h' c' kp e) (by simp only[LR]<;>lia)
def GL (K:Za)(T:String)(x:V)(H:Hp):Prop:=match x with
 | .str _=>T="str"
 | .int _=>T="int"
 | .ref p=>(T="list"/\∃xs,SqL K H p xs)\/(T="tuple"/\∃o,K.lookup p=some o/\o.cls= .type "tuple"/\o.dict=none)\/
   (T="dict"/\((∃kvs,H p=some (.dK kvs))\/∃kvs,H p=some (.dT kvs)))\/(T="set"/\∃S n,H p=some (.set S n))
 |_=>False
def Ad {pins:List (Addr×Obj)}{σ:St}{H:Hp}{s:Shared}{T:String}{x:V}{v:Value}(I:Inv X pins σ H s)(r:RelV x v)(ty:GL X.K T x H):
  s.TypeIs v T/\∀a,v= .ref a->∃ob,s.heap.get? a=some ob/\ob.dict=none:=by
 cases x with
 |str z=>
  obtain⟨t,rfl⟩:=r
  cases (show T="str" from ty)
  exact⟨PF s z t,λ_ e=>nomatch e⟩
 |int i=>
  obtain⟨t,rfl⟩:=r
  cases (show T="int" from ty)
  exact⟨typeIs_int s i t,λ_ e=>nomatch e⟩
 |ref p=>
  cases r
  rcases ty with⟨rfl,xs,hq⟩|⟨rfl,o,hk,hc,hd⟩|⟨rfl,hk⟩|⟨rfl,S,n,hk⟩
  .obtain⟨a_,_,pl,_⟩:=I.list hq
   refine⟨pl.isList.typeIs,λa e=>?_⟩
   cases e
   obtain⟨o,n,e,c,hd,_⟩:=pl
   exact⟨o,e,hd⟩
  .refine⟨⟨o,I.kIn p o hk,hc⟩,λa e=>?_⟩
   cases e
   exact⟨o,I.kIn _ o hk,hd⟩
  .have z:∃o,s.heap.get? p=some o/\o.ExactDict:=by
    rcases hk with⟨kvs,hk⟩|⟨kvs,hk⟩
    .obtain⟨_,_,_,_,o,_,_,e,ex,_⟩:=I.hok p _ hk;exact⟨o,e,ex⟩
    .obtain⟨_,_,_,_,o,_,_,e,ex,_⟩:=I.hok p _ hk;exact⟨o,e,ex⟩
   obtain⟨o,e,ex⟩:=z
   refine⟨⟨o,e,ex.1⟩,λa e2=>?_⟩
   cases e2
   exact⟨o,e,ex.2.1⟩
  .obtain⟨o,_,_,_,e,ex,_⟩:=I.hok p _ hk
   refine⟨⟨o,e,ex.1⟩,λa e2=>?_⟩
   cases e2
   exact⟨o,e,ex.2.1⟩
 |_=>exact False.elim ty
def FF (K:Za)(T:String)(r:V->List V->Hp->VK->Prop)(to:TE):TE:=λσ H Q=>to σ H λx H1=>GL K T x H1/\r x [] H1 Q
def JW (K:Za)(T:String)(r:V->List V->Hp->VK->Prop)(to:TE)(t:TA):TE:=λσ H Q=>to σ H λx H1=>GL K T x H1/\t σ H1 λxs H2=>r x xs H2 Q
variable {o e:Expr} {es:List Expr} {to:TE} {t:TA} {name:Str} {apos d_:Pos} {T id:String} {r:V->List V->Hp->VK->Prop}
def Fz (pa:PlainAttrs T)(slot:Slot T name id)(UQ:typeOf (.builtin id)=pure (.type "method_descriptor"))(hm:Cw X id r)(ho:PE X o to)
  (g_:attributeBase o name X.env (eval o X.env)=eval o X.env:=by rfl) (h_:(apos.endLine==d_.line)=true:=by rfl):PE X (.Call (.Attribute o name apos) [] [] d_) (FF X.K T r to):=by
 intro pins s σ H Q I h
 refine Pk g_ h_ (N3 (ho pins s σ H _ I h) λv s1 ⟨x,H1,I1,r1,ty,q1⟩=>?_)
 obtain⟨h1,h2⟩:=Ad I1 r1 ty
 exact⟨T,id,pa,slot,UQ,h1,h2,NV rfl (Qn (hm pins s1 σ H1 x [] v [] Q I1 r1 .nil q1))⟩
def Im (pa:PlainAttrs T)(slot:Slot T name id)(UQ:typeOf (.builtin id)=pure (.type "method_descriptor"))(hm:Cw X id r)(ho:PE X o to)(ha:PA X (e::es) t)
  (g_:attributeBase o name X.env (eval o X.env)=eval o X.env:=by rfl)
  (ZH:((backTo d_ (starEach (e::es) X.env)).all (λx=>!x.1)&&(backToKw d_ (keywordEach [] X.env)).all (λx=>x.1.isSome)
   &&decide ((e::es).length+([]:List Keyword).length+(if([]:List Keyword).isEmpty then 0 else 1)<30))=true:=by rfl)
  (h_:(apos.endLine==d_.line)=true:=by rfl) (hs:starEach (e::es) X.env=(false,eval e X.env)::starEach es X.env:=by rfl) (VI:(backTo d_ (starEach es X.env)).any (·.1)=false:=by rfl):
  PE X (.Call (.Attribute o name apos) (e::es) [] d_) (JW X.K T r to t):=by
 intro pins s σ H Q I h
 refine wpAny_Call_method_late g_ ZH h_ rfl (N3 (ho pins s σ H _ I h) λv s1 ⟨x,H1,I1,r1,ty,q1⟩=>?_)
 obtain⟨h1,h2⟩:=Ad I1 r1 ty
 refine⟨T,id,pa,slot,UQ,h1,h2,?_⟩
 have hA:=ha d_ pins s1 σ H1 _ I1 q1
 rw[hs] at hA⊢
 refine NV (by show(false||(backTo d_ (starEach es X.env)).any (·.1))=false;rw[VI]<;>rfl) (Qj ?_)
 exact N3 hA λus s2 ⟨vs,H2,I2,r2,q2⟩=>hm pins s2 σ H2 x vs v us Q I2 r1 r2 q2
end
def Kc (X:Cx)(id:String)(r:V->List V->Hp->VK->Prop):Prop:=
 ∀(pins:List (Addr×Obj)) (s:Shared) (σ:St) (H:Hp) (x:V) (xs:List V) (v:Value) (us:List Value) (Q:VK),Inv X pins σ H s->RelV x v->Vals xs us->r x xs H Q->
  wpAny (model X.prog X.w) X.A (call (.builtin id) (v::us)) (EP X pins σ Q) X.xe s
theorem Vals.one:∀{x:V} {us:List Value},Vals [x] us->∃u,us=[u]/\RelV x u
 |_,_,.cons r .nil=>⟨_,rfl,r⟩
theorem Vals.zero:∀{us:List Value},Vals [] us->us=[]
 |_,.nil=>rfl
section
variable {X:Cx} {pins:List (Addr×Obj)} {σ:St} {H:Hp} {s:Shared} {l b:Addr} {xs ys zs:List V}
def Inv.lset {a_ its':List Value}{n:Nat}{f:Array Value->Array Value}{t':Nat}(I:Inv X pins σ H s)(hH:H l=some (.lst xs))
  (e:s.heap.get? l=some {cls:= .type "list",data:= .seq a_.toArray n}) (hf:f a_.toArray=its'.toArray) (hv:Vals ys its') (hz:ys.length<=sizeLine):
  Inv X pins σ (upd H l (.lst ys)) {s with heap:=s.heap.update l (Obj.mapSeq f),toks:=t'}:=by
 have q:=PySem.IsL.update e f
 rw[hf] at q
 refine I.write (x:=l) (e:=l) (by rw[hH];exact trivial) (.inl rfl) (λb' u hb hu=>(Heap.get?_update_other s.heap (Obj.mapSeq f) (OD hb)).trans hu) ⟨_,q⟩ ?_
 exact⟨hz,its',_,hv,q⟩
def Inv.lnew {a_:List Value}{t':Nat}(I:Inv X pins σ H s)(hv:Vals ys a_)(hz:ys.length<=sizeLine):
  Inv X pins σ (upd H s.heap.objs.size (.lst ys)) {s with heap:=s.heap.push {cls:= .type "list",data:= .seq a_.toArray},toks:=t'}:=
 I.laid (λ_ _ q=>Ly _ q) (Lp _) ⟨hz,a_,0,hv,LY _ rfl⟩
def Inv.fresh (I:Inv X pins σ H s):H s.heap.objs.size=none:=I.hok.fresh (Lp _)
def Inv.lstM (I:Inv X pins σ H s)(hH:H l=some (.lst xs)):xs.length<=sizeLine/\∃(a_:List Value) (n:Nat),Vals xs a_/\xs.length=a_.length/\s.heap.get? l=some {cls:= .type "list",data:= .seq a_.toArray n}:=by
 obtain⟨z,a_,n,r,e⟩:=I.hok l _ hH;exact⟨z,a_,n,r,r.length,e⟩
def zc {n:Nat}(h:n<=sizeLine):Builtin.List.listTooLong n=false:=by
 unfold Builtin.List.listTooLong;exact LL (by lia)
end
section
variable {X:Cx}
def vw:V->List V->Hp->VK->Prop:=λx vs H Q=>∃l xs y,x= .ref l/\vs=[y]/\H l=some (.lst xs)/\xs.length<sizeLine/\Q .non (upd H l (.lst (xs++[y])))
def xR:Kc X "list.append" vw:=by
 intro pins s σ H x vs v us Q I rx rv h;obtain⟨l,xs,y,rfl,rfl,hH,hz,q⟩:=h;cases rx;obtain⟨u,rfl,ru⟩:=rv.one;obtain⟨z,a_,n,r,hl,e⟩:=I.lstM hH;refine Te F.slot_list_append ⟨_,e,rfl⟩ F.entry_list_append (F.args_list_append_2 _ _) (PySem.list_append l a_.toArray n u (by rw[LR];lia)) ⟨e,?_⟩;refine⟨.non,_,I.lset (its':=a_++[u]) hH e (by simp) (r.append (.cons ru .nil)) ?_,rfl,q⟩;rw[LB,Mu];lia
def vU:V->List V->Hp->VK->Prop:=λx vs H Q=>∃l b xs zs,x= .ref l/\vs=[.ref b]/\H l=some (.lst xs)/\H b=some (.lst zs)/\xs.length+zs.length<=sizeLine/\Q .non (upd H l (.lst (xs++zs)))
def xD:Kc X "list.extend" vU:=by
 intro pins s σ H x vs v us Q I rx rv h;obtain⟨l,b,xs,zs,rfl,rfl,hH,hB,hz,q⟩:=h;cases rx;obtain⟨u,rfl,ru⟩:=rv.one;cases ru;obtain⟨z,a_,n,r,hl,e⟩:=I.lstM hH;obtain⟨z2,O_,n2,r2,VJ,e2⟩:=I.lstM hB;have hsz:a_.toArray.size+O_.toArray.size<=sizeLine:=by rw[LR,LR];lia
 have Xh:¬(!a_.toArray.isEmpty&&Builtin.List.listTooLong (a_.toArray.size+O_.toArray.size))=true:=by
  rw[zc hsz,Bool.and_false];exact Mn
 refine Te F.slot_list_extend ⟨_,e,rfl⟩ F.entry_list_extend (F.args_list_extend_2 _ _)
  (AutoSeq1.list_extend_list_list_0 l a_.toArray n b O_.toArray n2 Xh (by rw[LR];lia) (by lia)) ⟨e,e2,?_⟩
 refine⟨.non,_,I.lset (its':=a_++O_) hH e (by simp) (r.append r2) ?_,rfl,q⟩;rw[LB];lia
def HS:R2:=λx y H Q=>∃l b xs zs,x= .ref l/\y= .ref b/\H l=some (.lst xs)/\H b=some (.lst zs)/\xs.length+zs.length<=sizeLine/\∀p,H p=none->Q (.ref p) (upd H p (.lst (xs++zs)))
def op_cat:OpR X (binaryOp .Add) HS:=by
 intro pins s σ H x y v u Q I rx ry h;obtain⟨l,b,xs,zs,rfl,rfl,hH,hB,hz,q⟩:=h;cases rx;cases ry;obtain⟨z,a_,n,r,hl,e⟩:=I.lstM hH;obtain⟨z2,O_,n2,r2,VJ,e2⟩:=I.lstM hB;refine PySem.P.add_list e e2 ?_ (by rw[LR,LR];lia);have ea:a_.toArray++O_.toArray=(a_++O_).toArray:=by simp
 rw[ea];exact⟨.ref _,_,I.lnew (t':=s.toks) (r.append r2) (by rw[LB];lia),rfl,q _ I.fresh⟩
end
section
variable {prog:Program} {w:World} {A:Around} {E:Value->Shared->Prop} {s:Shared}
end
section
variable {X:Cx}
end
section
variable {κ:Type} [DecidableEq κ]
def A5 (kvs:List (κ×V))(k:κ):Option V:=(kvs.find? λkv=>decide (kv.1=k)).map (·.2)
def G3 (kvs:List (κ×V))(k:κ)(v:V):List (κ×V):=
 if(kvs.any λkv=>decide (kv.1=k))=true then kvs.map (λkv=>if kv.1=k then(kv.1,v) else kv) else kvs++[(k,v)]
def bp {p:κ×V}{r:List (κ×V)}{k:κ}(e:p.1=k):A5 (p::r) k=some p.2:=by simp [A5,OL,e]
def aY {p:κ×V}{r:List (κ×V)}{k:κ}(e:¬p.1=k):A5 (p::r) k=A5 r k:=by simp [A5,OL,e]
theorem dh (k:κ):∀kvs:List (κ×V),(kvs.any λkv=>decide (kv.1=k))=(A5 kvs k).isSome
 |[]=>rfl
 |p::r=>by
  rw[SH];by_cases e:p.1=k
  .simp only[bp e,LN e,Bool.true_or,Option.isSome_some]
  .rw[aY e,LL e,Bool.false_or];exact dh k r
def aD (kvs:List (κ×V))(k:κ)(v:V):(G3 kvs k v).length<=kvs.length+1:=by
 unfold G3;split
 .rw[Ll];lia
 .rw[LB,Mv,Pl];lia
def P8 {kvs:List (κ×V)}{k:κ}(v:V)(h:A5 kvs k=none):G3 kvs k v=kvs++[(k,v)]:=by
 unfold G3;rw[dh,h];exact if_neg (by decide)
def RelO.isSome_eq {o:Option V}{u:Option Value}(r:RelO o u):o.isSome=u.isSome:=by
 cases o with
 |none=>cases u with
  |none=>rfl
  |some _=>exact(show False from r).elim
 |some _=>cases u with
  |none=>exact(show False from r).elim
  |some _=>rfl
def RelO.getD {o:Option V}{u:Option Value}{d:V}{d':Value}(r:RelO o u)(rd:RelV d d'):RelV (o.getD d) (u.getD d'):=by
 cases o with
 |none=>cases u with
  |none=>exact rd
  |some _=>exact(show False from r).elim
 |some _=>cases u with
  |none=>exact(show False from r).elim
  |some _=>exact r
def KV.val {kvs:List (κ×V)}{vs:List (κ×Value)}(r:KV kvs vs)(k:κ):RelO (A5 kvs k) (valueAt vs k):=by
 unfold KV at r;induction r with
 |nil=>exact True.intro
 | @cons p q ps qs h t ih=>
  obtain⟨h1,h2⟩:=h
  by_cases e:p.1=k
  .have e':q.1=k:=h1.symm.trans e
   have b:valueAt (q::qs) k=some q.2:=by simp [valueAt,OL,e']
   rw[bp e,b];exact h2
  .have e':¬q.1=k:=λz=>e (h1.trans z)
   have b:valueAt (q::qs) k=valueAt qs k:=by simp [valueAt,OL,e']
   rw[aY e,b];exact ih
def KV.any {kvs:List (κ×V)}{vs:List (κ×Value)}(r:KV kvs vs)(k:κ):(kvs.any λkv=>decide (kv.1=k))=vs.any λkv=>decide (kv.1=k):=by induction r with grind
def KV.repl {kvs:List (κ×V)}{vs:List (κ×Value)}(r:KV kvs vs)(k:κ){y:V}{u:Value}(ry:RelV y u):
  KV (kvs.map λkv=>if kv.1=k then(kv.1,y) else kv) (vs.map λkv=>if kv.1=k then(kv.1,u) else kv):=by
 unfold KV at r⊢
 induction r with
 |nil=>exact .nil
 | @cons p q ps qs h t ih=>
  rw[Ms,Ms]
  refine .cons ?_ ih
  obtain⟨h1,h2⟩:=h
  by_cases e:p.1=k
  .rw[if_pos e,if_pos (h1.symm.trans e)];exact⟨h1,ry⟩
  .rw[if_neg e,if_neg (λz=>e (h1.trans z))];exact⟨h1,h2⟩
def KV.put {kvs:List (κ×V)}{vs:List (κ×Value)}(r:KV kvs vs)(k:κ){y:V}{u:Value}(ry:RelV y u):KV (G3 kvs k y) (stored vs k u):=by
 unfold G3 stored;rw[r.any k];by_cases e:(vs.any λkv=>decide (kv.1=k))=true
 .rw[if_pos e,if_pos e];exact r.repl k ry
 .rw[if_neg e,if_neg e];exact Paired.snoc r ⟨rfl,ry⟩
def KV.keys {kvs:List (κ×V)}{vs:List (κ×Value)}(r:KV kvs vs):kvs.map (·.1)=vs.map (·.1):=by induction r with grind
def KV.length {kvs:List (κ×V)}{vs:List (κ×Value)}(r:KV kvs vs):kvs.length=vs.length:=Mc r
end
def kx {P:Program}{w:World}{k:i6}{u:Value}(r:RelV (kV k) u):(q8 P w).is k u=true:=by
 cases k with
 |inl i=>obtain⟨t,e⟩:=(show ∃t,u=Value.int i t from r);subst e;exact sL P w i t
 |inr x=>obtain⟨t,e⟩:=(show ∃t,u=Value.str x t from r);subst e;exact rH P w x t
theorem oM {P:Program}{w:World}:∀{ks:List i6} {us:List Value},Vals (ks.map kV) us->ItemsAre (q8 P w) ks us
 |[],_,r=>by rw[QJ] at r;cases r;exact .nil
 |k::ks,_,r=>by
  rw[Ms] at r;cases r with
  |cons h t=>exact .cons (kx h) (oM t)
abbrev KT (H:Hp):List (List i6×V)->List (List i6×Addr×Value)->Prop:=Paired λp q=>p.1=q.1/\H q.2.1=some (.tup (p.1.map kV))/\RelV p.2 q.2.2
def KT.val {H:Hp}{kvs:List (List i6×V)}{xs:List (List i6×Addr×Value)}(r:KT H kvs xs)(k:List i6):RelO (A5 kvs k) ((atKey xs k).map (·.2)):=by
 induction r with
 |nil=>exact True.intro
 | @cons p q ps qs h t ih=>
  obtain⟨h1,_,h2⟩:=h
  by_cases e:p.1=k
  .have e':q.1=k:=h1.symm.trans e
   have b:atKey (q::qs) k=some q.2:=by simp [atKey,OL,e']
   rw[bp e,b];exact h2
  .have e':¬q.1=k:=λz=>e (h1.trans z)
   have b:atKey (q::qs) k=atKey qs k:=by simp [atKey,OL,e']
   rw[aY e,b];exact ih
def KT.repl {H:Hp}{kvs:List (List i6×V)}{xs:List (List i6×Addr×Value)}(r:KT H kvs xs)(k:List i6){y:V}{u:Value}(ry:RelV y u):
  KT H (kvs.map λkv=>if kv.1=k then(kv.1,y) else kv) (xs.map (putAt k u)):=by
 induction r with
 |nil=>exact .nil
 | @cons p q ps qs h t ih=>
  rw[Ms,Ms]
  refine .cons ?_ ih
  obtain⟨h1,h2,h3⟩:=h
  unfold putAt
  by_cases e:p.1=k
  .rw[if_pos e,if_pos (h1.symm.trans e)];exact⟨h1,h2,ry⟩
  .rw[if_neg e,if_neg (λz=>e (h1.trans z))];exact⟨h1,h2,h3⟩
def KT.put {H:Hp}{kvs:List (List i6×V)}{xs:List (List i6×Addr×Value)}(r:KT H kvs xs)(k:List i6){b:Addr}{y:V}{u:Value}(hb:H b=some (.tup (k.map kV)))(ry:RelV y u):
  KT H (G3 kvs k y) (storedH xs k b u):=by
 have e:(kvs.any λkv=>decide (kv.1=k))=(atKey xs k).isSome:=by
  rw[dh,(r.val k).isSome_eq,QQ]
 unfold G3 storedH
 rw[e]
 by_cases q:(atKey xs k).isSome=true
 .rw[if_pos q,if_pos q];exact r.repl k ry
 .rw[if_neg q,if_neg q];exact Paired.snoc r ⟨rfl,hb,ry⟩
def KT.keeps {H H':Hp}{kvs:List (List i6×V)}{xs:List (List i6×Addr×Value)}(r:KT H kvs xs)(ht:∀b ys,H b=some (.tup ys)->H' b=some (.tup ys)):KT H' kvs xs:=
 Paired.mapP r λ_ _ z=>⟨z.1,ht _ _ z.2.1,z.2.2⟩
section
variable {P:Program} {w:World} {H:Hp} {h:Heap} {a:Addr}
def DL {u:HO}(ok:HOk P w H h)(e:Rd H a u):ObjOk P w H h a u:=e.ok ok
def W0 {kvs:List (i6×V)}(ok:HOk P w H h)(e:Rd H a (.dK kvs)):kvs.length<=sizeLine/\(a==sysModules)=false/\∃vs,KV kvs vs/\h.DictOf (q8 P w) a vs:=
 show ObjOk P w H h a (.dK kvs) from DL ok e
def Af {kvs:List (i6×V)}(ok:HOk P w H h)(e:H a=some (.dK kvs)):kvs.length<=sizeLine/\(a==sysModules)=false/\∃vs,KV kvs vs/\h.DictOf (q8 P w) a vs:=W0 ok (.inl e)
def iA {ks:List i6}(ok:HOk P w H h)(e:H a=some (.tup (ks.map kV))):(tupleKind (q8 P w)).is h ks a:=by
 obtain⟨_,a_,r,o,h1,h2,n,h3⟩:=(show ObjOk P w H h a (.tup (ks.map kV)) from ok a _ e)
 exact⟨o,a_.toArray,n,h1,h2,h3,by simpa using oM r⟩
def lQ {kvs:List (List i6×V)}(ok:HOk P w H h)(e:Rd H a (.dT kvs)):kvs.length<=sizeLine/\(a==sysModules)=false/\
  ∃xs,KT H kvs xs/\h.DictOfH (tupleKind (q8 P w)) a xs:=by
 obtain⟨z,y,xs,r,o,es,ep,h1,h2,h3,h4,h5⟩:=(show ObjOk P w H h a (.dT kvs) from DL ok e)
 refine⟨z,y,xs,r,o,es,ep,h1,h2,h3,h4,λx hx=>?_,h5⟩
 have all:∀{l:List (List i6×V)} {m:List (List i6×Addr×Value)},KT H l m->∀x∈m,(tupleKind (q8 P w)).is h x.1 x.2.1:=by
  intro l m q;induction q with
  |nil=>intro x hx;exact nomatch hx
  | @cons p q ps qs hq t ih=>
   intro x hx
   rcases Mi.mp hx with e|hx
   .subst e
    exact iA ok (by rw[←hq.1];exact hq.2.1)
   .exact ih x hx
 exact all r x hx
def Ha {kvs:List (List i6×V)}(ok:HOk P w H h)(e:H a=some (.dT kvs)):kvs.length<=sizeLine/\(a==sysModules)=false/\
  ∃xs,KT H kvs xs/\h.DictOfH (tupleKind (q8 P w)) a xs:=lQ ok (.inl e)
end
def di (H:Hp)(a:Addr)(y:V)(r:Option V):Prop:=
 (∃kvs k,Rd H a (.dK kvs)/\y=kV k/\r=A5 kvs k)\/∃kvs k b,Rd H a (.dT kvs)/\y= .ref b/\H b=some (.tup (k.map kV))/\r=A5 kvs k
def DPut (H:Hp)(a:Addr)(y v:V)(H':Hp):Prop:=
 (∃kvs k,H a=some (.dK kvs)/\y=kV k/\kvs.length<sizeLine/\H'=upd H a (.dK (G3 kvs k v)))\/
 ∃kvs k b,H a=some (.dT kvs)/\y= .ref b/\H b=some (.tup (k.map kV))/\kvs.length<sizeLine/\H'=upd H a (.dT (G3 kvs k v))
def DPut.k {H:Hp}{a:Addr}{kvs:List (i6×V)}{k:i6}{v:V}(e:H a=some (.dK kvs))(hl:kvs.length<sizeLine):DPut H a (kV k) v (upd H a (.dK (G3 kvs k v))):= .inl ⟨kvs,k,e,rfl,hl,rfl⟩
section
variable {X:Cx} {pins:List (Addr×Obj)} {σ:St} {H:Hp} {s:Shared} {a:Addr} {y v:V} {u r:Value} {o:Option V} {A:Around} {E:Value->Shared->Prop}
def Inv.big (I:Inv X pins σ H s):sysModules<s.heap.objs.size:=by
 have h:mainGlobals<s.heap.objs.size:=(I.mod.glob.keeps I.bk).lt;exact TF (by decide) h
def xT {Q:Value->Shared->Prop}(hu:A.units+1<cLine)(I:Inv X pins σ H s)(g:di H a y (some v))(ry:RelV y u)(h:∀w' s',Inv X pins σ H s'->RelV v w'->Q w' s'):
  wpAny (model X.prog X.w) A (getItem (.ref a) u) Q E s:=by
 rcases g with⟨kvs,k,e,ey,l⟩|⟨kvs,k,b,e,ey,eb,l⟩
 .subst ey
  obtain⟨z,hd,vs,rel,dd⟩:=W0 I.hok e
  obtain⟨w',hw,UP⟩:=RelO.some_of (v:=v) (o:=valueAt vs k) (by rw[l];exact rel.val k)
  exact wpAny_getItem_of (kx ry) dd.mapOf hw (h w' _ (I.tok _) UP)
 .subst ey
  cases (show u=Value.ref b from ry)
  obtain⟨z,hd,xs,rel,dd⟩:=lQ I.hok e
  obtain⟨w',hw,UP⟩:=RelO.some_of (v:=v) (o:=(atKey xs k).map (·.2)) (by rw[l];exact rel.val k)
  obtain⟨p,hp,ZI⟩:=My.mp hw
  refine wpAny_getItem_heap (OH hu) (iA I.hok eb) dd hp ?_
  rw[ZI]
  exact h w' _ (I.tok _) UP
def JS {Q:Value->Shared->Prop}(hu:A.units+1<cLine)(I:Inv X pins σ H s)(g:di H a y o)(ry:RelV y u)(h:∀s',Inv X pins σ H s'->Q (.bool o.isSome) s'):
  wpAny (model X.prog X.w) A (compareOp .In u (.ref a)) Q E s:=by
 rcases g with⟨kvs,k,e,ey,l⟩|⟨kvs,k,b,e,ey,eb,l⟩
 .subst ey
  obtain⟨z,hd,vs,rel,dd⟩:=W0 I.hok e
  refine wpAny_in_of (kx ry) hd dd.mapOf ?_
  rw[←(rel.val k).isSome_eq,←l]
  exact h _ (I.tok _)
 .subst ey
  cases (show u=Value.ref b from ry)
  obtain⟨z,hd,xs,rel,dd⟩:=lQ I.hok e
  refine wpAny_in_heap (OH hu) (iA I.hok eb) hd dd ?_
  have q:=(rel.val k).isSome_eq
  rw[QQ] at q
  rw[←q,←l]
  exact h _ (I.tok _)
def CU {Q:Value->Shared->Prop}(hu:A.units+1<cLine)(I:Inv X pins σ H s)(g:di H a y o)(ry:RelV y u)(h:∀s',Inv X pins σ H s'->Q (.bool (!o.isSome)) s'):
  wpAny (model X.prog X.w) A (compareOp .NotIn u (.ref a)) Q E s:=by
 rcases g with⟨kvs,k,e,ey,l⟩|⟨kvs,k,b,e,ey,eb,l⟩
 .subst ey
  obtain⟨z,hd,vs,rel,dd⟩:=W0 I.hok e
  refine wpAny_notIn_of (kx ry) hd dd.mapOf ?_
  rw[←(rel.val k).isSome_eq,←l]
  exact h _ (I.tok _)
 .subst ey
  cases (show u=Value.ref b from ry)
  obtain⟨z,hd,xs,rel,dd⟩:=lQ I.hok e
  refine wpAny_notIn_heap (OH hu) (iA I.hok eb) hd dd ?_
  have q:=(rel.val k).isSome_eq
  rw[QQ] at q
  rw[←q,←l]
  exact h _ (I.tok _)
def jM {h':Heap}{t':Nat}{ob:HO}(I:Inv X pins σ H s)(mu:Hr (H a))(hs:Heap.SameBut a s.heap h')(he:∃q,h'.get? a=some q)(new:ObjOk X.prog X.w (upd H a ob) h' a ob):
  Inv X pins σ (upd H a ob) {s with heap:=h',toks:=t'}:=
 I.write (x:=a) (e:=a) mu (.inl rfl) (λb q hb z=>(hs.2 b hb).trans z) he new
def qh {P:Program}{w:World}{H':Hp}{h':Heap}{kvs:List (i6×V)}{vs:List (i6×Value)}(z:kvs.length<=sizeLine)(hd:(a==sysModules)=false)(rel:KV kvs vs)(dd:h'.DictOf (q8 P w) a vs):
  ObjOk P w H' h' a (.dK kvs):=⟨z,hd,vs,rel,dd⟩
def wG {H':Hp}{Q:Unit->Shared->Prop}(hu:A.units+1<cLine)(I:Inv X pins σ H s)(g:DPut H a y v H')(ry:RelV y u)(rv:RelV v r)(h:∀s',Inv X pins σ H' s'->Q () s'):
  wpAny (model X.prog X.w) A (setItem (.ref a) u r) Q E s:=by
 rcases g with⟨kvs,k,e,ey,l,eH⟩|⟨kvs,k,b,e,ey,eb,l,eH⟩
 .subst ey eH
  obtain⟨z,hd,vs,rel,dd⟩:=Af I.hok e
  have hz:vs.length<=sizeLine:=by rw[←rel.length];exact z
  have hl:(G3 kvs k v).length<=sizeLine:=by have:=aD kvs k v;lia
  refine wpAny_setItem_pairs (hsz:=hz) (kx ry) dd λh' dd' hs=>h _ ?_
  have he:∃q,h'.get? a=some q:=let ⟨q,_,_,hq,_⟩:=dd';⟨q,hq⟩
  exact jM I (by rw[e];exact True.intro) hs he (qh hl hd (rel.put k rv) dd')
 .subst ey eH
  cases (show u=Value.ref b from ry)
  obtain⟨z,hd,xs,rel,dd⟩:=Ha I.hok e
  have hz:xs.length<=sizeLine:=by rw[←Mc rel];exact z
  have hl:(G3 kvs k v).length<=sizeLine:=by have:=aD kvs k v;lia
  refine wpAny_setItem_heap (hsz:=hz) (OH hu) (iA I.hok eb) dd λh' dd' hs=>h _ ?_
  obtain⟨q,es,ep,hq,h2,h3,h4,_,h5⟩:=dd'
  refine jM I (by rw[e];exact True.intro) hs ⟨q,hq⟩ ⟨hl,hd,_,(rel.put k eb rv).keeps λc ys ec=>?_,q,es,ep,hq,h2,h3,h4,h5⟩
  rw[d9 (Ii ec e (λz=>nomatch z))]
  exact ec
end
section
variable {X:Cx} {pins:List (Addr×Obj)} {σ:St} {H:Hp} {s:Shared} {a:Addr} {kvs:List (i6×V)} {k:i6} {u:Value} {A:Around} {E:Value->Shared->Prop}
def Hm {Q:Value->Shared->Prop}(I:Inv X pins σ H s)(e:Rd H a (.dK kvs))(h:∀t s',Inv X pins σ H s'->Q (.int kvs.length t) s'):wpAny (model X.prog X.w) A (call (.builtin "len") [.ref a]) Q E s:=by
 obtain⟨z,hd,vs,rel,dd⟩:=W0 I.hok e;refine call_len_dict hd dd (by rw[←rel.length];rw[Sk] at z;lia) ?_;rw[←rel.length];exact h _ _ (I.tok _)
end
def rT {X:Cx}{pins:List (Addr×Obj)}{σ:St}{H:Hp}{s:Shared}{a:Addr}{y:V}{o:Option V}(I:Inv X pins σ H s)(g:di H a y o):s.TypeIs (.ref a) "dict":=by
 rcases g with⟨kvs,k,e,_,_⟩|⟨kvs,k,b,e,_,_,_⟩
 .obtain⟨_,_,vs,_,dd⟩:=W0 I.hok e;exact dd.typeIs
 .obtain⟨_,_,xs,_,dd⟩:=lQ I.hok e;exact dd.typeIs
section
variable {X:Cx} {o i e value:Expr} {pos pos' x_:Pos} {td ty tv:TE}
end
def Bv {P:Program}{w:World}{H:Hp}(h:Heap)(hb:sysModules<h.objs.size):ObjOk P w H (h.push {cls:= .type "dict",data:= .dict #[]}) h.objs.size (.dK []):=
 ⟨Ov _,Qp.mpr (OD (Ma hb)),[],.nil,Heap.DictOf.new h⟩
def yg:TE:=λ_ H Q=>∀p,H p=none->Q (.ref p) (upd H p (.dK []))
section
variable {X:Cx} {pos:Pos}
def zm:PE X (.Dict [] [] pos) yg:=λpins s σ H Q I h=>
 wpAny_Dict_empty ⟨.ref s.heap.objs.size,_,I.laid (a:=s.heap.objs.size) (o:= .dK []) (t':=s.toks) (λ_ _ q=>Ly _ q) (Lp _) (Bv s.heap I.big),rfl,h _ (I.hok.fresh (Lp _))⟩
end
def yk:List (TE×TE)->St->Hp->(List (V×V)->Hp->Prop)->Prop
 |[],_,H,Q=>Q [] H
 |(tk,tv)::r,σ,H,Q=>tk σ H λx H1=>tv σ H1 λy H2=>yk r σ H2 λps H3=>Q ((x,y)::ps) H3
abbrev VV:List (V×V)->List (Value×Value)->Prop:=Paired λp q=>RelV p.1 q.1/\RelV p.2 q.2
def Kz (X:Cx)(pos:Pos)(keys:List (Option Expr))(values:List Expr)(ZJ:List (TE×TE)):Prop:=
 ∀(pins:List (Addr×Obj)) (s:Shared) (σ:St) (H:Hp) (Q:List (V×V)->Hp->Prop),Inv X pins σ H s->yk ZJ σ H Q->
  wpAny (model X.prog X.w) X.A (evalPairs (pairTrees keys values X.env pos)) (λvs s'=>∃ps H',Inv X pins σ H' s'/\VV ps vs/\Q ps H') X.xe s
structure M1 (X:Cx) (o:Expr) (m:Str) (apos:Pos) (e:Expr) (d_:Pos):Prop where
 base:attributeBase o m X.env (eval o X.env)=eval o X.env
 few:((backTo d_ (starEach [e] X.env)).all (λx=>!x.1)&&(backToKw d_ (keywordEach [] X.env)).all (λx=>x.1.isSome)
  &&decide (([e]:List Expr).length+([]:List Keyword).length+(if([]:List Keyword).isEmpty then 0 else 1)<30))=true
 line:(apos.endLine==d_.line)=true
 trees:backTo d_ (starEach [e] X.env)=[(false,eval e X.env)]
structure M2 (X:Cx) (o:Expr) (m:Str) (apos:Pos) (e f:Expr) (d_:Pos):Prop where
 base:attributeBase o m X.env (eval o X.env)=eval o X.env
 few:((backTo d_ (starEach [e,f] X.env)).all (λx=>!x.1)&&(backToKw d_ (keywordEach [] X.env)).all (λx=>x.1.isSome)
  &&decide (([e,f]:List Expr).length+([]:List Keyword).length+(if([]:List Keyword).isEmpty then 0 else 1)<30))=true
 line:(apos.endLine==d_.line)=true
 trees:backTo d_ (starEach [e,f] X.env)=[(false,eval e X.env),(false,eval f X.env)]
def JK (H:Hp)(a:Addr):Prop:=(∃kvs,Rd H a (.dK kvs))\/∃kvs,Rd H a (.dT kvs)
def DY {X:Cx}{pins:List (Addr×Obj)}{σ:St}{H:Hp}{s:Shared}{a:Addr}(I:Inv X pins σ H s)(d:JK H a):
  s.TypeIs (.ref a) "dict"/\(∀b,Value.ref a= .ref b->∃ob,s.heap.get? b=some ob/\ob.dict=none)/\(a==sysModules)=false:=by
 rcases d with⟨kvs,e⟩|⟨kvs,e⟩
 .obtain⟨_,hd,vs,_,dd⟩:=W0 I.hok e
  refine⟨dd.typeIs,λb q=>?_,hd⟩
  cases q
  obtain⟨ob,_,_,h1,h2,_⟩:=dd
  exact⟨ob,h1,h2.2.1⟩
 .obtain⟨_,hd,xs,_,dd⟩:=lQ I.hok e
  refine⟨dd.typeIs,λb q=>?_,hd⟩
  cases q
  obtain⟨ob,_,_,h1,h2,_⟩:=dd
  exact⟨ob,h1,h2.2.1⟩
section
variable {X:Cx} {pins:List (Addr×Obj)} {σ:St} {H:Hp} {s:Shared} {a:Addr} {y d:V} {u r:Value} {o:Option V} {A:Around} {E:Value->Shared->Prop}
def FH {Q:Value->Shared->Prop}(hu:A.units+1<cLine)(I:Inv X pins σ H s)(g:di H a y o)(ry:RelV y u)(h:∀w' s',Inv X pins σ H s'->RelV (o.getD .non) w'->Q w' s'):
  wpAny (model X.prog X.w) A (call (.builtin "dict.get") [.ref a,u]) Q E s:=by
 rcases g with⟨kvs,k,e,ey,l⟩|⟨kvs,k,b,e,ey,eb,l⟩
 .subst ey
  obtain⟨z,hd,vs,rel,dd⟩:=W0 I.hok e
  refine NO Qc dd.typeIs Ry (Rh _ _) (meets_dict_get (q8 X.prog X.w) a (kx ry) hd) ⟨_,dd.mapOf,h _ _ (I.tok _) ?_⟩
  rw[l]
  exact(rel.val k).getD rfl
 .subst ey
  cases (show u=Value.ref b from ry)
  obtain⟨z,hd,xs,rel,dd⟩:=lQ I.hok e
  refine NO Qc dd.typeIs Ry (Rh _ _) (meetsH_dict_get (tupleKind (q8 X.prog X.w)) a b hd) ⟨OH hu,k,xs,iA I.hok eb,dd,h _ _ (I.tok _) ?_⟩
  rw[l]
  exact(rel.val k).getD rfl
end
def vh (td ty:TE):TE:=λσ H Q=>td σ H λx H1=>∃a,x= .ref a/\JK H1 a/\ty σ H1 λy H2=>∃o,di H2 a y o/\Q (o.getD .non) H2
section
variable {X:Cx} {o e f:Expr} {apos d_:Pos} {td ty tx:TE}
def zh (hu:X.A.units+1<cLine)(ho:PE X o td)(he:PE X e ty)(m:M1 X o "get" apos e d_):PE X (.Call (.Attribute o "get" apos) [e] [] d_) (vh td ty):=by
 intro pins s σ H Q I h;refine wpAny_Call_method m.base m.few m.line MX Qc PySem.F.type_dict_get (N3 (ho pins s σ H _ I h) λu s1 ⟨x,H1,I1,rx,a,ex,d,q1⟩=>?_);subst ex;obtain rfl:u=Value.ref a:=rx;obtain⟨t1,t2,_⟩:=DY I1 d;refine⟨t1,t2,?_⟩;rw[m.trees];refine NV rfl (Qj (Calls.spliced_cons (N3 (he pins s1 σ H1 _ I1 q1) λiv s2 ⟨y,H2,I2,ry,ov,g,q2⟩=>Calls.spliced_nil ?_)));exact FH hu I2 g ry λw' s3 I3 UP=>⟨_,H2,I3,UP,q2⟩
end
section
variable {X:Cx} {pins:List (Addr×Obj)} {σ:St} {H:Hp} {s:Shared} {a:Addr} {kvs:List (i6×V)} {A:Around} {E:Value->Shared->Prop}
def yF {Q:Value->Shared->Prop}(I:Inv X pins σ H s)(e:Rd H a (.dK kvs))(h:∀p s',H p=none->Inv X pins σ (upd H p (.dK kvs)) s'->Q (.ref p) s'):wpAny (model X.prog X.w) A (call (.type "dict") [.ref a]) Q E s:=by
 obtain⟨z,hd,vs,rel,dd⟩:=W0 I.hok e;refine kt_call_dict hd dd (by rw[←rel.length];exact z) λh' dd' hs=>?_;refine h _ _ (I.hok.fresh (Lp _)) (I.laid (a:=s.heap.objs.size) (o:= .dK kvs) (t':=s.toks) (λb q hq=>?_) (Lp _) (qh z (Qp.mpr (OD (Ma I.big))) rel dd'));exact(hs.2 b (Ma (LI hq))).trans (Ly _ hq)
end
section
variable {X:Cx} {pins:List (Addr×Obj)} {σ:St} {H:Hp} {s:Shared} {a:Addr} {y:V} {u:Value} {A:Around} {E:Value->Shared->Prop}
end
end L2
namespace Att
open PySem PySem.W PySem.Calls PyProof.Rows
def jy {P:Params}{h:Heap}:∀(ns:List Int) (vs:List Value),WellAll P h vs (ns.map WData.int)->IntsAre vs ns:=by
 intro ns;induction ns with
 |nil=>
  intro vs w
  rw[QJ] at w
  cases w
  exact .nil
 |cons n ns ih=>
  intro vs w
  rw[Ms] at w
  cases w with
  |cons a b=>
   cases a
   exact .cons _ _ (ih _ b)
def xY {l:OpenLaw}{n:Nat}(hn:l.most=some n){P:Params}{h:Heap}{args:List WData}{vals:List Value}
  (UR:l.row.toRowW.claim.pre args=true) (WA:WellAll P h vals args):
  ∃a vs ns,vals=[Value.ref a]/\args=[WData.list (ns.map WData.int)]/\h.get? a=some {cls:= .type "list",data:= .seq vs.toArray}/\IntsAre vs ns/\ns.length<=n:=by
 have ZK:WShape.hasAll [] args [.list .int]=true:=(pre_splitW UR).1
 have hc:l.pre.holds [] {args:=args}=true:=(pre_splitW UR).2
 obtain⟨d,r,rfl,h1,h2⟩:=hasAllW_cons ZK
 obtain rfl:=hasAllW_nil h2
 obtain⟨xs,rfl,h3⟩:=hasW_list h1
 obtain⟨ns,rfl⟩:=items_int h3
 have hlen:ns.length<=n:=by
  unfold OpenLaw.pre at hc;have h4:(WTm.not (.lt (.lit (.int (n:Int))) (.len (.arg 0)))).holds [] {args:=[.list (ns.map .int)]}=true:=by
   have h4:=(holds_andW hc).1;rw[hn] at h4;exact h4
  have h5:=condW_of h4 (w_not (w_lt w_lit (w_len_list (w_arg rfl))));rw[Ll] at h5;refine Nat.le_of_not_lt λq=>?_;have q':(n:Int)<((ns.length:Nat):Int):=by lia
  first
   |(rw[LN q'] at h5;exact absurd h5 (by decide))
   |(simp at h5;lia)
 cases WA with
 |cons w1 w2=>
  cases w2
  cases w1 with
  |list ho RV=>exact⟨_,_,ns,rfl,rfl,ho,jy ns _ RV,hlen⟩
def wI (l:OpenLaw)(args:List WData):l.row.toRowW.claim.post args (.bool true) args=true:=
 postW_of (r:=l.row.toRowW) (X:=(true==true))
  (show WShape.has [] (.bool true) .bool=true by first|rfl|decide|simp [WShape.has,WShape.arms,WShape.armsAll])
  (show(WTm.eq .res (.lit (.bool true))).value [] {args:=args,res:=some (.bool true),after:=args}=some (.bool (true==true)) from w_eq_bool (w_res rfl) w_lit) rfl
def attach_call {l:OpenLaw}{n:Nat}{q:Program}{loose:List Str}{XP:(Str->Option Value)->Heap->Prop}{YP:World->Heap->Prop}{d:DefRec}
  (hn:l.most=some n) (Xi:d.params.defaults=[])
  (call:∀(w:World) (s₀ s₁:Shared) (mg mb:Str->Option Value) (fa:Addr) (o:Obj) (pm cd doc:Value) (a:Addr) (vs:List Value) (ns:List Int),
   Ground q loose [] XP w s₀ mg mb s₁.heap->YP w s₁.heap->
   s₁.heap.get? fa=some o->o.data= .func (docDef d.name d.params d.body d.scope pm cd doc)->s₁.heap.CodeRec cd d.name->mg d.name=some (.ref fa)->
   s₁.heap.get? a=some {cls:= .type "list",data:= .seq vs.toArray}->IntsAre vs ns->ns.length<=n->s₁.gens= #[]->
   codeAny (model l.prog w) callerA (.call (.ref fa) ⟨[.ref a],[]⟩) (λr s'=>r= .ok (.ret (.bool true))/\OldK s₁.heap s'.heap/\s'.os=s₁.os/\AllBare s'.gens) s₁):
  WalkO q loose XP YP l.row.toRowW d [] (λf vs=>PySem.call f vs):=by
 intro w s₀ s₁ mg mb G Y fa o pm cd doc dV kV ho hd SN hD hmg hg args vals as UR hlay hrd WA Xj
 obtain rfl:dV= .none:=Dflts.none hD Xi
 obtain rfl:kV= .none:=Dflts.noKw hD
 obtain⟨a,vs,ns,rfl,rfl,VL,hints,hlen⟩:=xY hn UR WA
 refine enter_call (PZ (call w s₀ s₁ mg mb fa o pm cd doc a vs ns G Y ho (fd_plain hd) SN hmg VL hints hlen hg) λr s' hq=>?_)
 obtain⟨rfl,h2,h3,h4⟩:=hq
 exact⟨.inl ⟨.bool true,.bool true,[],rfl,λ_=>rfl,.bool true,wI l _,λ_=>⟨List.Pairwise.nil,λ_ hm=>(nomatch hm)⟩⟩,h2,h3,h4⟩
section
variable {prog:Program} {w:World} {A:Around} {E:Value->Shared->Prop} {s:Shared} {K:Frag}
end
end Att
namespace L2
open PySem PySem.Spec PyProof.Rows
theorem pk:∀{vs:List Value} {ns:List Int},IntsAre vs ns->Vals (ns.map V.int) vs
 |_,_,.nil=> .nil
 |_,_,.cons n t h=> .cons ⟨t,rfl⟩ (pk h)
def Gr (H:Hp):Prop:=∀b,H b=none\/∃o xs,H b=some (.frz o (.lst xs))
def AB {P:Program}{w:World}{K:Za}{mg mb:Str->Option Value}{CX:rD}{k:Nat}{fa a:Addr}{fd:FuncData}{x:Str}{sp:Sp}{s₁:Shared}{vs:List Value}{ns:List Int}
  (KX:K.In s₁.heap) (hns:s₁.heap.Ns mainGlobals mg) (hb:s₁.heap.Ns builtinsNs mb) (Xk:∀x:Str,x≠"__name__"->mb x=bootBuiltins x) (ZL:s₁.heap.NoLimit) (hg:s₁.gens= #[])
  (ha:s₁.heap.get? a=some {cls:= .type "list",data:= .seq vs.toArray}) (hi:IntsAre vs ns) (hl:ns.length<=sizeLine) (hr:Room k callerA)
  (F:∀base:Heap,K.In base->base.Ns mainGlobals mg->u6 P w K mg base CX k fa fd [x] sp) (Xl:∀(s:Shared) (u:Value),BindsTo s fd ⟨[u],[]⟩ [(x,u)])
  (TR:∀H:Hp,Gr H->SqL K H a (ns.map V.int)->sp [.ref a] H (λv _=>v= .bl true) λ_ _ _=>False)
  (ZM:∀H e s',CX [] H s₁ (λ_ _ _=>False) e s'->False):
  codeAny (model P w) callerA (.call (.ref fa) ⟨[.ref a],[]⟩) (λr s'=>r= .ok (.ret (.bool true))/\OldK s₁.heap s'.heap/\s'.os=s₁.os/\AllBare s'.gens) s₁:=by
 have rv:=pk hi
 have ZN:=hi.length
 have core:∀H:Hp,Gr H->SqL K H a (ns.map V.int)->HOk P w H s₁.heap->(∀b,H b≠none->b=a)->(H a≠none->K.lookup a=none)->
   codeAny (model P w) callerA (.call (.ref fa) ⟨[.ref a],[]⟩) (λr s'=>r= .ok (.ret (.bool true))/\OldK s₁.heap s'.heap/\s'.os=s₁.os/\AllBare s'.gens) s₁:=by
  intro H hO hS hok hA hK
  have base_of:∀{b:Addr} {o:Obj},s₁.heap.get? b=some o->H b=none->(qY s₁.heap H).get? b=some o:=λe n=>zW e n
  have Xe:∀{b:Addr} {o:Obj} {es:Array DictEntry} {ep:Nat},s₁.heap.get? b=some o->o.data= .dict es ep->H b=none:=fun{b o es ep} e d=>by
   cases q:H b with
   |none=>rfl
   |some u=>
    have e':b=a:=hA b (by rw[q];simp)
    subst e'
    rw[ha] at e;cases e
    have d':Data.seq vs.toArray _=Data.dict es ep:=d
    cases d'
  have YG:∀{b:Addr} {m:Str->Option Value},s₁.heap.Ns b m->(qY s₁.heap H).Ns b m:=fun{b m} ⟨o,es,ep,e,d,r⟩=>⟨o,es,ep,base_of e (Xe e d),d,r⟩
  have hKb:K.In (qY s₁.heap H):=λb o e=>base_of (KX b o e) (by
   cases q:H b with
   |none=>rfl
   |some u=>
    have e':b=a:=hA b (by rw[q];simp)
    subst e'
    rw[hK (by rw[q];simp)] at e;cases e)
  have hM:Mod K mg (qY s₁.heap H):=⟨hKb,YG hns,⟨mb,YG hb,Xk⟩,let ⟨mc,h1,h2⟩:=ZL;⟨mc,YG h1,h2⟩⟩
  have e0:Dr P w K mg (qY s₁.heap H) callerA [] s₁ H:=⟨rfl,hM,λb o e=>CY e,Nat.le_of_eq (xP _ _),trivial,λb hb=>absurd (show b∈([]:List Addr) from hb) (by simp),hok,.of_eq hg⟩
  refine PZ ((F _ hKb (YG hns)).run callerA [] s₁ H ⟨[.ref a],[]⟩ [.ref a] [.ref a] _ _ hr e0 (Xl s₁ (.ref a)) (.cons rfl .nil) (TR H hO hS)) λr s' h=>?_
  cases r with
  |error e=>exact(ZM H e s' h).elim
  |ok fl=>
   cases fl with
   |next=>exact False.elim h
   |brk=>exact False.elim h
   |cont=>exact False.elim h
   |ret u=>
    obtain⟨v,H',os,bare,un,ZO,r',q⟩:=h
    have q':v= .bl true:=q
    subst q'
    obtain rfl:u=Value.bool true:=r'
    refine⟨rfl,OldK.of_keep λb o e=>?_,os,bare⟩
    cases q:H b with
    |none=>exact un.keep b o e q (by intro z;exact absurd (show b∈([]:List Addr) from z) (by simp)) (by simp)
    |some u=>
     rcases hO b with z|⟨ob,xs,z⟩
     .rw[q] at z;cases z
     .have z2:=un.frzs b ob _ z
      obtain⟨e1,_⟩:=hok b _ z
      obtain⟨e2,_⟩:=ZO b _ z2
      rw[e] at e1;cases e1
      exact e2
 cases hk:K.lookup a with
 |some o=>
  have e:=KX a o hk
  rw[ha] at e
  cases e
  refine core (λ_=>none) (λ_=> .inl rfl) (.inr ⟨_,vs.toArray,_,hk,rfl,rfl,rfl,by rw[LR,ZN];exact hl,by simpa using rv⟩) (λb u z=>by have z':(none:Option HO)=some u:=z;cases z') (λb z=>absurd rfl z) λz=>absurd rfl z
 |none=>
  refine core (λb=>if b=a then some (.frz {cls:= .type "list",data:= .seq vs.toArray} (.lst (ns.map V.int))) else none) (λb=>?_) (.inl (.inr ⟨{cls:= .type "list",data:= .seq vs.toArray},if_pos rfl⟩)) (λb u z=>?_) (λb z=>?_) λ_=>hk
  .by_cases hb:b=a
   .exact .inr ⟨_,_,if_pos hb⟩
   .exact .inl (if_neg hb)
  .by_cases hb:b=a
   .have z':=(if_pos hb).symm.trans z
    cases z'
    subst hb
    exact⟨ha,by rw[Ll];exact hl,vs,_,rv,ha⟩
   .have z':=(if_neg hb).symm.trans z
    cases z'
  .by_cases hb:b=a
   .exact hb
   .exact absurd (if_neg hb) z
def walk_of {l:PySem.W.OpenLaw}{n k:Nat}{q:Program}{loose:List Str}{XP:(Str->Option Value)->Heap->Prop}{YP:World->Heap->Prop}{d:DefRec}{K:Params->Za}{CX:World->rD}{sp:World->Sp}{x:Str}
  (hn:l.most=some n) (hn2:n<=sizeLine) (Xi:d.params.defaults=[]) (hr:Room k callerA)
  (hY:∀(w:World) (h:Heap),YP w h->(K w.params).In h)
  (F:∀(w:World) (mg:Str->Option Value) (fa:Addr) (h:Heap),(K w.params).In h->h.Ns mainGlobals mg->mg d.name=some (.ref fa)->
   ∃fd:FuncData,(∀(s:Shared) (u:Value),BindsTo s fd ⟨[u],[]⟩ [(x,u)])/\
    ∀base:Heap,(K w.params).In base->base.Ns mainGlobals mg->u6 l.prog w (K w.params) mg base (CX w) k fa fd [x] (sp w))
  (TR:∀(w:World) (H:Hp) (a:Addr) (ns:List Int),ns.length<=n->Gr H->SqL (K w.params) H a (ns.map V.int)->sp w [.ref a] H (λv _=>v= .bl true) λ_ _ _=>False)
  (ZM:∀(w:World) (H:Hp) (s:Shared) (e:Value) (s':Shared),CX w [] H s (λ_ _ _=>False) e s'->False):
  PySem.W.WalkO q loose XP YP l.row.toRowW d [] (λf vs=>PySem.call f vs):=by
 refine Att.attach_call hn Xi λw s₀ s₁ mg mb fa o pm cd doc a vs ns G Y ho hd SN hmg VL hints hlen hg=>?_
 have KX:=hY w _ Y
 obtain⟨fd,hb,hF⟩:=F w mg fa _ KX G.T.g hmg
 exact AB KX G.T.g G.T.b G.T.builtins G.T.nolimit hg VL hints (Mh hlen hn2) hr hF hb (λH hO hS=>TR w H a ns hlen hO hS) λH e s'=>ZM w H s₁ e s'
def aw (s:Stmt):Arguments:=match s with
 | .FunctionDef _ a _ _ _ _ _ _ _ _=>a
 |_=>{posonlyargs:=[],args:=[],vararg:=none,kwonlyargs:=[],kw_defaults:=[],kwarg:=none,defaults:=[]}
def V5 (s:Stmt):List Stmt:=match s with
 | .FunctionDef _ _ b _ _ _ _ _ _ _=>b
 |_=>[]
def d0 (s:Stmt):Scope:=match s with
 | .FunctionDef _ _ _ _ _ _ sc _ _ _=>sc
 |_=>{kind:= .function,names:=[],isGenerator:=false,isCoroutine:=false}
abbrev B6:rD:=λ_ _ _ _ _ _=>False
abbrev E0:XK:=λ_ _ _=>False
def i8 {X:Cx}:dA B6 X E0:=λ_ _ _ _ _ _ _ h=>h.elim
structure Fun (K:Za) (x qual:Str) (st:Stmt) (f:Addr) (fd:FuncData):Prop where
 ex:∃(oc:Value) (od:Option Addr) (kV doc pm:Value) (an:Option Addr) (c_ ct:Value) (SS:Array (Option Value)),
  fd=PySem.W.fnOf x qual (aw st) (V5 st) (d0 st) .none kV doc pm an c_ ct/\K.lookup f=some ⟨oc,od,.func fd,SS⟩/\PySem.W.codeIn K c_ qual=true
 kp:PySem.W.keepIn K (.ref f)=true
section
variable {P:Program} {w:World} {K:Za} {mg:Str->Option Value} {base:Heap}
def Fun.ok {x qual:Str}{st:Stmt}{f:Addr}{fd:FuncData}{N ps:List Str}{k:Nat}{sp:Sp}(F:Fun K x qual st f fd)(S:i4 N ps (d0 st))(len:∀vs H Q E,sp vs H Q E->vs.length=ps.length)
  (O':∀(c_:Value) (A:Around) (outer:List Env) (s:Shared) (H:Hp) (vs:List V) (Q:VK) (E:XK),Room k (A.deeper (envOfC qual (d0 st) s.heap.objs.size f c_))->sp vs H Q E->
   ∃t,PSs (kg B6 P w K mg base N qual (d0 st) f c_ A outer s H E).nox (V5 st) t/\t {nx:=λ_ H'=>Q .non H',rt:=Q} (gD N vs) H):u6 P w K mg base B6 (k+1) f fd ps sp:=by
 obtain⟨oc,od,kV,doc,pm,an,c_,ct,SS,rfl,lk,SN⟩:=F.ex
 refine DU lk SN S len λA outer s H vs Q E hr TR=>?_
 obtain⟨t,h,q⟩:=O' c_ A outer s H vs Q E hr TR
 exact⟨t,h.nox,q⟩
def Fun.binds {x qual:Str}{st:Stmt}{f:Addr}{fd:FuncData}{ps:List Str}(F:Fun K x qual st f fd)
  (h:∀(kV doc pm:Value) (an:Option Addr) (c_ ct:Value) (us:List Value),us.length=ps.length->bindArgs (PySem.W.fnOf x qual (aw st) (V5 st) (d0 st) .none kV doc pm an c_ ct) ⟨us,[]⟩=pure (ps.zip us)):Binds K fd ps []:=by
 obtain⟨oc,od,kV,doc,pm,an,c_,ct,SS,rfl,lk,SN⟩:=F.ex
 exact .all (h kV doc pm an c_ ct)
def Ej {x qual:Str}{st:Stmt}{f:Addr}{oc:Value}{od an:Option Addr}{SS:Array (Option Value)}{kV doc pm c_ ct:Value}(l:K.lookup f=some ⟨oc,od,.func (PySem.W.fnOf x qual (aw st) (V5 st) (d0 st) .none kV doc pm an c_ ct),SS⟩)
  (c:PySem.W.codeIn K c_ qual=true) (k:PySem.W.keepIn K (.ref f)=true):Fun K x qual st f (PySem.W.fnOf x qual (aw st) (V5 st) (d0 st) .none kV doc pm an c_ ct):=⟨⟨oc,od,kV,doc,pm,an,c_,ct,SS,rfl,l,c⟩,k⟩
end
def wB {n:Nat}(h:n<=1000):n<sizeLine:=OI h (by decide)
section
variable {X:Cx}
end
def JG {A B:Prop}(h:B):if false=true then A else B:=by
 rw[if_neg Mn];exact h
def Kd {A B:Prop}(h:A):if true=true then A else B:=by
 rw[if_pos rfl];exact h
def Same (H H':Hp):Prop:=∀b o,H b=some o->H' b=some o
def Same.refl (H:Hp):Same H H:=λ_ _ h=>h
def Same.trans {H H1 H2:Hp}(a:Same H H1)(b:Same H1 H2):Same H H2:=λc o h=>b c o (a c o h)
def Same.free {H H':Hp}(e:Same H H'){l:Addr}(h:H' l=Option.none):H l=Option.none:=by
 cases q:H l with
 |none=>rfl
 |some o=>
  rw[e l o q] at h
  cases h
def Same.seq {K:Za}{H H':Hp}{a:Addr}{xs:List V}(e:Same H H')(h:SqL K H a xs):SqL K H' a xs:=by
 rcases h with(h|⟨o,h⟩)|h
 .exact .inl (.inl (e _ _ h))
 .exact .inl (.inr ⟨o,e _ _ h⟩)
 .exact .inr h
section
variable {κ:Type} [DecidableEq κ]
def wu {kvs:List (κ×V)}{k:κ}{v:V}(h:A5 kvs k=some v):k∈kvs.map (·.1):=by
 have q:(kvs.any λkv=>decide (kv.1=k))=true:=by
  rw[dh,h];all_goals rfl
 obtain⟨p,hp,e⟩:=Nr.mp q;exact Ln.mpr ⟨p,hp,Nv e⟩
theorem Q6:∀{l:List κ} {k:κ},l.Nodup->¬k∈l->(l++[k]).Nodup
 |[],k,_,_=>by simp
 |a::r,k,h,hk=>by
  obtain⟨h1,h2⟩:=MP.mp h;show(a::(r++[k])).Nodup;refine MP.mpr ⟨λm=>?_,Q6 h2 λm=>hk (Mi.mpr (Or.inr m))⟩;rcases LC.mp m with q|q
  .exact h1 q
  .exact hk (Mi.mpr (Or.inl (LV.mp q).symm))
end
end L2
set_option maxHeartbeats 4000000
namespace L2
open PySem PySem.Spec PyProof.Rows
def jB (scope:Scope)(env:Env):List (Str×Addr):=(scope.names.filter λx=>x.2== .free).reverse.map λx=>(x.1,(env.cells.lookup x.1).getD 0)
theorem dH {env:Env}:∀(l:List (Str×NameKind)) (cs:List (Str×Addr)),(∀x∈l,x.2= .free->∃c,env.cells.lookup x.1=some c)->
  (forIn l cs fun(x:Str×NameKind) (r:List (Str×Addr))=>if(x.2==NameKind.free)=true then(do let a←cellOf env x.1;pure (ForInStep.yield ((x.1,a)::r))) else(pure (ForInStep.yield r):Sem (ForInStep (List (Str×Addr)))))=
   pure (((l.filter λx=>x.2== .free).reverse.map λx=>(x.1,(env.cells.lookup x.1).getD 0))++cs)
 |[],cs,_=>rfl
 |(n,k)::l,cs,h=>by
  rw[Qq];by_cases hk:k= .free
  .subst hk;obtain⟨c,hc⟩:=h (n,.free) Lv rfl;simp only[Qg,Sl];have TM:env.cells.lookup n=some c:=hc;have e0:cellOf env n=pure c:=by unfold cellOf;rw[TM]
   simp only[e0,pure_bind];rw[dH l _ λx hx=>h x (Lw _ hx)];rw[List.filter_cons,if_pos (by rfl),List.reverse_cons,Lr,LS];simp only[Ms,QJ,TM,OU,Ro,Qr]
  .have hb:(k==NameKind.free)=false:=by simpa using hk
   simp only[hb,NA,PQ,pure_bind];rw[dH l cs λx hx=>h x (Lw _ hx)];rw[List.filter_cons,if_neg (by simp [hb])]
def kH {scope:Scope}{env:Env}(h:∀x∈scope.names,x.2= .free->∃c,env.cells.lookup x.1=some c):closureFor scope env=pure (jB scope env):=by
 have e:=dH (env:=env) scope.names [] h;rw[MD] at e;unfold closureFor jB;simp only[];refine Eq.trans ?_ (Mw (λm=>m>>=λr=>(pure r:Sem (List (Str×Addr)))) e);rfl
theorem X4 {env:Env}{x:Str}:∀(l:List (Str×NameKind)),(∀y∈l,∃c,env.cells.lookup y.1=some c)->(x∈l.map (·.1)->(l.map λy=>(y.1,(env.cells.lookup y.1).getD 0)).lookup x=env.cells.lookup x)/\(x∉l.map (·.1)->(l.map λy=>(y.1,(env.cells.lookup y.1).getD 0)).lookup x=none)
 |[],_=>⟨λh=>by simp at h,λ_=>rfl⟩
 |(n,k)::l,h=>by
  have ih:=X4 (x:=x) l λy hy=>h y (Lw _ hy);obtain⟨c,hc⟩:=h (n,k) Lv;have TM:env.cells.lookup n=some c:=hc;by_cases e:x=n
  .subst e;refine⟨λ_=>?_,λz=>absurd (by simp) z⟩;simp [Nt,TM]
  .have eb:(x==n)=false:=by simpa using e
   refine⟨λhm=>?_,λhm=>?_⟩
   .simp only[Ms,Nt,eb];exact ih.1 (by simpa [e] using hm)
   .simp only[Ms,Nt,eb];exact ih.2 (λz=>hm (by simp [z]))
def Z9 {scope:Scope}{env:Env}(h:∀x∈scope.names,x.2= .free->∃c,env.cells.lookup x.1=some c){x:Str}{c:Addr}(e:(jB scope env).lookup x=some c):env.cells.lookup x=some c:=by
 have hl:∀y∈(scope.names.filter λx=>x.2== .free).reverse,∃c,env.cells.lookup y.1=some c:=λy hy=>by
  obtain⟨h1,h2⟩:=LW.mp (Rp.mp hy);exact h y h1 (by simpa using h2)
 have a:=X4 (x:=x) _ hl;by_cases hm:x∈(scope.names.filter λx=>x.2== .free).reverse.map (·.1)
 .rw[←a.1 hm];exact e
 .have z:=a.2 hm;unfold jB at e;rw[z] at e;cases e
def tI {scope:Scope}{env:Env}(h:∀x∈scope.names,x.2= .free->∃c,env.cells.lookup x.1=some c){x:Str}(hx:(x,NameKind.free)∈scope.names):(jB scope env).lookup x=env.cells.lookup x:=by
 have hl:∀y∈(scope.names.filter λx=>x.2== .free).reverse,∃c,env.cells.lookup y.1=some c:=λy hy=>by
  obtain⟨h1,h2⟩:=LW.mp (Rp.mp hy);exact h y h1 (by simpa using h2)
 exact(X4 (x:=x) _ hl).1 (Ln.mpr ⟨(x,.free),Rp.mpr (LW.mpr ⟨hx,rfl⟩),rfl⟩)
def rf {scope:Scope}{env:Env}(hc:∀y∈scope.names,y.2≠ .cell){x:Str}(h:(relabel scope env).names.lookup x=some .cell\/(relabel scope env).names.lookup x=some .free):(x,NameKind.free)∈scope.names:=by
 have key:∀(l:List (Str×NameKind)),(∀y∈l,y.2≠ .cell)->∀k,(k=NameKind.cell\/k=NameKind.free)->(l.map fun(n,k)=>if(k==NameKind.free&&env.scope.kind== .function&&env.kindOf n==some .cell) then(n,NameKind.cell) else(n,k)).lookup x=some k->(x,NameKind.free)∈l:=by
  intro l;induction l with
  |nil=>intro _ k _ e;simp at e
  |cons y r ih=>
   obtain⟨n,k0⟩:=y
   intro hl k hk e
   have Tb:=ih (λy hy=>hl y (Lw _ hy)) k hk
   rw[Ms] at e
   have Uz:k0≠ .cell:=hl (n,k0) Lv
   dsimp only at e
   by_cases hcnd:(k0==NameKind.free&&env.scope.kind== .function&&env.kindOf n==some .cell)=true
   .rw[if_pos hcnd] at e
    cases hx:x==n with
    |true=>
     have:x=n:=by simpa using hx
     subst this
     have:k0= .free:=by
      simp only[Mg,Pd] at hcnd;exact hcnd.1.1
     subst this
     exact Lv
    |false=>
     simp only[Nt,hx] at e
     exact Lw _ (Tb e)
   .rw[if_neg hcnd] at e
    cases hx:x==n with
    |true=>
     have:x=n:=by simpa using hx
     subst this
     simp only[Nt,hx] at e
     have e':k0=k:=LO e
     subst e'
     rcases hk with z|z
     .exact absurd z Uz
     .subst z;exact Lv
    |false=>
     simp only[Nt,hx] at e
     exact Lw _ (Tb e)
 rcases h with h|h
 .exact key _ hc _ (.inl rfl) h
 .exact key _ hc _ (.inr rfl) h
def dU (X:Cx)(own:List Str)(js:List Nat)(scope:Scope)(C:Addr)(s:Shared)(H:Hp)(fp:List Addr):Cx:=
 {X with N:=own++js.map (λj=>X.N.getD j Str.empty),s₀:=s,H₀:=H,env:=compEnvC scope (jB scope X.env) C X.env,outer:=X.stack,stack:=X.stack,ex:=fp,fn:=λ_=>false,pn:=[],xe:=λ_ _=>False}
def BC (own:List Str)(js:List Nat)(σ:St):St:=own.map (λ_=>none)++js.map (λj=>(σ[j]?).join)
def Gu (X:Cx)(own:List Str)(js:List Nat)(scope:Scope):Bool:=
 (scope.kind== .function)&&(scope.names.all λx=>x.2 != .cell)&&(scope.names.all λx=>x.2 != .local||scope.names.lookup x.1==some .local)&&
 (scope.names.all λx=>x.2 != .free||(X.env.kindOf x.1==some .cell||X.env.kindOf x.1==some .free))&&
 (js.all λj=>decide (j<X.N.length)&&scope.names.any (λy=>y.1==X.N.getD j Str.empty&&y.2== .free))&&
 (scope.names.all λx=>x.2 != .free||scope.names.lookup x.1 !=some .local)
def vY {own:List Str}{js:List Nat}{σ:St}{X:Cx}{scope:Scope}{C:Addr}{s:Shared}{H:Hp}{fp:List Addr}:(BC own js σ).length=(dU X own js scope C s H fp).N.length:=by grind [BC,dU]
section
variable {X:Cx} {pins:List (Addr×Obj)} {σ:St} {H:Hp} {s:Shared} {own:List Str} {js:List Nat} {scope:Scope} {fp:List Addr} {C D:Addr} {h1:Heap}
structure ScB (X:Cx) (own:List Str) (js:List Nat) (scope:Scope):Prop where
 kind:scope.kind= .function
 nocell:∀y∈scope.names,y.2≠ .cell
 names:∀x∈scope.names,x.2= .local->scope.names.lookup x.1=some .local
 free:∀x∈scope.names,x.2= .free->X.env.kindOf x.1=some .cell\/X.env.kindOf x.1=some .free
 js:∀j∈js,j<X.N.length/\(X.N.getD j Str.empty,NameKind.free)∈scope.names
 one:∀x,(x,NameKind.free)∈scope.names->scope.names.lookup x≠some .local
def Al (h:Gu X own js scope=true):ScB X own js scope:=by
 unfold Gu at h;simp only[Mg,LZ,Qt,bne_iff_ne,Pd,LA,Nr] at h;obtain⟨⟨⟨⟨⟨h1,h2⟩,h3⟩,h4⟩,h5⟩,h6⟩:=h;refine⟨h1,h2,λx hx e=>?_,λx hx e=>?_,λj hj=>?_,λx hx=>?_⟩
 .rcases h3 x hx with z|z
  .exact absurd e z
  .exact z
 .rcases h4 x hx with z|z
  .exact absurd e z
  .exact z
 .obtain⟨a,y,hy,e1,e2⟩:=h5 j hj;refine⟨a,?_⟩;obtain⟨n,k⟩:=y;simp only at e1 e2;rw[←e1,←e2];exact hy
 .rcases h6 _ hx with z|z
  .exact absurd rfl z
  .exact z
def ScB.cells (S:ScB X own js scope)(I:Inv X pins σ H s):∀x∈scope.names,x.2= .free->∃c,X.env.cells.lookup x.1=some c:=λx hx e=>I.ok.has x.1 (S.free x hx e)
def Inv.block (S:ScB X own js scope)(I:Inv X pins σ H s)(hf:∀b∈fp,gN X pins H b)(Rj:∀b∈fp,∃o,s.heap.get? b=some o)(hC:s.heap.objs.size<=C){m:Str->Option Value}{t':Nat}(hn:h1.Ns C m)(k:∀b u,s.heap.get? b=some u->h1.get? b=some u):
  Inv (dU X own js scope C s H fp) (X.pn++pins) (BC own js σ) H {s with heap:=h1,toks:=t'}:=by
 have R_:=S.cells I
 have below:∀b o,s.heap.get? b=some o->b≠C:=λb o e=>Ma (LJ (LI e) hC)
 have stk:∀b,b≠X.env.locals->b∉X.fs->b∉bu X.stack:=λb h1 h2 z=>by
  rcases Mi.mp (I.stkSub b z) with e|e
  .exact h1 e
  .exact h2 e
 have noex:∀b o,X.base.get? b=some o->b∉fp:=λb o e z=>by
  rcases(hf b z).2.2.2.1 with q|q
  .exact I.ok.noex b o e q
  .exact absurd (LJ (LI e) (Mh I.ok.bsz q)) (Ni _)
 refine⟨⟨I.ok.mod,S.kind,I.ok.glob,I.ok.blt,hC,λx y c e1 e2=>?_,λx hx=>?_,λx c z _=>(Mn z).elim,I.ok.hd,I.ok.frames,.inl rfl,λb hb=>⟨?_,λx c e=>?_⟩,I.bs,Mh I.ok.bsz I.sz,noex,λb hb=>?_,I.stack,I.stkFree⟩,
  rfl,I.bare,Un.kept k,⟨m,hn,λi x v e1 e2 e3=>?_⟩,λx c e=>?_,?_,λx c e=>?_,λp hp=>?_,I.hok.kept k,vY⟩
 .exact I.ok.inj x y c (Z9 R_ e1) (Z9 R_ e2)
 .have hm:=rf S.nocell (x:=x) (env:=X.env) hx
  obtain⟨c,e⟩:=R_ (x,.free) hm rfl
  exact⟨c,(tI R_ hm).trans e⟩
 .obtain⟨o,e⟩:=Rj b hb;exact below b o e
 .exact(hf b hb).2.2.2.2.1 x c (Z9 R_ e)
 .exact stk b (hf b hb).2.1 (hf b hb).2.2.1
 .have VM:(own++js.map (λj=>X.N.getD j Str.empty))[i]?=some x:=e1
  unfold BC at e2
  by_cases hi:i<own.length
  .rw[Nm (by simpa using hi),Lo] at e2
   rw[Lm hi] at e2
   simp at e2
  .rw[MJ (by simpa using hi),Lo] at e2
   rw[MJ (by simpa using hi),Lo] at VM
   have el:(own.map λ_=>(none:Option V)).length=own.length:=by simp
   rw[el] at e2
   cases hj:js[i -own.length]? with
   |none=>rw[hj] at VM;simp at VM
   |some j=>
    rw[hj] at VM e2
    simp only[RG,QR] at VM e2
    have Xm:j∈js:=LF hj
    obtain⟨u_,m_⟩:=S.js j Xm
    have hNj:X.N[j]?=some x:=by
     rw[←VM,Mx,Lm u_];simp
    have hσ:σ[j]?=some (some v):=by
     cases q:σ[j]? with
     |none=>rw[q] at e2;simp at e2
     |some w=>rw[q] at e2;simp at e2;rw[e2]
    rw[VM] at m_
    obtain⟨m0,hn0,Xn⟩:=I.loc
    have hkx:X.env.kindOf x=some .cell\/X.env.kindOf x=some .free:=S.free (x,.free) m_ rfl
    obtain⟨u,r,l⟩:=Xn j x v hNj hσ (by rcases hkx with z|z;exact .inr (.inl z);exact .inr (.inr z))
    refine⟨u,r,?_⟩
    rcases l with⟨z,_⟩|⟨_,c,hc,SR⟩
    .rcases hkx with q|q
     .rw[q] at z;cases z
     .rw[q] at z;cases z
    .have TM:(jB scope X.env).lookup x=some c:=(tI R_ m_).trans hc
     obtain⟨oc,VF,VG⟩:=SR
     refine .inr ⟨?_,c,TM,⟨oc,k _ _ VF,VG⟩⟩
     rcases e3 with z|z|z
     .exfalso
      have hmm:(relabel scope X.env).names.lookup x=some .local:=z
      exact absurd hmm (by
       intro hh;have key:∀l:List (Str×NameKind),(∀y∈l,y.2= .local->scope.names.lookup y.1=some .local)->(l.map fun(n,k)=>if(k==NameKind.free&&X.env.scope.kind== .function&&X.env.kindOf n==some .cell) then(n,NameKind.cell) else(n,k)).lookup x=some .local->scope.names.lookup x=some .local:=by
        intro l;induction l with
        |nil=>intro _ e;simp at e
        |cons y r ih=>
         obtain⟨n,k0⟩:=y
         intro hl e
         rw[Ms] at e
         dsimp only at e
         by_cases hcnd:(k0==NameKind.free&&X.env.scope.kind== .function&&X.env.kindOf n==some .cell)=true
         .rw[if_pos hcnd] at e
          cases hx:x==n with
          |true=>simp only[Nt,hx] at e;cases e
          |false=>simp only[Nt,hx] at e;exact ih (λy hy=>hl y (Lw _ hy)) e
         .rw[if_neg hcnd] at e
          cases hx:x==n with
          |true=>
           simp only[Nt,hx] at e
           have e':k0= .local:=LO e
           have:x=n:=by simpa using hx
           subst this
           exact hl (x,k0) Lv e'
          |false=>simp only[Nt,hx] at e;exact ih (λy hy=>hl y (Lw _ hy)) e
       have a:=key scope.names S.names hh;exact S.one x m_ a)
     .exact .inl z
     .exact .inr z
 .obtain⟨v,o,ho,hd⟩:=I.cell x c (Z9 R_ e)
  exact⟨v,o,k _ _ ho,hd⟩
 .exact I.hok.fresh hC
 .exact I.freeC x c (Z9 R_ e)
 .obtain⟨e,n,ne,nf,d⟩:=I.pin p hp
  exact⟨k _ _ e,n,below _ _ e,stk _ ne nf,d⟩
end
def HOk.track {P:Program}{w:World}{H:Hp}{h h':Heap}{a C:Addr}{o:HO}(x:HOk P w H h)(hC:H C=none)(k:∀b,b≠C->h'.get? b=h.get? b)(hn:H a=none)(new:ObjOk P w (upd H a o) h' a o):HOk P w (upd H a o) h':=λb u e=>by
 by_cases hb:b=a
 .subst hb;rw[d8] at e;cases e;exact new
 .rw[d9 hb] at e;refine(x b u e).stay (λc v hc q=>?_) (λc q=>by rw[d9 (d6 q hn)];exact q) λc xs q=>by rw[d9 (d6 q hn)];exact q
  have hcC:c≠C:=by
   rcases hc with z|z
   .subst z;exact d6 e hC
   .exact d6 z hC
  rw[k c hcC];exact q
abbrev zj (ifs:List Expr)(env:Env):Sem Bool:=forIn ifs true λc r=>if r=true then do let ok←isTrue c env (eval c env);pure (ForInStep.yield ok) else pure (ForInStep.yield r)
def uS (X:Cx)(ifs:List Expr)(t:TT):Prop:=
 ∀(pins:List (Addr×Obj)) (s:Shared) (σ:St) (H:Hp) (Q:Bool->Hp->Prop),Inv X pins σ H s->t σ H Q->wpAny (model X.prog X.w) X.A (zj ifs X.env) (TP X pins σ Q) X.xe s
def Jx {X:Cx}:uS X [] (λ_ H Q=>Q true H):=λpins s σ H Q I h=>wpAny_tests_nil ⟨H,I,h⟩
def Kj {X:Cx}{c:Expr}{t:TT}(h:PT X c t):uS X [c] t:=λpins s σ H Q I hq=>wpAny_tests_one (h pins s σ H Q I hq)
section
variable {X:Cx} {pins:List (Addr×Obj)} {σ:St} {H:Hp} {s:Shared} {own:List Str} {js:List Nat} {scope:Scope}
variable {tg iter elt:Expr} {ifs:List Expr} {pos:Pos} {g:TG} {ti:TT} {te:TE}
structure BlockEnd (X:Cx) (pins:List (Addr×Obj)) (own:List Str) (js:List Nat) (scope:Scope) (σ:St) (H:Hp) (s:Shared) (fp:List Addr) (C D:Addr) (out:List V) (H':Hp) (s':Shared):Prop where
 inv:Inv (dU X own js scope C s H fp) (X.pn++pins) (BC own js σ) H' s'
 free:H' D=none
 obj:∃(a_:List Value) (n:Nat),Vals out a_/\s'.heap.get? D=some {cls:= .type "list",data:= .seq a_.toArray n}
def BlockEnd.out {fp:List Addr}{C D:Addr}{out:List V}{H':Hp}{s':Shared}{h':Heap}(e:BlockEnd X pins own js scope σ H s fp C D out H' s')(I:Inv X pins σ H s)(hf:∀b∈fp,gN X pins H b)(hD:s.heap.objs.size<=D)(hC:s.heap.objs.size<=C)(Tn:D≠C)
  (hl:out.length<=sizeLine) (sb:Heap.SameBut C s'.heap h'):Inv X pins σ (upd H' D (.lst out)) {s' with heap:=h'}:=by
 obtain⟨a_,n,rv,ob⟩:=e.obj
 have J:=e.inv
 have U:Un (bu X.stack) fp H H' s.heap s'.heap:=J.base
 have same:∀b,b≠C->h'.get? b=s'.heap.get? b:=λb hb=>sb.2 b hb
 have old:∀b o,s.heap.get? b=some o->b≠C/\b≠D:=λb o q=>⟨Ma (LJ (LI q) hC),Ma (LJ (LI q) hD)⟩
 have ZP:H' C=none:=J.free
 refine I.call' (s':={s' with heap:=h'}) (ch:=fp) J.os ?_ ?_ J.bare λb hb=>?_
 .refine⟨λb o q n hb hx=>?_,λb o q n hb hx=>?_,λb o q n hx=>?_,λb o q hx=>?_,λb xs q=>?_,λb o u q=>?_,λb ps q=>?_⟩
  .show h'.get? b=_
   rw[same b (old b o q).1];exact U.keep b o q n hb hx
  .show ∃sl,h'.get? b=_
   rw[same b (old b o q).1];exact U.slot b o q n hb hx
  .rw[d9 (old b o q).2];exact U.free b o q n hx
  .show ∃o',h'.get? b=_
   rw[same b (old b o q).1];exact U.there b o q hx
  .rw[d9 (d6 (U.tups b xs q) e.free)];exact U.tups b xs q
  .rw[d9 (d6 (U.frzs b o u q) e.free)];exact U.frzs b o u q
  .obtain⟨mo,z⟩:=U.tbls b ps q
   exact⟨mo,by rw[d9 (d6 z e.free)];exact z⟩
 .refine HOk.track J.hok ZP same e.free ?_
  exact⟨hl,a_,n,rv,by rw[same D Tn];exact ob⟩
 .exact⟨(hf b hb).2.2.2.1,(hf b hb).2.1,(hf b hb).2.2.2.2.1,(hf b hb).2.2.2.2.2⟩
def pM (S:ScB X own js scope)(hc:X.calm=true){fp:List Addr}{it C D:Addr}{tn:Nat->Heap->Prop}{J:It}(T:jD X.prog X.w X.K tg J fp it tn)(I:Inv X pins σ H s)(hf:∀b∈fp,gN X pins H b)
  (hD:s.heap.objs.size<=D) (hC:s.heap.objs.size<=C) (Tn:D≠C) (Rj:∀b∈fp,∃o,s.heap.get? b=some o)
  (hg:PG (dU X own js scope C s H fp) tg g) (hi:uS (dU X own js scope C s H fp) ifs ti) (he:PE (dU X own js scope C s H fp) elt te)
  (W:Nat->Nat->List V->Hp->Prop) {K:List V->Hp->Prop}
  (turn:∀i m out H,W i m out H->(J.stop i H/\(H D=none->out.length<=sizeLine/\K out H))\/
   (J.go i H/\∀x H',J.yld i H x H'->g x (BC own js σ) H' λσ2 H2=>σ2.drop own.length=js.map (λj=>(σ[j]?).join)/\ti σ2 H2 λb H3=>
    if b=true then te σ2 H3 λv H4=>out.length<=sizeLine/\∃m',m'<m/\W (i+1) m' (out++[v]) H4 else ∃m',m'<m/\W (i+1) m' out H3))
  {R:Result->Shared->Prop} (hR:∀out H' s',BlockEnd X pins own js scope σ H s fp C D out H' s'->out.length<=sizeLine->K out H'->R (.ok .next) s')
  {m0:Nat} {H1:Hp} {s1:Shared} (w0:W 0 m0 [] H1) (B:BlockEnd X pins own js scope σ H s fp C D [] H1 s1) (st:tn 0 s1.heap) (fr:∀b∈fp,H1 b=none):
  codeAny (model X.prog X.w) X.A (.compLoop (.ListComp elt [⟨tg,iter,ifs,0⟩] scope pos) 0 (.ref it) (.ref D) (compEnvC scope (jB scope X.env) C X.env)) R s1:=by
 have Uc:∀{H':Hp},(∀b∈fp,H' b=none)->∀b∈fp,gN (dU X own js scope C s H fp) (X.pn++pins) H' b:=λhn b hb=>by
  obtain⟨o,ho⟩:=Rj b hb;refine⟨hn b hb,Ma (LJ (LI ho) hC),?_,.inl hb,λx c e=>(hf b hb).2.2.2.2.1 x c (Z9 (S.cells I) e),λp hp=>(hf b hb).2.2.2.2.2 p hp⟩;intro z;rcases Mi.mp (I.stkSub b z) with e|e
  .exact(hf b hb).2.1 e
  .exact(hf b hb).2.2.1 e
 have Dfp:D∉fp:=λz=>by
  obtain⟨o,ho⟩:=Rj D z;exact absurd (LJ (LI ho) hD) (Ni _)
 have Xo:∀x c,(dU X own js scope C s H fp).env.cells.lookup x=some c->c≠D:=λx c e z=>by
  obtain⟨v,o,ho,_⟩:=I.cell x c (Z9 (S.cells I) e);rw[z] at ho;exact absurd (LJ (LI ho) hD) (Ni _)
 have ZQ:∀p∈X.pn++pins,p.1≠D:=λp hp z=>by
  have ho:=(I.pin p hp).1;rw[z] at ho;exact absurd (LJ (LI ho) hD) (Ni _)
 have Dfs:D∉(dU X own js scope C s H fp).fs:=λz=>by
  obtain⟨_,o,ho,_⟩:=I.stack.mem z;exact absurd (LJ (LI ho) hD) (Ni _)
 refine codeAny_loop rfl (λn s'=>∃i out H',BlockEnd X pins own js scope σ H s fp C D out H' s'/\tn i s'.heap/\(∀b∈fp,H' b=none)/\W i n out H') (λn s3 hI=>?_) m0 ⟨0,[],H1,B,st,fr,w0⟩
 obtain⟨i,out,H3,B3,Xp,Xq,w3⟩:=hI
 obtain⟨a_,nD,rv,obD⟩:=B3.obj
 have Xr:∀{σ':St} {H':Hp} {s':Shared},Inv (dU X own js scope C s H fp) (X.pn++pins) σ' H' s'->H' D=none->s'.heap.get? D=some {cls:= .type "list",data:= .seq a_.toArray nD}->
   Inv (dU X own js scope C s H fp) (X.pn++pins++[(D,{cls:= .type "list",data:= .seq a_.toArray nD})]) σ' H' s':=fun{σ' H' s'} I' n' e'=>I'.pins_of λp hp=>by
  rcases LC.mp hp with z|z
  .exact I'.pin p (by show p∈([]:List (Addr×Obj))++_;exact LG _ z)
  .have z':p=(D,{cls:= .type "list",data:= .seq a_.toArray nD}):=by simpa using z
   subst z'
   exact⟨e',n',Tn,Dfs,λv q=>by cases q⟩
 have Ud:∀{H':Hp},(∀b∈fp,H' b=none)->∀b∈fp,gN (dU X own js scope C s H fp) (X.pn++pins++[(D,{cls:= .type "list",data:= .seq a_.toArray nD})]) H' b:=λhn b hb=>by
  obtain⟨a1,a2,a3,a4,a5,a6⟩:=Uc hn b hb;refine⟨a1,a2,a3,a4,a5,λp hp=>?_⟩;have B_:p∈X.pn++pins++[(D,{cls:= .type "list",data:= .seq a_.toArray nD})]:=hp;rcases LC.mp B_ with z|z
  .exact a6 p (by show p∈([]:List (Addr×Obj))++_;exact z)
  .have z':p=(D,{cls:= .type "list",data:= .seq a_.toArray nD}):=by simpa using z
   subst z';rintro rfl;exact Dfp hb
 have ZR:∀{α:Type} {t:Sem α} {Q Q':α->Shared->Prop} {E:Value->Shared->Prop} {s:Shared},wpAny (model X.prog X.w) X.A t Q (λ_ _=>False) s->(∀a s,Q a s->Q' a s)->wpAny (model X.prog X.w) X.A t Q' E s:=
  λh hQ=>PD h hQ λ_ _ x=>x.elim
 have ZS:∀{pl:List (Addr×Obj)} {σ':St} {H':Hp} {s':Shared},Inv (dU X own js scope C s H fp) (X.pn++pins++[(D,{cls:= .type "list",data:= .seq a_.toArray nD})]++pl) σ' H' s'->Inv (dU X own js scope C s H fp) (X.pn++pins) σ' H' s'/\H' D=none/\s'.heap.get? D=some {cls:= .type "list",data:= .seq a_.toArray nD}:=fun{pl σ' H' s'} I'=>by
  have q:=I'.pin (D,{cls:= .type "list",data:= .seq a_.toArray nD}) (LG _ (Ls _ (LG _ (by simp))));exact⟨I'.unpinned.unpinned,q.2.1,q.1⟩
 show wpAny _ X.A ((compTurn (.ListComp elt [⟨tg,iter,ifs,0⟩] scope pos) 0 (.ref it) (.ref D) (compEnvC scope (jB scope X.env) C X.env)).onRaise (λx=>do noteFrame x (compEnvC scope (jB scope X.env) C X.env);theTreesLotGoes x)) _ _ s3
 refine wpAny_noted ?_
 rw[compTurn_list]
 refine Lx (SA (Lx ?_))
 rcases turn i n out H3 w3 with⟨stop,fin⟩|⟨go,step⟩
 .refine N3 (T.done (dU X own js scope C s H fp) rfl rfl rfl hc i _ s3 _ H3 _ (Xr B3.inv B3.free obD) (Ud Xq) Xp stop) λr s4 ⟨hr,I4⟩=>?_
  subst hr
  obtain⟨J4,n4,o4⟩:=ZS (pl:=[]) (by rw[MD];exact I4)
  obtain⟨hl,k⟩:=fin B3.free
  exact LK (hR out H3 s4 ⟨J4,n4,a_,nD,rv,o4⟩ hl k)
 .refine N3 (T.item (dU X own js scope C s H fp) rfl rfl rfl hc i _ s3 _ H3 _ (Xr B3.inv B3.free obD) (Ud Xq) Xp go) λr s4 ⟨u,hr,h4⟩=>?_
  subst hr
  refine Lx (N3 h4 λ_ s5 ⟨x,H5,I5,r5,y5,st5,fr5⟩=>?_)
  have ZT:=I5.pinned (Ud fr5) (T.obj _ _ st5)
  refine Lx (ZR (hg _ s5 _ H5 x u _ ZT r5 (step x H5 y5)) λ_ s6 ⟨σ6,H6,I6,q6⟩=>?_)
  obtain⟨ed,q6⟩:=q6
  refine Lx (ZR (hi _ s6 σ6 H6 _ I6 q6) λok s7 ⟨H7,I7,q7⟩=>?_)
  have stay:∀{H':Hp} {s':Shared},Inv (dU X own js scope C s H fp) (X.pn++pins++[(D,{cls:= .type "list",data:= .seq a_.toArray nD})]++lW fp s5.heap) σ6 H' s'->tn (i+1) s'.heap/\∀b∈fp,H' b=none:=fun{H' s'} I'=>by
   refine⟨T.keep _ _ _ st5 λb hb o e=>(I'.pin (b,o) (LG _ (LG _ (bU hb e)))).1,λb hb=>?_⟩;obtain⟨o,e,d⟩:=T.obj _ _ st5 b hb;exact(I'.pin (b,o) (LG _ (LG _ (bU hb e)))).2.1
  have wk:∀{H':Hp} {s':Shared},Inv (dU X own js scope C s H fp) (X.pn++pins) σ6 H' s'->Inv (dU X own js scope C s H fp) (X.pn++pins) (BC own js σ) H' s':=fun{H' s'} I'=>by
   refine I'.weak (by rw[I'.len];exact vY) λk v e=>?_;unfold BC at e;by_cases hk:k<own.length
   .rw[Nm (by simpa using hk),Lo,Lm hk] at e;simp at e
   .rw[MJ (by simpa using hk)] at e;have el:(own.map λ_=>(none:Option V)).length=own.length:=by simp
    rw[el,←ed,NB] at e;have ek:own.length+(k -own.length)=k:=by lia
    rw[ek] at e;exact e
  cases ok with
  |false=>
   rw[if_neg Mn] at q7
   obtain⟨m',hm,w7⟩:=q7
   obtain⟨J7,n7,o7⟩:=ZS I7
   exact LK ⟨rfl,m',hm,i+1,out,H7,⟨wk J7,n7,a_,nD,rv,o7⟩,(stay I7).1,(stay I7).2,w7⟩
  |true=>
   rw[if_pos rfl] at q7
   refine Lx (Lx (ZR (he _ s7 σ6 H7 _ I7 q7) λy s8 ⟨v,H8,I8,r8,hl8,m',hm,w8⟩=>?_))
   obtain⟨J8,n8,o8⟩:=ZS I8
   have isl:s8.heap.IsList D a_.toArray:=⟨_,o8,rfl,nD,rfl⟩
   refine Lx (wpAny_list_append_plain (hsz:=by have:=rv.length;simp;lia) ⟨nD,o8⟩ λh' B_ hs'=>?_)
   obtain⟨nn,ob'⟩:=B_
   have ob2:h'.get? D=some {cls:= .type "list",data:= .seq (a_++[y]).toArray nn}:=by
    rw[ob',List.push_toArray]
   have keep:∀b o,b≠D->s8.heap.get? b=some o->h'.get? b=some o:=λb o hb e=>(hs'.2 b hb).trans e
   have J9:Inv (dU X own js scope C s H fp) (X.pn++pins) σ6 H8 {s8 with heap:=h'}:=J8.turned (t':=s8.toks) keep n8 Tn (.inr hD) Xo (λp hp=>ZQ p (by
    have B_:p∈([]:List (Addr×Obj))++(X.pn++pins):=hp;rw[Qr] at B_;exact B_))
   refine LK (LK ⟨rfl,m',hm,i+1,out++[v],H8,⟨wk J9,n8,a_++[y],nn,rv.append (.cons r8 .nil),ob2⟩,?_,(stay I8).2,w8⟩)
   exact T.keep _ _ _ (stay I8).1 λb hb o e=>keep b o (by rintro rfl;exact Dfp hb) e
end
def Kp (n:Nat)(PV:Nat->V->Prop):It:=⟨λi _=>i<n,λi H x H'=>H'=H/\PV i x,λi _=>n<=i⟩
def vK {M:Model}{A:Around}{E:Value->Shared->Prop}{s:Shared}{tg:Expr}{it:Addr}{u:Value}{Q:Unit->Shared->Prop}(hu:∀a,u≠ .ref a)(hQ:Q () s):wpAny M A (letOwnedTupleGo tg (.ref it) u) Q E s:=by
 unfold letOwnedTupleGo;cases tg<;>first
  |exact LK hQ
  |(cases u<;>first
    |exact LK hQ
    |exact absurd rfl (hu _))
def kP {P:Program}{w:World}{K:Za}{tg:Expr}{it:Addr}{n:Nat}{Pv:Nat->Value->Prop}{PV:Nat->V->Prop}{St:Nat->Heap->Prop}
  (W:∀A:Around,A.handled=none->Walks P w A it [it] [it] n Pv St) (hv:∀i u,Pv i u->(∀a,u≠ .ref a)/\∃x,RelV x u/\PV i x)
  (ho:∀i h,St i h->∃o,h.get? it=some o/\∀v,o.data≠ .cell v)
  (hk:∀i h h',St i h->(∀o,h.get? it=some o->h'.get? it=some o)->St i h')
  (Xs:∀(A:Around) (i:Nat) (s:Shared) (Q:Value->Shared->Prop) (E:Value->Shared->Prop),St i s.heap->Q (.ref it) s->wpAny (model P w) A (pyIter (.ref it)) Q E s):
  jD P w K tg (Kp n PV) [it] it (λi h=>St i h/\i<=n) where
 mem:=by simp
 obj:=λi h st b hb=>by
  have e:b=it:=by simpa using hb
  subst e;exact ho i h st.1
 keep:=λi h h' st k=>⟨hk i h h' st.1 λo e=>k it (by simp) o e,st.2⟩
 item:=by
  intro X hP hw hK hc i pins s σ H E I hf st hg;subst hP hw hK;obtain⟨f0,f1,f2,f3,f4,f5⟩:=hf it (by simp);refine(W X.A (I.ok.hd hc)).item i s _ _ hg st.1 λv h' tk YH e_ kk=>?_;obtain⟨v_,x,rx,px⟩:=hv i v YH;have I1:Inv X pins σ H {s with heap:=h',toks:=tk}:=I.turned (λb o hb e=>kk b o (by simpa using hb) e) f0 f1 f3 f4 f5;exact⟨v,rfl,vK v_ ⟨x,H,I1,rx,⟨rfl,px⟩,⟨e_,hg⟩,λb hb=>(hf b hb).1⟩⟩
 done:=by
  intro X hP hw hK hc i pins s σ H E I hf st hg;subst hP hw hK;obtain⟨f0,f1,f2,f3,f4,f5⟩:=hf it (by simp);have e:i=n:=RH st.2 hg;subst e;exact(W X.A (I.ok.hd hc)).done s _ _ st.1 λh' tk kk=>⟨rfl,I.turned (λb o hb e=>kk b o (by simpa using hb) e) f0 f1 f3 f4 f5⟩
 self:=λA i s Q E st h=>Xs A i s Q E st.1 h
def CV (c:Nat):V:= .str ⟨#[c]⟩
def DD (x:Str)(i:Nat)(v:V):Prop:=∃c,x.cps[i]?=some c/\v=CV c
def Its (x:Str):It:=Kp x.cps.size (DD x)
def yP {x:Str}{i:Nat}{u:Value}(h:SignAt x i u):(∀a,u≠ .ref a)/\∃v,RelV v u/\DD x i v:=by
 obtain⟨c,t,hc,rfl⟩:=h;exact⟨λa z=>(by cases z),CV c,⟨t,rfl⟩,c,hc,rfl⟩
def xo {P:Program}{w:World}{K:Za}{tg:Expr}(it:Addr)(x:Str)(t:Tok):jD P w K tg (Its x) [it] it (λi h=>h.IsStrIter it "str_ascii_iterator" x t i/\i<=x.cps.size):=
 kP (λA hh=>Walks.strAscii hh it x t) (λi u h=>yP h)
  (λi h st=>by obtain⟨o,e,c,d⟩:=st;exact⟨o,e,λv z=>by rw[d] at z;cases z⟩)
  (λi h h' st k=>let ⟨o,e,r⟩:=st;⟨o,k o e,r⟩)
  (λA i s Q E st h=>wpAny_pyIter_striter_ascii st h)
def xc {P:Program}{w:World}{K:Za}{tg:Expr}(it:Addr)(x:Str)(t:Tok):jD P w K tg (Its x) [it] it (λi h=>h.IsStrIter it "str_iterator" x t i/\i<=x.cps.size):=
 kP (λA hh=>Walks.strWide hh it x t) (λi u h=>yP h)
  (λi h st=>by obtain⟨o,e,c,d⟩:=st;exact⟨o,e,λv z=>by rw[d] at z;cases z⟩)
  (λi h h' st k=>let ⟨o,e,r⟩:=st;⟨o,k o e,r⟩)
  (λA i s Q E st h=>wpAny_pyIter_striter_wide st h)
section
variable {X:Cx} {tg:Expr}
def rIter (K:Za)(v:V)(H:Hp)(R:It->Hp->Prop):Prop:=
 (∃a,v= .ref a/\(∃xs,SqL K H a xs)/\R (Itl K a) H)\/(∃a,v= .ref a/\(∃xs,SqT K H a xs)/\R (Jj K a) H)\/(∃x,v= .str x/\R (Its x) H)
def Ar {pins:List (Addr×Obj)}{σ:St}{H1:Hp}{s1:Shared}{x:V}{v:Value}{R:It->Hp->Prop}(I1:Inv X pins σ H1 s1)(r1:RelV x v)(q1:rIter X.K x H1 R):
  wpAny (model X.prog X.w) X.A (pyIter v) (IX X pins σ tg R) X.xe s1:=by
 have YI:∀b∈[s1.heap.objs.size],gN X pins H1 b:=λb hb=>by
  have e:b=s1.heap.objs.size:=by simpa using hb
  subst e;exact I1.fpOk (Lp _) (I1.hok.fresh (Lp _))
 rcases q1 with⟨a,e,⟨xs,hq⟩,q⟩|⟨a,e,⟨xs,hq⟩,q⟩|⟨z,e,q⟩
 .subst e
  cases r1
  obtain⟨a_,rv,p,hz⟩:=I1.list hq
  refine OO p.isList ?_
  exact⟨s1.heap.objs.size,[s1.heap.objs.size],_,_,H1,rfl,I1.kept (t':=s1.toks) λb o e=>Ly _ e,xv a _,⟨_,LY _ rfl,rfl,rfl⟩,YI,q⟩
 .subst e
  cases r1
  obtain⟨a_,rv,p,hz⟩:=I1.tuple hq
  refine wpAny_pyIter_tuple (show s1.heap.IsTuple a a_.toArray from p) ?_
  exact⟨s1.heap.objs.size,[s1.heap.objs.size],_,_,H1,rfl,I1.kept (t':=s1.toks) λb o e=>Ly _ e,vi a _,⟨_,LY _ rfl,rfl,rfl⟩,YI,q⟩
 .subst e
  obtain⟨t,rfl⟩:=r1
  cases ha:z.cps.all (·<128) with
  |false=>exact wpAny_pyIter_wide ha ⟨s1.heap.objs.size,[s1.heap.objs.size],_,_,H1,rfl,I1.kept (t':=s1.toks) λb o e=>Ly _ e,xc _ z t,⟨⟨_,LY _ rfl,rfl,rfl⟩,Ov _⟩,YI,q⟩
  |true=>exact wpAny_pyIter_ascii ha ⟨s1.heap.objs.size,[s1.heap.objs.size],_,_,H1,rfl,I1.kept (t':=s1.toks) λb o e=>Ly _ e,xo _ z t,⟨⟨_,LY _ rfl,rfl,rfl⟩,Ov _⟩,YI,q⟩
end
section
variable {X:Cx}
theorem qk:∀{bs:List Bool} {us:List Value},Vals (bs.map V.bl) us->us=bs.map Value.bool
 |[],_,.nil=>rfl
 |b::bs,_,.cons r t=>by
  have e:_=Value.bool b:=r;rw[e,qk t];rfl
def uA (bs:List Bool):((List.range bs.length).all λi=>(bs[i]?).getD true)=bs.all id:=by
 rw[LQ,LZ,LZ];constructor
 .intro h b hb;obtain⟨i,hi,rfl⟩:=Ss hb;have:=h i (OC.mpr hi);simpa [Lm hi] using this
 .intro h i hi;have UC:=OC.mp hi;simpa [Lm UC] using h _ (LM UC)
def uO (bs:List Bool):((List.range bs.length).any λi=>(bs[i]?).getD true)=bs.any id:=by
 rw[LQ,Nr,Nr];constructor
 .rintro⟨i,hi,e⟩;have UC:=OC.mp hi;simp only[Lm UC,OU] at e;exact⟨_,LM UC,e⟩
 .rintro⟨b,hb,e⟩;obtain⟨i,hi,rfl⟩:=Ss hb;exact⟨i,OC.mpr hi,by simp only[Lm hi,OU];exact e⟩
def wm {s:Shared}{h':Heap}{o:Obj}(hk:∀b x,b∉[s.heap.objs.size]->(s.heap.push o).get? b=some x->h'.get? b=some x):∀b x,s.heap.get? b=some x->h'.get? b=some x:=
 λb x e=>hk b x (λhm=>by rw[LV.mp hm] at e;exact Ni _ (LI e)) (Ly _ e)
def tT (K:Za):List V->Hp->VK->Prop:=λxs H Q=>∃(p:Addr) (bs:List Bool),xs=[.ref p]/\SqL K H p (bs.map V.bl)/\Q (.bl (bs.all id)) H
def Gj (K:Za):List V->Hp->VK->Prop:=λxs H Q=>∃(p:Addr) (bs:List Bool),xs=[.ref p]/\SqL K H p (bs.map V.bl)/\Q (.bl (bs.any id)) H
def xn (hc:X.calm=true):CallR X (.builtin "all") (tT X.K):=by
 intro pins s σ H xs us Q I r h;obtain⟨l,bs,rfl,hx,q⟩:=h;obtain⟨u,rfl,ru⟩:=O7 r;cases ru;obtain⟨a_,rv,ht,hz⟩:=I.list hx;have e:=qk rv;subst e;have hl:=ht.isList;have u_:l<s.heap.objs.size:=ht.lt;refine call_all_walk (OO hl ?_);refine⟨s.heap.objs.size,[s.heap.objs.size,l],[s.heap.objs.size],(bs.map Value.bool).toArray.size,_,_,λi=>(bs[i]?).getD true,rfl,Walks.list (A:=X.A.in1) (I.ok.hd hc) _ l (Ma u_) (bs.map Value.bool).toArray,
  ⟨⟨_,LY _ rfl,rfl,rfl⟩,hl.push _⟩,λi v s' Q' E' hP hQ=>?_,λh' tk hk=>?_⟩
 .have Ue:(bs.map Value.bool)[i]?=some v:=by simpa using hP
  rw[Lo] at Ue;cases e:bs[i]? with
  |none=>rw[e] at Ue;cases Ue
  |some b=>
   rw[e] at Ue
   cases Ue
   simp only[e,OU] at hQ
   exact MY hQ
 .have e:((List.range (bs.map Value.bool).toArray.size).all λi=>(bs[i]?).getD true)=bs.all id:=by
   rw[LR,Ll];exact uA bs
  rw[e];exact⟨.bl (bs.all id),H,I.kept (wm hk),rfl,q⟩
def wJ (hc:X.calm=true):CallR X (.builtin "any") (Gj X.K):=by
 intro pins s σ H xs us Q I r h;obtain⟨l,bs,rfl,hx,q⟩:=h;obtain⟨u,rfl,ru⟩:=O7 r;cases ru;obtain⟨a_,rv,ht,hz⟩:=I.list hx;have e:=qk rv;subst e;have hl:=ht.isList;have u_:l<s.heap.objs.size:=ht.lt;refine call_any_walk (OO hl ?_);refine⟨s.heap.objs.size,[s.heap.objs.size,l],[s.heap.objs.size],(bs.map Value.bool).toArray.size,_,_,λi=>(bs[i]?).getD true,rfl,Walks.list (A:=X.A.in1) (I.ok.hd hc) _ l (Ma u_) (bs.map Value.bool).toArray,
  ⟨⟨_,LY _ rfl,rfl,rfl⟩,hl.push _⟩,λi v s' Q' E' hP hQ=>?_,λh' tk hk=>?_⟩
 .have Ue:(bs.map Value.bool)[i]?=some v:=by simpa using hP
  rw[Lo] at Ue;cases e:bs[i]? with
  |none=>rw[e] at Ue;cases Ue
  |some b=>
   rw[e] at Ue
   cases Ue
   simp only[e,OU] at hQ
   exact MY hQ
 .have e:((List.range (bs.map Value.bool).toArray.size).any λi=>(bs[i]?).getD true)=bs.any id:=by
   rw[LR,Ll];exact uO bs
  rw[e];exact⟨.bl (bs.any id),H,I.kept (wm hk),rfl,q⟩
def HQ:V->Option Int->Option Int->Hp->VK->Prop:=λx lo hi H Q=>∃z,x= .str z/\z.length<=sizeLine/\Q (.str (Txt.slice z lo hi)) H
def EG:SlR X HQ:=by
 intro pins s σ H x v vl vu lo hi sl Q I rx hs pl pu h;obtain⟨z,rfl,hz,q⟩:=h;obtain⟨t,rfl⟩:=rx;refine⟨"str",_,F.slot_str_getitem.lookup,PF _ _ _,?_⟩;have fin:∀t' k,EP X pins σ Q (.str (Txt.slice z lo hi) t') {s with toks:=k}:=λt' k=>⟨.str _,H,I.tok _,⟨t',rfl⟩,q⟩
 cases pl with
 |none=>
  cases pu with
  |none=>exact Ow (l:=none) (u:=none) (st:=none) hs rfl (Qu ⟨Mh (RI z _ _) hz,fin⟩)
  |int j tj=>exact Ow (l:=none) (u:=some (j,tj)) (st:=none) hs rfl (Qu ⟨Mh (RI z _ _) hz,fin⟩)
 |int i ti=>
  cases pu with
  |none=>exact Ow (l:=some (i,ti)) (u:=none) (st:=none) hs rfl (Qu ⟨Mh (RI z _ _) hz,fin⟩)
  |int j tj=>exact Ow (l:=some (i,ti)) (u:=some (j,tj)) (st:=none) hs rfl (Qu ⟨Mh (RI z _ _) hz,fin⟩)
def IW (K:Za):V->Option Int->Option Int->Hp->VK->Prop:=λx lo hi H Q=>GN K x lo hi H Q\/IL K x lo hi H Q\/HQ x lo hi H Q
def EB:SlR X (IW X.K):=sl_list.or (sl_tup.or EG)
def RelV.plainB {x:V}{v:Value}(r:RelV x v)(b:Bool):plainIs v (.bool b)=true/\(v==Value.bool b)=decide (x= .bl b):=by
 cases x with
 |non=>cases r;exact⟨rfl,rfl⟩
 |bl c=>cases r;exact⟨rfl,by cases b<;>cases c<;>rfl⟩
 |int _=>obtain⟨t,rfl⟩:=r;exact⟨rfl,rfl⟩
 |str _=>obtain⟨t,rfl⟩:=r;exact⟨rfl,rfl⟩
 |byt _=>obtain⟨t,rfl⟩:=r;exact⟨rfl,rfl⟩
 |flt _=>obtain⟨t,rfl⟩:=r;exact⟨rfl,rfl⟩
 |ref _=>cases r;exact⟨rfl,rfl⟩
 |ty _=>cases r;exact⟨rfl,rfl⟩
def Ks (neg:Bool):R2:=λx y H Q=>(y= .non\/∃b,y= .bl b)/\Q (.bl (if neg then !decide (x=y) else decide (x=y))) H
def dv:OpR X (compareOp .IsNot) (Ks true):=by
 intro pins s σ H x y v u Q I rx ry h;obtain⟨hy,q⟩:=h;rcases hy with rfl|⟨b,rfl⟩
 .cases ry;exact isnot_none_gen ⟨.bl _,H,I,by rw[rx.none_iff];rfl,q⟩
 .cases ry;exact wpAny_isNot_plain (rx.plainB b).1 ⟨.bl _,H,I,by rw[(rx.plainB b).2];rfl,q⟩
def TyB (K:Za)(H:Hp):V->String->Prop
 | .non,t=>t="NoneType"
 | .bl _,t=>t="bool"
 | .int _,t=>t="int"
 | .str _,t=>t="str"
 | .ref a,t=>(t="list"/\∃xs,SqL K H a xs)\/(t="tuple"/\∃xs,SqT K H a xs)\/(t="dict"/\∃kvs,Rd H a (.dK kvs))
 |_,_=>False
def cg (t T:String):Bool:=t==T||(t=="bool"&&T=="int")
def CQ (K:Za):List V->Hp->VK->Prop:=λxs H Q=>∃x T t,xs=[x,.ty T]/\TyB K H x t/\(T="str"\/T="int"\/T="bool"\/T="list"\/T="tuple"\/T="dict")/\Q (.bl (cg t T)) H
def ax {K:Za}{t T:String}(ht:t="NoneType"\/t="bool"\/t="int"\/t="str"\/t="list"\/t="tuple"\/t="dict")(hT:T="str"\/T="int"\/T="bool"\/T="list"\/T="tuple"\/T="dict"):
  PySem.W.kitOne K (.type t) (.type T)=some (cg t T):=by
 rcases ht with rfl|rfl|rfl|rfl|rfl|rfl|rfl<;>rcases hT with rfl|rfl|rfl|rfl|rfl|rfl<;>rfl
def call_isi:CallR X (.builtin "isinstance") (CQ X.K):=by
 intro pins s σ H xs us Q I r h;obtain⟨x,T,t,rfl,ty,hT,q⟩:=h;obtain⟨u,c,rfl,rx,rc⟩:=kW r;cases rc;have fin:∀tk,EP X pins σ Q (.bool (cg t T)) {s with toks:=tk}:=λtk=>⟨.bl _,H,I.tok tk,rfl,q⟩
 cases x with
 |non=>cases ty;cases (show u=Value.none from rx);exact NU PySem.W.kitx_none I.kIn True.intro (ax (by simp) hT) (λz=>nomatch z) fin
 |bl y=>cases ty;cases (show u=Value.bool y from rx);exact NU PySem.W.kitx_bool I.kIn True.intro (ax (by simp) hT) (λz=>nomatch z) fin
 |int i=>cases ty;obtain⟨t,q⟩:=(show ∃t,u=Value.int i t from rx);cases q;exact NU PySem.W.kitx_int I.kIn True.intro (ax (by simp) hT) (λz=>nomatch z) fin
 |str y=>cases ty;obtain⟨t,q⟩:=(show ∃t,u=Value.str y t from rx);cases q;exact NU PySem.W.kitx_str I.kIn True.intro (ax (by simp) hT) (λz=>nomatch z) fin
 |byt _=>exact False.elim ty
 |flt _=>exact False.elim ty
 |ty _=>exact False.elim ty
 |ref a=>
  cases (show u=Value.ref a from rx)
  rcases ty with⟨rfl,ys,hy⟩|⟨rfl,ys,hy⟩|⟨rfl,kvs,hy⟩
  .obtain⟨a_,_,⟨o,n,e,c,_,_⟩,_⟩:=I.list hy
   exact NU PySem.W.kitx_list I.kIn ⟨o,e,c⟩ (ax (by simp) hT) (λz=>nomatch z) fin
  .obtain⟨a_,_,⟨o,e,c,_⟩,_⟩:=I.tuple hy
   exact NU PySem.W.kitx_tuple I.kIn ⟨o,e,c⟩ (ax (by simp) hT) (λz=>nomatch z) fin
  .obtain⟨_,_,vs,_,o,es,ep,h1,h2,_⟩:=W0 I.hok hy
   exact NU Tf I.kIn ⟨o,h1,h2.1⟩ (ax (by simp) hT) (λz=>nomatch z) fin
end
section
variable {X:Cx}
def pK (K:Za):R2:=λx y H Q=>Cz (λi j=> .int (i+j)) x y H Q\/(∃i j,x= .str i/\y= .str j/\i.length+j.length<=sizeLine/\Q (.str (i++j)) H)\/HS x y H Q\/Dx K x y H Q
def Cq:OpR X (binaryOp .Add) (pK X.K):=op_add.or (op_add_str.or (op_cat.or CJ))
def op_in_sgn:OpR X (compareOp .In) (λx y H Q=>∃c j,x=CV c/\y= .str j/\Q (.bl (decide (c∈j.cps.toList))) H):=by
 intro pins s σ H x y v u Q I rx ry h;obtain⟨c,j,rfl,rfl,q⟩:=h;refine wV pins s σ H _ _ v u Q I rx ry ⟨⟨#[c]⟩,j,rfl,rfl,?_⟩;rw[StrLaws.found_one];exact q
def op_notIn_sgn:OpR X (compareOp .NotIn) (λx y H Q=>∃c j,x=CV c/\y= .str j/\Q (.bl (!decide (c∈j.cps.toList))) H):=by
 intro pins s σ H x y v u Q I rx ry h;obtain⟨c,j,rfl,rfl,q⟩:=h;refine qg pins s σ H _ _ v u Q I rx ry ⟨⟨#[c]⟩,j,rfl,rfl,?_⟩;rw[StrLaws.found_one];exact q
def uE (hu:X.A.units+1<cLine):OpR X (compareOp .In) (λy x H Q=>∃a o,x= .ref a/\di H a y o/\Q (.bl o.isSome) H):=by
 intro pins s σ H y x v u Q I ry rx h;obtain⟨a,o,rfl,g,q⟩:=h;cases rx;exact JS hu I g ry λs' I'=>⟨.bl _,H,I',rfl,q⟩
def nW (hu:X.A.units+1<cLine):OpR X (compareOp .NotIn) (λy x H Q=>∃a o,x= .ref a/\di H a y o/\Q (.bl (!o.isSome)) H):=by
 intro pins s σ H y x v u Q I ry rx h;obtain⟨a,o,rfl,g,q⟩:=h;cases rx;exact CU hu I g ry λs' I'=>⟨.bl _,H,I',rfl,q⟩
def xt (K:Za):R2:=λx y H Q=>(∃c j,x=CV c/\y= .str j/\Q (.bl (decide (c∈j.cps.toList))) H)\/Jb K false x y H Q\/(∃a o,y= .ref a/\di H a x o/\Q (.bl o.isSome) H)
def jN (K:Za):R2:=λx y H Q=>(∃c j,x=CV c/\y= .str j/\Q (.bl (!decide (c∈j.cps.toList))) H)\/Jb K true x y H Q\/(∃a o,y= .ref a/\di H a x o/\Q (.bl (!o.isSome)) H)
def Fq (hu:X.A.units+1<cLine):OpR X (compareOp .In) (xt X.K):=op_in_sgn.or (op_in_seq.or (uE hu))
def wW (hu:X.A.units+1<cLine):OpR X (compareOp .NotIn) (jN X.K):=op_notIn_sgn.or (op_notIn_seq.or (nW hu))
def IA:R2:=λx y H Q=>Cz (λi j=> .bl (decide (i<j))) x y H Q\/(∃i j,x= .str i/\y= .str j/\Q (.bl (decide (i.cps.toList<j.cps.toList))) H)
def uR:OpR X (compareOp .Lt) IA:=op_lt.or xH
def BR (hu:X.A.units+1<cLine):IxR X (λx y H Q=>∃a v,x= .ref a/\di H a y (some v)/\Q v H):=by
 intro value slice pins s σ H x y v u Q I rx ry h hs;obtain⟨a,z,rfl,g,q⟩:=h;cases rx;exact tail_any (rT I g) PySem.F.slot_dict_getitem.lookup (xT hu I g ry λw2 s' I' r'=>⟨z,H,I',r',q⟩) hs
def uj (K:Za):R2:=λx y H Q=>Ko K x y H Q\/(∃a v,x= .ref a/\di H a y (some v)/\Q v H)
def FY (hu:X.A.units+1<cLine):IxR X (uj X.K):=ix_seq.or (BR hu)
def uq (K:Za):List V->Hp->VK->Prop:=λxs H Q=>(∃x n,xs=[x]/\Hl K x H n/\Q (.int n) H)\/(∃a kvs,xs=[V.ref a]/\Rd H a (.dK kvs)/\Q (.int kvs.length) H)
def call_lenX:CallR X (.builtin "len") (uq X.K):=by
 refine call_len.or ?_;intro pins s σ H xs us Q I r h;obtain⟨a,kvs,rfl,ha,q⟩:=h;obtain⟨u,rfl,ru⟩:=O7 r;cases ru;exact Hm I ha λt s' I'=>⟨.int kvs.length,H,I',⟨t,rfl⟩,q⟩
end
def M7 (P:Program)(w:World)(K:Za)(mg:Str->Option Value)(base:Heap)(CX:rD)(k:Nat)(x:Str)(ps:List Str)(p_:List V)(sp:Sp):Prop:=
 ∃f fd ds,u6 P w K mg base CX k f fd ps sp/\mg x=some (.ref f)/\PySem.W.keepIn K (.ref f)=true/\Binds K fd ps ds/\Vals p_ ds
section
variable {X:Cx} {CX:rD} {k:Nat} {x:Str} {ps:List Str} {p_:List V} {sp:Sp} {E:XK} {e:Expr} {es:List Expr} {t:TA} {p pos:Pos}
def yv (C:M7 X.prog X.w X.K X.mg X.base CX k x ps p_ sp)(hr:Room k X.A)(hx:dA CX X E)(ha:PA X (e::es) t)(hg:Gl X x:=by rfl)
  (q_:(x==("__debug__":Str))=false:=by decide) (he:starEach (e::es) X.env=(false,eval e X.env)::starEach es X.env:=by rfl) (z_:(backTo pos (starEach es X.env)).any (·.1)=false:=by rfl):
  PE X (.Call (.Name x p) (e::es) [] pos) (si sp p_ E t):=by
 obtain⟨f,fd,ds,F,hm,hk,hb,hd⟩:=C
 exact BM F hr hg hm hk hb hd hx ha q_ he z_
def Iu (mg:Str->Option Value)(x:Str)(v:V):Prop:=∃u,mg x=some u/\RelV v u
def FT {v:V}(h:Iu X.mg x v)(hg:Gl X x:=by rfl)(hd:(x==("__debug__":Str))=false:=by decide):PE X (.Name x pos) (tC v):=by
 obtain⟨u,hm,r⟩:=h;exact Df hg hm r hd
def u4 {k:Nat}{A:Around}(r:Room k A):A.units+1<cLine:=by have:=r.un;lia
end
section
variable {K:Za} {σ:St} {H:Hp} {Q:VK} {D:sZ} {nx bk ct:St->Hp->Prop} {rt:VK}
def Iz {i:Nat}{v:V}(h:σ[i]?=some (some v))(q:Q v H):zQ i σ H Q:=⟨v,h,q⟩
def KJ {v:V}(q:Q v H):tC v σ H Q:=q
def Ke {r:R2}{ta tb:TE}(q:ta σ H λx H1=>tb σ H1 λy H2=>r x y H2 Q):Cd r ta tb σ H Q:=q
def EX {t:TE}{Qb:Bool->Hp->Prop}(q:t σ H λx H'=>∃k,x= .bl k/\Qb k H'):AN t σ H Qb:=q
def JJ {b:Bool}{Qb:Bool->Prop}(q:Qb b):∃k,V.bl b= .bl k/\Qb k:=⟨b,rfl,q⟩
def HR {b:Bool}{Qb:Bool->Prop}(q:Qb b):∃k,AR K (V.bl b) H k/\Qb k:=⟨b,rfl,q⟩
def HH {t:TT}{Qb:Bool->Hp->Prop}(q:t σ H λc H1=>Qb (!c) H1):Eu t σ H Qb:=q
def Hh {t u:TT}{Qb:Bool->Hp->Prop}(q:t σ H λc H1=>if c=true then u σ H1 Qb else Qb false H1):Fx t u σ H Qb:=q
def JE {t u:TT}{Qb:Bool->Hp->Prop}(q:t σ H λc H1=>if c=true then Qb true H1 else u σ H1 Qb):JL t u σ H Qb:=q
def El {ta tb:TE}(q:ta σ H λx H1=>∃c,x= .bl c/\if c=true then tb σ H1 Q else Q (.bl false) H1):AM ta tb σ H Q:=q
def GG {ta tb:TE}(q:ta σ H λx H1=>∃c,x= .bl c/\if c=true then Q (.bl true) H1 else tb σ H1 Q):Fs ta tb σ H Q:=q
def Ec {ta:TE}(q:ta σ H λx H1=>∃c,x= .bl c/\Q (.bl (!c)) H1):AX ta σ H Q:=q
def Hv {Qa:List V->Hp->Prop}(q:Qa [] H):um σ H Qa:=q
def Gi {ta:TE}{tr:TA}{Qa:List V->Hp->Prop}(q:ta σ H λx H1=>tr σ H1 λxs H2=>Qa (x::xs) H2):vO ta tr σ H Qa:=q
def EE {sp:Sp}{p_:List V}{E:XK}{t:TA}(q:t σ H λvs H1=>sp (vs++p_) H1 Q E):si sp p_ E t σ H Q:=q
def JI {r:List V->Hp->VK->Prop}{t:TA}(q:t σ H λvs H1=>r vs H1 Q):Gn r t σ H Q:=q
def Jr {r:V->Option Int->Option Int->Hp->VK->Prop}{te:TE}{tl th:TO}(q:te σ H λx H1=>tl σ H1 λl H2=>th σ H2 λu H3=>r x l u H3 Q):Jy r te tl th σ H Q:=q
def zl {Qo:Option Int->Hp->Prop}(q:Qo none H):qE σ H Qo:=q
def EJ {t:TE}{Qo:Option Int->Hp->Prop}(q:t σ H λx H1=>∃i,x= .int i/\Qo (some i) H1):zU t σ H Qo:=q
def IT {i:Int}{Qo:Int->Prop}(q:Qo i):∃j,V.int i= .int j/\Qo j:=⟨i,rfl,q⟩
def xk {i j:Int}(q:Q (.int (i+j)) H):pK K (.int i) (.int j) H Q:= .inl ⟨i,j,rfl,rfl,q⟩
def U0 {i j:Str}(h:i.length+j.length<=sizeLine)(q:Q (.str (i++j)) H):pK K (.str i) (.str j) H Q:= .inr (.inl ⟨i,j,rfl,rfl,h,q⟩)
def Ka {g:Int->Int->V}{i j:Int}(q:Q (g i j) H):Cz g (.int i) (.int j) H Q:=⟨i,j,rfl,rfl,q⟩
def KY {C:Int->Int->Prop}{g:Int->Int->V}{i j:Int}(h:C i j)(q:Q (g i j) H):rI C g (.int i) (.int j) H Q:=⟨i,j,rfl,rfl,h,q⟩
def Ah {i j:Int}(q:Q (.bl (decide (i<j))) H):IA (.int i) (.int j) H Q:= .inl ⟨i,j,rfl,rfl,q⟩
def tp {i j:Int}(q:Q (.bl (decide (i=j))) H):Jm (.int i) (.int j) H Q:=⟨rfl,by rw[jV];rw[show(i==j)=decide (i=j) from Qd i j];exact q⟩
def rF {i j:Str}(q:Q (.bl (decide (i=j))) H):Jm (.str i) (.str j) H Q:=⟨rfl,by rw[qx];rw[show(i==j)=decide (i=j) from Qd i j];exact q⟩
def AK {c:Nat}{j:Str}(q:Q (.bl (decide (c∈j.cps.toList))) H):xt K (CV c) (.str j) H Q:= .inl ⟨c,j,rfl,rfl,q⟩
def pF {y:Str}(h:y.length<=sizeLine)(q:Q (.int y.length) H):uq K [.str y] H Q:= .inl ⟨.str y,y.length,rfl,⟨h,rfl⟩,q⟩
def p9 {p:Addr}{xs:List V}(h:SqL K H p xs)(q:Q (.int xs.length) H):uq K [.ref p] H Q:= .inl ⟨.ref p,xs.length,rfl,.inl ⟨xs,h,rfl⟩,q⟩
def xZ {p:Addr}{xs:List V}(h:SqT K H p xs)(q:Q (.int xs.length) H):uq K [.ref p] H Q:= .inl ⟨.ref p,xs.length,rfl,.inr ⟨xs,h,rfl⟩,q⟩
def iV {p:Addr}{kvs:List (i6×V)}(h:Rd H p (.dK kvs))(q:Q (.int kvs.length) H):uq K [.ref p] H Q:= .inr ⟨p,kvs,rfl,h,q⟩
def k9 {p:Addr}{xs:List V}{i:Int}{v:V}(h:SqL K H p xs)(e:rJ xs i=some v)(q:Q v H):uj K (.ref p) (.int i) H Q:= .inl (.inl ⟨p,xs,i,v,rfl,rfl,h,e,q⟩)
def b5 {p:Addr}{xs:List V}{i:Int}{v:V}(h:SqT K H p xs)(e:rJ xs i=some v)(q:Q v H):uj K (.ref p) (.int i) H Q:= .inl (.inr (.inl ⟨p,xs,i,v,rfl,rfl,h,e,q⟩))
def mU {z:Str}{i:Int}{c:Nat}(hz:z.length<=sizeLine)(e:rJ z.cps.toList i=some c)(q:Q (CV c) H):uj K (.str z) (.int i) H Q:= .inl (.inr (.inr ⟨z,i,c,rfl,rfl,hz,e,q⟩))
def F2 {p:Addr}{y v:V}(g:di H p y (some v))(q:Q v H):uj K (.ref p) y H Q:= .inr ⟨p,v,rfl,g,q⟩
def kD {p:Addr}{xs:List V}{lo hi:Option Int}(h:SqL K H p xs)(q:∀p,H p=none->Q (.ref p) (upd H p (.lst (fq xs lo hi)))):IW K (.ref p) lo hi H Q:= .inl ⟨p,xs,rfl,h,q⟩
def pd {l b:Addr}{xs zs:List V}(h1:H l=some (.lst xs))(h2:H b=some (.lst zs))(hz:xs.length+zs.length<=sizeLine)(q:∀p,H p=none->Q (.ref p) (upd H p (.lst (xs++zs)))):pK K (.ref l) (.ref b) H Q:= .inr (.inr (.inl ⟨l,b,xs,zs,rfl,rfl,h1,h2,hz,q⟩))
def Ik {neg:Bool}{x:V}(q:Q (.bl (if neg then !decide (x= .non) else decide (x= .non))) H):Ks neg x .non H Q:=⟨.inl rfl,q⟩
def cm {x:V}{t T:String}(ty:TyB K H x t)(hT:T="str"\/T="int"\/T="bool"\/T="list"\/T="tuple"\/T="dict")(q:Q (.bl (cg t T)) H):CQ K [x,.ty T] H Q:=⟨x,T,t,rfl,ty,hT,q⟩
def jq {p:Addr}{bs:List Bool}(h:SqL K H p (bs.map V.bl))(q:Q (.bl (bs.all id)) H):tT K [.ref p] H Q:=⟨p,bs,rfl,h,q⟩
def IB {t:TA}(q:t σ H λxs H1=>xs.length<=sizeLine/\∀p,H1 p=none->Q (.ref p) (upd H1 p (.tup xs))):Eo t σ H Q:=q
def GJ {t:TA}(q:t σ H λxs H1=>xs.length<=sizeLine/\∀p,H1 p=none->Q (.ref p) (upd H1 p (.lst xs))):FD t σ H Q:=q
def DA {t u:TS}(q:t ⟨u ⟨nx,rt,bk,ct⟩,rt,bk,ct⟩ σ H):Ag t u ⟨nx,rt,bk,ct⟩ σ H:=q
def Ep (q:nx σ H):yI ⟨nx,rt,bk,ct⟩ σ H:=q
def GQ {te:TE}(q:te σ H rt):Ex te ⟨nx,rt,bk,ct⟩ σ H:=q
def Gh {te:TE}(q:te σ H λ_ H1=>nx σ H1):zJ te ⟨nx,rt,bk,ct⟩ σ H:=q
def Ij {c:TT}{t u:TS}(q:c σ H λb H1=>if b=true then t ⟨nx,rt,bk,ct⟩ σ H1 else u ⟨nx,rt,bk,ct⟩ σ H1):EF c t u ⟨nx,rt,bk,ct⟩ σ H:=q
def Iv {te:TE}{g:TG}(q:te σ H λx H1=>g x σ H1 nx):uV te g ⟨nx,rt,bk,ct⟩ σ H:=q
def Fi {i:Nat}{v:V}{Qs:St->Hp->Prop}(q:Qs (σ.set i (some v)) H):R9 i v σ H Qs:=q
end
section
variable {X:Cx} {pins:List (Addr×Obj)} {σ:St} {H:Hp} {s:Shared} {d:Addr} {kvs:List (i6×V)} {o:Obj}
abbrev E7 (d:Addr)(o:Obj)(kvs:List (i6×V))(H:Hp):Hp:=upd H d (.frz o (.dK kvs))
def Inv.freeze (I:Inv X pins σ H s)(h:H d=some (.dK kvs))(ho:s.heap.get? d=some o):Inv X pins σ (E7 d o kvs H) s:=by
 have nd:∀b u,H b=some u->u≠ .dK kvs->b≠d:=λb u e n z=>by
  subst z;rw[h] at e;exact n (LO e).symm
 have hok:HOk X.prog X.w (E7 d o kvs H) s.heap:=λb u e=>by
  have st:∀{a:Addr} {u:HO},ObjOk X.prog X.w H s.heap a u->ObjOk X.prog X.w (E7 d o kvs H) s.heap a u:=fun{a u} x=>
   x.stay (λc v _ q=>q) (λc q=>by unfold E7;rw[d9 (nd c _ q (by intro z;cases z))];exact q) λc xs q=>by unfold E7;rw[d9 (nd c _ q (by intro z;cases z))];exact q
  by_cases hb:b=d
  .subst hb;unfold E7 at e;rw[d8] at e;cases e;exact⟨ho,st (I.hok _ _ h)⟩
  .unfold E7 at e;rw[d9 hb] at e;exact st (I.hok b u e)
 have q:=I.un (H':=E7 d o kvs H) (h':=s.heap) (t':=s.toks) ⟨λb o e n hb hx=>e,λb o e n hb hx=>⟨o.slots,e⟩,λb o e n hx=>by
  unfold E7;rw[d9 (λz=>by subst z;rw[h] at n;cases n)];exact n,λb o e _=>⟨o,e⟩,λb xs e=>by unfold E7;rw[d9 (nd b _ e (by intro z;cases z))];exact e,
  λb o u e=>by unfold E7;rw[d9 (nd b _ e (by intro z;cases z))];exact e,λb ps e=>⟨#[],by unfold E7;rw[d9 (nd b _ e (by intro z;cases z))];simpa using e⟩⟩ hok
 exact q
def Hz:Option HO->Option HO
 |some (.frz _ u)=>some u
 |o=>o
def thaw (d:Addr)(H:Hp):Hp:=λb=>if b=d then Hz (H d) else H b
theorem M8 {b:Addr}(h:b≠d):thaw d H b=H b:=by unfold thaw;rw[if_neg h]
theorem qO {u:HO}(h:H d=some (.frz o u)):thaw d H d=some u:=by unfold thaw;rw[if_pos rfl,h];rfl
def zK {u:HO}(h:H d=some (.frz o u)):thaw d H=upd H d u:=by grind [qO,d8,M8,d9]
def vV (h:∀o u,H d≠some (.frz o u)):thaw d H=H:=by
 funext b;by_cases hb:b=d
 .subst hb;unfold thaw;rw[if_pos rfl];cases q:H b with
  |none=>rfl
  |some u=>cases u with
   |frz o u=>exact absurd q (h o u)
   |_=>rfl
 .exact M8 hb
def Dd (X:Cx)(th:Hp->Hp):Prop:=∀(pins:List (Addr×Obj)) (σ:St) (H:Hp) (s:Shared),Inv X pins σ H s->Inv X pins σ (th H) s
def jQ:Dd X id:=λ_ _ _ _ I=>I
def xG (hn:∀o u,X.H₀ d≠some (.frz o u)):Dd X (thaw d):=λpins σ H s I=>by
 by_cases hf:∃o u,H d=some (.frz o u)
 .obtain⟨o,u,h⟩:=hf;rw[zK h];have nd:∀b v,H b=some v->v≠ .frz o u->b≠d:=λb v e n z=>by
   subst z;rw[h] at e;exact n (LO e).symm
  have nn:∀b,H b=none->b≠d:=λb e z=>by subst z;rw[h] at e;cases e
  have st:∀{a:Addr} {v:HO},ObjOk X.prog X.w H s.heap a v->ObjOk X.prog X.w (upd H d u) s.heap a v:=fun{a v} x=>
   x.stay (λc v _ q=>q) (λc q=>by rw[d9 (nd c _ q (by intro z;cases z))];exact q) λc xs q=>by rw[d9 (nd c _ q (by intro z;cases z))];exact q
  refine⟨I.ok,I.os,I.bare,⟨I.base.keep,I.base.slot,λb ob e n hx=>?_,I.base.there,λb xs e=>?_,λb ob v e=>?_,λb ps e=>?_⟩,I.loc,I.cell,?_,λx c e=>?_,λp hp=>?_,λb v e=>?_,I.len⟩
  .have q:=I.base.free b ob e n hx;rw[d9 (nn b q)];exact q
  .have q:=I.base.tups b xs e;rw[d9 (nd b _ q (by intro z;cases z))];exact q
  .have q:=I.base.frzs b ob v e;rw[d9 (λz=>by subst z;exact hn ob v e)];exact q
  .obtain⟨m,q⟩:=I.base.tbls b ps e;exact⟨m,by rw[d9 (nd b _ q (by intro z;cases z))];exact q⟩
  .rw[d9 (nn _ I.free)];exact I.free
  .have q:=I.freeC x c e;rw[d9 (nn _ q)];exact q
  .obtain⟨a1,a2,a3⟩:=I.pin p hp;exact⟨a1,by rw[d9 (nn _ a2)];exact a2,a3⟩
  .by_cases hb:b=d
   .subst hb;rw[d8] at e;cases e;exact st (I.hok _ _ h).2
   .rw[d9 hb] at e;exact st (I.hok b v e)
 .rw[vV λo u e=>hf ⟨o,u,e⟩];exact I
def Same.thaw {H H':Hp}(h:H d=some (.dK kvs))(e:Same (E7 d o kvs H) H'):Same H (thaw d H'):=λb u q=>by
 by_cases hb:b=d
 .subst hb;rw[h] at q;cases q;have z:=e b _ (show E7 b o kvs H b=some _ from d8);exact qO z
 .rw[M8 hb];exact e b u (by unfold E7;rw[d9 hb];exact q)
end
abbrev rW:=St->Hp->(It->(Hp->Hp)->Hp->Prop)->Prop
def BA (X:Cx)(tg iter:Expr)(wi:rW):Prop:=
 ∀(pins:List (Addr×Obj)) (s:Shared) (σ:St) (H:Hp) (R:It->(Hp->Hp)->Hp->Prop),Inv X pins σ H s->wi σ H R->
  wpAny (model X.prog X.w) X.A (eval iter X.env) (λv s1=>wpAny (model X.prog X.w) X.A (pyIter v) (IX X pins σ tg λJ H'=>∃th,Dd X th/\R J th H') X.xe s1) X.xe s
def PI.two {X:Cx}{tg iter:Expr}{wi:TI}(h:PI X tg iter wi):BA X tg iter (λσ H R=>wi σ H λJ H'=>R J id H'):=by
 intro pins s σ H R I q;refine N3 (h pins s σ H _ I q) λv s1 h1=>N3 h1 λXd s2 h2=>?_;obtain⟨it,fp,tn,J,H',e,I',T,st,f,q⟩:=h2;exact⟨it,fp,tn,J,H',e,I',T,st,f,id,jQ,q⟩
def xK (J:It)(th:Hp->Hp)(g:TG)(tb:TS)(nx:St->Hp->Prop)(rt:VK)(σ:St)(H1:Hp):Prop:=∃W:Nat->Nat->St->Hp->Prop,(∃m,W 0 m σ H1)/\∀i m σ H,W i m σ H->
 (J.stop i H/\nx σ (th H))\/(J.go i H/\∃N:St->Hp->Prop,(∀σ' H',N σ' H'->∃m',m'<m/\W (i+1) m' σ' H')/\∀x H',J.yld i H x H'->g x σ H' λσ2 H2=>tb ⟨N,λv H=>rt v (th H),λσ H=>nx σ (th H),N⟩ σ2 H2)
def zk (wi:rW)(g:TG)(tb:TS):TS:=λD σ H=>wi σ H λJ th H1=>xK J th g tb D.nx D.rt σ H1
def CS {X:Cx}{tg iter:Expr}{body:List Stmt}{wi:rW}{g:TG}{tb:TS}{pos:Pos}(hp:PassesOwn (model X.prog X.w) X.A X.env X.xe)(hc:X.calm=true)(hi:BA X tg iter wi)(hg:PG X tg g)(hb:PSs X body tb)
  (hs:∀x,foldedSetIterable iter X.env x=pure x:=by intro _;rfl):PS X (.For tg iter body [] pos) (zk wi g tb):=by
 intro pins s σ H D I h
 refine wpAny_For (N3 (hi pins s σ H _ I h) λv s1 h1=>N3 h1 λXd s2 h2=>?_) hs
 obtain⟨it,fp,tn,J,H2,e,I2,T,G_,f2,th,Sm,W,⟨m0,w0⟩,turn⟩:=h2
 subst e
 have Uc:∀{H':Hp},(∀b∈fp,H' b=none)->∀b∈fp,gN X pins H' b:=λhn b hb=>⟨hn b hb,(f2 b hb).2⟩
 refine codeAny_forLoop_any (λn s'=>∃i σ' H',Inv X pins σ' H' s'/\tn i s'.heap/\(∀b∈fp,H' b=none)/\W i n σ' H') ?_ m0 ⟨0,σ,H2,I2,G_,λb hb=>(f2 b hb).1,w0⟩
 rintro n s3 ⟨i,σ3,H3,I3,Xp,Xq,w3⟩
 rcases turn i n σ3 H3 w3 with⟨stop,qn⟩|⟨go,N,hN,step⟩
 .refine Pm hp (N3 (T.done X rfl rfl rfl hc i pins s3 σ3 H3 X.xe I3 (Uc Xq) Xp stop) λr s4 ⟨hr,I4⟩=>?_)
  subst hr
  exact Ql ⟨σ3,th H3,Sm _ _ _ _ I4,qn⟩
 .refine Pm hp (N3 (T.item X rfl rfl rfl hc i pins s3 σ3 H3 X.xe I3 (Uc Xq) Xp go) λr s4 ⟨u,hr,h4⟩=>?_)
  subst hr
  refine Pm hp (N3 h4 λ_ s5 ⟨x,H5,I5,r5,y5,st5,fr5⟩=>?_)
  have ZT:=I5.pinned (Uc fr5) (T.obj _ _ st5)
  refine Pm hp (N3 (hg _ s5 σ3 H5 x u _ ZT r5 (step x H5 y5)) λ_ s6 ⟨σ6,H6,I6,q6⟩=>?_)
  refine Pm hp (N3 (hb _ s6 σ6 H6 _ I6 q6) λf s7 q7=>?_)
  have again:∀{σ7:St} {H7:Hp},Inv X (pins++lW fp s5.heap) σ7 H7 s7->N σ7 H7->∃m,m<n/\∃i σ' H',Inv X pins σ' H' s7/\tn i s7.heap/\(∀b∈fp,H' b=none)/\W i m σ' H':=fun{σ7 H7} I7 n7=>by
   obtain⟨m',hm,w7⟩:=hN σ7 H7 n7;refine⟨m',hm,i+1,σ7,H7,I7.unpinned,T.keep _ _ _ st5 λb hb o e=>(I7.pin (b,o) (LG _ (LG _ (bU hb e)))).1,λb hb=>?_,w7⟩;obtain⟨o,e,d⟩:=T.obj _ _ st5 b hb;exact(I7.pin (b,o) (LG _ (LG _ (bU hb e)))).2.1
  cases f with
  |next=>obtain⟨σ7,H7,I7,n7⟩:=q7;exact again I7 n7
  |cont=>obtain⟨σ7,H7,I7,n7⟩:=q7;exact again I7 n7
  |brk=>obtain⟨σ7,H7,I7,q7⟩:=q7;exact⟨σ7,th H7,Sm _ _ _ _ I7.unpinned,q7⟩
  |ret v=>obtain⟨x7,σ7,H7,I7,r7,q7⟩:=q7;exact⟨x7,σ7,th H7,Sm _ _ _ _ I7.unpinned,r7,q7⟩
def AY (own:List Str)(js:List Nat)(J:It)(th:Hp->Hp)(g:TG)(ti:TT)(te:TE)(Q:VK)(σ:St)(H1:Hp):Prop:=∃W:Nat->Nat->List V->Hp->Prop,(∃m,W 0 m [] H1)/\∀i m out H,W i m out H->
 (J.stop i H/\∀D,H D=none->out.length<=sizeLine/\Q (.ref D) (th (upd H D (.lst out))))\/
 (J.go i H/\∀x H',J.yld i H x H'->g x (BC own js σ) H' λσ2 H2=>σ2.drop own.length=js.map (λj=>(σ[j]?).join)/\ti σ2 H2 λb H3=>
  if b=true then te σ2 H3 λv H4=>out.length<=sizeLine/\∃m',m'<m/\W (i+1) m' (out++[v]) H4 else ∃m',m'<m/\W (i+1) m' out H3)
def mO (own:List Str)(js:List Nat)(wi:rW)(g:TG)(ti:TT)(te:TE):TE:=λσ H Q=>wi σ H λJ th H1=>AY own js J th g ti te Q σ H1
def Ew:TT:=λ_ H Q=>Q true H
def HZ {X:Cx}:uS X [] Ew:=Jx
def wO {X:Cx}{own:List Str}{js:List Nat}{scope:Scope}{tg iter elt:Expr}{ifs:List Expr}{pos:Pos}{g:TG}{ti:TT}{te:TE}{wi:rW}(S:Gu X own js scope=true)(hc:X.calm=true)(hit:BA X tg iter wi)
  (hg:∀C s H fp,PG (dU X own js scope C s H fp) tg g) (hi:∀C s H fp,uS (dU X own js scope C s H fp) ifs ti) (he:∀C s H fp,PE (dU X own js scope C s H fp) elt te)
  (hs:∀x,foldedSetIterable iter X.env x=pure x:=by intro _;rfl):
  PE X (.ListComp elt [⟨tg,iter,ifs,0⟩] scope pos) (mO own js wi g ti te):=by
 have SB:=Al S
 intro pins s σ H Q I h
 rw[eval_ListComp]
 refine QU (use:=none) rfl hs (kH (SB.cells I)) SB.kind SB.names (N3 (hit pins s σ H _ I h) λv s1 h1=>N3 h1 λXd s2 h2=>?_)
 obtain⟨it,fp,tn,J,H2,e,I2,T,G_,f2,th,Sm,W,⟨m0,w0⟩,turn⟩:=h2
 subst e
 refine Oi (wpAny_newFunctionEnv SB.nocell (by intro y hy;simp at hy) (λh₁ hns₁ hsb₁=>?_) SB.kind)
 dsimp only at hns₁ hsb₁⊢
 generalize VN:s2.heap.push {cls:= .type "list",dict:=none,data:= .seq ([]:List Value).toArray}=G2 at hns₁ hsb₁⊢
 have Xt:G2.objs.size=s2.heap.objs.size+1:=by rw[←VN,QL]
 have Tn:s2.heap.objs.size≠G2.objs.size:=by rw[Xt];exact Ma (Nat.lt_succ_self _)
 have hC:s2.heap.objs.size<=G2.objs.size:=by rw[Xt];exact NR _
 have old:∀b o,s2.heap.get? b=some o->h₁.get? b=some o:=λb o e=>
  hsb₁.extBut b o (Ma (LJ (LI e) hC)) (Ly _ (VN▸Ly _ e))
 have Rj:∀b∈fp,∃o,s2.heap.get? b=some o:=λb hb=>let ⟨o,e,_⟩:=T.obj _ _ G_ b hb;⟨o,e⟩
 have s_:h₁.get? s2.heap.objs.size=some {cls:= .type "list",data:= .seq ([]:List Value).toArray}:=
  hsb₁.extBut _ _ Tn (Ly _ (VN▸LY _ rfl))
 have loop:∀s3:Shared,s3={s2 with heap:=h₁,toks:=s2.toks+([]:List (Str×Value)).length}->
   codeAny (model X.prog X.w) X.A (.compLoop (.ListComp elt [⟨tg,iter,ifs,0⟩] scope pos) 0 (.ref it) (.ref s2.heap.objs.size) (compEnvC scope (jB scope X.env) G2.objs.size X.env))
    (compPost (model X.prog X.w) X.A X.xe none (EP X pins σ Q) (.ref s2.heap.objs.size) G2.objs.size) s3:=by
  rintro s3 rfl
  refine pM (K:=λout H'=>Q (.ref s2.heap.objs.size) (th (upd H' s2.heap.objs.size (.lst out)))) SB hc T I2 f2 (Lp _) hC Tn Rj (hg _ _ _ _) (hi _ _ _ _) (he _ _ _ _) W (λi m out H' w=>?_) (λout H' s' B hl k=>?_) w0
   ⟨Inv.block SB I2 f2 Rj hC hns₁ old,I2.hok.fresh (Lp _),[],_,.nil,s_⟩ (T.keep _ _ _ G_ λb _ o e=>old b o e) (λb hb=>(f2 b hb).1)
  .rcases turn i m out H' w with⟨a,b⟩|c
   .exact .inl ⟨a,λn=>b _ n⟩
   .exact .inr c
  .obtain⟨mm,hn,_⟩:=B.inv.loc
   exact⟨mm,hn,λh' sb=>⟨.ref s2.heap.objs.size,_,Sm _ _ _ _ (B.out I2 f2 (Lp _) hC Tn hl sb),rfl,k⟩⟩
 exact codeAny_compStart_list (loop _ rfl) (T.self _ 0 _ _ _ (T.keep _ _ _ G_ λb _ o e=>old b o e) (loop _ rfl))
def A9 {α β : Type} {F : α -> β -> Prop} : ∀ {l₁ : List α} {l₂ : List β} {i : Nat} {a : α}, Paired F l₁ l₂ -> l₁[i]? = some a -> ∃ b, l₂[i]? = some b /\ F a b
 := by
  intro l₁ l₂ i a hp e;induction hp generalizing i with
  | nil => cases e
  | cons r _ ih => cases i with
    | zero => cases e; exact ⟨_, rfl, r⟩
    | succ i => exact ih e
section
variable {P:Program} {w:World}
def jS {k:i6}{v:Value}(h:(q8 P w).is k v=true):RelV (kV k) v:=by
 rcases C3 (show ef k v=true from h) with⟨i,t,rfl,rfl⟩|⟨x,t,rfl,rfl⟩
 .exact⟨t,rfl⟩
 .exact⟨t,rfl⟩
def yn {k:i6}{v:Value}(h:(q8 P w).is k v=true):∀a,v≠ .ref a:=by
 rcases C3 (show ef k v=true from h) with⟨i,t,rfl,rfl⟩|⟨x,t,rfl,rfl⟩<;>exact λa z=>by cases z
structure zV (P:Program) (w:World) (d:Addr) (o:Obj) (kvs:List (i6×V)) (vs:List (i6×Value)) (ep:Nat):Prop where
 kv:KV kvs vs
 at_:∀h:Heap,h.get? d=some o->h.DictAt (q8 P w) d vs ep
 nd:(kvs.map (·.1)).Nodup
def dO {H:Hp}{h:Heap}{d:Addr}{kvs:List (i6×V)}(ok:HOk P w H h)(e:Rd H d (.dK kvs)):(d==sysModules)=false/\∃o vs ep,h.get? d=some o/\zV P w d o kvs vs ep:=by
 obtain⟨z,hd,vs,rel,o,es,ep,h1,r⟩:=W0 ok e;refine⟨hd,o,vs,ep,h1,rel,λh' e'=>⟨o,es,e',r⟩,?_⟩;rw[KV.keys rel];exact r.2.2.2.2
def Jn (d:Addr)(o:Obj)(kvs:List (i6×V))(f:i6×V->V):It:=
 ⟨λi H=>H d=some (.frz o (.dK kvs))/\i<kvs.length,λi H x H'=>H'=H/\∃kv,kvs[i]?=some kv/\x=f kv,λi H=>H d=some (.frz o (.dK kvs))/\kvs.length<=i⟩
def FG (d:Addr)(o:Obj)(kvs:List (i6×V)):It:=
 ⟨λi H=>H d=some (.frz o (.dK kvs))/\i<kvs.length,λi H x H'=>∃t kv,kvs[i]?=some kv/\H t=none/\x= .ref t/\H'=upd H t (.tup [kV kv.1,kv.2]),λi H=>H d=some (.frz o (.dK kvs))/\kvs.length<=i⟩
def xI {K:Za}{tg:Expr}{d:Addr}{o:Obj}{kvs:List (i6×V)}{vs:List (i6×Value)}{ep:Nat}(D:zV P w d o kvs vs ep)(it:Addr):
  jD P w K tg (Jn d o kvs λkv=>kV kv.1) [it] it (λi h=>h.IsKeyIter it d i vs.length ep) where
 mem:=by simp
 obj:=λi h st b hb=>by
  have e:b=it:=by simpa using hb
  subst e;obtain⟨o,e,c,dd⟩:=st;exact⟨o,e,λv z=>by rw[dd] at z;cases z⟩
 keep:=λi h h' st k=>st.at λo e=>k it (by simp) o e
 item:=by
  intro X hP hw hK hc i pins s σ H E I hf st hg;subst hP hw hK;obtain⟨Ug,hi⟩:=hg;obtain⟨f0,f1,f2,f3,f4,f5⟩:=hf it (by simp);have dat:=D.at_ s.heap (I.hok d _ Ug).1;have hl:=KV.length D.kv;obtain⟨kv,f_⟩:∃kv,kvs[i]?=some kv:=⟨kvs[i],by simp [hi]⟩
  obtain⟨⟨k,x⟩,hx⟩:∃p,vs[i]?=some p:=⟨vs[i]'(by lia),by simp [show i<vs.length by lia]⟩
  have YJ:kv.1=k:=by
   have e1:(kvs.map (·.1))[i]?=some kv.1:=by rw[Lo,f_];rfl
   rw[KV.keys D.kv,Lo,hx] at e1;exact(LO e1).symm
  refine wpAny_pyNext_dict_item st dat hx λkey h' M_ hit' hs'=>?_;have I1:Inv X pins σ H {s with heap:=h'}:=I.turned (t':=s.toks) (λb o hb e=>hs'.extBut b o hb e) f0 f1 f3 f4 f5;exact⟨key,rfl,vK (yn M_) ⟨kV kv.1,H,I1,by rw[YJ];exact jS M_,⟨rfl,kv,f_,rfl⟩,hit',λb hb=>(hf b hb).1⟩⟩
 done:=by
  intro X hP hw hK hc i pins s σ H E I hf st hg;subst hP hw hK;obtain⟨Ug,hi⟩:=hg;obtain⟨f0,f1,f2,f3,f4,f5⟩:=hf it (by simp);have dat:=D.at_ s.heap (I.hok d _ Ug).1;have hl:=KV.length D.kv;exact wpAny_pyNext_dict_end (I.ok.hd hc) st dat (by simp;lia) λh' eb=>⟨rfl,I.turned (t':=s.toks) (λb o hb e=>eb b o hb e) f0 f1 f3 f4 f5⟩
 self:=λ_ _ _ _ _ st h=>wpAny_pyIter_keyiter st h
def uv {K:Za}{elts:List Expr}{x1}{x_:Pos}{d:Addr}{o:Obj}{kvs:List (i6×V)}{vs:List (i6×Value)}{ep:Nat}(D:zV P w d o kvs vs ep)(it:Addr):
  jD P w K (.Tuple elts x1 x_) (FG d o kvs) [it] it (λi h=>∃ok ov,IsItemIter h it d i vs.length ep ok ov) where
 mem:=by simp
 obj:=λi h st b hb=>by
  have e:b=it:=by simpa using hb
  subst e;obtain⟨ok,ov,e⟩:=st;exact⟨_,e,λv z=>by
   have z':Data.fields _=Data.cell v:=z;cases z'⟩
 keep:=λi h h' st k=>let ⟨ok,ov,e⟩:=st;⟨ok,ov,k it (by simp) _ e⟩
 item:=by
  intro X hP hw hK hc i pins s σ H E I hf st hg;subst hP hw hK;obtain⟨Ug,hi⟩:=hg;obtain⟨ok,ov,st⟩:=st;obtain⟨f0,f1,f2,f3,f4,f5⟩:=hf it (by simp);have dat:=D.at_ s.heap (I.hok d _ Ug).1;have hl:=KV.length D.kv;obtain⟨kv,f_⟩:∃kv,kvs[i]?=some kv:=⟨kvs[i],by simp [hi]⟩
  obtain⟨⟨k,x⟩,hx⟩:∃p,vs[i]?=some p:=⟨vs[i]'(by lia),by simp [show i<vs.length by lia]⟩
  obtain⟨YJ,rx⟩:kv.1=k/\RelV kv.2 x:=by
   have q:=A9 D.kv f_;obtain⟨p,hp,r⟩:=q;rw[hx] at hp;cases hp;exact r
  refine wpAny_pyNext_items_item st dat hx λkey h' M_ hout Sn hsz hk=>?_;have Vn:it<s.heap.objs.size:=LI st;refine⟨.ref s.heap.objs.size,rfl,wpAny_letOwnedTupleGo_items (s:={s with heap:=h'}) hout λSo hit'' hs''=>?_⟩;have UD:Heap.SameBut it h' So:=hs'';have kp:∀b o,b≠it->s.heap.get? b=some o->So.get? b=some o:=λb o hb e=>UD.extBut b o hb (hk b o hb e);have Uh:So.get? s.heap.objs.size=some {cls:= .type "tuple",data:= .seq #[key,x]}:=UD.extBut _ _ (Tz Vn) Sn;have fresh:H s.heap.objs.size=none:=I.hok.fresh (Lp _);have ZU:∀b o,s.heap.get? b=some o->b≠s.heap.objs.size:=λb o e=>Ma (LI e);have hH:∀b u,H b=some u->b≠s.heap.objs.size/\b≠it:=λb u e=>⟨d6 e fresh,d6 e f0⟩
  have hok:HOk X.prog X.w (upd H s.heap.objs.size (.tup [kV kv.1,kv.2])) So:=λb u e=>by
   by_cases hb:b=s.heap.objs.size
   .subst hb;rw[d8] at e;cases e;refine⟨by show 2<=sizeLine;decide,[key,x],.cons (by rw[YJ];exact jS M_) (.cons rx .nil),⟨_,Uh,rfl,_,rfl⟩⟩
   .rw[d9 hb] at e;refine(I.hok b u e).stay (λc v hc q=>kp c v ?_ q) (λc q=>by rw[d9 (hH c _ q).1];exact q) λc xs q=>by rw[d9 (hH c _ q).1];exact q
    rcases hc with z|z
    .rw[z];exact(hH b _ e).2
    .exact(hH c _ z).2
  have I1:Inv X pins σ (upd H s.heap.objs.size (.tup [kV kv.1,kv.2])) {s with heap:=So}:=by
   refine I.call' (s':={s with heap:=So}) (ch:=[it]) rfl ⟨λb o e n hb hx=>kp b o (by simpa using hx) e,λb o e n hb hx=>⟨o.slots,kp b o (by simpa using hx) e⟩,λb o e n hx=>by rw[d9 (ZU b o e)];exact n,
    λb o e hx=>⟨o,kp b o (by simpa using hx) e⟩,λb xs e=>by rw[d9 (hH b _ e).1];exact e,λb ob v e=>by rw[d9 (hH b _ e).1];exact e,λb ps e=>⟨#[],by rw[d9 (hH b _ e).1];simpa using e⟩⟩ hok I.bare λb hb=>?_
   have e:b=it:=by simpa using hb
   subst e;exact⟨f3,f1,f4,f5⟩
  refine⟨.ref s.heap.objs.size,_,I1,rfl,⟨_,kv,f_,fresh,rfl,rfl⟩,⟨_,_,hit''⟩,λb hb=>?_⟩;have e:b=it:=by simpa using hb
  subst e;rw[d9 (Ma Vn)];exact f0
 done:=by
  intro X hP hw hK hc i pins s σ H E I hf st hg;subst hP hw hK;obtain⟨Ug,hi⟩:=hg;obtain⟨ok,ov,st⟩:=st;obtain⟨f0,f1,f2,f3,f4,f5⟩:=hf it (by simp);have dat:=D.at_ s.heap (I.hok d _ Ug).1;have hl:=KV.length D.kv;exact wpAny_pyNext_items_end (I.ok.hd hc) st dat (by simp;lia) λh' eb=>⟨rfl,I.turned (t':=s.toks) (λb o hb e=>eb b o hb e) f0 f1 f3 f4 f5⟩
 self:=λ_ _ _ _ _ st h=>by
  obtain⟨ok,ov,st⟩:=st;exact PySem.W.kcp_self st h
end
section
variable {X:Cx} {tg:Expr}
def rIterD (mk:Addr->Obj->List (i6×V)->It)(v:V)(H:Hp)(R:It->(Hp->Hp)->Hp->Prop):Prop:=
 ∃d kvs,v= .ref d/\((H d=some (.dK kvs)/\((kvs.map (·.1)).Nodup->∀o,R (mk d o kvs) (thaw d) (E7 d o kvs H)))\/(∃o,H d=some (.frz o (.dK kvs))/\((kvs.map (·.1)).Nodup->R (mk d o kvs) id H)))
def rIterD.go {mk:Addr->Obj->List (i6×V)->It}{x:V}{u:Value}{pins:List (Addr×Obj)}{σ:St}{H:Hp}{s:Shared}{R:It->(Hp->Hp)->Hp->Prop}(I:Inv X pins σ H s)(r:RelV x u)(h:rIterD mk x H R):
  ∃d kvs o vs ep th H',u= .ref d/\(d==sysModules)=false/\s.heap.get? d=some o/\zV X.prog X.w d o kvs vs ep/\Inv X pins σ H' s/\Dd X th/\R (mk d o kvs) th H':=by
 obtain⟨d,kvs,e,h⟩:=h
 subst e
 cases r
 rcases h with⟨h,q⟩|⟨o,h,q⟩
 .obtain⟨hd,o,vs,ep,ho,D⟩:=dO I.hok (.inl h)
  refine⟨d,kvs,o,vs,ep,thaw d,_,rfl,hd,ho,D,I.freeze h ho,xG λob v z=>?_,q D.nd o⟩
  have z':=I.base.frzs d ob v z
  rw[h] at z';cases z'
 .obtain⟨hd,o',vs,ep,ho,D⟩:=dO I.hok (.inr ⟨o,h⟩)
  have e:=(I.hok d _ h).1
  rw[ho] at e;cases e
  exact⟨d,kvs,_,vs,ep,id,H,rfl,hd,ho,D,I,jQ,q D.nd⟩
def rIter.mono {K:Za}{v:V}{H:Hp}{R R':It->Hp->Prop}(h:rIter K v H R)(k:∀J H,R J H->R' J H):rIter K v H R':=by
 rcases h with⟨a,e,hq,q⟩|⟨a,e,hq,q⟩|⟨x,e,q⟩
 .exact .inl ⟨a,e,hq,k _ _ q⟩
 .exact .inr (.inl ⟨a,e,hq,k _ _ q⟩)
 .exact .inr (.inr ⟨x,e,k _ _ q⟩)
abbrev Kn (d:Addr)(o:Obj)(kvs:List (i6×V)):It:=Jn d o kvs λkv=>kV kv.1
def xb (K:Za)(v:V)(H:Hp)(R:It->(Hp->Hp)->Hp->Prop):Prop:=rIter K v H (λJ H'=>R J id H')\/rIterD Kn v H R
def Jo (K:Za)(tl:TE):rW:=λσ H R=>tl σ H λv H1=>xb K v H1 R
def GI {l:Expr}{tl:TE}(hl:PE X l tl):BA X tg l (Jo X.K tl):=by
 intro pins s σ H R I h;refine N3 (hl pins s σ H _ I h) λv s1 ⟨x,H1,I1,r1,q1⟩=>?_;rcases q1 with q1|q1
 .exact Ar I1 r1 (q1.mono λJ H' q=>⟨id,jQ,q⟩)
 .obtain⟨d,kvs,o,vs,ep,th,H',rfl,hd,ho,D,I2,Sm,q⟩:=rIterD.go I1 r1 q1;refine wpAny_pyIter_dict hd (D.at_ _ ho) ?_;refine⟨s1.heap.objs.size,[s1.heap.objs.size],_,_,H',rfl,I2.kept (t':=s1.toks) λb o e=>Ly _ e,xI D _,⟨_,LY _ rfl,rfl,rfl⟩,λb hb=>?_,th,Sm,q⟩;have e:b=s1.heap.objs.size:=by simpa using hb
  subst e;exact I2.fpOk (Lp _) (I2.hok.fresh (Lp _))
def uK (tl:TE):rW:=λσ H R=>tl σ H λv H1=>rIterD FG v H1 R
def Br {elts:List Expr}{x1}{x_:Pos}{o:Expr}{tl:TE}{apos d_:Pos}(ho:PE X o tl)
  (g_:attributeBase o "items" X.env (eval o X.env)=eval o X.env:=by rfl) (h_:(apos.endLine==d_.line)=true:=by rfl):
  BA X (.Tuple elts x1 x_) (.Call (.Attribute o "items" apos) [] [] d_) (uK tl):=by
 intro pins s σ H R I h
 refine Pk g_ h_ (N3 (ho pins s σ H _ I h) λv s1 ⟨x,H1,I1,r1,q1⟩=>?_)
 obtain⟨d,kvs,ob,vs,ep,th,H',rfl,hd,Rj,D,I2,Sm,q⟩:=rIterD.go I1 r1 q1
 have US:=(D.at_ _ Rj).dictOf
 refine⟨"dict","dict.items",F.plainAttrs_dict,F.slot_dict_items,F.type_dict_items,US.typeIs,US.mapOf.noDict,NV rfl (Qn ?_)⟩
 refine NO F.slot_dict_items US.typeIs F.entry_dict_items (F.args_dict_items_1 _) (meets_dict_items (q8 X.prog X.w) d hd) ⟨⟨vs,US⟩,?_⟩
 have I3:Inv X pins σ H' {s1 with heap:=s1.heap.push {cls:= .type "dict_items",data:= .fields #[.ref d]}}:=I2.kept (t':=s1.toks) λb o e=>Ly _ e
 refine wpAny_pyIter_items (s:={s1 with heap:=s1.heap.push {cls:= .type "dict_items",data:= .fields #[.ref d]}}) (knd:=q8 X.prog X.w) ⟨_,LY _ rfl,rfl,rfl⟩ (D.at_ _ (Ly _ Rj)) ?_
 generalize hG:s1.heap.push {cls:= .type "dict_items",data:= .fields #[.ref d]}=G at I3⊢
 refine⟨G.objs.size,[G.objs.size],_,_,H',rfl,I3.kept (t':=s1.toks) λb o e=>Ly _ e,uv D _,⟨.none,.none,LY _ rfl⟩,λb hb=>?_,th,Sm,q⟩
 have e:b=G.objs.size:=by simpa using hb
 subst e
 exact I3.fpOk (Lp _) (I3.hok.fresh (Lp _))
end
section
variable {J:It} {th:Hp->Hp} {n:Nat} {g:TG} {tb:TS} {nx bk ct:St->Hp->Prop} {rt:VK} {σ:St} {H:Hp} {own:List Str} {js:List Nat} {ti:TT} {te:TE} {Q:VK} {K:Za}
def Ae (Pv:Nat->St->Hp->Prop)(h0:Pv 0 σ H)(UT:∀i σ H,i<n->Pv i σ H->J.go i H)
  (hs:∀i x σ H H',i<n->Pv i σ H->J.yld i H x H'->g x σ H' λσ2 H2=>tb ⟨Pv (i+1),λv H=>rt v (th H),λσ H=>nx σ (th H),Pv (i+1)⟩ σ2 H2)
  (hd:∀σ H,Pv n σ H->J.stop n H/\nx σ (th H)):
  xK J th g tb nx rt σ H:=by
 refine⟨λi m σ H=>m=n -i/\i<=n/\Pv i σ H,⟨n,by simp,Ov _,h0⟩,?_⟩
 rintro i m σ H ⟨rfl,hi,p⟩
 by_cases u_:i<n
 .exact .inr ⟨UT i σ H u_ p,Pv (i+1),λσ' H' p'=>⟨n -(i+1),by lia,rfl,u_,p'⟩,λx H' y=>hs i x σ H H' u_ p y⟩
 .have e:i=n:=by lia
  subst e
  exact .inl (hd σ H p)
def k8 (Pv:Nat->List V->Hp->Prop)(h0:Pv 0 [] H)(UT:∀i out H,i<n->Pv i out H->J.go i H)
  (hs:∀(N:List V->Hp->Prop) i x out H H',i<n->Pv i out H->J.yld i H x H'->(∀Ui H',Pv (i+1) Ui H'->N Ui H')->g x (BC own js σ) H' λσ2 H2=>σ2.drop own.length=js.map (λj=>(σ[j]?).join)/\ti σ2 H2 λb H3=>
   if b=true then te σ2 H3 λv H4=>out.length<=sizeLine/\N (out++[v]) H4 else N out H3)
  (hd:∀out H,Pv n out H->J.stop n H/\∀D,H D=none->out.length<=sizeLine/\Q (.ref D) (th (upd H D (.lst out)))):
  AY own js J th g ti te Q σ H:=by
 refine⟨λi m out H=>m=n -i/\i<=n/\Pv i out H,⟨n,by simp,Ov _,h0⟩,?_⟩
 rintro i m out H ⟨rfl,hi,p⟩
 by_cases u_:i<n
 .exact .inr ⟨UT i out H u_ p,λx H' y=>hs (λUi H'=>∃m',m'<n -i/\m'=n -(i+1)/\i+1<=n/\Pv (i+1) Ui H') i x out H H' u_ p y λUi H' q=>⟨n -(i+1),by lia,rfl,u_,q⟩⟩
 .have e:i=n:=by lia
  subst e
  exact .inl (hd out H p)
def IU {wi:rW}(q:wi σ H λJ th H1=>xK J th g tb nx rt σ H1):zk wi g tb ⟨nx,rt,bk,ct⟩ σ H:=q
def Fp {wi:rW}(q:wi σ H λJ th H1=>AY own js J th g ti te Q σ H1):mO own js wi g ti te σ H Q:=q
def GR {Qb:Bool->Hp->Prop}(q:Qb true H):Ew σ H Qb:=q
def Jq {tl:TE}{R:It->(Hp->Hp)->Hp->Prop}(q:tl σ H λv H1=>xb K v H1 R):Jo K tl σ H R:=q
def yM {x:Str}{R:It->(Hp->Hp)->Hp->Prop}(q:R (Its x) id H):xb K (.str x) H R:= .inl (.inr (.inr ⟨x,rfl,q⟩))
def j7 {a:Addr}{xs:List V}{R:It->(Hp->Hp)->Hp->Prop}(h:SqL K H a xs)(q:R (Itl K a) id H):xb K (.ref a) H R:= .inl (.inl ⟨a,rfl,⟨xs,h⟩,q⟩)
def gi {d:Addr}{kvs:List (i6×V)}{R:It->(Hp->Hp)->Hp->Prop}(h:H d=some (.dK kvs))(q:(kvs.map (·.1)).Nodup->∀o,R (Kn d o kvs) (thaw d) (E7 d o kvs H)):xb K (.ref d) H R:=
 .inr ⟨d,kvs,rfl,.inl ⟨h,q⟩⟩
def Cc {tl:TE}{R:It->(Hp->Hp)->Hp->Prop}(q:tl σ H λv H1=>rIterD FG v H1 R):uK tl σ H R:=q
def D6 {d:Addr}{kvs:List (i6×V)}{R:It->(Hp->Hp)->Hp->Prop}(h:H d=some (.dK kvs))(q:(kvs.map (·.1)).Nodup->∀o,R (FG d o kvs) (thaw d) (E7 d o kvs H)):rIterD FG (.ref d) H R:=⟨d,kvs,rfl,.inl ⟨h,q⟩⟩
def Ge {ta:TA}{R:It->Hp->Prop}(q:ta σ H λvs H1=>∃j:Int,vs=[.int j]/\-(2 ^ 62)<=j/\j<2 ^ 62/\R (Jp 0 j.toNat) H1):Bs ta σ H R:=q
def jY {i:Int}{R:Int->Prop}(h0:0<=i)(h1:i<1000000)(q:R i):∃j:Int,[V.int i]=[.int j]/\-(2 ^ 62)<=j/\j<2 ^ 62/\R j:=⟨i,rfl,by lia,by lia,q⟩
def F9 {p:Prop}[Decidable p]{A B:Prop}(h1:p->A)(h2:¬p->B):if decide p=true then A else B:=by grind
def S9 {p:Prop}[Decidable p]{A B:Prop}(h1:¬p->A)(h2:p->B):if(!decide p)=true then A else B:=by grind
def iL {b:Bool}{A B:Prop}(h1:b=true->A)(h2:b=false->B):if b=true then A else B:=by grind
def jT {b:Bool}{A B:Prop}(h1:b=false->A)(h2:b=true->B):if(!b)=true then A else B:=by grind
def Ig {A B:Prop}(h:A):if(!false)=true then A else B:=by rw[if_pos (by rfl)];exact h
def HV {A B:Prop}(h:B):if(!true)=true then A else B:=by rw[if_neg (by decide)];exact h
def b7 {o:HO}{p:Addr}(hp:H p=none):∃H',upd H p o=H'/\H' p=some o/\Same H H'/\∀b,b≠p->H' b=H b:=⟨_,rfl,d8,λb u e=>by rw[d9 (d6 e hp)];exact e,λb hb=>d9 hb⟩
def tW {α:Type}{xs:List α}{i:Int}(h0:0<=i)(h1:i<xs.length):∃v,rJ xs i=some v/\xs[i.toNat]?=some v:=by
 obtain⟨j,rfl⟩:=Int.eq_ofNat_of_zero_le h0;have hj:j<xs.length:=by lia
 exact⟨xs[j],b6 (by simp [hj]),by simp [hj]⟩
def vZ (c:Nat):(⟨#[c]⟩:Str).length=1:=rfl
def uW (x:Str):x.length=x.cps.toList.length:=by simp [Str.length]
def b9 {n:Nat}(h:n<=1000):n<=sizeLine:=Mh h (by decide)
def Same.rd {H H':Hp}{a:Addr}{u:HO}(s:Same H H')(h:Rd H a u):Rd H' a u:=by
 rcases h with h|⟨o,h⟩
 .exact .inl (s _ _ h)
 .exact .inr ⟨o,s _ _ h⟩
def Same.tup {H H':Hp}{a:Addr}{xs:List V}(s:Same H H')(h:SqT K H a xs):SqT K H' a xs:=by
 rcases h with h|h
 .exact .inl (s.rd h)
 .exact .inr h
def TyB.mono {H H':Hp}{v:V}{t:String}(h:TyB K H v t)(s:Same H H'):TyB K H' v t:=by
 cases v with
 |ref a=>
  rcases h with⟨e,xs,h⟩|⟨e,xs,h⟩|⟨e,kvs,h⟩
  .exact .inl ⟨e,xs,s.seq h⟩
  .exact .inr (.inl ⟨e,xs,s.tup h⟩)
  .exact .inr (.inr ⟨e,kvs,s.rd h⟩)
 |_=>exact h
def Its.lt {x:Str}{i:Nat}{H H':Hp}{v:V}(h:(Its x).yld i H v H'):H'=H/\∃c,x.cps.toList[i]?=some c/\v=CV c:=by
 obtain⟨e,c,hc,hv⟩:=h;exact⟨e,c,by simpa using hc,hv⟩
def Itl.get {a:Addr}{xs:List V}{i:Nat}{H H':Hp}{v:V}(h:(Itl K a).yld i H v H')(hx:SqL K H a xs):H'=H/\xs[i]?=some v:=⟨h.1,h.2 xs hx⟩
def K2 {α β:Type}{l:List α}{i:Nat}{a:α}(f:α->β)(h:l[i]?=some a):(l.take i).map f++[f a]=(l.take (i+1)).map f:=by
 rw[Me,h];simp
end
section
variable {X:Cx} (K:Za) {a e:Expr} {ta te:TE} {tg:Expr} {pos:Pos}
def bX (h:X.K=K:=by rfl):OpR X (binaryOp .Add) (pK K):=h▸Cq
def kIn (hu:X.A.units+1<cLine)(h:X.K=K:=by rfl):OpR X (compareOp .In) (xt K):=h▸Fq hu
def dG (hu:X.A.units+1<cLine)(h:X.K=K:=by rfl):OpR X (compareOp .NotIn) (jN K):=h▸wW hu
def p8 (hu:X.A.units+1<cLine)(h:X.K=K:=by rfl):IxR X (uj K):=h▸FY hu
def Je (h:X.K=K:=by rfl):SlR X (IW K):=h▸EB
def tK (hc:X.calm=true)(h:X.K=K:=by rfl):CallR X (.builtin "all") (tT K):=h▸xn hc
def HY (hc:X.calm=true)(h:X.K=K:=by rfl):CallR X (.builtin "any") (Gj K):=h▸wJ hc
def Eh (ta:TE):TT:=λσ H Q=>ta σ H λx H'=>∃k,AR K x H' k/\Q k H'
def Ju (ha:PE X a ta)(h:X.K=K:=by rfl)(he:∀whole,isTrue a X.env whole=(do let v←whole;standAt a.pos;holding [v] (truthy v)):=by intro _;rfl):PT X a (Eh K ta):=h▸yE ha he
def FP {σ:St}{H:Hp}{Qb:Bool->Hp->Prop}(q:ta σ H λx H'=>∃k,AR K x H' k/\Qb k H'):Eh K ta σ H Qb:=q
def Kx (hl:PE X a ta)(h:X.K=K:=by rfl):BA X tg a (Jo K ta):=h▸GI hl
def Js {es:List Expr}{k:Nat}{t:uQ}{n:Nat}(hc:X.calm=true)(hg:Ds X es t)(h:X.K=K:=by rfl)
  (hn:(assignEach es X.env).length=n:=by rfl) (Ub:(assignEach es X.env).findIdx? (·.1)=none:=by rfl):PG X (.Tuple es k pos) (zf K n t):=h▸Ff hc hg hn Ub
end
def C9:Expr->Bool
 | .Starred _ _=>false
 |_=>true
def z8 (es:List Expr):Bool:=es.all C9
def cM {e:Expr}{es:List Expr}{env:Env}(h:C9 e=true):starEach (e::es) env=(false,eval e env)::starEach es env:=by
 cases e<;>first|rfl|cases h
theorem cO {env:Env}{pos:Pos}:∀{es:List Expr},z8 es=true->(backTo pos (starEach es env)).any (·.1)=false
 |[],_=>rfl
 |e::es,h=>by
  have h':(C9 e&&z8 es)=true:=h;rw[Mg] at h';rw[cM h'.1];show(false||(backTo pos (starEach es env)).any (·.1))=false;rw[cO h'.2];rfl
def vL {e:Expr}{es:List Expr}{env:Env}(h:C9 e=true):assignEach (e::es) env=(false,assign e env)::assignEach es env:=by
 cases e<;>first|rfl|cases h
theorem AV {env:Env}:∀{es:List Expr},z8 es=true->(assignEach es env).length=es.length
 |[],_=>rfl
 |e::es,h=>by
  have h':(C9 e&&z8 es)=true:=h;rw[Mg] at h';rw[vL h'.1,Mv,AV h'.2,Mv]
theorem yo {env:Env}:∀{es:List Expr},z8 es=true->(assignEach es env).findIdx? (·.1)=none
 |[],_=>rfl
 |e::es,h=>by
  have h':(C9 e&&z8 es)=true:=h;rw[Mg] at h';rw[vL h'.1,List.findIdx?_cons];simp [yo h'.2]
section
variable {X:Cx} {K:Za} {e:Expr} {es:List Expr} {te:TE} {t:TA} {x:Str} {p pos:Pos} {id T:String} {r:List V->Hp->VK->Prop}
def KG (ha:PE X e te)(hr:PA X es t)(h:C9 e=true:=by rfl):PA X (e::es) (vO te t):=BS ha hr (cM h)
def cB (hc:CallR X (.builtin id) r)(hm:X.mg x=none)(hv:bootBuiltins x=some (.builtin id))(ha:PA X (e::es) t)(hg:Gl X x:=by rfl)(hn:x≠"__name__":=by decide)(q_:(x==("__debug__":Str))=false:=by decide)
  (h:z8 (e::es)=true:=by rfl):PE X (.Call (.Name x p) (e::es) [] pos) (Gn r t):=by
 have h':(C9 e&&z8 es)=true:=h
 rw[Mg] at h'
 exact yA hc hg hm hv ha hn q_ (cM h'.1) (cO h'.2)
def KS (hc:CallR X (.type T) r)(hm:X.mg x=none)(hv:bootBuiltins x=some (.type T))(ha:PA X (e::es) t)(hg:Gl X x:=by rfl)(hn:x≠"__name__":=by decide)(q_:(x==("__debug__":Str))=false:=by decide)
  (h:z8 (e::es)=true:=by rfl):PE X (.Call (.Name x p) (e::es) [] pos) (Gn r t):=by
 have h':(C9 e&&z8 es)=true:=h
 rw[Mg] at h'
 exact wD hc hg hm hv ha hn q_ (cM h'.1) (cO h'.2)
def cC {CX:rD}{k:Nat}{ps:List Str}{p_:List V}{sp:Sp}{E:XK}(C:M7 X.prog X.w X.K X.mg X.base CX k x ps p_ sp)(hr:Room k X.A)(hx:dA CX X E)(ha:PA X (e::es) t)(hg:Gl X x:=by rfl)
  (q_:(x==("__debug__":Str))=false:=by decide) (h:z8 (e::es)=true:=by rfl):PE X (.Call (.Name x p) (e::es) [] pos) (si sp p_ E t):=by
 have h':(C9 e&&z8 es)=true:=h
 rw[Mg] at h'
 exact yv C hr hx ha hg q_ (cM h'.1) (cO h'.2)
def gT {tg:Expr}{k:Nat}{u:uQ}(hc:X.calm=true)(hg:Ds X es u)(hK:X.K=K:=by rfl)(h:z8 es=true:=by rfl):PG X (.Tuple es k pos) (zf K es.length u):=Js K hc hg hK (AV h) (yo h)
def gC {g:TG}{u:uQ}(h1:PG X e g)(h2:Ds X es u)(h:C9 e=true:=by rfl):Ds X (e::es) (vW g u):=Bf h1 h2 (by rw[vL h];rfl)
end
structure QE (X:Cx) (e:Expr) (t:TE):Prop where
 r:PE X e t
structure QT (X:Cx) (e:Expr) (t:TT):Prop where
 r:PT X e t
structure QW (X:Cx) (e:Expr) (t:TT):Prop where
 r:PW X e t
structure QA (X:Cx) (es:List Expr) (t:TA):Prop where
 r:PA X es t
structure QS (X:Cx) (st:Stmt) (t:TS):Prop where
 r:PS X st t
structure QSs (X:Cx) (st:List Stmt) (t:TS):Prop where
 r:PSs X st t
structure QG (X:Cx) (tg:Expr) (t:TG):Prop where
 r:PG X tg t
structure Jf (X:Cx) (tg:List Expr) (t:uQ):Prop where
 r:Ds X tg t
structure QI (X:Cx) (tg iter:Expr) (t:rW):Prop where
 r:BA X tg iter t
structure Jg (X:Cx) (ifs:List Expr) (t:TT):Prop where
 r:uS X ifs t
structure QO (X:Cx) (e:Option Expr) (t:TO):Prop where
 r:PO X e t
structure QP (X:Cx) (pos:Pos) (keys:List (Option Expr)) (values:List Expr) (ZJ:List (TE×TE)):Prop where
 r:Kz X pos keys values ZJ
section
variable {X:Cx} {a b c e o:Expr} {es:List Expr} {ta tb tc te to:TE} {tA UO:TT} {t:TA} {au:List Expr} {pos apos d_ p2:Pos} {x:Str} {p:Pos} {Vo T:String}
def ua {j}:QE X (.Constant .none j pos) (tC .non):=⟨Ez⟩
def rn {b:Bool}{j}:QE X (.Constant (.bool b) j pos) (tC (.bl b)):=⟨Iy⟩
def h9 {i:Int}{j}:QE X (.Constant (.int i) j pos) (tC (.int i)):=⟨Em⟩
def X7 {x:Str}{j}:QE X (.Constant (.str x) j pos) (tC (.str x)):=⟨Gs⟩
def qV (i:Nat)(hN:X.N[i]?=some x:=by rfl)(hv:JQ X.env.scope x:=by first|exact Or.inl rfl|exact Or.inr (Or.inl rfl)|exact Or.inr (Or.inr rfl))(hd:(x==("__debug__":Str))=false:=by decide)
  (SN:(x==("__classdict__":Str))=false:=by decide):QE X (.Name x pos) (zQ i):=⟨FN hN hv hd SN⟩
def Jv {v:V}(h:Iu X.mg x v)(hg:Gl X x:=by rfl)(hd:(x==("__debug__":Str))=false:=by decide):QE X (.Name x pos) (tC v):=⟨FT h hg hd⟩
def Dz (n:String)(hm:X.mg x=none)(hv:bootBuiltins x=some (.type n))(hg:Gl X x:=by rfl)(hn:x≠"__name__":=by decide)(hd:(x==("__debug__":Str))=false:=by decide):QE X (.Name x pos) (tC (.ty n)):=⟨Ce hg hm hv rfl hn hd⟩
def Q9 {op:Operator}{r:R2}(ho:OpR X (binaryOp op) r)(ha:QE X a ta)(hb:QE X b tb):QE X (.BinOp a op b pos) (Cd r ta tb):=⟨Hi ho ha.r hb.r⟩
def KP {op:UnaryOp}{r:V->Hp->VK->Prop}(ho:IY X (unaryOp op) r)(ha:QE X a ta):QE X (.UnaryOp op a pos) (JZ r ta):=⟨Hf ho ha.r⟩
def JV (ha:QE X a ta):QE X (.UnaryOp .Not a pos) (AX ta):=⟨Gk ha.r⟩
def Cp {op}(h:QE X a ta):QE X (.BoolOp op [a] pos) ta:=⟨FZ h.r⟩
def De (ha:QE X a ta)(hb:QE X (.BoolOp .And (b::au) pos) tb):QE X (.BoolOp .And (a::b::au) pos) (AM ta tb):=⟨FW ha.r hb.r⟩
def Lg (ha:QE X a ta)(hb:QE X (.BoolOp .Or (b::au) pos) tb):QE X (.BoolOp .Or (a::b::au) pos) (Fs ta tb):=⟨ID ha.r hb.r⟩
def fm {op:CmpOp}{r:R2}(ho:OpR X (compareOp op) r)(ha:QE X a ta)(hb:QE X b tb)(hm:behindInMarks op b=false):QE X (.Compare a [op] [b] pos) (Cd r ta tb):=⟨Dl ho ha.r hb.r hm⟩
def x6 {op:CmpOp}{r:R2}(ho:OpR X (compareOp op) r)(ha:QE X a ta)(hb:QE X b tb)(hm:behindInMarks op b=false):QT X (.Compare a [op] [b] pos) (AN (Cd r ta tb)):=⟨Dm ho ha.r hb.r hm⟩
def Kk:QO X none qE:=⟨Cj⟩
def Gv (h:QE X e te):QO X (some e) (zU te):=⟨BL h.r⟩
def Ji {lo hi:Option Expr}{tl th:TO}{r:V->Option Int->Option Int->Hp->VK->Prop}(hr:SlR X r)(he:QE X e te)(hl:QO X lo tl)(hu:QO X hi th):QE X (.Subscript e (.Slice lo hi none p2) pos) (Jy r te tl th):=⟨Am hr he.r hl.r hu.r⟩
def o9 {r:R2}(hr:IxR X r)(ha:QE X a ta)(hb:QE X b tb)(hs:vq b):QE X (.Subscript a b pos) (Cd r ta tb):=⟨GH hr ha.r hb.r hs⟩
def cE (h:QA X es t):QE X (.List es pos) (FD t):=⟨Fo h.r⟩
def G9 {x1}(h:QA X es t):QE X (.Tuple es x1 pos) (Eo t):=⟨EU h.r⟩
def DW:QE X (.Dict [] [] pos) yg:=⟨zm⟩
def i9:QA X [] um:=⟨EA⟩
def g0 (ha:QE X e te)(hr:QA X es t)(h:C9 e=true:=by rfl):QA X (e::es) (vO te t):=⟨KG ha.r hr.r h⟩
def qB {r:List V->Hp->VK->Prop}(hc:CallR X (.builtin Vo) r)(hm:X.mg x=none)(hv:bootBuiltins x=some (.builtin Vo))(ha:QA X (e::es) t)(hg:Gl X x:=by rfl)(hn:x≠"__name__":=by decide)(q_:(x==("__debug__":Str))=false:=by decide)
  (h:z8 (e::es)=true:=by rfl):QE X (.Call (.Name x p) (e::es) [] pos) (Gn r t):=⟨cB hc hm hv ha.r hg hn q_ h⟩
def jA {r:List V->Hp->VK->Prop}(hc:CallR X (.type T) r)(hm:X.mg x=none)(hv:bootBuiltins x=some (.type T))(ha:QA X (e::es) t)(hg:Gl X x:=by rfl)(hn:x≠"__name__":=by decide)(q_:(x==("__debug__":Str))=false:=by decide)
  (h:z8 (e::es)=true:=by rfl):QE X (.Call (.Name x p) (e::es) [] pos) (Gn r t):=⟨KS hc hm hv ha.r hg hn q_ h⟩
def qC {CX:rD}{k:Nat}{ps:List Str}{p_:List V}{sp:Sp}{E:XK}(C:M7 X.prog X.w X.K X.mg X.base CX k x ps p_ sp)(hr:Room k X.A)(hx:dA CX X E)(ha:QA X (e::es) t)(hg:Gl X x:=by rfl)
  (q_:(x==("__debug__":Str))=false:=by decide) (h:z8 (e::es)=true:=by rfl):QE X (.Call (.Name x p) (e::es) [] pos) (si sp p_ E t):=⟨cC C hr hx ha.r hg q_ h⟩
def qM {name:Str}{r:V->List V->Hp->VK->Prop}(pa:PlainAttrs T)(slot:Slot T name Vo)(UQ:typeOf (.builtin Vo)=pure (.type "method_descriptor"))(hm:Cw X Vo r)(K:Za)(ho:QE X o to)(ha:QA X (e::es) t)(hK:X.K=K:=by rfl)
  (g_:attributeBase o name X.env (eval o X.env)=eval o X.env:=by rfl)
  (h:z8 (e::es)=true:=by rfl) (h2:decide ((e::es).length<30)=true:=by rfl) (h_:(apos.endLine==d_.line)=true:=by rfl):QE X (.Call (.Attribute o name apos) (e::es) [] d_) (JW K T r to t):=by
 have h':(C9 e&&z8 es)=true:=h
 rw[Mg] at h'
 have RV:∀{l:List Expr},z8 l=true->(backTo d_ (starEach l X.env)).all (λx=>!x.1)=true:=fun{l} hl=>by
  have q:=cO (env:=X.env) (pos:=d_) hl;rw[LZ];intro y hy;rw[Tj] at q;simpa using q y hy
 subst hK
 refine⟨Im pa slot UQ hm ho.r ha.r g_ ?_ h_ (cM h'.1) (cO h'.2)⟩
 rw[RV h]
 show(true&&true&&decide ((e::es).length+0+0<30))=true
 simpa using h2
def Jh {name:Str}{r:V->List V->Hp->VK->Prop}(pa:PlainAttrs T)(slot:Slot T name Vo)(UQ:typeOf (.builtin Vo)=pure (.type "method_descriptor"))(hm:Cw X Vo r)(K:Za)(ho:QE X o to)(hK:X.K=K:=by rfl)
  (g_:attributeBase o name X.env (eval o X.env)=eval o X.env:=by rfl) (h_:(apos.endLine==d_.line)=true:=by rfl):QE X (.Call (.Attribute o name apos) [] [] d_) (FF K T r to):=⟨hK▸Fz pa slot UQ hm ho.r g_ h_⟩
def E1 {own:List Str}{js:List Nat}{scope:Scope}{tg iter elt:Expr}{ifs:List Expr}{g:TG}{ti:TT}{wi:rW}(S:Gu X own js scope=true)(hc:X.calm=true)(hit:QI X tg iter wi)
  (hg:∀C s H fp,QG (dU X own js scope C s H fp) tg g) (hi:∀C s H fp,Jg (dU X own js scope C s H fp) ifs ti) (he:∀C s H fp,QE (dU X own js scope C s H fp) elt te)
  (hs:∀x,foldedSetIterable iter X.env x=pure x:=by intro _;rfl):QE X (.ListComp elt [⟨tg,iter,ifs,0⟩] scope pos) (mO own js wi g ti te):=
 ⟨wO S hc hit.r (λC s H fp=>(hg C s H fp).r) (λC s H fp=>(hi C s H fp).r) (λC s H fp=>(he C s H fp).r) hs⟩
def V8:Jg X [] Ew:=⟨HZ⟩
def nu (h:QT X c tA):Jg X [c] tA:=⟨Kj h.r⟩
def bg (ha:QT X a tA):QT X (.UnaryOp .Not a pos) (Eu tA):=⟨FV ha.r⟩
def N6 (K:Za)(ha:QE X a ta)(h:X.K=K:=by rfl)(he:∀whole,isTrue a X.env whole=(do let v←whole;standAt a.pos;holding [v] (truthy v)):=by intro _;rfl):QT X a (Eh K ta):=⟨Ju K ha.r h he⟩
def sD (h:QW X a tA):QT X a tA:=⟨h.r.pt⟩
def iH (ha:QT X a tA):QW X (.BoolOp .And [a] pos) tA:=⟨CH ha.r⟩
def cK (ha:QT X a tA):QW X (.BoolOp .Or [a] pos) tA:=⟨Fj ha.r⟩
def ju (ha:QT X a tA)(hb:QW X (.BoolOp .And (b::au) pos) UO):QW X (.BoolOp .And (a::b::au) pos) (Fx tA UO):=⟨Gf ha.r hb.r⟩
def jx (ha:QT X a tA)(hb:QW X (.BoolOp .Or (b::au) pos) UO):QW X (.BoolOp .Or (a::b::au) pos) (JL tA UO):=⟨HL ha.r hb.r⟩
def J2 {i:Nat}(hN:X.N.Nodup)(hi:X.N[i]?=some x)(hx:DF X.env.scope x)(hf:X.fn x=true\/X.env.scope.names.lookup x=some .local:=by first|exact .inl rfl|exact .inr rfl|assumption):QG X (.Name x pos) (R9 i):=⟨CC hN hi hx hf⟩
def rz:Jf X [] EN:=⟨CO⟩
def cz {g:TG}{u:uQ}(h1:QG X e g)(h2:Jf X es u)(h:C9 e=true:=by rfl):Jf X (e::es) (vW g u):=⟨gC h1.r h2.r h⟩
def rC (K:Za){k:Nat}{u:uQ}(hc:X.calm=true)(hg:Jf X es u)(hK:X.K=K:=by rfl)(h:z8 es=true:=by rfl):QG X (.Tuple es k pos) (zf K es.length u):=⟨gT (tg:= .Name Str.empty pos) hc hg.r hK h⟩
def ye {i:Expr}{ti:TE}{u:uL}(ho:QE X o to)(hi:QE X i ti)(hs:xg X u)
  (ha:∀v,assign (.Subscript o i pos) X.env v=(do
   let ov←holding [v] (eval o X.env)
   let iv←holding [v,ov] (eval i X.env)
   standAt pos
   holding [v,ov,iv] (setItem ov iv v)
   release [v,ov,iv] []):=by intro _;rfl):QG X (.Subscript o i pos) (Dg to ti u):=⟨Ef ho.r hi.r hs ha⟩
def G7 (K:Za){tg:Expr}(hl:QE X a ta)(h:X.K=K:=by rfl):QI X tg a (Jo K ta):=⟨Kx K hl.r h⟩
def Iq (wi:TI):rW:=λσ H R=>wi σ H λJ H'=>R J id H'
def Ht {wi:TI}{σ:St}{H:Hp}{R:It->(Hp->Hp)->Hp->Prop}(q:wi σ H λJ H'=>R J id H'):Iq wi σ H R:=q
def BI {tg:Expr}(hm:X.mg "range"=none)(ha:QA X [a] t)(hg:Gl X "range":=by rfl)(h:C9 a=true:=by rfl):QI X tg (.Call (.Name "range" p) [a] [] pos) (Iq (Bs t)):=⟨(xN hg hm ha.r (cM h)).two⟩
def O9 {elts:List Expr}{x1}{x_:Pos}(ho:QE X o to)
  (g_:attributeBase o "items" X.env (eval o X.env)=eval o X.env:=by rfl) (h_:(apos.endLine==d_.line)=true:=by rfl):QI X (.Tuple elts x1 x_) (.Call (.Attribute o "items" apos) [] [] d_) (uK to):=⟨Br ho.r g_ h_⟩
variable {st:Stmt} {sts body orelse:List Stmt} {u u':TS} {g:TG}
def cy:QSs X [] yI:=⟨BH⟩
def B9 (h:QS X st u):QSs X [st] u:=⟨CW h.r⟩
def B4 (h1:QS X st u)(h2:QSs X sts u'):QSs X (st::sts) (Ag u u'):=⟨zI h1.r h2.r⟩
def x8 {i:Nat}{pos':Pos}(hN:X.N.Nodup)(hi:X.N[i]?=some x)(hx:DF X.env.scope x)(he:QE X e te)(hs:swapsWith e (some (.Name x pos')) pos.line X.env=pure false:=by rfl)(hf:X.fn x=true\/X.env.scope.names.lookup x=some .local:=by first|exact .inl rfl|exact .inr rfl):
  QS X (.Assign [.Name x pos'] e pos) (uV te (R9 i)):=⟨EZ hN hi hx he.r hs hf⟩
def iG {tg:Expr}(he:QE X e te)(hg:QG X tg g)(hs:swapsWithSole [tg] e pos.line X.env=pure false:=by rfl)(hw:swappedStores [tg] e X.env=pure none:=by rfl)(h:C9 tg=true:=by rfl):QS X (.Assign [tg] e pos) (uV te g):=
 ⟨Ga he.r hg.r hs hw (by rw[vL h];rfl)⟩
def cF (hc:QT X c tA)(ht:QSs X body u)(he:QSs X orelse u'):QS X (.If c body orelse pos) (EF tA u u'):=⟨Ho hc.r ht.r he.r⟩
def u7 (he:QE X e te):QS X (.Return (some e) pos) (Ex te):=⟨Ed he.r⟩
def Bw (he:QE X e te)(hs:swapsWith e none pos.line X.env=pure false:=by rfl):QS X (.Expr e pos) (zJ te):=⟨CD he.r hs⟩
def ao {tg iter:Expr}{wi:rW}(hp:PassesOwn (model X.prog X.w) X.A X.env X.xe)(hc:X.calm=true)(hi:QI X tg iter wi)(hg:QG X tg g)(hb:QSs X body u)(hs:∀x,foldedSetIterable iter X.env x=pure x:=by intro _;rfl):QS X (.For tg iter body [] pos) (zk wi g u):=
 ⟨CS hp hc hi.r hg.r hb.r hs⟩
end
theorem Y9:∀{ss:List Str} {us:List Value},Vals (ss.map V.str) us->StrsAre us ss
 |[],_,.nil=> .nil
 |x::ss,_,.cons r t=>by
  obtain⟨k,rfl⟩:=r;exact .cons x k (Y9 t)
theorem Y4:∀{us:List Value} {ss:List Str},StrsAre us ss->Vals (ss.map V.str) us
 |_,_,.nil=> .nil
 |_,_,.cons y t r=> .cons ⟨t,rfl⟩ (Y4 r)
theorem V9:∀{xs:List V} {us:List Value},xs.length=us.length->(∀(i:Nat) x u,xs[i]?=some x->us[i]?=some u->RelV x u)->Vals xs us
 |[],[],_,_=> .nil
 |[],_::_,h,_=>by simp at h
 |_::_,[],h,_=>by simp at h
 |x::xs,u::us,h,k=> .cons (k 0 x u rfl rfl) (V9 (by simpa using h) λi y v e1 e2=>k (i+1) y v (by simpa using e1) (by simpa using e2))
section
variable {X:Cx}
def Inv.newL {pins:List (Addr×Obj)}{σ:St}{H:Hp}{s:Shared}{h':Heap}{tk:Nat}{a:Addr}{xs:List V}{out:Array Value}{e:Nat}(I:Inv X pins σ H s)(k:∀b u,s.heap.get? b=some u->h'.get? b=some u)(ha:s.heap.objs.size<=a)
  (ho:h'.get? a=some {cls:= .type "list",data:= .seq out e}) (rv:Vals xs out.toList) (hz:xs.length<=sizeLine):Inv X pins σ (upd H a (.lst xs)) {s with heap:=h',toks:=tk}:=
 I.laid k ha ⟨hz,out.toList,e,rv,by rw[ho]⟩
def ObjOk.live {P:Program}{w:World}{H:Hp}{h:Heap}{a:Addr}{o:HO}(x:ObjOk P w H h a o):∃ob,h.get? a=some ob:=by
 cases o with
 |lst xs=>obtain⟨_,_,_,_,e⟩:=x;exact⟨_,e⟩
 |tup xs=>obtain⟨_,_,_,o,e,_⟩:=x;exact⟨_,e⟩
 |dK kvs=>obtain⟨_,_,_,_,o,_,_,e,_⟩:=x;exact⟨_,e⟩
 |dT kvs=>obtain⟨_,_,_,_,o,_,_,e,_⟩:=x;exact⟨_,e⟩
 |set S n=>obtain⟨o,_,_,_,e,_⟩:=x;exact⟨_,e⟩
 |ins C dx fs=>obtain⟨_,_,_,e,_⟩:=x;exact⟨_,e⟩
 |own y=>exact x
 |xd fs=>obtain⟨_,⟨_,_,_,e,_⟩,_⟩:=x;exact⟨_,e⟩
 |rng lo hi=>obtain⟨_,_,_,e⟩:=x;exact⟨_,e⟩
 |frz ob u=>obtain⟨e,_⟩:=x;exact⟨_,e⟩
 |tbl ps=>exact⟨_,(show h.get? a=some _ from x)⟩
 |met f y=>exact⟨_,(show h.get? a=some _ from x)⟩
 |ext φ=>obtain⟨_,e,_⟩:=x;exact e
def Inv.newN {pins:List (Addr×Obj)}{σ:St}{H:Hp}{s:Shared}{h':Heap}{tk:Nat}{a:Addr}{xs:List V}{out:Array Value}{e:Nat}(I:Inv X pins σ H s)(k:∀b u,s.heap.get? b=some u->h'.get? b=some u)(hn:s.heap.get? a=none)
  (ho:h'.get? a=some {cls:= .type "list",data:= .seq out e}) (rv:Vals xs out.toList) (hz:xs.length<=sizeLine):H a=none/\Inv X pins σ (upd H a (.lst xs)) {s with heap:=h',toks:=tk}:=by
 have hH:H a=none:=by
  cases q:H a with
  |none=>rfl
  |some u=>
   obtain⟨ob,z⟩:=(I.hok a u q).live
   rw[hn] at z;cases z
 have na:∀b o,s.heap.get? b=some o->b≠a:=λb o z w=>by rw[w,hn] at z;cases z
 have nh:∀b u,H b=some u->b≠a:=λb u z=>d6 z hH
 refine⟨hH,I.un ⟨λb o z n _ _=>k b o z,λb o z n _ _=>⟨o.slots,k b o z⟩,λb o z n _=>by rw[d9 (na b o z)];exact n,λb o z _=>⟨o,k b o z⟩,λb ys z=>by rw[d9 (nh b _ z)];exact z,
  λb ob u z=>by rw[d9 (nh b _ z)];exact z,λb ps z=>⟨#[],by rw[d9 (nh b _ z)];simpa using z⟩⟩ λb u z=>?_⟩
 by_cases hb:b=a
 .subst hb
  rw[d8] at z;cases z
  exact⟨hz,out.toList,e,rv,by rw[ho]⟩
 .rw[d9 hb] at z
  exact(I.hok b u z).stay (λc v _ y=>k c v y) (λc y=>by rw[d9 (nh c _ y)];exact y) λc ys y=>by rw[d9 (nh c _ y)];exact y
def qG (K:Za):List V->Hp->VK->Prop:=λxs H Q=>∃(p:Addr) (ss:List Str),xs=[.ref p]/\(SqL K H p (ss.map V.str)\/∃kvs:List (i6×V),Rd H p (.dK kvs)/\kvs.map (·.1)=ss.map Sum.inr)/\ss.length<64/\
 ∀l_:List Str,l_.Perm ss->sortedS l_=true->∀l,H l=none->Q (.ref l) (upd H l (.lst (l_.map V.str)))
def pH {M:Program}{w:World}{A:Around}{E:Value->Shared->Prop}{s:Shared}{a:Addr}{vs:List Value}{ss:List Str}{n:Nat}{Q:Value->Shared->Prop}(ho:s.heap.get? a=some (seqObj "list" vs.toArray n))(hS:StrsAre vs ss)(UE:vs.length<64)
  (h:∀(out:Array Value) (l_:List Str),StrsAre out.toList l_->l_.Perm ss->sortedS l_=true->Q .none {s with heap:=sortedHeap s.heap a vs out}):
  wpAny (model M w) A (call (.builtin "list.sort") [.ref a]) Q E s:=by
 refine Qf PySem.F.slot_list_sort ⟨_,ho,rfl⟩ PySem.F.entry_list_sort ?_ (PySem.F.args_list_sort_1 _)
 refine list_sort_treeK strKind_oneLt ho hS.keysOf (λv₁ v₂ au e=>keyKind_strs (by rw[←e];exact hS)) UE λe_ hp hs=>?_
 obtain⟨l_,h1,h2,h3⟩:=sorted_out_str hS hp hs
 exact⟨_,rfl,h _ l_ h1 h2 h3⟩
def pU (hc:X.calm=true):CallR X (.builtin "sorted") (qG X.K):=by
 intro pins s σ H xs us Q I r h;obtain⟨p,ss,rfl,hx,UE,q⟩:=h;obtain⟨u,rfl,ru⟩:=O7 r;cases ru;have UG:(64:Nat)<=sizeLine:=by decide
 rcases hx with hx|⟨kvs,hx,hk⟩
 .obtain⟨a_,rv,ht,hz⟩:=I.list hx;have hS:=Y9 rv;have hl:a_.length=ss.length:=by have:=rv.length;simpa using this.symm
  refine sorted_strs ht.isList hS (by lia) λout l_ a1 a2 a3=>?_;obtain⟨e,he⟩:=sortedAll_at s.heap a_ out;have RE:=a2.length_eq;exact⟨.ref (s.heap.objs.size+1),_,I.newL (tk:=s.toks) (λ_ _=>sortedAll_old) (NR _) he (Y4 a1) (by rw[Ll];lia),rfl,q l_ a2 a3 _ (I.hok.fresh (NR _))⟩
 .obtain⟨hd,o,vs,ep,ho,D⟩:=dO I.hok hx;have dat:=D.at_ _ ho;have hlen:kvs.length=ss.length:=by have:=Mw List.length hk;simpa using this
  have Xu:=KV.length D.kv;refine OR kind_sorted plain_sorted entry_sorted (args_sorted1 _) ?_;unfold Builtin.«sorted»;refine Lx (m:=checkCount "sorted" 1 1 _) (LK ?_);refine Lx (Su (A:=X.A.in1) (PySem.W.kdl_dict (knd:=q8 X.prog X.w) (kvs:=vs) (ep:=ep) hd) (I.ok.hd hc) dat (by lia) λh' tk acc hkp s_=>?_);have hl:acc.toList.length=vs.length:=by rw[Mz];exact s_.1
  have hS:StrsAre acc.toList ss:=by
   refine Y9 (V9 (by rw[Ll];lia) λi x u e1 e2=>?_);obtain⟨k,y,hy,ZV⟩:=s_.2 i u (by rw[←Mb];exact e2);have e3:(kvs.map (·.1))[i]?=some k:=by rw[KV.keys D.kv,Lo,hy];rfl
   rw[hk,Lo] at e3;rw[Lo] at e1;cases e4:ss[i]? with
   |none=>rw[e4] at e1;cases e1
   |some z=>
    rw[e4] at e1 e3
    cases e1
    cases e3
    exact jS ZV
  refine Lx (Ri ?_ (by rw[hl];lia));refine Lx (Nj (pH (s:={s with heap:=h'.push {cls:= .type "list",data:= .seq acc.toList.toArray},toks:=tk}) (n:=0) (LY _ rfl) hS (by lia) λout l_ a1 a2 a3=>?_));obtain⟨e,he⟩:=sortedHeap_at (h:=h'.push {cls:= .type "list",data:= .seq acc.toList.toArray}) (a:=h'.objs.size) (vs:=acc.toList) (n:=0) (out:=out) (LY _ rfl);have Ta:s.heap.get? h'.objs.size=none:=by
   cases z:s.heap.get? h'.objs.size with
   |none=>rfl
   |some ob=>exact absurd (LI (hkp _ _ z)) (Ni _)
  have RE:=a2.length_eq;obtain⟨hH,I2⟩:=I.newN (tk:=tk) (h':=sortedHeap (h'.push {cls:= .type "list",data:= .seq acc.toList.toArray}) h'.objs.size acc.toList out) (xs:=l_.map V.str) (λb u eb=>by
   have hb:=LI (hkp b u eb);rw[sortedHeap_old (b:=b) (Ma hb) (by rw[QL];exact QV hb)];exact Ly _ (hkp b u eb)) Ta he (Y4 a1) (by rw[Ll];lia)
  exact LK ⟨_,rfl,.ref h'.objs.size,_,I2,rfl,q l_ a2 a3 _ hH⟩
def vQ (K:Za):List V->Hp->VK->Prop:=λxs H Q=>(∃p ys,xs=[.ref p]/\(SqL K H p ys\/SqT K H p ys)/\∀l,H l=none->Q (.ref l) (upd H l (.lst ys)))\/
 (∃(p:Addr) (kvs:List (i6×V)),xs=[.ref p]/\Rd H p (.dK kvs)/\∀l,H l=none->Q (.ref l) (upd H l (.lst (kvs.map λkv=>kV kv.1))))
def ud (hc:X.calm=true):CallR X (.type "list") (vQ X.K):=by
 refine call_list_of.or ?_;intro pins s σ H xs us Q I r h;obtain⟨p,kvs,rfl,hx,q⟩:=h;obtain⟨u,rfl,ru⟩:=O7 r;cases ru;obtain⟨hd,o,vs,ep,ho,D⟩:=dO I.hok hx;have Xu:=KV.length D.kv;have hz:kvs.length<=sizeLine:=(W0 I.hok hx).1;refine PySem.W.kdl_call (PySem.W.kdl_dict (knd:=q8 X.prog X.w) (kvs:=vs) (ep:=ep) hd) (I.ok.hd hc) (D.at_ _ ho) (by lia) λh' tk acc c hkp hS s_=>?_;refine⟨.ref s.heap.objs.size,_,I.newL (tk:=tk) hkp (Lp _) hS (V9 (by have:=s_.1;simp;lia) λi x u e1 e2=>?_) (by rw[Ll];exact hz),rfl,q _ (I.hok.fresh (Lp _))⟩;obtain⟨k,y,hy,ZV⟩:=s_.2 i u (by rw[←Mb];exact e2);rw[Lo] at e1;cases e4:kvs[i]? with
 |none=>rw[e4] at e1;cases e1
 |some kv=>
  rw[e4] at e1
  cases e1
  have e3:(kvs.map (·.1))[i]?=some kv.1:=by rw[Lo,e4];rfl
  rw[KV.keys D.kv,Lo,hy] at e3
  cases e3
  exact jS ZV
def DB:List V->Hp->VK->Prop:=λxs H Q=>∃(p:Addr) (kvs:List (i6×V)),xs=[.ref p]/\Rd H p (.dK kvs)/\∀l,H l=none->Q (.ref l) (upd H l (.dK kvs))
def uD:CallR X (.type "dict") DB:=by
 intro pins s σ H xs us Q I r h;obtain⟨p,kvs,rfl,hx,q⟩:=h;obtain⟨u,rfl,ru⟩:=O7 r;cases ru;exact yF I hx λl s' hl I'=>⟨.ref l,_,I',rfl,q l hl⟩
def Cm (K:Za):List V->Hp->VK->Prop:=λxs H Q=>∃(p:Addr) (ns:List Int),xs=[.ref p]/\SqL K H p (ns.map V.int)/\Q (.int ns.sum) H
def wH (hc:X.calm=true):CallR X (.builtin "sum") (Cm X.K):=by
 intro pins s σ H xs us Q I r h;obtain⟨p,ns,rfl,hx,q⟩:=h;obtain⟨u,rfl,ru⟩:=O7 r;cases ru;obtain⟨a_,rv,ht,hz⟩:=I.list hx;have hi:=tZ rv;obtain⟨ys,hy⟩:=hi.allInts.items;have hl:s.heap.IsList p (intItems ys):=hy▸ht.isList;refine sum_intListG (I.ok.hd hc) hl λh' tk t' hk=>?_;have e1:ns=ys.toList.map (·.1):=by
  rw[←nums_intItems,←hy];exact(show numsOf a_.toArray.toList=ns from hi.numsOf).symm
 have e2:preSum (numAt ys) ys.size=ns.sum:=by
  rw[preSum_eq,Lu (by simp),e1]
 rw[e2];exact⟨.int ns.sum,H,I.kept hk,⟨t',rfl⟩,q⟩
def Du:R2:=λx y H Q=>rI CMul (λi j=> .int (i*j)) x y H Q\/(∃z n,x= .str z/\y= .int n/\z.length<=1000/\-1000<=n/\n<=1000/\Q (.str (Txt.mul z n)) H)
def dN:OpR X (binaryOp .Mult) Du:=by
 refine op_mul.or ?_;intro pins s σ H x y v u Q I rx ry h;obtain⟨z,n,rfl,rfl,h1,h2,h3,q⟩:=h;obtain⟨t,rfl⟩:=rx;obtain⟨t',rfl⟩:=ry;exact SB.mul (mulOk_of 1000 1000 h1 h3 (by lia) (by decide) (by decide)) λt2 k=>⟨.str _,H,I.tok _,⟨t2,rfl⟩,q⟩
def vE:uL:=λo i v H Q=>DC o i v H Q\/(∃a H',o= .ref a/\DPut H a i v H'/\Q H')
def BO (hu:X.A.units+1<cLine):xg X vE:=by
 intro pins s σ H o i v ov iv u Q I ro ri rv h;rcases h with h|⟨a,H',rfl,g,q⟩
 .exact Ax pins s σ H o i v ov iv u Q I ro ri rv h
 .cases ro;exact wG hu I g ri rv λs' I'=>⟨H',I',q⟩
end
section
variable {X:Cx}
def Inv.pairNew {pins:List (Addr×Obj)}{σ:St}{H:Hp}{s:Shared}{fp:List Addr}{h':Heap}{tk:Nat}{x y:V}{u v:Value}{e:Nat}(I:Inv X pins σ H s)(hf:∀b∈fp,gN X pins H b)
  (kp:∀b o,b∉fp->s.heap.get? b=some o->h'.get? b=some o) (there:∀b∈fp,b<s.heap.objs.size) (tup:h'.get? s.heap.objs.size=some {cls:= .type "tuple",data:= .seq #[u,v] e}) (rx:RelV x u) (ry:RelV y v):
  H s.heap.objs.size=none/\Inv X pins σ (upd H s.heap.objs.size (.tup [x,y])) {s with heap:=h',toks:=tk}/\∀b∈fp,upd H s.heap.objs.size (.tup [x,y]) b=none:=by
 have fresh:H s.heap.objs.size=none:=I.hok.fresh (Lp _)
 have ZU:∀b o,s.heap.get? b=some o->b≠s.heap.objs.size:=λb o z=>Ma (LI z)
 have hH:∀b w,H b=some w->b≠s.heap.objs.size/\b∉fp:=λb w z=>⟨d6 z fresh,λm=>by rw[(hf b m).1] at z;cases z⟩
 have hok:HOk X.prog X.w (upd H s.heap.objs.size (.tup [x,y])) h':=λb w z=>by
  by_cases hb:b=s.heap.objs.size
  .subst hb;rw[d8] at z;cases z;exact⟨by show 2<=sizeLine;decide,[u,v],.cons rx (.cons ry .nil),⟨_,tup,rfl,_,rfl⟩⟩
  .rw[d9 hb] at z;refine(I.hok b w z).stay (λc ob hc q=>kp c ob ?_ q) (λc q=>by rw[d9 (hH c _ q).1];exact q) λc ys q=>by rw[d9 (hH c _ q).1];exact q
   rcases hc with m|m
   .rw[m];exact(hH b _ z).2
   .exact(hH c _ m).2
 refine⟨fresh,I.call' (s':={s with heap:=h',toks:=tk}) (ch:=fp) rfl ⟨λb o z n _ hx=>kp b o hx z,λb o z n _ hx=>⟨o.slots,kp b o hx z⟩,λb o z n _=>by rw[d9 (ZU b o z)];exact n,
  λb o z hx=>⟨o,kp b o hx z⟩,λb ys z=>by rw[d9 (hH b _ z).1];exact z,λb ob w z=>by rw[d9 (hH b _ z).1];exact z,λb ps z=>⟨#[],by rw[d9 (hH b _ z).1];simpa using z⟩⟩ hok I.bare λb hb=>?_,λb hb=>?_⟩
 .obtain⟨f0,f1,f2,f3,f4,f5⟩:=hf b hb
  exact⟨f3,f1,f4,f5⟩
 .rw[d9 (Ma (there b hb))];exact(hf b hb).1
def Inv.turnedAll {pins:List (Addr×Obj)}{σ:St}{H:Hp}{s:Shared}{fp:List Addr}{h':Heap}{tk:Nat}(I:Inv X pins σ H s)(hf:∀b∈fp,gN X pins H b)
  (kp:∀b o,b∉fp->s.heap.get? b=some o->h'.get? b=some o):Inv X pins σ H {s with heap:=h',toks:=tk}:=by
 have hH:∀b w,H b=some w->b∉fp:=λb w z m=>by rw[(hf b m).1] at z;cases z
 refine I.call' (s':={s with heap:=h',toks:=tk}) (ch:=fp) rfl ⟨λb o z n _ hx=>kp b o hx z,λb o z n _ hx=>⟨o.slots,kp b o hx z⟩,λb o z n _=>n,
  λb o z hx=>⟨o,kp b o hx z⟩,λb ys z=>z,λb ob w z=>z,λb ps z=>⟨#[],by simpa using z⟩⟩ (λb w z=>?_) I.bare λb hb=>?_
 .refine(I.hok b w z).stay (λc ob hc q=>kp c ob ?_ q) (λc q=>q) λc ys q=>q
  rcases hc with m|m
  .rw[m];exact hH b _ z
  .exact hH c _ m
 .obtain⟨f0,f1,f2,f3,f4,f5⟩:=hf b hb
  exact⟨f3,f1,f4,f5⟩
end
def JP (K:Za)(l:Addr):It:=
 ⟨λi H=>∃xs x,SqL K H l xs/\xs[i]?=some x,λi H x H'=>∃t v,(∀xs,SqL K H l xs->xs[i]?=some v)/\H t=none/\x= .ref t/\H'=upd H t (.tup [.int i,v]),λi H=>∃xs,SqL K H l xs/\xs.length<=i⟩
def xS {P:Program}{w:World}{K:Za}{elts:List Expr}{x1}{x_:Pos}{en it l:Addr}(v_:en≠it):jD P w K (.Tuple elts x1 x_) (JP K l) [en,it] en (λi h=>∃old,IsEnum h en it i old/\h.IsListIter it l i) where
 mem:=by simp
 obj:=λi h st b hb=>by
  obtain⟨old,h1,o,e,c,d⟩:=st;have F':b=en\/b=it:=by simpa using hb
  rcases F' with rfl|rfl
  .exact⟨_,h1,λv z=>by
    have z':Data.fields _=Data.cell v:=z;cases z'⟩
  .exact⟨o,e,λv z=>by rw[d] at z;cases z⟩
 keep:=λi h h' st k=>by
  obtain⟨old,h1,h2⟩:=st;exact⟨old,k en (by simp) _ h1,h2.at λo e=>k it (by simp) o e⟩
 item:=by
  intro X hP hw hK hc i pins s σ H E I hf st hg;subst hP hw hK;obtain⟨old,VO,G_⟩:=st;obtain⟨xs,x,hq,hx⟩:=hg;obtain⟨a_,rv,p,hz⟩:=I.list hq;obtain⟨u,hu,ru⟩:=rv.get hx;have Xv:en<s.heap.objs.size:=LI VO;have hit:it<s.heap.objs.size:=by obtain⟨o,e,_⟩:=G_;exact LI e
  refine wpAny_pyNext_enum_item VO G_ p.isList (x:=u) (by simpa using hu) v_ λh' Vl hit1 ht1 hz1 Xw=>?_;refine⟨.ref s.heap.objs.size,rfl,wpAny_letOwnedTupleGo_enum (s:={s with heap:=h',toks:=s.toks+1}) Vl λSo he'' hs''=>?_⟩;have UD:Heap.SameBut en h' So:=hs'';have Uh:So.get? s.heap.objs.size=some {cls:= .type "tuple",data:= .seq #[.int i s.toks,u]}:=UD.extBut _ _ (Tz Xv) ht1;obtain⟨fr,I1,UH⟩:=I.pairNew (fp:=[en,it]) (h':=So) (tk:=s.toks+1) (x:= .int i) (y:=x) hf (λb o hb e=>by
   have F':b≠en/\b≠it:=by simpa using hb
   exact UD.extBut b o F'.1 (Xw b o F'.1 F'.2 e)) (λb hb=>by
   have F':b=en\/b=it:=by simpa using hb
   rcases F' with rfl|rfl
   .exact Xv
   .exact hit) Uh ⟨_,rfl⟩ ru
  refine⟨.ref s.heap.objs.size,_,I1,rfl,⟨_,x,λys hy=>by rw[I.list_inj hy hq];exact hx,fr,rfl,rfl⟩,⟨_,he'',?_⟩,UH⟩;exact hit1.at λo e=>UD.extBut it o (OD v_) e
 done:=by
  intro X hP hw hK hc i pins s σ H E I hf st hg;subst hP hw hK;obtain⟨old,VO,G_⟩:=st;obtain⟨xs,hq,hx⟩:=hg;obtain⟨a_,rv,p,hz⟩:=I.list hq;have hl:=rv.length;exact wpAny_pyNext_enum_end (I.ok.hd hc) VO G_ p.isList (by simp;lia) λh' eb=>⟨rfl,I.turnedAll (fp:=[en,it]) (tk:=s.toks) hf λb o hb e=>eb b o (by
   have F':b≠en/\b≠it:=by simpa using hb
   exact F'.2) e⟩
 self:=λ_ _ _ _ _ st h=>by
  obtain⟨old,VO,G_⟩:=st;exact wpAny_pyIter_enum VO h
section
variable {X:Cx} {a b:Expr} {t:TA} {p pos:Pos}
end
section
variable {X:Cx} {a b:Expr} {t:TA} {p pos:Pos}
end
section
variable {X:Cx} (K:Za) {a b:Expr} {t:TA} {p pos:Pos}
def V4 (hc:X.calm=true)(h:X.K=K:=by rfl):CallR X (.builtin "sorted") (qG K):=h▸pU hc
def Kb (hc:X.calm=true)(h:X.K=K:=by rfl):CallR X (.builtin "sum") (Cm K):=h▸wH hc
end
def N8 {X:Cx}:Cw X "list.append" vw:=xR
section
variable {K:Za} {σ:St} {H:Hp} {Q:VK}
def D4 {p:Addr}{kvs:List (i6×V)}{ss:List Str}(h:Rd H p (.dK kvs))(hk:kvs.map (·.1)=ss.map Sum.inr)(UE:ss.length<64)(q:∀l_:List Str,l_.Perm ss->sortedS l_=true->∀l,H l=none->Q (.ref l) (upd H l (.lst (l_.map V.str)))):qG K [.ref p] H Q:=⟨p,ss,rfl,.inr ⟨kvs,h,hk⟩,UE,q⟩
def vp {p:Addr}{xs:List V}(h:SqL K H p xs)(q:∀l,H l=none->Q (.ref l) (upd H l (.lst xs))):vQ K [.ref p] H Q:= .inl ⟨p,xs,rfl,.inl h,q⟩
def GU {p:Addr}{ns:List Int}(h:SqL K H p (ns.map V.int))(q:Q (.int ns.sum) H):Cm K [.ref p] H Q:=⟨p,ns,rfl,h,q⟩
def xO {i j:Int}(h:CMul i j)(q:Q (.int (i*j)) H):Du (.int i) (.int j) H Q:= .inl ⟨i,j,rfl,rfl,h,q⟩
def DZ {to ti:TE}{t:uL}{v:V}{Qs:St->Hp->Prop}(q:to σ H λo H1=>ti σ H1 λi H2=>t o i v H2 λH3=>Qs σ H3):Dg to ti t v σ H Qs:=q
def C6 {a:Addr}{kvs:List (i6×V)}{k:i6}{v:V}{Qh:Hp->Prop}(h:H a=some (.dK kvs))(hl:kvs.length<sizeLine)(q:Qh (upd H a (.dK (G3 kvs k v)))):vE (.ref a) (kV k) v H Qh:= .inr ⟨a,_,rfl,DPut.k h hl,q⟩
def K9 {n:Nat}{t:uQ}{a:Addr}{xs:List V}{Qs:St->Hp->Prop}(h:SqT K H a xs)(hl:xs.length=n)(q:t xs σ H Qs):zf K n t (.ref a) σ H Qs:=⟨a,xs,rfl,h,hl,q⟩
def BJ {t:TG}{u:uQ}{v:V}{r:List V}{Qs:St->Hp->Prop}(q:t v σ H λσ' H'=>u r σ' H' Qs):vW t u (v::r) σ H Qs:=⟨v,r,rfl,q⟩
def Gq {Qs:St->Hp->Prop}(q:Qs σ H):EN [] σ H Qs:=⟨rfl,q⟩
def JC {T:String}{r:V->List V->Hp->VK->Prop}{to:TE}{t:TA}(q:to σ H λx H1=>GL K T x H1/\t σ H1 λxs H2=>r x xs H2 Q):JW K T r to t σ H Q:=q
def Hk {T:String}{r:V->List V->Hp->VK->Prop}{to:TE}(q:to σ H λx H1=>GL K T x H1/\r x [] H1 Q):FF K T r to σ H Q:=q
def W5 {p:Addr}{x:V}{o:Option V}(g:di H p x o)(q:Q (.bl o.isSome) H):xt K x (.ref p) H Q:= .inr (.inr ⟨p,o,rfl,g,q⟩)
def aA {p:Addr}{x:V}{o:Option V}(g:di H p x o)(q:Q (.bl (!o.isSome)) H):jN K x (.ref p) H Q:= .inr (.inr ⟨p,o,rfl,g,q⟩)
def rM {p:Addr}{x:V}{xs:List V}(h:SqL K H p xs\/SqT K H p xs)(h1:E3 x=true)(h2:xs.all E3=true)(q:Q (.bl (Gy x xs)) H):xt K x (.ref p) H Q:= .inr (.inl ⟨p,xs,rfl,h,h1,h2,q⟩)
def zv {p:Addr}{xs:List V}{lo hi:Option Int}(h:SqT K H p xs)(hw:¬(HT.sIx xs.length 0 lo=0/\HT.sIx xs.length xs.length hi=xs.length))(q:∀p,H p=none->Q (.ref p) (upd H p (.tup (fq xs lo hi)))):IW K (.ref p) lo hi H Q:= .inr (.inl ⟨p,xs,rfl,h,hw,q⟩)
def N0 {a:Addr}{kvs:List (i6×V)}{k:i6}(e:Rd H a (.dK kvs)):di H a (kV k) (A5 kvs k):= .inl ⟨kvs,k,e,rfl,rfl⟩
end
open PySem.AutoSeq1 (wpAny_loadPart')
def EqP (P:Program)(w:World)(A:Around)(s:Shared)(y x:Value)(b:Bool):Prop:=∀(E:Value->Shared->Prop) (Q:Bool->Shared->Prop),Q b s->wpAny (model P w) A (eqBool y x) Q E s
def RcP (P:Program)(w:World)(A:Around)(s:Shared)(y x:Value)(b:Bool):Prop:=∀(E:Value->Shared->Prop) (Q:Value->Shared->Prop),Q (.bool b) s->wpAny (model P w) A (richCompare .Eq y x) Q E s
def EqP.of {P:Program}{w:World}{A:Around}{s:Shared}{y x:Value}{b:Bool}(h:SeqAt.EqAt A s y x b):EqP P w A s y x b:=λE Q q=>h P w E Q q
def EqP.refs {P:Program}{w:World}{A:Around}{s:Shared}{l m:Addr}{k:Bool}(v_:l≠m)(h:RcP P w A s (.ref l) (.ref m) k):EqP P w A s (.ref l) (.ref m) k:=λE Q q=>by
 unfold eqBool;refine Nj (wpAny_ite_split (λz=>absurd (Value.ref.inj (eq_of_beq z)) v_) λ_=>Lx (h E _ (MY q)))
def FL {P:Program}{w:World}(l m:Addr)(xs ys:Array Value)(n1 n2:Nat)(d1 d2:Option Addr)(s1 s2:Array (Option Value))(f:Nat->Bool):
  MeetsIn P w (Builtin.«tuple.__eq__» ⟨[.ref l,.ref m],[]⟩) (λA R s=>
   s.heap.get? l=some {cls:= .type "tuple",dict:=d1,data:= .seq xs n1,slots:=s1}/\s.heap.get? m=some {cls:= .type "tuple",dict:=d2,data:= .seq ys n2,slots:=s2}/\
   (∀j (g1:j<xs.size) (g2:j<ys.size),EqP P w A.in1 s xs[j] ys[j] (f j))/\
   R (.ok (.ret (.bool ((List.range (min xs.size ys.size)).all f&&xs.size==ys.size)))) s):=
 .of_wp λA R s hyp=>by
  obtain⟨hp,gg,dr,tk,os⟩:=s;obtain⟨e1,e2,he,fin⟩:=hyp;have sub:=Pe;have len:(xs.toList.zip ys.toList).length=min xs.size ys.size:=by simp
  wp_walk using wpAny_loadPart' e1,wpAny_loadPart' e2,Rr _ (λmore acc st=>acc.1=none/\st=⟨hp,gg,dr,tk,os⟩/\∃i,more=(xs.toList.zip ys.toList).drop i/\
   R (.ok (.ret (.bool (((List.range (min xs.size ys.size)).drop i).all f&&xs.size==ys.size)))) ⟨hp,gg,dr,tk,os⟩) _
  case turn=>
   rintro⟨y,x⟩ more acc st ⟨ha,rfl,i,hi,hR⟩
   have lt:i<(xs.toList.zip ys.toList).length:=by
    rcases MK i (xs.toList.zip ys.toList).length with z|z
    .exact z
    .rw[Nl z] at hi;cases hi
   have lm:i<min xs.size ys.size:=len▸lt
   have lx:i<xs.size:=LJ lm (Qv _ _)
   have ly:i<ys.size:=LJ lm (OT _ _)
   rw[Mj lt] at hi
   injection hi with h1 h2
   have q1:y=xs[i]:=by simpa using Mw Prod.fst h1
   have q2:x=ys[i]:=by simpa using Mw Prod.snd h1
   subst q1 q2
   have VP:(List.range (min xs.size ys.size)).drop i=i::(List.range (min xs.size ys.size)).drop (i+1):=by simp [Mj,lm]
   rw[VP,Ou] at hR
   refine Lx (he i lx ly _ _ ?_)
   cases hf:f i with
   |true=>
    rw[hf] at hR
    wp_walk
    exact⟨rfl,rfl,i+1,h2,by simpa using hR⟩
   |false=>
    rw[hf] at hR
    wp_walk
    exact⟨_,rfl,by simpa using hR⟩
  case fin=>
   rintro⟨c1,c2⟩ st ⟨ha,rfl,i,hi,hR⟩
   simp only at ha
   subst ha
   have ge:min xs.size ys.size<=i:=by
    rcases MK i (xs.toList.zip ys.toList).length with z|z
    .rw[Mj z] at hi;cases hi
    .exact len▸z
   rw[Nl (by simpa using ge)] at hR
   wp_walk
   exact⟨_,rfl,by simpa [Builtin.Tuple.tupleCompareSizes] using hR⟩
  case h=>
   exact⟨rfl,rfl,0,rfl,by simpa using fin⟩
def RcP.tup {P:Program}{w:World}{A:Around}{s:Shared}{l m:Addr}{xs ys:Array Value}{f:Nat->Bool}(hl:s.heap.IsTuple l xs)(hm:s.heap.IsTuple m ys)(hu:A.units<cLine)
  (he:∀j (g1:j<xs.size) (g2:j<ys.size),EqP P w A.in1 s xs[j] ys[j] (f j)):RcP P w A s (.ref l) (.ref m) ((List.range (min xs.size ys.size)).all f&&xs.size==ys.size):=λE Q q=>by
 obtain⟨⟨c1,d1,a1,s1⟩,o1,k1,n1,t1⟩:=id hl
 obtain⟨⟨c2,d2,a2,s2⟩,o2,k2,n2,t2⟩:=id hm
 simp only at k1 t1 k2 t2
 subst k1 t1 k2 t2
 refine NC (op:= .Eq) ⟨_,o1,rfl⟩ ⟨_,o2,rfl⟩ RJ (NO RJ ⟨_,o1,rfl⟩ PySem.F.entry_tuple_eq (PySem.F.args_tuple_eq_2 _ _) (FL l m xs ys n1 n2 d1 d2 s1 s2 f) ⟨o1,o2,he,?_⟩) hu
 exact⟨(λz=>nomatch z),q⟩
def bt:List V->List V->Bool
 |[],[]=>true
 |x::xs,y::ys=>dq x y&&bt xs ys
 |_,_=>false
inductive Eq1 (K:Za) (H:Hp):V->V->Bool->Prop
 |flat {x y:V}:E3 x=true->E3 y=true->Eq1 K H x y (dq x y)
 |tup {a b:Addr} {xs ys:List V}:SqT K H a xs->SqT K H b ys->xs.all E3=true->ys.all E3=true->Eq1 K H (.ref a) (.ref b) (bt xs ys)
 |nt {a:Addr} {xs:List V}:SqT K H a xs->Eq1 K H .non (.ref a) false
 |tn {a:Addr} {xs:List V}:SqT K H a xs->Eq1 K H (.ref a) .non false
theorem lG:∀{x:V},E3 x=true->dq x x=true
 | .non,_=>rfl
 | .bl b,_=>by simp [dq]
 | .int i,_=>by simp [dq]
 | .str x,_=>by simp [dq]
theorem iQ:∀{xs:List V},xs.all E3=true->bt xs xs=true
 |[],_=>rfl
 |x::xs,h=>by
  rw[Ou,Mg] at h;show(dq x x&&bt xs xs)=true;rw[lG h.1,iQ h.2];rfl
theorem ak:∀(xs ys:List V),((List.range (min xs.length ys.length)).all (λj=>dq (xs.getD j .non) (ys.getD j .non))&&xs.length==ys.length)=bt xs ys
 |[],[]=>rfl
 |[],_::_=>by simp [bt]
 |_::_,[]=>by simp [bt]
 |x::xs,y::ys=>by
  have ih:=ak xs ys;have e:min (x::xs).length (y::ys).length=min xs.length ys.length+1:=by simp
  rw[e,Pz,Ou,Nc];show((dq x y&&(List.range (min xs.length ys.length)).all _)&&(xs.length+1==ys.length+1))=(dq x y&&bt xs ys);rw[←ih,Bool.and_assoc];congr 1;congr 1;simp
section
variable {X:Cx} {pins:List (Addr×Obj)} {σ:St} {H:Hp} {s:Shared} {A:Around}
def Eq1.at_ {x y:V}{u v:Value}{b:Bool}(I:Inv X pins σ H s)(h:Eq1 X.K H x y b)(rx:RelV x u)(ry:RelV y v)(hu:A.units+8<cLine):SeqAt.EqAt A s u v b:=by
 cases h with
 |flat fx fy=>exact bY rx ry fx fy
 | @tup a c xs ys ha hc fx fy=>
  cases rx
  cases ry
  obtain⟨a_,r1,p1,z1⟩:=I.tuple ha
  obtain⟨its',r2,p2,z2⟩:=I.tuple hc
  by_cases hac:a=c
  .subst hac
   have e:=I.tuple_inj ha hc
   subst e
   rw[iQ fx]
   exact Qm _
  .have l1:=r1.length
   have l2:=r2.length
   have q:=SeqAt.RcAt.tuples (A:=A) (e:=λj=>dq (xs.getD j .non) (ys.getD j .non)) (show s.heap.IsTuple a a_.toArray from p1) (show s.heap.IsTuple c its'.toArray from p2) (by lia) λj g1 g2=>by
    have Uj:j<a_.length:=by simpa using g1
    have Uk:j<its'.length:=by simpa using g2
    have x1:xs[j]?=some (xs[j]'(by lia)):=by simp [show j<xs.length by lia]
    have y1:ys[j]?=some (ys[j]'(by lia)):=by simp [show j<ys.length by lia]
    obtain⟨u1,Rw,UU⟩:=r1.get x1;obtain⟨u2,Sq,UW⟩:=r2.get y1;have e1:a_.toArray[j]=u1:=by
     have:=Lm Uj;rw[Rw] at this;simpa using(LO this).symm
    have e2:its'.toArray[j]=u2:=by
     have:=Lm Uk;rw[Sq] at this;simpa using(LO this).symm
    rw[e1,e2];have d1:xs.getD j .non=xs[j]'(by lia):=by rw[Mx,x1];rfl
    have d2:ys.getD j .non=ys[j]'(by lia):=by rw[Mx,y1];rfl
    rw[d1,d2];exact bY UU UW (LZ.mp fx _ (LM _)) (LZ.mp fy _ (LM _))
   have e3:a_.toArray.size=xs.length:=by simp [l1]
   have e4:its'.toArray.size=ys.length:=by simp [l2]
   rw[e3,e4,ak] at q
   exact .of_refs hac q
 | @nt a xs ha=>
  cases rx
  cases ry
  obtain⟨a_,r1,p1,z1⟩:=I.tuple ha
  exact SeqAt.EqAt.none_tuple (show s.heap.IsTuple a a_.toArray from p1) (by lia)
 | @tn a xs ha=>
  cases rx
  cases ry
  obtain⟨a_,r1,p1,z1⟩:=I.tuple ha
  exact SeqAt.EqAt.tuple_none (show s.heap.IsTuple a a_.toArray from p1) (by lia)
end
inductive EqH (K:Za) (H:Hp) (kb:List (i6×V)):List (i6×V)->Bool->Prop
 |nil:EqH K H kb [] true
 |miss {k:i6} {v:V} {r:List (i6×V)}:A5 kb k=none->EqH K H kb ((k,v)::r) false
 |hit {k:i6} {v y:V} {r:List (i6×V)} {e b:Bool}:A5 kb k=some y->Eq1 K H v y e->EqH K H kb r b->EqH K H kb ((k,v)::r) (e&&b)
def EqD (K:Za)(H:Hp)(a b:Addr)(r:Bool):Prop:=(a=b/\r=true)\/(a≠b/\∃ka kb r0,Rd H a (.dK ka)/\Rd H b (.dK kb)/\EqH K H kb ka r0/\r=(ka.length==kb.length&&r0))
section
variable {X:Cx} {pins:List (Addr×Obj)} {σ:St} {H:Hp} {s:Shared} {A:Around}
def EqH.hits {kb:List (i6×V)}{vb:List (i6×Value)}(I:Inv X pins σ H s)(hu:A.units+8<cLine)(rb:KV kb vb){ka:List (i6×V)}{r:Bool}(h:EqH X.K H kb ka r):∀{va:List (i6×Value)},KV ka va->PySem.W.KeqHits A s vb va r:=by
 induction h with
 |nil=>
  intro va t
  cases t
  exact .nil
 | @miss k v r hn=>
  intro va t
  cases t with
  | @cons _ q _ l e t=>
   obtain⟨k',u⟩:=q
   have Xx:k=k':=e.1
   subst Xx
   refine .miss ?_
   have z:=KV.val rb k
   rw[hn] at z
   cases e:valueAt vb k with
   |none=>rfl
   |some y=>rw[e] at z;exact False.elim z
 | @hit k v y r e b hy h1 hr ih=>
  intro va t
  cases t with
  | @cons _ q _ l e t=>
   obtain⟨k',u⟩:=q
   have Xx:k=k':=e.1
   subst Xx
   have z:=KV.val rb k
   rw[hy] at z
   cases e5:valueAt vb k with
   |none=>rw[e5] at z;exact False.elim z
   |some y'=>
    rw[e5] at z
    exact .hit e5 (h1.at_ I e.2 z hu) (ih t)
def EqD.at_ {a b:Addr}{r:Bool}(I:Inv X pins σ H s)(h:EqD X.K H a b r)(hu:A.units+16<cLine):EqP X.prog X.w A s (.ref a) (.ref b) r:=by
 rcases h with⟨rfl,rfl⟩|⟨v_,ka,kb,r0,h1,h2,h3,rfl⟩
 .exact .of (Qm _)
 .obtain⟨z1,d1,va,ra,da⟩:=W0 I.hok h1;obtain⟨z2,d2,vb,rb,db⟩:=W0 I.hok h2;refine .refs v_ λE Q q=>?_;have l1:=KV.length ra;have l2:=KV.length rb;exact PySem.W.keq_eq (knd:=q8 X.prog X.w) d1 d2 da db (by lia) (λ_=>h3.hits (A:=A.in1) I (by show A.units+1+8<_;lia) rb ra) (by rw[←l1,←l2];exact q)
def IE (K:Za):R2:=λx y H Q=>∃a b p q p' q' r r',x= .ref a/\y= .ref b/\SqT K H a [.ref p,.ref q]/\SqT K H b [.ref p',.ref q']/\EqD K H p p' r/\EqD K H q q' r'/\Q (.bl (r&&r')) H
def EH (hu:X.A.units+64<cLine):OpR X (compareOp .Eq) (IE X.K):=by
 intro pins s σ H x y v u Q I rx ry h;obtain⟨a,b,p,q,p',q',r,r',rfl,rfl,ha,hb,h1,h2,k⟩:=h;cases rx;cases ry;obtain⟨a_,v1,t1,_⟩:=I.tuple ha;obtain⟨its',v2,t2,_⟩:=I.tuple hb;obtain⟨_,_,rfl,e1,e2⟩:=kW v1;obtain⟨_,_,rfl,e3,e4⟩:=kW v2;cases e1;cases e2;cases e3;cases e4;refine RcP.tup (P:=X.prog) (w:=X.w) (f:=λj=>if j=0 then r else r') (show s.heap.IsTuple a _ from t1) (show s.heap.IsTuple b _ from t2) (by lia) (λj g1 g2=>?_) _ _ ⟨.bl (r&&r'),H,I,by show Value.bool _=Value.bool _;simp [Pn],k⟩;have g:j<2:=by simpa using g1
 match j,g with
 |0,_=>exact h1.at_ I (by show X.A.units+1+16<_;lia)
 |1,_=>exact h2.at_ I (by show X.A.units+1+16<_;lia)
def GF (K:Za):R2:=λx y H Q=>∃a b xs ys,x= .ref a/\y= .ref b/\SqL K H a xs/\SqL K H b ys/\xs.all E3=true/\ys.all E3=true/\Q (.bl (bt xs ys)) H
theorem nj:∀{xs ys:List V},xs.length≠ys.length->bt xs ys=false
 |[],[],h=>absurd rfl h
 |[],_::_,_=>rfl
 |_::_,[],_=>rfl
 |x::xs,y::ys,h=>by
  show(dq x y&&bt xs ys)=false;rw[nj (by simpa using h),Bool.and_false]
def Fg (hu:X.A.units+64<cLine):OpR X (compareOp .Eq) (GF X.K):=by
 intro pins s σ H x y v u Q I rx ry h;obtain⟨a,b,xs,ys,rfl,rfl,ha,hb,fx,fy,k⟩:=h;cases rx;cases ry;obtain⟨a_,r1,p1,z1⟩:=I.list ha;obtain⟨its',r2,p2,z2⟩:=I.list hb;have l1:=r1.length;have l2:=r2.length;have e3:a_.toArray.size=xs.length:=by simp [l1]
 have e4:its'.toArray.size=ys.length:=by simp [l2]
 by_cases hl:xs.length=ys.length
 .have q:=SeqAt.RcAt.lists (A:=X.A) (e:=λj=>dq (xs.getD j .non) (ys.getD j .non)) p1.isList p2.isList (by rw[e3,e4];exact hl) (by lia) λj g1 g2=>by
   have Uj:j<a_.length:=by simpa using g1
   have Uk:j<its'.length:=by simpa using g2
   have x1:xs[j]?=some (xs[j]'(by lia)):=by simp [show j<xs.length by lia]
   have y1:ys[j]?=some (ys[j]'(by lia)):=by simp [show j<ys.length by lia]
   obtain⟨u1,Rw,UU⟩:=r1.get x1;obtain⟨u2,Sq,UW⟩:=r2.get y1;have e1:a_.toArray[j]=u1:=by
    have:=Lm Uj;rw[Rw] at this;simpa using(LO this).symm
   have e2:its'.toArray[j]=u2:=by
    have:=Lm Uk;rw[Sq] at this;simpa using(LO this).symm
   rw[e1,e2];have d1:xs.getD j .non=xs[j]'(by lia):=by rw[Mx,x1];rfl
   have d2:ys.getD j .non=ys[j]'(by lia):=by rw[Mx,y1];rfl
   rw[d1,d2];exact bY UU UW (LZ.mp fx _ (LM _)) (LZ.mp fy _ (LM _))
  have e5:=ak xs ys;rw[hl,Nat.min_self,Qg,Ox] at e5;rw[e3,hl,e5] at q;exact q X.prog X.w _ _ ⟨.bl _,H,I,rfl,k⟩
 .refine QX (A:=X.A) p1.isList p2.isList (by rw[e3,e4];simpa using hl) (by lia) X.prog X.w _ _ ⟨.bl _,H,I,?_,k⟩;rw[nj hl];rfl
def HP (K:Za):R2:=λx y H Q=>(∃a b xs ys,x= .ref a/\y= .ref b/\SqT K H a xs/\SqT K H b ys/\xs.all E3=true/\ys.all E3=true/\Q (.bl (bt xs ys)) H)\/(∃a xs,x= .non/\y= .ref a/\SqT K H a xs/\Q (.bl false) H)
def Ey (hu:X.A.units+64<cLine):OpR X (compareOp .Eq) (HP X.K):=by
 intro pins s σ H x y v u Q I rx ry h;rcases h with⟨a,b,xs,ys,rfl,rfl,ha,hb,fx,fy,k⟩|⟨a,xs,rfl,rfl,ha,k⟩
 .cases rx;cases ry;obtain⟨a_,r1,p1,z1⟩:=I.tuple ha;obtain⟨its',r2,p2,z2⟩:=I.tuple hb;have l1:=r1.length;have l2:=r2.length;have q:=SeqAt.RcAt.tuples (A:=X.A) (e:=λj=>dq (xs.getD j .non) (ys.getD j .non)) (show s.heap.IsTuple a a_.toArray from p1) (show s.heap.IsTuple b its'.toArray from p2) (by lia) λj g1 g2=>by
   have Uj:j<a_.length:=by simpa using g1
   have Uk:j<its'.length:=by simpa using g2
   have x1:xs[j]?=some (xs[j]'(by lia)):=by simp [show j<xs.length by lia]
   have y1:ys[j]?=some (ys[j]'(by lia)):=by simp [show j<ys.length by lia]
   obtain⟨u1,Rw,UU⟩:=r1.get x1;obtain⟨u2,Sq,UW⟩:=r2.get y1;have e1:a_.toArray[j]=u1:=by
    have:=Lm Uj;rw[Rw] at this;simpa using(LO this).symm
   have e2:its'.toArray[j]=u2:=by
    have:=Lm Uk;rw[Sq] at this;simpa using(LO this).symm
   rw[e1,e2];have d1:xs.getD j .non=xs[j]'(by lia):=by rw[Mx,x1];rfl
   have d2:ys.getD j .non=ys[j]'(by lia):=by rw[Mx,y1];rfl
   rw[d1,d2];exact bY UU UW (LZ.mp fx _ (LM _)) (LZ.mp fy _ (LM _))
  have e3:a_.toArray.size=xs.length:=by simp [l1]
  have e4:its'.toArray.size=ys.length:=by simp [l2]
  rw[e3,e4,ak] at q;exact q X.prog X.w _ _ ⟨.bl _,H,I,rfl,k⟩
 .cases rx;cases ry;obtain⟨a_,r1,p1,z1⟩:=I.tuple ha;exact SeqAt.RcAt.none_tuple (A:=X.A) (show s.heap.IsTuple a a_.toArray from p1) (by lia) X.prog X.w _ _ ⟨.bl false,H,I,rfl,k⟩
def qc (K:Za):R2:=λx y H Q=>Jm x y H Q\/GF K x y H Q\/HP K x y H Q\/IE K x y H Q
def Kv (K:Za){k:Nat}(hr:Room k X.A)(h:X.K=K:=by rfl):OpR X (compareOp .Eq) (qc K):=h▸op_eq.or ((Fg hr.units).or ((Ey hr.units).or (EH hr.units)))
end
section
variable {K:Za} {H:Hp} {Q:VK}
def Bh {i j:Int}(q:Q (.bl (decide (i=j))) H):qc K (.int i) (.int j) H Q:= .inl (tp q)
def zM {i j:Str}(q:Q (.bl (decide (i=j))) H):qc K (.str i) (.str j) H Q:= .inl (rF q)
def ko {a b:Addr}{xs ys:List V}(ha:SqT K H a xs)(hb:SqT K H b ys)(fx:xs.all E3=true)(fy:ys.all E3=true)(q:Q (.bl (bt xs ys)) H):qc K (.ref a) (.ref b) H Q:= .inr (.inr (.inl (.inl ⟨a,b,xs,ys,rfl,rfl,ha,hb,fx,fy,q⟩)))
end
section
variable {K:Za} {σ:St} {H H' H1:Hp} {Q:VK} {d:Addr} {kvs:List (i6×V)} {o:Obj}
def tF {i j:Int}(q:Q (.bl (!decide (i=j))) H):JN (.int i) (.int j) H Q:=⟨rfl,by rw[jV];rw[show(i==j)=decide (i=j) from Qd i j];exact q⟩
def JA {r:V->Hp->VK->Prop}{ta:TE}(q:ta σ H λx H1=>r x H1 Q):JZ r ta σ H Q:=q
def Hy {i:Int}(q:Q (.int (-i)) H):rU (λi=> .int (-i)) (.int i) H Q:=⟨i,rfl,q⟩
def nf:HO->Bool
 | .frz _ _=>false
 |_=>true
def Le (H H':Hp):Prop:=∀a u,nf u=true->Rd H a u->Rd H' a u
def Le.trans (a:Le H H1)(b:Le H1 H'):Le H H':=λx u n h=>b x u n (a x u n h)
def Same.le (s:Same H H'):Le H H':=λa u _ h=>s.rd h
def L0 (h:H d=some (.dK kvs)):Le H (E7 d o kvs H):=λa u n r=>by
 by_cases e:a=d
 .subst e;rcases r with r|⟨o',r⟩
  .rw[h] at r;cases r;exact .inr ⟨o,d8⟩
  .rw[h] at r;cases r
 .unfold E7 Rd;rw[d9 e];exact r
def le_thaw:Le H (thaw d H):=λa u n r=>by
 by_cases e:a=d
 .subst e;rcases r with r|⟨o',r⟩
  .rw[vV λo v z=>by rw[r] at z;cases z;cases n];exact .inl r
  .exact .inl (qO r)
 .unfold Rd;rw[M8 e];exact r
def Le.tup {a:Addr}{xs:List V}(l:Le H H')(h:SqT K H a xs):SqT K H' a xs:=by
 rcases h with h|h
 .exact .inl (l _ _ rfl h)
 .exact .inr h
def Le.lst {a:Addr}{xs:List V}(l:Le H H')(h:SqL K H a xs):SqL K H' a xs:=by
 rcases h with h|h
 .exact .inl (l _ _ rfl h)
 .exact .inr h
def Le.dic {a:Addr}(l:Le H H')(h:Rd H a (.dK kvs)):Rd H' a (.dK kvs):=l _ _ rfl h
abbrev N4:=Str×Str×Str
structure x9 where
 pts:List (Str×Str)
 ts:List (Str×N4)
def i7 (pts:List (Str×Str)):List (i6×V):=pts.map λx=>(Sum.inr x.1,.str x.2)
def Y7 (t:N4):List V:=[.str t.1,.str t.2.1,.str t.2.2]
def TieAt (K:Za)(H:Hp)(kv:i6×V)(x:Str×N4):Prop:=kv.1=Sum.inr x.1/\∃a,kv.2= .ref a/\SqT K H a (Y7 x.2)
def TiesIs (K:Za)(H:Hp)(kvs:List (i6×V))(ts:List (Str×N4)):Prop:=Paired (TieAt K H) kvs ts
structure WebAt (K:Za) (H:Hp) (a p q:Addr) (kvs:List (i6×V)) (W:x9):Prop where
 tup:SqT K H a [.ref p,.ref q]
 pts:Rd H p (.dK (i7 W.pts))
 ties:Rd H q (.dK kvs)
 ts:TiesIs K H kvs W.ts
def TieAt.mono {kv:i6×V}{x:Str×N4}(l:Le H H')(h:TieAt K H kv x):TieAt K H' kv x:=let ⟨e,a,ea,s⟩:=h;⟨e,a,ea,l.tup s⟩
def TiesIs.mono {ts:List (Str×N4)}(l:Le H H')(h:TiesIs K H kvs ts):TiesIs K H' kvs ts:=Paired.imp' (λ_ _ z=>z.mono l) h
def WebAt.mono {a p q:Addr}{W:x9}(l:Le H H')(h:WebAt K H a p q kvs W):WebAt K H' a p q kvs W:=⟨l.tup h.tup,l.dic h.pts,l.dic h.ties,h.ts.mono l⟩
def TiesIs.length {ts:List (Str×N4)}(h:TiesIs K H kvs ts):kvs.length=ts.length:=Mc h
def TiesIs.keys {ts:List (Str×N4)}(h:TiesIs K H kvs ts):kvs.map (·.1)=ts.map λx=>Sum.inr x.1:=by
 unfold TiesIs at h;induction h with
 |nil=>rfl
 |cons r _ ih=>rw[Ms,Ms,ih,r.1]
def TiesIs.get {ts:List (Str×N4)}{i:Nat}{kv:i6×V}(h:TiesIs K H kvs ts)(e:kvs[i]?=some kv):∃x,ts[i]?=some x/\TieAt K H kv x:=A9 h e
theorem TiesIs.val {ts:List (Str×N4)}{n:Str}:∀{kvs:List (i6×V)} {ts:List (Str×N4)},TiesIs K H kvs ts->n∈ts.map (·.1)->∃a x,A5 kvs (Sum.inr n:i6)=some (.ref a)/\(n,x)∈ts/\SqT K H a (Y7 x)
 |_,_,.nil,h=>by simp at h
 |kv::r,x::ts,.cons t u,h=>by
  obtain⟨e,a,ea,s⟩:=t;by_cases hn:x.1=n
  .subst hn;refine⟨a,x.2,?_,Lv,s⟩;rw[bp e,ea]
  .have h':n∈ts.map (·.1):=by
    rcases Mi.mp h with z|z
    .exact absurd z.symm hn
    .exact z
   obtain⟨b,y,h1,h2,h3⟩:=TiesIs.val (ts:=ts) u h';refine⟨b,y,?_,Lw _ h2,h3⟩;rw[aY (by rw[e];intro z;exact hn (NL z))];exact h1
def D5 (pts:List (Str×Str)):(i7 pts).map (·.1)=pts.map λx=>Sum.inr x.1:=by
 unfold i7;rw[LH];rfl
def lt (a b:Str):Bool:=decide (a.cps.toList<b.cps.toList)
def Ao (ss:List Str):Bool:=(ss.dropLast.zip ss.tail).all λp=>lt p.1 p.2
theorem vF:∀a b:List Nat,ltCps a b=true\/a=b\/ltCps b a=true
 |[],[]=> .inr (.inl rfl)
 |[],_::_=> .inl rfl
 |_::_,[]=> .inr (.inr rfl)
 |x::r,y::t=>by
  rcases Tp x y with h|h|h
  .exact .inl (by simp [ltCps,h])
  .subst h;rcases vF r t with z|z|z
   .exact .inl (by simp [ltCps,z])
   .exact .inr (.inl (by rw[z]))
   .exact .inr (.inr (by simp [ltCps,z]))
  .exact .inr (.inr (by simp [ltCps,h]))
def GA {a b:Str}(h:ltCps b.cps.toList a.cps.toList=false)(v_:a≠b):lt a b=true:=by
 unfold lt;rw[←ltCps_eq];rcases vF a.cps.toList b.cps.toList with z|z|z
 .exact z
 .exfalso;apply v_;obtain⟨⟨l⟩⟩:=a;obtain⟨⟨m⟩⟩:=b;have z':l=m:=z;rw[z']
 .rw[z] at h;cases h
def oP (x y:Str)(r:List Str):Ao (x::y::r)=(lt x y&&Ao (y::r)):=by
 unfold Ao;simp [List.dropLast]
theorem qN:∀{ss:List Str},sortedS ss=true->ss.Nodup->Ao ss=true
 |[],_,_=>rfl
 |[_],_,_=>rfl
 |x::y::r,h,n=>by
  have h':(!ltCps y.cps.toList x.cps.toList&&risingS y r)=true:=h;rw[Mg] at h';have n':=MP.mp n;rw[oP,GA (by simpa using h'.1) (λz=>n'.1 (by rw[z];exact Lv)),qN (ss:=y::r) h'.2 n'.2];rfl
end
def Inv.off {X:Cx}{pins:List (Addr×Obj)}{σ:St}{H:Hp}{s:Shared}{C:Addr}{h':Heap}(I:Inv X pins σ H s)(hH:H C=none)(h0:X.s₀.heap.objs.size<=C)(h1:C≠X.env.locals)(h2:∀x c,X.env.cells.lookup x=some c->c≠C)(h3:∀p∈X.pn++pins,p.1≠C)(sb:Heap.SameBut C s.heap h'):Inv X pins σ H {s with heap:=h'}:=by
 refine I.call' (s':={s with heap:=h'}) (ch:=[C]) rfl ?_ ?_ I.bare λb hb=>?_
 .have same:∀b,b∉[C]->h'.get? b=s.heap.get? b:=λb hb=>sb.2 b λz=>hb (by rw[z];exact Lv);refine⟨λb o q n hb hx=>?_,λb o q n hb hx=>?_,λb o q n hx=>n,λb o q hx=>?_,λb xs q=>q,λb o u q=>q,λb ps q=>⟨#[],by rw[Array.append_empty];exact q⟩⟩
  .show h'.get? b=_;rw[same b hx];exact q
  .exact⟨o.slots,(same b hx).trans q⟩
  .exact⟨o,(same b hx).trans q⟩
 .refine λb ob e=>(I.hok b ob e).stay (λc w' hc q=>(sb.2 c ?_).trans q) (λ_ q=>q) λ_ _ q=>q;rintro rfl;rcases hc with rfl|hc
  .rw[hH] at e;cases e
  .rw[hH] at hc;cases hc
 .rw[LV.mp hb];exact⟨.inr h0,h1,h2,h3⟩
def vo {X:Cx}{own:List Str}{js:List Nat}{scope:Scope}{tg iter elt:Expr}{ifs:List Expr}{pos Ul py:Pos}{g:TG}{ti:TT}{te:TE}{wi:rW}{i:Nat}{y:Str}(hN:X.N.Nodup)(hy:X.N[i]?=some y)(hl:DF X.env.scope y)(S:Gu X own js scope=true)(hc:X.calm=true)(hit:BA X tg iter wi)
  (hg:∀C s H fp,PG (dU X own js scope C s H fp) tg g) (hi:∀C s H fp,uS (dU X own js scope C s H fp) ifs ti) (he:∀C s H fp,PE (dU X own js scope C s H fp) elt te)
  (ZW:swapsWith (.ListComp elt [⟨tg,iter,ifs,0⟩] scope pos) (some (.Name y py)) Ul.line X.env=pure true)
  (hf:X.fn y=true\/X.env.scope.names.lookup y=some .local)
  (hs:∀x,foldedSetIterable iter X.env x=pure x):
  PS X (.Assign [.Name y py] (.ListComp elt [⟨tg,iter,ifs,0⟩] scope pos) Ul) (uV (mO own js wi g ti te) (R9 i)):=by
 have SB:=Al S
 intro pins s σ H D I h
 rw[exec_Assign_Name_used _ _ _ _ ZW]
 refine Lx (SA (Lx ?_))
 show wpAny _ X.A (do let _←comprehension (.ListComp elt [⟨tg,iter,ifs,0⟩] scope pos) scope X.env _ (newList []) false (eval iter X.env) (some (assign (.Name y py) X.env))) _ _ s
 refine Lx (PD (QU (use:=some (assign (.Name y py) X.env)) (Q:=λ_ s'=>SP X pins D .next s') rfl hs (kH (SB.cells I)) SB.kind SB.names (N3 (hit pins s σ H _ I h) λv s1 h1=>N3 h1 λXd s2 h2=>?_)) (λ_ s' hq=>LK (LK hq)) λ_ _ e=>e)
 obtain⟨it,fp,tn,J,H2,e,I2,T,G_,f2,th,Sm,W,⟨m0,w0⟩,turn⟩:=h2
 subst e
 refine Oi (wpAny_newFunctionEnv SB.nocell (by intro y hy;simp at hy) (λh₁ hns₁ hsb₁=>?_) SB.kind)
 dsimp only at hns₁ hsb₁⊢
 generalize VN:s2.heap.push {cls:= .type "list",dict:=none,data:= .seq ([]:List Value).toArray}=G2 at hns₁ hsb₁⊢
 have Xt:G2.objs.size=s2.heap.objs.size+1:=by rw[←VN,QL]
 have Tn:s2.heap.objs.size≠G2.objs.size:=by rw[Xt];exact Ma (Nat.lt_succ_self _)
 have hC:s2.heap.objs.size<=G2.objs.size:=by rw[Xt];exact NR _
 have old:∀b o,s2.heap.get? b=some o->h₁.get? b=some o:=λb o e=>
  hsb₁.extBut b o (Ma (LJ (LI e) hC)) (Ly _ (VN▸Ly _ e))
 have off:∀b o,s2.heap.get? b=some o->b≠G2.objs.size:=λb o e=>Ma (LJ (LI e) hC)
 have Rj:∀b∈fp,∃o,s2.heap.get? b=some o:=λb hb=>let ⟨o,e,_⟩:=T.obj _ _ G_ b hb;⟨o,e⟩
 have s_:h₁.get? s2.heap.objs.size=some {cls:= .type "list",data:= .seq ([]:List Value).toArray}:=
  hsb₁.extBut _ _ Tn (Ly _ (VN▸LY _ rfl))
 have loop:∀s3:Shared,s3={s2 with heap:=h₁,toks:=s2.toks+([]:List (Str×Value)).length}->
   codeAny (model X.prog X.w) X.A (.compLoop (.ListComp elt [⟨tg,iter,ifs,0⟩] scope pos) 0 (.ref it) (.ref s2.heap.objs.size) (compEnvC scope (jB scope X.env) G2.objs.size X.env))
    (compPost (model X.prog X.w) X.A X.xe (some (assign (.Name y py) X.env)) (λ_ s'=>SP X pins D .next s') (.ref s2.heap.objs.size) G2.objs.size) s3:=by
  rintro s3 rfl
  refine pM (K:=λout H'=>R9 i (.ref s2.heap.objs.size) σ (th (upd H' s2.heap.objs.size (.lst out))) D.nx) SB hc T I2 f2 (Lp _) hC Tn Rj (hg _ _ _ _) (hi _ _ _ _) (he _ _ _ _) W (λi m out H' w=>?_) (λout H' s' B RE k=>?_) w0
   ⟨Inv.block SB I2 f2 Rj hC hns₁ old,I2.hok.fresh (Lp _),[],_,.nil,s_⟩ (T.keep _ _ _ G_ λb _ o e=>old b o e) (λb hb=>(f2 b hb).1)
  .rcases turn i m out H' w with⟨a,b⟩|c
   .exact .inl ⟨a,λn=>b _ n⟩
   .exact .inr c
  .obtain⟨mm,hn,_⟩:=B.inv.loc
   have ZP:H' G2.objs.size=none:=B.inv.free
   have IJ:=B.out I2 f2 (Lp _) hC Tn RE (h':=s'.heap) (Heap.SameBut.refl _ _)
   show wpAny _ X.A (assign (.Name y py) X.env (.ref s2.heap.objs.size)) _ _ s'
   refine wpAny_assign_Name (oU IJ hN hy hl (v:= .ref s2.heap.objs.size) rfl (λWy I'' hx=>?_) hf)
   obtain⟨a,sa,ha⟩:=hx
   have haC:G2.objs.size≠a:=by
    rcases ha with rfl|ha
    .exact OD (Ma (LJ I2.lt hC))
    .obtain⟨_,o,ho,_⟩:=I2.cell _ _ ha;exact OD (off _ _ ho)
   refine⟨mm,hn.sameBut sa haC,λh' sb=>⟨_,_,Sm _ _ _ _ (I''.off (by rw[d9 (OD Tn)];exact ZP) (Mh I2.sz hC) (OD (Ma (LJ I2.lt hC))) (λx c e=>?_) (λp hp=>off _ _ (I2.pin p hp).1) sb),k⟩⟩
   obtain⟨_,o,ho,_⟩:=I2.cell _ _ e
   exact off _ _ ho
 exact codeAny_compStart_list (loop _ rfl) (T.self _ 0 _ _ _ (T.keep _ _ _ G_ λb _ o e=>old b o e) (loop _ rfl))
def kO {X:Cx}{own:List Str}{js:List Nat}{scope:Scope}{tg iter elt:Expr}{ifs:List Expr}{pos Ul py:Pos}{g:TG}{ti:TT}{te:TE}{wi:rW}{i:Nat}{y:Str}(hN:X.N.Nodup)(hy:X.N[i]?=some y)(hl:DF X.env.scope y)(S:Gu X own js scope=true)(hc:X.calm=true)(hit:QI X tg iter wi)
  (hg:∀C s H fp,QG (dU X own js scope C s H fp) tg g) (hi:∀C s H fp,Jg (dU X own js scope C s H fp) ifs ti) (he:∀C s H fp,QE (dU X own js scope C s H fp) elt te)
  (ZW:swapsWith (.ListComp elt [⟨tg,iter,ifs,0⟩] scope pos) (some (.Name y py)) Ul.line X.env=pure true:=by rfl)
  (hf:X.fn y=true\/X.env.scope.names.lookup y=some .local:=by first|exact .inl rfl|exact .inr rfl)
  (hs:∀x,foldedSetIterable iter X.env x=pure x:=by intro _;rfl):QS X (.Assign [.Name y py] (.ListComp elt [⟨tg,iter,ifs,0⟩] scope pos) Ul) (uV (mO own js wi g ti te) (R9 i)):=
 ⟨vo hN hy hl S hc hit.r (λC s H fp=>(hg C s H fp).r) (λC s H fp=>(hi C s H fp).r) (λC s H fp=>(he C s H fp).r) ZW hf hs⟩
open PySem.AutoSeq1 (wpAny_loadPart')
def NcP (P:Program)(w:World)(A:Around)(s:Shared)(y x:Value)(b:Bool):Prop:=∀(E:Value->Shared->Prop) (Q:Value->Shared->Prop),Q (.bool b) s->wpAny (model P w) A (richCompare .NotEq y x) Q E s
def Fv {P:Program}{w:World}(l m:Addr)(xs ys:Array Value)(n1 n2:Nat)(d1 d2:Option Addr)(s1 s2:Array (Option Value))(f:Nat->Bool):
  MeetsIn P w (Builtin.«tuple.__ne__» ⟨[.ref l,.ref m],[]⟩) (λA R s=>
   s.heap.get? l=some {cls:= .type "tuple",dict:=d1,data:= .seq xs n1,slots:=s1}/\s.heap.get? m=some {cls:= .type "tuple",dict:=d2,data:= .seq ys n2,slots:=s2}/\
   (∀j (g1:j<xs.size) (g2:j<ys.size),EqP P w A.in1 s xs[j] ys[j] (f j))/\
   R (.ok (.ret (.bool (!((List.range (min xs.size ys.size)).all f&&xs.size==ys.size))))) s):=
 .of_wp λA R s hyp=>by
  obtain⟨hp,gg,dr,tk,os⟩:=s;obtain⟨e1,e2,he,fin⟩:=hyp;have sub:=Pe;have len:(xs.toList.zip ys.toList).length=min xs.size ys.size:=by simp
  wp_walk using wpAny_loadPart' e1,wpAny_loadPart' e2,Rr _ (λmore acc st=>acc.1=none/\st=⟨hp,gg,dr,tk,os⟩/\∃i,more=(xs.toList.zip ys.toList).drop i/\
   R (.ok (.ret (.bool (!(((List.range (min xs.size ys.size)).drop i).all f&&xs.size==ys.size))))) ⟨hp,gg,dr,tk,os⟩) _
  case turn=>
   rintro⟨y,x⟩ more acc st ⟨ha,rfl,i,hi,hR⟩
   have lt:i<(xs.toList.zip ys.toList).length:=by
    rcases MK i (xs.toList.zip ys.toList).length with z|z
    .exact z
    .rw[Nl z] at hi;cases hi
   have lm:i<min xs.size ys.size:=len▸lt
   have lx:i<xs.size:=LJ lm (Qv _ _)
   have ly:i<ys.size:=LJ lm (OT _ _)
   rw[Mj lt] at hi
   injection hi with h1 h2
   have q1:y=xs[i]:=by simpa using Mw Prod.fst h1
   have q2:x=ys[i]:=by simpa using Mw Prod.snd h1
   subst q1 q2
   have VP:(List.range (min xs.size ys.size)).drop i=i::(List.range (min xs.size ys.size)).drop (i+1):=by simp [Mj,lm]
   rw[VP,Ou] at hR
   refine Lx (he i lx ly _ _ ?_)
   cases hf:f i with
   |true=>
    rw[hf] at hR
    wp_walk
    exact⟨rfl,rfl,i+1,h2,by simpa using hR⟩
   |false=>
    rw[hf] at hR
    wp_walk
    exact⟨_,rfl,by simpa using hR⟩
  case fin=>
   rintro⟨c1,c2⟩ st ⟨ha,rfl,i,hi,hR⟩
   simp only at ha
   subst ha
   have ge:min xs.size ys.size<=i:=by
    rcases MK i (xs.toList.zip ys.toList).length with z|z
    .rw[Mj z] at hi;cases hi
    .exact len▸z
   rw[Nl (by simpa using ge)] at hR
   wp_walk
   exact⟨_,rfl,by simpa [Builtin.Tuple.tupleCompareSizes,bne] using hR⟩
  case h=>
   exact⟨rfl,rfl,0,rfl,by simpa using fin⟩
def NcP.tup {P:Program}{w:World}{A:Around}{s:Shared}{l m:Addr}{xs ys:Array Value}{f:Nat->Bool}(hl:s.heap.IsTuple l xs)(hm:s.heap.IsTuple m ys)(hu:A.units<cLine)
  (he:∀j (g1:j<xs.size) (g2:j<ys.size),EqP P w A.in1 s xs[j] ys[j] (f j)):NcP P w A s (.ref l) (.ref m) (!((List.range (min xs.size ys.size)).all f&&xs.size==ys.size)):=λE Q q=>by
 obtain⟨⟨c1,d1,a1,s1⟩,o1,k1,n1,t1⟩:=id hl
 obtain⟨⟨c2,d2,a2,s2⟩,o2,k2,n2,t2⟩:=id hm
 simp only at k1 t1 k2 t2
 subst k1 t1 k2 t2
 refine NC (op:= .NotEq) ⟨_,o1,rfl⟩ ⟨_,o2,rfl⟩ RK (NO RK ⟨_,o1,rfl⟩ PySem.F.entry_tuple_ne (PySem.F.args_tuple_ne_2 _ _) (Fv l m xs ys n1 n2 d1 d2 s1 s2 f) ⟨o1,o2,he,?_⟩) hu
 exact⟨(λz=>nomatch z),q⟩
section
variable {X:Cx} {pins:List (Addr×Obj)} {σ:St} {H:Hp} {s:Shared} {A:Around}
def Ib (K:Za):R2:=λx y H Q=>∃a b p q p' q' r r',x= .ref a/\y= .ref b/\SqT K H a [.ref p,.ref q]/\SqT K H b [.ref p',.ref q']/\EqD K H p p' r/\EqD K H q q' r'/\Q (.bl (!(r&&r'))) H
def Fm (hu:X.A.units+64<cLine):OpR X (compareOp .NotEq) (Ib X.K):=by
 intro pins s σ H x y v u Q I rx ry h;obtain⟨a,b,p,q,p',q',r,r',rfl,rfl,ha,hb,h1,h2,k⟩:=h;cases rx;cases ry;obtain⟨a_,v1,t1,_⟩:=I.tuple ha;obtain⟨its',v2,t2,_⟩:=I.tuple hb;obtain⟨_,_,rfl,e1,e2⟩:=kW v1;obtain⟨_,_,rfl,e3,e4⟩:=kW v2;cases e1;cases e2;cases e3;cases e4;refine NcP.tup (P:=X.prog) (w:=X.w) (f:=λj=>if j=0 then r else r') (show s.heap.IsTuple a _ from t1) (show s.heap.IsTuple b _ from t2) (by lia) (λj g1 g2=>?_) _ _ ⟨.bl (!(r&&r')),H,I,by show Value.bool _=Value.bool _;simp [Pn],k⟩;have g:j<2:=by simpa using g1
 match j,g with
 |0,_=>exact h1.at_ I (by show X.A.units+1+16<_;lia)
 |1,_=>exact h2.at_ I (by show X.A.units+1+16<_;lia)
def Hb (K:Za):R2:=λx y H Q=>∃a b xs ys,x= .ref a/\y= .ref b/\SqL K H a xs/\SqL K H b ys/\xs.all E3=true/\ys.all E3=true/\Q (.bl (!bt xs ys)) H
def Eb (hu:X.A.units+64<cLine):OpR X (compareOp .NotEq) (Hb X.K):=by
 intro pins s σ H x y v u Q I rx ry h;obtain⟨a,b,xs,ys,rfl,rfl,ha,hb,fx,fy,k⟩:=h;cases rx;cases ry;obtain⟨a_,r1,p1,z1⟩:=I.list ha;obtain⟨its',r2,p2,z2⟩:=I.list hb;have l1:=r1.length;have l2:=r2.length;have e3:a_.toArray.size=xs.length:=by simp [l1]
 have e4:its'.toArray.size=ys.length:=by simp [l2]
 by_cases hl:xs.length=ys.length
 .have q:=SeqAt.RcNeAt.lists (A:=X.A) (e:=λj=>dq (xs.getD j .non) (ys.getD j .non)) p1.isList p2.isList (by rw[e3,e4];exact hl) (by lia) λj g1 g2=>by
   have Uj:j<a_.length:=by simpa using g1
   have Uk:j<its'.length:=by simpa using g2
   have x1:xs[j]?=some (xs[j]'(by lia)):=by simp [show j<xs.length by lia]
   have y1:ys[j]?=some (ys[j]'(by lia)):=by simp [show j<ys.length by lia]
   obtain⟨u1,Rw,UU⟩:=r1.get x1;obtain⟨u2,Sq,UW⟩:=r2.get y1;have e1:a_.toArray[j]=u1:=by
    have:=Lm Uj;rw[Rw] at this;simpa using(LO this).symm
   have e2:its'.toArray[j]=u2:=by
    have:=Lm Uk;rw[Sq] at this;simpa using(LO this).symm
   rw[e1,e2];have d1:xs.getD j .non=xs[j]'(by lia):=by rw[Mx,x1];rfl
   have d2:ys.getD j .non=ys[j]'(by lia):=by rw[Mx,y1];rfl
   rw[d1,d2];exact bY UU UW (LZ.mp fx _ (LM _)) (LZ.mp fy _ (LM _))
  have e5:=ak xs ys;rw[hl,Nat.min_self,Qg,Ox] at e5;rw[e3,hl,e5] at q;exact q X.prog X.w _ _ ⟨.bl _,H,I,rfl,k⟩
 .refine SeqAt.RcNeAt.lists_lengths (A:=X.A) p1.isList p2.isList (by rw[e3,e4];simpa using hl) (by lia) X.prog X.w _ _ ⟨.bl _,H,I,?_,k⟩;rw[nj hl];rfl
def Hc (K:Za):R2:=λ_ _ _ _=>False
def EY (hu:X.A.units+64<cLine):OpR X (compareOp .NotEq) (Hc X.K):=by
 intro pins s σ H x y v u Q I rx ry h;exact h.elim
def DV (K:Za):R2:=λ_ _ _ _=>False
def DK (K:Za):R2:=λ_ _ _ _=>False
def Ck (hu:X.A.units+64<cLine):OpR X (compareOp .Eq) (DV X.K):=by
 intro pins s σ H x y v u Q I rx ry h;exact h.elim
def Dc (hu:X.A.units+64<cLine):OpR X (compareOp .NotEq) (DK X.K):=by
 intro pins s σ H x y v u Q I rx ry h;exact h.elim
def ES (K:Za):R2:=λx y H Q=>qc K x y H Q\/DV K x y H Q
def Kf (K:Za){k:Nat}(hr:Room k X.A)(h:X.K=K:=by rfl):OpR X (compareOp .Eq) (ES K):=(Kv K hr h).or (h▸Ck hr.units)
def EI (K:Za):R2:=λx y H Q=>JN x y H Q\/Hb K x y H Q\/Hc K x y H Q\/Ib K x y H Q\/DK K x y H Q
def KZ (K:Za){k:Nat}(hr:Room k X.A)(h:X.K=K:=by rfl):OpR X (compareOp .NotEq) (EI K):=h▸op_ne.or ((Eb hr.units).or ((EY hr.units).or ((Fm hr.units).or (Dc hr.units))))
end
section
variable {K:Za} {H:Hp} {Q:VK}
def JF {x y:V}(q:qc K x y H Q):ES K x y H Q:= .inl q
def sO {i j:Int}(q:Q (.bl (!decide (i=j))) H):EI K (.int i) (.int j) H Q:= .inl (tF q)
def pX {j:Str}(q:Q (.bl false) H):qc K .non (.str j) H Q:= .inl ⟨rfl,by rw[show decide (V.non=V.str j)=false by simp];exact q⟩
def pZ {a:Addr}{xs:List V}(ha:SqT K H a xs)(q:Q (.bl false) H):qc K .non (.ref a) H Q:= .inr (.inr (.inl (.inr ⟨a,xs,rfl,rfl,ha,q⟩)))
end
section
variable {X:Cx} {o e f:Expr} {apos d_:Pos} {td ty tx:TE} {name:Str}
def GC (hb:attributeBase o name X.env (eval o X.env)=eval o X.env)(hl:(apos.endLine==d_.line)=true)(h:C9 e=true):M1 X o name apos e d_:=by
 have z:starEach [e] X.env=[(false,eval e X.env)]:=cM (es:=[]) h;have z2:backTo d_ (starEach [e] X.env)=[(false,eval e X.env)]:=by rw[z];rfl
 exact⟨hb,by rw[z2];rfl,hl,z2⟩
def ja (hu:X.A.units+1<cLine)(ho:QE X o td)(he:QE X e ty)(hb:attributeBase o "get" X.env (eval o X.env)=eval o X.env:=by rfl)(hl:(apos.endLine==d_.line)=true:=by rfl)(h:C9 e=true:=by rfl):
  QE X (.Call (.Attribute o "get" apos) [e] [] d_) (vh td ty):=⟨zh hu ho.r he.r (GC hb hl h)⟩
end
section
variable {σ:St} {H:Hp} {Q:VK} {td ty tx:TE}
def IQ (q:td σ H λx H1=>∃a,x= .ref a/\JK H1 a/\ty σ H1 λy H2=>∃o,di H2 a y o/\Q (o.getD .non) H2):vh td ty σ H Q:=q
end
open Sem (wp)
section
variable {prog:Program} {w:World} {KT:Type} [DecidableEq KT] {knd:KeyKind prog w KT} {A:Around} {E:Value->Shared->Prop} {s:Shared}
end
section
variable {prog:Program} {w:World} {KT:Type} [DecidableEq KT] {knd:KeyKind prog w KT} {A:Around} {E:Value->Shared->Prop} {s:Shared}
open PySem.AutoSeq1 (wpAny_loadPart')
end
section
variable {X:Cx} {a:Expr} {t:TA} {p pos:Pos}
def tX (K:Za)(ta:TA):rW:=λσ H R=>ta σ H λvs H1=>∃v,vs=[v]/\((∃l xs,v= .ref l/\SqL K H1 l xs/\R (JP K l) id H1)\/False)
def zr {elts:List Expr}{x1}{x_:Pos}(hg:Gl X "enumerate")(hm:X.mg "enumerate"=none)(ha:PA X [a] t)(hs:starEach [a] X.env=[(false,eval a X.env)]):BA X (.Tuple elts x1 x_) (.Call (.Name "enumerate" p) [a] [] pos) (tX X.K t):=by
 intro pins s σ H R I h;refine Call_ (lS I hg hm Boot.«enumerate» (OK (N3 (ha pos pins s σ H _ I h) λus s1 ⟨vs,H1,I1,r1,q1⟩=>?_) hs rfl));obtain⟨v,e,q⟩:=q1;subst e;obtain⟨u,rfl,ru⟩:=O7 r1;rcases q with⟨l,xs,rfl,hq,q⟩|q
 .cases ru;obtain⟨a_,rv,pl,hz⟩:=I1.list hq;refine call_enumerate_list pl.isList λh' he hit hsz hk=>?_;have I2:Inv X pins σ H1 {s1 with heap:=h'}:=I1.kept (t':=s1.toks) hk;refine wpAny_pyIter_enum (s:={s1 with heap:=h'}) he ?_;refine⟨s1.heap.objs.size+1,[s1.heap.objs.size+1,s1.heap.objs.size],_,_,H1,rfl,I2,xS (l:=l) (Nat.succ_ne_self _),⟨_,he,hit⟩,λb hb=>?_,id,jQ,q⟩;have F':b=s1.heap.objs.size+1\/b=s1.heap.objs.size:=by simpa using hb
  rcases F' with rfl|rfl
  .exact I1.fpOk (NR _) (I1.hok.fresh (NR _))
  .exact I1.fpOk (Lp _) (I1.hok.fresh (Lp _))
 .exact q.elim
def mQ (K:Za){elts:List Expr}{x1}{x_:Pos}(hm:X.mg "enumerate"=none)(ha:QA X [a] t)(hg:Gl X "enumerate":=by rfl)(h:C9 a=true:=by rfl)(hK:X.K=K:=by rfl):QI X (.Tuple elts x1 x_) (.Call (.Name "enumerate" p) [a] [] pos) (tX K t):=
 ⟨hK▸zr hg hm ha.r (cM h)⟩
end
section
variable {K:Za} {σ:St} {H:Hp} {ta:TA} {R:It->(Hp->Hp)->Hp->Prop}
def Cf (q:ta σ H λvs H1=>∃v,vs=[v]/\((∃l xs,v= .ref l/\SqL K H1 l xs/\R (JP K l) id H1)\/False)):tX K ta σ H R:=q
end
open Sem (wp)
def rh:typeLookup (.type "list") "keys"=pure none:=by rw[typeLookup_type,builtinLookup_eq_fast];kernel_rfl
section
variable {prog:Program} {w:World} {A:Around} {E:Value->Shared->Prop} {s:Shared}
def wA {a:Addr}{o:Obj}{xs:Array Value}{k:Nat}{Q:Option Value->Shared->Prop}
  (hx:s.heap.get? a=some o) (hc:o.cls= .type "list") (N':o.data= .seq xs k) (hd:o.dict=none) (hA:A.handled=none)
  (h:∀h' tk,(∀b ob,s.heap.get? b=some ob->h'.get? b=some ob)->Q none {s with heap:=h',toks:=tk}):
  wpAny (model prog w) A (getAttr? (.ref a) "keys") Q E s:=by
 obtain⟨c,dct,dat,sl⟩:=o
 simp only at hc N' hd
 subst hc N' hd
 obtain⟨hp,g,d,tk,os⟩:=s
 have hT:∀tk',(⟨hp,g,d,tk',os⟩:Shared).TypeIs (.ref a) "list":=λ_=>⟨_,hx,rfl⟩
 have f1:=sub_AttributeError
 have f3:=Pf.lookup
 have f4:=Pf.bind (.ref a)
 have f5:=am_list_getattr_none
 unfold getAttr? getAttrBy? getAttrBy
 repeat(any_goals (first|assumption|exact hT _|((with_reducible show wpAny _ _ (call (Value.builtin "list.__getattribute__") _ _) _ _ _);refine Te Pf (hT _) am_entry_list_getattribute (F.args_list_getattribute_2 _ _) (meets_getattribute_miss_list a xs k sl "keys" _ rh (by decide+kernel) (by decide+kernel)) ⟨hx,hA,λh' tk' e I_=>?_⟩)|wp_step))
 obtain⟨t',u',he⟩:=I_.there
 show wpAny _ _ (getattributeRaised _ _ _ _ _ _ _) _ _ _
 unfold getattributeRaised
 repeat(any_goals (first|assumption|wp_step))
 exact h _ _ I_.keeps
end
def dy:entryFor table "dict.update.loop"=some Builtin.«dict.update.loop»:=entryFor_of_tree (by kernel_rfl)
def Q4:plainId "dict.update.loop"=true:=by decide+kernel
section
variable {prog:Program} {w:World} {KT:Type} [DecidableEq KT] {knd:KeyKind prog w KT} {A:Around} {E:Value->Shared->Prop}
def PairAt (knd:KeyKind prog w KT)(h:Heap)(d it:Addr)(u:Value)(kv:KT×Value):Prop:=∃t key,u= .ref t/\h.IsTuple t #[key,kv.2]/\knd.is kv.1 key=true/\t≠d/\t≠it
def PairAt.keep {h h':Heap}{d it:Addr}{u:Value}{kv:KT×Value}(p:PairAt knd h d it u kv)(k:∀b o,b≠d->b≠it->h.get? b=some o->h'.get? b=some o):PairAt knd h' d it u kv:=by
 obtain⟨t,key,e,⟨o,ho,r⟩,hk,h1,h2⟩:=p;exact⟨t,key,e,⟨o,k t o h1 h2 ho,r⟩,hk,h1,h2⟩
def xu {d it l:Addr}{items:List Value}{res:Value}(hh:A.handled=none)(VQ:d≠it)(ZX:l≠it)(ZY:l≠d):
  ∀(more:List (KT×Value)) (i:Nat) (s:Shared) (kvs:List (KT×Value)) (R:Result->Shared->Prop),
   s.heap.IsListIter it l i->s.heap.IsList l items.toArray->Paired (PairAt knd s.heap d it) (items.drop i) more->s.heap.DictOf knd d kvs->kvs.length+more.length<=sizeLine->
   (∀h' tk,(∀b o,b≠d->b≠it->s.heap.get? b=some o->h'.get? b=some o)->h'.DictOf knd d (more.foldl (λa x=>stored a x.1 x.2) kvs)->R (.ok (.ret res)) {s with heap:=h',toks:=tk})->
   codeAny (model prog w) A (.builtin "dict.update.loop" ⟨[.ref d,.ref it,rawInt (i:Int),res],[]⟩) R s:=by
 intro more
 induction more with
 |nil=>
  intro i s kvs R hit hl hp hd hz hR
  have hx:items.toArray[i]?=none:=by
   have hn:items.drop i=[]:=by cases B_:items.drop i with
    |nil=>rfl
    |cons x r=>rw[B_] at hp;cases hp
   have:=RW.mp hn;simp;lia
  refine Nn dy ?_
  rw[MU Q4 _]
  show wpAny _ A.in1 (pyNext (.ref it)>>=_) _ _ s
  refine Lx (PY (A:=A.in1) hh hit hl hx λh' eb=>?_)
  show wpAny _ A.in1 (Builtin.Dict.addKeywords d []>>=_) _ _ _
  refine Lx (LK (LK ?_))
  exact hR h' s.toks (λb o h1 h2 e=>eb b o h2 e) (hd.extBut eb VQ)
 |cons kv more ih=>
  intro i s kvs R hit hl hp hd hz hR
  obtain⟨x,hx,hp0,Um⟩:∃x,items.toArray[i]?=some x/\PairAt knd s.heap d it x kv/\Paired (PairAt knd s.heap d it) (items.drop (i+1)) more:=by
   cases B_:items.drop i with
   |nil=>rw[B_] at hp;cases hp
   |cons x r=>
    rw[B_] at hp
    cases hp with
    |cons h1 h2=>
     refine⟨x,?_,h1,?_⟩
     .have z:=Mw List.head? B_
      simpa using z
     .have z:=Mw List.tail B_
      rw[List.tail_drop] at z
      rw[z];exact h2
  obtain⟨t,key,rfl,⟨ot,Xy,hct,nt,hdt⟩,M_,h1,h2⟩:=hp0
  refine Nn dy ?_
  rw[MU Q4 _]
  show wpAny _ A.in1 (pyNext (.ref it)>>=_) _ _ s
  refine Lx (Py hit hl hx λh' hit' hs'=>?_)
  have Xz:h'.get? t=some ot:=hs'.extBut _ _ h2 Xy
  refine Lx (Nj (Lx (wpAny_tryCatch ?_)))
  unfold Builtin.Dict.pairItems
  refine Lx (Pb (s:={s with heap:=h'}) ⟨_,Xz,hct⟩ ?_)
  rw[if_pos (by decide)]
  refine Lx (wpAny_seqItems (s:={s with heap:=h'}) Xz hdt ?_)
  refine LK ?_
  show wpAny _ A.in1 (holding [key,kv.2] (dictSet d key kv.2)) _ _ _
  refine Nj (wpAny_dictSet_pairs (s:={s with heap:=h'}) (kvs:=kvs) M_ (hd.extBut hs'.extBut VQ) (λSo dd hs''=>?_) (by simp only[Mv] at hz;lia))
  have kp:∀b o,b≠d->b≠it->s.heap.get? b=some o->So.get? b=some o:=λb o XA Uo e=>hs''.extBut b o XA (hs'.extBut b o Uo e)
  refine LK ⟨NZ Q4 _,?_⟩
  refine ih (i+1) _ (stored kvs kv.1 kv.2) R ?_ ?_ (Paired.imp' (λ_ _ z=>z.keep kp) Um) dd ?_ (λh3 tk k3 d3=>hR h3 tk (λb o e1 e2 e=>k3 b o e1 e2 (kp b o e1 e2 e)) d3)
  .exact hit'.at λo e=>hs''.extBut it o (OD VQ) e
  .obtain⟨ol,A_,r⟩:=hl
   exact⟨ol,kp l ol ZY ZX A_,r⟩
  .have z:=stored_length_le kvs kv.1 kv.2
   simp only[Mv] at hz
   lia
def jL {l:Addr}{items:List Value}{o:Obj}{n:Nat}{more:List (KT×Value)}{s:Shared}{Q:Value->Shared->Prop}(hh:A.handled=none)(ho:s.heap.get? l=some o)(hc:o.cls= .type "list")(N':o.data= .seq items.toArray n)(WB:o.dict=none)(hz:more.length<=sizeLine)
  (hp:Paired (λu kv=>∃t key,u= .ref t/\s.heap.IsTuple t #[key,kv.2]/\knd.is kv.1 key=true) items more)
  (h:∀h' tk,h'.DictOf knd s.heap.objs.size (more.foldl (λa x=>stored a x.1 x.2) [])->(∀b o,s.heap.get? b=some o->h'.get? b=some o)->Q (.ref s.heap.objs.size) {s with heap:=h',toks:=tk}):
  wpAny (model prog w) A (call (.type "dict") [.ref l]) Q E s:=by
 refine callType_codes (Q₁:=λobj s₁=>obj= .ref s.heap.objs.size/\s₁={s with heap:=s.heap.push {cls:= .type "dict",data:= .dict #[]}}) F.kt_called_dict (F.kt_typeCall_dict_1 _) F.entry_dict_init (kt_code_dict_new _ ⟨rfl,rfl⟩) ?_
 rintro obj s₁ ⟨rfl,rfl⟩
 have Sr:(s.heap.push {cls:= .type "dict",data:= .dict #[]}).DictOf knd s.heap.objs.size []:=Heap.DictOf.new s.heap
 have Xn:l≠s.heap.objs.size:=Ma (LI ho)
 refine⟨Sr.typeIs,F.args_dict_init_2 _ _,?_⟩
 unfold Builtin.«dict.__init__»
 refine Lx ?_
 unfold Builtin.Dict.selfAndRest
 refine Lx (wpAny_notOrdered_dict Sr.typeIs ?_)
 show wpAny _ _ (pure (s.heap.objs.size,[Value.ref l])) _ _ _
 refine LK ?_
 show wpAny _ _ (Builtin.Dict.updateFrom "dict.__init__" s.heap.objs.size (.ref l) [] .none) _ _ _
 unfold Builtin.Dict.updateFrom
 have To:(s.heap.push {cls:= .type "dict",data:= .dict #[]}).get? l=some o:=Ly _ ho
 refine Lx (Pb (s:={s with heap:=s.heap.push {cls:= .type "dict",data:= .dict #[]}}) ⟨_,To,hc⟩ ?_)
 rw[if_pos (by decide)]
 refine Lx (wA (s:={s with heap:=s.heap.push {cls:= .type "dict",data:= .dict #[]}}) To hc N' WB hh λh2 ZZ k2=>?_)
 rw[if_pos (show((none:Option Value).isNone)=true from rfl)]
 have S':h2.get? l=some o:=k2 l o To
 have hd2:h2.DictOf knd s.heap.objs.size []:=let ⟨od,es,ep,e,r⟩:=Sr;⟨od,es,ep,k2 _ _ e,r⟩
 have u_:s.heap.objs.size<h2.objs.size:=by obtain⟨od,es,ep,e,r⟩:=hd2;exact LI e
 have up:∀b ob,s.heap.get? b=some ob->(h2.push {cls:= .type "list_iterator",data:= .fields #[.ref l,.int 0 0]}).get? b=some ob:=λb ob e=>Ly _ (k2 b ob (Ly _ e))
 refine Lx (Pg (Lx (OO (l:=l) (items:=items.toArray) ⟨o,S',hc,n,N'⟩ ?_)))
 refine LK ⟨NZ Q4 _,?_⟩
 refine xu (knd:=knd) (l:=l) (items:=items) (A:=A.in1) hh (Ma u_) (Ma (LI S')) Xn more 0 _ [] _ ⟨_,LY _ rfl,rfl,rfl⟩ ⟨o,Ly _ S',hc,n,N'⟩ ?_ (hd2.push _) (by simpa using hz) λh3 tk k3 d3=>⟨rfl,h h3 tk d3 λb ob e=>k3 b ob (Ma (LI e)) (Ma (TF (LI e) u_)) (up b ob e)⟩
 rw[NT]
 refine Paired.imp' (λu kv z=>?_) hp
 obtain⟨t,key,rfl,⟨ot,Xy,r⟩,hk⟩:=z
 exact⟨t,key,rfl,⟨ot,up t ot Xy,r⟩,hk,Ma (LI Xy),Ma (TF (LI Xy) u_)⟩
end
section
variable {X:Cx}
def PrV (K:Za)(H:Hp)(x:V)(kv:i6×V):Prop:=∃t,x= .ref t/\SqT K H t [kV kv.1,kv.2]
def cN (kvs:List (i6×V)):List (i6×V):=kvs.foldl (λa x=>G3 a x.1 x.2) []
theorem KV.puts:∀{ps:List (i6×V)} {qs:List (i6×Value)} {a:List (i6×V)} {b:List (i6×Value)},KV ps qs->KV a b->KV (ps.foldl (λa x=>G3 a x.1 x.2) a) (qs.foldl (λa x=>stored a x.1 x.2) b)
 |_,_,_,_,.nil,h=>h
 |_::_,_::_,a,b,.cons r t,h=>by
  obtain⟨e,rv⟩:=r;rw[ND,ND];refine KV.puts t ?_;rw[←e];exact KV.put h _ rv
theorem jh:∀(ps:List (i6×V)) (a:List (i6×V)),(ps.foldl (λa x=>G3 a x.1 x.2) a).length<=a.length+ps.length
 |[],a=>Lp _
 |p::r,a=>by
  rw[ND,Mv];have z:=jh r (G3 a p.1 p.2);have z2:=aD a p.1 p.2;lia
def En {pins : List (Addr × Obj)} {σ : L2.St} {H : Hp} {s : Shared} (I : Inv X pins σ H s) : ∀ {xs : List V} {kvs : List (i6 × V)} {us : List Value}, Paired (PrV X.K H) xs kvs -> Vals xs us -> ∃ more : List (i6 × Value), KV kvs more /\ Paired (λu kv => ∃ t key, u = Value.ref t /\ s.heap.IsTuple t #[key, kv.2] /\ (q8 X.prog X.w).is kv.1 key = true) us more
 := by
  intro xs kvs us hp hv;induction hp generalizing us with
  | nil => cases hv; exact ⟨[], .nil, .nil⟩
  | @cons x kv l m r t ih => cases hv with
    | cons r' t' =>
      obtain ⟨tt, rfl, sq⟩ := r
      cases r'
      obtain ⟨a_, v1, t1, _⟩ := I.tuple sq
      obtain ⟨key, v, rfl, rk, rv⟩ := kW v1
      obtain ⟨more, h1, h2⟩ := ih t'
      exact ⟨(kv.1, v) :: more, .cons ⟨rfl, rv⟩ h1, .cons ⟨tt, key, rfl, t1, kx rk⟩ h2⟩
def Aw (K:Za):List V->Hp->VK->Prop:=λxs H Q=>∃(p:Addr) (ys:List V) (kvs:List (i6×V)),xs=[.ref p]/\SqL K H p ys/\Paired (PrV K H) ys kvs/\kvs.length<=sizeLine/\∀l,H l=none->Q (.ref l) (upd H l (.dK (cN kvs)))
def vm (hc:X.calm=true):CallR X (.type "dict") (Aw X.K):=by
 intro pins s σ H xs us Q I r h;obtain⟨p,ys,kvs,rfl,hq,hp,hz,q⟩:=h;obtain⟨u,rfl,ru⟩:=O7 r;cases ru;obtain⟨a_,rv,pl,_⟩:=I.list hq;obtain⟨more,kv,pr⟩:=En I hp rv;obtain⟨o,n,e,c,hd,dt⟩:=pl;have hl:more.length=kvs.length:=(KV.length kv).symm;refine jL (knd:=q8 X.prog X.w) (I.ok.hd hc) e c dt hd (by lia) pr λh' tk dd k=>?_;refine⟨.ref s.heap.objs.size,_,?_,rfl,q _ (I.hok.fresh (Lp _))⟩;refine I.laid (a:=s.heap.objs.size) (o:= .dK (cN kvs)) (t':=tk) k (Lp _) (qh ?_ (Qp.mpr (OD (Ma I.big))) (KV.puts kv .nil) dd);have z:=jh kvs [];unfold cN;simp only[Pl] at z;lia
def iI (K:Za):List V->Hp->VK->Prop:=λxs H Q=>DB xs H Q\/Aw K xs H Q
def R6 (K:Za)(hc:X.calm=true)(h:X.K=K:=by rfl):CallR X (.type "dict") (iI K):=by
 subst h;intro pins s σ H xs us Q I r h;rcases h with h|h
 .exact uD pins s σ H xs us Q I r h
 .exact vm hc pins s σ H xs us Q I r h
end
section
variable {K:Za} {H:Hp} {Q:VK}
def U1 {p:Addr}{kvs:List (i6×V)}(h:Rd H p (.dK kvs))(q:∀l,H l=none->Q (.ref l) (upd H l (.dK kvs))):iI K [.ref p] H Q:= .inl ⟨p,kvs,rfl,h,q⟩
def E2 {p:Addr}{xs:List V}{kvs:List (i6×V)}(h:SqL K H p xs)(hp:Paired (PrV K H) xs kvs)(hz:kvs.length<=sizeLine)(q:∀l,H l=none->Q (.ref l) (upd H l (.dK (cN kvs)))):iI K [.ref p] H Q:= .inr ⟨p,xs,kvs,rfl,h,hp,hz,q⟩
end
section
variable {X:Cx}
end
def ObjOk.there {P:Program}{w:World}{H:Hp}{h:Heap}{a:Addr}{o:HO}(x:ObjOk P w H h a o):∃u,h.get? a=some u:=by
 induction o with
 |lst xs=>obtain⟨_,_,_,_,e⟩:=x;exact⟨_,e⟩
 |tup xs=>obtain⟨_,_,_,o,e,_⟩:=x;exact⟨_,e⟩
 |dK kvs=>obtain⟨_,_,_,_,o,_,_,e,_⟩:=x;exact⟨_,e⟩
 |dT kvs=>obtain⟨_,_,_,_,o,_,_,e,_⟩:=x;exact⟨_,e⟩
 |set S n=>obtain⟨o,_,_,_,e,_⟩:=x;exact⟨_,e⟩
 |ins C dx fs=>obtain⟨_,_,_,e,_⟩:=x;exact⟨_,e⟩
 |own y=>exact x
 |xd fs=>obtain⟨_,⟨_,_,_,e,_⟩,_⟩:=x;exact⟨_,e⟩
 |rng lo hi=>obtain⟨_,_,_,e⟩:=x;exact⟨_,e⟩
 |frz ob u=>obtain⟨e,_⟩:=x;exact⟨_,e⟩
 |tbl ps=>exact⟨_,show h.get? a=some _ from x⟩
 |met f y=>exact⟨_,show h.get? a=some _ from x⟩
 |ext φ=>obtain⟨_,e,_⟩:=x;exact e
structure Fly (P:Program) (w:World) (outer:List Env) (H:Hp) (s:Shared) (a C:Addr) (a0:Value) (B:Heap) (H':Hp) (s':Shared):Prop where
 fl:Heap.FlyingW B outer a (.ref C) a0 s'.heap
 os:s'.os=s.os
 bare:AllBare s'.gens
 un:Un (bu outer) [] H H' s.heap s'.heap
 hok:HOk P w H' s'.heap
 kp:∀b o,s.heap.get? b=some o->H b=none->b∉bu outer->B.get? b=some o
 th:∀b o,s.heap.get? b=some o->b∉bu outer->∃o',B.get? b=some o'
 tr:∀b o,H' b=some o->∃u,B.get? b=some u
 nw:H' a=none
def gY (P:Program)(w:World):rD:=λouter H s E e s'=>∃(a C:Addr) (a0:Value) (B:Heap) (H':Hp),e= .ref a/\Fly P w outer H s a C a0 B H' s'/\E (.ref C) (some a) H'
def uX {P:Program}{w:World}{H:Hp}{B h h':Heap}(ok:HOk P w H h)(tr:∀b o,H b=some o->∃u,B.get? b=some u)(k1:B.StaysIn h)(k2:B.StaysIn h'):HOk P w H h':=λa o e=>
 (ok a o e).stay (λb u hb q=>by
  have hH:∃o',H b=some o':=by
   rcases hb with rfl|hb
   .exact⟨_,e⟩
   .exact⟨_,hb⟩
  obtain⟨o',UN⟩:=hH;obtain⟨u',UI⟩:=tr b o' UN;have z:=k1 b u' UI;rw[q] at z;cases z;exact k2 b _ UI) (λ_ z=>z) λ_ _ z=>z
section
variable {X:Cx} {pins:List (Addr×Obj)} {σ:St} {H:Hp} {s s':Shared}
def M4 {base h:Heap}{l:List Env}(F:h.FunFrames base l){b:Addr}{o:Obj}(hb:b∈bu l)(e:h.get? b=some o):∀vs,o.data≠ .fields vs:=by
 obtain⟨_,o',h1,h2⟩:=F.mem hb;rw[e] at h1;cases h1;exact h2
def Fly.land {a C:Addr}{a0:Value}{B:Heap}{H':Hp}{h':Heap}(I:Inv X pins σ H s)(F:Fly X.prog X.w X.stack H s a C a0 B H' s')(k:B.StaysIn h')(sl:s'.heap.UpToSlots h')(t':Nat):
  Inv X pins σ H' {s' with heap:=h',toks:=t'}:=by
 have fr:=F.fl.2.2.1
 have u:Un (bu X.stack) [] H H' s.heap h':=by
  refine⟨λb o e n hb _=>k b o (F.kp b o e n hb),λb o e n hb _=>?_,F.un.free,λb o e _=>?_,F.un.tups,F.un.frzs,F.un.tbls⟩
  .obtain⟨s1,e1⟩:=F.un.slot b o e n hb (by simp);obtain⟨s2,e2⟩:=sl b _ e1 (M4 fr hb e1);exact⟨s2,e2⟩
  .by_cases hb:b∈bu X.stack
   .obtain⟨o',e1⟩:=F.un.there b o e (by simp);obtain⟨s2,e2⟩:=sl b _ e1 (M4 fr hb e1);exact⟨_,e2⟩
   .obtain⟨o',e1⟩:=F.th b o e hb;exact⟨o',k b o' e1⟩
 have hok:=uX F.hok F.tr F.fl.1 k
 exact I.call' (s':={s' with heap:=h',toks:=t'}) (ch:=[]) F.os u hok F.bare (λb z=>absurd z (by simp))
end
section
variable {P:Program} {w:World} {K:Za} {mg:Str->Option Value} {base:Heap} {N:List Str} {qual:Str} {scope:Scope} {f:Addr} {cd:Value} {A:Around} {outer:List Env} {s0:Shared} {H0:Hp} {E:XK}
def gI {b:Addr}(hb:b∈bu outer):b∈bu (envOfC qual scope s0.heap.objs.size f cd::outer):=by grind [bu]
def jU {b:Addr}{o:Obj}(e:s0.heap.get? b=some o)(hb:b∉bu outer):b∉bu (envOfC qual scope s0.heap.objs.size f cd::outer):=λz=>by
 unfold bu at z hb;rw[OY] at z;have hl:=LI e;rcases Mi.mp z with z|z
 .rw[z] at hl;exact absurd hl (Ni _)
 .exact hb z
def qQ {pins:List (Addr×Obj)}{σ:St}{H:Hp}{s:Shared}{h1:Heap}{e C:Addr}{vs:List Value}(I:Inv (kg (gY P w) P w K mg base N qual scope f cd A outer s0 H0 E) pins σ H s)
  (hx:Heap.MadeExcOf s.heap h1 e (.ref C) vs) (q:E (.ref C) (some e) H):(kg (gY P w) P w K mg base N qual scope f cd A outer s0 H0 E).xe (.ref e) {s with heap:=h1}:=by
 have Ub:∀env∈(envOfC qual scope s0.heap.objs.size f cd::outer),∀b,env.frame=some b->b∈bu (envOfC qual scope s0.heap.objs.size f cd::outer):=λenv he b hb=>OG.mpr ⟨env,he,hb⟩
 have fr:s.heap.FunFrames base (envOfC qual scope s0.heap.objs.size f cd::outer):=I.stack
 have tr:∀b o,H b=some o->∃u,(PySem.W.hideAll s.heap (bu (envOfC qual scope s0.heap.objs.size f cd::outer))).get? b=some u:=λb o z=>by
  obtain⟨u,hu⟩:=(I.hok b o z).there;refine⟨u,OX _ hu λhb=>?_⟩;have:=I.stkFree b hb;rw[z] at this;cases this
 have nw:H e=none:=by
  cases z:H e with
  |none=>rfl
  |some o=>
   obtain⟨u,hu⟩:=(I.hok e o z).there
   rw[hx.new] at hu;cases hu
 have J':Un (bu outer) [] H0 H s0.heap s.heap:=I.base
 refine wpAny_leaves_madeW (base:=PySem.W.hideAll s.heap (bu (envOfC qual scope s0.heap.objs.size f cd::outer))) I.ok.frames rfl (λb o z=>QH _ z) (PySem.W.funFrames_hide fr Ub) hx λh' t x1 x2 x3 x4=>?_
 have kp:∀b o,s0.heap.get? b=some o->H0 b=none->b∉bu outer->(PySem.W.hideAll s.heap (bu (envOfC qual scope s0.heap.objs.size f cd::outer))).get? b=some o:=λb o z n hb=>
  OX _ (J'.keep b o z n hb (by simp)) (jU z hb)
 have th:∀b o,s0.heap.get? b=some o->b∉bu outer->∃o',(PySem.W.hideAll s.heap (bu (envOfC qual scope s0.heap.objs.size f cd::outer))).get? b=some o':=λb o z hb=>by
  obtain⟨o',z'⟩:=J'.there b o z (by simp);exact⟨o',OX _ z' (jU z hb)⟩
 have hk:=x1.1
 refine⟨e,C,_,_,H,rfl,⟨x1,I.os,I.bare,⟨λb o z n hb _=>hk b o (kp b o z n hb),λb o z n hb _=>?_,λb o z n _=>J'.free b o z n (by simp),λb o z _=>?_,J'.tups,J'.frzs,J'.tbls⟩,?_,kp,th,tr,nw⟩,q⟩
 .obtain⟨s1,e1⟩:=J'.slot b o z n hb (by simp)
  have nf:=M4 fr (gI hb) e1
  obtain⟨s2,e2⟩:=x4 b _ (hx.keeps _ _ e1) nf
  exact⟨s2,e2⟩
 .by_cases hb:b∈bu outer
  .obtain⟨o',e1⟩:=J'.there b o z (by simp)
   obtain⟨s2,e2⟩:=x4 b _ (hx.keeps _ _ e1) (M4 fr (gI hb) e1)
   exact⟨_,e2⟩
  .obtain⟨o',e1⟩:=th b o z hb
   exact⟨o',hk b o' e1⟩
 .exact uX I.hok tr (λb o z=>QH _ z) hk
def jk:dA (gY P w) (kg (gY P w) P w K mg base N qual scope f cd A outer s0 H0 E) E:=by
 intro pins σ H s e s' I h;obtain⟨a,C,a0,B,H',rfl,F,q⟩:=h;have fr:=F.fl.2.2.1;have J':Un (bu outer) [] H0 H s0.heap s.heap:=I.base;refine wpAny_leaves_onW I.ok.frames rfl F.fl λh' x1 x2=>?_;have hk:=x1.1;have kp:∀b o,s0.heap.get? b=some o->H0 b=none->b∉bu outer->B.get? b=some o:=λb o z n hb=>
  F.kp b o (J'.keep b o z n hb (by simp)) (J'.free b o z n (by simp)) (jU z hb)
 have th:∀b o,s0.heap.get? b=some o->b∉bu outer->∃o',B.get? b=some o':=λb o z hb=>by
  obtain⟨o',z'⟩:=J'.there b o z (by simp);exact F.th b o' z' (jU z hb)
 have ub:Un (bu (envOfC qual scope s0.heap.objs.size f cd::outer)) [] H H' s.heap s'.heap:=F.un;refine⟨a,C,a0,B,H',rfl,⟨x1,F.os.trans I.os,F.bare,⟨λb o z n hb _=>hk b o (kp b o z n hb),λb o z n hb _=>?_,λb o z n _=>?_,λb o z _=>?_,λb xs z=>ub.tups b xs (J'.tups b xs z),λb o u z=>ub.frzs b o u (J'.frzs b o u z),λb ps z=>?_⟩,uX F.hok F.tr F.fl.1 hk,kp,th,F.tr,F.nw⟩,q⟩
 .obtain⟨s1,e1⟩:=J'.slot b o z n hb (by simp);obtain⟨s2,e2⟩:=ub.slot b _ e1 (J'.free b o z n (by simp)) (gI hb) (by simp);obtain⟨s3,e3⟩:=x2 b _ e2 (M4 fr (gI hb) e2);exact⟨s3,e3⟩
 .obtain⟨o',e1⟩:=J'.there b o z (by simp);exact ub.free b o' e1 (J'.free b o z n (by simp)) (by simp)
 .by_cases hb:b∈bu outer
  .obtain⟨o',e1⟩:=J'.there b o z (by simp);obtain⟨o2,e2⟩:=ub.there b o' e1 (by simp);obtain⟨s3,e3⟩:=x2 b _ e2 (M4 fr (gI hb) e2);exact⟨_,e3⟩
  .obtain⟨o',e1⟩:=th b o z hb;exact⟨o',hk b o' e1⟩
 .obtain⟨m1,e1⟩:=J'.tbls b ps z;obtain⟨m2,e2⟩:=ub.tbls b _ e1;exact⟨m1++m2,by rw[e2,Sz]⟩
end
def DN:List Value:=[.type "ValueError",.type "Exception",.type "BaseException",.type "object"]
structure ExC (K:Za) (mg:Str->Option Value) (x:Str) (C:Addr):Prop where
 bound:mg x=some (.ref C)
 exc:PySem.W.excIn K C DN "ValueError.__new__"=true
def ExC.own {K:Za}{mg:Str->Option Value}{x:Str}{C:Addr}{h:Heap}(O:ExC K mg x C)(X:K.In h):OwnCls x C DN "ValueError.__new__" mg h:=by
 have q:=O.exc;refine⟨O.bound,?_⟩;unfold PySem.W.excIn at q;split at q
 .rename_i g1 g2 g3 lk
  split at q
  .rename_i c2 l2 i0 i1 i2 i3 nn i5 em es
   simp only[Mg,Pd,Nw] at q;obtain⟨⟨⟨⟨⟨ea,eb⟩,q1⟩,q2⟩,q3⟩,q4⟩:=q;subst ea;subst eb;obtain⟨y1,y2,y3,y4,y5,y6,y7,y8,y9,y10,y11⟩:=g2;dsimp only at em q1 q3 q4;subst em q1;have e3:g3= #[i0,i1,i2,i3,some (.builtin "ValueError.__new__"),i5]:=by
    cases g3 with
    |mk l=>
     have Ua:l=[i0,i1,i2,i3,some (.builtin "ValueError.__new__"),i5]:=es
     rw[Ua]
   subst e3;exact⟨l2,y4,y1,y5,y2,y6,y7,y8,y9,y10,g1,i0,i1,i2,i3,i5,h.nsMap y4,X _ _ lk,Heap.Ns.of_isNs (PySem.W.isNs_of_in X q3),PySem.W.nsMap_none_of_in X q3 q4,PySem.W.tail_of_in X q2⟩
  .cases q
 .cases q
def uM (X:Cx)(E:XK):Prop:=∀(pins:List (Addr×Obj)) (σ:St) (H:Hp) (s:Shared) (h1:Heap) (e C:Addr) (vs:List Value),Inv X pins σ H s->Heap.MadeExcOf s.heap h1 e (.ref C) vs->E (.ref C) (some e) H->X.xe (.ref e) {s with heap:=h1}
def dI {P:Program}{w:World}{K:Za}{mg:Str->Option Value}{base:Heap}{N:List Str}{qual:Str}{scope:Scope}{f:Addr}{cd:Value}{A:Around}{outer:List Env}{s0:Shared}{H0:Hp}{E:XK}:
  uM (kg (gY P w) P w K mg base N qual scope f cd A outer s0 H0 E) E:=λ_ _ _ _ _ _ _ _ I hx q=>qQ I hx q
def uC (C:Addr)(E:XK)(ta:TA):TS:=λ_ σ H=>ta σ H λvs H1=>vs.length<=sizeLine/\∀e,H1 e=none->E (.ref C) (some e) H1
section
variable {X:Cx} {E:XK} {x:Str} {C:Addr} {np d_ pos:Pos} {e:Expr} {es:List Expr} {ta:TA}
def yY (R:uM X E)(O:ExC X.K X.mg x C)(hc:X.calm=true)(ha:PA X (e::es) ta)(hg:Gl X x:=by rfl)(q_:(x==("__debug__":Str))=false:=by decide)(h:z8 (e::es)=true:=by rfl):
  PS X (.Raise (some (.Call (.Name x np) (e::es) [] d_)) none pos) (uC C E ta):=by
 intro pins s σ H D I hw
 have h':(C9 e&&z8 es)=true:=h
 rw[Mg] at h'
 have h1:starEach (e::es) X.env=(false,eval e X.env)::starEach es X.env:=cM h'.1
 have h2:(backTo d_ (starEach es X.env)).any (·.1)=false:=cO h'.2
 obtain⟨tl,y0,y1,y2,y3,y4,y5,y6,y7,y8,y9,u0,u1,u2,u3,u5,mN,hC,hN,hni,T⟩:=(O.own I.ok.mod.kin).obj
 refine wpAny_Raise_call_subT (k5:=u5) (k3:=u3) (k2:=u2) (k1:=u1) (k0:=u0) (dd:=y9) (col:=y8) (ab:=y7) (sub:=y6) (sn:=y5) (hdct:=y4) (bs:=y3) (q:=y2) (nm:=y1) (N:=y0) (C:=C) (bm:=tl) (mN:=mN) PySem.F.excBase_ValueError (T.hasType (by decide)) (I.ok.hd hc) ?_ hni (gM I hg O.bound ⟨rfl,?_⟩ q_)
 .rw[h1]
  show(false||(backTo d_ (starEach es X.env)).any (·.1))=false
  rw[h2];rfl
 .have hw':=ha d_ pins s σ H _ I hw
  rw[h1] at hw'⊢
  refine Qj (N3 hw' λus s1 ⟨vs,H1,I1,r,q1,q2⟩=>?_)
  refine⟨rfl,by rw[←r.length];exact q1,I1.bk _ _ hC,hN.keeps I1.bk,T.keeps I1.bk,λh2 e2 hm=>?_⟩
  have nw:H1 e2=none:=by
   cases z:H1 e2 with
   |none=>rfl
   |some o=>
    obtain⟨u,hu⟩:=(I1.hok e2 o z).there
    rw[hm.new] at hu;cases hu
  exact R pins σ H1 s1 h2 e2 C us I1 hm (q2 e2 nw)
def iq (R:uM X E)(O:ExC X.K X.mg x C)(hc:X.calm=true)(ha:QA X (e::es) ta)(hg:Gl X x:=by rfl)(q_:(x==("__debug__":Str))=false:=by decide)(h:z8 (e::es)=true:=by rfl):
  QS X (.Raise (some (.Call (.Name x np) (e::es) [] d_)) none pos) (uC C E ta):=⟨yY R O hc ha.r hg q_ h⟩
def Kr (te:TE)(c:Str):TE:=λσ H Q=>te σ H λv H1=>∃y:Str,v= .str y/\y.length+c.length<=1000/\∀z:Str,Q (.str z) H1
def Ku {te:TE}{c:Str}{p1 p2:Pos}{j}(he:QE X e te):QE X (.JoinedStr [.FormattedValue e (-1) none p1,.Constant (.str c) j p2] pos) (Kr te c):=⟨by
 intro pins s σ H Q I h;refine JoinedStr_many (joinParts_cons (FormattedValue_plain (N3 (he.r pins s σ H _ I h) λu s1 ⟨v,H1,I1,r,y,ev,hl,q⟩=>?_)));subst ev;obtain⟨t,rfl⟩:=(show ∃t,u=Value.str y t from r)
 refine formatField_str (λt' tk=>?_) (b9 (by lia));refine⟨b9 (by rw[SJ];show 0+_<=1000;lia),joinParts_cons ?_⟩;have hc:=(X7 (X:=X) (x:=c) (j:=j) (pos:=p2)).r pins {s1 with toks:=tk} σ H1 (λv H2=>v= .str c/\H2=H1) (I1.tok tk) ⟨rfl,rfl⟩;refine N3 hc λu2 s2 ⟨v2,H2,I2,r2,e2,e3⟩=>?_;subst e2 e3;obtain⟨t2,rfl⟩:=(show ∃t,u2=Value.str c t from r2)
 have hz:(Str.empty++y++c).length<=sizeLine:=b9 (by rw[SJ,SJ];show 0+_+_<=1000;lia);refine⟨hz,joinParts_nil ⟨.str (Str.empty++y++c),H2,I2.tok _,⟨_,rfl⟩,q _⟩ hz⟩⟩
end
def Fun.okE {P:Program}{w:World}{K:Za}{mg:Str->Option Value}{base:Heap}{x qual:Str}{st:Stmt}{f:Addr}{fd:FuncData}{N ps:List Str}{k:Nat}{sp:Sp}(F:Fun K x qual st f fd)(S:i4 N ps (d0 st))(len:∀vs H Q E,sp vs H Q E->vs.length=ps.length)
  (O':∀(c_:Value) (A:Around) (outer:List Env) (s:Shared) (H:Hp) (vs:List V) (Q:VK) (E:XK),Room k (A.deeper (envOfC qual (d0 st) s.heap.objs.size f c_))->sp vs H Q E->
   ∃t,PSs (kg (gY P w) P w K mg base N qual (d0 st) f c_ A outer s H E) (V5 st) t/\t {nx:=λ_ H'=>Q .non H',rt:=Q} (gD N vs) H):u6 P w K mg base (gY P w) (k+1) f fd ps sp:=by
 obtain⟨oc,od,kV,doc,pm,an,c_,ct,SS,rfl,lk,SN⟩:=F.ex
 exact DU lk SN S len λA outer s H vs Q E hr TR=>O' c_ A outer s H vs Q E hr TR
abbrev Cx.pinned (X:Cx)(pins:List (Addr×Obj)):Cx:={X with pn:=X.pn++pins}
def Lc (X:Cx)(pins:List (Addr×Obj))(Es:St->XK):Value->Shared->Prop:=λe s'=>∃(i_:List (Addr×Obj)) (σ:St) (H:Hp) (s:Shared),Inv (X.pinned pins) i_ σ H s/\gY X.prog X.w X.stack H s (Es σ) e s'
abbrev Cx.tried (X:Cx)(pins:List (Addr×Obj))(Es:St->XK):Cx:={X with pn:=X.pn++pins,xe:=Lc X pins Es}
abbrev Cx.suite (X:Cx)(e:Addr):Cx:={X with A:=X.A.mark (some (.ref e)),calm:=false,xe:=λ_ _=>False}
section
variable {X:Cx} {pins i_:List (Addr×Obj)} {Es:St->XK} {σ:St} {H:Hp} {s:Shared} {e:Addr}
def Inv.toTried (I:Inv X pins σ H s):Inv (X.tried pins Es) [] σ H s:=
 ⟨⟨I.ok.mod,I.ok.kind,I.ok.glob,I.ok.blt,I.ok.above,I.ok.inj,I.ok.has,I.ok.cab,I.ok.hd,I.ok.frames,I.ok.stk,I.ok.exf,I.ok.bs,I.ok.bsz,I.ok.noex,I.ok.exfs,I.ok.funs,I.ok.frf⟩,
  I.os,I.bare,I.base,I.loc,I.cell,I.free,I.freeC,λp hp=>I.pin p (by simpa using hp),I.hok,I.len⟩
def Inv.ofTried (I:Inv (X.tried pins Es) i_ σ H s):Inv X pins σ H s:=
 ⟨⟨I.ok.mod,I.ok.kind,I.ok.glob,I.ok.blt,I.ok.above,I.ok.inj,I.ok.has,I.ok.cab,I.ok.hd,I.ok.frames,I.ok.stk,I.ok.exf,I.ok.bs,I.ok.bsz,I.ok.noex,I.ok.exfs,I.ok.funs,I.ok.frf⟩,
  I.os,I.bare,I.base,I.loc,I.cell,I.free,I.freeC,λp hp=>I.pin p (Ls _ hp),I.hok,I.len⟩
def Inv.ofPinned (I:Inv (X.pinned pins) i_ σ H s):Inv X pins σ H s:=
 ⟨⟨I.ok.mod,I.ok.kind,I.ok.glob,I.ok.blt,I.ok.above,I.ok.inj,I.ok.has,I.ok.cab,I.ok.hd,I.ok.frames,I.ok.stk,I.ok.exf,I.ok.bs,I.ok.bsz,I.ok.noex,I.ok.exfs,I.ok.funs,I.ok.frf⟩,
  I.os,I.bare,I.base,I.loc,I.cell,I.free,I.freeC,λp hp=>I.pin p (Ls _ hp),I.hok,I.len⟩
def Inv.triedPinned (I:Inv (X.tried pins Es) i_ σ H s):Inv (X.pinned pins) i_ σ H s:=
 ⟨⟨I.ok.mod,I.ok.kind,I.ok.glob,I.ok.blt,I.ok.above,I.ok.inj,I.ok.has,I.ok.cab,I.ok.hd,I.ok.frames,I.ok.stk,I.ok.exf,I.ok.bs,I.ok.bsz,I.ok.noex,I.ok.exfs,I.ok.funs,I.ok.frf⟩,
  I.os,I.bare,I.base,I.loc,I.cell,I.free,I.freeC,I.pin,I.hok,I.len⟩
def sR (A:Around)(h:Option Value):(A.mark h).frames=A.frames:=rfl
def Inv.toSuite (I:Inv X pins σ H s):Inv (X.suite e) pins σ H s:=
 ⟨⟨I.ok.mod,I.ok.kind,I.ok.glob,I.ok.blt,I.ok.above,I.ok.inj,I.ok.has,I.ok.cab,(λz=>nomatch z),(sR _ _).trans I.ok.frames,I.ok.stk,I.ok.exf,I.ok.bs,I.ok.bsz,I.ok.noex,I.ok.exfs,I.ok.funs,I.ok.frf⟩,
  I.os,I.bare,I.base,I.loc,I.cell,I.free,I.freeC,I.pin,I.hok,I.len⟩
def Inv.ofSuite (ok:X.Ok)(I:Inv (X.suite e) pins σ H s):Inv X pins σ H s:=
 ⟨ok,I.os,I.bare,I.base,I.loc,I.cell,I.free,I.freeC,I.pin,I.hok,I.len⟩
def cx (a C:Addr)(h:Heap):Prop:=∃o vs,h.get? a=some o/\o.cls= .ref C/\o.data= .fields vs
def AF {P:Program}{w:World}{H:Hp}{h:Heap}{a C:Addr}(x:cx a C h):ObjOk P w H h a (.ext (cx a C)):=by grind [cx,ObjOk]
def Inv.track {a C:Addr}(I:Inv X pins σ H s)(hn:H a=none)(x:cx a C s.heap)(h0:X.s₀.heap.get? a=none)(hp:∀p∈X.pn++pins,p.1≠a):Inv X pins σ (upd H a (.ext (cx a C))) s:=by
 obtain⟨o,vs,e,c,d⟩:=id x;have ne0:∀b ob,X.s₀.heap.get? b=some ob->b≠a:=λb ob z q=>by rw[q,h0] at z;cases z
 refine⟨I.ok,I.os,I.bare,⟨I.base.keep,I.base.slot,λb ob z n hx=>?_,I.base.there,λb xs z=>?_,λb ob u z=>?_,λb ps z=>?_⟩,I.loc,I.cell,?_,λy c' z=>?_,λp hq=>?_,λb u z=>?_,I.len⟩
 .rw[d9 (ne0 b ob z)];exact I.base.free b ob z n hx
 .have z':=I.base.tups b xs z;rw[d9 λq=>by rw[q,hn] at z';cases z'];exact z'
 .have z':=I.base.frzs b ob u z;rw[d9 λq=>by rw[q,hn] at z';cases z'];exact z'
 .obtain⟨more,z'⟩:=I.base.tbls b ps z;exact⟨more,by rw[d9 λq=>by rw[q,hn] at z';cases z'];exact z'⟩
 .obtain⟨m,⟨oL,es,ep,hL,dL,_⟩,_⟩:=I.loc;rw[d9 λq=>?_]
  .exact I.free
  .rw[q,e] at hL;cases hL;rw[d] at dL;cases dL
 .obtain⟨v,oc,VF,hod⟩:=I.cell y c' z;rw[d9 λq=>?_]
  .exact I.freeC y c' z
  .rw[q,e] at VF;cases VF;rw[d] at hod;cases hod
 .obtain⟨p1,p2,p3,p4,p5⟩:=I.pin p hq;exact⟨p1,by rw[d9 (hp p hq)];exact p2,p3,p4,p5⟩
 .by_cases q:b=a
  .subst q;rw[d8] at z;cases z;exact AF x
  .rw[d9 q] at z;refine(I.hok b u z).stay (λ_ _ _ q=>q) (λb' q'=>?_) λb' xs q'=>?_
   .rw[d9 λk=>by rw[k,hn] at q';cases q'];exact q'
   .rw[d9 λk=>by rw[k,hn] at q';cases q'];exact q'
end
def Az (sp:Sp)(p_:List V)(Es:St->XK)(t:TA):TE:=λσ H Q=>t σ H λvs H1=>sp (vs++p_) H1 Q (Es σ)
section
variable {X:Cx} {pins:List (Addr×Obj)} {Es:St->XK} {k:Nat} {ps:List Str} {p_:List V} {sp:Sp} {x:Str} {p pos:Pos} {e:Expr} {es:List Expr} {t:TA}
def KN (C:M7 X.prog X.w X.K X.mg X.base (gY X.prog X.w) k x ps p_ sp)(hr:Room k X.A)(ha:QA (X.tried pins Es) (e::es) t)(hg:Gl X x:=by rfl)
  (q_:(x==("__debug__":Str))=false:=by decide) (h:z8 (e::es)=true:=by rfl):QE (X.tried pins Es) (.Call (.Name x p) (e::es) [] pos) (Az sp p_ Es t):=⟨by
 have h':(C9 e&&z8 es)=true:=h
 rw[Mg] at h'
 obtain⟨f,fd,ds,F,hm,hk,hb,hd⟩:=C
 intro i_ s σ H Q I hw
 refine Pj (gM I hg hm ?_ q_)
 refine SE (h₀:=X.base) I.ok.mod.kin hk (N3 (ha.r pos i_ s σ H _ I hw) λus s1 ⟨vs,H1,I1,r,q⟩=>⟨I1.kIn,?_⟩) (cM h'.1) (cO h'.2)
 have r2:Vals (vs++p_) (us++ds):=r.append hd
 have hl:(us++ds).length=ps.length:=by rw[←r2.length];exact F.len _ _ _ _ q
 refine wpAny_call (PZ (F.run X.A X.stack s1 H1 ⟨us,[]⟩ (us++ds) (vs++p_) Q (Es σ) hr I1.env0 (hb s1 us I1.kIn hl) r2 q) λr s' hq=>?_)
 cases r with
 |error e=>exact⟨i_,σ,H1,s1,I1.triedPinned,hq⟩
 |ok fl=>
  cases fl with
  |ret u=>exact I1.after hq
  |next=>exact False.elim hq
  |brk=>exact False.elim hq
  |cont=>exact False.elim hq⟩
end
def rV {M:Model}{A:Around}{E:Value->Shared->Prop}{K:Za}{s:Shared}{a C T:Addr}{b:Bool}{Q:Bool->Shared->Prop}(X:K.In s.heap)(x:cx a C s.heap)(hm:PySem.W.typeIn K (.ref T)=some (.type "type"))
  (he:PySem.W.subIn K (.ref T) (.type "BaseException")=some true) (hc:(PySem.W.clsIn K T).isSome=true) (hs:PySem.W.subIn K (.ref C) (.ref T)=some b) (q:Q b s):wpAny M A (excMatches (.ref a) (.ref T)) Q E s:=by
 obtain⟨oe,vs,ex,ec,ed⟩:=x
 have L1:PySem.W.Looks M s.heap (isInstance (.ref T) (.type "tuple")) false:=(PySem.W.looks_typeIn X hm).andThen (PySem.W.Looks.of_pure tc_notTuple)
 have L2:PySem.W.Looks M s.heap (isType (.ref T)) true:=by
  unfold PySem.W.clsIn at hc;split at hc
  .rename_i lk
   intro A' Q' E' s' k q';unfold isType loadHead;exact Lx (wpAny_loadPart (k _ _ (X _ _ lk)) (LK q'))
  .cases hc
 have L3:=Sv (M:=M) X he
 have L4:PySem.W.Looks M s.heap (typeOf (.ref a)) (.ref C):=by
  have z:PySem.W.Looks M s.heap (typeOf (.ref a)) oe.cls:=(PySem.W.Looks.ld ex).andThen .now;rw[ec] at z;exact z
 have L5:=Sv (M:=M) X hs
 unfold excMatches
 refine Lx (L1.here ?_)
 simp only[NA,PQ]
 have LX:PySem.W.Looks M s.heap (isExcClass (.ref T)) true:=by
  unfold isExcClass;exact L2.andThen (by simpa using L3)
 refine Lx (LK ?_)
 refine Lx ?_
 rw[Qq]
 refine Lx (Lx (LX.here ?_))
 simp only[Bool.not_true,NA,PQ]
 refine LK ?_
 simp only[Sh]
 refine LK ?_
 refine Lx (L4.here ?_)
 refine Lx ?_
 rw[Qq]
 refine Lx (Lx (L5.here ?_))
 cases b with
 |true=>
  simp only[Sl]
  exact LK (LK (LK q))
 |false=>
  simp only[NA,PQ]
  refine LK ?_
  simp only[Sh]
  exact LK (LK q)
structure Kh (K:Za) (mg:Str->Option Value) (x:Str) (T:Addr):Prop where
 bound:mg x=some (.ref T)
 ty:PySem.W.typeIn K (.ref T)=some (.type "type")
 exc:PySem.W.subIn K (.ref T) (.type "BaseException")=some true
 cls:(PySem.W.clsIn K T).isSome=true
section
variable {X:Cx} {x n:Str} {T:Addr} {np N_ pos:Pos} {i:Nat} {b₀:Stmt} {body suite:List Stmt} {tb:(St->XK)->TS} {ts:TS}
end
end L2
namespace L2
open PySem PySem.Spec PyProof.Rows PySem.W
section
variable {X:Cx}
end
def cA (K:Frag)(x:Str):Addr:=match nsIn K mainGlobals x with
 |some (some (.ref C))=>C
 |_=>0
def yT {P:Program}{w:World}{X:Cx}:dA (gY P w) X E0:=λ_ _ _ _ _ _ _ ⟨_,_,_,_,_,_,_,z⟩=>z.elim
section
variable {K:Frag} {σ:St} {H:Hp} {Q:VK} {D:sZ}
def BN {C:Addr}{E:XK}{ta:TA}(q:ta σ H λvs H1=>vs.length<=sizeLine/\∀e,H1 e=none->E (.ref C) (some e) H1):uC C E ta D σ H:=q
def JO {te:TE}{c:Str}(q:te σ H λv H1=>∃y:Str,v= .str y/\y.length+c.length<=1000/\∀z:Str,Q (.str z) H1):Kr te c σ H Q:=q
def BE {sp:Sp}{p_:List V}{Es:St->XK}{t:TA}(q:t σ H λvs H1=>sp (vs++p_) H1 Q (Es σ)):Az sp p_ Es t σ H Q:=q
end
section
variable {X:Cx}
def He (K:Frag):R2:=λ_ _ _ _=>False
def FK (hu:X.A.units+64<cLine):OpR X (compareOp .NotEq) (He X.K):=by
 intro pins s σ H x y v u Q I rx ry h;exact h.elim
def Fn (K:Frag):R2:=λx y H Q=>EI K x y H Q\/He K x y H Q
def JM (K:Frag){k:Nat}(hr:Room k X.A)(h:X.K=K:=by rfl):OpR X (compareOp .NotEq) (Fn K):=(KZ K hr h).or (h▸FK hr.units)
end
section
variable {K:Frag} {H:Hp} {Q:VK}
def zg {i j:Int}(q:Q (.bl (!decide (i=j))) H):Fn K (.int i) (.int j) H Q:= .inl (sO q)
end
def Q7 (ka kb:List (i6×V)):List (i6×V):=kb.foldl (λa x=>G3 a x.1 x.2) ka
theorem pG:∀{kb ka:List (i6×V)},(Q7 ka kb).length<=ka.length+kb.length
 |[],ka=>Lp _
 |p::r,ka=>by
  show(Q7 (G3 ka p.1 p.2) r).length<=_;have z:=pG (kb:=r) (ka:=G3 ka p.1 p.2);have z2:=aD ka p.1 p.2;rw[Mv];lia
section
variable {X:Cx}
def Cu:V->List V->Hp->VK->Prop:=λx vs H Q=>∃a b ka kb,x= .ref a/\vs=[.ref b]/\H a=some (.dK ka)/\Rd H b (.dK kb)/\a≠b/\ka.length+kb.length<=1000/\Q .non (upd H a (.dK (Q7 ka kb)))
def X1:Cw X "dict.update" Cu:=by
 intro pins s σ H x vs v us Q I rx rv h;obtain⟨a,b,ka,kb,rfl,rfl,hA,hB,v_,hl,q⟩:=h;cases rx;obtain⟨u,rfl,ru⟩:=O7 rv;cases ru;obtain⟨z,hd,va,ra,da⟩:=Af I.hok hA;obtain⟨z2,hd2,vb,rb,db⟩:=W0 I.hok hB;have lz:ka.length+kb.length<=sizeLine:=b9 hl;refine NO Oj da.typeIs PySem.F.entry_dict_update (PySem.F.args_dict_update_2 _ _) (meets_dict_update (q8 X.prog X.w) a b v_ hd2) ⟨va,vb,da,db,by rw[←ra.length,←rb.length];exact lz,λh' dd' _ hs=>?_⟩;have he:∃q,h'.get? a=some q:=let ⟨q,_,_,hq,_⟩:=dd';⟨q,hq⟩
 have VJ:=pG (kb:=kb) (ka:=ka);refine⟨.non,_,jM (t':=s.toks) I (by rw[hA];exact True.intro) hs he (qh (kvs:=Q7 ka kb) (Mh VJ lz) hd (KV.puts rb ra) dd'),rfl,q⟩
end
section
open PySem.Builtin PySem.Builtin.Str
end
def av (σ:List Str)(x:Str):List Str:=if x∈σ then σ else σ++[x]
def dW (ss:List Str):List Str:=ss.foldl av []
def addS_le (σ:List Str)(x:Str):(av σ x).length<=σ.length+1:=by
 unfold av;split
 .lia
 .rw[LB];simp
def Ay {σ:List Str}{x y:Str}:y∈av σ x↔y∈σ\/y=x:=by grind [av]
theorem nE:∀(ss σ:List Str),(ss.foldl av σ).length<=σ.length+ss.length
 |[],σ=>Lp _
 |x::r,σ=>by
  have z:=nE r (av σ x);have z2:=addS_le σ x;rw[ND,Mv];lia
theorem ph:∀(ss σ:List Str),σ.Nodup->((ss.foldl av σ).length=σ.length+ss.length↔(σ++ss).Nodup)
 |[],σ,nd=>by simp [nd]
 |x::r,σ,nd=>by
  rw[ND,Mv];by_cases h:x∈σ
  .have e:av σ x=σ:=by unfold av;rw[if_pos h]
   rw[e];have z:=nE r σ;constructor
   .intro q;lia
   .intro q;exact absurd rfl ((LU.mp q).2.2 x h x (by simp))
  .have e:av σ x=σ++[x]:=by unfold av;rw[if_neg h]
   have Rx:(σ++[x]).Nodup:=LU.mpr ⟨nd,by simp,λa ha b hb e=>h (by
    have hbx:b=x:=by simpa using hb
    rw[←hbx,←e];exact ha)⟩
   have z:=ph r (σ++[x]) Rx;rw[e];rw[LB,Mu] at z;rw[LS] at z;show _↔(σ++([x]++r)).Nodup;rw[←z];lia
def mV (ss:List Str):(dW ss).length=ss.length↔ss.Nodup:=by
 have z:=ph ss [] Ny;simpa [dW] using z
section
variable {prog:Program} {w:World} {A:Around} {E:Value->Shared->Prop}
def StrsAre:List Value->List Str->Prop:=Paired λu x=>∃t,u= .str x t
def yL {d it l:Addr}{items:List Value}(hh:A.handled=none)(VQ:d≠it)(ZX:l≠it)(ZY:l≠d):
  ∀(more:List Str) (i:Nat) (s:Shared) (σ:List Str) (R:Result->Shared->Prop),
   s.heap.IsListIter it l i->s.heap.IsList l items.toArray->StrsAre (items.drop i) more->s.heap.SetOf (strKind prog w) d (λk=>decide (k∈σ)) σ.length->σ.length+more.length<2000->
   (∀h' tk,(∀b o,b≠d->b≠it->s.heap.get? b=some o->h'.get? b=some o)->h'.SetOf (strKind prog w) d (λk=>decide (k∈more.foldl av σ)) (more.foldl av σ).length->R (.ok (.ret .none)) {s with heap:=h',toks:=tk})->
   codeAny (model prog w) A (.builtin "set.update.loop" ⟨[.ref d,.ref it],[]⟩) R s:=by
 intro more
 induction more with
 |nil=>
  intro i s σ R hit hl hp hd hz hR
  have hx:items.toArray[i]?=none:=by
   have hn:items.drop i=[]:=by cases B_:items.drop i with
    |nil=>rfl
    |cons x r=>rw[B_] at hp;cases hp
   have:=RW.mp hn;simp;lia
  refine Nn F.entry_set_update_loop ?_
  rw[MU Po _]
  show wpAny _ A.in1 (pyNext (.ref it)>>=_) _ _ s
  refine Lx (PY (A:=A.in1) hh hit hl hx λh' eb=>?_)
  show wpAny _ A.in1 (ret Value.none) _ _ _
  refine LK (hR h' s.toks (λb o h1 h2 e=>eb b o h2 e) ?_)
  obtain⟨o,es,ep,t,ho,r⟩:=hd
  exact⟨o,es,ep,t,eb d o VQ ho,r⟩
 |cons x more ih=>
  intro i s σ R hit hl hp hd hz hR
  obtain⟨u,hx,⟨t,rfl⟩,Um⟩:∃u,items.toArray[i]?=some u/\(∃t,u=Value.str x t)/\StrsAre (items.drop (i+1)) more:=by
   cases B_:items.drop i with
   |nil=>rw[B_] at hp;cases hp
   |cons u r=>
    rw[B_] at hp
    cases hp with
    |cons h1 h2=>
     refine⟨u,?_,h1,?_⟩
     .have z:=Mw List.head? B_
      simpa using z
     .have z:=Mw List.tail B_
      rw[List.tail_drop] at z
      rw[z];exact h2
  simp only[Mv] at hz
  refine Nn F.entry_set_update_loop ?_
  rw[MU Po _]
  show wpAny _ A.in1 (pyNext (.ref it)>>=_) _ _ s
  refine Lx (Py hit hl hx λh' hit' hs'=>?_)
  have ZE:h'.SetOf (strKind prog w) d (λk=>decide (k∈σ)) σ.length:=by
   obtain⟨o,es,ep,tb,ho,r⟩:=hd;exact⟨o,es,ep,tb,hs'.extBut d o VQ ho,r⟩
  refine Lx (Nj ?_)
  unfold setAdd
  refine Nj (Lx ((strKind prog w).pyHash (k:=x) (strKind_is _ _ _ _) ?_))
  refine wpAny_setAddHashed_of (knd:=strKind prog w) (s:={s with heap:=h',toks:=s.toks+1}) (strKind_is _ _ _ _) rfl ZE (by unfold scanBound;lia) λSo hs'' Z'=>?_
  have hS3:So.SetOf (strKind prog w) d (λk=>decide (k∈av σ x)) (av σ x).length:=by
   refine SetOf_congr Z' (λk=>?_) ?_
   .rw[LQ];simp [Ay]
   .unfold av;by_cases h:x∈σ
    .rw[if_pos (by simpa using h),if_pos h]
    .rw[if_neg (by simpa using h),if_neg h,LB];rfl
  have kp:∀b o,b≠d->b≠it->s.heap.get? b=some o->So.get? b=some o:=λb o XA Uo e=>(hs''.2 b XA).trans (hs'.extBut b o Uo e)
  have hle:=addS_le σ x
  refine LK ⟨NZ Po _,?_⟩
  refine ih (i+1) _ (av σ x) R ?_ ?_ Um hS3 (by lia) (λh3 tk k3 d3=>hR h3 tk (λb o e1 e2 e=>k3 b o e1 e2 (kp b o e1 e2 e)) d3)
  .exact hit'.at λo e=>(hs''.2 it (OD VQ)).trans e
  .obtain⟨ol,A_,r⟩:=hl
   exact⟨ol,kp l ol ZY ZX A_,r⟩
end
section
variable {prog:Program} {w:World} {A:Around} {E:Value->Shared->Prop}
set_option maxHeartbeats 3200000 in
def nU {l:Addr}{items:List Value}{o:Obj}{n:Nat}{ss:List Str}{s:Shared}{Q:Value->Shared->Prop}(hh:A.handled=none)(ho:s.heap.get? l=some o)(hc:o.cls= .type "list")(N':o.data= .seq items.toArray n)(hz:ss.length<1000)(hp:StrsAre items ss)
  (h:∀h' tk,h'.SetOf (strKind prog w) s.heap.objs.size (λk=>decide (k∈dW ss)) (dW ss).length->(∀b o,s.heap.get? b=some o->h'.get? b=some o)->Q (.ref s.heap.objs.size) {s with heap:=h',toks:=tk}):
  wpAny (model prog w) A (call (.type "set") [.ref l]) Q E s:=by
 obtain⟨c1,c2,c3⟩:=OM.mro
 have c4:=OM.made;have c5:=OM.sub;have c6:=OM.notType;have c7:=OM.canCreate;have c8:=F.typeCall_set_1 (.ref l)
 refine wpAny_call (codeAny_of_tree (show wpAny _ _ (callAny (.type "set") _) _ _ _ from LK ⟨Code.quiet_builtin _ (by decide+kernel),Nn F.entry_type_call ?_⟩))
 rw[Around.under_plain (weight_type_call_type "set" [Value.ref l] []) rfl]
 repeat(any_goals first|assumption|wp_step)
 refine PZ (code_set_new_1 (E:=E) (.ref l) (Q₁:=λob st=>∃led:Bool,ob= .ref s.heap.objs.size/\st={s with heap:=s.heap.push {cls:= .type "set",dict:=none,data:= .set #[] 0 (.fresh 0 0 led)}}) λled=>⟨led,rfl,rfl⟩) λr1 VO hr1=>?_
 match r1,hr1 with
 | .error _,hr1=>exact hr1
 | .ok .next,hr1=>exact hr1.elim
 | .ok .brk,hr1=>exact hr1.elim
 | .ok .cont,hr1=>exact hr1.elim
 | .ok (.ret ob),hr1=>
  obtain⟨led,rfl,rfl⟩:=hr1
  have YK:(s.heap.push {cls:= .type "set",dict:=none,data:= .set #[] 0 (.fresh 0 0 led)}).get? s.heap.objs.size=some {cls:= .type "set",dict:=none,data:= .set #[] 0 (.fresh 0 0 led)}:=LY _ rfl
  have To:(s.heap.push {cls:= .type "set",dict:=none,data:= .set #[] 0 (.fresh 0 0 led)}).get? l=some o:=Ly _ ho
  have Xn:l≠s.heap.objs.size:=Ma (LI ho)
  generalize hP:s.heap.push {cls:= .type "set",dict:=none,data:= .set #[] 0 (.fresh 0 0 led)}=Um at YK To
  have c9:Shared.TypeIs {s with heap:=Um} (.ref s.heap.objs.size) "set":=⟨_,YK,rfl⟩
  have c10:=OM.init.lookup;have c11:=OM.init.bind (.ref s.heap.objs.size)
  repeat(any_goals first|assumption|wp_step)
  refine PZ (codeAny_call_builtin (R:=wants (λr st=>r= .none/\∃h2 ZZ,st={s with heap:=h2,toks:=ZZ}/\h2.SetOf (strKind prog w) s.heap.objs.size (λk=>decide (k∈dW ss)) (dW ss).length/\(∀b o,s.heap.get? b=some o->h2.get? b=some o)) E) OM.init.plain F.entry_set_init (check_set_init_1 c9 ?_)) λr2 G_ hr2=>?_
  .obtain⟨k1,k2,k3,k4⟩:=o
   dsimp only at hc N'
   subst hc N'
   have d1:=F.sub_list_set;have d2:=F.sub_list_frozenset;have d3:(Value.type "list"==Value.type "dict")=false:=by decide
   have UJ:Um.IsList l items.toArray:=⟨_,To,rfl,n,rfl⟩
   unfold Builtin.«set.__init__» noKeywords Builtin.Frozenset.updateFrom
   generalize hPI:pyIter=PI
   wp_walk
   subst hPI
   refine OO UJ (Lx (wpAny_runValue ?_))
   have hsz:s.heap.objs.size<Um.objs.size:=LI YK
   refine yL (l:=l) (items:=items) (A:=A.in1.in1) (by simpa using hh) (Ma hsz) (Ma (LI To)) Xn ss 0 _ [] _ ⟨_,LY _ rfl,rfl,rfl⟩ (UJ.push _) (by rw[NT];exact hp) ?_ (by simpa using(show ss.length<2000 by lia)) λh3 tk3 VR d3'=>?_
   .have hg:(Um.push {cls:= .type "list_iterator",data:= .fields #[.ref l,.int 0 0]}).get? s.heap.objs.size=some {cls:= .type "set",dict:=none,data:= .set #[] 0 (.fresh 0 0 led)}:=Ly _ YK
    exact SetOf_congr ((setObjOf_fresh (knd:=strKind prog w) led).setOf hg (by unfold scanBound;lia)) (λ_=>by simp) rfl
   .show wpAny _ _ _ _ _ _
    refine LK (show wpAny _ _ (ret Value.none) _ _ _ from LK ⟨rfl,h3,tk3,rfl,d3',λb ob e=>?_⟩)
    have e1:Um.get? b=some ob:=by rw[←hP];exact Ly _ e
    exact VR b ob (Ma (LI e)) (Ma (LI e1)) (Ly _ e1)
  .match r2,hr2 with
   | .error _,hr2=>exact hr2
   | .ok .next,hr2=>exact hr2.elim
   | .ok .brk,hr2=>exact hr2.elim
   | .ok .cont,hr2=>exact hr2.elim
   | .ok (.ret r),hr2=>
    obtain⟨rfl,h2,ZZ,rfl,Z',Tq⟩:=hr2
    repeat(any_goals first|assumption|wp_step)
    exact h _ _ Z' Tq
end
def cb (a:Addr)(n:Nat)(h:Heap):Prop:=∃o es ep t,h.get? a=some o/\o.ExactSet/\o.data= .set es ep t/\t.fits es.size=true/\es.size=n
def xi {P:Program}{w:World}{H:Hp}{h:Heap}{a:Addr}{n:Nat}(x:cb a n h):ObjOk P w H h a (.ext (cb a n)):=by grind [cb,ObjOk]
theorem pE:∀{ss:List Str} {us:List Value},Vals (ss.map V.str) us->StrsAre us ss
 |[],_,.nil=> .nil
 |x::r,_,.cons h t=> .cons h (pE t)
section
variable {X:Cx}
def DX (K:Za):List V->Hp->VK->Prop:=λxs H Q=>∃(p:Addr) (ss:List Str),xs=[.ref p]/\SqL K H p (ss.map V.str)/\ss.length<1000/\∀l,H l=none->Q (.ref l) (upd H l (.ext (cb l (dW ss).length)))
def xA (hc:X.calm=true):CallR X (.type "set") (DX X.K):=by
 intro pins s σ H xs us Q I r h;obtain⟨p,ss,rfl,hq,hz,q⟩:=h;obtain⟨u,rfl,ru⟩:=O7 r;cases ru;obtain⟨a_,rv,⟨o,n,e,c,hd,dt⟩,_⟩:=I.list hq;refine nU (I.ok.hd hc) e c dt hz (pE rv) λh' tk hS k=>?_;refine⟨.ref s.heap.objs.size,_,?_,rfl,q _ (I.hok.fresh (Lp _))⟩;obtain⟨o',es,ep,t,h1,h2,h3,_,_,_,h7,h8⟩:=hS;exact I.laid (a:=s.heap.objs.size) (t':=tk) k (Lp _) (xi ⟨o',es,ep,t,h1,h2,h3,h7,h8⟩)
def Dv (K:Za):List V->Hp->VK->Prop:=λxs H Q=>uq K xs H Q\/∃p n,xs=[V.ref p]/\H p=some (.ext (cb p n))/\n<=1000/\Q (.int n) H
def call_lenS:CallR X (.builtin "len") (Dv X.K):=by
 refine call_lenX.or ?_;intro pins s σ H xs us Q I r h;obtain⟨p,n,rfl,hp,hn,q⟩:=h;obtain⟨u,rfl,ru⟩:=O7 r;cases ru;obtain⟨o,es,ep,t,h1,h2,h3,h4,h5⟩:=(I.hok p _ hp).1;exact call_len_set h1 h2 h3 h4 (by lia) ⟨.int n,H,I.tok _,⟨_,by rw[h5]⟩,q⟩
def Gg (K:Za)(hc:X.calm=true)(h:X.K=K:=by rfl):CallR X (.type "set") (DX K):=h▸xA hc
end
open PySem.AutoSeq1 (wpAny_loadPart')
open PySem.MeetsSeq PySem.MeetsSeq2 PySem.MeetsSeq3
def jC:plainId "list.__eq__.loop"=true:=plain_eq_loop
section
variable {P:Program} {w:World}
def rQ (l m:Addr)(xs ys:Array Value)(n1 n2:Nat)(d1 d2:Option Addr)(s1 s2:Array (Option Value))(hz:xs.size=ys.size)(f:Nat->Bool)(md:Int)(hmd:md=2\/md=3):∀(k i:Nat),xs.size -i=k->
  MeetsIn P w (Builtin.«list.__eq__.loop» ⟨[.ref l,.ref m,rawInt i,rawInt md],[]⟩) (λA R s=>
   s.heap.get? l=some {cls:= .type "list",dict:=d1,data:= .seq xs n1,slots:=s1}/\s.heap.get? m=some {cls:= .type "list",dict:=d2,data:= .seq ys n2,slots:=s2}/\
   (∀j (g1:j<xs.size) (g2:j<ys.size),EqP P w A.in1 s xs[j] ys[j] (f j))/\
   R (.ok (.ret (.bool (if md=2 then((List.range xs.size).drop i).all f else !((List.range xs.size).drop i).all f)))) s):=by
 intro k
 induction k with
 |zero=>
  intro i hk
  intro A R s hyp
  obtain⟨hp,gg,dr,tk,os⟩:=s
  obtain⟨e1,e2,he,fin⟩:=hyp
  have x1:xs[((i:Nat):Int).toNat]?=none:=by simpa using Qe hk
  have x2:ys[((i:Nat):Int).toNat]?=none:=by simpa [←hz] using Qe hk
  have x3:(List.range xs.size).drop i=[]:=by simpa using Qe hk
  rw[x3] at fin
  rcases hmd with rfl|rfl
  .wp_walk using wpAny_loadPart' e1,wpAny_loadPart' e2
   rw[x1,x2]
   wp_walk using wpAny_loadPart' e1,wpAny_loadPart' e2
   show R (.ok (.ret (.bool (xs.size==ys.size)))) _
   rw[hz];simpa using fin
  .wp_walk using wpAny_loadPart' e1,wpAny_loadPart' e2
   rw[x1,x2]
   wp_walk using wpAny_loadPart' e1,wpAny_loadPart' e2
   show R (.ok (.ret (.bool (xs.size !=ys.size)))) _
   rw[hz];simpa using fin
 |succ k ih=>
  intro i hk
  intro A R s hyp
  have ih:=ih (i+1) (by rw[Nat.sub_add_eq,hk];rfl)
  obtain⟨hp,gg,dr,tk,os⟩:=s
  obtain⟨e1,e2,he,fin⟩:=hyp
  have l1:i<xs.size:=SK.mp (hk▸TN k)
  have l2:i<ys.size:=hz▸l1
  have x1:xs[((i:Nat):Int).toNat]?=some xs[i]:=by simp [l1]
  have x2:ys[((i:Nat):Int).toNat]?=some ys[i]:=by simp [l2]
  have x3:(List.range xs.size).drop i=i::(List.range xs.size).drop (i+1):=by simp [Mj,l1]
  have x4:((i:Int)+1)=((i+1:Nat):Int):=by push_cast;rfl
  rw[x3,Ou] at fin
  rcases hmd with rfl|rfl
  .wp_walk using wpAny_loadPart' e1,wpAny_loadPart' e2
   rw[x1,x2]
   refine Lx (he i l1 l2 _ _ ?_)
   cases hf:f i with
   |true=>
    rw[hf] at fin
    wp_walk
    rw[x4]
    refine⟨NZ jC _,Nn Pp ?_⟩
    rw[MU jC _]
    exact ih A R _ ⟨e1,e2,he,by simpa using fin⟩
   |false=>
    rw[hf] at fin
    wp_walk using wpAny_loadPart' e1,wpAny_loadPart' e2
    rw[x1,x2]
    wp_walk
    simpa using fin
  .wp_walk using wpAny_loadPart' e1,wpAny_loadPart' e2
   rw[x1,x2]
   refine Lx (he i l1 l2 _ _ ?_)
   cases hf:f i with
   |true=>
    rw[hf] at fin
    wp_walk
    rw[x4]
    refine⟨NZ jC _,Nn Pp ?_⟩
    rw[MU jC _]
    exact ih A R _ ⟨e1,e2,he,by simpa using fin⟩
   |false=>
    rw[hf] at fin
    wp_walk using wpAny_loadPart' e1,wpAny_loadPart' e2
    rw[x1,x2]
    wp_walk
    simpa using fin
def Fw (l m:Addr)(xs ys:Array Value)(n1 n2:Nat)(d1 d2:Option Addr)(s1 s2:Array (Option Value))(hz:xs.size=ys.size)(f:Nat->Bool):
  MeetsIn P w (Builtin.«list.__eq__» ⟨[.ref l,.ref m],[]⟩) (λA R s=>
   s.heap.get? l=some {cls:= .type "list",dict:=d1,data:= .seq xs n1,slots:=s1}/\s.heap.get? m=some {cls:= .type "list",dict:=d2,data:= .seq ys n2,slots:=s2}/\
   (∀j (g1:j<xs.size) (g2:j<ys.size),EqP P w A.in1 s xs[j] ys[j] (f j))/\R (.ok (.ret (.bool ((List.range xs.size).all f)))) s):=by
 intro A R s hyp
 obtain⟨hp,gg,dr,tk,os⟩:=s
 obtain⟨e1,e2,he,fin⟩:=hyp
 have q1:=PB;have q2:¬(xs.size !=ys.size)=true:=by simp [hz]
 wp_walk using wpAny_loadPart' e1,wpAny_loadPart' e2
 refine⟨NZ jC _,Nn Pp ?_⟩
 rw[MU jC _]
 exact rQ l m xs ys n1 n2 d1 d2 s1 s2 hz f 2 (.inl rfl) _ 0 rfl A R _ ⟨e1,e2,he,by simpa using fin⟩
def FC (l m:Addr)(xs ys:Array Value)(n1 n2:Nat)(d1 d2:Option Addr)(s1 s2:Array (Option Value))(hz:xs.size=ys.size)(f:Nat->Bool):
  MeetsIn P w (Builtin.«list.__ne__» ⟨[.ref l,.ref m],[]⟩) (λA R s=>
   s.heap.get? l=some {cls:= .type "list",dict:=d1,data:= .seq xs n1,slots:=s1}/\s.heap.get? m=some {cls:= .type "list",dict:=d2,data:= .seq ys n2,slots:=s2}/\
   (∀j (g1:j<xs.size) (g2:j<ys.size),EqP P w A.in1 s xs[j] ys[j] (f j))/\R (.ok (.ret (.bool (!(List.range xs.size).all f)))) s):=by
 intro A R s hyp
 obtain⟨hp,gg,dr,tk,os⟩:=s
 obtain⟨e1,e2,he,fin⟩:=hyp
 have q1:=PB;have q2:¬(xs.size !=ys.size)=true:=by simp [hz]
 wp_walk using wpAny_loadPart' e1,wpAny_loadPart' e2
 refine⟨NZ jC _,Nn Pp ?_⟩
 rw[MU jC _]
 exact rQ l m xs ys n1 n2 d1 d2 s1 s2 hz f 3 (.inr rfl) _ 0 rfl A R _ ⟨e1,e2,he,by simpa using fin⟩
def RcP.lst {A:Around}{s:Shared}{l m:Addr}{xs ys:Array Value}{f:Nat->Bool}(hl:s.heap.IsList l xs)(hm:s.heap.IsList m ys)(hz:xs.size=ys.size)(hu:A.units<cLine)
  (he:∀j (g1:j<xs.size) (g2:j<ys.size),EqP P w A.in1 s xs[j] ys[j] (f j)):RcP P w A s (.ref l) (.ref m) ((List.range xs.size).all f):=λE Q q=>by
 obtain⟨⟨c1,d1,a1,s1⟩,o1,k1,n1,t1⟩:=id hl
 obtain⟨⟨c2,d2,a2,s2⟩,o2,k2,n2,t2⟩:=id hm
 simp only at k1 t1 k2 t2
 subst k1 t1 k2 t2
 refine NC (op:= .Eq) ⟨_,o1,rfl⟩ ⟨_,o2,rfl⟩ RX (NO RX ⟨_,o1,rfl⟩ PySem.F.entry_list_eq (PySem.F.args_list_eq_2 _ _) (Fw l m xs ys n1 n2 d1 d2 s1 s2 hz f) ⟨o1,o2,he,?_⟩) hu
 exact⟨(λz=>nomatch z),q⟩
def NcP.lst {A:Around}{s:Shared}{l m:Addr}{xs ys:Array Value}{f:Nat->Bool}(hl:s.heap.IsList l xs)(hm:s.heap.IsList m ys)(hz:xs.size=ys.size)(hu:A.units<cLine)
  (he:∀j (g1:j<xs.size) (g2:j<ys.size),EqP P w A.in1 s xs[j] ys[j] (f j)):NcP P w A s (.ref l) (.ref m) (!(List.range xs.size).all f):=λE Q q=>by
 obtain⟨⟨c1,d1,a1,s1⟩,o1,k1,n1,t1⟩:=id hl
 obtain⟨⟨c2,d2,a2,s2⟩,o2,k2,n2,t2⟩:=id hm
 simp only at k1 t1 k2 t2
 subst k1 t1 k2 t2
 refine NC (op:= .NotEq) ⟨_,o1,rfl⟩ ⟨_,o2,rfl⟩ RY (NO RY ⟨_,o1,rfl⟩ PySem.F.entry_list_ne (PySem.F.args_list_ne_2 _ _) (FC l m xs ys n1 n2 d1 d2 s1 s2 hz f) ⟨o1,o2,he,?_⟩) hu
 exact⟨(λz=>nomatch z),q⟩
end
def EqN (K:Za)(H:Hp):Nat->V->V->Bool->Prop
 |0,x,y,b=>Eq1 K H x y b\/∃a c,x= .ref a/\y= .ref c/\EqD K H a c b
 |n+1,x,y,b=>EqN K H n x y b\/∃(a c:Addr) (xs ys:List V) (bs:List Bool),x= .ref a/\y= .ref c/\a≠c/\((SqT K H a xs/\SqT K H c ys)\/(SqL K H a xs/\SqL K H c ys))/\xs.length=ys.length/\bs.length=xs.length/\
   (∀(j:Nat) (x' y':V) (b':Bool),xs[j]?=some x'->ys[j]?=some y'->bs[j]?=some b'->EqN K H n x' y' b')/\b=bs.all id
theorem I0:∀(bs:List Bool),(List.range bs.length).all (λj=>bs.getD j true)=bs.all id
 |[]=>rfl
 |b::r=>by
  rw[Mv,Pz,Ou,Nc];show(b&&(List.range r.length).all λj=>r.getD j true)=(b&&r.all id);rw[I0 r]
section
variable {X:Cx} {pins:List (Addr×Obj)} {σ:St} {H:Hp} {s:Shared}
def iJ {n:Nat}{xs ys:List V}{bs:List Bool}{us vs:List Value}{A:Around}(r1:Vals xs us)(r2:Vals ys vs)(hl:xs.length=ys.length)(hb:bs.length=xs.length)
  (he:∀(j:Nat) (x' y':V) (b':Bool),xs[j]?=some x'->ys[j]?=some y'->bs[j]?=some b'->EqN X.K H n x' y' b')
  (at_:∀{x y:V} {u v:Value} {b:Bool},EqN X.K H n x y b->RelV x u->RelV y v->EqP X.prog X.w A.in1 s u v b):
  ∀j (g1:j<us.toArray.size) (g2:j<vs.toArray.size),EqP X.prog X.w A.in1 s us.toArray[j] vs.toArray[j] (bs.getD j true):=λj g1 g2=>by
 have l1:=r1.length
 have l2:=r2.length
 have Uj:j<us.length:=by simpa using g1
 have Uk:j<vs.length:=by simpa using g2
 have x1:xs[j]?=some (xs[j]'(by lia)):=Lm _
 have y1:ys[j]?=some (ys[j]'(by lia)):=Lm _
 have b1:bs[j]?=some (bs[j]'(by lia)):=Lm _
 obtain⟨u1,Rw,UU⟩:=r1.get x1
 obtain⟨u2,Sq,UW⟩:=r2.get y1
 have e1:us.toArray[j]=u1:=by
  have:=Lm Uj;rw[Rw] at this;simpa using(LO this).symm
 have e2:vs.toArray[j]=u2:=by
  have:=Lm Uk;rw[Sq] at this;simpa using(LO this).symm
 rw[e1,e2,Mx,b1]
 exact at_ (he j _ _ _ x1 y1 b1) UU UW
def EqN.at_ (I:Inv X pins σ H s):∀{n:Nat} {A:Around} {x y:V} {u v:Value} {b:Bool},EqN X.K H n x y b->RelV x u->RelV y v->A.units+32+n<cLine->EqP X.prog X.w A s u v b:=by
 intro n;induction n with
 |zero=>
  intro A x y u v b h rx ry hu
  rcases h with h|⟨a,c,rfl,rfl,h⟩
  .exact .of (h.at_ I rx ry (by lia))
  .cases rx
   cases ry
   exact h.at_ I (by lia)
 |succ n ih=>
  intro A x y u v b h rx ry hu
  rcases h with h|⟨a,c,xs,ys,bs,rfl,rfl,v_,hh,hl,hb,he,rfl⟩
  .exact ih h rx ry (by lia)
  .cases rx
   cases ry
   have j_:A.in1.units=A.units+1:=rfl
   rcases hh with⟨h1,h2⟩|⟨h1,h2⟩
   .obtain⟨us,r1,p1,z1⟩:=I.tuple h1
    obtain⟨vs,r2,p2,z2⟩:=I.tuple h2
    have l1:=r1.length
    have l2:=r2.length
    have q:=RcP.tup (P:=X.prog) (w:=X.w) (A:=A) (f:=λj=>bs.getD j true) (show s.heap.IsTuple a us.toArray from p1) (show s.heap.IsTuple c vs.toArray from p2) (by lia) (iJ r1 r2 hl hb he λz q1 q2=>ih z q1 q2 (by lia))
    have e3:min us.toArray.size vs.toArray.size=bs.length:=by simp;lia
    have e4:(us.toArray.size==vs.toArray.size)=true:=by simp;lia
    rw[e3,e4,I0,Ox] at q
    exact .refs v_ q
   .obtain⟨us,r1,p1,z1⟩:=I.list h1
    obtain⟨vs,r2,p2,z2⟩:=I.list h2
    have l1:=r1.length
    have l2:=r2.length
    have q:=RcP.lst (P:=X.prog) (w:=X.w) (A:=A) (f:=λj=>bs.getD j true) p1.isList p2.isList (by simp;lia) (by lia) (iJ r1 r2 hl hb he λz q1 q2=>ih z q1 q2 (by lia))
    have e3:us.toArray.size=bs.length:=by simp;lia
    rw[e3,I0] at q
    exact .refs v_ q
end
def IZ (K:Za)(H:Hp)(x y:V)(bs:List Bool):Prop:=∃(a c:Addr) (xs ys:List V),x= .ref a/\y= .ref c/\((SqT K H a xs/\SqT K H c ys)\/(SqL K H a xs/\SqL K H c ys))/\xs.length=ys.length/\bs.length=xs.length/\
 ∀(j:Nat) (x' y':V) (b':Bool),xs[j]?=some x'->ys[j]?=some y'->bs[j]?=some b'->EqN K H 8 x' y' b'
section
variable {X:Cx}
def IF (K:Za):R2:=λx y H Q=>∃bs,IZ K H x y bs/\Q (.bl (bs.all id)) H
def Ie (K:Za):R2:=λx y H Q=>∃bs,IZ K H x y bs/\Q (.bl (!bs.all id)) H
def EK (hu:X.A.units+64<cLine):OpR X (compareOp .Eq) (IF X.K):=by
 intro pins s σ H x y v u Q I rx ry h;obtain⟨bs,⟨a,c,xs,ys,rfl,rfl,hh,hl,hb,he⟩,k⟩:=h;cases rx;cases ry;have j_:X.A.in1.units=X.A.units+1:=rfl;rcases hh with⟨h1,h2⟩|⟨h1,h2⟩
 .obtain⟨us,r1,p1,z1⟩:=I.tuple h1;obtain⟨vs,r2,p2,z2⟩:=I.tuple h2;have l1:=r1.length;have l2:=r2.length;have q:=RcP.tup (P:=X.prog) (w:=X.w) (A:=X.A) (f:=λj=>bs.getD j true) (show s.heap.IsTuple a us.toArray from p1) (show s.heap.IsTuple c vs.toArray from p2) (by lia) (iJ r1 r2 hl hb he λz q1 q2=>EqN.at_ I z q1 q2 (by lia));have e3:min us.toArray.size vs.toArray.size=bs.length:=by simp;lia
  have e4:(us.toArray.size==vs.toArray.size)=true:=by simp;lia
  rw[e3,e4,I0,Ox] at q;exact q _ _ ⟨.bl _,H,I,rfl,k⟩
 .obtain⟨us,r1,p1,z1⟩:=I.list h1;obtain⟨vs,r2,p2,z2⟩:=I.list h2;have l1:=r1.length;have l2:=r2.length;have q:=RcP.lst (P:=X.prog) (w:=X.w) (A:=X.A) (f:=λj=>bs.getD j true) p1.isList p2.isList (by simp;lia) (by lia) (iJ r1 r2 hl hb he λz q1 q2=>EqN.at_ I z q1 q2 (by lia));have e3:us.toArray.size=bs.length:=by simp;lia
  rw[e3,I0] at q;exact q _ _ ⟨.bl _,H,I,rfl,k⟩
def Gd (hu:X.A.units+64<cLine):OpR X (compareOp .NotEq) (Ie X.K):=by
 intro pins s σ H x y v u Q I rx ry h;obtain⟨bs,⟨a,c,xs,ys,rfl,rfl,hh,hl,hb,he⟩,k⟩:=h;cases rx;cases ry;have j_:X.A.in1.units=X.A.units+1:=rfl;rcases hh with⟨h1,h2⟩|⟨h1,h2⟩
 .obtain⟨us,r1,p1,z1⟩:=I.tuple h1;obtain⟨vs,r2,p2,z2⟩:=I.tuple h2;have l1:=r1.length;have l2:=r2.length;have q:=NcP.tup (P:=X.prog) (w:=X.w) (A:=X.A) (f:=λj=>bs.getD j true) (show s.heap.IsTuple a us.toArray from p1) (show s.heap.IsTuple c vs.toArray from p2) (by lia) (iJ r1 r2 hl hb he λz q1 q2=>EqN.at_ I z q1 q2 (by lia));have e3:min us.toArray.size vs.toArray.size=bs.length:=by simp;lia
  have e4:(us.toArray.size==vs.toArray.size)=true:=by simp;lia
  rw[e3,e4,I0,Ox] at q;exact q _ _ ⟨.bl _,H,I,rfl,k⟩
 .obtain⟨us,r1,p1,z1⟩:=I.list h1;obtain⟨vs,r2,p2,z2⟩:=I.list h2;have l1:=r1.length;have l2:=r2.length;have q:=NcP.lst (P:=X.prog) (w:=X.w) (A:=X.A) (f:=λj=>bs.getD j true) p1.isList p2.isList (by simp;lia) (by lia) (iJ r1 r2 hl hb he λz q1 q2=>EqN.at_ I z q1 q2 (by lia));have e3:us.toArray.size=bs.length:=by simp;lia
  rw[e3,I0] at q;exact q _ _ ⟨.bl _,H,I,rfl,k⟩
def DS (K:Za):R2:=λx y H Q=>Fn K x y H Q\/Ie K x y H Q
def jg (K:Za){k:Nat}(hr:Room k X.A)(h:X.K=K:=by rfl):OpR X (compareOp .NotEq) (DS K):=(JM K hr h).or (h▸Gd hr.units)
def gB (K:Za):R2:=λx y H Q=>ES K x y H Q\/IF K x y H Q
def X8 (K:Za){k:Nat}(hr:Room k X.A)(h:X.K=K:=by rfl):OpR X (compareOp .Eq) (gB K):=(Kf K hr h).or (h▸EK hr.units)
end
def jF (v d:Addr)(h:Heap):Prop:=h.IsValuesView v d
def CG {P:Program}{w:World}{H:Hp}{h:Heap}{v d:Addr}(x:jF v d h):ObjOk P w H h v (.ext (jF v d)):=by
 obtain⟨o,e,r⟩:=x;exact⟨⟨o,e,r⟩,⟨o,e⟩,λh1 h2 ⟨o',e',r'⟩ k=>⟨o',k _ e',r'⟩⟩
section
variable {X:Cx}
def BP:V->List V->Hp->VK->Prop:=λx vs H Q=>∃d kvs,x= .ref d/\vs=[]/\Rd H d (.dK kvs)/\∀v,H v=none->Q (.ref v) (upd H v (.ext (jF v d)))
def N9:Cw X "dict.values" BP:=by
 intro pins s σ H x vs v us Q I rx rv h;obtain⟨d,kvs,rfl,rfl,hd,q⟩:=h;cases rx;have Sw:=rv.zero;subst Sw;obtain⟨z,hs,ws,rel,dd⟩:=W0 I.hok hd;refine NO NP dd.typeIs PySem.F.entry_dict_values (PySem.F.args_dict_values_1 _) (meets_dict_values (q8 X.prog X.w) d hs) ⟨⟨ws,dd⟩,?_⟩;refine⟨.ref s.heap.objs.size,_,?_,rfl,q _ (I.hok.fresh (Lp _))⟩;exact I.laid (a:=s.heap.objs.size) (t':=s.toks) (λb u e=>Ly _ e) (Lp _) (CG ⟨_,LY _ rfl,rfl,rfl⟩)
def qW (K:Za):List V->Hp->VK->Prop:=λxs H Q=>vQ K xs H Q\/∃(v d:Addr) (kvs:List (i6×V)),xs=[.ref v]/\H v=some (.ext (jF v d))/\Rd H d (.dK kvs)/\∀l,H l=none->Q (.ref l) (upd H l (.lst (kvs.map (·.2))))
def ux (hc:X.calm=true):CallR X (.type "list") (qW X.K):=by
 refine(ud hc).or ?_;intro pins s σ H xs us Q I r h;obtain⟨v,d,kvs,rfl,hv,hx,q⟩:=h;obtain⟨u,rfl,ru⟩:=O7 r;cases ru;have Z_:jF v d s.heap:=(I.hok v _ hv).1;obtain⟨hd,o,vs,ep,ho,D⟩:=dO I.hok hx;have Xu:=KV.length D.kv;have hz:kvs.length<=sizeLine:=(W0 I.hok hx).1;refine PySem.W.kdl_call (SM (knd:=q8 X.prog X.w) (kvs:=vs) (ep:=ep)) (I.ok.hd hc) ⟨Z_,D.at_ _ ho⟩ (by lia) λh' tk acc c hkp hS s_=>?_;refine⟨.ref s.heap.objs.size,_,I.newL (tk:=tk) hkp (Lp _) hS (V9 (by have:=s_.1;simp;lia) λi x u e1 e2=>?_) (by rw[Ll];exact hz),rfl,q _ (I.hok.fresh (Lp _))⟩;obtain⟨k,hy⟩:=s_.2 i u (by rw[←Mb];exact e2);rw[Lo] at e1;obtain⟨kv,e4,rfl⟩:=My.mp e1;obtain⟨q1,VS,q2,q3⟩:=A9 (show Paired _ kvs vs from D.kv) e4;rw[hy] at VS;cases VS;exact q3
def qJ (K:Za)(hc:X.calm=true)(h:X.K=K:=by rfl):CallR X (.type "list") (qW K):=h▸ux hc
end
section
variable {K:Za} {H:Hp} {Q:VK}
def FE {xs:List V}(h:vQ K xs H Q):qW K xs H Q:= .inl h
def cZ {v d:Addr}{kvs:List (i6×V)}(hv:H v=some (.ext (jF v d)))(hd:Rd H d (.dK kvs))(q:∀l,H l=none->Q (.ref l) (upd H l (.lst (kvs.map (·.2))))):qW K [.ref v] H Q:= .inr ⟨v,d,kvs,rfl,hv,hd,q⟩
end
section
variable {prog:Program} {w:World} {A:Around} {E:Value->Shared->Prop}
end
section
variable {X:Cx}
end
section
variable {prog:Program} {w:World} {A:Around} {E:Value->Shared->Prop} {s:Shared}
def xy {Q:Int->Shared->Prop}(h:Q 0xFCA86420 {s with toks:=s.toks+1}):wpAny (model prog w) A (pyHash .none) Q E s:=by
 have hT:s.TypeIs Value.none "NoneType":=rfl;unfold pyHash pyHashByItsType;refine Lx ?_;rw[cRoomFor,if_neg (show ¬([Value.none].any Value.onHeap)=true by decide)];refine LK (Lx (wpAny_specialOf hT NW.lookup ?_));refine(show wpAny _ _ (if(some (Value.builtin "NoneType.__hash__")==some Value.none)=true then _ else _) Q E s from ?_);rw[if_neg (by decide)];refine Lx (wpAny_specialOf hT NW.lookup ?_);refine(show wpAny _ _ (callSpecialIfBoundUnlessNone? Value.none "__hash__" _>>=_) Q E s from ?_);refine Lx (wpAny_callSpecialIfBoundUnlessNone?_slot hT NW (Qf NW hT PySem.F.entry_NoneType_hash (show wpAny _ _ (do ret (←mkInt 0xFCA86420)) _ _ s from wpAny_ret_mkInt ?_) (PySem.F.args_NoneType_hash_1 _)));refine(show wpAny _ _ (if(decide (-(2:Int) ^ 63<=0xFCA86420)&&decide ((0xFCA86420:Int)<2 ^ 63))=true then _ else _) Q E _ from ?_);rw[if_pos (by decide)];exact LK h
end
abbrev nO:=Option i6
def Kl:nO->Value->Bool
 |none,.none=>true
 |none,_=>false
 |some k,v=>ef k v
theorem S0:∀{k:nO} {v:Value},Kl k v=true->(k=none/\v=Value.none)\/(∃i t,k=some (Sum.inl i)/\v=Value.int i t)\/(∃x t,k=some (Sum.inr x)/\v=Value.str x t)
 |none,v,h=>by cases v<;>first|exact .inl ⟨rfl,rfl⟩|cases h
 |some k,v,h=>by
  rcases C3 (show ef k v=true from h) with⟨i,t,rfl,rfl⟩|⟨x,t,rfl,rfl⟩
  .exact .inr (.inl ⟨i,t,rfl,rfl⟩)
  .exact .inr (.inr ⟨x,t,rfl,rfl⟩)
def II (w:World):nO->Int
 |none=>0xFCA86420
 |some k=>IK w k
def fO (prog:Program)(w:World):PySem.KeyKind prog w nO where
 is:=Kl
 hash:=II w
 inj:=λv a b ha hb=>by
  rcases S0 ha with⟨rfl,rfl⟩|⟨i,t,rfl,rfl⟩|⟨x,t,rfl,rfl⟩<;>rcases S0 hb with⟨rfl,e⟩|⟨j,u,rfl,e⟩|⟨y,u,rfl,e⟩<;>first|rfl|(cases e<;>rfl)
 byValue:=λk v h=>by
  rcases S0 h with⟨rfl,rfl⟩|⟨i,t,rfl,rfl⟩|⟨x,t,rfl,rfl⟩<;>rfl
 pyHash:=λhv h=>by
  rcases S0 hv with⟨rfl,rfl⟩|⟨i,t,rfl,rfl⟩|⟨x,t,rfl,rfl⟩
  .exact xy h
  .exact wpAny_pyHash_int h
  .exact wpAny_pyHash_str h
 eqBool:=fun{A E s a b u v Q} hu hv h=>by
  have dk:∀{k k':i6},decide ((some k:nO)=some k')=decide (k=k'):=fun{k k'}=>by
   by_cases e:k=k'
   .subst e;simp
   .rw[LL e,LL λz=>e (LO z)]
  rcases S0 hu with⟨rfl,rfl⟩|⟨i,t,rfl,rfl⟩|⟨x,t,rfl,rfl⟩<;>rcases S0 hv with⟨rfl,rfl⟩|⟨j,t',rfl,rfl⟩|⟨y,t',rfl,rfl⟩
  .exact Qm _ _ _ _ _ (by simpa using h)
  .exact SeqAt.EqAt.none_int j t' _ _ _ _ (by simpa using h)
  .exact SeqAt.EqAt.none_str y t' _ _ _ _ (by simpa using h)
  .exact SeqAt.EqAt.int_none i t _ _ _ _ (by simpa using h)
  .rw[dk,zO] at h;exact wpAny_eqBool_int h
  .rw[dk,Bo] at h;exact QD i t y t' _ _ _ _ h
  .exact SeqAt.EqAt.str_none x t _ _ _ _ (by simpa using h)
  .rw[dk,Bp] at h;exact QF x t j t' _ _ _ _ h
  .rw[dk,yl] at h;exact wpAny_eqBool_str h
 «strs»:=λk x t v h=>by
  rcases S0 h with⟨rfl,e⟩|⟨i,u,rfl,e⟩|⟨y,u,rfl,e⟩
  .exact nomatch e
  .exact nomatch e
  .injection e with e1 _
   subst e1;cases v<;>rfl
def bR (P:Program)(w:World)(a:Addr)(n:Nat)(h:Heap):Prop:=(a==sysModules)=false/\∃vs,h.DictOf (fO P w) a vs/\vs.length=n
def uy {P P':Program}{w w':World}{H:Hp}{h:Heap}{a:Addr}{n:Nat}(x:bR P w a n h):ObjOk P' w' H h a (.ext (bR P w a n)):=by
 obtain⟨hs,vs,⟨o,es,ep,e,r⟩,hl⟩:=x;exact⟨⟨hs,vs,⟨o,es,ep,e,r⟩,hl⟩,⟨o,e⟩,λh1 h2 ⟨hs',vs',⟨o',Ua,Xa,e',r'⟩,RE⟩ k=>⟨hs',vs',⟨o',Ua,Xa,k _ e',r'⟩,RE⟩⟩
theorem kZ {P:Program}{w:World}:∀{es:List DictEntry} {vs:List (i6×Value)},Pairs (q8 P w) es vs->Pairs (fO P w) es (vs.map λx=>(some x.1,x.2))
 |_,_,.nil=> .nil
 |_,_,.cons h e t=> .cons h e (kZ t)
def Cg {P:Program}{w:World}{h:Heap}{a:Addr}{vs:List (i6×Value)}(dd:h.DictOf (q8 P w) a vs):h.DictOf (fO P w) a (vs.map λx=>(some x.1,x.2)):=by
 obtain⟨o,es,ep,h1,h2,h3,h4,h5,h6⟩:=dd;refine⟨o,es,ep,h1,h2,h3,λe he=>?_,kZ h5,?_⟩
 .obtain⟨k,q1,q2⟩:=h4 e he;exact⟨some k,q1,q2⟩
 .rw[LH];have e:((λx:nO×Value=>x.1)∘λx:i6×Value=>((some x.1:nO),x.2))=(λk:i6=>(some k:nO))∘λx:i6×Value=>x.1:=rfl;rw[e,←LH];exact PH _ (λa b h z=>h (LO z)) h6
def tY {vs:List (i6×Value)}{v:Value}:stored (vs.map λx=>((some x.1:nO),x.2)) none v=(vs.map λx=>((some x.1:nO),x.2))++[(none,v)]:=by
 unfold stored;rw[if_neg];intro z;obtain⟨x,hx,e⟩:=Nr.mp z;obtain⟨y,_,rfl⟩:=Ln.mp hx;cases Nv e
section
variable {X:Cx}
def zY (P:Program)(w:World):uL:=λo i v H Q=>vE o i v H Q\/∃a kvs,o= .ref a/\i= .non/\H a=some (.dK kvs)/\kvs.length<1000/\Q (upd H a (.ext (bR P w a (kvs.length+1))))
def Ap (hu:X.A.units+1<cLine):xg X (zY X.prog X.w):=by
 intro pins s σ H o i v ov iv u Q I ro ri rv h;rcases h with h|⟨a,kvs,rfl,rfl,hA,hl,q⟩
 .exact BO hu pins s σ H o i v ov iv u Q I ro ri rv h
 .cases ro;cases ri;obtain⟨z,hd,vs,rel,dd⟩:=Af I.hok hA;have Xu:=rel.length;refine wpAny_setItem_pairs (knd:=fO X.prog X.w) (k:=none) (hsz:=by rw[Ll];lia) rfl (Cg dd) λh' dd' hs=>?_;rw[tY] at dd';have he:∃q,h'.get? a=some q:=let ⟨q,_,_,hq,_⟩:=dd';⟨q,hq⟩
  exact⟨_,jM I (by rw[hA];exact True.intro) hs he (uy ⟨hd,_,dd',by rw[LB,Ll,Xu];rfl⟩),q⟩
def pB (K:Za)(P:Program)(w:World):List V->Hp->VK->Prop:=λxs H Q=>Dv K xs H Q\/∃p n,xs=[V.ref p]/\H p=some (.ext (bR P w p n))/\n<=1000/\Q (.int n) H
def xm:CallR X (.builtin "len") (pB X.K X.prog X.w):=by
 refine call_lenS.or ?_;intro pins s σ H xs us Q I r h;obtain⟨p,n,rfl,hp,hn,q⟩:=h;obtain⟨u,rfl,ru⟩:=O7 r;cases ru;obtain⟨hs,vs,dd,hl⟩:=(I.hok p _ hp).1;refine call_len_dict hs dd (by lia) ?_;rw[hl];exact⟨.int n,H,I.tok _,⟨_,rfl⟩,q⟩
def IV (K:Za)(h:X.K=K:=by rfl):CallR X (.builtin "len") (pB K X.prog X.w):=h▸xm
def wa (K:Za)(P:Program)(w:World):List V->Hp->VK->Prop:=λxs H Q=>CQ K xs H Q\/∃p n T,xs=[V.ref p,.ty T]/\H p=some (.ext (bR P w p n))/\(T="str"\/T="int"\/T="bool"\/T="list"\/T="tuple"\/T="dict")/\Q (.bl (cg "dict" T)) H
def wU:CallR X (.builtin "isinstance") (wa X.K X.prog X.w):=by
 refine call_isi.or ?_;intro pins s σ H xs us Q I r h;obtain⟨p,n,T,rfl,hp,hT,q⟩:=h;obtain⟨u,c,rfl,rx,rc⟩:=kW r;cases rx;cases rc;obtain⟨hs,vs,⟨o,es,ep,h1,h2,r⟩,hl⟩:=(I.hok p _ hp).1;exact NU Tf I.kIn ⟨o,h1,h2.1⟩ (ax (by simp) hT) (λz=>nomatch z) λtk=>⟨.bl _,H,I.tok tk,rfl,q⟩
def HX (K:Za)(h:X.K=K:=by rfl):CallR X (.builtin "isinstance") (wa K X.prog X.w):=h▸wU
end
section
variable {K:Za} {P:Program} {w:World} {H:Hp} {Q:VK}
def E8 {xs:List V}(h:uq K xs H Q):pB K P w xs H Q:= .inl (.inl h)
def iu {p:Addr}{n:Nat}(h:H p=some (.ext (cb p n)))(hn:n<=1000)(q:Q (.int n) H):pB K P w [.ref p] H Q:= .inl (.inr ⟨p,n,rfl,h,hn,q⟩)
def zN {p:Addr}{n:Nat}(h:H p=some (.ext (bR P w p n)))(hn:n<=1000)(q:Q (.int n) H):pB K P w [.ref p] H Q:= .inr ⟨p,n,rfl,h,hn,q⟩
def cu {xs:List V}(h:CQ K xs H Q):wa K P w xs H Q:= .inl h
def ae {o i v:V}{Qh:Hp->Prop}(h:vE o i v H Qh):zY P w o i v H Qh:= .inl h
def qv {x y:V}(h:qc K x y H Q):gB K x y H Q:= .inl (JF h)
def yK {i j:Int}(q:Q (.bl (decide (i=j))) H):gB K (.int i) (.int j) H Q:=qv (Bh q)
def gG {i j:Str}(q:Q (.bl (decide (i=j))) H):gB K (.str i) (.str j) H Q:=qv (zM q)
def zi {i j:Int}(q:Q (.bl (!decide (i=j))) H):DS K (.int i) (.int j) H Q:= .inl (zg q)
end
def jw {X:Cx}(K:Za)(P:Program)(w:World)(h:X.K=K:=by rfl)(hp:X.prog=P:=by rfl)(hw:X.w=w:=by rfl):CallR X (.builtin "isinstance") (wa K P w):=by subst hp hw;exact HX K h
def G6 {X:Cx}(K:Za)(P:Program)(w:World)(h:X.K=K:=by rfl)(hp:X.prog=P:=by rfl)(hw:X.w=w:=by rfl):CallR X (.builtin "len") (pB K P w):=by subst hp hw;exact IV K h
def F0 {X:Cx}(P:Program)(w:World)(hu:X.A.units+1<cLine)(hp:X.prog=P:=by rfl)(hw:X.w=w:=by rfl):xg X (zY P w):=by subst hp hw;exact Ap hu
section
variable {X:Cx} {a b:Expr} {ta:TA} {x y:Str} {pos:Pos}
end
section
variable {σ:St} {H:Hp} {nx:St->Hp->Prop} {rt:VK} {bk ct:St->Hp->Prop} {ta:TA}
end
section
variable {P:Program} {w:World}
def wR {K:Za}{tg:Expr}{d:Addr}{o:Obj}{kvs:List (i6×V)}{vs:List (i6×Value)}{ep:Nat}(D:zV P w d o kvs vs ep)(it:Addr):
  jD P w K tg (Jn d o kvs λkv=>kv.2) [it] it (λi h=>h.IsValIter it d i vs.length ep) where
 mem:=by simp
 obj:=λi h st b hb=>by
  have e:b=it:=by simpa using hb
  subst e;obtain⟨o,e,c,dd⟩:=st;exact⟨o,e,λv z=>by rw[dd] at z;cases z⟩
 keep:=λi h h' st k=>let ⟨o,e,r⟩:=st;⟨o,k it (by simp) o e,r⟩
 item:=by
  intro X hP hw hK hc i pins s σ H E I hf st hg;subst hP hw hK;obtain⟨Ug,hi⟩:=hg;obtain⟨f0,f1,f2,f3,f4,f5⟩:=hf it (by simp);have dat:=D.at_ s.heap (I.hok d _ Ug).1;have hl:=KV.length D.kv;obtain⟨kv,f_⟩:∃kv,kvs[i]?=some kv:=⟨kvs[i],by simp [hi]⟩
  obtain⟨⟨k,x⟩,hx⟩:∃p,vs[i]?=some p:=⟨vs[i]'(by lia),by simp [show i<vs.length by lia]⟩
  obtain⟨YJ,rx⟩:kv.1=k/\RelV kv.2 x:=by
   have q:=A9 D.kv f_;obtain⟨p,hp,r⟩:=q;rw[hx] at hp;cases hp;exact r
  refine wpAny_pyNext_values_item st dat hx λh' e_ hs'=>?_;have I1:Inv X pins σ H {s with heap:=h'}:=I.turned (t':=s.toks) (λb o hb e=>hs'.extBut b o hb e) f0 f1 f3 f4 f5;obtain⟨oo,e,c,dd⟩:=id e_;exact⟨x,rfl,wq (s:={s with heap:=h'}) e c dd (by decide) ⟨kv.2,H,I1,rx,⟨rfl,kv,f_,rfl⟩,e_,λb hb=>(hf b hb).1⟩⟩
 done:=by
  intro X hP hw hK hc i pins s σ H E I hf st hg;subst hP hw hK;obtain⟨Ug,hi⟩:=hg;obtain⟨f0,f1,f2,f3,f4,f5⟩:=hf it (by simp);have dat:=D.at_ s.heap (I.hok d _ Ug).1;have hl:=KV.length D.kv;exact wpAny_pyNext_values_end (I.ok.hd hc) st dat (by simp;lia) λh' eb=>⟨rfl,I.turned (t':=s.toks) (λb o hb e=>eb b o hb e) f0 f1 f3 f4 f5⟩
 self:=λ_ _ _ _ _ st h=>wpAny_pyIter_valiter st h
end
section
variable {X:Cx} {tg:Expr}
abbrev Kq (d:Addr)(o:Obj)(kvs:List (i6×V)):It:=Jn d o kvs λkv=>kv.2
def qZ (tl:TE):rW:=λσ H R=>tl σ H λv H1=>rIterD Kq v H1 R
def xW {o:Expr}{tl:TE}{apos d_:Pos}(ho:PE X o tl)
  (g_:attributeBase o "values" X.env (eval o X.env)=eval o X.env:=by rfl) (h_:(apos.endLine==d_.line)=true:=by rfl):
  BA X tg (.Call (.Attribute o "values" apos) [] [] d_) (qZ tl):=by
 intro pins s σ H R I h
 refine Pk g_ h_ (N3 (ho pins s σ H _ I h) λv s1 ⟨x,H1,I1,r1,q1⟩=>?_)
 obtain⟨d,kvs,ob,vs,ep,th,H',rfl,hd,Rj,D,I2,Sm,q⟩:=rIterD.go I1 r1 q1
 have US:=(D.at_ _ Rj).dictOf
 refine⟨"dict","dict.values",F.plainAttrs_dict,F.slot_dict_values,F.type_dict_values,US.typeIs,US.mapOf.noDict,NV rfl (Qn ?_)⟩
 refine NO F.slot_dict_values US.typeIs F.entry_dict_values (F.args_dict_values_1 _) (meets_dict_values (q8 X.prog X.w) d hd) ⟨⟨vs,US⟩,?_⟩
 have I3:Inv X pins σ H' {s1 with heap:=s1.heap.push {cls:= .type "dict_values",data:= .fields #[.ref d]}}:=I2.kept (t':=s1.toks) λb o e=>Ly _ e
 refine wpAny_pyIter_values (s:={s1 with heap:=s1.heap.push {cls:= .type "dict_values",data:= .fields #[.ref d]}}) (knd:=q8 X.prog X.w) ⟨_,LY _ rfl,rfl,rfl⟩ (D.at_ _ (Ly _ Rj)) ?_
 generalize hG:s1.heap.push {cls:= .type "dict_values",data:= .fields #[.ref d]}=G at I3⊢
 refine⟨G.objs.size,[G.objs.size],_,_,H',rfl,I3.kept (t':=s1.toks) λb o e=>Ly _ e,wR D _,⟨_,LY _ rfl,rfl,rfl⟩,λb hb=>?_,th,Sm,q⟩
 have e:b=G.objs.size:=by simpa using hb
 subst e
 exact I3.fpOk (Lp _) (I3.hok.fresh (Lp _))
def zo {tg o:Expr}{to:TE}{apos d_:Pos}(ho:QE X o to)
  (g_:attributeBase o "values" X.env (eval o X.env)=eval o X.env:=by rfl) (h_:(apos.endLine==d_.line)=true:=by rfl):QI X tg (.Call (.Attribute o "values" apos) [] [] d_) (qZ to):=⟨xW ho.r g_ h_⟩
def xM {tl:TE}{σ:St}{H:Hp}{R:It->(Hp->Hp)->Hp->Prop}(q:tl σ H λv H1=>rIterD Kq v H1 R):qZ tl σ H R:=q
end
section
variable {J:It} {th:Hp->Hp} {n:Nat} {g:TG} {tb:TS} {nx:L2.St->Hp->Prop} {rt:VK} {σ:L2.St} {H:Hp}
def Fu (Pv:Nat->L2.St->Hp->Prop)(h0:Pv 0 σ H)(UT:∀i σ H,i<n->Pv i σ H->J.go i H)
  (hs:∀(bk:L2.St->Hp->Prop) i x σ H H',i<n->Pv i σ H->J.yld i H x H'->g x σ H' λσ2 H2=>tb ⟨Pv (i+1),λv H=>rt v (th H),bk,Pv (i+1)⟩ σ2 H2)
  (hd:∀σ H,Pv n σ H->J.stop n H/\nx σ (th H)):xK J th g tb nx rt σ H:=Ae Pv h0 UT (hs λσ H=>nx σ (th H)) hd
end
section
variable {prog:Program} {w:World} {A:Around} {E:Value->Shared->Prop} {s:Shared}
end
section
variable {X:Cx}
end
section
variable {K:Za} {P:Program} {w:World} {H:Hp} {Q:VK} {σ:L2.St}
end
def Gw:Value->V
 | .none=> .non
 | .bool b=> .bl b
 | .int i _=> .int i
 | .str x _=> .str x
 | .bytes b _=> .byt b
 | .float b _=> .flt b
 | .ref a=> .ref a
 | .type n=> .ty n
 |_=> .non
def ur {v:V}{u:Value}(r:RelV v u):Gw u=v:=by grind [cases V,RelV,Gw]
theorem GV {f:V->Bool}:∀{xs:List V} {us:List Value},Vals xs us->us.countP (f∘Gw)=xs.countP f
 |_,_,.nil=>rfl
 |_,_,.cons r t=>by rw[NX,NX,GV t,Function.comp,ur r]
section
variable {X:Cx}
end
section
variable {X:Cx} {a:Expr} {t:TA} {p pos:Pos} {tg:Expr}
end
section
variable {K:Za} {σ:L2.St} {H:Hp} {ta:TA} {R:It->(Hp->Hp)->Hp->Prop}
end
abbrev Iw (h:Heap)(z TI TO:Addr)(f0:Value)(b:Bool):Prop:=h.get? z=some {cls:= .type "zip",dict:=none,data:= .fields #[f0,.bool b,.bool false,.ref TI,.ref TO],slots:= #[]}
section
variable {prog:Program} {w:World} {A:Around} {E:Value->Shared->Prop} {s:Shared}
end
section
variable {prog:Program} {w:World} {A:Around} {E:Value->Shared->Prop} {s:Shared}
end
section
variable {prog:Program} {w:World} {A:Around} {E:Value->Shared->Prop} {s:Shared}
structure Km (h:Heap) (d z TI TO i1 i2 l1 l2:Addr) (k:Nat) (xs ys:Array Value):Prop where
 ti:IsPair h TI (.ref i1) (.ref i2)
 a1:h.IsListIter i1 l1 k
 a2:h.IsListIter i2 l2 k
 b1:h.IsList l1 xs
 b2:h.IsList l2 ys
 st:(∃a b,IsZip h z TI TO .none/\IsPair h TO a b)\/∃(T:Addr) (b:Bool) (ot:Obj),Iw h z TI TO (rawInt T) b/\h.get? T=some ot/\T≠z/\T≠i1/\T≠i2/\T≠d
structure JT (d z TI TO i1 i2 l1 l2:Addr):Prop where
 z:z≠d
 TI:TI≠d
 TO:TO≠d
 i1:i1≠d
 i2:i2≠d
 l1:l1≠d
 l2:l2≠d
end
section
variable {prog:Program} {w:World} {KT:Type} [DecidableEq KT] {knd:KeyKind prog w KT} {A:Around} {E:Value->Shared->Prop}
end
section
variable {prog:Program} {w:World} {KT:Type} [DecidableEq KT] {knd:KeyKind prog w KT} {A:Around} {E:Value->Shared->Prop}
end
section
variable {X:Cx} {a b:Expr} {t:TA} {p pos p2 pos2:Pos}
end
open PySem.AutoSeq1 (wpAny_loadPart')
open PySem.MeetsSeq PySem.MeetsSeq2 PySem.MeetsSeq3
section
variable {X:Cx} {pins:List (Addr×Obj)} {σ:St} {H:Hp} {s:Shared} {A:Around}
end
section
variable {X:Cx}
end
section
variable {P:Program} {w:World}
end
section
variable {X:Cx}
end
section
variable {K:Za} {H:Hp} {Q:VK} {x y:V}
end
end L2
namespace PySem
section
variable {prog:Program} {w:World} {K:Type} [DecidableEq K] {A:Around} {E:Value->Shared->Prop} {s:Shared}
end
end PySem
namespace L2
open PySem PySem.Spec PyProof.Rows
section
variable {X:Cx}
end
section
variable {X:Cx}
end
structure KI (K:Za) (x qual:Str) (st:Stmt) (T:Addr) (f:Addr) (fd:FuncData):Prop where
 ex:∃(oc:Value) (od:Option Addr) (kV doc pm:Value) (an:Option Addr) (c_ ct:Value) (SS:Array (Option Value)),
  fd=PySem.W.fnOf x qual (aw st) (V5 st) (d0 st) (.ref T) kV doc pm an c_ ct/\K.lookup f=some ⟨oc,od,.func fd,SS⟩/\PySem.W.codeIn K c_ qual=true
 kp:PySem.W.keepIn K (.ref f)=true
section
variable {P:Program} {w:World} {K:Za} {mg:Str->Option Value} {base:Heap}
end
open PySem.AutoSeq1 (wpAny_loadPart')
open PySem.MeetsSeq PySem.MeetsSeq2 PySem.MeetsSeq3
section
variable {P:Program} {w:World}
end
section
variable {X:Cx}
end
section
variable {α β:Type}
def Bl (g:α->β)(xs:Array α)(a b:Nat):(xs.swapIfInBounds a b).map g=(xs.map g).swapIfInBounds a b:=by grind
theorem iK (g:α->β)(u v:Nat->Nat):∀(l:List Nat) (xs:Array α),(l.foldl (λz k=>z.swapIfInBounds (u k) (v k)) xs).map g=l.foldl (λz k=>z.swapIfInBounds (u k) (v k)) (xs.map g)
 |[],_=>rfl
 |k::l,xs=>by
  rw[ND,ND,iK g u v l,Bl]
def uY (g:α->β)(xs:Array α)(i j d:Nat):(mirror xs i j d).map g=mirror (xs.map g) i j d:=iK g _ _ _ _
def uH (g:α->β)(xs:Array α)(c d:Nat):(bubble xs c d).map g=bubble (xs.map g) c d:=iK g _ _ _ _
end
def JB (rk:Value->Int)(p:Keyed):Keyed:=(.int (rk p.1) 0,p.2)
def kA (rk:Value->Int)(st:SortSt)(i:Nat):Int:=K ((arrOf st).map (JB rk)) i
structure TB (kd:SortKind) (base:Array Keyed) (st:SortSt):Prop where
 pm:(arrOf st).Perm base
 kd:kindOf st=kd
 fl:failedOf st=none
 pe:pendingOf st= #[]
def jG (prog:Program)(w:World)(A:Around)(s:Shared)(rk:Value->Int)(kd:SortKind)(base:Array Keyed):Prop:=
 ∀(x y:Value) (E:Value->Shared->Prop) (Q:Bool->Shared->Prop),(∃p∈base.toList,p.1=x)->(∃p∈base.toList,p.1=y)->Q (decide (rk x<rk y)) s->wpAny (model prog w) A (keyLt' kd x y) Q E s
section
variable {prog:Program} {w:World} {A:Around} {E:Value->Shared->Prop} {s:Shared} {rk:Value->Int} {kd:SortKind} {base:Array Keyed} {st:SortSt}
def TB.sz (h:TB kd base st):(arrOf st).size=base.size:=h.pm.size_eq
def TB.put (h:TB kd base st){xs:Array Keyed}(p:xs.Perm (arrOf st)):TB kd base (setArr st xs):=⟨p.trans h.pm,h.kd,h.fl,h.pe⟩
def mW {i:Nat}(h:i<(arrOf st).size):kA rk st i=rk (arrOf st)[i].1:=by
 unfold kA K;rw[SO,Ml h];rfl
def uf {i j:Nat}(h:j<=(arrOf st).size)(k:Nat):kA rk (setArr st (mirror (arrOf st) i j ((j -i)/2))) k=if i<=k/\k<j then kA rk st (i+j -1 -k) else kA rk st k:=by
 show K ((mirror (arrOf st) i j ((j -i)/2)).map (JB rk)) k=_;rw[uY,K_mirror (by simpa using h)];rfl
def jW {i j:Nat}(h:j<=(arrOf st).size)(e:∀k,i<=k->k<j->kA rk st k=kA rk st (j -1))(k:Nat):kA rk (setArr st (mirror (arrOf st) i j ((j -i)/2))) k=kA rk st k:=by
 rw[uf h];split
 .next z=>rw[e _ (by lia) (by lia),e k z.1 z.2]
 .rfl
def yV {c d:Nat}(hc:c<(arrOf st).size)(hd:d<=c)(k:Nat):kA rk (setArr st (bubble (arrOf st) c d)) k=if k=c -d then kA rk st c else if c -d<k/\k<=c then kA rk st (k -1) else kA rk st k:=by
 show K ((bubble (arrOf st) c d).map (JB rk)) k=_;rw[uH,K_bubble (by simpa using hc) hd];rfl
def Asc (rk:Value->Int)(st:SortSt)(n:Nat):Prop:=∀i j,i<=j->j<n->kA rk st i<=kA rk st j
def Dsc (rk:Value->Int)(st:SortSt)(n:Nat):Prop:=∀i j,i<=j->j<n->kA rk st j<=kA rk st i
def Asc.one:Asc rk st 1:=λi j h1 h2=>by
 rw[show i=j by lia];exact Nu _
def Asc.next {n:Nat}(h:Asc rk st n)(h1:1<=n)(hx:¬kA rk st n<kA rk st (n -1)):Asc rk st (n+1):=λi j k_ hj=>by
 rcases MK j n with z|z
 .exact h i j k_ z
 .have e:j=n:=by lia
  subst e;rcases MK i j with y|y
  .have:=h i (j -1) (by lia) (by lia);lia
  .rw[show i=j by lia];exact Nu _
def Dsc.next {G_:SortSt}{n:Nat}(h:Dsc rk st n)(h1:1<=n)(hx:kA rk st n<=kA rk st (n -1))(e:∀k,kA rk G_ k=kA rk st k):Dsc rk G_ (n+1):=λi j k_ hj=>by
 rw[e,e];rcases MK j n with z|z
 .exact h i j k_ z
 .have e:j=n:=by lia
  subst e;rcases MK i j with y|y
  .have:=h i (j -1) (by lia) (by lia);lia
  .rw[show i=j by lia];exact Nu _
end
section
variable {prog:Program} {w:World} {A:Around} {E:Value->Shared->Prop} {s:Shared} {rk:Value->Int} {kd:SortKind} {base:Array Keyed} {st:SortSt}
structure TD (rk:Value->Int) (base:Array Keyed) (st:SortSt):Prop where
 pm:(arrOf st).Perm base
 fl:failedOf st=none
 pe:pendingOf st= #[(0,base.size,0)]
 up:Asc rk st base.size
end
def aW:V->List Nat
 | .str a=>a.cps.toList
 | .bl b=>[b.toNat]
 |_=>[]
abbrev G8 (xs:List V):List (List Nat):=xs.map aW
def SameT (x y:V):Prop:=(∃a b,x= .str a/\y= .str b)\/(∃a b,x= .bl a/\y= .bl b)
def Q8 {a b:Str}(h:a.cps.toList=b.cps.toList):a=b:=by
 cases a;cases b;congr;exact Array.toList_inj.mp h
def SameT.eq {x y:V}(h:SameT x y):dq x y=decide (aW x=aW y):=by
 rcases h with⟨a,b,rfl,rfl⟩|⟨a,b,rfl,rfl⟩
 .show(a==b)=decide (a.cps.toList=b.cps.toList);rw[LQ,Pd,LA];exact⟨λe=>by rw[e],Q8⟩
 .cases a<;>cases b<;>rfl
def SameT.flat {x y:V}(h:SameT x y):E3 x=true/\E3 y=true:=by
 rcases h with⟨a,b,rfl,rfl⟩|⟨a,b,rfl,rfl⟩<;>exact⟨rfl,rfl⟩
def nV (a b:Bool):Gives (Builtin.«int.__lt__» ⟨[.bool a,.bool b],[]⟩) (.val (.bool (decide (a.toNat<b.toNat)))):=by
 cases a<;>cases b<;>exact .of_eq rfl
section
variable {P:Program} {w:World} {A:Around} {E:Value->Shared->Prop} {s:Shared}
def CM {x y:V}{u v:Value}{fl:Bool}{Q:Bool->Shared->Prop}(h:SameT x y)(rx:RelV x u)(ry:RelV y v)(hf:fl=true->∃a,x= .str a)(q:Q (decide (aW x<aW y)) s):wpAny (model P w) A (oneLt' fl u v) Q E s:=by
 rcases h with⟨a,b,rfl,rfl⟩|⟨a,b,rfl,rfl⟩
 .obtain⟨t1,rfl⟩:=(show ∃t,u=Value.str a t from rx)
  obtain⟨t2,rfl⟩:=(show ∃t,v=Value.str b t from ry)
  cases fl with
  |true=>exact oneLt_str q
  |false=>
   rw[oneLt'_eq]
   simp only[NA,PQ]
   exact Lx (QY (op:= .Lt) (PF _ _ _) (PF _ _ _) F.slot_str_lt F.entry_str_lt (F.args_str_lt_2 _ _) (gives_str_lt _ _ _ _) (λe=>nomatch e) (MY q))
 .cases fl with
  |true=>obtain⟨a',e⟩:=hf rfl;cases e
  |false=>
   cases rx
   cases ry
   rw[oneLt'_eq]
   simp only[NA,PQ]
   have e:decide (aW (.bl a)<aW (.bl b))=decide (a.toNat<b.toNat):=by cases a<;>cases b<;>decide
   rw[e] at q
   exact Lx (QY (op:= .Lt) (QZ _ _) (QZ _ _) F.slot_bool_lt F.entry_int_lt (F.args_int_lt_2 _ _) (nV _ _) (λe=>nomatch e) (MY q))
def yG (b:Bool)(x:(Value×Value)×Nat)(_:Option Bool×Unit):Sem (ForInStep (Option Bool×Unit)):=do
 let e←eqBool x.1.1 x.1.2
 if(!e)=true then do
  let z←oneLt' (b&&x.2==0) x.1.1 x.1.2
  pure (ForInStep.done (some z,()))
 else pure (ForInStep.yield (none,()))
def tV (b:Bool)(x y:Value):keyLt' (tuples' b) x y=(do
  let xs←Builtin.List.listItems x
  let ys←Builtin.List.listItems y
  for ((p,q),i) in (xs.toList.zip ys.toList).zipIdx do
   if !(←eqBool p q) then return←oneLt' (b&&i==0) p q
  return xs.size<ys.size):=rfl
theorem wy (b:Bool)(x y:Value):keyLt' (tuples' b) x y=(do
  let xs←Builtin.List.listItems x
  let ys←Builtin.List.listItems y
  let r←forIn (xs.toList.zip ys.toList).zipIdx ((none:Option Bool),()) (yG b)
  match r.1 with
  |some a=>pure a
  |none=>pure (decide (xs.size<ys.size))):=by
 rw[tV]
 congr 1
 funext xs
 congr 1
 funext ys
 have e:(fun(x:(Value×Value)×Nat) (_:Option Bool×Unit)=>(match x with
   |((p,q),i)=>do
    let c←eqBool p q
    if(!c)=true then do
     let d←oneLt' (b&&i==0) p q
     pure (ForInStep.done (some d,()))
    else pure (ForInStep.yield (none,())):Sem (ForInStep (Option Bool×Unit))))=yG b:=by
  funext x r
  obtain⟨⟨p,q⟩,i⟩:=x
  rfl
 rw[←e]
 congr 1
 funext r
 obtain⟨r1,r2⟩:=r
 cases r1<;>rfl
theorem sJ:∀{xs ys:List V} {us vs:List Value} (k:Nat) {Q:Option Bool×Unit->Shared->Prop},Paired SameT xs ys->Vals xs us->Vals ys vs->(k=0->∀x∈xs.head?,∃a,x=V.str a)->
  (G8 xs=G8 ys->Q (none,()) s)->(G8 xs≠G8 ys->Q (some (decide (G8 xs<G8 ys)),()) s)->wpAny (model P w) A (forIn ((us.zip vs).zipIdx k) ((none:Option Bool),()) (yG true)) Q E s
 |_,_,_,_,k,Q,.nil,.nil,.nil,_,h1,_=>by
  show wpAny (model P w) A (forIn [] _ _) Q E s;rw[Sh];exact LK (h1 rfl)
 |_,_,_,_,k,Q,.cons (a:=x) (b:=y) (l₁:=xs) (l₂:=ys) st r,.cons (b:=u) rx t1,.cons (b:=v) ry t2,hk,h1,h2=>by
  rw[List.zip_cons_cons,List.zipIdx_cons,Qq];refine Lx (Lx (EqP.of (bY rx ry st.flat.1 st.flat.2) _ _ ?_));rw[st.eq];by_cases e:aW x=aW y
  .rw[LN e];refine LK ?_;refine sJ (k+1) r t1 t2 (λz=>absurd z (by lia)) (λz=>h1 (by show aW x::G8 xs=aW y::G8 ys;rw[e,z])) (λz=>?_);have h3:=h2 (λz2=>z (Mo (show aW x::G8 xs=aW y::G8 ys from z2)).2);have e3:decide (G8 (x::xs)<G8 (y::ys))=decide (G8 xs<G8 ys):=by
    rw[LQ,LA,LA];show aW x::G8 xs<aW y::G8 ys↔_;rw[Nd,e];exact⟨λz=>z.elim (λz=>absurd z (Nz _)) (λz=>z.2),λz=> .inr ⟨rfl,z⟩⟩
   rw[e3] at h3;exact h3
  .rw[LL e];show wpAny _ _ (oneLt' (true&&k==0) u v>>=λz=>pure (ForInStep.done (some z,()))) _ _ s;refine Lx (CM st rx ry (λz=>?_) (LK (LK ?_)))
   .exact hk (by simpa using z) x rfl
   .have h3:=h2 (λz2=>e (Mo (show aW x::G8 xs=aW y::G8 ys from z2)).1);have e3:decide (G8 (x::xs)<G8 (y::ys))=decide (aW x<aW y):=by
     rw[LQ,LA,LA];show aW x::G8 xs<aW y::G8 ys↔_;rw[Nd];exact⟨λz=>z.elim id (λz=>absurd z.1 e),.inl⟩
    rw[e3] at h3;exact h3
def Dp {a b:Addr}{xs ys:List V}{us vs:List Value}{Q:Bool->Shared->Prop}(ha:s.heap.IsTuple a us.toArray)(hb:s.heap.IsTuple b vs.toArray)(rx:Vals xs us)(ry:Vals ys vs)(hp:Paired SameT xs ys)(hf:∀x∈xs.head?,∃a,x=V.str a)
  (q:Q (decide (G8 xs<G8 ys)) s):wpAny (model P w) A (keyLt' (tuples' true) (.ref a) (.ref b)) Q E s:=by
 rw[wy]
 obtain⟨o1,e1,_,n1,d1⟩:=id ha
 obtain⟨o2,e2,_,n2,d2⟩:=id hb
 refine Lx (RL e1 d1 (Lx (RL e2 d2 (Lx (sJ 0 hp rx ry (λ_=>hf) (λe=>?_) (λe=>?_))))))
 .have l1:=rx.length
  have l2:=ry.length
  have l3:=hp.length
  show wpAny _ _ (pure (decide (us.toArray.size<vs.toArray.size))) _ _ s
  rw[show decide (us.toArray.size<vs.toArray.size)=decide (G8 xs<G8 ys) by
   rw[e,LL (Nz _),LL (by simp;lia)]]
  exact LK q
 .exact LK q
end
abbrev qj:=List (List Nat)
def Dt (ks:List qj)(k:qj):Int:=(ks.countP (λx=>decide (x<k)):Nat)
def Bm {a b c:qj}(h1:a<b)(h2:b<c):a<c:=SQ h1 h2
def GD {a b c:qj}(h1:a<b)(h2:¬c<b):a<c:=Decidable.byContradiction λz=>h2 (List.lt_of_le_of_lt (UA.mp z) h1)
def Fc (a:qj):¬a<a:=Nz a
def rg {a b:qj}(h1:¬a<b)(h2:¬b<a):a=b:=List.le_antisymm (UA.mp h2) (UA.mp h1)
theorem oT {α:Type}{p q:α->Bool}:∀{l:List α},(∀x∈l,p x=true->q x=true)->(∃x∈l,q x=true/\p x=false)->l.countP p<l.countP q
 |[],_,h=>by obtain⟨_,h,_⟩:=h;cases h
 |a::l,h1,h2=>by
  have le:l.countP p<=l.countP q:=RM λx hx=>h1 x (Lw _ hx);by_cases e:q a=true/\p a=false
  .rw[Oy e.1,Pq (by rw[e.2];decide)];lia
  .have ih:l.countP p<l.countP q:=by
    refine oT (λx hx=>h1 x (Lw _ hx)) ?_;obtain⟨x,hx,h3⟩:=h2;rcases Mi.mp hx with rfl|hx
    .exact absurd h3 e
    .exact⟨x,hx,h3⟩
   have ha:=h1 a Lv;cases hp:p a with
   |true=>rw[Oy hp,Oy (ha hp)];lia
   |false=>
    rw[Pq (by rw[hp];decide)]
    have:l.countP q<=(a::l).countP q:=by rw[NX];lia
    lia
def ym {ks:List qj}{a b:qj}(ha:a∈ks):decide (Dt ks a<Dt ks b)=decide (a<b):=by
 rw[LQ,LA,LA];unfold Dt;constructor
 .intro h;by_cases z:a<b
  .exact z
  .exfalso;have le:ks.countP (λx=>decide (x<b))<=ks.countP (λx=>decide (x<a)):=RM λx _ hx=>by
    rw[LA] at hx⊢;exact GD hx z
   lia
 .intro h;have lt:ks.countP (λx=>decide (x<a))<ks.countP (λx=>decide (x<b)):=oT (λx _ hx=>by
   rw[LA] at hx⊢;exact Bm hx h) ⟨a,ha,LN h,LL (Fc a)⟩
  lia
def DP {ks:List qj}{a b:qj}(hb:b∈ks)(h:Dt ks a<=Dt ks b):¬b<a:=λz=>by
 have e:=ym (ks:=ks) (b:=a) hb;rw[LN z] at e;have:=Nv e;lia
section
variable {P:Program} {w:World} {A:Around} {E:Value->Shared->Prop} {s:Shared}
theorem fS {β:Type}{f:Value->Sem β}{g:Value->β}:∀{l:List Value} {Q:List β->Shared->Prop},(∀v∈l,∀Q':β->Shared->Prop,Q' (g v) s->wpAny (model P w) A (f v) Q' E s)->Q (l.map g) s->wpAny (model P w) A (l.mapM f) Q E s
 |[],Q,_,q=>by rw[List.mapM_nil];exact LK q
 |v::l,Q,h,q=>by
  rw[List.mapM_cons];exact Lx (h v Lv _ (Lx (fS (λu hu=>h u (Lw _ hu)) (LK q))))
def jl (h:Heap):Value->Option Value
 | .ref a=>match h.get? a with
  |some o=>match o.data with
   | .seq xs _=>xs[0]?
   |_=>none
  |none=>none
 |_=>none
def zX {h:Heap}{a:Addr}{o:Obj}{xs:Array Value}{n:Nat}(e:h.get? a=some o)(d:o.data= .seq xs n):jl h (.ref a)=xs[0]?:=by
 simp only[jl,e,d]
def kU (v:Value):firstOfTuple' v=(do
  if(←typeOf v) != .type "tuple" then return none
  return (←Builtin.List.listItems v)[0]?):=rfl
def As {a:Addr}{us:List Value}{Q:Option Value->Shared->Prop}(h:s.heap.IsTuple a us.toArray)(q:Q (jl s.heap (.ref a)) s):wpAny (model P w) A (firstOfTuple' (.ref a)) Q E s:=by
 rw[kU];obtain⟨o,e,hc,n,d⟩:=id h;refine Lx (Pb (T:="tuple") ⟨o,e,hc⟩ ?_);rw[if_neg (by decide)];refine Lx (RL e d (LK ?_));rw[zX e d] at q;exact q
def Ct {vs:List Value}{Q:SortKind->Shared->Prop}(v_:vs≠[])(h:∀v∈vs,∃(a:Addr) (us:List Value) (x:Str) (t:Tok),v= .ref a/\s.heap.IsTuple a us.toArray/\us[0]?=some (.str x t))(q:Q (tuples' true) s):wpAny (model P w) A (keyKind' vs.toArray) Q E s:=by
 have hf:∀v∈vs,∃(x:Str) (t:Tok),jl s.heap v=some (.str x t):=λv hv=>by
  obtain⟨a,us,x,t,rfl,hi,hu⟩:=h v hv;obtain⟨o,e,hc,n,d⟩:=id hi;refine⟨x,t,?_⟩;rw[zX e d];simpa using hu
 rw[keyKind'_eq,PJ];refine Lx (UB (fS (g:=jl s.heap) (λv hv Q' q'=>?_) ?_))
 .obtain⟨a,us,x,t,rfl,hi,_⟩:=h v hv;exact As hi q'
 rw[if_pos (by
  simp only[Rt,Nc,LZ];intro v hv;obtain⟨x,t,e⟩:=hf v hv;show(jl s.heap v).isSome=true;rw[e];rfl)]
 refine Lx (Pg ?_);obtain⟨fs,efs,hfs,Xb⟩:∃fs:List Value,((vs.map (jl s.heap)).toArray.filterMap id)=fs.toArray/\(∀v∈fs,∃(x:Str) (t:Tok),v= .str x t)/\fs≠[]:=by
  refine⟨(vs.map (jl s.heap)).filterMap id,by simp,λv hv=>?_,?_⟩
  .obtain⟨o,ho,e⟩:=OG.mp hv;obtain⟨u,hu,rfl⟩:=Ln.mp ho;obtain⟨x,t,e2⟩:=hf u hu;rw[e2] at e;exact⟨x,t,(LO e).symm⟩
  .obtain⟨v,r,rfl⟩:=OQ v_;obtain⟨x,t,e⟩:=hf v Lv;rw[Ms,NQ (b:= .str x t) e];exact List.cons_ne_nil _ _
 rw[efs,oneTypeOnly'_eq,PJ];refine Lx (Lx (UB (fS (g:=λ_=>Value.type "str") (λv hv Q' q'=>?_) ?_)))
 .obtain⟨x,t,rfl⟩:=hfs v hv;exact Pb (PF s x t) q'
 obtain⟨v,r,rfl⟩:=OQ Xb;have h0:((v::r).map λ_=>Value.type "str").toArray[0]?=some (Value.type "str"):=by simp
 rw[h0];have ha:(((v::r).map λ_=>Value.type "str").toArray.all λx=>x==Value.type "str")=true:=by
  simp only[Rt,Nc,LZ];intro _ _;rfl
 dsimp only;rw[if_pos ha];exact LK (LK q)
structure JH (h:Heap) (kf:Value->qj) (v:Value):Prop where
 at_:∃(a:Addr) (us:List Value) (xs:List V) (x:Str) (r:List V),v= .ref a/\h.IsTuple a us.toArray/\Vals xs us/\xs= .str x::r/\kf v=G8 xs
def Gb (h:Heap)(v u:Value):Prop:=∀(a b:Addr) (us vs:List Value) (xs ys:List V),v= .ref a->u= .ref b->h.IsTuple a us.toArray->h.IsTuple b vs.toArray->Vals xs us->Vals ys vs->Paired SameT xs ys
def CA {vs:List Value}{kf:Value->qj}(h1:∀v∈vs,JH s.heap kf v)(h2:∀v∈vs,∀u∈vs,Gb s.heap v u):jG P w A s (λv=>Dt (vs.map kf) (kf v)) (tuples' true) (pairsOf vs):=by
 intro x y E' Q hx hy q;have mem:∀z,(∃p∈(pairsOf vs).toList,p.1=z)->z∈vs:=λz hz=>by
  obtain⟨p,hp,rfl⟩:=hz;rw[QM] at hp;exact(mem_zip_self hp).2
 have mx:=mem x hx;have my:=mem y hy;rw[ym (Ln.mpr ⟨x,mx,rfl⟩)] at q;obtain⟨a,us,xs,n1,r1,rfl,i1,v1,e1,k1⟩:=(h1 x mx).at_;obtain⟨b,vs',ys,n2,r2,rfl,i2,v2,e2,k2⟩:=(h1 y my).at_;rw[k1,k2] at q;exact Dp i1 i2 v1 v2 (h2 _ mx _ my _ _ _ _ _ _ rfl rfl i1 i2 v1 v2) (λx hx=>by rw[e1] at hx;exact⟨n1,(LO hx).symm⟩) q
end
section
variable {P:Program} {w:World} {A:Around} {E:Value->Shared->Prop} {s:Shared}
end
def cL {α β:Type}(f:α->β):∀{l m:List β},l.Perm m->∀ts:List α,m=ts.map f->∃y_:List α,l=y_.map f/\y_.Perm ts:=by
 intro l m p;induction p with
 |nil=>intro ts e;exact⟨ts,e,.refl _⟩
 |cons x p ih=>
  intro ts e
  match ts,e with
  |t::r,e=>
   obtain⟨r',e1,p1⟩:=ih r (Mo e).2
   exact⟨t::r',by rw[e1,(Mo e).1];rfl,p1.cons t⟩
 |swap x y l=>
  intro ts e
  match ts,e with
  |t::u::r,e=>
   have e1:=(Mo e).1
   have e2:=(Mo (Mo e).2).1
   have e3:=(Mo (Mo e).2).2
   exact⟨u::t::r,by rw[e1,e2,e3];rfl,.swap t u r⟩
 |trans p1 p2 ih1 ih2=>
  intro ts e
  obtain⟨t2,e2,q2⟩:=ih2 ts e
  obtain⟨t1,e1,q1⟩:=ih1 t2 e2
  exact⟨t1,e1,q1.trans q2⟩
def xj {ts:List (Addr×List V)}:∀{us:List Value},Vals (ts.map λt=>V.ref t.1) us->us=ts.map λt=>Value.ref t.1:=by
 induction ts with
 |nil=>intro us h;cases h;rfl
 |cons t r ih=>
  intro us h
  cases h with
  |cons rx t2=>
   have e:_=Value.ref t.1:=rx
   rw[e,ih t2];rfl
def wN {x y:V}{u:Value}(h1:RelV x u)(h2:RelV y u):x=y:=by rw[←ur h1,←ur h2]
theorem iy:∀{xs ys:List V} {us:List Value},Vals xs us->Vals ys us->xs=ys
 |_,_,_,.nil,.nil=>rfl
 |_,_,_,.cons r1 t1,.cons r2 t2=>by rw[wN r1 r2,iy t1 t2]
theorem pA:∀ts:List (Addr×List V),Vals (ts.map λt=>V.ref t.1) (ts.map λt=>Value.ref t.1)
 |[]=> .nil
 |t::r=> .cons rfl (pA r)
section
variable {X:Cx}
def kT (K:Za):List V->Hp->VK->Prop:=λxs H Q=>∃(p:Addr) (ts:List (Addr×List V)),xs=[.ref p]/\SqL K H p (ts.map λt=>V.ref t.1)/\(∀t∈ts,SqT K H t.1 t.2/\∃x r,t.2=V.str x::r)/\(∀t∈ts,∀t'∈ts,Paired SameT t.2 t'.2)/\ts.length<64/\
 ∀y_:List (Addr×List V),y_.Perm ts->y_.Pairwise (λa b=>¬G8 b.2<G8 a.2)->∀l,H l=none->Q (.ref l) (upd H l (.lst (y_.map λt=>V.ref t.1)))
end
abbrev Lk:=Str×Bool×Bool
def La (c:Lk):List V:=[.str c.1,.bl c.2.1,.bl c.2.2]
def GB (K:Za)(H:Hp)(xs:List V)(cs:List Lk):Prop:=Paired (λv c=>∃t,v=V.ref t/\SqT K H t (La c)) xs cs
structure Li (K:Za) (H:Hp) (u:V) (kd:Str) (cs:List Lk):Prop where
 ex:∃(a l:Addr) (xs:List V),u= .ref a/\SqT K H a [.str kd,.ref l]/\SqL K H l xs/\GB K H xs cs
section
variable {X:Cx} {pins:List (Addr×Obj)} {σ:St} {H:Hp} {s:Shared}
end
section
variable {X:Cx}
end
open PySem.AutoSeq1 (wpAny_loadPart')
open PySem.MeetsSeq PySem.MeetsSeq2 PySem.MeetsSeq3
section
variable {P:Program} {w:World}
end
section
variable {X:Cx}
def jK {X:Cx}:Kc X "list.extend" vU:=xD
end
structure FnIn (K:Za) (n:Str) (st:Stmt) (f:Addr):Prop where
 a:PySem.W.nsIn K mainGlobals n=some (some (.ref f))
 F:∃fd,Fun K n n st f fd
def FnIn.mk' {K:Za}{n:Str}{st:Stmt}{f:Addr}{oc:Value}{od an:Option Addr}{SS:Array (Option Value)}{kV doc pm c_ ct:Value}(a:PySem.W.nsIn K mainGlobals n=some (some (.ref f)))(l:K.lookup f=some ⟨oc,od,.func (PySem.W.fnOf n n (aw st) (V5 st) (d0 st) .none kV doc pm an c_ ct),SS⟩)
  (c:PySem.W.codeIn K c_ n=true) (k:PySem.W.keepIn K (.ref f)=true):FnIn K n st f:=⟨a,_,Ej l c k⟩
def j0 {P:Program}{w:World}{K:Za}{mg:Str->Option Value}{base h:Heap}{CX:rD}{k:Nat}{n:Str}{st:Stmt}{ps:List Str}{sp:Sp}{f:Addr}(X:K.In h)(G:h.Ns mainGlobals mg)(a:FnIn K n st f)(ok:∀{f fd},Fun K n n st f fd->u6 P w K mg base CX k f fd ps sp)
  (b:∀(kV doc pm:Value) (an:Option Addr) (c_ ct:Value) (us:List Value),us.length=ps.length->bindArgs (PySem.W.fnOf n n (aw st) (V5 st) (d0 st) .none kV doc pm an c_ ct) ⟨us,[]⟩=pure (ps.zip us)):M7 P w K mg base CX k n ps [] sp:=by
 obtain⟨fd,F⟩:=a.F
 exact⟨f,_,[],ok F,NF X G a.a,F.kp,F.binds b,.nil⟩
def EL {P:Program}{w:World}{K:Za}{mg:Str->Option Value}{h:Heap}{CX:rD}{k:Nat}{st:Stmt}{p:Str}{sp:Sp}{f fa:Addr}(X:K.In h)(G:h.Ns mainGlobals mg)(hfa:mg "law"=some (.ref fa))(a:FnIn K "law" st f)(ok:∀{base f fd},Fun K "law" "law" st f fd->u6 P w K mg base CX k f fd [p] sp)
  (b:∀(kV doc pm:Value) (an:Option Addr) (c_ ct:Value) (s:Shared) (v:Value),BindsTo s (PySem.W.fnOf "law" "law" (aw st) (V5 st) (d0 st) .none kV doc pm an c_ ct) ⟨[v],[]⟩ [(p,v)]):
  ∃fd:FuncData,(∀(s:Shared) (v:Value),BindsTo s fd ⟨[v],[]⟩ [(p,v)])/\∀base:Heap,K.In base->base.Ns mainGlobals mg->u6 P w K mg base CX k fa fd [p] sp:=by
 obtain⟨fd,F⟩:=a.F
 have e:=hfa.symm.trans (NF X G a.a)
 cases e
 obtain⟨oc,od,kV,doc,pm,an,c_,ct,SS,rfl,lk,SN⟩:=id F.ex
 exact⟨_,λs v=>b _ _ _ _ _ _ s v,λbase _ _=>ok F⟩
section
variable {fd:FuncData} {ps:List Str} {us:List Value}
def uc {us:List Value}{n:Nat}(h:us.length=n+1):∃a r,us=a::r/\r.length=n:=by
 cases us with
 |nil=>cases h
 |cons a r=>exact⟨a,r,rfl,Nat.succ.inj h⟩
def KU (h:us.length=1)(g:∀a:Value,bindArgs fd ⟨[a],[]⟩=pure (ps.zip [a])):bindArgs fd ⟨us,[]⟩=pure (ps.zip us):=by
 obtain⟨a,us,rfl,h1⟩:=uc h;cases us with
 |nil=>exact g a
 |cons _ _=>cases h1
def KD (h:us.length=2)(g:∀a b:Value,bindArgs fd ⟨[a,b],[]⟩=pure (ps.zip [a,b])):bindArgs fd ⟨us,[]⟩=pure (ps.zip us):=by
 obtain⟨a,us,rfl,h1⟩:=uc h;obtain⟨b,us,rfl,h2⟩:=uc h1;cases us with
 |nil=>exact g a b
 |cons _ _=>cases h2
def KO (h:us.length=3)(g:∀a b c:Value,bindArgs fd ⟨[a,b,c],[]⟩=pure (ps.zip [a,b,c])):bindArgs fd ⟨us,[]⟩=pure (ps.zip us):=by
 obtain⟨a,us,rfl,h1⟩:=uc h;obtain⟨b,us,rfl,h2⟩:=uc h1;obtain⟨c,us,rfl,h3⟩:=uc h2;cases us with
 |nil=>exact g a b c
 |cons _ _=>cases h3
def KH (h:us.length=4)(g:∀a b c d:Value,bindArgs fd ⟨[a,b,c,d],[]⟩=pure (ps.zip [a,b,c,d])):bindArgs fd ⟨us,[]⟩=pure (ps.zip us):=by
 obtain⟨a,us,rfl,h1⟩:=uc h;obtain⟨b,us,rfl,h2⟩:=uc h1;obtain⟨c,us,rfl,h3⟩:=uc h2;obtain⟨d,us,rfl,h4⟩:=uc h3;cases us with
 |nil=>exact g a b c d
 |cons _ _=>cases h4
def KC (h:us.length=5)(g:∀a b c d e:Value,bindArgs fd ⟨[a,b,c,d,e],[]⟩=pure (ps.zip [a,b,c,d,e])):bindArgs fd ⟨us,[]⟩=pure (ps.zip us):=by
 obtain⟨a,us,rfl,h1⟩:=uc h;obtain⟨b,us,rfl,h2⟩:=uc h1;obtain⟨c,us,rfl,h3⟩:=uc h2;obtain⟨d,us,rfl,h4⟩:=uc h3;obtain⟨e,us,rfl,h5⟩:=uc h4;cases us with
 |nil=>exact g a b c d e
 |cons _ _=>cases h5
def Ld (h:us.length=6)(g:∀a b c d e f:Value,bindArgs fd ⟨[a,b,c,d,e,f],[]⟩=pure (ps.zip [a,b,c,d,e,f])):bindArgs fd ⟨us,[]⟩=pure (ps.zip us):=by
 obtain⟨a,us,rfl,h1⟩:=uc h;obtain⟨b,us,rfl,h2⟩:=uc h1;obtain⟨c,us,rfl,h3⟩:=uc h2;obtain⟨d,us,rfl,h4⟩:=uc h3;obtain⟨e,us,rfl,h5⟩:=uc h4;obtain⟨f,us,rfl,h6⟩:=uc h5;cases us with
 |nil=>exact g a b c d e f
 |cons _ _=>cases h6
end
def Jc (a u:St->Hp->Prop):Prop:=∀σ H,u σ H->a σ H
def Hg {t u:TS}{nx:St->Hp->Prop}{rt:V->Hp->Prop}{bk ct:St->Hp->Prop}{σ:St}{H:Hp}(h:∀a:St->Hp->Prop,Jc a (u ⟨nx,rt,bk,ct⟩)->t ⟨a,rt,bk,ct⟩ σ H):Ag t u ⟨nx,rt,bk,ct⟩ σ H:=h _ λ_ _ z=>z
def DE {a u:St->Hp->Prop}{σ:St}{H:Hp}(h:Jc a u)(q:u σ H):a σ H:=h σ H q
section
variable {J:It} {th:Hp->Hp} {g:V->St->Hp->(St->Hp->Prop)->Prop} {tb:TS} {nx:St->Hp->Prop} {rt:V->Hp->Prop} {σ:St} {H:Hp} {n:Nat}
def kI (Pv:Nat->St->Hp->Prop)(h0:Pv 0 σ H)(UT:∀i σ H,i<n->Pv i σ H->J.go i H)
  (hs:∀i x σ H H',i<n->Pv i σ H->J.yld i H x H'->∀a:St->Hp->Prop,Jc a (Pv (i+1))->g x σ H' λσ2 H2=>tb ⟨a,λv H=>rt v (th H),λσ H=>nx σ (th H),a⟩ σ2 H2)
  (hd:∀σ H,Pv n σ H->J.stop n H/\nx σ (th H)):xK J th g tb nx rt σ H:=Ae Pv h0 UT (λi x σ H H' a b c=>hs i x σ H H' a b c _ λ_ _ z=>z) hd
def F5 (Pv:Nat->St->Hp->Prop)(h0:Pv 0 σ H)(UT:∀i σ H,i<n->Pv i σ H->J.go i H)
  (hs:∀(bk:St->Hp->Prop) i x σ H H',i<n->Pv i σ H->J.yld i H x H'->∀a:St->Hp->Prop,Jc a (Pv (i+1))->g x σ H' λσ2 H2=>tb ⟨a,λv H=>rt v (th H),bk,a⟩ σ2 H2)
  (hd:∀σ H,Pv n σ H->J.stop n H/\nx σ (th H)):xK J th g tb nx rt σ H:=Fu Pv h0 UT (λk i x σ H H' a b c=>hs k i x σ H H' a b c _ λ_ _ z=>z) hd
end
def Bu (K:Za)(T:Addr)(tb:(St->XK)->TS)(ts:TS):TS:=λD σ H=>
 tb (λσ' c oa H'=>∃C a,c= .ref C/\oa=some a/\PySem.W.subIn K (.ref C) (.ref T)=some true/\ts D σ' (upd H' a (.ext (cx a C)))) D σ H
def FA {K:Za}{T:Addr}{tb:(St->XK)->TS}{ts:TS}{D:sZ}{σ:St}{H:Hp}(q:tb (λσ' c oa H'=>∃C a,c= .ref C/\oa=some a/\PySem.W.subIn K (.ref C) (.ref T)=some true/\ts D σ' (upd H' a (.ext (cx a C)))) D σ H):Bu K T tb ts D σ H:=q
section
variable {X:Cx} {x:Str} {T:Addr} {np N_ pos:Pos} {b₀:Stmt} {body suite:List Stmt} {tb:(St->XK)->TS} {ts:TS}
def BV (O:Kh X.K X.mg x T)(hb:∀pins Es,PSs (X.tried pins Es) body (tb Es))(hs:∀e,PSs (X.suite e) (b₀::suite) ts)
  (Ub:X.stack=X.env::X.outer) (VT:X.env.frame=some X.env.locals) (hex:X.ex=[]) (hg:Gl X x:=by rfl) (q_:(x==("__debug__":Str))=false:=by decide):
  PS X (.Try body [.ExceptHandler (some (.Name x np)) none (b₀::suite) N_] [] [] pos) (Bu X.K T tb ts):=by
 intro pins s σ H D I hw
 refine wpAny_Try_except (PD (hb pins _ [] s σ H D I.toTried hw) (λf s1 q=>?_) λe s1 q=>?_)
 .cases f with
  |next=>obtain⟨σ',H',I',q'⟩:=q;exact Ql ⟨σ',H',I'.ofTried,q'⟩
  |brk=>obtain⟨σ',H',I',q'⟩:=q;exact⟨σ',H',I'.ofTried,q'⟩
  |cont=>obtain⟨σ',H',I',q'⟩:=q;exact⟨σ',H',I'.ofTried,q'⟩
  |ret u=>obtain⟨v,σ',H',I',r',q'⟩:=q;exact⟨v,σ',H',I'.ofTried,r',q'⟩
 .obtain⟨i_,σ',H1,s2,I2',a,C',a0,B,H',rfl,F,C,a',ec,ea,Up,hts⟩:=q
  cases ec
  cases ea
  have I2:=I2'.ofPinned
  have n_:=F.fl
  rw[Ub] at n_
  refine wpAny_looks_onW (by rw[I.ok.frames,Ub]) VT n_ λh4 held4 sm4=>?_
  refine wpAny_landsW held4 λh5 hfl5 sm5=>?_
  have I5:Inv X pins σ' H' {s1 with heap:=h5}:=F.land I2 hfl5.1 (sm4.trans sm5) s1.toks
  have hx5:cx a C' h5:=by
   obtain⟨oe,vs,z1,z2,z3,_⟩:=hfl5.first;exact⟨oe,vs,z1,z2,z3⟩
  refine wpAny_handleBy_cons (codeAny_handlers_test ?_) (by intro q;cases q)
  refine gM (X:=X.suite a) (I5.toSuite (e:=a)) hg O.bound ?_ q_
  refine rV I5.kIn hx5 O.ty O.exc O.cls Up ?_
  refine codeAny_handlers_suite ?_
  refine lands_againW hfl5 λh6 hfl6 sm6=>?_
  have I6:Inv X pins σ' H' {s1 with heap:=h6}:=F.land I2 hfl6.1 ((sm4.trans sm5).trans sm6) s1.toks
  have hx6:cx a C' h6:=by
   obtain⟨oe,vs,z1,z2,z3,_⟩:=hfl6.first;exact⟨oe,vs,z1,z2,z3⟩
  have nB:B.get? a=none:=hfl6.2.1
  have nfr:a∉bu X.stack:=λhb=>by
   obtain⟨oe,vs,z1,z2,z3⟩:=hx6;rw[Ub] at hb;exact M4 hfl6.2.2.1 hb z1 vs z3
  have n2:s2.heap.get? a=none:=by
   cases z:s2.heap.get? a with
   |none=>rfl
   |some o=>
    obtain⟨o',z'⟩:=F.th a o z nfr
    rw[nB] at z';cases z'
  have n0:X.s₀.heap.get? a=none:=by
   cases z:X.s₀.heap.get? a with
   |none=>rfl
   |some o=>
    obtain⟨o',z'⟩:=I2.base.there a o z (by rw[hex];simp)
    rw[n2] at z';cases z'
  have I7:=(I6.track F.nw hx6 n0 λp hp q=>by
   have z:=(I2.pin p hp).1;rw[q,n2] at z;cases z).toSuite (e:=a)
  refine PD (hs a pins _ _ _ _ I7 hts) (λf s9 q=>?_) λ_ _ z=>z.elim
  cases f with
  |next=>obtain⟨σ9,H9,I9,q9⟩:=q;exact⟨_,_,I9.ofSuite I.ok,q9⟩
  |brk=>obtain⟨σ9,H9,I9,q9⟩:=q;exact⟨_,_,I9.ofSuite I.ok,q9⟩
  |cont=>obtain⟨σ9,H9,I9,q9⟩:=q;exact⟨_,_,I9.ofSuite I.ok,q9⟩
  |ret u=>obtain⟨v9,σ9,H9,I9,r9,q9⟩:=q;exact⟨_,_,_,I9.ofSuite I.ok,r9,q9⟩
def Io (O:Kh X.K X.mg x T)(hb:∀pins Es,QSs (X.tried pins Es) body (tb Es))(hs:∀e,QSs (X.suite e) (b₀::suite) ts)
  (Ub:X.stack=X.env::X.outer:=by rfl) (VT:X.env.frame=some X.env.locals:=by rfl) (hex:X.ex=[]:=by rfl) (hg:Gl X x:=by rfl) (q_:(x==("__debug__":Str))=false:=by decide):
  QS X (.Try body [.ExceptHandler (some (.Name x np)) none (b₀::suite) N_] [] [] pos) (Bu X.K T tb ts):=⟨BV O (λp E=>(hb p E).r) (λe=>(hs e).r) Ub VT hex hg q_⟩
end
section
variable {X:Cx} {e:Expr} {te:TE} {pos p2 p3 p4:Pos} {j:Nat}
end
section
variable {X:Cx} {pins:List (Addr×Obj)} {σ:St} {H:Hp} {s:Shared} {h':Heap}
end
section
variable {X:Cx}
end
section
variable {K:Za} {H:Hp} {Q:VK}
end
structure TQ (kd:SortKind) (base:Array Keyed) (lo:Nat) (pre:Array Keyed) (pe:Array (Nat×Nat×Nat)) (st:SortSt):Prop where
 pm:(arrOf st).Perm base
 kd:kindOf st=kd
 fl:failedOf st=none
 pe:pendingOf st=pe
 fr:∀p,p<lo->(arrOf st)[p]?=pre[p]?
section
variable {prog:Program} {w:World} {A:Around} {E:Value->Shared->Prop} {s:Shared} {rk:Value->Int} {kd:SortKind} {base:Array Keyed} {st:SortSt} {lo:Nat} {pre:Array Keyed} {pe:Array (Nat×Nat×Nat)}
def TQ.sz (h:TQ kd base lo pre pe st):(arrOf st).size=base.size:=h.pm.size_eq
def TQ.rev (h:TQ kd base lo pre pe st){i j:Nat}(hi:lo<=i)(hj:j<=base.size):TQ kd base lo pre pe (setArr st (mirror (arrOf st) i j ((j -i)/2))):=
 ⟨(mirror_perm _ _ _ _).trans h.pm,h.kd,h.fl,h.pe,λp hp=>by
  show(mirror (arrOf st) i j ((j -i)/2))[p]?=_;rw[getElem?_mirror_all (by rw[h.sz];exact hj),if_neg (by lia)];exact h.fr p hp⟩
def TQ.mov (h:TQ kd base lo pre pe st){c d:Nat}(hc:c<base.size)(hd:lo+d<=c):TQ kd base lo pre pe (setArr st (bubble (arrOf st) c d)):=
 ⟨(bubble_perm _ _ _).trans h.pm,h.kd,h.fl,h.pe,λp hp=>by
  show(bubble (arrOf st) c d)[p]?=_;rw[getElem?_bubble (by rw[h.sz];exact hc) d (by lia),if_neg (by lia),if_neg (by lia)];exact h.fr p hp⟩
def tH (hL:jG prog w A s rk kd base)(hk:kindOf st=kd){x y:Keyed}{Q:Option Bool->SortSt->Prop}(hx:x∈base.toList)(hy:y∈base.toList)(h:Q (some (decide (rk x.1<rk y.1))) st):wpS (model prog w) A E s (lt' x y) Q st:=by
 rw[lt'_eq];refine LP (Rk ?_);rw[hk];exact LP (RS (wpAny_attempt (hL _ _ _ _ ⟨x,hx,rfl⟩ ⟨y,hy,rfl⟩ ⟨rfl,Md h⟩)))
def L9 {arr:Array Keyed}{i:Nat}{Q:Keyed->SortSt->Prop}(hi:i<arr.size)(h:Q arr[i] st):wpS (model prog w) A E s (elem' arr i) Q st:=by
 rw[elem'_eq,Ml hi];exact Md h
def TQ.lt (hL:jG prog w A s rk kd base)(hB:TQ kd base lo pre pe st){i j:Nat}{Q:Option Bool->SortSt->Prop}(hi:i<base.size)(hj:j<base.size)(h:Q (some (decide (kA rk st i<kA rk st j))) st):wpS (model prog w) A E s (ltAt' i j) Q st:=by
 have z:=hB.sz;have UC:i<(arrOf st).size:=by lia
 have hj':j<(arrOf st).size:=by lia
 have mem:∀k (hk:k<(arrOf st).size),(arrOf st)[k]∈base.toList:=λk hk=>(MW.mp hB.pm).mem_iff.mp (by simp);rw[mW UC,mW hj'] at h;rw[ltAt'_eq];refine LP (Rk ?_);exact LP (L9 UC (LP (L9 hj' (tH hL hB.kd (mem i UC) (mem j hj') h))))
def AO (rk:Value->Int)(st:SortSt)(lo n:Nat):Prop:=∀i j,i<=j->j<n->kA rk st (lo+i)<=kA rk st (lo+j)
def DO (rk:Value->Int)(st:SortSt)(lo n:Nat):Prop:=∀i j,i<=j->j<n->kA rk st (lo+j)<=kA rk st (lo+i)
def Jw {l r:Nat}(h:¬l≥r):l<=(l+r)/2/\(l+r)/2<r:=by lia
def GY {a b:Nat}(h:¬a≥b):a<=a+(b -a)/2/\a+(b -a)/2<b:=by lia
def Kt {lo k i:Nat}(h:i<k):lo+(k -1 -i)=lo+(lo+k) -1 -(lo+i):=by lia
def Gx {lo j:Nat}(h:1<=j):lo+(j -1)=lo+j -1:=(Nat.add_sub_assoc h lo).symm
def KW {n i k:Nat}(h:n -i=k+1):n -(i+1)=k:=by rw[Nat.sub_add_eq,h];rfl
def KR {n i k:Nat}(h:n -i=k+1):i<n:=SK.mp (h▸TN k)
def Lf {f k n:Nat}(h:k<=n)(h3:¬n -k=0):f+(n -1)=f+k+(n -k) -1:=by lia
def KL {f k n s:Nat}(h1:f+n<=s)(h:k<=n)(h3:¬n -k=0):f+k+(n -k) -1<s:=by lia
def Lb {k n m:Nat}(h:m=n -k)(h2:k<=n)(h3:¬n -k=0):k+(m -1)=n -1:=by lia
def Lh {f k n m:Nat}(h:k<=n):f+k+0+(n -k+m)=f+(n+m):=by lia
def AO.one:AO rk st lo 1:=λi j h1 h2=>by
 rw[show i=j by lia];exact Nu _
def AO.next {n:Nat}(h:AO rk st lo n)(h1:1<=n)(hx:¬kA rk st (lo+n)<kA rk st (lo+n -1)):AO rk st lo (n+1):=λi j k_ hj=>by
 rcases MK j n with z|z
 .exact h i j k_ z
 .have e:j=n:=by lia
  subst e;rcases MK i j with y|y
  .have:=h i (j -1) (by lia) (by lia);rw[Gx (show 1<=j by lia)] at this;lia
  .rw[show i=j by lia];exact Nu _
def DO.next {G_:SortSt}{n:Nat}(h:DO rk st lo n)(h1:1<=n)(hx:kA rk st (lo+n)<=kA rk st (lo+n -1))(e:∀k,kA rk G_ k=kA rk st k):DO rk G_ lo (n+1):=λi j k_ hj=>by
 rw[e,e];rcases MK j n with z|z
 .exact h i j k_ z
 .have e:j=n:=by lia
  subst e;rcases MK i j with y|y
  .have:=h i (j -1) (by lia) (by lia);rw[Gx (show 1<=j by lia)] at this;lia
  .rw[show i=j by lia];exact Nu _
def CI {α:Type}{J X:StateT SortSt Sem α}{P:SortSt->Prop}{Q:α->SortSt->Prop}(h1:(∀e_,P e_->wpS (model prog w) A E s J Q e_)->wpS (model prog w) A E s X Q st)(h2:∀e_,P e_->wpS (model prog w) A E s J Q e_):wpS (model prog w) A E s X Q st:=h1 h2
def Gm (hL:jG prog w A s rk kd base)(hB:TQ kd base lo pre pe st){n:Nat}{Q:Option Nat->SortSt->Prop}(h1:1<=n)(hn:lo+n<=base.size)
  (h:∀k e_,TQ kd base lo pre pe e_->1<=k->k<=n->AO rk e_ lo k->Q (some k) e_):wpS (model prog w) A E s (countRun' lo n) Q st:=by
 have asc:∀(st:SortSt) (a:Nat),TQ kd base lo pre pe st->1<=a->a<=n->AO rk st lo a->∀(Q':Option (Option Nat)×Nat->SortSt->Prop),(∀m,a<=m->m<=n->AO rk st lo m->(m=n\/kA rk st (lo+m)<kA rk st (lo+m -1))->Q' (none,m) st)->wpS (model prog w) A E s (forIn [a:n] ((none:Option (Option Nat)),a) λ_ r=>do
   let x←ltAt' (lo+r.2) (lo+r.2 -1)
   match x with
   |some smaller=>if smaller=true then pure (ForInStep.done (none,r.2)) else pure (ForInStep.yield (none,r.2+1))
   |_=>pure (ForInStep.done (some none,r.2))) Q' st:=λst a hB ha han hs Q' kk=>by
  refine Nf (I:=λk c z=>z=st/\c=(none,k)/\AO rk st lo k) (λk c z h1 h2 h3=>?_) (λc z h3=>?_) ⟨rfl,rfl,hs⟩
  .obtain⟨rfl,rfl,h4⟩:=h3
   dsimp only
   refine LP (hB.lt hL (by lia) (by lia) ?_)
   by_cases e:kA rk z (lo+k)<kA rk z (lo+k -1)
   .rw[LN e]
    exact Md (kk k h1 (by lia) h4 (.inr e))
   .rw[LL e]
    exact Md ⟨rfl,rfl,h4.next (by lia) e⟩
  .obtain⟨rfl,rfl,h4⟩:=h3
   have e:max a n=n:=by lia
   rw[e] at h4⊢
   exact kk n han (Lp _) h4 (.inl rfl)
 rw[countRun'_eq]
 refine LP (asc st 1 hB (Lp 1) h1 AO.one _ λm m1 m2 hs hor=>?_)
 dsimp only
 by_cases e:m=n
 .rw[if_pos (by simpa using e)]
  exact Md (h m st hB m1 m2 hs)
 .rw[if_neg (by simpa using e)]
  have u_:=hor.resolve_left e
  refine' CI (P:=λe_=>TQ kd base lo pre pe e_/\DO rk e_ lo (m+1)) (λhj=>_) (λe_ hp=>_)
  rotate_left
  .by_cases hg:m>1
   .rw[if_pos hg]
    refine LP (hB.lt hL (by lia) (by lia) ?_)
    by_cases r:kA rk st lo<kA rk st (lo+m -1)
    .rw[LN r]
     exact Md (h m st hB m1 m2 hs)
    .rw[LL r]
     have hz:lo+m<=(arrOf st).size:=by rw[hB.sz];lia
     have all:∀k,lo<=k->k<lo+m->kA rk st k=kA rk st (lo+m -1):=λk k1 k2=>by
      have c1:=hs 0 (k -lo) (by lia) (by lia);have c2:=hs (k -lo) (m -1) (by lia) (by lia);rw[show lo+(k -lo)=k by lia,QK] at c1;rw[show lo+(k -lo)=k by lia,show lo+(m -1)=lo+m -1 by lia] at c2;lia
     dsimp only
     rw[if_neg (by decide)]
     refine LP (Rl (hj _ ⟨hB.rev (Lp _) (by lia),?_⟩))
     refine DO.next (st:=st) (λi j k_ hj=>?_) (by lia) (NI u_) (jW hz all)
     rw[all (lo+i) (by lia) (by lia),all (lo+j) (by lia) (by lia)];exact Nu _
   .rw[if_neg hg]
    have e1:m=1:=by lia
    subst e1
    refine hj _ ⟨hB,DO.next (st:=st) (λi j k_ hj=>?_) (Lp 1) (NI u_) λ_=>rfl⟩
    rw[show i=j by lia];exact Nu _
  .obtain⟨hB',hD⟩:=hp
   have tail:∀(k:Nat) (st:SortSt),TQ kd base lo pre pe st->1<=k->k<=n->DO rk st lo k->TQ kd base lo pre pe (setArr st (mirror (arrOf st) lo (lo+k) ((lo+k -lo)/2)))/\AO rk (setArr st (mirror (arrOf st) lo (lo+k) ((lo+k -lo)/2))) lo k:=λk st hB k1 k2 hD=>by
    have hz:lo+k<=(arrOf st).size:=by rw[hB.sz];lia
    refine⟨hB.rev (Lp _) (by lia),λi j k_ hj=>?_⟩;rw[uf hz,uf hz,if_pos ⟨by lia,by lia⟩,if_pos ⟨by lia,by lia⟩];have z:=hD (k -1 -j) (k -1 -i) (by lia) (by lia);rw[Kt (OI k_ hj),Kt hj] at z;exact z
   refine LP (RS (Pg ⟨rfl,?_⟩))
   refine LP (Oz (Nf (I:=λk c z=>∃q,c=(none,k,q)/\TQ kd base lo pre pe z/\DO rk z lo k/\q+1<=k/\∀i,lo+k -(q+1)<=i->i<lo+k->kA rk z i=kA rk z (lo+k -1)) (Q:=λc z=>∃k q,m+1<=k/\k<=n/\c=(none,k,q)/\TQ kd base lo pre pe z/\DO rk z lo k/\q+1<=k/\∀i,lo+k -(q+1)<=i->i<lo+k->kA rk z i=kA rk z (lo+k -1)) (λk c z a1 a2 a3=>?_) (λc z a3=>?_) ⟨0,rfl,hB',hD,by lia,λi b1 b2=>by rw[show i=lo+(m+1) -1 by lia]⟩) λc z a3=>?_)
   .obtain⟨q,rfl,b1,b2,b3,b4⟩:=a3
    dsimp only
    have hz:lo+k<=(arrOf z).size:=by rw[b1.sz];lia
    have one:∀z':SortSt,∀i,lo+(k+1) -(0+1)<=i->i<lo+(k+1)->kA rk z' i=kA rk z' (lo+(k+1) -1):=λz' i c1 c2=>by rw[show i=lo+(k+1) -1 by lia]
    refine LP (b1.lt hL (by lia) (by lia) ?_)
    by_cases e:kA rk z (lo+k)<kA rk z (lo+k -1)
    .rw[LN e]
     dsimp only
     rw[if_pos rfl]
     by_cases hq:q>0
     .rw[if_pos hq]
      exact LP (Rl (Md ⟨0,rfl,b1.rev (by lia) (by lia),b2.next (by lia) (NI e) (jW hz b4),by lia,one _⟩))
     .rw[if_neg hq]
      exact Md ⟨0,rfl,b1,b2.next (by lia) (NI e) (λ_=>rfl),by lia,one _⟩
    .rw[LL e]
     dsimp only
     rw[if_neg (by decide)]
     refine LP (b1.lt hL (by lia) (by lia) ?_)
     by_cases e2:kA rk z (lo+k -1)<kA rk z (lo+k)
     .rw[LN e2]
      exact Md ⟨k,q,a1,by lia,rfl,b1,b2,b3,b4⟩
     .rw[LL e2]
      have e3:kA rk z (lo+k)=kA rk z (lo+k -1):=by lia
      refine Md ⟨q+1,rfl,b1,b2.next (by lia) (by lia) (λ_=>rfl),by lia,λi c1 c2=>?_⟩
      rw[show lo+(k+1) -1=lo+k by lia]
      rcases MK i (lo+k) with y|y
      .rw[e3];exact b4 i (by lia) y
      .rw[show i=lo+k by lia]
   .obtain⟨q,rfl,b1,b2,b3,b4⟩:=a3
    have e:max (m+1) n=n:=by lia
    rw[e] at b2 b3 b4⊢
    exact⟨n,q,by lia,Lp _,rfl,b1,b2,b3,b4⟩
   .obtain⟨k,q,k1,k2,rfl,b1,b2,b3,b4⟩:=a3
    dsimp only
    by_cases hq:q>0
    .rw[if_pos hq]
     have hz:lo+k<=(arrOf z).size:=by rw[b1.sz];lia
     refine LP (Rl ?_)
     have t:=tail k _ (b1.rev (i:=lo+k -(q+1)) (j:=lo+k) (by lia) (by lia)) (by lia) k2 (λi j k_ hj=>by
      rw[jW hz b4,jW hz b4];exact b2 i j k_ hj)
     refine LP (Rl (LP (asc _ k t.1 (by lia) k2 t.2 _ λm' m1' XC hs' _=>Md (h m' _ t.1 (by lia) XC hs'))))
    .rw[if_neg hq]
     have t:=tail k z b1 (by lia) k2 b2
     refine LP (Rl (LP (asc _ k t.1 (by lia) k2 t.2 _ λm' m1' XC hs' _=>Md (h m' _ t.1 (by lia) XC hs'))))
def FX (hL:jG prog w A s rk kd base)(hB:TQ kd base lo pre pe st){n ok:Nat}{Q:Bool->SortSt->Prop}(hn:lo+n<=base.size)(hok:ok<=n)(hs:AO rk st lo ok)
  (h:∀e_,TQ kd base lo pre pe e_->AO rk e_ lo n->Q true e_):wpS (model prog w) A E s (binarySort' lo n ok) Q st:=by
 rw[binarySort'_eq]
 refine LP (Oz (Nf (I:=λk c z=>c=(none,())/\TQ kd base lo pre pe z/\AO rk z lo (min k n)) (Q:=λc z=>c=(none,())/\TQ kd base lo pre pe z/\AO rk z lo n) (λk c z a1 a2 a3=>?_) (λc z a3=>?_) ⟨rfl,hB,λi j k_ hj=>?_⟩) λc z a3=>?_)
 .obtain⟨rfl,b1,b2⟩:=a3
  rw[show min k n=k by lia] at b2
  refine LP (Oz (Nf (I:=λx c y=>y=z/\∃l r,c=(none,l,r)/\l<=r/\r<=k/\r -l<=k -x/\(∀i,i<l->kA rk z (lo+i)<=kA rk z (lo+k))/\(∀i,r<=i->i<k->kA rk z (lo+k)<kA rk z (lo+i)))
   (Q:=λc y=>y=z/\∃l r,c=(none,l,r)/\l<=k/\(∀i,i<l->kA rk z (lo+i)<=kA rk z (lo+k))/\(∀i,l<=i->i<k->kA rk z (lo+k)<kA rk z (lo+i))) (λx c y c1 c2 c3=>?_) (λc y c3=>?_) ⟨rfl,0,k,rfl,Ov _,Lp _,by lia,λi q=>absurd q (by lia),λi q1 q2=>absurd q2 (by lia)⟩) λc y c3=>?_)
  .obtain⟨rfl,l,r,rfl,d1,d2,d3,d4,d5⟩:=c3
   dsimp only
   by_cases g:l≥r
   .rw[if_pos g]
    have e:l=r:=RH d1 g
    subst e
    exact Md ⟨rfl,l,l,rfl,d2,d4,d5⟩
   .rw[if_neg g]
    obtain⟨u1,u2⟩:=Jw g
    generalize (l+r)/2=m at u1 u2⊢
    refine LP (b1.lt hL (by lia) (by lia) ?_)
    by_cases e:kA rk y (lo+k)<kA rk y (lo+m)
    .rw[LN e]
     refine Md ⟨rfl,l,m,rfl,u1,by lia,by lia,d4,λi q1 q2=>?_⟩
     have:=b2 m i q1 q2
     lia
    .rw[LL e]
     refine Md ⟨rfl,m+1,r,rfl,u2,d2,by lia,λi q1=>?_,d5⟩
     have:=b2 i m (Tr q1) (LJ u2 d2)
     lia
  .obtain⟨rfl,l,r,rfl,d1,d2,d3,d4,d5⟩:=c3
   have e:l=r:=by lia
   subst e
   exact⟨rfl,l,l,rfl,d2,d4,d5⟩
  .obtain⟨rfl,l,r,rfl,d1,d4,d5⟩:=c3
   show wpS _ _ _ _ (do moveDown' (lo+k) (lo+l);pure (ForInStep.yield (none,()))) _ y
   rw[moveDown'_eq]
   refine LP (RT (Md ⟨rfl,b1.mov (by lia) (by lia),λi j k_ hj=>?_⟩))
   have hk:lo+k<(arrOf y).size:=by rw[b1.sz];lia
   rw[yV hk (by lia),yV hk (by lia),show lo+k -(lo+k -(lo+l))=lo+l by lia]
   by_cases i1:i=l
   .rw[if_pos (by lia)]
    by_cases j1:j=l
    .rw[if_pos (by lia)];exact Nu _
    .rw[if_neg (by lia),if_pos ⟨by lia,by lia⟩]
     have z:=d5 (j -1) (by lia) (by lia)
     rw[Gx (show 1<=j by lia)] at z
     exact NI z
   .rw[if_neg (by lia)]
    by_cases i2:l<i/\i<=k
    .rw[if_pos ⟨by lia,by lia⟩,if_neg (by lia),if_pos ⟨by lia,by lia⟩]
     have z:=b2 (i -1) (j -1) (by lia) (by lia)
     rw[Gx (show 1<=i by lia),Gx (show 1<=j by lia)] at z
     exact z
    .rw[if_neg (by lia)]
     have il:i<l:=by lia
     by_cases j1:j=l
     .rw[if_pos (by lia)];exact d4 i il
     .rw[if_neg (by lia)]
      by_cases j2:l<j/\j<=k
      .rw[if_pos ⟨by lia,by lia⟩]
       have z:=b2 i (j -1) (by lia) (by lia)
       rw[Gx (show 1<=j by lia)] at z
       exact z
      .rw[if_neg (by lia)];exact b2 _ _ k_ (by lia)
 .obtain⟨hc,b1,b2⟩:=a3
  rw[show min (max (max ok 1) n) n=n by lia] at b2
  exact⟨hc,b1,b2⟩
 .by_cases e:ok=0
  .rw[show i=j by lia];exact Nu _
  .exact hs i j k_ (by lia)
 .obtain⟨rfl,b1,b2⟩:=a3
  exact Md (h z b1 b2)
end
abbrev Ci:Bool->Keyed->Array Keyed->Nat->Nat->Nat->StateT SortSt Sem (Option Nat):=sortPriv% PySem.Builtin.gallop
section
variable {prog:Program} {w:World} {A:Around} {E:Value->Shared->Prop} {s:Shared} {rk:Value->Int} {kd:SortKind} {base:Array Keyed} {st:SortSt}
def cG (rk:Value->Int)(xs:Array Keyed)(i:Nat):Int:=match xs[i]? with
 |some p=>rk p.1
 |none=>0
def J0 {xs:Array Keyed}{i:Nat}(h:i<xs.size):cG rk xs i=rk xs[i].1:=by
 unfold cG;rw[Ml h]
def sX (rk:Value->Int)(left:Bool)(key:Keyed)(arr:Array Keyed)(i:Nat):Bool:=if left then decide (cG rk arr i<rk key.1) else !decide (rk key.1<cG rk arr i)
def Il {β:Type}{By:Nat->Bool}{n lo hi:Nat}{f:Nat->Option β×Nat×Nat->StateT SortSt Sem (ForInStep (Option β×Nat×Nat))}
  (f1:∀x a b,a≥b->f x (none,a,b)=pure (.done (none,a,b))) (f2:∀x a b,a<b->b<=n->∀Q':ForInStep (Option β×Nat×Nat)->SortSt->Prop,Q' (.yield (if By (a+(b -a)/2)=true then(none,a+(b -a)/2+1,b) else(none,a,a+(b -a)/2))) st->wpS (model prog w) A E s (f x (none,a,b)) Q' st)
  (mono:∀i j,i<=j->j<n->By j=true->By i=true) (h1:lo<=hi) (h2:hi<=n) (h3:∀i,i<lo->By i=true) (h4:∀i,hi<=i->i<n->By i=false):wpS (model prog w) A E s (forIn [0:n] ((none:Option β),lo,hi) f) (λc z=>z=st/\∃a k,c=(none,a,k)/\k<=n/\(∀i,i<k->By i=true)/\∀i,k<=i->i<n->By i=false) st:=by
 refine Nf (I:=λx c z=>z=st/\∃a b,c=(none,a,b)/\a<=b/\b<=n/\b -a<=n -x/\(∀i,i<a->By i=true)/\∀i,b<=i->i<n->By i=false) (λx c z a1 a2 a3=>?_) (λc z a3=>?_) ⟨rfl,lo,hi,rfl,h1,h2,by lia,h3,h4⟩
 .obtain⟨rfl,a,b,rfl,c1,c2,c3,c4,c5⟩:=a3
  by_cases e:a≥b
  .rw[f1 x a b e]
   have e':a=b:=RH c1 e
   subst e'
   exact Md ⟨rfl,a,a,rfl,c2,c4,c5⟩
  .refine f2 x a b (Nat.lt_of_not_le e) c2 _ ?_
   obtain⟨u1,u2⟩:=GY e
   have u3:b -(a+(b -a)/2+1)<=n -(x+1)/\a+(b -a)/2 -a<=n -(x+1):=by lia
   generalize a+(b -a)/2=m at u1 u2 u3⊢
   cases e2:By m with
   |true=>exact⟨rfl,_,_,rfl,u2,c2,u3.1,λi hi=>mono i _ (Tr hi) (LJ u2 c2) e2,c5⟩
   |false=>
    refine⟨rfl,_,_,rfl,u1,Mh (NY u2) c2,u3.2,c4,λi q1 q2=>?_⟩
    cases e3:By i with
    |false=>rfl
    |true=>rw[mono _ i q1 q2 e3] at e2;cases e2
 .obtain⟨rfl,a,b,rfl,c1,c2,c3,c4,c5⟩:=a3
  have e':a=b:=by lia
  subst e'
  exact⟨rfl,a,a,rfl,c2,c4,c5⟩
def ia (hL:jG prog w A s rk kd base)(hk:kindOf st=kd){left:Bool}{key:Keyed}{arr:Array Keyed}{bs n hint:Nat}{Q:Option Nat->SortSt->Prop}(M_:key∈base.toList)(hsz:bs+n<=arr.size)(j_:∀i (h:i<arr.size),arr[i]∈base.toList)(hh:hint<n)
  (asc:∀i j,i<=j->j<n->cG rk arr (bs+i)<=cG rk arr (bs+j)) (h:∀k,k<=n->(∀i,i<k->sX rk left key arr (bs+i)=true)->(∀i,k<=i->i<n->sX rk left key arr (bs+i)=false)->Q (some k) st):wpS (model prog w) A E s (Ci left key arr bs n hint) Q st:=by
 obtain⟨By,hBy⟩:∃By:Nat->Bool,∀i,By i=sX rk left key arr (bs+i):=⟨_,λ_=>rfl⟩
 have mono:∀i j,i<=j->j<n->By j=true->By i=true:=λi j k_ hj hy=>by
  have z:=asc i j k_ hj;rw[hBy] at hy⊢;unfold sX at hy⊢;cases left<;>simp at hy⊢<;>lia
 have ask:∀i,i<n->∀Q':Option Bool->SortSt->Prop,Q' (some (By i)) st->wpS (model prog w) A E s (elem' arr (bs+i)>>=λx=>if left=true then lt' x key else lt' key x>>=λr=>pure (Option.map (λx=>!x) r)) Q' st:=λi hi Q' q=>by
  have hl:bs+i<arr.size:=by lia
  refine LP (L9 hl ?_);rw[hBy] at q;unfold sX at q;rw[J0 hl] at q;cases left with
  |true=>exact tH hL hk (j_ _ hl) M_ q
  |false=>exact LP (tH hL hk M_ (j_ _ hl) (Md q))
 simp only[←hBy] at h
 refine LP (ask hint hh _ ?_)
 dsimp only
 cases hr:By hint with
 |true=>
  rw[if_pos rfl]
  refine LP (Oz (Nf (I:=λx c z=>z=st/\∃a b,c=(none,a,b)/\a<b/\hint+a<n/\x+1<=b/\By (hint+a)=true) (Q:=λc z=>z=st/\∃a b,c=(none,a,b)/\a<b/\hint+a<n/\By (hint+a)=true/\(n -hint<=b\/By (hint+b)=false)) (λx c z a1 a2 a3=>?_) (λc z a3=>?_) ⟨rfl,0,1,rfl,by lia,by lia,by lia,hr⟩) λc z a3=>?_)
  .obtain⟨rfl,a,b,rfl,c1,c2,c3,c4⟩:=a3
   dsimp only
   by_cases e:b≥n -hint
   .rw[if_pos e]
    exact Md ⟨rfl,a,b,rfl,c1,c2,c4,.inl e⟩
   .rw[if_neg e]
    refine LP (ask (hint+b) (by lia) _ ?_)
    cases e2:By (hint+b) with
    |false=>exact Md ⟨rfl,a,b,rfl,c1,c2,c4,.inr e2⟩
    |true=>exact Md ⟨rfl,b,2*b+1,rfl,by lia,by lia,by lia,e2⟩
  .obtain⟨rfl,a,b,rfl,c1,c2,c3,c4⟩:=a3
   exact⟨rfl,a,b,rfl,c1,c2,c4,.inl (by lia)⟩
  .obtain⟨rfl,a,b,rfl,c1,c2,c4,c5⟩:=a3
   dsimp only
   refine LP (Oz (Il (By:=By) (λx a b e=>if_pos e) (λx a b e e' Q' q=>?_) mono (by lia) (by lia) (λi hi=>mono i _ (by lia) c2 c4) (λi q1 q2=>?_)) λc z hz=>by
    obtain⟨rfl,a,k,rfl,k1,k2,k3⟩:=hz;exact Md (h k k1 k2 k3))
   .dsimp only
    rw[if_neg (by lia)]
    refine LP (ask _ (by lia) _ ?_)
    cases e2:By (a+(b -a)/2) with
    |true=>rw[e2,if_pos rfl] at q;exact Md q
    |false=>rw[e2,if_neg (by decide)] at q;exact Md q
   .rcases c5 with c5|c5
    .exact absurd q1 (by lia)
    .cases e3:By i with
     |false=>rfl
     |true=>rw[mono (hint+b) i (by lia) q2 e3] at c5;cases c5
 |false=>
  rw[if_neg (by decide)]
  refine LP (Oz (Nf (I:=λx c z=>z=st/\∃a b,c=(none,a,b)/\a<b/\a<=hint/\x+1<=b/\By (hint -a)=false) (Q:=λc z=>z=st/\∃a b,c=(none,a,b)/\a<b/\a<=hint/\By (hint -a)=false/\(hint+1<=b\/(b<=hint/\By (hint -b)=true))) (λx c z a1 a2 a3=>?_) (λc z a3=>?_) ⟨rfl,0,1,rfl,by lia,by lia,by lia,hr⟩) λc z a3=>?_)
  .obtain⟨rfl,a,b,rfl,c1,c2,c3,c4⟩:=a3
   dsimp only
   by_cases e:b≥hint+1
   .rw[if_pos e]
    exact Md ⟨rfl,a,b,rfl,c1,c2,c4,.inl e⟩
   .rw[if_neg e]
    refine LP (ask (hint -b) (by lia) _ ?_)
    cases e2:By (hint -b) with
    |true=>exact Md ⟨rfl,a,b,rfl,c1,c2,c4,.inr ⟨by lia,e2⟩⟩
    |false=>exact Md ⟨rfl,b,2*b+1,rfl,by lia,by lia,by lia,e2⟩
  .obtain⟨rfl,a,b,rfl,c1,c2,c3,c4⟩:=a3
   exact⟨rfl,a,b,rfl,c1,c2,c4,.inl (by lia)⟩
  .obtain⟨rfl,a,b,rfl,c1,c2,c4,c5⟩:=a3
   dsimp only
   refine LP (Oz (Il (By:=By) (λx a b e=>if_pos e) (λx a b e e' Q' q=>?_) mono (by lia) (by lia) (λi hi=>?_) (λi q1 q2=>?_)) λc z hz=>by
    obtain⟨rfl,a,k,rfl,k1,k2,k3⟩:=hz;exact Md (h k k1 k2 k3))
   .dsimp only
    rw[if_neg (by lia)]
    refine LP (ask _ (by lia) _ ?_)
    cases e2:By (a+(b -a)/2) with
    |true=>rw[e2,if_pos rfl] at q;exact Md q
    |false=>rw[e2,if_neg (by decide)] at q;exact Md q
   .rcases c5 with c5|⟨c5,c6⟩
    .exact absurd hi (by lia)
    .exact mono i (hint -b) (by lia) (by lia) c6
   .cases e3:By i with
    |false=>rfl
    |true=>rw[mono (hint -a) i q1 q2 e3] at c4;cases c4
end
abbrev Bk:Array Keyed->Array Keyed->StateT SortSt Sem (Array Keyed):=sortPriv% PySem.Builtin.mergeLo
abbrev Bn:Array Keyed->Array Keyed->StateT SortSt Sem (Array Keyed):=sortPriv% PySem.Builtin.mergeHi
section
variable {prog:Program} {w:World} {A:Around} {E:Value->Shared->Prop} {s:Shared} {rk:Value->Int} {kd:SortKind} {base:Array Keyed} {st:SortSt}
def K6 {α:Type}(xs:Array α)(i j:Nat):(xs.extract i j).toList=(xs.toList.drop i).take (j -i):=by
 simp [Array.toList_extract,List.extract_eq_drop_take]
def O6 {α:Type}(xs:Array α)(i:Nat):(xs.extract i).toList=xs.toList.drop i:=by
 rw[K6,Lu (by simp)]
def lN {α:Type}{X:List α}{i k:Nat}{x:α}(h:x∈(X.drop i).take k):∃t,t<k/\X[i+t]?=some x:=by
 obtain⟨t,ht⟩:=MV h;rw[OJ] at ht;split at ht
 .next z=>exact⟨t,z,by rw[NB] at ht;exact ht⟩
 .cases ht
def pq {α:Type}{X:List α}{i:Nat}{x:α}(h:x∈X.drop i):∃t,X[i+t]?=some x:=by
 obtain⟨t,ht⟩:=MV h;exact⟨t,by rw[NB] at ht;exact ht⟩
def Srt (rk:Value->Int)(l:List Keyed):Prop:=l.Pairwise λx y=>rk x.1<=rk y.1
def Srt.at_ {l:List Keyed}(h:Srt rk l){i j:Nat}{x y:Keyed}(k_:i<=j)(hx:l[i]?=some x)(hy:l[j]?=some y):rk x.1<=rk y.1:=by
 have li:i<l.length:=Mf.mp hx|>.1;have lj:j<l.length:=Mf.mp hy|>.1;have ex:l[i]=x:=(Mf.mp hx).2;have ey:l[j]=y:=(Mf.mp hy).2;rcases MK i j with z|z
 .have q:=Od.mp h i j li lj z;rw[ex,ey] at q;exact q
 .have e:i=j:=by lia
  subst e;rw[←ex,←ey];exact Nu _
structure MI (rk:Value->Int) (X Y o:List Keyed) (i j:Nat):Prop where
 p:(o++(X.drop i++Y.drop j)).Perm (X++Y)
 s1:Srt rk (o++X.drop i)
 s2:Srt rk (o++Y.drop j)
def MF (rk:Value->Int)(X Y r:List Keyed):Prop:=r.Perm (X++Y)/\Srt rk r
def MI.swap {X Y o:List Keyed}{i j:Nat}(h:MI rk X Y o i j):MI rk Y X o j i:=
 ⟨((Nx o Ng).trans h.p).trans Ng,h.s2,h.s1⟩
def MI.mv {X Y o:List Keyed}{i j:Nat}(h:MI rk X Y o i j)(k:Nat)(hc:∀x∈(X.drop i).take k,∀y∈Y.drop j,rk x.1<=rk y.1):MI rk X Y (o++(X.drop i).take k) (i+k) j:=by
 have e:(X.drop i).take k++X.drop (i+k)=X.drop i:=by rw[←PU];exact ML k _
 refine⟨?_,?_,?_⟩
 .have p:=h.p;rw[←e] at p;refine List.Perm.trans (Pr ?_) p;simp only[LS]
 .show Srt rk _;rw[LS,e];exact h.s1
 .have z:=MB.mp h.s1;have z2:=MB.mp h.s2;have tk:∀x,x∈(X.drop i).take k->x∈X.drop i:=λx hx=>MG hx;refine MB.mpr ⟨MB.mpr ⟨z.1,z.2.1.sublist (Og _ _),λx hx y hy=>z.2.2 x hx y (tk y hy)⟩,z2.2.1,λx hx y hy=>?_⟩;rcases LC.mp hx with q|q
  .exact z2.2.2 x q y hy
  .exact hc x q y hy
def vy {α:Type}{X:List α}{i:Nat}{x:α}(h:X[i]?=some x):(X.drop i).take 1=[x]:=by
 have li:i<X.length:=(Mf.mp h).1;rw[Mj li,List.take_succ_cons,Si,(Mf.mp h).2]
def MI.one {X Y o:List Keyed}{i j:Nat}{x:Keyed}(h:MI rk X Y o i j)(hx:X[i]?=some x)(hc:∀y∈Y.drop j,rk x.1<=rk y.1):MI rk X Y (o++[x]) (i+1) j:=by
 have z:=h.mv 1 (by rw[vy hx];intro u hu;rw[LV.mp hu];exact hc);rw[vy hx] at z;exact z
def MI.endY {X Y o:List Keyed}{i j:Nat}(h:MI rk X Y o i j)(hj:Y.length<=j):MF rk X Y (o++X.drop i++Y.drop j):=by
 have e:Y.drop j=[]:=RB hj;have p:=h.p;rw[e,MD] at p⊢;exact⟨p,h.s1⟩
def MI.endX {X Y o:List Keyed}{i j:Nat}(h:MI rk X Y o i j)(hi:X.length<=i):MF rk X Y (o++X.drop i++Y.drop j):=by
 have e:X.drop i=[]:=RB hi;have p:=h.p;rw[e,Qr] at p;rw[e,MD];exact⟨p,h.s2⟩
def MI.last {X Y o:List Keyed}{i j:Nat}(h:MI rk X Y o i j)(hl:∀y∈Y.drop j,∀x∈X.drop i,rk y.1<=rk x.1):MF rk X Y (o++Y.drop j++X.drop i):=by
 have z:=MB.mp h.s1;refine⟨?_,MB.mpr ⟨h.s2,z.2.1,λu hu v hv=>?_⟩⟩
 .rw[LS];exact(Nx o Ng).trans h.p
 .rcases LC.mp hu with q|q
  .exact z.2.2 u q v hv
  .exact hl u q v hv
end
def SG (st z:SortSt):Prop:=kindOf z=kindOf st/\arrOf z=arrOf st/\pendingOf z=pendingOf st/\failedOf z=failedOf st
section
variable {prog:Program} {w:World} {A:Around} {E:Value->Shared->Prop} {s:Shared} {rk:Value->Int} {kd:SortKind} {base:Array Keyed} {st:SortSt}
abbrev om:Nat->StateT SortSt Sem Unit:=sortPriv% PySem.Builtin.setMinGallop
def qa {g:Nat}{Q:Unit->SortSt->Prop}{z:SortSt}(hz:SG st z)(h:∀z',SG st z'->Q () z'):wpS (model prog w) A E s (om g) Q z:=by
 exact RT (h _ hz)
structure Hd (T:Prop):Prop where
 g:T
def kt {T G:Prop}(a:Hd T->G)(b:T):G:=a ⟨b⟩
def FU (hL:jG prog w A s rk kd base)(hk:kindOf st=kd){a b:Array Keyed}{Q:Array Keyed->SortSt->Prop}(ha:∀x∈a.toList,x∈base.toList)(hb:∀x∈b.toList,x∈base.toList)(sa:Srt rk a.toList)(sb:Srt rk b.toList)(la:0<a.size)(lb:0<b.size)
  (h0:∀x∈a.toList,cG rk b 0<=rk x.1) (hl:∀y∈b.toList,rk y.1<=cG rk a (a.size -1)) (h:∀o z,SG st z->MF rk a.toList b.toList o.toList->Q o z):wpS (model prog w) A E s (Bk a b) Q st:=by
 have ga:∀i (hi:i<a.size),a.toList[i]?=some a[i]:=λi hi=>by rw[Mb,Ml hi]
 have gb:∀i (hi:i<b.size),b.toList[i]?=some b[i]:=λi hi=>by rw[Mb,Ml hi]
 have VU:∀i (hi:i<a.size),a[i]∈base.toList:=λi hi=>ha _ (LF (ga i hi))
 have VW:∀i (hi:i<b.size),b[i]∈base.toList:=λi hi=>hb _ (LF (gb i hi))
 have aa:∀i j,i<=j->j<a.size->cG rk a i<=cG rk a j:=λi j k_ hj=>by
  rw[J0 (show i<a.size by lia),J0 hj];exact sa.at_ k_ (ga i (by lia)) (ga j hj)
 have ab:∀i j,i<=j->j<b.size->cG rk b i<=cG rk b j:=λi j k_ hj=>by
  rw[J0 (show i<b.size by lia),J0 hj];exact sb.at_ k_ (gb i (by lia)) (gb j hj)
 have ix:∀{X:Array Keyed} {i:Nat} {x:Keyed},X.toList[i]?=some x->i<X.size/\rk x.1=cG rk X i:=fun{X i x} e=>by
  rw[Mb] at e;unfold cG;rw[e];refine⟨?_,rfl⟩;rcases MK i X.size with z|z
  .exact z
  .rw[OE z] at e;cases e
 have za:a.toList.length=a.size:=Mz
 have zb:b.toList.length=b.size:=Mz
 have fY:∀(o:Array Keyed) (i j:Nat) (z:SortSt),SG st z->MI rk a.toList b.toList o.toList i j->b.size<=j->Q (o++a.extract i++b.extract j) z:=λo i j z hz M hj=>h _ z hz (by
  rw[MA,MA,O6,O6];exact M.endY (by lia))
 have fX:∀(o:Array Keyed) (i j:Nat) (z:SortSt),SG st z->MI rk a.toList b.toList o.toList i j->a.size<=i->Q (o++a.extract i++b.extract j) z:=λo i j z hz M hj=>h _ z hz (by
  rw[MA,MA,O6,O6];exact M.endX (by lia))
 have fL:∀(o:Array Keyed) (i j:Nat) (z:SortSt),SG st z->MI rk a.toList b.toList o.toList i j->i+1=a.size->Q (o++b.extract j++a.extract i) z:=λo i j z hz M hi=>h _ z hz (by
  rw[MA,MA,O6,O6];refine M.last λy hy x hx=>?_;obtain⟨t,ht⟩:=pq hx;obtain⟨l1,e1⟩:=ix ht;have e:i+t=a.size -1:=by lia
  rw[e1,e];exact hl y (MZ hy))
 have M0:MI rk a.toList b.toList (#[b[0]]:Array Keyed).toList 0 1:=by
  have e:b.toList=b[0]::b.toList.drop 1:=by
   have z:=Mj (l:=b.toList) (i:=0) (by lia);rw[NT] at z;exact z
  refine⟨?_,?_,?_⟩
  .show([b[0]]++(a.toList.drop 0++b.toList.drop 1)).Perm (a.toList++b.toList);rw[NT];refine List.Perm.trans ?_ (Pr (Mw (a.toList++·) e.symm));exact(List.perm_middle (a:=b[0]) (l₁:=a.toList) (l₂:=b.toList.drop 1)).symm
  .show Srt rk ([b[0]]++a.toList.drop 0);rw[NT];exact Na.mpr ⟨λx hx=>by have z:=h0 x hx;rw[J0 lb] at z;exact z,sa⟩
  .show Srt rk ([b[0]]++b.toList.drop 1);have z:=sb;rw[e] at z;exact z
 have XD:∀(o:Array Keyed) (i j:Nat) (hj:j<b.size),MI rk a.toList b.toList o.toList i j->(∀x∈a.toList.drop i,rk b[j].1<=rk x.1)->MI rk a.toList b.toList (o.push b[j]).toList i (j+1):=λo i j hj M hc=>by
  rw[OP];exact(M.swap.one (gb j hj) hc).swap
 have XE:∀(o:Array Keyed) (i j:Nat) (hi:i<a.size),MI rk a.toList b.toList o.toList i j->(∀y∈b.toList.drop j,rk a[i].1<=rk y.1)->MI rk a.toList b.toList (o.push a[i]).toList (i+1) j:=λo i j hi M hc=>by
  rw[OP];exact M.one (ga i hi) hc
 have geA:∀(i:Nat) (v:Int),(i<a.size->v<=cG rk a i)->∀x∈a.toList.drop i,v<=rk x.1:=λi v hv x hx=>by
  obtain⟨t,ht⟩:=pq hx;obtain⟨l1,e1⟩:=ix ht;rw[e1];exact NJ (hv (by lia)) (aa i (i+t) (by lia) l1)
 have geB:∀(i:Nat) (v:Int),(i<b.size->v<=cG rk b i)->∀x∈b.toList.drop i,v<=rk x.1:=λi v hv x hx=>by
  obtain⟨t,ht⟩:=pq hx;obtain⟨l1,e1⟩:=ix ht;rw[e1];exact NJ (hv (by lia)) (ab i (i+t) (by lia) l1)
 have VX:SG st st:=⟨rfl,rfl,rfl,rfl⟩
 refine LP (RS (Pg ⟨rfl,LP (L9 lb ?_)⟩))
 by_cases e1:1=b.size
 .rw[if_pos (by simpa using e1)]
  exact Md (fY _ 0 1 st VX M0 (by lia))
 rw[if_neg (by simpa using e1)]
 by_cases e2:1=a.size
 .rw[if_pos (by simpa using e2)]
  exact Md (fL _ 0 1 st VX M0 e2)
 rw[if_neg (by simpa using e2)]
 refine LP (Rk ?_)
 refine LP (Oz (Nf (I:=λx c z=>SG st z/\∃o i j g,c=(none,o,i,j,g)/\MI rk a.toList b.toList o.toList i j/\i+1<a.size/\j<b.size/\x+1<=i+j) (Q:=λc z=>∃r o i j g,c=(some r,o,i,j,g)/\Q r z) (λx c z a1 a2 a3=>?_) (λc z a3=>?_) ⟨VX,_,_,_,_,rfl,M0,by lia,by lia,by lia⟩) λc z a3=>?_)
 .obtain⟨hz,o,i,j,g,rfl,M,c1,c2,c3⟩:=a3
  dsimp only
  refine LP (Oz (Nf (I:=λy c z=>SG st z/\∃o i' j' ac bc,c=(none,o,i',j',ac,bc)/\MI rk a.toList b.toList o.toList i' j'/\i'+1<a.size/\j'<b.size/\i+j+y<=i'+j') (Q:=λc z=>(∃r o i j ac bc,c=(some r,o,i,j,ac,bc)/\Q r z)\/(SG st z/\∃o i' j' ac bc,c=(none,o,i',j',ac,bc)/\MI rk a.toList b.toList o.toList i' j'/\i'+1<a.size/\j'<b.size/\i+j+1<=i'+j')) (λy c z a1' a2' a3=>?_) (λc z a3=>?_) ⟨hz,_,_,_,_,_,rfl,M,c1,c2,by lia⟩) λc z a3=>?_)
  .obtain⟨hz,o,i',j',ac,bc,rfl,M,d1,d2,d3⟩:=a3
   dsimp only
   have B':i'<a.size:=by lia
   refine LP (L9 d2 (LP (L9 B' (LP (tH hL (hz.1.trans hk) (VW j' d2) (VU i' B') ?_)))))
   by_cases e:rk b[j'].1<rk a[i'].1
   .rw[LN e]
    dsimp only
    rw[if_pos rfl]
    refine LP (L9 d2 ?_)
    have M':=XD o i' j' d2 M (geA i' _ λ_=>by rw[J0 B'];exact NI e)
    by_cases eb:j'+1=b.size
    .rw[if_pos (by simpa using eb)]
     exact Md (.inl ⟨_,_,_,_,_,_,rfl,fY _ _ _ z hz M' (by lia)⟩)
    .rw[if_neg (by simpa using eb)]
     split
     .exact Md (.inr ⟨hz,_,_,_,_,_,rfl,M',d1,by lia,by lia⟩)
     .exact Md ⟨hz,_,_,_,_,_,rfl,M',d1,by lia,by lia⟩
   .rw[LL e]
    dsimp only
    rw[if_neg (by decide)]
    refine LP (L9 B' ?_)
    have M':=XE o i' j' B' M (geB j' _ λ_=>by rw[J0 d2];exact Int.not_lt.mp e)
    by_cases eb:i'+1+1=a.size
    .rw[if_pos (by simpa using eb)]
     exact Md (.inl ⟨_,_,_,_,_,_,rfl,fL _ _ _ z hz M' eb⟩)
    .rw[if_neg (by simpa using eb)]
     split
     .exact Md (.inr ⟨hz,_,_,_,_,_,rfl,M',by lia,d2,by lia⟩)
     .exact Md ⟨hz,_,_,_,_,_,rfl,M',by lia,d2,by lia⟩
  .obtain⟨hz,o,i',j',ac,bc,rfl,M,d1,d2,d3⟩:=a3
   exact .inr ⟨hz,_,_,_,_,_,rfl,M,d1,d2,by lia⟩
  .rcases a3 with⟨r,o,i',j',ac,bc,rfl,hr⟩|⟨hz,o,i',j',ac,bc,rfl,M,d1,d2,d3⟩
   .exact Md ⟨r,_,_,_,_,rfl,hr⟩
   dsimp only
   refine LP (RS (Pg ⟨rfl,?_⟩))
   refine LP (Oz (Nf (I:=λy c z=>SG st z/\∃o i' j' g ac bc,c=(none,o,i',j',g,ac,bc)/\MI rk a.toList b.toList o.toList i' j'/\i'+1<a.size/\j'<b.size/\i+j+1<=i'+j') (Q:=λc z=>(∃r o i j g ac bc,c=(some r,o,i,j,g,ac,bc)/\Q r z)\/(SG st z/\∃o i' j' g ac bc,c=(none,o,i',j',g,ac,bc)/\MI rk a.toList b.toList o.toList i' j'/\i'+1<a.size/\j'<b.size/\i+j+1<=i'+j')) (λy c z a1' a2' a3=>?_) (λc z a3=> .inr a3) ⟨hz,_,_,_,_,_,_,rfl,M,d1,d2,d3⟩) λc z a3=>?_)
   .obtain⟨hz,o,i',j',g,ac,bc,rfl,M,d1,d2,d3⟩:=a3
    dsimp only
    have B':i'<a.size:=by lia
    apply kt
    case a=>
     intro key
     by_cases hg:g>1
     .rw[if_pos hg];generalize g -1=x;revert x;exact key.g
     .rw[if_neg hg];exact key.g _
    case b=>
     intro g
     refine LP (qa hz λz hz=>?_)
     refine LP (L9 d2 ?_)
     refine LP (ia hL (hz.1.trans hk) (VW j' d2) (by lia) VU (by lia) (λp q H_ hq=>aa _ _ (by lia) (by lia)) λk k1 k2 k3=>?_)
     dsimp only
     have cA:∀x∈a.toList.drop (i'+k),rk b[j'].1<=rk x.1:=geA _ _ λu_=>by
      have z:=k3 k (Lp _) (by lia);unfold sX at z;simp at z;exact NI z
     have Mk:=M.mv k λx hx y hy=>by
      obtain⟨t,t1,ht⟩:=lN hx;obtain⟨l1,e1⟩:=ix ht;have z:=k2 t t1;unfold sX at z;simp at z;rw[e1];refine NJ z ?_;exact geB j' _ (λ_=>by rw[J0 d2];exact Nu _) y hy
     apply kt
     case a=>
      intro key
      by_cases e:k>0
      case pos=>
       rw[if_pos e]
       have M':MI rk a.toList b.toList (o++a.extract i' (i'+k)).toList (i'+k) j':=by
        rw[MA,K6,show i'+k -i'=k by lia];exact Mk
       by_cases ea:i'+k+1=a.size
       .rw[if_pos (by simpa using ea)]
        exact Md (.inl ⟨_,_,_,_,_,_,_,rfl,fL _ _ _ z hz M' ea⟩)
       rw[if_neg (by simpa using ea)]
       by_cases eb:i'+k=a.size
       .rw[if_pos (by simpa using eb)]
        exact Md (.inl ⟨_,_,_,_,_,_,_,rfl,fX _ _ _ z hz M' (by lia)⟩)
       rw[if_neg (by simpa using eb)]
       have h1:i'+k+1<a.size:=by lia
       have h2:i+j+1<=i'+k+j':=by lia
       have c:=cA;revert M' h1 h2 c;generalize o++a.extract i' (i'+k)=x;generalize i'+k=y;revert x y;exact key.g
      case neg=>
       rw[if_neg e]
       have e0:k=0:=by lia
       rw[e0,QK] at cA;exact key.g _ _ M d1 d3 cA
     case b=>
      intro o i' M d1 d3 cA
      have B':i'<a.size:=by lia
      refine LP (L9 d2 ?_)
      have M':=XD o i' j' d2 M cA
      by_cases eb:j'+1=b.size
      .rw[if_pos (by simpa using eb)]
       exact Md (.inl ⟨_,_,_,_,_,_,_,rfl,fY _ _ _ z hz M' (by lia)⟩)
      rw[if_neg (by simpa using eb)]
      refine LP (L9 B' ?_)
      refine LP (ia hL (hz.1.trans hk) (VU i' B') (by lia) VW (by lia) (λp q H_ hq=>ab _ _ (by lia) (by lia)) λk' k1' VZ VR=>?_)
      dsimp only
      have cB:∀x∈b.toList.drop (j'+1+k'),rk a[i'].1<=rk x.1:=geB _ _ λu_=>by
       have z:=VR k' (Lp _) (by lia);unfold sX at z;simp at z;exact z
      have Mk':=(M'.swap.mv k' λx hx y hy=>by
       obtain⟨t,t1,ht⟩:=lN hx;obtain⟨l1,e1⟩:=ix ht;have z:=VZ t t1;unfold sX at z;simp at z;rw[e1];refine NJ (NI z) ?_;exact geA i' _ (λ_=>by rw[J0 B'];exact Nu _) y hy).swap
      apply kt
      case a=>
       intro key
       by_cases e:k'>0
       case pos=>
        rw[if_pos e]
        have M2:MI rk a.toList b.toList (o.push b[j']++b.extract (j'+1) (j'+1+k')).toList i' (j'+1+k'):=by
         rw[MA,K6,show j'+1+k' -(j'+1)=k' by lia];exact Mk'
        by_cases ea:j'+1+k'=b.size
        .rw[if_pos (by simpa using ea)]
         exact Md (.inl ⟨_,_,_,_,_,_,_,rfl,fY _ _ _ z hz M2 (by lia)⟩)
        rw[if_neg (by simpa using ea)]
        have h1:j'+1+k'<b.size:=by lia
        have h2:i+j+1<=i'+(j'+1+k'):=by lia
        have c:=cB;revert M2 h1 h2 c;generalize o.push b[j']++b.extract (j'+1) (j'+1+k')=x;generalize j'+1+k'=y;revert x y;exact key.g
       case neg=>
        rw[if_neg e]
        have e0:k'=0:=by lia
        rw[e0,QK] at cB;exact key.g _ _ M' (by lia) (by lia) cB
      case b=>
       intro o j'' M d2 d3 cB
       refine LP (L9 B' ?_)
       have M2:=XE o i' j'' B' M cB
       by_cases ea:i'+1+1=a.size
       .rw[if_pos (by simpa using ea)]
        exact Md (.inl ⟨_,_,_,_,_,_,_,rfl,fL _ _ _ z hz M2 ea⟩)
       .rw[if_neg (by simpa using ea)]
        split
        .exact Md (.inr ⟨hz,_,_,_,_,_,_,rfl,M2,by lia,d2,by lia⟩)
        .exact Md ⟨hz,_,_,_,_,_,_,rfl,M2,by lia,d2,by lia⟩
   .rcases a3 with⟨r,o,i',j',g,ac,bc,rfl,hr⟩|⟨hz,o,i',j',g,ac,bc,rfl,M,d1,d2,d3⟩
    .exact Md ⟨r,_,_,_,_,rfl,hr⟩
    .exact LP (qa hz λz hz=>Md ⟨hz,_,_,_,_,rfl,M,d1,d2,by lia⟩)
 .obtain⟨hz,o,i,j,g,rfl,M,c1,c2,c3⟩:=a3
  exfalso
  lia
 .obtain⟨r,o,i,j,g,rfl,hr⟩:=a3
  exact Md hr
end
section
variable {prog:Program} {w:World} {A:Around} {E:Value->Shared->Prop} {s:Shared} {rk:Value->Int} {kd:SortKind} {base:Array Keyed} {st:SortSt}
structure MH (rk:Value->Int) (X Y o:List Keyed) (i j:Nat):Prop where
 p:(X.take i++Y.take j++o).Perm (X++Y)
 s1:Srt rk (X.take i++o)
 s2:Srt rk (Y.take j++o)
def MH.swap {X Y o:List Keyed}{i j:Nat}(h:MH rk X Y o i j):MH rk Y X o j i:=
 ⟨((OF o Ng).trans h.p).trans Ng,h.s2,h.s1⟩
def MH.mv {X Y o:List Keyed}{i j:Nat}(h:MH rk X Y o i j)(k:Nat)(hk:k<=i)(hc:∀x∈(X.drop k).take (i -k),∀y∈Y.take j,rk y.1<=rk x.1):MH rk X Y ((X.drop k).take (i -k)++o) k j:=by
 have e:X.take k++(X.drop k).take (i -k)=X.take i:=by
  have z:=ML k (X.take i);rw[List.take_take,Nat.min_eq_left hk,List.drop_take] at z;exact z
 refine⟨?_,?_,?_⟩
 .have p:=h.p;rw[←e] at p;refine List.Perm.trans ?_ p;simp only[LS];exact Nx _ (List.perm_append_comm_assoc _ _ _)
 .show Srt rk _;rw[←LS,e];exact h.s1
 .have z:=h.s1;rw[←e,LS] at z;have z1:=MB.mp z;have z2:=MB.mp h.s2;refine MB.mpr ⟨z2.1,z1.2.1,λx hx y hy=>?_⟩;rcases LC.mp hy with q|q
  .exact hc y q x hx
  .exact z2.2.2 x hx y q
def MH.one {X Y o:List Keyed}{i j:Nat}{x:Keyed}(h:MH rk X Y o i j)(h1:1<=i)(hx:X[i -1]?=some x)(hc:∀y∈Y.take j,rk y.1<=rk x.1):MH rk X Y (x::o) (i -1) j:=by
 have z:=h.mv (i -1) (by lia);rw[show i -(i -1)=1 by lia,vy hx] at z;exact z λu hu=>by rw[LV.mp hu];exact hc
def MH.endX {X Y o:List Keyed}{j:Nat}(h:MH rk X Y o 0 j):MF rk X Y (X.take 0++Y.take j++o):=⟨h.p,h.s2⟩
def MH.endY {X Y o:List Keyed}{i:Nat}(h:MH rk X Y o i 0):MF rk X Y (X.take i++Y.take 0++o):=by
 refine⟨h.p,?_⟩;rw[Si,MD];exact h.s1
def MH.first {X Y o:List Keyed}{i j:Nat}(h:MH rk X Y o i j)(hl:∀y∈Y.take j,∀x∈X.take i,rk y.1<=rk x.1):MF rk X Y (Y.take j++X.take i++o):=by
 have z2:=MB.mp h.s2;refine⟨(OF o Ng).trans h.p,?_⟩;show Srt rk _;rw[LS];refine MB.mpr ⟨z2.1,h.s1,λu hu v hv=>?_⟩;rcases LC.mp hv with q|q
 .exact hl u hu v q
 .exact z2.2.2 u hu v q
def tN {α:Type}{X:List α}{i:Nat}{x:α}(h:x∈X.take i):∃t,t<i/\X[t]?=some x:=by
 have z:=lN (X:=X) (i:=0) (k:=i) (by rw[NT];exact h);simpa using z
def O8 {α:Type}(xs:Array α)(i:Nat):(xs.extract 0 i).toList=xs.toList.take i:=by
 rw[K6,NT,Nat.sub_zero]
def Fl (hL:jG prog w A s rk kd base)(hk:kindOf st=kd){a b:Array Keyed}{Q:Array Keyed->SortSt->Prop}(ha:∀x∈a.toList,x∈base.toList)(hb:∀x∈b.toList,x∈base.toList)(sa:Srt rk a.toList)(sb:Srt rk b.toList)(la:0<a.size)(lb:0<b.size)
  (h0:∀x∈a.toList,cG rk b 0<=rk x.1) (hl:∀y∈b.toList,rk y.1<=cG rk a (a.size -1)) (h:∀o z,SG st z->MF rk a.toList b.toList o.toList->Q o z):wpS (model prog w) A E s (Bn a b) Q st:=by
 have ga:∀i (hi:i<a.size),a.toList[i]?=some a[i]:=λi hi=>by rw[Mb,Ml hi]
 have gb:∀i (hi:i<b.size),b.toList[i]?=some b[i]:=λi hi=>by rw[Mb,Ml hi]
 have VU:∀i (hi:i<a.size),a[i]∈base.toList:=λi hi=>ha _ (LF (ga i hi))
 have VW:∀i (hi:i<b.size),b[i]∈base.toList:=λi hi=>hb _ (LF (gb i hi))
 have aa:∀i j,i<=j->j<a.size->cG rk a i<=cG rk a j:=λi j k_ hj=>by
  rw[J0 (show i<a.size by lia),J0 hj];exact sa.at_ k_ (ga i (by lia)) (ga j hj)
 have ab:∀i j,i<=j->j<b.size->cG rk b i<=cG rk b j:=λi j k_ hj=>by
  rw[J0 (show i<b.size by lia),J0 hj];exact sb.at_ k_ (gb i (by lia)) (gb j hj)
 have ix:∀{X:Array Keyed} {i:Nat} {x:Keyed},X.toList[i]?=some x->i<X.size/\rk x.1=cG rk X i:=fun{X i x} e=>by
  rw[Mb] at e;unfold cG;rw[e];refine⟨?_,rfl⟩;rcases MK i X.size with z|z
  .exact z
  .rw[OE z] at e;cases e
 have za:a.toList.length=a.size:=Mz
 have zb:b.toList.length=b.size:=Mz
 have fA:∀(o:Array Keyed) (i j:Nat) (z:SortSt),SG st z->MH rk a.toList b.toList o.toList.reverse i j->i=0->Q (a.extract 0 i++b.extract 0 j++o.reverse) z:=λo i j z hz M hj=>h _ z hz (by
  subst hj;rw[MA,MA,O8,O8,Of];exact M.endX)
 have fZ:∀(o:Array Keyed) (i j:Nat) (z:SortSt),SG st z->MH rk a.toList b.toList o.toList.reverse i j->j=0->Q (a.extract 0 i++b.extract 0 j++o.reverse) z:=λo i j z hz M hj=>h _ z hz (by
  subst hj;rw[MA,MA,O8,O8,Of];exact M.endY)
 have fF:∀(o:Array Keyed) (i j:Nat) (z:SortSt),SG st z->MH rk a.toList b.toList o.toList.reverse i j->j=1->Q (b.extract 0 j++a.extract 0 i++o.reverse) z:=λo i j z hz M hi=>h _ z hz (by
  rw[MA,MA,O8,O8,Of];refine M.first λy hy x hx=>?_;obtain⟨t,t1,ht⟩:=tN hy;obtain⟨l1,e1⟩:=ix ht;have e:t=0:=by lia
  rw[e1,e];exact h0 x (MG hx))
 have XF:a.size -1<a.size:=by lia
 have M0:MH rk a.toList b.toList (#[a[a.size -1]]:Array Keyed).toList.reverse (a.size -1) b.size:=by
  have e:a.toList=a.toList.take (a.size -1)++[a[a.size -1]]:=by
   have z:=(ML (a.size -1) a.toList).symm;have z2:=vy (ga _ XF);rw[Lu (by rw[Nh];lia)] at z2;rw[z2] at z;exact z
  have eb:b.toList.take b.size=b.toList:=Lu (by lia);refine⟨?_,?_,?_⟩
  .show(a.toList.take (a.size -1)++b.toList.take b.size++[a[a.size -1]]).Perm (a.toList++b.toList);rw[eb];refine List.Perm.trans ?_ (Pr (Mw (·++b.toList) e.symm));rw[LS,LS];exact Nx _ Ng
  .show Srt rk (a.toList.take (a.size -1)++[a[a.size -1]]);rw[←e];exact sa
  .show Srt rk (b.toList.take b.size++[a[a.size -1]]);rw[eb];refine MB.mpr ⟨sb,Rm _ _,λx hx y hy=>?_⟩;have z:=hl x hx;rw[J0 XF] at z;rw[LV.mp hy];exact z
 have XD:∀(o:Array Keyed) (i j:Nat) (h1:1<=j) (hj:j -1<b.size),MH rk a.toList b.toList o.toList.reverse i j->(∀x∈a.toList.take i,rk x.1<=rk b[j -1].1)->MH rk a.toList b.toList (o.push b[j -1]).toList.reverse i (j -1):=λo i j h1 hj M hc=>by
  rw[OP,OZ];exact(M.swap.one h1 (gb _ hj) hc).swap
 have XE:∀(o:Array Keyed) (i j:Nat) (h1:1<=i) (hi:i -1<a.size),MH rk a.toList b.toList o.toList.reverse i j->(∀y∈b.toList.take j,rk y.1<=rk a[i -1].1)->MH rk a.toList b.toList (o.push a[i -1]).toList.reverse (i -1) j:=λo i j h1 hi M hc=>by
  rw[OP,OZ];exact M.one h1 (ga _ hi) hc
 have leA:∀(i:Nat) (v:Int),(1<=i->i<=a.size->cG rk a (i -1)<=v)->i<=a.size->∀x∈a.toList.take i,rk x.1<=v:=λi v hv hi x hx=>by
  obtain⟨t,t1,ht⟩:=tN hx;obtain⟨l1,e1⟩:=ix ht;rw[e1];exact NJ (aa t (i -1) (by lia) (by lia)) (hv (by lia) hi)
 have leB:∀(i:Nat) (v:Int),(1<=i->i<=b.size->cG rk b (i -1)<=v)->i<=b.size->∀x∈b.toList.take i,rk x.1<=v:=λi v hv hi x hx=>by
  obtain⟨t,t1,ht⟩:=tN hx;obtain⟨l1,e1⟩:=ix ht;rw[e1];exact NJ (ab t (i -1) (by lia) (by lia)) (hv (by lia) hi)
 have VX:SG st st:=⟨rfl,rfl,rfl,rfl⟩
 refine LP (RS (Pg ⟨rfl,LP (L9 XF ?_)⟩))
 by_cases e1:a.size -1=0
 .rw[if_pos (by simpa using e1)]
  exact Md (fA _ _ b.size st VX M0 e1)
 rw[if_neg (by simpa using e1)]
 by_cases e2:b.size=1
 .rw[if_pos (by simpa using e2)]
  exact Md (fF _ _ b.size st VX M0 e2)
 rw[if_neg (by simpa using e2)]
 refine LP (Rk ?_)
 refine LP (Oz (Nf (I:=λx c z=>SG st z/\∃i j o g,c=(none,i,j,o,g)/\MH rk a.toList b.toList o.toList.reverse i j/\1<=i/\2<=j/\i<=a.size/\j<=b.size/\x+(i+j)+1<=a.size+b.size) (Q:=λc z=>∃r i j o g,c=(some r,i,j,o,g)/\Q r z) (λx c z a1 a2 a3=>?_) (λc z a3=>?_) ⟨VX,_,_,_,_,rfl,M0,by lia,by lia,by lia,by lia,by lia⟩) λc z a3=>?_)
 .obtain⟨hz,i,j,o,g,rfl,M,c1,c2,c1',c2',c3⟩:=a3
  dsimp only
  refine LP (Oz (Nf (I:=λy c z=>SG st z/\∃i' j' o ac bc,c=(none,i',j',o,ac,bc)/\MH rk a.toList b.toList o.toList.reverse i' j'/\1<=i'/\2<=j'/\i'<=a.size/\j'<=b.size/\i'+j'+y<=i+j) (Q:=λc z=>(∃r i j o ac bc,c=(some r,i,j,o,ac,bc)/\Q r z)\/(SG st z/\∃i' j' o ac bc,c=(none,i',j',o,ac,bc)/\MH rk a.toList b.toList o.toList.reverse i' j'/\1<=i'/\2<=j'/\i'<=a.size/\j'<=b.size/\i'+j'+1<=i+j)) (λy c z a1' a2' a3=>?_) (λc z a3=>?_) ⟨hz,_,_,_,_,_,rfl,M,c1,c2,c1',c2',by lia⟩) λc z a3=>?_)
  .obtain⟨hz,i',j',o,ac,bc,rfl,M,d1,d2,B',d2',d3⟩:=a3
   dsimp only
   have ei:i' -1<a.size:=by lia
   have ej:j' -1<b.size:=by lia
   refine LP (L9 ej (LP (L9 ei (LP (tH hL (hz.1.trans hk) (VW _ ej) (VU _ ei) ?_)))))
   by_cases e:rk b[j' -1].1<rk a[i' -1].1
   .rw[LN e]
    dsimp only
    rw[if_pos rfl]
    refine LP (L9 ei ?_)
    have M':=XE o i' j' d1 ei M (leB j' _ (λ_ _=>by rw[J0 ej];exact NI e) d2')
    by_cases eb:i' -1=0
    .rw[if_pos (by simpa using eb)]
     exact Md (.inl ⟨_,_,_,_,_,_,rfl,fA _ _ _ z hz M' eb⟩)
    .rw[if_neg (by simpa using eb)]
     split
     .exact Md (.inr ⟨hz,_,_,_,_,_,rfl,M',by lia,d2,by lia,d2',by lia⟩)
     .exact Md ⟨hz,_,_,_,_,_,rfl,M',by lia,d2,by lia,d2',by lia⟩
   .rw[LL e]
    dsimp only
    rw[if_neg (by decide)]
    refine LP (L9 ej ?_)
    have M':=XD o i' j' (by lia) ej M (leA i' _ (λ_ _=>by rw[J0 ei];exact Int.not_lt.mp e) B')
    by_cases eb:j' -1=1
    .rw[if_pos (by simpa using eb)]
     exact Md (.inl ⟨_,_,_,_,_,_,rfl,fF _ _ _ z hz M' eb⟩)
    .rw[if_neg (by simpa using eb)]
     split
     .exact Md (.inr ⟨hz,_,_,_,_,_,rfl,M',d1,by lia,B',by lia,by lia⟩)
     .exact Md ⟨hz,_,_,_,_,_,rfl,M',d1,by lia,B',by lia,by lia⟩
  .obtain⟨hz,i',j',o,ac,bc,rfl,M,d1,d2,B',d2',d3⟩:=a3
   exact .inr ⟨hz,_,_,_,_,_,rfl,M,d1,d2,B',d2',by lia⟩
  .rcases a3 with⟨r,i',j',o,ac,bc,rfl,hr⟩|⟨hz,i',j',o,ac,bc,rfl,M,d1,d2,B',d2',d3⟩
   .exact Md ⟨r,_,_,_,_,rfl,hr⟩
   dsimp only
   refine LP (RS (Pg ⟨rfl,?_⟩))
   refine LP (Oz (Nf (I:=λy c z=>SG st z/\∃i' j' o g ac bc,c=(none,i',j',o,g,ac,bc)/\MH rk a.toList b.toList o.toList.reverse i' j'/\1<=i'/\2<=j'/\i'<=a.size/\j'<=b.size/\i'+j'+1<=i+j) (Q:=λc z=>(∃r i j o g ac bc,c=(some r,i,j,o,g,ac,bc)/\Q r z)\/(SG st z/\∃i' j' o g ac bc,c=(none,i',j',o,g,ac,bc)/\MH rk a.toList b.toList o.toList.reverse i' j'/\1<=i'/\2<=j'/\i'<=a.size/\j'<=b.size/\i'+j'+1<=i+j)) (λy c z a1' a2' a3=>?_) (λc z a3=> .inr a3) ⟨hz,_,_,_,_,_,_,rfl,M,d1,d2,B',d2',d3⟩) λc z a3=>?_)
   .obtain⟨hz,i',j',o,g,ac,bc,rfl,M,d1,d2,B',d2',d3⟩:=a3
    dsimp only
    have ej:j' -1<b.size:=by lia
    apply kt
    case a=>
     intro key
     by_cases hg:g>1
     .rw[if_pos hg];generalize g -1=x;revert x;exact key.g
     .rw[if_neg hg];exact key.g _
    case b=>
     intro g
     refine LP (qa hz λz hz=>?_)
     refine LP (L9 ej ?_)
     refine LP (ia hL (hz.1.trans hk) (VW _ ej) (by lia) VU (by lia) (λp q H_ hq=>aa _ _ (by lia) (by lia)) λk k1 k2 k3=>?_)
     dsimp only
     have cA:∀x∈a.toList.take k,rk x.1<=rk b[j' -1].1:=leA _ _ (λh1 h2=>by
      have z:=k2 (k -1) (by lia);unfold sX at z;simp at z;exact z) (by lia)
     have Mk:=M.mv k k1 λx hx y hy=>by
      obtain⟨t,t1,ht⟩:=lN hx;obtain⟨l1,e1⟩:=ix ht;have z:=k3 (k+t) (by lia) (by lia);unfold sX at z;simp at z;rw[e1];refine NJ ?_ (NI z);exact leB j' _ (λ_ _=>by rw[J0 ej];exact Nu _) d2' y hy
     apply kt
     case a=>
      intro key
      by_cases e:i' -k>0
      case pos=>
       rw[if_pos e]
       have M':MH rk a.toList b.toList (o++(a.extract k i').reverse).toList.reverse k j':=by
        rw[MA,Of,OZ,RZ,K6];exact Mk
       by_cases ea:k=0
       .rw[if_pos (by simpa using ea)]
        exact Md (.inl ⟨_,_,_,_,_,_,_,rfl,fA _ _ _ z hz M' ea⟩)
       rw[if_neg (by simpa using ea)]
       have h1:1<=k:=by lia
       have h3:k<=a.size:=by lia
       have h2:k+j'+1<=i+j:=by lia
       have c:=cA;revert M' h1 h3 h2 c;generalize i' -k=kk;generalize o++(a.extract k i').reverse=x;generalize k=y;revert kk x y;exact key.g
      case neg=>
       rw[if_neg e]
       have e0:k=i':=by lia
       rw[e0] at cA;exact key.g _ _ _ M d1 B' d3 cA
     case b=>
      intro kk o i' M d1 B' d3 cA
      have ei:i' -1<a.size:=by lia
      refine LP (L9 ej ?_)
      have M':=XD o i' j' (by lia) ej M cA
      by_cases eb:j' -1=1
      .rw[if_pos (by simpa using eb)]
       exact Md (.inl ⟨_,_,_,_,_,_,_,rfl,fF _ _ _ z hz M' eb⟩)
      rw[if_neg (by simpa using eb)]
      refine LP (L9 ei ?_)
      refine LP (ia hL (hz.1.trans hk) (VU _ ei) (by lia) VW (by lia) (λp q H_ hq=>ab _ _ (by lia) (by lia)) λk' k1' VZ VR=>?_)
      dsimp only
      have cB:∀x∈b.toList.take k',rk x.1<=rk a[i' -1].1:=leB _ _ (λh1 h2=>by
       have z:=VZ (k' -1) (by lia);unfold sX at z;simp at z;exact NI z) (by lia)
      have Mk':=(M'.swap.mv k' k1' λx hx y hy=>by
       obtain⟨t,t1,ht⟩:=lN hx;obtain⟨l1,e1⟩:=ix ht;have z:=VR (k'+t) (by lia) (by lia);unfold sX at z;simp at z;rw[e1];refine NJ ?_ z;exact leA i' _ (λ_ _=>by rw[J0 ei];exact Nu _) B' y hy).swap
      apply kt
      case a=>
       intro key
       by_cases e:j' -1 -k'>0
       case pos=>
        rw[if_pos e]
        have M2:MH rk a.toList b.toList (o.push b[j' -1]++(b.extract k' (j' -1)).reverse).toList.reverse i' k':=by
         rw[MA,Of,OZ,RZ,K6];exact Mk'
        by_cases ea:k'=1
        .rw[if_pos (by simpa using ea)]
         exact Md (.inl ⟨_,_,_,_,_,_,_,rfl,fF _ _ _ z hz M2 ea⟩)
        rw[if_neg (by simpa using ea)]
        by_cases ez:k'=0
        .rw[if_pos (by simpa using ez)]
         exact Md (.inl ⟨_,_,_,_,_,_,_,rfl,fZ _ _ _ z hz M2 ez⟩)
        rw[if_neg (by simpa using ez)]
        have h1:2<=k':=by lia
        have h3:k'<=b.size:=by lia
        have h2:i'+k'+1<=i+j:=by lia
        have c:=cB;revert M2 h1 h3 h2 c;generalize j' -1 -k'=kz;generalize o.push b[j' -1]++(b.extract k' (j' -1)).reverse=x;generalize k'=y;revert kz x y;exact key.g
       case neg=>
        rw[if_neg e]
        have e0:k'=j' -1:=by lia
        rw[e0] at cB;exact key.g _ _ _ M' (by lia) (by lia) (by lia) cB
      case b=>
       intro kz o j'' M d2 d2' d3 cB
       refine LP (L9 ei ?_)
       have M2:=XE o i' j'' d1 ei M cB
       by_cases ea:i' -1=0
       .rw[if_pos (by simpa using ea)]
        exact Md (.inl ⟨_,_,_,_,_,_,_,rfl,fA _ _ _ z hz M2 ea⟩)
       .rw[if_neg (by simpa using ea)]
        split
        .exact Md (.inr ⟨hz,_,_,_,_,_,_,rfl,M2,by lia,d2,by lia,d2',by lia⟩)
        .exact Md ⟨hz,_,_,_,_,_,_,rfl,M2,by lia,d2,by lia,d2',by lia⟩
   .rcases a3 with⟨r,i',j',o,g,ac,bc,rfl,hr⟩|⟨hz,i',j',o,g,ac,bc,rfl,M,d1,d2,B',d2',d3⟩
    .exact Md ⟨r,_,_,_,_,rfl,hr⟩
    .exact LP (qa hz λz hz=>Md ⟨hz,_,_,_,_,rfl,M,d1,d2,B',d2',by lia⟩)
 .obtain⟨hz,i,j,o,g,rfl,M,c1,c2,c1',c2',c3⟩:=a3
  exfalso
  lia
 .obtain⟨r,i,j,o,g,rfl,hr⟩:=a3
  exact Md hr
end
def nZ:Nat->List Nat->List (Nat×Nat)
 |_,[]=>[]
 |o,n::r=>(o,n)::nZ (o+n) r
theorem gU:∀(l m:List Nat) (o:Nat),nZ o (l++m)=nZ o l++nZ (o+l.sum) m
 |[],m,o=>by simp [nZ]
 |n::l,m,o=>by
  show(o,n)::nZ (o+n) (l++m)=(o,n)::(nZ (o+n) l++_);rw[gU l m (o+n),List.sum_cons,Nat.add_assoc]
theorem lU:∀(l:List Nat) (o:Nat),(nZ o l).length=l.length
 |[],_=>rfl
 |n::l,o=>by
  show(nZ (o+n) l).length+1=l.length+1;rw[lU l]
theorem fT {α:Type}:∀rs:List (List α),rs.flatten.length=(rs.map List.length).sum
 |[]=>rfl
 |r::rs=>by rw[PK,LB,fT rs,Ms,List.sum_cons]
theorem vT {α:Type}(o:Nat):∀(l:List α) (n:Nat) (xs:Array α),o+n+l.length<=xs.size->((l.zipIdx n).foldl (λa x=>a.setIfInBounds (o+x.2) x.1) xs).toList=xs.toList.take (o+n)++l++xs.toList.drop (o+n+l.length)
 |[],n,xs,h=>by simp
 |p::l,n,xs,h=>by
  rw[Mv] at h;rw[List.zipIdx_cons,ND,vT o l (n+1) _ (by rw[Array.size_setIfInBounds];lia)];have hz:o+n<xs.toList.length:=by rw[Mz];lia
  show List.take (o+(n+1)) (xs.setIfInBounds (o+n) p).toList++l++List.drop (o+(n+1)+l.length) (xs.setIfInBounds (o+n) p).toList=_;rw[QC];have e1:(xs.toList.set (o+n) p).take (o+(n+1))=xs.toList.take (o+n)++[p]:=by
   rw[show o+(n+1)=(o+n)+1 by lia,Me,List.take_set_of_le (Lp _),Px hz];rfl
  have e2:(xs.toList.set (o+n) p).drop (o+(n+1)+l.length)=xs.toList.drop (o+n+(p::l).length):=by
   rw[List.drop_set_of_lt (by lia),Mv];congr 1;lia
  rw[e1,e2];simp only[LS,List.singleton_append,Ro,Qr]
section
variable {prog:Program} {w:World} {A:Around} {E:Value->Shared->Prop} {s:Shared} {rk:Value->Int} {kd:SortKind} {base:Array Keyed} {st:SortSt}
structure RN (rk:Value->Int) (kd:SortKind) (base:Array Keyed) (st:SortSt) (rs:List (List Keyed)) (T:List Keyed):Prop where
 pm:(arrOf st).Perm base
 kd:kindOf st=kd
 fl:failedOf st=none
 ar:(arrOf st).toList=rs.flatten++T
 so:∀r∈rs,Srt rk r/\r≠[]
 pe:(pendingOf st).toList.map (λp=>(p.1,p.2.1))=nZ 0 (rs.map List.length)
def Dk {e_:SortSt}{Q:PUnit->SortSt->Prop}(h:Q ⟨⟩ e_):wpS (model prog w) A E s (set e_:StateT SortSt Sem PUnit) Q st:=by
 unfold wpS;rw[StateT.run_set];exact LK ⟨rfl,h⟩
def RN.sz {rs:List (List Keyed)}{T:List Keyed}(h:RN rk kd base st rs T):(pendingOf st).size=rs.length:=by
 have z:=Mw List.length h.pe;rw[Ll,lU,Ll,Mz] at z;exact z
def Srt.cat {a b:List Keyed}(ha:Srt rk a)(hb:Srt rk b)(hc:∀x∈a,∀y∈b,rk x.1<=rk y.1):Srt rk (a++b):=MB.mpr ⟨ha,hb,hc⟩
def Srt.le_last {a:List Keyed}(ha:Srt rk a){i:Nat}{x y:Keyed}(hx:x∈a)(hi:i+1=a.length)(hy:a[i]?=some y):rk x.1<=rk y.1:=by
 obtain⟨t,ht⟩:=MV hx;have:=(Mf.mp ht).1;exact ha.at_ (by lia) ht hy
def Srt.ge_at {a:List Keyed}(ha:Srt rk a){i:Nat}{x y:Keyed}(hy:a[i]?=some y)(hx:x∈a.drop i):rk y.1<=rk x.1:=by
 obtain⟨t,ht⟩:=pq hx;exact ha.at_ (by lia) hy ht
def zD (hL:jG prog w A s rk kd base){rs:List (List Keyed)}{T:List Keyed}(hR:RN rk kd base st rs T){i:Nat}(hi:i+1<rs.length){Q:Bool->SortSt->Prop}
  (h:∀e_ rs',RN rk kd base e_ rs' T->rs'.length+1=rs.length->Q true e_):wpS (model prog w) A E s (mergeAt' i) Q st:=by
 obtain⟨X,a,b,Y,rfl,hX⟩:∃X a b Y,rs=X++a::b::Y/\X.length=i:=⟨rs.take i,rs[i],rs[i+1],rs.drop (i+2),by
  rw[←Mj hi,←Mj (by lia),ML],by rw[Lz];lia⟩
 have sA:=hR.so a (by simp)
 have sB:=hR.so b (by simp)
 have la:0<a.length:=Qw.mpr sA.2
 have lb:0<b.length:=Qw.mpr sB.2
 have pe:=hR.pe
 rw[Lr,gU,Ms,Ms,TU] at pe
 obtain⟨F,hF⟩:∃F,F=X.flatten:=⟨_,rfl⟩
 rw[←fT,←hF] at pe
 obtain⟨PX,P2,e1,e2,e3⟩:=List.map_eq_append_iff.mp pe
 obtain⟨pa,P3,rfl,e4,e5⟩:=Sa.mp e3
 obtain⟨pb,P4,rfl,e6,e7⟩:=Sa.mp e5
 obtain⟨sa,na,pw⟩:=pa
 obtain⟨sb,nb,pv⟩:=pb
 have YL:PX.length=i:=by
  have z:=Mw List.length e2;rw[Ll,lU,Ll,hX] at z;exact z
 obtain⟨q1,q2⟩:sa=F.length/\na=a.length:=⟨Mw Prod.fst e4,Mw Prod.snd e4⟩
 obtain⟨q3,q4⟩:sb=F.length+a.length/\nb=b.length:=⟨Mw Prod.fst e6,Mw Prod.snd e6⟩
 have g1:(pendingOf st)[i]?=some (sa,na,pw):=by
  rw[←Mb,e1,MJ (by lia),YL,TV];rfl
 have g2:(pendingOf st)[i+1]?=some (sb,nb,pv):=by
  rw[←Mb,e1,MJ (by lia),YL,show i+1 -i=1 by lia];rfl
 obtain⟨R,hRr⟩:∃R,R=Y.flatten++T:=⟨_,rfl⟩
 have ar:(arrOf st).toList=F++(a++(b++R)):=by
  rw[hR.ar,hF,hRr];simp only[Pa,PK,LS]
 have hz:(arrOf st).size=F.length+(a.length+(b.length+R.length)):=by
  have z:=Mw List.length ar;rw[Mz] at z;rw[z,LB,LB,LB]
 have atA:∀t,t<a.length->(arrOf st)[F.length+t]?=a[t]?:=λt ht=>by
  rw[←Mb,ar,MJ (by lia),Nm (by lia)];congr 1;lia
 have atB:∀t,t<b.length->(arrOf st)[F.length+a.length+t]?=b[t]?:=λt ht=>by
  rw[←Mb,ar,MJ (by lia),MJ (by lia),Nm (by lia)];congr 1;lia
 have rA:∀t (ht:t<a.length),cG rk (arrOf st) (F.length+t)=rk a[t].1:=λt ht=>by
  unfold cG;rw[atA t ht,Lm ht]
 have rB:∀t (ht:t<b.length),cG rk (arrOf st) (F.length+a.length+t)=rk b[t].1:=λt ht=>by
  unfold cG;rw[atB t ht,Lm ht]
 have XG:∀t (ht:t<(arrOf st).size),(arrOf st)[t]∈base.toList:=λt ht=>(MW.mp hR.pm).mem_iff.mp (by simp)
 have XH:∀x∈a,x∈base.toList:=λx hx=>(MW.mp hR.pm).mem_iff.mp (by rw[ar];simp [hx])
 have YM:∀x∈b,x∈base.toList:=λx hx=>(MW.mp hR.pm).mem_iff.mp (by rw[ar];simp [hx])
 have fin:∀(z:SortSt) (c:List Keyed),kindOf z=kd->failedOf z=none->(pendingOf z).toList=PX++(sa,na+nb,pw)::P4->(arrOf z).toList=F++(c++R)->c.Perm (a++b)->Srt rk c->Q true z:=λz c z1 z2 z3 z4 z5 z6=>by
  refine h z (X++c::Y) ⟨?_,z1,z2,?_,λr hr=>?_,?_⟩ (by simp;lia)
  .refine MW.mpr (List.Perm.trans ?_ (MW.mp hR.pm));rw[z4,ar,←LS a b R];exact Nx _ (OF _ z5)
  .rw[z4,hF,hRr];simp only[Pa,PK,LS]
  .rcases LC.mp hr with q|q
   .exact hR.so r (by simp [q])
   .rcases Mi.mp q with rfl|q
    .refine⟨z6,λe=>?_⟩;rw[e] at z5;have l:=z5.length_eq;rw[Pl,LB] at l;lia
    .exact hR.so r (by simp [q])
  .have lc:c.length=a.length+b.length:=by rw[z5.length_eq,LB]
   rw[z3,Lr,e2,Ms,e7,Lr,gU,Ms,TU,←fT,←hF,lc,q1,q2,q4];show _++_::_=_++_::_;rw[Nat.add_assoc]
 show wpS (model prog w) A E s ((sortPriv% PySem.Builtin.mergeAt) i) Q st
 refine LP (Rk ?_)
 rw[g1,g2]
 dsimp only
 refine LP (Dk ?_)
 have hp:(((pendingOf st).setIfInBounds i (sa,na+nb,pw)).eraseIdxIfInBounds (i+1)).toList=PX++(sa,na+nb,pw)::P4:=by
  rw[Array.toList_eraseIdxIfInBounds,QC,e1,List.set_append_right _ _ (by lia),YL,TV,List.eraseIdx_append_of_length_le (by lia),YL,show i+1 -i=1 by lia];rfl
 obtain⟨z0,XI⟩:∃z0,z0=SortSt.mk' (kindOf st) (arrOf st) (((pendingOf st).setIfInBounds i (sa,na+nb,pw)).eraseIdxIfInBounds (i+1)) (gallopOf st) (failedOf st):=⟨_,rfl⟩
 show wpS _ _ _ _ _ _ (SortSt.mk' (kindOf st) (arrOf st) (((pendingOf st).setIfInBounds i (sa,na+nb,pw)).eraseIdxIfInBounds (i+1)) (gallopOf st) (failedOf st))
 rw[←XI]
 have k0:kindOf z0=kd:=by rw[XI];exact hR.kd
 have f0:failedOf z0=none:=by rw[XI];exact hR.fl
 have p0:(pendingOf z0).toList=PX++(sa,na+nb,pw)::P4:=by rw[XI];exact hp
 have a0:arrOf z0=arrOf st:=by rw[XI]
 subst q1 q2 q3 q4
 have hsb:F.length+a.length<(arrOf st).size:=by lia
 have eB0:(arrOf st)[F.length+a.length]=b[0]:=by
  have z:=atB 0 lb;rw[QK,Ml hsb,Lm lb] at z;exact LO z
 refine LP (L9 hsb ?_)
 rw[eB0]
 refine LP (ia hL k0 (YM _ (LM lb)) (by lia) XG la (λp q H_ hq=>?_) λk k1 k2 k3=>?_)
 .rw[rA p (by lia),rA q hq]
  exact sA.1.at_ H_ (Lm (by lia)) (Lm hq)
 have VZ:∀x∈a.take k,rk x.1<=rk b[0].1:=λx hx=>by
  obtain⟨t,t1,ht⟩:=tN hx;obtain⟨l1,e⟩:=Mf.mp ht;have z:=k2 t t1;unfold sX at z;rw[rA t l1] at z;simp at z;rw[←e];exact z
 have VR:∀x∈a.drop k,rk b[0].1<=rk x.1:=λx hx=>by
  obtain⟨t,ht⟩:=pq hx;obtain⟨l1,e⟩:=Mf.mp ht;have z:=k3 (k+t) (by lia) l1;unfold sX at z;rw[rA _ l1] at z;simp at z;rw[←e];exact NI z
 have V':∀y∈b,rk b[0].1<=rk y.1:=λy hy=>sB.1.ge_at (Lm lb) (by rw[NT];exact hy)
 dsimp only
 by_cases ek:a.length -k=0
 .rw[if_pos (by simpa using ek)]
  refine Md (fin z0 (a++b) k0 f0 p0 (by rw[a0,ar,LS]) (MS _) (sA.1.cat sB.1 λx hx y hy=>?_))
  have z:=VZ x (by rw[Lu (by lia)];exact hx)
  exact NJ z (V' y hy)
 rw[if_neg (by simpa using ek)]
 have UJ:a.length -1<a.length:=by lia
 have UG:F.length+k+(a.length -k) -1<(arrOf st).size:=KL (NY hsb) k1 ek
 have eAl:(arrOf st)[F.length+k+(a.length -k) -1]=a[a.length -1]:=by
  have z:=atA (a.length -1) UJ;rw[Lf k1 ek,Ml UG,Lm UJ] at z;exact LO z
 refine LP (L9 UG ?_)
 rw[eAl]
 refine LP (ia hL k0 (XH _ (LM UJ)) (by lia) XG (by lia) (λp q H_ hq=>?_) λm m1 m2 m3=>?_)
 .rw[rB p (by lia),rB q hq]
  exact sB.1.at_ H_ (Lm (by lia)) (Lm hq)
 have XC:∀x∈b.take m,rk x.1<=rk a[a.length -1].1:=λx hx=>by
  obtain⟨t,t1,ht⟩:=tN hx;obtain⟨l1,e⟩:=Mf.mp ht;have z:=m2 t t1;unfold sX at z;rw[rB t l1] at z;simp at z;rw[←e];exact NI z
 have m3':∀x∈b.drop m,rk a[a.length -1].1<=rk x.1:=λx hx=>by
  obtain⟨t,ht⟩:=pq hx;obtain⟨l1,e⟩:=Mf.mp ht;have z:=m3 (m+t) (by lia) l1;unfold sX at z;rw[rB _ l1] at z;simp at z;rw[←e];exact z
 have aLe:∀x∈a,rk x.1<=rk a[a.length -1].1:=λx hx=>sA.1.le_last hx (by lia) (Lm UJ)
 dsimp only
 by_cases em:m=0
 .rw[if_pos (by simpa using em)]
  refine Md (fin z0 (a++b) k0 f0 p0 (by rw[a0,ar,LS]) (MS _) (sA.1.cat sB.1 λx hx y hy=>?_))
  exact NJ (aLe x hx) (m3' y (by rw[em,NT];exact hy))
 rw[if_neg (by simpa using em)]
 have ex:((arrOf st).extract (F.length+k) (F.length+a.length)).toList=a.drop k:=by
  rw[K6,ar,←PU,Sj,Qi (by lia),OB (by rw[Nh];lia),Lu (by rw[Nh];lia)]
 have ey:((arrOf st).extract (F.length+a.length) (F.length+a.length+m)).toList=b.take m:=by
  rw[K6,ar,←PU,Sj,Sj,OB (by lia)];congr 1;lia
 generalize hx:(arrOf st).extract (F.length+k) (F.length+a.length)=x at ex
 generalize hy:(arrOf st).extract (F.length+a.length) (F.length+a.length+m)=y at ey
 have lx:x.size=a.length -k:=by rw[←Mz,ex,Nh]
 have ly:y.size=m:=by rw[←Mz,ey,Lz];lia
 have sx:Srt rk (a.drop k):=sA.1.sublist (Tt _ _)
 have sy:Srt rk (b.take m):=sB.1.sublist (Og _ _)
 have y0:cG rk y 0=rk b[0].1:=by
  unfold cG;rw[←Mb,ey,OJ,if_pos (by lia),Lm lb]
 have xl:cG rk x (x.size -1)=rk a[a.length -1].1:=by
  unfold cG;rw[←Mb,ex,NB,Lb lx k1 ek,Lm UJ]
 have c1:∀u∈x.toList,u∈base.toList:=λu hu=>XH u (MZ (by rw[ex] at hu;exact hu))
 have c2:∀u∈y.toList,u∈base.toList:=λu hu=>YM u (MG (by rw[ey] at hu;exact hu))
 have c3:∀u∈x.toList,cG rk y 0<=rk u.1:=λu hu=>by rw[y0];exact VR u (by rw[ex] at hu;exact hu)
 have c4:∀u∈y.toList,rk u.1<=cG rk x (x.size -1):=λu hu=>by rw[xl];exact XC u (by rw[ey] at hu;exact hu)
 apply kt
 case a=>
  intro key
  by_cases hle:a.length -k<=m
  case pos=>
   rw[if_pos hle]
   refine LP (FU hL k0 c1 c2 (by rw[ex];exact sx) (by rw[ey];exact sy) (by lia) (by lia) c3 c4 λmg z hz hm=>?_)
   revert mg z hz hm;exact key.g
  case neg=>
   rw[if_neg hle]
   refine LP (Fl hL k0 c1 c2 (by rw[ex];exact sx) (by rw[ey];exact sy) (by lia) (by lia) c3 c4 λmg z hz hm=>?_)
   exact key.g _ _ hz hm
 case b=>
  intro mg z hz hm
  rw[ex,ey] at hm
  obtain⟨h5,h6⟩:=hm
  have h1:=hz.1.trans k0
  have h2:=hz.2.1.trans a0
  have h3:=hz.2.2.1
  have h4:=hz.2.2.2.trans f0
  have lm:mg.toList.length=a.length -k+m:=by rw[h5.length_eq,LB,Nh,Lz];lia
  refine LP (RT (LP (Rk (Md ?_))))
  show Q (failedOf z).isNone _
  rw[h4]
  have pn:(a.take k++(mg.toList++b.drop m)).Perm (a++b):=by
   have z:=Nx (a.take k) (OF (b.drop m) h5);refine z.trans (Pr ?_);rw[LS,ML,←LS,ML]
  refine fin _ (a.take k++(mg.toList++b.drop m)) h1 h4 (by rw[←p0,←h3]) ?_ pn ?_
  .show(List.foldl (λa x=>a.setIfInBounds (F.length+k+x.snd) x.fst) (arrOf z) mg.toList.zipIdx).toList=_
   rw[h2,vT (F.length+k) mg.toList 0 _ (by lia),ar,lm]
   have t1:(F++(a++(b++R))).take (F.length+k+0)=F++a.take k:=by
    rw[QK,List.take_length_add_append,OB k1]
   have t2:(F++(a++(b++R))).drop (F.length+k+0+(a.length -k+m))=b.drop m++R:=by
    rw[Lh k1,Qx,Qx,Qi m1]
   rw[t1,t2]
   simp only[LS]
  .have tk:Srt rk (a.take k):=sA.1.sublist (Og _ _)
   have dm:Srt rk (b.drop m):=sB.1.sublist (Tt _ _)
   have mm:∀u,u∈mg.toList->u∈a.drop k\/u∈b.take m:=λu hu=>LC.mp (h5.mem_iff.mp hu)
   have sAd:=sA.1
   rw[←ML k a] at sAd
   have sBd:=sB.1
   rw[←ML m b] at sBd
   refine tk.cat (h6.cat dm λu hu v hv=>?_) λu hu v hv=>?_
   .rcases mm u hu with q|q
    .exact NJ (aLe u (MZ q)) (m3' v hv)
    .exact(MB.mp sBd).2.2 u q v hv
   .rcases LC.mp hv with q|q
    .rcases mm v q with q|q
     .exact(MB.mp sAd).2.2 u hu v q
     .exact NJ (VZ u hu) (V' v (MG q))
    .exact NJ (VZ u hu) (V' v (MZ q))
end
section
variable {prog:Program} {w:World} {A:Around} {E:Value->Shared->Prop} {s:Shared} {rk:Value->Int} {kd:SortKind} {base:Array Keyed} {st:SortSt}
def Hs {α:Type}{m:StateT SortSt Sem α}{Q:α->SortSt->Prop}{P:SortSt->Prop}(hP:P st)(h:∀z,P z->wpS (model prog w) A E s m Q z):wpS (model prog w) A E s m Q st:=h st hP
def CP {α β:Type}(g:α->β)(f:α->α)(hg:∀x,g (f x)=g x)(l:List α)(i:Nat):(l.modify i f).map g=l.map g:=by
 refine Ra λj=>?_;rw[Lo,Lo,List.getElem?_modify];cases l[j]? with
 |none=>rfl
 |some x=>
  show some (g (if i=j then f x else x))=some (g x)
  split
  .rw[hg]
  .rfl
def RN.flen {rs:List (List Keyed)}{T:List Keyed}(h:RN rk kd base st rs T):rs.flatten.length+T.length=base.size:=by
 have z:=Mw List.length h.ar;rw[LB,Mz,h.pm.size_eq] at z;exact z.symm
theorem Av:∀{rs:List (List Keyed)},(∀r∈rs,r≠[])->rs.length<=rs.flatten.length
 |[],_=>Lp _
 |r::rs,h=>by
  have z:=Av (rs:=rs) λx hx=>h x (Lw _ hx);have y:=Qw.mpr (h r Lv);rw[PK,LB,Mv];lia
def FQ (hL : jG prog w A s rk kd base) (hB : TB kd base st) {Q : Unit -> SortSt -> Prop}
    (h : ∀ e_, (arrOf e_).Perm base -> failedOf e_ = none -> Asc rk e_ base.size -> Q () e_) : wpS (model prog w) A E s sortRuns' Q st := by
  have fin : ∀ (z : SortSt) (rs : List (List Keyed)), RN rk kd base z rs [] -> rs.length <= 1 -> Q () z := λz rs hR hl => by
    refine h z hR.pm hR.fl λi j k_ hj => ?_;have so : Srt rk (arrOf z).toList := by
      rw [hR.ar, MD];match rs, hR.so, hl with
      | [], _, _ => exact List.Pairwise.nil
      | [r], h, _ => rw [PC]; exact (h r Lv).1
    have zz := hR.pm.size_eq;rw [mW (show i < (arrOf z).size by lia), mW (show j < (arrOf z).size by lia)];refine so.at_ k_ ?_ ?_
    . rw [Mb, Ml]
    . rw [Mb, Ml]
  show wpS (model prog w) A E s (sortPriv% PySem.Builtin.sortRuns) Q st
  refine LP (Rk ?_)
  have en : (arrOf st).size = base.size := hB.sz
  generalize hn : base.size = n at en
  dsimp only
  simp only [en]
  refine LP (Oz (Nf (I := λx c z => ∃ rs T lo, c = (none, lo) /\ RN rk kd base z rs T /\ lo = rs.flatten.length /\ x <= lo) (Q := λc z => ∃ rs lo, c = (none, lo) /\ RN rk kd base z rs []) (λx c z a1 a2 a3 => ?_) (λc z a3 => ?_) ⟨[], (arrOf st).toList, 0, rfl, ⟨hB.pm, hB.kd, hB.fl, rfl, (λ_ h => nomatch h), by rw [hB.pe]; rfl⟩, rfl, Lp _⟩) λc z a3 => ?_)
  . obtain ⟨rs, T, lo, rfl, hR, Xj, UX⟩ := a3
    have hf := hR.flen
    dsimp only
    by_cases e : lo ≥ n
    . rw [if_pos e]
      have eT : T = [] := MQ (by lia)
      subst eT
      exact Md ⟨rs, lo, rfl, hR⟩
    rw [if_neg e]
    refine LP (Gm hL (lo := lo) (pre := arrOf z) (pe := pendingOf z) ⟨hR.pm, hR.kd, hR.fl, rfl, λ_ _ => rfl⟩ (by lia) (by lia) λk z2 b2 k1 k2 u2 => ?_)
    dsimp only
    apply kt
    case a =>
      intro key
      by_cases u_ : k < (sortPriv% PySem.Builtin.minRun) n n 0
      case pos =>
        rw [if_pos u_]
        refine LP (RS (Pg ⟨rfl, LP (FX hL b2 (by lia) (by lia) u2 λz3 b3 u3 => ?_)⟩))
        rw [if_neg (by decide)]
        have hP : TQ kd base lo (arrOf z) (pendingOf z) z3 /\ 1 <= min (n - lo) ((sortPriv% PySem.Builtin.minRun) n n 0) /\ lo + min (n - lo) ((sortPriv% PySem.Builtin.minRun) n n 0) <= n /\ AO rk z3 lo (min (n - lo) ((sortPriv% PySem.Builtin.minRun) n n 0)) := ⟨b3, by lia, by lia, u3⟩
        revert hP; generalize min (n - lo) ((sortPriv% PySem.Builtin.minRun) n n 0) = m; generalize z3 = x; revert m x; exact key.g
      case neg =>
        rw [if_neg u_]; exact key.g _ _ ⟨b2, k1, by lia, u2⟩
    case b =>
      intro m z3 hP
      obtain ⟨b3, m1, m2, u3⟩ := hP
      have sz3 : (arrOf z3).toList.length = n := by rw [Mz, b3.sz, hn]
      obtain ⟨r, hr⟩ : ∃ r, r = ((arrOf z3).toList.drop lo).take m := ⟨_, rfl⟩
      obtain ⟨T', hT'⟩ : ∃ T', T' = (arrOf z3).toList.drop (lo + m) := ⟨_, rfl⟩
      have lr : r.length = m := by rw [hr, Lz, Nh, sz3]; lia
      have lT : T'.length = n - (lo + m) := by rw [hT', Nh, sz3]
      have ar3 : (arrOf z3).toList = rs.flatten ++ (r ++ T') := by
        have t1 : (arrOf z3).toList.take lo = rs.flatten := by
          have t0 : (arrOf z).toList.take lo = rs.flatten := by rw [hR.ar, Xj, List.take_left]
          rw [← t0];refine Ra λp => ?_;rw [OJ, OJ];split
          . next hp =>
            rw [Mb, Mb]
            exact b3.fr p hp
          . rfl
        rw [← t1, hr, hT', ← PU, ML, ML]
      have sr : Srt rk r := Od.mpr λi j hi hj k_ => by
        rw [lr] at hi hj;have g : ∀ t (ht : t < r.length), rk r[t].1 = kA rk z3 (lo + t) := λt ht => by
          have u_ : lo + t < (arrOf z3).size := by rw [b3.sz]; lia
          rw [mW u_];have e : r[t]? = some (arrOf z3)[lo + t] := by
            rw [hr, OJ, if_pos (by lia), NB, Mb, Ml u_]
          rw [(Mf.mp e).2]
        rw [g, g];exact u3 i j (NY k_) hj
      have R3 : RN rk kd base z3 rs (r ++ T') := ⟨b3.pm, b3.kd, b3.fl, ar3, hR.so, by rw [b3.pe]; exact hR.pe⟩
      refine LP (Rk ?_)
      apply kt
      case a =>
        intro key
        obtain hb | ⟨⟨s1, n1, p1⟩, hb⟩ : (pendingOf z3).back? = none \/ ∃ q, (pendingOf z3).back? = some q := by
           cases (pendingOf z3).back? with
           | none => exact .inl rfl
           | some q => exact .inr ⟨q, rfl⟩
        case inl =>
          rw [hb]
          have XJ : ∃ rs, RN rk kd base z3 rs (r ++ T') := ⟨rs, R3⟩
          revert XJ; generalize z3 = z4; revert z4; exact key.g
        case inr =>
          rw [hb]
          dsimp only
          refine LP (Oz (Nf (I := λx c z => c = (none, ()) /\ ∃ rs, RN rk kd base z rs (r ++ T')) (Q := λc z => c = (none, ()) /\ ∃ rs, RN rk kd base z rs (r ++ T')) (λy c z b1 b2 b3 => ?_) (λc z b3 => b3) ⟨rfl, rs, R3⟩) λc z b3 => ?_)
          . obtain ⟨rfl, rs, hR⟩ := b3
            refine LP (Rk ?_)
            have hp := hR.sz
            by_cases g : (pendingOf z).size > 1
            . rw [if_pos g, Ml (by lia)]
              generalize (pendingOf z)[(pendingOf z).size - 2] = q
              obtain ⟨q1, q2, q3⟩ := q
              dsimp only
              split
              . exact Md ⟨rfl, rs, hR⟩
              . refine LP (zD hL hR (by lia) λz' rs' XM _ => ?_)
                rw [if_neg (by decide)]
                exact Md ⟨rfl, rs', XM⟩
            . rw [if_neg g]
              exact Md ⟨rfl, rs, hR⟩
          obtain ⟨rfl, rs, hR⟩ := b3
          refine LP (RT (Hs (P := λz => ∃ rs, RN rk kd base z rs (r ++ T')) ⟨rs, hR.pm, hR.kd, hR.fl, hR.ar, hR.so, ?_⟩ λz4 XJ => ?_))
          . rw [← hR.pe]
            show List.map _ (Array.toList (Array.modify _ _ _)) = _
            rw [Array.toList_modify]
            refine CP _ _ ?_ _ _
            intro x
            rfl
          exact key.g _ XJ
      case b =>
        intro z4 XJ
        obtain ⟨rs4, R4⟩ := XJ
        have f4 := R4.flen
        rw [LB, lr, lT] at f4
        refine LP (RT (Md ⟨rs4 ++ [r], T', lo + m, rfl, ⟨R4.pm, R4.kd, R4.fl, ?_, λu hu => ?_, ?_⟩, ?_, by lia⟩))
        . show (arrOf z4).toList = _
          rw [R4.ar, Pa, PC, LS]
        . rcases LC.mp hu with q | q
          . exact R4.so u q
          . rw [LV.mp q]
            exact ⟨sr, λe => by rw [e] at lr; simp at lr; lia⟩
        . show ((pendingOf z4).push (lo, m, 0)).toList.map _ = _
          rw [OP, Lr, R4.pe, Lr, gU, TU, ← fT, show rs4.flatten.length = lo by lia]
          show _ ++ [(lo, m)] = _ ++ [(lo, r.length)]
          rw [lr]
        . rw [Pa, LB, PC, lr]; lia
  . obtain ⟨rs, T, lo, rfl, hR, Xj, UX⟩ := a3
    have hf := hR.flen
    have eT : T = [] := MQ (by lia)
    subst eT
    exact ⟨rs, lo, rfl, hR⟩
  . obtain ⟨rs, lo, rfl, hR⟩ := a3
    dsimp only
    have hf := hR.flen
    have hc := Av λr hr => (hR.so r hr).2
    rw [Pl] at hf
    refine LP (Oz (Nf (I := λx c z => c = (none, ()) /\ ∃ rs, RN rk kd base z rs [] /\ rs.length + x <= n) (Q := λc z => c = (none, ()) /\ ∃ rs, RN rk kd base z rs [] /\ rs.length <= 1) (λy c z b1 b2 b3 => ?_) (λc z b3 => ?_) ⟨rfl, rs, hR, by lia⟩) λc z b3 => ?_)
    . obtain ⟨rfl, rs, hR, hl⟩ := b3
      have hp := hR.sz
      refine LP (Rk ?_)
      by_cases g : (pendingOf z).size <= 1
      . rw [if_pos g]
        exact Md ⟨rfl, rs, hR, by lia⟩
      . rw [if_neg g]
        refine LP (zD hL hR ?_ λz' rs' XM RE => ?_)
        . split <;> lia
        . rw [if_neg (by decide)]
          exact Md ⟨rfl, rs', XM, by lia⟩
    . obtain ⟨rfl, rs, hR, hl⟩ := b3
      exact ⟨rfl, rs, hR, by lia⟩
    . obtain ⟨rfl, rs, hR, hl⟩ := b3
      exact Md (fin z rs hR hl)
end
open PySem.AutoSeq1 (wpAny_loadPart')
open PySem.MeetsSeq PySem.MeetsSeq2 PySem.MeetsSeq3
def CmP (op:CmpOp)(P:Program)(w:World)(A:Around)(s:Shared)(y x:Value)(b:Bool):Prop:=∀(E:Value->Shared->Prop) (Q:Value->Shared->Prop),Q (.bool b) s->wpAny (model P w) A (richCompare op y x) Q E s
def rq (f g:Nat->Bool)(fin:Bool):List Nat->Bool
 |[]=>fin
 |i::r=>if f i=true then rq f g fin r else g i
section
variable {P:Program} {w:World}
def Fy (l m:Addr)(xs ys:Array Value)(n1 n2:Nat)(d1 d2:Option Addr)(s1 s2:Array (Option Value))(f g:Nat->Bool):
  MeetsIn P w (Builtin.«tuple.__lt__» ⟨[.ref l,.ref m],[]⟩) (λA R s=>
   s.heap.get? l=some {cls:= .type "tuple",dict:=d1,data:= .seq xs n1,slots:=s1}/\s.heap.get? m=some {cls:= .type "tuple",dict:=d2,data:= .seq ys n2,slots:=s2}/\
   (∀j (g1:j<xs.size) (g2:j<ys.size),EqP P w A.in1 s xs[j] ys[j] (f j))/\(∀j (g1:j<xs.size) (g2:j<ys.size),f j=false->CmP .Lt P w A.in1 s xs[j] ys[j] (g j))/\
   R (.ok (.ret (.bool (rq f g (decide (xs.size<ys.size)) (List.range (min xs.size ys.size)))))) s):=
 .of_wp λA R s hyp=>by
  obtain⟨hp,gg,dr,tk,os⟩:=s;obtain⟨e1,e2,he,hc,fin⟩:=hyp;have sub:=Pe;have len:(xs.toList.zip ys.toList).length=min xs.size ys.size:=by simp
  wp_walk using wpAny_loadPart' e1,wpAny_loadPart' e2,Rr _ (λmore acc st=>acc.1=none/\st=⟨hp,gg,dr,tk,os⟩/\∃i,more=(xs.toList.zip ys.toList).drop i/\
   R (.ok (.ret (.bool (rq f g (decide (xs.size<ys.size)) ((List.range (min xs.size ys.size)).drop i))))) ⟨hp,gg,dr,tk,os⟩) _
  case turn=>
   rintro⟨y,x⟩ more acc st ⟨ha,rfl,i,hi,hR⟩
   have lt:i<(xs.toList.zip ys.toList).length:=by
    rcases MK i (xs.toList.zip ys.toList).length with z|z
    .exact z
    .rw[Nl z] at hi;cases hi
   have lm:i<min xs.size ys.size:=len▸lt
   have lx:i<xs.size:=LJ lm (Qv _ _)
   have ly:i<ys.size:=LJ lm (OT _ _)
   rw[Mj lt] at hi
   injection hi with h1 h2
   have q1:y=xs[i]:=by simpa using Mw Prod.fst h1
   have q2:x=ys[i]:=by simpa using Mw Prod.snd h1
   subst q1 q2
   have VP:(List.range (min xs.size ys.size)).drop i=i::(List.range (min xs.size ys.size)).drop (i+1):=by simp [Mj,lm]
   rw[VP] at hR
   unfold rq at hR
   refine Lx (he i lx ly _ _ ?_)
   cases hf:f i with
   |true=>
    rw[if_pos hf] at hR
    wp_walk
    exact⟨rfl,rfl,i+1,h2,hR⟩
   |false=>
    rw[if_neg (by rw[hf];decide)] at hR
    have Xc:=hc i lx ly hf
    unfold CmP at Xc
    wp_walk using Xc
    exact⟨_,rfl,hR⟩
  case fin=>
   rintro⟨c1,c2⟩ st ⟨ha,rfl,i,hi,hR⟩
   simp only at ha
   subst ha
   have ge:min xs.size ys.size<=i:=by
    rcases MK i (xs.toList.zip ys.toList).length with z|z
    .rw[Mj z] at hi;cases hi
    .exact len▸z
   rw[Nl (by simpa using ge)] at hR
   have XM:R (.ok (.ret (.bool (decide (xs.size<ys.size))))) ⟨hp,gg,dr,tk,os⟩:=hR
   wp_walk
   exact⟨_,rfl,by simpa [Builtin.Tuple.tupleCompareSizes] using XM⟩
  case h=>
   exact⟨rfl,rfl,0,rfl,by simpa using fin⟩
theorem vC (l m:Addr)(xs ys:Array Value)(n1 n2:Nat)(d1 d2:Option Addr)(s1 s2:Array (Option Value))(f g:Nat->Bool):∀(k i:Nat),min xs.size ys.size -i=k->
  MeetsIn P w (Builtin.«list.__eq__.loop» ⟨[.ref l,.ref m,rawInt i,rawInt 0],[]⟩) (λA R s=>
   s.heap.get? l=some {cls:= .type "list",dict:=d1,data:= .seq xs n1,slots:=s1}/\s.heap.get? m=some {cls:= .type "list",dict:=d2,data:= .seq ys n2,slots:=s2}/\
   (∀j (g1:j<xs.size) (g2:j<ys.size),EqP P w A.in1 s xs[j] ys[j] (f j))/\(∀j (g1:j<xs.size) (g2:j<ys.size),f j=false->CmP .Lt P w A.in1 s xs[j] ys[j] (g j))/\
   R (.ok (.ret (.bool (rq f g (decide (xs.size<ys.size)) ((List.range (min xs.size ys.size)).drop i))))) s)
 |0,i,hk=>by
  intro A R s hyp;obtain⟨hp,gg,dr,tk,os⟩:=s;obtain⟨e1,e2,he,hc,fin⟩:=hyp;rw[Nl (by rw[PL];lia)] at fin;have XN:R (.ok (.ret (.bool (decide (xs.size<ys.size))))) ⟨hp,gg,dr,tk,os⟩:=fin;rcases MK i xs.size with hx|hx
  .have x1:xs[((i:Nat):Int).toNat]?=some xs[i]:=by simp [hx]
   have x2:ys[((i:Nat):Int).toNat]?=none:=by simp;lia
   wp_walk using wpAny_loadPart' e1,wpAny_loadPart' e2;rw[x1,x2];wp_walk using wpAny_loadPart' e1,wpAny_loadPart' e2;exact XN
  .have x1:xs[((i:Nat):Int).toNat]?=none:=by simp;lia
   wp_walk using wpAny_loadPart' e1,wpAny_loadPart' e2;rw[x1];wp_walk using wpAny_loadPart' e1,wpAny_loadPart' e2;exact XN
 |k+1,i,hk=>by
  intro A R s hyp;have ih:=vC l m xs ys n1 n2 d1 d2 s1 s2 f g k (i+1) (KW hk);obtain⟨hp,gg,dr,tk,os⟩:=s;obtain⟨e1,e2,he,hc,fin⟩:=hyp;have lm:i<min xs.size ys.size:=KR hk;have l1:i<xs.size:=LJ lm (Qv _ _);have l2:i<ys.size:=LJ lm (OT _ _);have VP:(List.range (min xs.size ys.size)).drop i=i::(List.range (min xs.size ys.size)).drop (i+1):=by simp [Mj,lm]
  rw[VP] at fin;unfold rq at fin;have x1:xs[((i:Nat):Int).toNat]?=some xs[i]:=by simp [l1]
  have x2:ys[((i:Nat):Int).toNat]?=some ys[i]:=by simp [l2]
  have x4:((i:Int)+1)=((i+1:Nat):Int):=by push_cast;rfl
  wp_walk using wpAny_loadPart' e1,wpAny_loadPart' e2;rw[x1,x2];refine Lx (he i l1 l2 _ _ ?_);cases hf:f i with
  |true=>
   rw[if_pos hf] at fin
   wp_walk
   rw[x4]
   refine⟨NZ jC _,Nn Pp ?_⟩
   rw[MU jC _]
   exact ih A R _ ⟨e1,e2,he,hc,fin⟩
  |false=>
   rw[if_neg (by rw[hf];decide)] at fin
   wp_walk using wpAny_loadPart' e1,wpAny_loadPart' e2
   rw[x1,x2]
   refine Lx (hc i l1 l2 hf _ _ ?_)
   wp_walk
   exact fin
def Ft (l m:Addr)(xs ys:Array Value)(n1 n2:Nat)(d1 d2:Option Addr)(s1 s2:Array (Option Value))(f g:Nat->Bool):
  MeetsIn P w (Builtin.«list.__lt__» ⟨[.ref l,.ref m],[]⟩) (λA R s=>
   s.heap.get? l=some {cls:= .type "list",dict:=d1,data:= .seq xs n1,slots:=s1}/\s.heap.get? m=some {cls:= .type "list",dict:=d2,data:= .seq ys n2,slots:=s2}/\
   (∀j (g1:j<xs.size) (g2:j<ys.size),EqP P w A.in1 s xs[j] ys[j] (f j))/\(∀j (g1:j<xs.size) (g2:j<ys.size),f j=false->CmP .Lt P w A.in1 s xs[j] ys[j] (g j))/\
   R (.ok (.ret (.bool (rq f g (decide (xs.size<ys.size)) (List.range (min xs.size ys.size)))))) s):=by
 intro A R s hyp
 obtain⟨hp,gg,dr,tk,os⟩:=s
 obtain⟨e1,e2,he,hc,fin⟩:=hyp
 have q1:=PB
 wp_walk using wpAny_loadPart' e1,wpAny_loadPart' e2
 refine⟨NZ jC _,Nn Pp ?_⟩
 rw[MU jC _]
 exact vC l m xs ys n1 n2 d1 d2 s1 s2 f g _ 0 rfl A R _ ⟨e1,e2,he,hc,by simpa using fin⟩
def CmP.strLt {A:Around}{s:Shared}{a b:Str}{t u:Tok}:CmP .Lt P w A s (.str a t) (.str b u) (decide (a.cps.toList<b.cps.toList)):=λE Q q=>
 QY (op:= .Lt) (PF _ _ _) (PF _ _ _) F.slot_str_lt F.entry_str_lt (F.args_str_lt_2 _ _) (gives_str_lt _ _ _ _) (λe=>nomatch e) q
def CmP.tupLt {A:Around}{s:Shared}{l m:Addr}{xs ys:Array Value}{f g:Nat->Bool}(hl:s.heap.IsTuple l xs)(hm:s.heap.IsTuple m ys)(hu:A.units<cLine)
  (he:∀j (g1:j<xs.size) (g2:j<ys.size),EqP P w A.in1 s xs[j] ys[j] (f j)) (hc:∀j (g1:j<xs.size) (g2:j<ys.size),f j=false->CmP .Lt P w A.in1 s xs[j] ys[j] (g j)):CmP .Lt P w A s (.ref l) (.ref m) (rq f g (decide (xs.size<ys.size)) (List.range (min xs.size ys.size))):=λE Q q=>by
 obtain⟨⟨c1,d1,a1,s1⟩,o1,k1,n1,t1⟩:=id hl
 obtain⟨⟨c2,d2,a2,s2⟩,o2,k2,n2,t2⟩:=id hm
 simp only at k1 t1 k2 t2
 subst k1 t1 k2 t2
 refine NC (op:= .Lt) ⟨_,o1,rfl⟩ ⟨_,o2,rfl⟩ RO (NO RO ⟨_,o1,rfl⟩ PySem.F.entry_tuple_lt (PySem.F.args_tuple_lt_2 _ _) (Fy l m xs ys n1 n2 d1 d2 s1 s2 f g) ⟨o1,o2,he,hc,?_⟩) hu
 exact⟨(λz=>nomatch z),q⟩
end
section
variable {P:Program} {w:World} {A:Around} {E:Value->Shared->Prop} {s:Shared}
def Bq {a : Addr} {vs : List Value} {n : Nat} {kd : SortKind} {rk : Value -> Int} {Q : Fin -> Shared -> Prop} (ho : s.heap.get? a = some (seqObj "list" vs.toArray n)) (UE : vs.length <= sizeLine)
    (hk : 2 <= vs.length -> ∀ h6 : Heap, h6 = ((s.heap.update a (Obj.mapSeq λ_ => #[])).push (seqObj "tuple" vs.toArray 0)).push (seqObj "list" #[] 0) -> (∀ Q' : SortKind -> Shared -> Prop, Q' kd { s with heap := h6 } -> wpAny (model P w) A (keyKind' vs.toArray) Q' E { s with heap := h6 }) /\ jG P w A { s with heap := h6 } rk kd (pairsOf vs))
    (h : ∀ out : Array Value, out.toList.Perm vs -> (∀ (i j : Nat) (u v : Value), i <= j -> out[i]? = some u -> out[j]? = some v -> rk u <= rk v) -> Q (.done (.ret .none)) { s with heap := sortedHeap s.heap a vs out }) :
    wpAny (model P w) A (Builtin.«list.sort» ⟨[.ref a], []⟩) Q E s := by
  have u_ : a < s.heap.objs.size := LI ho
  have psz := pairsOf_size vs
  rw [list_sort_plain]
  refine Lx (RL ho rfl (Lx (listUpdate_at ho rfl ?_)))
  obtain ⟨e1, o1⟩ : ∃ e1, (s.heap.update a (Obj.mapSeq λ_ => #[])).get? a = some (seqObj "list" #[] e1) := ⟨_, get?_update_seq ho (λ_ => #[])⟩
  refine Lx (seqEpoch_at o1 rfl (Lx (wpAny_newTuple (Lx (Ri (Nj ?_))))))
  obtain ⟨h6, e6⟩ : ∃ h6 : Heap, h6 = ((s.heap.update a (Obj.mapSeq λ_ => #[])).push (seqObj "tuple" vs.toArray 0)).push (seqObj "list" #[] 0) := ⟨_, rfl⟩
  have o6 : h6.get? a = some (seqObj "list" #[] e1) := by
    rw [e6];exact Ly _ (Ly _ o1)
  show wpAny (model P w) A _ Q E { s with heap := ((s.heap.update a (Obj.mapSeq λ_ => #[])).push (seqObj "tuple" vs.toArray 0)).push (seqObj "list" #[] 0) }
  rw [← e6]
  dsimp only
  have same : ∀ p ∈ (pairsOf vs).toList, p.1 = p.2 := λp hp => by
    rw [QM] at hp;exact (mem_zip_self hp).1
  have fin : ∀ e_ : SortSt, (arrOf e_).Perm (pairsOf vs) -> Asc rk e_ (pairsOf vs).size -> Q (.done (.ret .none)) { s with heap := sortedHeap s.heap a vs ((arrOf e_).map (·.2)) } := λe_ pm up => by
    have pl := MW.mp pm;refine h _ ?_ λi j u v k_ hu hv => ?_
    . rw [Array.toList_map]
      refine (pl.map (·.2)).trans (Pr ?_)
      rw [QM]
      exact List.map_snd_zip (Lp _)
    . rw [SO] at hu hv
      obtain ⟨p, hp, rfl⟩ := My.mp hu
      obtain ⟨q, hq, rfl⟩ := My.mp hv
      have li : i < (arrOf e_).size := by
        rcases MK i (arrOf e_).size with z | z
        . exact z
        . rw [OE z] at hp; cases hp
      have lj : j < (arrOf e_).size := by
        rcases MK j (arrOf e_).size with z | z
        . exact z
        . rw [OE z] at hq; cases hq
      have z := up i j k_ (by rw [← pm.size_eq]; exact lj)
      rw [mW li, mW lj] at z
      rw [Ml li] at hp
      rw [Ml lj] at hq
      have m1 : p ∈ (pairsOf vs).toList := pl.mem_iff.mp (by rw [← LO hp]; simp)
      have m2 : q ∈ (pairsOf vs).toList := pl.mem_iff.mp (by rw [← LO hq]; simp)
      rw [← same p m1, ← same q m2, ← LO hp, ← LO hq]
      exact z
  by_cases h2 : vs.toArray.size < 2
  . rw [if_pos h2, if_pos h2]
    refine Lx (LK ?_)
    rw [StateT.run_pure]
    refine Lx (LK ?_)
    dsimp only
    refine Lx (seqEpoch_at o6 rfl ?_)
    refine Lx (listUpdate_at o6 rfl ?_ (hsz2 := by rw [Array.size_map]; show (pairsOf vs).size <= _; lia))
    simp only [Tu, NA, PQ]
    have z := fin (SortSt.mk' general' (vs.toArray.zip vs.toArray) #[] 7 none) (Array.Perm.refl _) (λi j k_ hj => by
      have : vs.toArray.size = vs.length := by simp
      rw [show i = j by lia]; exact Nu _)
    unfold sortedHeap at z
    rw [← e6] at z
    exact LK z
  . rw [if_neg h2, if_neg h2]
    have VJ : 2 <= vs.length := by have : vs.toArray.size = vs.length := by simp
                                   lia
    obtain ⟨Xw, Tq⟩ := hk VJ h6 e6
    refine Lx (Xw _ ?_)
    refine Lx (PD (FQ (base := pairsOf vs) (st := SortSt.mk' kd (vs.toArray.zip vs.toArray) #[] 7 none) (Q := λ_ e_ => (arrOf e_).Perm (pairsOf vs) /\ failedOf e_ = none /\ Asc rk e_ (pairsOf vs).size) Tq ⟨Array.Perm.refl _, rfl, rfl, rfl⟩ λe_ a1 a2 a3 => ⟨a1, a2, a3⟩) ?_ λ_ _ e => e)
    rintro ⟨⟨⟩, e_⟩ s' ⟨rfl, pm, fl, up⟩
    dsimp only
    refine Lx (seqEpoch_at o6 rfl ?_)
    refine Lx (listUpdate_at o6 rfl ?_ (hsz2 := by rw [Array.size_map, pm.size_eq]; lia))
    rw [fl]
    simp only [Tu, NA, PQ]
    have z := fin e_ pm up
    unfold sortedHeap at z
    rw [← e6] at z
    exact LK z
def lM {l:Addr}{vs:List Value}{kd:SortKind}{rk:Value->Int}{Q:Value->Shared->Prop}(hl:s.heap.IsList l vs.toArray)(UE:vs.length<=sizeLine)
  (hk:2<=vs.length->∀h6:Heap,(∀b o,s.heap.get? b=some o->h6.get? b=some o)->(∀(A':Around) (E':Value->Shared->Prop) (Q':SortKind->Shared->Prop),Q' kd {s with heap:=h6}->wpAny (model P w) A' (keyKind' vs.toArray) Q' E' {s with heap:=h6})/\jG P w A.in1.in1 {s with heap:=h6} rk kd (pairsOf vs))
  (h:∀out:Array Value,out.toList.Perm vs->(∀(i j:Nat) (u v:Value),i<=j->out[i]?=some u->out[j]?=some v->rk u<=rk v)->Q (.ref (s.heap.objs.size+1)) {s with heap:=sortedAll s.heap vs out}):
  wpAny (model P w) A (call (.builtin "sorted") [.ref l]) Q E s:=by
 refine OR kind_sorted plain_sorted entry_sorted (args_sorted1 _) ?_
 unfold Builtin.«sorted»
 refine Lx (m:=checkCount "sorted" 1 1 _) (LK (Lx (collect_list hl ?_)))
 refine Lx (Ri ?_)
 obtain⟨h1,e1⟩:∃h1:Heap,h1=(s.heap.push (seqObj "list" #[] 0)).update s.heap.objs.size (Obj.mapSeq (·++vs.toArray)):=⟨_,rfl⟩
 have sz:h1.objs.size=s.heap.objs.size+1:=by rw[e1,Heap.size_update,size_push']
 have old:∀b o,s.heap.get? b=some o->h1.get? b=some o:=λb o e=>by
  rw[e1,Heap.get?_update_ne _ _ _ _ (Ma (LI e))];exact Ly _ e
 obtain⟨h2,e2⟩:∃h2:Heap,h2=h1.push (seqObj "list" vs.toArray 0):=⟨_,rfl⟩
 have o2:h2.get? (s.heap.objs.size+1)=some (seqObj "list" vs.toArray 0):=by rw[e2,←sz];exact LY _ rfl
 show wpAny _ _ _ _ _ {s with heap:=((s.heap.push (seqObj "list" #[] 0)).update s.heap.objs.size (Obj.mapSeq (·++vs.toArray))).push (seqObj "list" vs.toArray 0)}
 rw[←e1,sz]
 have h':∀out:Array Value,out.toList.Perm vs->(∀(i j:Nat) (u v:Value),i<=j->out[i]?=some u->out[j]?=some v->rk u<=rk v)->Q (.ref (s.heap.objs.size+1)) {s with heap:=sortedHeap h2 (s.heap.objs.size+1) vs out}:=λout p1 p2=>by
  have z:=h out p1 p2;unfold sortedAll at z;rw[←e1,←e2] at z;exact z
 rw[←e2]
 refine Lx (Nj (Qf slot_list_sort ⟨_,o2,rfl⟩ entry_list_sort (Bq (s:={s with heap:=h2}) (kd:=kd) (rk:=rk) o2 UE (λg2 h6 e6=>?_) λout p1 p2=>⟨_,rfl,?_⟩) (args_list_sort _)))
 .have keep:∀b o,s.heap.get? b=some o->h6.get? b=some o:=λb o e=>by
   have lt:=LI e;rw[e6];refine Ly _ (Ly _ ?_);show(h2.update (s.heap.objs.size+1) _).get? b=some o;rw[Heap.get?_update_ne _ _ _ _ (Ma (QV lt)),e2];exact Ly _ (old b o e)
  exact⟨(hk g2 h6 keep).1 _ _,(hk g2 h6 keep).2⟩
 .exact LK ⟨_,rfl,h' out p1 p2⟩
abbrev M6:=Str×Str
def C7 (ps:List M6):qj:=ps.flatMap λp=>[p.1.cps.toList,p.2.cps.toList]
def Z1 (p:M6)(ps:List M6):C7 (p::ps)=p.1.cps.toList::p.2.cps.toList::C7 ps:=rfl
theorem nJ:∀{ps qs:List M6},C7 ps=C7 qs->ps=qs
 |[],[],_=>rfl
 |[],q::qs,h=>by rw[Z1] at h;cases h
 |p::ps,[],h=>by rw[Z1] at h;cases h
 |p::ps,q::qs,h=>by
  rw[Z1,Z1] at h;have h1:=(Mo h).1;have h2:=(Mo (Mo h).2).1;have h3:=(Mo (Mo h).2).2;rw[nJ h3,show p=q from PR (Q8 h1) (Q8 h2)]
theorem vH (f g:Nat->Bool)(c:Bool)(u:Nat->Nat):∀l:List Nat,rq f g c (l.map u)=rq (f∘u) (g∘u) c l
 |[]=>rfl
 |i::l=>by
  show(if f (u i)=true then rq f g c (l.map u) else g (u i))=if f (u i)=true then rq (f∘u) (g∘u) c l else g (u i)
  rw[vH f g c u l]
theorem pN {f f' g g':Nat->Bool}{c:Bool}:∀{l:List Nat},(∀i∈l,f i=f' i)->(∀i∈l,f i=false->g i=g' i)->rq f g c l=rq f' g' c l
 |[],_,_=>rfl
 |i::l,h1,h2=>by
  have e:=h1 i Lv;have ih:=pN (c:=c) (λj hj=>h1 j (Lw _ hj)) (λj hj=>h2 j (Lw _ hj));show(if f i=true then _ else _)=if f' i=true then _ else _
  cases z:f i with
  |true=>rw[←e,z,if_pos rfl,if_pos rfl,ih]
  |false=>rw[←e,z,if_neg (by decide),if_neg (by decide),h2 i Lv z]
def ltP (p q:M6):Bool:=decide (C7 [p]<C7 [q])
def qd (p q:M6)(ps qs:List M6):C7 (p::ps)<C7 (q::qs)↔(C7 [p]<C7 [q]\/(p=q/\C7 ps<C7 qs)):=by
 rw[Z1,Z1];show _↔(p.1.cps.toList::p.2.cps.toList::[]<q.1.cps.toList::q.2.cps.toList::[]\/_);rw[Nd,Nd,Nd,Nd];have n:¬(([]:qj)<[]):=Nz _;have e:p=q↔p.1.cps.toList=q.1.cps.toList/\p.2.cps.toList=q.2.cps.toList:=⟨λz=>by rw[z];exact⟨rfl,rfl⟩,λz=>PR (Q8 z.1) (Q8 z.2)⟩
 rw[e];constructor
 .rintro(h|⟨h1,h2|⟨h2,h3⟩⟩)
  .exact .inl (.inl h)
  .exact .inl (.inr ⟨h1,.inl h2⟩)
  .exact .inr ⟨⟨h1,h2⟩,h3⟩
 .rintro((h|⟨h1,h2|⟨h2,h3⟩⟩)|⟨⟨h1,h2⟩,h3⟩)
  .exact .inl h
  .exact .inr ⟨h1,.inl h2⟩
  .exact absurd h3 n
  .exact .inr ⟨h1,.inr ⟨h2,h3⟩⟩
def gP (ps qs:List M6)(j:Nat):Bool:=match ps[j]?,qs[j]? with
 |some p,some q=>ltP p q
 |_,_=>false
def GW {ps qs:List M6}{j:Nat}{p q:M6}(h1:ps[j]?=some p)(h2:qs[j]?=some q):gP ps qs j=ltP p q:=by
 unfold gP;rw[h1,h2]
theorem DG:∀(ps qs:List M6),rq (λj=>decide (ps[j]?=qs[j]?)) (gP ps qs) (decide (ps.length<qs.length)) (List.range (min ps.length qs.length))=decide (C7 ps<C7 qs)
 |[],[]=>by
  show decide (0<0)=_;rw[LL (by decide),LL (Nz _)]
 |[],q::qs=>by
  show rq _ _ _ (List.range (min 0 _))=_;rw[Nat.zero_min];show decide (0<qs.length+1)=_;rw[LN (TN _)];exact(LN (show([]:qj)<C7 (q::qs) from List.nil_lt_cons _ _)).symm
 |p::ps,[]=>by
  show rq _ _ _ (List.range (min _ 0))=_;rw[Nat.min_zero];show decide (ps.length+1<0)=_;rw[LL (Pt _)];exact(LL (show ¬C7 (p::ps)<([]:qj) from List.not_lt_nil _)).symm
 |p::ps,q::qs=>by
  have ih:=DG ps qs;rw[Mv,Mv,Nat.add_min_add_right,Pz];show(if decide (some p=some q)=true then _ else _)=_;have key:decide (C7 (p::ps)<C7 (q::qs))=(ltP p q||(decide (p=q)&&decide (C7 ps<C7 qs))):=by
   rw[LQ,LA,Qt,Mg,LA,LA,qd];unfold ltP;rw[LA]
  rw[key];by_cases e:p=q
  .subst e;rw[if_pos (by simp),vH];have n:ltP p p=false:=LL (Nz _);rw[n,LN rfl,Bool.false_or,Pu,←ih,show decide (ps.length+1<qs.length+1)=decide (ps.length<qs.length) by rw[LQ,LA,LA];exact Nat.succ_lt_succ_iff];exact pN (λi _=>rfl) (λi _ _=>rfl)
  .rw[if_neg (by simpa using e),LL e,Sg,SF];rfl
def PrAt (h:Heap)(v:Value)(p:M6):Prop:=∃(a:Addr) (t1 t2:Tok),v= .ref a/\h.IsTuple a #[.str p.1 t1,.str p.2 t2]
def EqP.self {v:Addr}:EqP P w A s (.ref v) (.ref v) true:=λE Q q=>by
 unfold eqBool;refine Nj (wpAny_ite_split (λ_=>Lx (Pg (LK q))) λz=>absurd (Qg _) z)
def PrAt.eq {v u:Value}{p q:M6}(hv:PrAt s.heap v p)(hu:PrAt s.heap u q)(hA:A.units+2<cLine):EqP P w A s v u (decide (p=q)):=by
 obtain⟨a,t1,t2,rfl,ha⟩:=hv;obtain⟨b,t3,t4,rfl,hb⟩:=hu;by_cases e:a=b
 .subst e;have z:p=q:=by
   obtain⟨o,e1,_,n1,d1⟩:=id ha;obtain⟨o',e2,_,n2,d2⟩:=id hb;rw[e1] at e2;cases e2;rw[d1] at d2;have y:=Mw Array.toList (RQ d2).1;simp at y;exact PR y.1.1 y.2.1
  rw[LN z];exact EqP.self
 .have r:=RcP.tup (P:=P) (w:=w) (A:=A) (f:=λj=>if j=0 then decide (p.1=q.1) else decide (p.2=q.2)) ha hb (by lia) (λj g1 g2=>?_)
  .refine EqP.refs e ?_;have z:decide (p=q)=((List.range (min (#[Value.str p.1 t1,.str p.2 t2]).size (#[Value.str q.1 t3,.str q.2 t4]).size)).all (λj=>if j=0 then decide (p.1=q.1) else decide (p.2=q.2))&&(#[Value.str p.1 t1,.str p.2 t2]).size==(#[Value.str q.1 t3,.str q.2 t4]).size):=by
    show _=((decide (p.1=q.1)&&(decide (p.2=q.2)&&true))&&true);rw[Ox,Ox,LQ,LA,Mg,LA,LA];exact⟨λz=>by rw[z];exact⟨rfl,rfl⟩,λz=>PR z.1 z.2⟩
   rw[z];exact r
  .have hs:∀(x y:Str) (t u:Tok),EqP P w A.in1 s (.str x t) (.str y u) (decide (x=y)):=λx y t u=>by
    have z:=bY (A:=A.in1) (s:=s) (y:= .str x) (x:= .str y) (u:= .str x t) (v:= .str y u) ⟨t,rfl⟩ ⟨u,rfl⟩ rfl rfl;rw[show dq (.str x) (.str y)=decide (x=y) by show(x==y)=_;rw[LQ,Pd,LA]] at z;exact EqP.of z
   match j,g1 with
   |0,_=>exact hs _ _ _ _
   |1,_=>exact hs _ _ _ _
end
section
variable {P:Program} {w:World} {A:Around} {E:Value->Shared->Prop} {s:Shared}
def yr {x y:Str}:decide (x=y)=decide (x.cps.toList=y.cps.toList):=by
 rw[LQ,LA,LA];exact⟨λe=>by rw[e],Q8⟩
def Dn (p q:M6):ltP p q=rq (λj=>if j=0 then decide (p.1=q.1) else decide (p.2=q.2)) (λj=>if j=0 then decide (p.1.cps.toList<q.1.cps.toList) else decide (p.2.cps.toList<q.2.cps.toList)) (decide (2<2)) (List.range (min 2 2)):=by
 show ltP p q=if decide (p.1=q.1)=true then(if decide (p.2=q.2)=true then decide (2<2) else decide (p.2.cps.toList<q.2.cps.toList)) else decide (p.1.cps.toList<q.1.cps.toList)
 unfold ltP;rw[yr,yr];have z:C7 [p]<C7 [q]↔(p.1.cps.toList<q.1.cps.toList\/(p.1.cps.toList=q.1.cps.toList/\p.2.cps.toList<q.2.cps.toList)):=by
  show p.1.cps.toList::p.2.cps.toList::[]<q.1.cps.toList::q.2.cps.toList::[]↔_;rw[Nd,Nd];have n:¬(([]:qj)<[]):=Nz _;exact⟨λz=>z.imp_right λz=>⟨z.1,z.2.elim id λy=>absurd y.2 n⟩,λz=>z.imp_right λz=>⟨z.1,.inl z.2⟩⟩
 by_cases e1:p.1.cps.toList=q.1.cps.toList
 .rw[if_pos (LN e1)];by_cases e2:p.2.cps.toList=q.2.cps.toList
  .rw[if_pos (LN e2),LL,LL (by decide)];rw[z,e1,e2];rintro(h|⟨_,h⟩)<;>exact Nz _ h
  .rw[if_neg (by rw[LA];exact e2),LQ,LA,LA,z];exact⟨λy=>y.elim (λy=>by rw[e1] at y;exact absurd y (Nz _)) (·.2),λy=> .inr ⟨e1,y⟩⟩
 .rw[if_neg (by rw[LA];exact e1),LQ,LA,LA,z];exact⟨λy=>y.elim id (λy=>absurd y.1 e1),.inl⟩
def PrAt.lt {v u:Value}{p q:M6}(hv:PrAt s.heap v p)(hu:PrAt s.heap u q)(hA:A.units+2<cLine):CmP .Lt P w A s v u (ltP p q):=by
 obtain⟨a,t1,t2,rfl,ha⟩:=hv;obtain⟨b,t3,t4,rfl,hb⟩:=hu;have hs:∀(x y:Str) (t u:Tok),EqP P w A.in1 s (.str x t) (.str y u) (decide (x=y)):=λx y t u=>by
  have z:=bY (A:=A.in1) (s:=s) (y:= .str x) (x:= .str y) (u:= .str x t) (v:= .str y u) ⟨t,rfl⟩ ⟨u,rfl⟩ rfl rfl;rw[show dq (.str x) (.str y)=decide (x=y) by show(x==y)=_;rw[LQ,Pd,LA]] at z;exact EqP.of z
 have r:=CmP.tupLt (P:=P) (w:=w) (A:=A) (f:=λj=>if j=0 then decide (p.1=q.1) else decide (p.2=q.2)) (g:=λj=>if j=0 then decide (p.1.cps.toList<q.1.cps.toList) else decide (p.2.cps.toList<q.2.cps.toList)) ha hb (by lia) (λj g1 g2=>match j,g1 with
   |0,_=>hs _ _ _ _
   |1,_=>hs _ _ _ _) (λj g1 g2 _=>match j,g1 with
   |0,_=>CmP.strLt
   |1,_=>CmP.strLt)
 rw[Dn];exact r
def LpAt (h:Heap)(v:Value)(ps:List M6):Prop:=∃(a:Addr) (us:List Value),v= .ref a/\h.IsList a us.toArray/\Paired (PrAt h) us ps
def LpAt.lt {v u:Value}{ps qs:List M6}{Q:Bool->Shared->Prop}(hv:LpAt s.heap v ps)(hu:LpAt s.heap u qs)(hA:A.units+8<cLine)(q:Q (decide (C7 ps<C7 qs)) s):wpAny (model P w) A (keyLt' oneType' v u) Q E s:=by
 obtain⟨a,us,rfl,ha,pa⟩:=hv;obtain⟨b,vs,rfl,hb,pb⟩:=hu;have l1:=Mc pa;have l2:=Mc pb;obtain⟨⟨c1,d1,a1,s1⟩,o1,k1,n1,w1⟩:=id ha;obtain⟨⟨c2,d2,a2,s2⟩,o2,k2,n2,w2⟩:=id hb;simp only at k1 w1 k2 w2;subst k1 w1 k2 w2;have gt:∀{xs:List Value} {rs:List M6} (j:Nat) (g:j<xs.toArray.size),Paired (PrAt s.heap) xs rs->∃p,rs[j]?=some p/\PrAt s.heap xs.toArray[j] p:=fun{xs rs} j g pr=>by
  have g':j<xs.length:=by simpa using g
  obtain⟨p,hp,z⟩:=A9 pr (Lm g');exact⟨p,hp,by simpa using z⟩
 rw[keyLt'_oneType,oneLt'_eq];simp only[Sl];refine Lx (wpAny_cRoomFor (by lia) ?_);refine Lx (wpAny_callSpecialIfBound?_slot ⟨_,o1,rfl⟩ Sb (NO Sb ⟨_,o1,rfl⟩ PySem.F.entry_list_lt (PySem.F.args_list_lt_2 _ _) (Ft a b us.toArray vs.toArray n1 n2 d1 d2 s1 s2 (λj=>decide (ps[j]?=qs[j]?)) (gP ps qs)) ⟨o1,o2,λj g1 g2=>?_,λj g1 g2 _=>?_,?_⟩))
 .obtain⟨p,hp,z1⟩:=gt j g1 pa;obtain⟨q,hq,z2⟩:=gt j g2 pb;rw[hp,hq,show decide (some p=some q)=decide (p=q) by rw[LQ,LA,LA];exact⟨LO,λe=>by rw[e]⟩];exact z1.eq z2 (by show A.units+1+2<cLine;lia)
 .obtain⟨p,hp,z1⟩:=gt j g1 pa;obtain⟨q,hq,z2⟩:=gt j g2 pb;rw[GW hp hq];exact z1.lt z2 (by show A.units+1+2<cLine;lia)
 .rw[LR,LR,l1,l2,DG];exact MY q
def yi {vs:List Value}{Q:SortKind->Shared->Prop}(v_:vs≠[])(h:∀v∈vs,∃(a:Addr) (us:Array Value),v= .ref a/\s.heap.IsList a us)(q:Q oneType' s):wpAny (model P w) A (keyKind' vs.toArray) Q E s:=by
 have ty:∀v∈vs,s.TypeIs v "list":=λv hv=>by
  obtain⟨a,us,rfl,o,e,hc,_⟩:=h v hv;exact⟨o,e,hc⟩
 rw[keyKind'_eq,PJ];refine Lx (UB (fS (g:=λ_=>(none:Option Value)) (λv hv Q' q'=>?_) ?_))
 .rw[kU];refine Lx (Pb (T:="list") (ty v hv) ?_);rw[if_pos (by decide)];exact LK q'
 obtain⟨v,r,rfl⟩:=OQ v_;rw[if_neg (by simp),if_neg (by simp),oneTypeOnly'_eq,PJ];refine Lx (Lx (UB (fS (g:=λ_=>Value.type "list") (λv hv Q' q'=>Pb (ty v hv) q') ?_)));have h0:((v::r).map λ_=>Value.type "list").toArray[0]?=some (Value.type "list"):=by simp
 rw[h0];have ha:(((v::r).map λ_=>Value.type "list").toArray.all λx=>x==Value.type "list")=true:=by
  simp only[Rt,Nc,LZ];intro _ _;rfl
 dsimp only;rw[if_pos ha];exact LK (LK q)
end
section
variable {X:Cx}
abbrev aO:=Addr×List (Addr×M6)
def sC (K:Za):List V->Hp->VK->Prop:=λxs H Q=>∃(p:Addr) (ls:List aO),xs=[.ref p]/\SqL K H p (ls.map λl=>V.ref l.1)/\(∀l∈ls,SqL K H l.1 (l.2.map λt=>V.ref t.1)/\∀t∈l.2,SqT K H t.1 [.str t.2.1,.str t.2.2])/\
 ∀ls':List aO,ls'.Perm ls->ls'.Pairwise (λa b=>¬C7 (b.2.map (·.2))<C7 (a.2.map (·.2)))->∀l,H l=none->Q (.ref l) (upd H l (.lst (ls'.map λl=>V.ref l.1)))
def bC {α:Type}(f:α->Addr){ts:List α}:∀{us:List Value},Vals (ts.map λt=>V.ref (f t)) us->us=ts.map λt=>Value.ref (f t):=by
 induction ts with
 |nil=>intro us h;cases h;rfl
 |cons t r ih=>
  intro us h
  cases h with
  |cons rx t2=>
   have e:_=Value.ref (f t):=rx
   rw[e,ih t2];rfl
theorem fz {α:Type}(f:α->Addr):∀ts:List α,Vals (ts.map λt=>V.ref (f t)) (ts.map λt=>Value.ref (f t))
 |[]=> .nil
 |t::r=> .cons rfl (fz f r)
def qF:CallR X (.builtin "sorted") (kT X.K):=by
 intro pins s σ H xs us Q I r h;obtain⟨p,ts,rfl,hx,Sn,ZK,UE,q⟩:=h;obtain⟨u,rfl,ru⟩:=O7 r;cases ru;have h64':(64:Nat)<=sizeLine:=by decide
 obtain⟨a_,rv,ht,hz⟩:=I.list hx;have ei:=xj rv;subst ei;let kf:Value->qj:=λv=>match v with
  | .ref a=>match ts.find? (λt=>t.1==a) with
   |some t=>G8 t.2
   |none=>[]
  |_=>[]
 have Vp:∀t∈ts,kf (.ref t.1)=G8 t.2:=λt hm=>by
  show(match ts.find? (λt'=>t'.1==t.1) with|some t=>G8 t.2|none=>[])=_;cases e:ts.find? (λt'=>t'.1==t.1) with
  |none=>exact absurd (Oa.mp e t hm) (by simp)
  |some t'=>
   have e1:t'.1=t.1:=by simpa using Qy e
   have m':=Oe e
   have z:=(Sn t' m').1
   rw[e1] at z
   show G8 t'.2=G8 t.2
   rw[I.tuple_inj z (Sn t hm).1]
 have key:∀h6:Heap,(∀b o,s.heap.get? b=some o->h6.get? b=some o)->∀v∈ts.map (λt=>Value.ref t.1),∃(t:Addr×List V) (us:List Value),t∈ts/\v= .ref t.1/\h6.IsTuple t.1 us.toArray/\Vals t.2 us:=λh6 keep v hv=>by
  obtain⟨t,hm,rfl⟩:=Ln.mp hv;obtain⟨us,r1,p1,z1⟩:=I.tuple (Sn t hm).1;obtain⟨o,e,hc,n,d⟩:=(show s.heap.IsTuple t.1 us.toArray from p1)
  exact⟨t,us,hm,rfl,⟨o,keep _ _ e,hc,n,d⟩,r1⟩
 have XO:∀(h6:Heap) (a:Addr) (us vs:List Value),h6.IsTuple a us.toArray->h6.IsTuple a vs.toArray->us=vs:=λh6 a us vs h1 h2=>by
  obtain⟨o,e,hc,n,d⟩:=h1;obtain⟨o',e',TM,n',d'⟩:=h2;rw[e] at e';cases e';rw[d] at d';cases d';rfl
 refine lM (s:=s) (kd:=tuples' true) (rk:=λv=>Dt ((ts.map λt=>Value.ref t.1).map kf) (kf v)) ht.isList (by rw[Ll];exact Mh (NY UE) h64') (λh2 h6 keep=>⟨λA' E' Q' q'=>Ct (s:={s with heap:=h6}) (by intro z;rw[z] at h2;exact absurd h2 (by decide)) (λv hv=>?_) q',CA (s:={s with heap:=h6}) (λv hv=>⟨?_⟩) (λv hv u hu a b us vs ys zs ea eb i1 i2 v1 v2=>?_)⟩) λout pm up=>?_
 .obtain⟨t,us,hm,rfl,i1,v1⟩:=key h6 keep v hv;obtain⟨x,r,e⟩:=(Sn t hm).2;rw[e] at v1;cases v1 with
  |cons rx t2=>
   obtain⟨tk,rfl⟩:=(show ∃tk,_=Value.str x tk from rx)
   exact⟨t.1,_,x,tk,rfl,i1,rfl⟩
 .obtain⟨t,us,hm,rfl,i1,v1⟩:=key h6 keep v hv;obtain⟨x,r,e⟩:=(Sn t hm).2;exact⟨t.1,us,t.2,x,r,rfl,i1,v1,e,Vp t hm⟩
 .obtain⟨t,us1,hm,e1,j1,w1⟩:=key h6 keep v hv;obtain⟨t',Ts,hm',e2,j2,w2⟩:=key h6 keep u hu;rw[ea] at e1;rw[eb] at e2;cases e1;cases e2;have q1:=XO h6 _ _ _ i1 j1;have q2:=XO h6 _ _ _ i2 j2;subst q1 q2;have x1:ys=t.2:=by exact iy v1 w1
  have x2:zs=t'.2:=by exact iy v2 w2
  rw[x1,x2];exact ZK t hm t' hm'
 .obtain⟨y_,e',p'⟩:=cL (λt:Addr×List V=>Value.ref t.1) pm ts rfl;obtain⟨e,he⟩:=sortedAll_at s.heap (ts.map λt=>Value.ref t.1) out;have RE:=p'.length_eq;refine⟨.ref (s.heap.objs.size+1),_,I.newL (tk:=s.toks) (λ_ _=>sortedAll_old) (NR _) he (by rw[e'];exact pA y_) (by rw[Ll];lia),rfl,q y_ p' ?_ _ (I.hok.fresh (NR _))⟩;refine Od.mpr λi j hi hj k_=>?_;have g:∀(k:Nat) (hk:k<y_.length),out[k]?=some (Value.ref y_[k].1):=λk hk=>by
   rw[←Mb,e',Lo,Lm hk];rfl
  have z:=up i j _ _ (NY k_) (g i hi) (g j hj);have mi:y_[i]∈ts:=p'.mem_iff.mp (LM hi);have mj:y_[j]∈ts:=p'.mem_iff.mp (LM hj);have z2:=DP (Ln.mpr ⟨_,Ln.mpr ⟨_,mj,rfl⟩,rfl⟩) z;rw[Vp _ mi,Vp _ mj] at z2;exact z2
def tf (K:Za)(h:X.K=K:=by rfl):CallR X (.builtin "sorted") (kT K):=h▸qF
def qr (hu:X.A.units+64<cLine):CallR X (.builtin "sorted") (sC X.K):=by
 intro pins s σ H xs us Q I r h;obtain⟨p,ls,rfl,hx,UY,q⟩:=h;obtain⟨u,rfl,ru⟩:=O7 r;cases ru;obtain⟨a_,rv,ht,hz⟩:=I.list hx;have ei:=bC (λl:aO=>l.1) rv;subst ei;have inj:∀l∈ls,∀l'∈ls,l.1=l'.1->l.2.map (·.2)=l'.2.map (·.2):=λl hl l' RE e=>by
  have z:=(UY l hl).1;rw[e] at z;have m:=I.list_inj z (UY l' RE).1;have key:∀(a b:List (Addr×M6)),a.map (λt=>V.ref t.1)=b.map (λt=>V.ref t.1)->(∀t∈a,SqT X.K H t.1 [.str t.2.1,.str t.2.2])->(∀t∈b,SqT X.K H t.1 [.str t.2.1,.str t.2.2])->a.map (·.2)=b.map (·.2):=by
   intro a;induction a with
   |nil=>intro b e _ _;cases b with|nil=>rfl|cons _ _=>cases e
   |cons t a ih=>
    intro b e h1 h2
    cases b with
    |nil=>cases e
    |cons t' b=>
     have e1:t.1=t'.1:=V.ref.inj (Mo e).1
     have s1:=h1 t Lv
     rw[e1] at s1
     have e2:=I.tuple_inj s1 (h2 t' Lv)
     have f1:=V.str.inj (Mo e2).1
     have f2:=V.str.inj (Mo (Mo e2).2).1
     rw[Ms,Ms,ih b (Mo e).2 (λt ht=>h1 t (Lw _ ht)) (λt ht=>h2 t (Lw _ ht)),show t.2=t'.2 from PR f1 f2]
  exact key _ _ m (UY l hl).2 (UY l' RE).2
 let kf:Value->qj:=λv=>match v with
  | .ref a=>match ls.find? (λt=>t.1==a) with
   |some t=>C7 (t.2.map (·.2))
   |none=>[]
  |_=>[]
 have Vp:∀t∈ls,kf (.ref t.1)=C7 (t.2.map (·.2)):=λt hm=>by
  show(match ls.find? (λt'=>t'.1==t.1) with|some (t:aO)=>C7 (t.2.map λx:Addr×M6=>x.2)|none=>[])=_;cases e:ls.find? (λt'=>t'.1==t.1) with
  |none=>exact absurd (Oa.mp e t hm) (by simp)
  |some t'=>
   have e1:t'.1=t.1:=by simpa using Qy e
   show C7 _=C7 _
   rw[inj t' (Oe e) t hm e1]
 have key:∀h6:Heap,(∀b o,s.heap.get? b=some o->h6.get? b=some o)->∀v∈ls.map (λt=>Value.ref t.1),∃t:aO,t∈ls/\v= .ref t.1/\LpAt h6 v (t.2.map (·.2)):=λh6 keep v hv=>by
  obtain⟨t,hm,rfl⟩:=Ln.mp hv;obtain⟨us,r1,p1,z1⟩:=I.list (UY t hm).1;have eu:=bC (λl:Addr×M6=>l.1) r1;subst eu;obtain⟨o,e,hc,n,d⟩:=p1.isList;refine⟨t,hm,rfl,t.1,_,rfl,⟨o,keep _ _ e,hc,n,d⟩,?_⟩;have pr:∀l:List (Addr×M6),(∀t∈l,SqT X.K H t.1 [.str t.2.1,.str t.2.2])->Paired (PrAt h6) (l.map λt=>Value.ref t.1) (l.map (·.2)):=by
   intro l;induction l with
   |nil=>intro _;exact .nil
   |cons y l ih=>
    intro hl
    refine .cons ?_ (ih λt ht=>hl t (Lw _ ht))
    obtain⟨vs,r2,p2,z2⟩:=I.tuple (hl y Lv)
    cases r2 with
    |cons ra r2=>
     cases r2 with
     |cons rb r2=>
      cases r2
      obtain⟨ta,rfl⟩:=(show ∃tk,_=Value.str y.2.1 tk from ra)
      obtain⟨tb,rfl⟩:=(show ∃tk,_=Value.str y.2.2 tk from rb)
      obtain⟨o,e,hc,n,d⟩:=(show s.heap.IsTuple y.1 _ from p2)
      exact⟨y.1,ta,tb,rfl,⟨o,keep _ _ e,hc,n,d⟩⟩
  exact pr t.2 (UY t hm).2
 have hlz:ls.length<=sizeLine:=by rw[Ll] at hz;exact hz
 refine lM (s:=s) (kd:=oneType') (rk:=λv=>Dt ((ls.map λt=>Value.ref t.1).map kf) (kf v)) ht.isList (by rw[Ll];exact hlz) (λh2 h6 keep=>⟨λA' E' Q' q'=>yi (s:={s with heap:=h6}) (by intro z;rw[z] at h2;exact absurd h2 (by decide)) (λv hv=>?_) q',?_⟩) λout pm up=>?_
 .obtain⟨t,hm,e,a,us,e',hl,_⟩:=key h6 keep v hv;exact⟨a,us.toArray,e',hl⟩
 .intro x y E' Q' hx hy q';have mem:∀z,(∃p∈(pairsOf (ls.map λt=>Value.ref t.1)).toList,p.1=z)->z∈ls.map λt=>Value.ref t.1:=λz hz=>by
   obtain⟨p,hp,rfl⟩:=hz;rw[QM] at hp;exact(mem_zip_self hp).2
  have mx:=mem x hx;have my:=mem y hy;rw[ym (Ln.mpr ⟨x,mx,rfl⟩)] at q';obtain⟨t,hm,rfl,l1⟩:=key h6 keep x mx;obtain⟨t',hm',rfl,l2⟩:=key h6 keep y my;rw[Vp t hm,Vp t' hm'] at q';exact LpAt.lt (s:={s with heap:=h6}) l1 l2 (by show X.A.units+1+1+8<cLine;lia) q'
 .obtain⟨ls',e',p'⟩:=cL (λt:aO=>Value.ref t.1) pm ls rfl;obtain⟨e,he⟩:=sortedAll_at s.heap (ls.map λt=>Value.ref t.1) out;have RE:=p'.length_eq;refine⟨.ref (s.heap.objs.size+1),_,I.newL (tk:=s.toks) (λ_ _=>sortedAll_old) (NR _) he (by rw[e'];exact fz (λl:aO=>l.1) ls') (by rw[Ll];lia),rfl,q ls' p' ?_ _ (I.hok.fresh (NR _))⟩;refine Od.mpr λi j hi hj k_=>?_;have g:∀(k:Nat) (hk:k<ls'.length),out[k]?=some (Value.ref ls'[k].1):=λk hk=>by
   rw[←Mb,e',Lo,Lm hk];rfl
  have z:=up i j _ _ (NY k_) (g i hi) (g j hj);have mi:ls'[i]∈ls:=p'.mem_iff.mp (LM hi);have mj:ls'[j]∈ls:=p'.mem_iff.mp (LM hj);have z2:=DP (Ln.mpr ⟨_,Ln.mpr ⟨_,mj,rfl⟩,rfl⟩) z;rw[Vp _ mi,Vp _ mj] at z2;exact z2
def Bb (K:Za){k:Nat}(hr:Room k X.A)(h:X.K=K:=by rfl):CallR X (.builtin "sorted") (sC K):=h▸qr (by have:=hr.un;lia)
end
section
variable {A:Around} {s:Shared}
def PrAt.inj {h:Heap}{v:Value}{p q:M6}(hv:PrAt h v p)(hu:PrAt h v q):p=q:=by
 obtain⟨a,t1,t2,rfl,ha⟩:=hv;obtain⟨b,t3,t4,e,hb⟩:=hu;cases e;obtain⟨o,e1,_,n1,d1⟩:=id ha;obtain⟨o',e2,_,n2,d2⟩:=id hb;rw[e1] at e2;cases e2;rw[d1] at d2;have y:=Mw Array.toList (RQ d2).1;simp at y;exact PR y.1.1 y.2.1
theorem pO {h:Heap}:∀{us:List Value} {ps qs:List M6},Paired (PrAt h) us ps->Paired (PrAt h) us qs->ps=qs
 |_,_,_,.nil,.nil=>rfl
 |_,_,_,.cons r1 t1,.cons r2 t2=>by rw[r1.inj r2,pO t1 t2]
def EC:∀{ps qs:List M6},ps.length=qs.length->((List.range ps.length).all λj=>decide (ps[j]?=qs[j]?))=decide (ps=qs):=by
 intro ps qs hl;rw[LQ,LA,LZ];constructor
 .intro h;refine Ra λj=>?_;rcases MK j ps.length with z|z
  .exact Nv (h j (OC.mpr z))
  .rw[Ob z,Ob (by lia)]
 .intro h j _;rw[h,LA]
def LpAt.eqA {v u:Value}{ps qs:List M6}(hv:LpAt s.heap v ps)(hu:LpAt s.heap u qs)(hA:A.units+8<cLine):SeqAt.EqAt A s v u (decide (ps=qs)):=by
 obtain⟨a,us,rfl,ha,pa⟩:=hv;obtain⟨b,vs,rfl,hb,pb⟩:=hu;have l1:=Mc pa;have l2:=Mc pb;intro P w E Q q;by_cases e:a=b
 .subst e;have z:us=vs:=by
   obtain⟨o,e1,_,n1,d1⟩:=id ha;obtain⟨o',e2,_,n2,d2⟩:=id hb;rw[e1] at e2;cases e2;rw[d1] at d2;have y:=Mw Array.toList (RQ d2).1;simpa using y
  subst z;rw[LN (pO pa pb)] at q;exact EqP.self E Q q
 .by_cases hl:us.length=vs.length
  .have r:=RcP.lst (P:=P) (w:=w) (A:=A) (s:=s) (f:=λj=>decide (ps[j]?=qs[j]?)) ha hb (by simpa using hl) (by lia) (λj g1 g2=>?_)
   .refine EqP.refs e ?_ E Q q;rw[LR,l1,EC (by lia)] at r;exact r
   .have Uj:j<us.length:=by simpa using g1
    have Uk:j<vs.length:=by simpa using g2
    obtain⟨p,hp,z1⟩:=A9 pa (Lm Uj);obtain⟨q,hq,z2⟩:=A9 pb (Lm Uk);rw[hp,hq,show decide (some p=some q)=decide (p=q) by rw[LQ,LA,LA];exact⟨LO,λe=>by rw[e]⟩];have z3:PrAt s.heap us.toArray[j] p:=by simpa using z1
    have z4:PrAt s.heap vs.toArray[j] q:=by simpa using z2
    exact z3.eq z4 (by show A.units+1+2<cLine;lia)
  .have r:=QX (A:=A) (s:=s) ha hb (by simp;lia) (by lia);rw[LL (λz=>hl (by rw[l1,l2,z]))] at q;exact(show SeqAt.EqAt A s (.ref a) (.ref b) false from .of_refs e r) P w E Q q
end
section
variable {X:Cx}
def RwK (K:Za)(H:Hp)(x:aO):Prop:=SqL K H x.1 (x.2.map λt=>V.ref t.1)/\∀t∈x.2,SqT K H t.1 [.str t.2.1,.str t.2.2]
def RwK.at_ {pins:List (Addr×Obj)}{σ:St}{H:Hp}{s:Shared}(I:Inv X pins σ H s){x:aO}(h:RwK X.K H x):LpAt s.heap (.ref x.1) (x.2.map (·.2)):=by
 obtain⟨us,r1,p1,z1⟩:=I.list h.1;have eu:=bC (λl:Addr×M6=>l.1) r1;subst eu;refine⟨x.1,_,rfl,p1.isList,?_⟩;have pr:∀l:List (Addr×M6),(∀t∈l,SqT X.K H t.1 [.str t.2.1,.str t.2.2])->Paired (PrAt s.heap) (l.map λt=>Value.ref t.1) (l.map (·.2)):=by
  intro l;induction l with
  |nil=>intro _;exact .nil
  |cons y l ih=>
   intro hl
   refine .cons ?_ (ih λt ht=>hl t (Lw _ ht))
   obtain⟨vs,r2,p2,z2⟩:=I.tuple (hl y Lv)
   cases r2 with
   |cons ra r2=>
    cases r2 with
    |cons rb r2=>
     cases r2
     obtain⟨ta,rfl⟩:=(show ∃tk,_=Value.str y.2.1 tk from ra)
     obtain⟨tb,rfl⟩:=(show ∃tk,_=Value.str y.2.2 tk from rb)
     exact⟨y.1,ta,tb,rfl,p2⟩
 exact pr x.2 h.2
def vv (K:Za):V->List V->Hp->VK->Prop:=λx vs H Q=>∃(l:Addr) (ls:List aO) (m:aO),x= .ref l/\vs=[.ref m.1]/\H l=some (.lst (ls.map λy=>V.ref y.1))/\(∀y∈ls,RwK K H y)/\RwK K H m/\Q (.int (ls.countP (λy=>decide (y.2.map (·.2)=m.2.map (·.2))):Nat)) H
def jz {k:Nat}(hr:Room k X.A):Cw X "list.count" (vv X.K):=by
 intro pins s σ H x vs v us Q I rx rv h;obtain⟨l,ls,m,rfl,rfl,hl,he,hm,q⟩:=h;cases rx;obtain⟨u,rfl,ru⟩:=O7 rv;cases ru;obtain⟨hz,a_,n,r,hle,e⟩:=I.lstM hl;have ei:=bC (λl:aO=>l.1) r;subst ei;let f:V->Bool:=λv=>match v with
  | .ref a=>match ls.find? (λt=>t.1==a) with
   |some t=>decide (t.2.map (·.2)=m.2.map (·.2))
   |none=>false
  |_=>false
 have fa:∀t∈ls,f (.ref t.1)=decide (t.2.map (·.2)=m.2.map (·.2)):=λt m_=>by
  show(match ls.find? (λt'=>t'.1==t.1) with|some (t:aO)=>decide ((t.2.map λx:Addr×M6=>x.2)=m.2.map λx:Addr×M6=>x.2)|none=>false)=_;cases e:ls.find? (λt'=>t'.1==t.1) with
  |none=>exact absurd (Oa.mp e t m_) (by simp)
  |some t'=>
   have e1:t'.1=t.1:=by simpa using Qy e
   have a1:=RwK.at_ I (he t' (Oe e))
   have a2:=RwK.at_ I (he t m_)
   rw[e1] at a1
   obtain⟨b1,us1,eb1,XA,pr1⟩:=a1
   obtain⟨b2,Ts,eb2,Uo,pr2⟩:=a2
   cases eb1
   cases eb2
   have z:us1=Ts:=by
    obtain⟨o,e1,_,n1,d1⟩:=id XA;obtain⟨o',e2,_,n2,d2⟩:=id Uo;rw[e1] at e2;cases e2;rw[d1] at d2;have y:=Mw Array.toList (RQ d2).1;simpa using y
   subst z
   show decide _=decide _
   rw[pO pr1 pr2]
 have cnt:(ls.map λy=>V.ref y.1).countP f=ls.countP (λy=>decide (y.2.map (·.2)=m.2.map (·.2))):=by
  rw[List.countP_map];exact List.countP_congr λy hy=>by
   show f (.ref y.1)=true↔_;rw[fa y hy]
 refine Te F.slot_list_count ⟨_,e,rfl⟩ F.entry_list_count (F.args_list_count_2 _ _) (SeqAt.list_countAt l _ n _ _ (.ref m.1) (f∘Gw)) ⟨e,λw hw=>?_,?_⟩
 .obtain⟨t,ht,rfl⟩:=Ln.mp (show w∈ls.map λt=>Value.ref t.1 by simpa using hw);have g:=LpAt.eqA (A:=X.A.in1) (RwK.at_ I (he t ht)) (RwK.at_ I hm) (by have:=hr.un;show X.A.units+1+8<cLine;lia);rw[show(f∘Gw) (.ref t.1)=f (.ref t.1) from rfl,fa t ht];exact g
 .refine⟨.int (ls.countP (λy=>decide (y.2.map (·.2)=m.2.map (·.2))):Nat),H,I.tok _,⟨s.toks,?_⟩,q⟩;rw[←cnt];show Value.int (List.countP (f∘Gw) _:Nat) _=_;rw[GV (fz (λl:aO=>l.1) ls)]
def jI {X:Cx}{k:Nat}(K:Za)(hr:Room k X.A)(h:X.K=K:=by rfl):Cw X "list.count" (vv K):=h▸jz hr
end
section
variable {X:Cx}
def se (K:Za):List V->Hp->VK->Prop:=λxs H Q=>∃(v d:Addr) (kvs:List (i6×V)) (ss:List Str),xs=[.ref v]/\H v=some (.ext (jF v d))/\Rd H d (.dK kvs)/\kvs.map (·.2)=ss.map V.str/\ss.length<64/\
 ∀l_:List Str,l_.Perm ss->∀l,H l=none->Q (.ref l) (upd H l (.lst (l_.map V.str)))
def qw (hc:X.calm=true):CallR X (.builtin "sorted") (se X.K):=by
 intro pins s σ H xs us Q I r h;obtain⟨v,d,kvs,ss,rfl,hv,hx,hk,UE,q⟩:=h;obtain⟨u,rfl,ru⟩:=O7 r;cases ru;have UG:(64:Nat)<=sizeLine:=by decide
 have Z_:jF v d s.heap:=(I.hok v _ hv).1;obtain⟨hd,o,vs,ep,ho,D⟩:=dO I.hok hx;have hlen:kvs.length=ss.length:=by have:=Mw List.length hk;simpa using this
 have Xu:=KV.length D.kv;refine OR kind_sorted plain_sorted entry_sorted (args_sorted1 _) ?_;unfold Builtin.«sorted»;refine Lx (m:=checkCount "sorted" 1 1 _) (LK ?_);refine Lx (Su (A:=X.A.in1) (SM (knd:=q8 X.prog X.w) (kvs:=vs) (ep:=ep)) (I.ok.hd hc) ⟨Z_,D.at_ _ ho⟩ (by lia) λh' tk acc hkp s_=>?_);have hl:acc.toList.length=vs.length:=by rw[Mz];exact s_.1
 have hV:Vals (ss.map V.str) acc.toList:=V9 (by rw[Ll];lia) λi x u e1 e2=>by
  obtain⟨k,hy⟩:=s_.2 i u (by rw[←Mb];exact e2);rw[←hk,Lo] at e1;obtain⟨kv,e4,rfl⟩:=My.mp e1;obtain⟨q1,VS,q2,q3⟩:=A9 (show Paired _ kvs vs from D.kv) e4;rw[hy] at VS;cases VS;exact q3
 have hS:=Y9 hV;refine Lx (Ri ?_ (by rw[hl];lia));refine Lx (Nj (pH (s:={s with heap:=h'.push {cls:= .type "list",data:= .seq acc.toList.toArray},toks:=tk}) (n:=0) (LY _ rfl) hS (by lia) λout l_ a1 a2 a3=>?_));obtain⟨e,he⟩:=sortedHeap_at (h:=h'.push {cls:= .type "list",data:= .seq acc.toList.toArray}) (a:=h'.objs.size) (vs:=acc.toList) (n:=0) (out:=out) (LY _ rfl);have Ta:s.heap.get? h'.objs.size=none:=by
  cases z:s.heap.get? h'.objs.size with
  |none=>rfl
  |some ob=>exact absurd (LI (hkp _ _ z)) (Ni _)
 have RE:=a2.length_eq;obtain⟨hH,I2⟩:=I.newN (tk:=tk) (h':=sortedHeap (h'.push {cls:= .type "list",data:= .seq acc.toList.toArray}) h'.objs.size acc.toList out) (xs:=l_.map V.str) (λb u eb=>by
  have hb:=LI (hkp b u eb);rw[sortedHeap_old (b:=b) (Ma hb) (by rw[QL];exact QV hb)];exact Ly _ (hkp b u eb)) Ta he (Y4 a1) (by rw[Ll];lia)
 exact LK ⟨_,rfl,.ref h'.objs.size,_,I2,rfl,q l_ a2 _ hH⟩
def yQ (K:Za)(hc:X.calm=true)(h:X.K=K:=by rfl):CallR X (.builtin "sorted") (se K):=h▸qw hc
end
end L2
set_option maxHeartbeats 1000000
namespace K45
open PySem PySem.Spec PyProof.Rows L2
def N5 (i:Nat):Stmt:=PySem.Challenge.pw_gluework_k45_splits_exact.main.body.getD i (.Pass ⟨0,0,0,0⟩)
abbrev bS:Stmt:=N5 12
local macro_rules|`(tactic|walk_at "g")=>`(tactic|exact⟨rfl,rfl,rfl,by decide+kernel,rfl,by decide+kernel,by decide+kernel⟩)
def sc_is_text_of:i4 ["thing","signs","most"] ["thing","signs","most"] (d0 bS):=by walk_at "g"
abbrev iD:Stmt:=N5 13
def sc_is_name:i4 ["thing"] ["thing"] (d0 iD):=by walk_at "g"
abbrev fi:Stmt:=N5 14
def sc_in_order:i4 ["named"] ["named"] (d0 fi):=by walk_at "g"
abbrev ky:Stmt:=N5 15
def sc_copied:i4 ["web"] ["web"] (d0 ky):=by walk_at "g"
abbrev kM:Stmt:=N5 16
def sc_things:i4 ["web"] ["web"] (d0 kM):=by walk_at "g"
abbrev ik:Stmt:=N5 17
def sc_without:i4 ["web","names","points","ties","name"] ["web","names"] (d0 ik):=by walk_at "g"
abbrev lD:Stmt:=N5 18
def sc_united:i4 ["web","more","points","ties"] ["web","more"] (d0 lD):=by walk_at "g"
abbrev aG:Stmt:=N5 19
def sc_tie_renamed:i4 ["tie","names"] ["tie","names"] (d0 aG):=by walk_at "g"
abbrev iS:Stmt:=N5 20
def sc_renamed:i4 ["web","names","points","ties"] ["web","names"] (d0 iS):=by walk_at "g"
abbrev fw:Stmt:=N5 22
def sc_is_match:i4 ["piece","web","match","names"] ["piece","web","match"] (d0 fw):=by walk_at "g"
abbrev uT:Stmt:=N5 23
def sc_line:i4 ["piece","match"] ["piece","match"] (d0 uT):=by walk_at "g"
abbrev aP:Stmt:=N5 24
def kj:i4 ["piece","web","fixed"] ["piece","web","fixed"] (d0 aP):=by walk_at "g"
abbrev aT:Stmt:=N5 25
def mL:i4 ["piece","web","piece_looks","web_looks","fixed","told"] ["piece","web","piece_looks","web_looks","fixed"] (d0 aT):=by walk_at "g"
abbrev qe:Stmt:=N5 26
def AS:i4 ["piece","web","piece_looks","web_looks","fixed","most","told","choices","places","names"] ["piece","web","piece_looks","web_looks","fixed","most"] (d0 qe):=by walk_at "g"
abbrev kr:Stmt:=N5 27
def wK:i4 ["name","image","fixed"] ["name","image","fixed"] (d0 kr):=by walk_at "g"
abbrev X6:Stmt:=N5 28
def ic:i4 ["piece_looks","web_looks","fixed","choices","name","look","alike"] ["piece_looks","web_looks","fixed"] (d0 X6):=by walk_at "g"
abbrev cj:Stmt:=N5 29
def oh:i4 ["piece","web","fixed","places","name","tie","there","image","other"] ["piece","web","fixed"] (d0 cj):=by walk_at "g"
abbrev mH:Stmt:=N5 30
def xV:i4 ["lists"] ["lists"] (d0 mH):=by walk_at "g"
abbrev rj:Stmt:=N5 31
def yh:i4 ["piece","choices","places","most","names","told","waiting","begun","image"] ["piece","choices","places","most"] (d0 rj):=by walk_at "g"
abbrev nG:Stmt:=N5 32
def xE:i4 ["piece","choices","places","begun","names","name","put","unlike"] ["piece","choices","places","begun"] (d0 nG):=by walk_at "g"
abbrev aJ:Stmt:=N5 33
def ku:i4 ["piece","places","put","name","ends"] ["piece","places","put","name"] (d0 aJ):=by walk_at "g"
abbrev eZ:Stmt:=N5 34
def sV:i4 ["piece","places","put","name","image","longer","due"] ["piece","places","put","name","image"] (d0 eZ):=by walk_at "g"
abbrev uU:Stmt:=N5 36
def sc_both:i4 ["web","other"] ["web","other"] (d0 uU):=by walk_at "g"
abbrev qp:Stmt:=N5 37
def sc_alone:i4 ["web","other"] ["web","other"] (d0 qp):=by walk_at "g"
abbrev vd:Stmt:=N5 38
def sc_kept:i4 ["rule"] ["rule"] (d0 vd):=by walk_at "g"
abbrev pY:Stmt:=N5 39
def sc_taken:i4 ["rule"] ["rule"] (d0 pY):=by walk_at "g"
abbrev fe:Stmt:=N5 40
def sc_fresh_of:i4 ["rule"] ["rule"] (d0 fe):=by walk_at "g"
abbrev aF:Stmt:=N5 41
def sc_rule_copied:i4 ["rule"] ["rule"] (d0 aF):=by walk_at "g"
abbrev mw:Stmt:=N5 43
def sc_picked:i4 ["put","names"] ["put","names"] (d0 mw):=by walk_at "g"
abbrev ny:Stmt:=N5 44
def sc_barred:i4 ["web","rule","match","number","bar","told"] ["web","rule","match"] (d0 ny):=by walk_at "g"
abbrev cQ:Stmt:=N5 45
def sc_taken_out:i4 ["step"] ["step"] (d0 cQ):=by walk_at "g"
abbrev aS:Stmt:=N5 46
def sc_names_serve:i4 ["web","rule","fresh","names"] ["web","rule","fresh"] (d0 aS):=by walk_at "g"
abbrev iF:Stmt:=N5 47
def sc_rest_of:i4 ["web","step","rule","rest"] ["web","step"] (d0 iF):=by walk_at "g"
abbrev ug:Stmt:=N5 48
def sc_done:i4 ["web","step","rule","rest"] ["web","step"] (d0 ug):=by walk_at "g"
abbrev mP:Stmt:=N5 49
def sc_behind:i4 ["step","rule","put"] ["step"] (d0 mP):=by walk_at "g"
abbrev bZ:Stmt:=N5 50
def sc_named_step:i4 ["rule","match","mark"] ["rule","match","mark"] (d0 bZ):=by walk_at "g"
abbrev mY:Stmt:=N5 52
def sc_common:i4 ["one","other","images"] ["one","other"] (d0 mY):=by walk_at "g"
abbrev qo:Stmt:=N5 53
def sc_clash:i4 ["web","one","other","behind_one","behind_other","names","out","gone"] ["web","one","other"] (d0 qo):=by walk_at "g"
abbrev bO:Stmt:=N5 55
def sc_tie_paired:i4 ["tie","paired"] ["tie","paired"] (d0 bO):=by walk_at "g"
abbrev fj:Stmt:=N5 56
def sc_names_of:i4 ["named","thing"] ["named","thing"] (d0 fj):=by walk_at "g"
abbrev S8:Stmt:=N5 57
def sc_point_partners:i4 ["piece","other"] ["piece","other"] (d0 S8):=by walk_at "g"
abbrev ai:Stmt:=N5 58
def sc_tie_partners:i4 ["piece","other","paired"] ["piece","other","paired"] (d0 ai):=by walk_at "g"
abbrev fE:Stmt:=N5 59
def sc_pairings:i4 ["partners","rows","name","longer","row","used"] ["partners"] (d0 fE):=by walk_at "g"
abbrev fg:Stmt:=N5 60
def sc_overlaps:i4 ["piece","other","told","points","ties"] ["piece","other"] (d0 fg):=by walk_at "g"
abbrev iM:Stmt:=N5 61
def sc_is_pair:i4 ["thing"] ["thing"] (d0 iM):=by walk_at "g"
abbrev U8:Stmt:=N5 62
def sc_is_well_paired:i4 ["piece","other","paired","name"] ["piece","other","paired","name"] (d0 U8):=by walk_at "g"
abbrev bD:Stmt:=N5 63
def sc_is_overlap:i4 ["piece","other","pairs","paired"] ["piece","other","pairs"] (d0 bD):=by walk_at "g"
abbrev mr:Stmt:=N5 64
def sc_marked:i4 ["web","mark"] ["web","mark"] (d0 mr):=by walk_at "g"
abbrev aL:Stmt:=N5 65
def sc_overlap_web:i4 ["piece","other","pairs","match","other_match","pair"] ["piece","other","pairs"] (d0 aL):=by walk_at "g"
abbrev aK:Stmt:=N5 67
def sc_refuse_bars:i4 ["rules"] ["rules"] (d0 aK):=by walk_at "g"
abbrev aV:Stmt:=N5 68
def sc_split_steps:i4 ["rule","other","pairs","told","one"] ["rule","other","pairs"] (d0 aV):=by walk_at "g"
abbrev eY:Stmt:=N5 69
def sc_is_split:i4 ["rule","other","pairs","told","why"] ["rule","other","pairs"] (d0 eY):=by walk_at "g"
abbrev nH:Stmt:=N5 70
def sc_splits:i4 ["rule","other"] ["rule","other"] (d0 nH):=by walk_at "g"
abbrev ah:Stmt:=N5 72
def sc__law_cell_at:i4 ["_law_script","_law_k"] ["_law_script","_law_k"] (d0 ah):=by walk_at "g"
abbrev fb:Stmt:=N5 73
def sc__law_mix:i4 ["_law_cell","_law_k"] ["_law_cell","_law_k"] (d0 fb):=by walk_at "g"
abbrev bP:Stmt:=N5 74
def sc__law_names:i4 ["_law_mixed","_law_many","_law_letters","_law_size","_law_at","_law_names_here","_law_k","_law_name","_law_j","_law_place"] ["_law_mixed","_law_many"] (d0 bP):=by walk_at "g"
abbrev bQ:Stmt:=N5 75
def sc__law_piece:i4 ["_law_cells","_law_names_here","_law_points_most","_law_ties_most","_law_kinds","_law_points","_law_ties","_law_k","_law_mixed","_law_some","_law_full","_law_start","_law_end"] ["_law_cells","_law_names_here","_law_points_most","_law_ties_most","_law_kinds"] (d0 bQ):=by walk_at "g"
abbrev fH:Stmt:=N5 76
def sc__law_all:i4 ["_law_web"] ["_law_web"] (d0 fH):=by walk_at "g"
abbrev cI:Stmt:=N5 77
def sc__law_over:i4 ["_law_piece_here","_law_other","_law_pairs","_law_first","_law_second","_law_points","_law_ties","_law_name","_law_to","_law_web","_law_names_here","_law_kind","_law_tie"] ["_law_piece_here","_law_other","_law_pairs"] (d0 cI):=by walk_at "g"
abbrev bw:Stmt:=N5 78
def sc__law_right:i4 ["_law_left","_law_names_here","_law_bits","_law_kinds","_law_points","_law_ties","_law_k","_law_name","_law_tie","_law_some"] ["_law_left","_law_names_here","_law_bits","_law_kinds"] (d0 bw):=by walk_at "g"
abbrev dn:Stmt:=N5 79
def sc__law_rule:i4 ["_law_cells","_law_kinds","_law_mixed","_law_names_here","_law_left"] ["_law_cells","_law_kinds"] (d0 dn):=by walk_at "g"
abbrev dE:Stmt:=N5 80
def sc__law_gone:i4 ["_law_rule_here"] ["_law_rule_here"] (d0 dE):=by walk_at "g"
abbrev bM:Stmt:=N5 81
def sc__law_hangs:i4 ["_law_web","_law_rule_here","_law_match","_law_used","_law_name","_law_tie"] ["_law_web","_law_rule_here","_law_match"] (d0 bM):=by walk_at "g"
abbrev W8:Stmt:=N5 82
def sc__law_is_split:i4 ["_law_rule_here","_law_other","_law_pairs","_law_web","_law_match","_law_other_match","_law_gone_here","_law_name","_law_to"] ["_law_rule_here","_law_other","_law_pairs"] (d0 W8):=by walk_at "g"
abbrev aH:Stmt:=N5 83
def sc__law_copied:i4 ["_law_rule_here"] ["_law_rule_here"] (d0 aH):=by walk_at "g"
abbrev An:Stmt:=N5 84
def sc_law:i4 ["_law_script","_law_first","_law_kinds","_law_rule_here","_law_other","_law_handed","_law_found","_law_due","_law_pairs"] ["_law_script"] (d0 An):=by walk_at "g"
abbrev cn:Str:="abcdefghijklmnopqrstuvwxyz"
abbrev gw:Str:="abcdefghijklmnopqrstuvwxyz0123456789."
structure Txt (K:Za) (mg:Str->Option Value):Prop where
 r_Barred:ExC K mg "Barred" (cA K "Barred")
 r_HasBars:ExC K mg "HasBars" (cA K "HasBars")
 r_Loose:ExC K mg "Loose" (cA K "Loose")
 r_NoMatch:ExC K mg "NoMatch" (cA K "NoMatch")
 r_NoNames:ExC K mg "NoNames" (cA K "NoNames")
 r_NoOverlap:ExC K mg "NoOverlap" (cA K "NoOverlap")
 t_GlueError:Kh K mg "GlueError" (cA K "GlueError")
 s_Barred_GlueError:PySem.W.subIn K (.ref (cA K "Barred")) (.ref (cA K "GlueError"))=some true
 s_HasBars_GlueError:PySem.W.subIn K (.ref (cA K "HasBars")) (.ref (cA K "GlueError"))=some true
 s_Loose_GlueError:PySem.W.subIn K (.ref (cA K "Loose")) (.ref (cA K "GlueError"))=some true
 s_NoMatch_GlueError:PySem.W.subIn K (.ref (cA K "NoMatch")) (.ref (cA K "GlueError"))=some true
 s_NoNames_GlueError:PySem.W.subIn K (.ref (cA K "NoNames")) (.ref (cA K "GlueError"))=some true
 s_NoOverlap_GlueError:PySem.W.subIn K (.ref (cA K "NoOverlap")) (.ref (cA K "GlueError"))=some true
 b_all:mg "all"=none
 b_any:mg "any"=none
 b_dict:mg "dict"=none
 b_enumerate:mg "enumerate"=none
 b_isinstance:mg "isinstance"=none
 b_len:mg "len"=none
 b_list:mg "list"=none
 b_range:mg "range"=none
 b_set:mg "set"=none
 b_sorted:mg "sorted"=none
 b_str:mg "str"=none
 b_sum:mg "sum"=none
 b_tuple:mg "tuple"=none
 c_MOST_NAME_SIGNS:Iu mg "MOST_NAME_SIGNS" (.int 24)
 c_NAME_SIGNS:Iu mg "NAME_SIGNS" (.str gw)
 c_SMALL_LETTERS:Iu mg "SMALL_LETTERS" (.str cn)
abbrev kSL:Str:="abcdefghijklmnopqrstuvwxyz"
abbrev kNS:Str:="abcdefghijklmnopqrstuvwxyz0123456789."
def sk (x signs:Str):Bool:=x.cps.toList.all λc=>decide (c∈signs.cps.toList)
def R8 (x signs:Str)(most:Int):Bool:=decide (1<=(x.length:Int))&&decide ((x.length:Int)<=most)&&sk x signs
def JD (x signs:Str):Bool:=decide (x.cps.toList.headD 0∈signs.cps.toList)
def eO (x:Str):Bool:=R8 x kNS 24&&JD x kSL
def cw (x:Str):Bool:=R8 x kSL 8
def GZ (K:Za)(H:Hp)(v:V):Prop:=∃t,TyB K H v t/\t≠"str"
def DH (K:Za)(f:Str->Bool)(v:V)(H:Hp)(Q:VK):Prop:=
 (∃x,v= .str x/\x.length<=1000/\∀H',Same H H'->Q (.bl (f x)) H')\/(GZ K H v/\∀H',Same H H'->Q (.bl false) H')
def ee (K:Za):Sp:=λvs H Q _=>∃v signs most,vs=[v,.str signs,.int most]/\DH K (λx=>R8 x signs most) v H Q
def kC (K:Za):Sp:=λvs H Q _=>∃v,vs=[v]/\DH K eO v H Q
def Hu (H:Hp)(Q:VK)(P:List Str->Prop):Prop:=∀(p:Addr) (H':Hp) (ss:List Str),H p=none->Same H H'->H' p=some (.lst (ss.map V.str))->P ss->Q (.ref p) H'
def b8 (W:x9):List Str:=W.pts.map (·.1)++W.ts.map (·.1)
structure WebIs (n:Nat) (K:Za) (H:Hp) (a p q:Addr) (kvs:List (i6×V)) (W:x9):Prop where
 at_:WebAt K H a p q kvs W
 hp:H p=some (.dK (i7 W.pts))
 hq:H q=some (.dK kvs)
 ne:p≠q
 nd:(b8 W).Nodup
 len:(b8 W).length<=n
 ends:∀x∈W.ts,x.2.2.1∈W.pts.map (·.1)/\x.2.2.2∈W.pts.map (·.1)
 nl:∀x∈b8 W,x.length<=100
 qm:("?":Str)∉b8 W
def WebIs.same {n:Nat}{K:Za}{H H':Hp}{a p q:Addr}{kvs:List (i6×V)}{W:x9}(h:WebIs n K H a p q kvs W)(s:Same H H'):WebIs n K H' a p q kvs W:=⟨h.at_.mono s.le,s _ _ h.hp,s _ _ h.hq,h.ne,h.nd,h.len,h.ends,h.nl,h.qm⟩
def cv (K:Za):Sp:=λvs H Q _=>∃(a:Addr) (ns:List Int) (k:Int),vs=[.ref a,.int k]/\SqL K H a (ns.map V.int)/\ns.length<=63/\0<=k/\∀m:Int,Q (.int m) H
def jc (K:Za):Sp:=λvs H Q _=>∃c k:Int,vs=[.int c,.int k]/\0<=k/\k<=1000/\∀m:Int,0<=m->Q (.int m) H
def eX (K:Za):Sp:=λvs H Q _=>∃c:Int,vs=[.int c,.int 8]/\0<=c/\Hu H Q λss=>ss.length=8/\ss.Nodup/\(∀s∈ss,s.length<=8)/\("?":Str)∉ss/\∀s∈ss,cw s=true
def dF (K:Za):Sp:=λvs H Q _=>False
def cY (K:Za):Sp:=λvs H Q _=>False
def tB (K:Za):Sp:=λvs H Q _=>False
def oJ (K:Za):Sp:=λvs H Q _=>False
def bo (K:Za):Sp:=λvs H Q _=>False
def eE (K:Za):Sp:=λvs H Q _=>False
def oW (K:Za):Sp:=λvs H Q _=>False
def sf (K:Za):Sp:=λvs H Q _=>False
def pD (K:Za):Sp:=λvs H Q _=>False
def dj (K:Za):Sp:=λvs H Q _=>False
def iW (K:Za):Sp:=λvs H Q _=>False
set_option hygiene false
def zzW(c:Char):StateT (List (List Char)) Lean.MacroM String:=do match (←get) with
 |l::r=>set ((l.dropWhile (·≠c)).tail::r);return String.ofList (l.takeWhile (·≠c))
 |_=>throw .unsupportedSyntax
def zzO(a:StateT (List (List Char)) Lean.MacroM Lean.Term):StateT (List (List Char)) Lean.MacroM Lean.Term:=do match (←get) with
 |('$'::l)::r=>set r;let b←a;modify (l::·);return b
 |_=>a
def zzT:Nat→StateT (List (List Char)) Lean.MacroM Lean.Term
|0=>throw .unsupportedSyntax
|n+1=>do
 let x:=do match (←get) with
  |(c::l)::r=>set (l::r);return c
  |_=>throw .unsupportedSyntax
 let g:=zzT n
 let d:=zzO do return Lean.quote ((←x).toNat-48)
 let s:=zzO do let a:Array Lean.Term:=(((←zzW ';').splitOn ",").map fun z=>⟨Lean.Syntax.mkStrLit z⟩).toArray;`([$a,*])
 let j:=zzO do let a:Array Lean.Term:=((←zzW ';').toList.map fun z=>Lean.quote (z.toNat-48)).toArray;`([$a,*])
 let f:=fun (k:Char) (m:String)=>do return Lean.Syntax.mkApp (Lean.mkIdent m.toName) (←(Array.range (k.toNat-48)).mapM fun _=>g)
 let q:=fun (m:String) (v:Lean.Term)=>(⟨Lean.mkNode `Lean.Parser.Term.namedArgument #[Lean.mkAtom "(",Lean.mkIdent m.toName,Lean.mkAtom ":=",v,Lean.mkAtom ")"]⟩:Lean.Term)
 match (←x) with
 |'\''=>f (←x) (←zzW ' ')
 |'$'=>do match (←get) with
  |s::r=>set r;let b←g;modify (s::·);return b
  |_=>throw .unsupportedSyntax
 |'!'=>do match (←x) with
  |'a'=>`(λ_ _=>rfl)
  |'b'=>`(by walk_at "l")
  |'c'=>`(by kernel_rfl)
  |'d'=>`(by rfl)
  |'e'=>`(by decide)
  |'f'=>`(_)
  |'g'=>`(λ_ _ _ _=>$(←g))
  |'h'=>`(show List.Nodup ($(←s) :List Str) by decide+kernel)
  |'i'=>return q "i" (←d)
  |'j'=>return q "j" (←d)
  |'n'=>d
  |'o'=>return q "own" (←s)
  |'s'=>return q "js" (←j)
  |_=>return ⟨Lean.Syntax.mkStrLit (←zzW ';')⟩
 |c=>do
  let b:=c='~'
  let c←if b then x else pure c
  for e in (if b then "0='6Jh '0MX '0NP '0Oo '0N9 ($
1='2qJ ($
20qP
30pT
4='4Ji '1Je ($$$
50dv
60Boot.«str»
70T.b_str
8=!qstr;
90Boot.«set»
a0T.b_set
b='2Gg ($
c='3mQ ('0T.b_enumerate $
d='<kO !i$'0hN $!b!o$!s$!c$$$$$
e=!qlist;
f='5ao '0PassesOwn.leaving A$$$
g0Boot.«any»
h0Boot.«dict»
i=!qdict;
j=!qtuple;
k='2KP '0FO $" else "0='1qV !n$
1='4o9 '2p8 ('0hu '1qV !n$6!a
22B4
3='4qC $'1hr.mono !e'0i8 $
4=h$+
5='5x8 !i$'0hN A!b$
60h9
7=h'1qV !n$h$+
8=m'1u7 $
9=h'1qV !n$+
a=h$h$+
b4x6
c='4J2 !i$!h$A!b
d1G9
e='2G7 ($
f='4o9 '2p8 ('0hu '1qV !n$$!a
g='1u9 !f
h2g0
i='3cF $$'0cy 
j='8E1 !o$!s$!cA$!g$!g$!g$
k='4J2 !i$'0hN A!b
l=t'3G6 ('0P '0w '0T.b_len '0Boot.«len» $
m1B9
n0V8
o3Q9
p0X7
q=!d
r='5ao '0ME A$$$
s=o'1bX ($$
t4qB
u1cE
v=,'2R6 (A'0T.b_dict ~h$
w='3rC (A'2cz $'2cz $$
x0rz
y1sD
z=m'1u7 '0rn 
A0rfl
B='2X8 ('0hr 
C='4o9 '2p8 ('0hu $$!a
D='2kIn ('0hu 
E=o'0Q3 $$
F4fm
G=t$'0T.b_sorted '0Boot.«sorted» $
H='1bg '2N6 ($
I=m'2iG $'3ye '1qV !n$$'3F0 '0P '0w '0hu 
J0P9
K='2jx $'1cK $
L1O9
M1nu
N1Bw
O='2V4 (A
P='4qC $'1hr.mono !e$$
Q='7qM $$$$($$
R=!g$
S2ju
T='2N6 ($
U0DW
V='3ja '0hu $$
W3Dz
X0Boot.«isinstance»
Y0T.b_isinstance
Z='3jw ('0P '0w 
#0Boot.«all»
%0T.b_all
&='2tK (A
(0K
)='2jg ('0hr 
*='2dG ('0hu 
+0i9
,4jA
-0jk
.0dN
/0NH
:1iH
;0oS
<0F4
=0C5
>0Boot.«list»
?0T.b_list
@='4iq '0dI $A$
[='1Gv 6
]0ua
^0N8
_0Om
`0Ol
{='2BI '0T.b_range $
|0F7").splitOn "\n" do
   if let a::k::m:=e.toList then
    if a=c then
     if k.isDigit then return (←f k (String.ofList m))
     modify (m::·);let b←g;modify List.tail;return b
  throw .unsupportedSyntax
local macro_rules|`(tactic|walk_at $s:str)=>do
 match s.getString.toList with
 |'@'::l=>let (c,l)←(zzW ' ').run [l];let (x,_)←(zzT 999).run l;let c:=Lean.mkIdent (c++".nd").toName;`(tactic|(have hN:=$c;have hu:=u4 hr;refine ⟨_,QSs.r $x,?_⟩))
 |'#'::l=>let c:=Lean.mkIdent (String.ofList l).toName;`(tactic|refine F.ok $c (λvs H Q E h=>?_) (λc_ A outer s H vs Q E hr h=>?_))
 |_=>throw .unsupportedSyntax
set_option hygiene true
local macro_rules| `(tactic|walk_at "b")=> `(tactic|(intro _ _ _ _ _ _ us hl;first|exact bn0 hl rfl|exact KU hl λ_=>rfl|exact KD hl λ_ _=>rfl|exact KO hl λ_ _ _=>rfl|exact KH hl λ_ _ _ _=>rfl|exact KC hl λ_ _ _ _ _=>rfl|exact Ld hl λ_ _ _ _ _ _=>rfl))
local macro_rules|`(tactic|walk_at "q")=>do let a:Array (Lean.TSyntax `Lean.Parser.Tactic.tacticSeq)←(("r_par BN JO BE Iv Fi KJ Ke Ij GQ Gh Ep IU Fp Jq Cc xM r_rev r_dz Ge Ht GR EX JJ HR HH Hh JE El GG Ec r_if Hv Gi EE JI Jr zl EJ IT r_chain xk Ka Ah r_lt_str tp r_eq_bl rF AK r_notIn_sgn r_is yK w_eq_bl gG tF zi w_ne_bl w_ne_str sO n_ne_bl n_ne_str IQ Cf DZ r_enum r_zip BJ Gq JC Hk JA Hy Ik yM IB GJ Kd JG Ig HV".splitOn " ").toArray).mapM fun n=>`(Lean.Parser.Tactic.tacticSeq|refine $(Lean.mkIdent n.toName) ?_);`(tactic|with_reducible first $[|$a]*)
local macro_rules| `(tactic|walk_at "E")=> `(tactic|first
 |walk_at "q"
 |((with_reducible refine' Iz ?h ?_);(case h=>rfl))
 |with_reducible refine FP _ ?_
 |((with_reducible refine' xO ?c ?_);(case c=>(unfold CMul;lia)))
 |((with_reducible refine' KY ?c ?_);(case c=>(first|lia|lia|(dsimp only<;>lia)|(unfold CMul;lia)|(unfold GX;lia)|(unfold Jt;decide)|exact Int.pow_pos (by decide))))
 |with_reducible refine DE (by assumption) ?_)
local macro_rules| `(tactic|walk_at "X")=> `(tactic|try with_reducible refine DE (by assumption) ?_)
local macro_rules| `(tactic|walk_at "S")=> `(tactic|with_reducible refine Hg λ_ _=>?_)
local macro_rules| `(tactic|walk_at "R")=> `(tactic|first|walk_at "S"|with_reducible refine r_try ?_|walk_at "E")
local macro_rules| `(tactic|symm)=> `(tactic|repeat walk_at "R")
local macro_rules| `(tactic|rfl')=> `(tactic|repeat walk_at "E")
local macro_rules| `(tactic|walk_at "l")=> `(tactic|first|exact Or.inl rfl|exact Or.inr rfl)
section
variable {P:Program} {w:World} {K:Za} {mg:Str->Option Value} {base:Heap}
def iP (i:Int):Nat:=("abcdefghijklmnopqrstuvwxyz":Str).cps.toList.getD i.toNat 0
def zB (i:Int)(h0:0<=i)(h1:i<26):rJ ("abcdefghijklmnopqrstuvwxyz":Str).cps.toList i=some (iP i):=by
 have hl:("abcdefghijklmnopqrstuvwxyz":Str).cps.toList.length=26:=by decide+kernel
 obtain⟨v,hv,YN⟩:=tW (xs:=("abcdefghijklmnopqrstuvwxyz":Str).cps.toList) h0 (by rw[hl];exact h1);rw[hv];unfold iP;rw[Mx,YN];rfl
def zG:∀i j:Nat,i<26->j<26->iP i=iP j->i=j:=by
 have h:∀i,i<26->∀j,j<26->iP (i:Nat)=iP (j:Nat)->i=j:=by decide+kernel
 exact λi j hi hj=>h i hi j hj
theorem rZ {f:Nat->Str}:∀{n:Nat},(∀i j,i<n->j<n->f i=f j->i=j)->((List.range n).map f).Nodup
 |0,_=>Ny
 |n+1,h=>by
  rw[Pn,Lr];refine Q6 (rZ λi j hi hj=>h i j (by lia) (by lia)) λm=>?_;obtain⟨i,hi,e⟩:=Ln.mp m;have UC:=OC.mp hi;have z:=h i n (by lia) (by lia) e;lia
def oI:("abcdefghijklmnopqrstuvwxyz":Str).length<=sizeLine:=by decide+kernel
def sQ (ss:List Str):(ss.map V.str).all E3=true:=by
 rw[Nc,LZ];intro _ _;rfl
def Di {pts:List (Str×Str)}:∀kv∈i7 pts,∃n s,kv=(Sum.inr n,V.str s):=by
 intro kv h;obtain⟨x,_,e⟩:=Ln.mp h;exact⟨x.1,x.2,e.symm⟩
def aB {K:Za}{H:Hp}{d:Addr}{k1 k2 kv:_}{x:Str×N4}(h:H d=some (.dK k1))(t:TieAt K H kv x):TieAt K (upd H d (.dK k2)) kv x:=by
 obtain⟨e,a,ea,s⟩:=t;refine⟨e,a,ea,?_⟩;rcases s with s|s
 .refine .inl ?_;by_cases z:a=d
  .subst z;rcases s with s|⟨_,s⟩<;>(rw[h] at s;cases s)
  .unfold Rd;rw[d9 z];exact s
 .exact .inr s
def M3 {H H1:Hp}{d:Addr}{o:HO}(s:Same H H1)(h:H d=none):Same H (upd H1 d o):=λb u e=>by
 rw[d9 (d6 e h)];exact s _ _ e
def K0 {ss:List Str}{i:Int}(h0:0<=i)(h1:i<ss.length):∃x,rJ (ss.map V.str) i=some (.str x)/\x∈ss:=by
 obtain⟨v,hv,YN⟩:=tW (xs:=ss.map V.str) h0 (by rw[Ll];exact h1);rw[Lo] at YN;obtain⟨x,hx,e⟩:=My.mp YN;exact⟨x,by rw[hv,e],LF hx⟩
def A4 {α:Type}(l:List (Str×α)):(l.map (·.1)).map (Sum.inr:Str->i6)=l.map λx=>Sum.inr x.1:=by rw[LH];rfl
def V7 {l:List Str}{n:Str}(h:(Sum.inr n:i6)∈l.map (Sum.inr:Str->i6)):n∈l:=by
 obtain⟨x,hx,e⟩:=Ln.mp h;rw[←NL e];exact hx
def F8 {kvs:List (i6×V)}{k:i6}(h:k∉kvs.map (·.1)):A5 kvs k=none:=by
 cases e:A5 kvs k with
 |none=>rfl
 |some v=>exact absurd (wu e) h
def uB {a:List (Str×Str)}{b:List (Str×N4)}{n s:Str}(h:(a.map (·.1)++b.map (·.1)).Nodup)(f:n∉a.map (·.1)++b.map (·.1)):((a++[(n,s)]).map (·.1)++b.map (·.1)).Nodup:=by
 have z:=Q6 h f;refine(List.Perm.nodup_iff ?_).mpr z;rw[Lr,LS,LS];exact Nx _ Ng
def qU {a:List (Str×Str)}{b:List (Str×N4)}{n s:Str}{l:List Str}(h:∀x∈a.map (·.1)++b.map (·.1),x∈l)(f:n∈l):∀x∈(a++[(n,s)]).map (·.1)++b.map (·.1),x∈l:=by
 intro x hx;rw[Lr,LS] at hx;rcases LC.mp hx with h'|h'
 .exact h x (Ls _ h')
 .rcases LC.mp h' with h2|h2
  .have:x=n:=by simpa using h2
   rw[this];exact f
  .exact h x (LG _ h2)
theorem r6 {α β:Type}{F:α->β->Prop}:∀{l:List α} {m:List β} {a:α} {b:β},Paired F l m->F a b->Paired F (l++[a]) (m++[b])
 |_,_,_,_,.nil,h=> .cons h .nil
 |_,_,_,_,.cons r t,h=> .cons r (r6 t h)
theorem dP:∀{kvs:List (i6×V)} {kv:i6×V},(kvs.map (·.1)).Nodup->kv∈kvs->A5 kvs kv.1=some kv.2
 |p::r,kv,nd,h=>by
  have Rx:=MP.mp (show(p.1::r.map (·.1)).Nodup from nd);rcases Mi.mp h with z|z
  .rw[z];exact bp rfl
  .rw[aY λe=>Rx.1 (by rw[e];exact Ln.mpr ⟨kv,z,rfl⟩)];exact dP Rx.2 z
def Fh {kvs:List (i6×V)}{ss:List Str}(hk:kvs.map (·.1)=ss.map Sum.inr)(nd:(kvs.map (·.1)).Nodup):kvs=ss.map λs=>(Sum.inr s,(A5 kvs (Sum.inr s:i6)).getD .non):=by
 have h1:kvs=kvs.map λkv=>(kv.1,(A5 kvs kv.1).getD .non):=by
  have:∀kv∈kvs,kv=(kv.1,(A5 kvs kv.1).getD .non):=λkv h=>by rw[dP nd h];rfl
  exact(RR kvs).symm.trans (NM this)
 have h2:(kvs.map λkv=>(kv.1,(A5 kvs kv.1).getD V.non))=(kvs.map (·.1)).map λk=>(k,(A5 kvs k).getD .non):=by rw[LH];rfl
 rw[hk,LH] at h2;exact h1.trans h2
theorem lI:∀{r a:List (i6×V)},((a++r).map (·.1)).Nodup->r.foldl (λa x=>G3 a x.1 x.2) a=a++r
 |[],a,_=>by simp
 |p::r,a,nd=>by
  rw[ND];have Rx:((a++[p]++r).map (·.1)).Nodup:=by rw[LS];exact nd
  have hf:p.1∉a.map (·.1):=λm=>by
   rw[Lr] at nd;exact(LU.mp nd).2.2 p.1 m p.1 (by simp) rfl
  rw[P8 p.2 (F8 hf),lI (r:=r) (a:=a++[(p.1,p.2)]) Rx,LS];rfl
def J5 {kvs:List (i6×V)}(nd:(kvs.map (·.1)).Nodup):cN kvs=kvs:=by
 unfold cN;rw[lI (by simpa using nd)];rfl
def PrV.mono {K:Za}{H H':Hp}{x:V}{kv:i6×V}(l:Le H H')(h:PrV K H x kv):PrV K H' x kv:=let ⟨t,e,s⟩:=h;⟨t,e,l.tup s⟩
def jv {α β:Type}{F:α->β->Prop}{l2 m:List α}(h:l2.Perm m):∀{r:List β},Paired F m r->∃r',Paired F l2 r'/\r'.Perm r:=by
 induction h with
 |nil=>intro r p;cases p;exact⟨[],.nil,.nil⟩
 |cons x _ ih=>
  intro r p
  cases p with
  |cons a b=>
   obtain⟨r',h1,h2⟩:=ih b
   exact⟨_::r',.cons a h1,h2.cons _⟩
 |swap x y l=>
  intro r p
  cases p with
  |cons a b=>
   cases b with
   |cons c d=>exact⟨_::_::_,.cons c (.cons a d),.swap _ _ _⟩
 |trans _ _ ih1 ih2=>
  intro r p
  obtain⟨r',h1,h2⟩:=ih2 p
  obtain⟨r'',h3,h4⟩:=ih1 h1
  exact⟨r'',h3,h4.trans h2⟩
theorem kN:∀pts:List (Str×Str),Paired (fun(kv:i6×V) (x:Str×Str)=>kv=(Sum.inr x.1,.str x.2)) (i7 pts) pts
 |[]=> .nil
 |x::r=> .cons rfl (kN r)
theorem ng:∀{kvs:List (i6×V)} {pts:List (Str×Str)},Paired (fun(kv:i6×V) (x:Str×Str)=>kv=(Sum.inr x.1,.str x.2)) kvs pts->kvs=i7 pts
 |_,_,.nil=>rfl
 |_,_,.cons e t=>by rw[e,ng t];rfl
def yH {kvs:List (i6×V)}{pts:List (Str×Str)}(h:kvs.Perm (i7 pts)):∃o_,kvs=i7 o_/\o_.Perm pts:=by
 obtain⟨r,h1,h2⟩:=jv h (kN pts);exact⟨r,ng h1,h2⟩
def j5 (pts:List (Str×Str)):(i7 pts).length=pts.length:=by unfold i7;rw[Ll]
def bA {pts:List (Str×Str)}{i:Nat}{kv:i6×V}(h:(i7 pts)[i]?=some kv):∃x,pts[i]?=some x/\kv=(Sum.inr x.1,.str x.2):=by
 unfold i7 at h;rw[Lo] at h;obtain⟨x,hx,e⟩:=My.mp h;exact⟨x,hx,e.symm⟩
def J6 {D d:Addr}{kvs:List (i6×V)}{o:Obj}{u:HO}{H H1:Hp}(h:H d=some (.dK kvs))(s:Same (E7 d o kvs H) H1)(hD:H1 D=none):Same H (thaw d (upd H1 D u)):=
 Same.thaw h λb v z=>by rw[d9 (d6 (s _ _ z) hD)];exact s _ _ z
def X0 {D d:Addr}{kvs:List (i6×V)}{o:Obj}{u:HO}{H H1:Hp}(s:Same (E7 d o kvs H) H1)(hD:H1 D=none):(thaw d (upd H1 D u)) D=some u:=by
 have hDq:D≠d:=λz=>by rw[z,s _ _ d8] at hD;cases hD
 rw[M8 hDq,d8]
def iz {D d:Addr}{u:HO}{H1:Hp}(hD:H1 D=none):Le H1 (thaw d (upd H1 D u)):=by
 have s:Same H1 (upd H1 D u):=λb v z=>by rw[d9 (d6 z hD)];exact z
 exact s.le.trans le_thaw
def V3 {pts:List (Str×Str)}(h:(pts.map (·.1)).Nodup):((i7 pts).map (·.1)).Nodup:=by
 rw[D5,←A4];refine PH _ ?_ h;exact λa b h z=>h (NL z)
theorem j6 {α:Type}:∀{l:List (Str×α)} {n:Str} {x y:α},(l.map (·.1)).Nodup->(n,x)∈l->(n,y)∈l->x=y
 |p::r,n,x,y,nd,hx,hy=>by
  have Rx:=MP.mp (show(p.1::r.map (·.1)).Nodup from nd);rcases Mi.mp hx with zx|zx
  .rcases Mi.mp hy with zy|zy
   .have:=zx.trans zy.symm;exact(NG this).2
   .exact absurd (Ln.mpr ⟨(n,y),zy,by rw[←zx]⟩) Rx.1
  .rcases Mi.mp hy with zy|zy
   .exact absurd (Ln.mpr ⟨(n,x),zx,by rw[←zy]⟩) Rx.1
   .exact j6 Rx.2 zx zy
def wg {K:Za}{H:Hp}{kvs:List (i6×V)}{ts:List (Str×N4)}{n:Str}{t:N4}(w:TiesIs K H kvs ts)(nd:(ts.map (·.1)).Nodup)(h:(n,t)∈ts):∃a,A5 kvs (Sum.inr n:i6)=some (.ref a)/\SqT K H a (Y7 t):=by
 obtain⟨a,x,h1,h2,h3⟩:=TiesIs.val (ts:=ts) w (Ln.mpr ⟨(n,t),h,rfl⟩);rw[j6 nd h h2];exact⟨a,h1,h3⟩
def O1 {pts:List (Str×Str)}{n k:Str}(nd:(pts.map (·.1)).Nodup)(h:(n,k)∈pts):A5 (i7 pts) (Sum.inr n:i6)=some (.str k):=
 dP (kv:=(Sum.inr n,.str k)) (V3 nd) (Ln.mpr ⟨(n,k),h,rfl⟩)
theorem gL {n:Str}:∀{gs:List Str},Gy (.str n) (gs.map V.str)=decide (n∈gs)
 |[]=>rfl
 |g::r=>by
  show(dq (.str g) (.str n)||Gy (.str n) (r.map V.str))=_;rw[gL (gs:=r),show dq (.str g) (.str n)=decide (g=n) by unfold dq;rw[LQ];simp];rw[LQ];simp;constructor
  .rintro(h|h)
   .exact .inl h.symm
   .exact .inr h
  .rintro(h|h)
   .exact .inl h.symm
   .exact .inr h
def cc {K:Za}{H:Hp}{Q:VK}{l:Addr}{gs:List Str}{n:Str}(h:SqL K H l (gs.map V.str))(q:Q (.bl (!decide (n∈gs))) H):jN K (.str n) (.ref l) H Q:=
 .inr (.inl ⟨l,_,rfl,.inl h,rfl,sQ _,by rw[if_pos rfl,gL];exact q⟩)
def gJ {K:Za}{H:Hp}{Q:VK}{l:Addr}{gs:List Str}{n:Str}(h:SqL K H l (gs.map V.str))(q:Q (.bl (decide (n∈gs))) H):xt K (.str n) (.ref l) H Q:=
 rM (.inl h) rfl (sQ _) (by rw[gL];exact q)
def gH (gs:List Str):i6->Bool
 | .inr n=>decide (n∈gs)
 |_=>false
theorem eo {α β:Type}{F:α->β->Prop}{f:α->Bool}{g:β->Bool}(h:∀a b,F a b->f a=g b):∀{l:List α} {m:List β},Paired F l m->Paired F (l.filter f) (m.filter g)
 |_,_,.nil=> .nil
 |a::l,b::m,.cons r t=>by
  have z:=eo h t;have e:=h a b r;cases hb:g b with
  |true=>rw[Mq (by rw[e,hb]),Mq hb];exact .cons r z
  |false=>rw[Mr (by rw[e,hb];simp),Mr (by rw[hb];simp)];exact z
def Z0 {α β:Type}{f:α->β}{p:α->Bool}{l:List α}(h:(l.map f).Nodup):((l.filter p).map f).Nodup:=h.sublist ((NN).map f)
def wY {ka kb:List (i6×V)}(nd:((ka++kb).map (·.1)).Nodup):Q7 ka kb=ka++kb:=lI nd
def dz {K:Za}{H:Hp}{d:Addr}{k1 k2:List (i6×V)}{kvs:List (i6×V)}{ts:List (Str×N4)}(h:H d=some (.dK k1))(w:TiesIs K H kvs ts):TiesIs K (upd H d (.dK k2)) kvs ts:=Paired.imp' (λ_ _ z=>aB h z) w
def O4 {pts:List (Str×Str)}{n:Str}:(A5 (i7 pts) (Sum.inr n:i6)).isSome=decide (n∈pts.map (·.1)):=by
 rw[←dh,LQ,Nr,LA];constructor
 .rintro⟨kv,f_,e⟩;obtain⟨x,hx,rfl⟩:=Ln.mp f_;exact Ln.mpr ⟨x,hx,NL (Nv e)⟩
 .intro m;obtain⟨x,hx,rfl⟩:=Ln.mp m;exact⟨_,Ln.mpr ⟨x,hx,rfl⟩,LN rfl⟩
def U7 {K:Za}{H:Hp}{kvs:List (i6×V)}{ts:List (Str×N4)}{n:Str}(w:TiesIs K H kvs ts):(A5 kvs (Sum.inr n:i6)).isSome=decide (n∈ts.map (·.1)):=by
 by_cases hn:n∈ts.map (·.1)
 .obtain⟨a,x,h1,_⟩:=TiesIs.val (ts:=ts) w hn;rw[h1,LN hn];rfl
 .cases e:A5 kvs (Sum.inr n:i6) with
  |none=>simp [hn]
  |some v=>
   have z:=wu e
   rw[w.keys,←A4] at z
   exact absurd (V7 z) hn
def yN {α:Type}{xs:List α}(h:0<xs.length):∃v,rJ xs (-1)=some v/\v∈xs:=by
 have e:BW xs.length (-1)=some (xs.length -1):=by
  unfold BW;rw[if_neg (by lia),if_pos (by lia)];congr 1;lia
 refine⟨xs[xs.length -1],?_,LM _⟩;unfold rJ;rw[e];show xs[xs.length -1]?=_;exact Lm (by lia)
theorem uh {K:Za}{H:Hp}{kb:List (i6×V)}:∀{ka:List (i6×V)},(∀kv∈ka,∃y,A5 kb kv.1=some y/\Eq1 K H kv.2 y true)->EqH K H kb ka true
 |[],_=> .nil
 |kv::r,h=>by
  obtain⟨y,h1,h2⟩:=h kv Lv;exact EqH.hit (e:=true) (b:=true) h1 h2 (uh λx hx=>h x (Lw _ hx))
def CF {K:Za}{H:Hp}(s:Str):Eq1 K H (.str s) (.str s) true:=by
 have z:=Eq1.flat (K:=K) (H:=H) (x:= .str s) (y:= .str s) rfl rfl;rw[lG rfl] at z;exact z
def AQ {K:Za}{H:Hp}{a b:Addr}{t:N4}(h:SqT K H a (Y7 t))(h':SqT K H b (Y7 t)):Eq1 K H (.ref a) (.ref b) true:=by
 have z:=Eq1.tup h h' rfl rfl;rw[iQ rfl] at z;exact z
def Cr {K:Za}{H:Hp}{p p':Addr}{pts o_:List (Str×Str)}(v_:p≠p')(h1:Rd H p (.dK (i7 pts)))(h2:Rd H p' (.dK (i7 o_)))(pm:pts.Perm o_)(nd:(o_.map (·.1)).Nodup):EqD K H p p' true:=
 .inr ⟨v_,_,_,true,h1,h2,uh λkv f_=>by
  obtain⟨x,hx,rfl⟩:=Ln.mp f_;exact⟨_,O1 nd (pm.mem_iff.mp hx),CF _⟩,by rw[j5,j5,pm.length_eq];simp⟩
def AG {K:Za}{H:Hp}{q q':Addr}{kvs b_:List (i6×V)}{ts y_:List (Str×N4)}(v_:q≠q')(h1:Rd H q (.dK kvs))(h2:Rd H q' (.dK b_))(w:TiesIs K H kvs ts)(w':TiesIs K H b_ y_)(pm:ts.Perm y_)(nd:(y_.map (·.1)).Nodup):EqD K H q q' true:=
 .inr ⟨v_,_,_,true,h1,h2,uh λkv f_=>by
  obtain⟨i,hi⟩:=MV f_;obtain⟨x,hx,ex,b,eb,sb⟩:=w.get hi;obtain⟨c,e1,e2⟩:=wg w' nd (pm.mem_iff.mp (LF hx));refine⟨.ref c,by rw[ex];exact e1,?_⟩;rw[eb];exact AQ sb e2,by rw[w.length,w'.length,pm.length_eq];simp⟩
abbrev dB:=λP w K mg base=>M7 P w K mg base B6 1 "_law_cell_at" ["_law_script","_law_k"] [] (cv K)
def jJ {f fd}(T:Txt K mg)(F:Fun K "_law_cell_at" "_law_cell_at" ah f fd):u6 P w K mg base B6 1 f fd ["_law_script","_law_k"] (cv K):=by
 walk_at "#sc__law_cell_at"
 .obtain⟨a,ns,k,rfl,_⟩:=h;rfl
 .obtain⟨a,ns,k,rfl,hA,hl,h0,q⟩:=h;walk_at "@sc__law_cell_at 2ib'0uR 01l90g8f00186"
  symm;refine E8 (p9 hA ?_);rw[Ll];symm;refine F9 (λh1=>?_) (λh1=>?_)
  .symm;obtain⟨v,hv,YH⟩:=tW (xs:=ns.map V.int) (i:=k) h0 (by rw[Ll];exact h1);rw[Lo] at YH;obtain⟨m,_,rfl⟩:=My.mp YH;refine k9 hA hv ?_;exact q m
  .symm;exact q 0
abbrev bK:=λP w K mg base=>M7 P w K mg base B6 1 "_law_mix" ["_law_cell","_law_k"] [] (jc K)
def tP {f fd}(T:Txt K mg)(F:Fun K "_law_mix" "_law_mix" fb f fd):u6 P w K mg base B6 1 f fd ["_law_cell","_law_k"] (jc K):=by
 walk_at "#sc__law_mix"
 .obtain⟨c,k,rfl,_⟩:=h;rfl
 .obtain⟨c,k,rfl,h0,h1,q⟩:=h;walk_at "@sc__law_mix 8Essso.006o.o.01016o.60166";symm;exact q _ (MM _ (by decide))
def nN (l:List Nat):Str:=⟨l.toArray⟩
def pj (l:List Nat)(c:Nat):nN l++(⟨#[c]⟩:Str)=nN (l++[c]):=by
 unfold nN;show(⟨l.toArray++ #[c]⟩:Str)=_;congr 1;simp
def yO {l m:List Nat}(h:nN l=nN m):l=m:=by
 have:=Mw (λs:Str=>s.cps.toList) h;simpa [nN] using this
def mh (l:List Nat):(nN l).length=l.length:=by
 show l.toArray.size=_;simp
def qL (c at_:Int)(k j:Nat):Int:=(c/64+(j:Int)*(j:Int)+if(j:Int)=at_ then 3*(k:Int) else 0) % 26
def aZ (c at_:Int)(k i:Nat):List Nat:=(List.range i).map λj:Nat=>iP (qL c at_ k j)
def kG (c at_:Int)(k i:Nat):aZ c at_ k (i+1)=aZ c at_ k i++[iP (qL c at_ k i)]:=by
 unfold aZ;rw[Pn,Lr];rfl
def ie (c at_:Int)(k i:Nat):(aZ c at_ k i).length=i:=by
 unfold aZ;rw[Ll,PL]
def gS (c at_:Int)(n k:Nat):Str:=nN (aZ c at_ k n)
def BG {c at_:Int}{n m:Nat}(h0:0<=at_)(h1:at_<n)(hm:m<=26):((List.range m).map (gS c at_ n)).Nodup:=rZ λi j hi hj e=>by
 have z:=yO e;have z2:=Mw (λl=>l[at_.toNat]?) z;unfold aZ at z2;simp only[Lo,Sx (show at_.toNat<n by lia),RG,QR] at z2;unfold qL at z2;rw[if_pos (by lia),if_pos (by lia)] at z2;generalize (at_.toNat:Int)*(at_.toNat:Int)=w at z2;generalize c/64=b at z2;have e1:(b+w+3*(i:Int)) % 26=(((b+w+3*(i:Int)) % 26).toNat:Int):=by lia
 have e2:(b+w+3*(j:Int)) % 26=(((b+w+3*(j:Int)) % 26).toNat:Int):=by lia
 rw[e1,e2] at z2;have z3:=zG _ _ (by lia) (by lia) z2;lia
def EM (i:Int)(h0:0<=i)(h1:i<26):iP i∈kSL.cps.toList:=by
 have hl:kSL.cps.toList.length=26:=by decide+kernel
 unfold iP;rw[Mx,Lm (show i.toNat<kSL.cps.toList.length by lia)];exact LM _
def xw {c at_:Int}{n k:Nat}(h0:0<n)(h8:n<=8):cw (gS c at_ n k)=true:=by
 have hl:(gS c at_ n k).length=n:=by unfold gS;rw[mh,ie]
 unfold cw R8;rw[hl,LN (by lia),LN (by lia),Pu,Pu];unfold sk;rw[LZ];intro x hx;refine LN ?_;have I_:x∈aZ c at_ k n:=by
  have z:(gS c at_ n k).cps.toList=aZ c at_ k n:=by unfold gS nN;simp
  rw[z] at hx;exact hx
 obtain⟨j,_,rfl⟩:=Ln.mp I_;exact EM _ (MM _ (by decide)) (MC _ (by decide))
def Cv:∀i:Nat,i<26->iP i≠63:=by decide+kernel
def Cy {c at_:Int}{n k:Nat}(hn:0<n):gS c at_ n k≠"?":=λe=>by
 have e1:("?":Str).cps.toList=[63]:=by decide+kernel
 have e2:=Mw (λs:Str=>s.cps.toList) e;have e3:aZ c at_ k n=[63]:=by rw[←e1,←e2];rfl
 have e4:=Mw (λl=>l[0]?) e3;unfold aZ at e4;simp only[Lo,Sx hn,RG,List.getElem?_cons_zero,QR] at e4;have h0:0<=qL c at_ k 0:=MM _ (by decide);have h1:qL c at_ k 0<26:=MC _ (by decide);rw[show qL c at_ k 0=((qL c at_ k 0).toNat:Int) by lia] at e4;exact Cv _ (by lia) e4
abbrev fW:=λP w K mg base=>M7 P w K mg base B6 1 "_law_names" ["_law_mixed","_law_many"] [] (eX K)
def nR {f fd}(T:Txt K mg)(F:Fun K "_law_names" "_law_names" bP f fd):u6 P w K mg base B6 1 f fd ["_law_mixed","_law_many"] (eX K):=by
 walk_at "#sc__law_names"
 .obtain⟨c,rfl,_⟩:=h;rfl
 .obtain⟨c,rfl,h0,k⟩:=h;walk_at "@sc__law_names 252p253s6E006254EoJ00603255u+2r{91k6257p2r{93k8259soJ006o.08082ibB0804gm59s09o.606m57s07f2E096mNQ/`_^0597805"
  symm;have XQ:0<=c/8 % (1+c % 8):=MM _ (by lia);have hat1:c/8 % (1+c % 8)<1+c % 8:=MC _ (by lia);generalize hat:c/8 % (1+c % 8)=at_ at XQ hat1⊢;refine⟨b9 (by simp),λlo no=>?_⟩;obtain⟨H1,e1,f1,m1,_⟩:=b7 (o:= .lst _) no;rw[e1];symm;refine jY (by lia) (by lia) ?_;refine F5 (n:=8) (λi σ H'=>(∃v1 v2 v3 v4,σ=[some (.int c),some (.int 8),some (.str kSL),some (.int (1+c % 8)),some (.int at_),some (.ref lo),v1,v2,v3,v4])/\Same H H'/\H' lo=some (.lst (((List.range i).map (gS c at_ (1+c % 8).toNat)).map V.str)))
   ⟨⟨_,_,_,_,rfl⟩,m1,f1⟩ (λi σ H' hi _=>by exact hi) ?_ ?_
  .rintro bk i v σ H2' H2 hi ⟨⟨v1,v2,v3,v4,rfl⟩,s2,g2⟩ ⟨rfl,rfl⟩ _ _;symm;refine jY (by lia) (by lia) ?_;refine F5 (n:=(1+c % 8).toNat) (λj σ H'=>(∃v3 v4,σ=[some (.int c),some (.int 8),some (.str kSL),some (.int (1+c % 8)),some (.int at_),some (.ref lo),some (.int (0+(i:Int))),some (.str (nN (aZ c at_ i j))),v3,v4])/\H'=H2)
    ⟨⟨_,_,rfl⟩,rfl⟩ (λi σ H' hi _=>by exact hi) ?_ ?_
   .rintro YO j v σ H3 H4 hj ⟨⟨v3,v4,rfl⟩,rfl⟩ ⟨rfl,rfl⟩ _ _;have YQ:=mh (aZ c at_ i j);rw[ie] at YQ;symm;refine F9 (λhb=>?_) (λhb=>?_)
    .symm;have e:(c/64+(0+(j:Int))*(0+(j:Int))+3*(0+(i:Int))) % 26=qL c at_ i j:=by unfold qL;rw[if_pos (by lia),Oc,Oc]
     rw[e];have q0:0<=qL c at_ i j:=MM _ (by decide);have q1:qL c at_ i j<26:=MC _ (by decide);refine mU oI (zB (qL c at_ i j) q0 q1) ?_;refine U0 (j:=⟨#[iP (qL c at_ i j)]⟩) (b9 (by rw[vZ];lia)) ?_;symm;refine⟨⟨some (.int (0+(j:Int))),some (.int (c/64+(0+(j:Int))*(0+(j:Int))+3*(0+(i:Int)))),?_⟩,rfl⟩;rw[kG,←pj];rfl
    .symm;have e:(c/64+(0+(j:Int))*(0+(j:Int))) % 26=qL c at_ i j:=by unfold qL;rw[if_neg (by lia),Oc,Int.add_zero]
     rw[e];have q0:0<=qL c at_ i j:=MM _ (by decide);have q1:qL c at_ i j<26:=MC _ (by decide);refine mU oI (zB (qL c at_ i j) q0 q1) ?_;refine U0 (j:=⟨#[iP (qL c at_ i j)]⟩) (b9 (by rw[vZ];lia)) ?_;symm;refine⟨⟨some (.int (0+(j:Int))),some (.int (c/64+(0+(j:Int))*(0+(j:Int)))),?_⟩,rfl⟩;rw[kG,←pj];rfl
   .rintro σ H3 ⟨⟨v3,v4,rfl⟩,rfl⟩;refine⟨Lp _,?_⟩;symm;refine⟨.inl ⟨rfl,_,SqL.of g2⟩,?_⟩;symm;refine⟨lo,_,_,rfl,rfl,g2,wB (by rw[Ll,Ll,PL];lia),?_⟩;walk_at "X";refine⟨⟨_,_,_,_,rfl⟩,M3 s2 no,?_⟩;rw[d8,Pn,Lr,Lr];rfl
  .rintro σ H2 ⟨⟨v1,v2,v3,v4,rfl⟩,s2,g2⟩;refine⟨Lp _,?_⟩;symm;refine k lo H2 _ no s2 g2 ⟨by rw[Ll,PL],BG XQ (by lia) (by lia),λs hs=>?_,λhs=>?_,λs hs=>?_⟩
   .obtain⟨i,_,rfl⟩:=Ln.mp hs;unfold gS;rw[mh,ie];lia
   .obtain⟨i,_,e⟩:=Ln.mp hs;exact Cy (by lia) e
   .obtain⟨i,_,rfl⟩:=Ln.mp hs;exact xw (by lia) (by lia)
def eI (K:Za):Sp:=λvs H Q _=>∃(a b c:Addr) (cs:List Int) (ss ks:List Str),vs=[.ref a,.ref b,.int 3,.int 2,.ref c]/\SqL K H a (cs.map V.int)/\SqL K H b (ss.map V.str)/\SqL K H c (ks.map V.str)/\cs.length<=5/\ss.length=8/\0<ks.length/\ks.length<=2/\ss.Nodup/\(∀s∈ss,s.length<=100)/\("?":Str)∉ss/\∀(a p q:Addr) (kvs:List (i6×V)) (W:x9) (H':Hp),Same H H'->WebIs 13 K H' a p q kvs W->(∀n∈b8 W,n∈ss.take 5)->(b8 W).length<=5->W.pts.length<=3->W.ts.length<=3->Q (.ref a) H'
abbrev gv:=λP w K mg base=>M7 P w K mg base B6 2 "_law_piece" ["_law_cells","_law_names_here","_law_points_most","_law_ties_most","_law_kinds"] [] (eI K)
def oq {f fd}(T:Txt K mg)(F7:bK P w K mg base)(F:Fun K "_law_piece" "_law_piece" bQ f fd):u6 P w K mg base B6 2 f fd ["_law_cells","_law_names_here","_law_points_most","_law_ties_most","_law_kinds"] (eI K):=by
 walk_at "#sc__law_piece"
 .obtain⟨a,b,c,cs,ss,ks,rfl,_⟩:=h;rfl
 .obtain⟨a,b,c,cs,ss,ks,rfl,hA,hB,hC,R_,UG,Uz,Tq,UZ,hs1,hqm,k⟩:=h;walk_at "@sc__law_piece 255U256U2r{4l90k72583|af00707259GO9525:FBl9902gm'3cF ySb;l996gSb'0uR l9603g:yKT0:bBE0866g25;f9EoJ086l9925<f9EoJ086l99Idhf4EoJ086l947;0<6f107miH0:If4EoJ086l945f1078d7506"
  symm;intro p np;obtain⟨H1,e1,f1,m1,_⟩:=b7 (o:= .dK []) np;rw[e1];symm;intro q nq;obtain⟨H2,e2,f2,m2,_⟩:=b7 (o:= .dK []) nq;rw[e2];have H_:p≠q:=d6 f1 nq;have XR:H q=none:=m1.free nq;have J_:=m1.trans m2;symm;refine E8 (p9 (J_.seq hA) ?_);symm;rw[Ll];refine jY (by lia) (by lia) ?_;refine F5 (n:=cs.length) (λi σ H'=>∃(pts:List (Str×Str)) (kvs:List (i6×V)) (ts:List (Str×N4)) (v1 v2 v3 v4 v5 v6:Option V),σ=[some (.ref a),some (.ref b),some (.int 3),some (.int 2),some (.ref c),some (.ref p),some (.ref q),v1,v2,v3,v4,v5,v6]/\Same H H'/\H' p=some (.dK (i7 pts))/\H' q=some (.dK kvs)/\TiesIs K H' kvs ts/\(pts.map (·.1)++ts.map (·.1)).Nodup/\(∀x∈pts.map (·.1)++ts.map (·.1),x∈ss.take i)/\(pts.length+ts.length<=i/\pts.length<=3/\ts.length<=3)/\∀x∈ts,x.2.2.1∈pts.map (·.1)/\x.2.2.2∈pts.map (·.1))
   ⟨[],[],[],_,_,_,_,_,_,rfl,J_,m2 _ _ f1,f2,.nil,Ny,(λ_ h=>nomatch h),⟨Lp _,Ov _,Ov _⟩,λ_ h=>nomatch h⟩ (λi σ H' hi _=>by show i<_;lia) ?_ ?_
  .rintro bk i v σ U' H3 hi ⟨pts,kvs,ts,v1,v2,v3,v4,v5,v6,rfl,s3,g3,t3,w3,d1,d2,l1,l2⟩ ⟨rfl,rfl⟩ _ _;obtain⟨nm,XS,hnm'⟩:∃nm,(ss.map V.str)[i]?=some (.str nm)/\ss[i]?=some nm:=⟨ss[i],by rw[Lo,Lm (by lia)];rfl,Lm (by lia)⟩
   have hci:(cs.map V.int)[i]?=some (.int cs[i]):=by rw[Lo,Lm hi];rfl
   have e7:ss.take (i+1)=ss.take i++[nm]:=by rw[Me,hnm'];rfl
   have Vq:nm∉ss.take i:=λm=>by
    have z:(ss.take (i+1)).Nodup:=UZ.sublist (Og _ _);rw[e7] at z;exact(LU.mp z).2.2 nm m nm (by simp) rfl
   have fresh:nm∉pts.map (·.1)++ts.map (·.1):=λm=>Vq (d2 nm m);have P_:∀x∈pts.map (·.1)++ts.map (·.1),x∈ss.take (i+1):=λx hx=>by rw[e7];exact Ls _ (d2 x hx)
   have WA:=w3.length;symm;refine k9 (xs:=cs.map V.int) (s3.seq hA) (i:=0+(i:Int)) (by rw[Oc];exact b6 (j:=i) hci) ?_;symm;refine⟨cs[i],0+(i:Int),rfl,by lia,by lia,λmx hmx=>?_⟩;symm;refine D4 (ss:=pts.map (·.1)) (.inl g3) (by rw[D5,A4]) (by rw[Ll];lia) (λs1 a1 a2 l1' n1=>?_);obtain⟨H6,e6,f6,m6,_⟩:=b7 (o:= .lst _) n1;rw[e6];have s6:=s3.trans m6;have g6:=m6 _ _ g3;have t6:=m6 _ _ t3;have w6:=w3.mono m6.le;have F_:=a1.length_eq;rw[Ll] at F_;symm;refine E8 (p9 (SqL.of f6) ?_);rw[Ll,F_];symm;refine E8 (p9 (SqL.of f6) ?_);rw[Ll,F_];symm;refine F9 (λhz=>?_) (λhz=>?_)
   .symm;refine E8 (iV (.inl t6) ?_);symm;refine F9 (λh3=>?_) (λh3=>?_)
    .symm;refine F9 (λh4=>?_) (λh4=>?_)
     .have N_:0<pts.length:=by lia
      symm;refine E8 (p9 (SqL.of f6) ?_);rw[Ll,F_];symm;obtain⟨o1,To,XT⟩:=K0 (ss:=s1) (i:=mx/2 % (pts.length:Int)) (MM _ (by lia)) (by rw[F_];exact MC _ (by lia));refine k9 (SqL.of f6) To ?_;symm;refine E8 (p9 (SqL.of f6) ?_);rw[Ll,F_];symm;obtain⟨o2,S',XU⟩:=K0 (ss:=s1) (i:=mx/14 % (pts.length:Int)) (MM _ (by lia)) (by rw[F_];exact MC _ (by lia));refine k9 (SqL.of f6) S' ?_;symm;refine E8 (p9 (s6.seq hC) ?_);rw[Ll];symm;obtain⟨kd,Tv,_⟩:=K0 (ss:=ks) (i:=mx/98 % (ks.length:Int)) (MM _ (by lia)) (MC _ (by lia));refine k9 (s6.seq hC) Tv ?_;symm;refine⟨b9 (by simp),λl9 n9=>?_⟩;obtain⟨H9,e9,f9,m9,_⟩:=b7 (o:= .tup _) n9;rw[e9];have s9:=s6.trans m9;symm;refine k9 (xs:=ss.map V.str) (s9.seq hB) (i:=0+(i:Int)) (by rw[Oc];exact b6 (j:=i) XS) ?_;refine ae (C6 (k:=Sum.inr nm) (m9 _ _ t6) (b9 (by lia)) ?_);have w9:=w6.mono m9.le;rw[P8 _ (F8 (by rw[w9.keys,←A4];exact λm=>fresh (LG _ (V7 m))))];walk_at "X";refine⟨pts,kvs++[(Sum.inr nm,.ref l9)],ts++[(nm,(kd,o1,o2))],_,_,_,_,_,_,rfl,M3 s9 XR,by rw[d9 H_];exact m9 _ _ g6,d8,r6 (Paired.imp' (λ_ _ z=>aB (m9 _ _ t6) z) w9) (aB (m9 _ _ t6) ⟨rfl,l9,rfl,SqT.of f9⟩),?_,?_,?_,?_⟩
      .rw[Lr,←LS];exact Q6 d1 fresh
      .intro x hx;rw[Lr,←LS] at hx;rcases LC.mp hx with h'|h'
       .exact P_ x h'
       .rw[e7,show x=nm by simpa using h'];simp
      .rw[LB,Mu];lia
      .intro x hx;rcases LC.mp hx with h'|h'
       .exact l2 x h'
       .rw[LV.mp h'];exact⟨a1.mem_iff.mp XT,a1.mem_iff.mp XU⟩
     .symm;refine F9 (λh5=>?_) (λh5=>?_)
      .have N_:0<pts.length:=by lia
       symm;refine E8 (p9 (SqL.of f6) ?_);rw[Ll,F_];symm;obtain⟨o1,To,XT⟩:=K0 (ss:=s1) (i:=mx/2 % (pts.length:Int)) (MM _ (by lia)) (by rw[F_];exact MC _ (by lia));refine k9 (SqL.of f6) To ?_;symm;refine E8 (p9 (SqL.of f6) ?_);rw[Ll,F_];symm;obtain⟨o2,S',XU⟩:=K0 (ss:=s1) (i:=mx/14 % (pts.length:Int)) (MM _ (by lia)) (by rw[F_];exact MC _ (by lia));refine k9 (SqL.of f6) S' ?_;symm;refine E8 (p9 (s6.seq hC) ?_);rw[Ll];symm;obtain⟨kd,Tv,_⟩:=K0 (ss:=ks) (i:=mx/98 % (ks.length:Int)) (MM _ (by lia)) (MC _ (by lia));refine k9 (s6.seq hC) Tv ?_;symm;refine⟨b9 (by simp),λl9 n9=>?_⟩;obtain⟨H9,e9,f9,m9,_⟩:=b7 (o:= .tup _) n9;rw[e9];have s9:=s6.trans m9;symm;refine k9 (xs:=ss.map V.str) (s9.seq hB) (i:=0+(i:Int)) (by rw[Oc];exact b6 (j:=i) XS) ?_;refine ae (C6 (k:=Sum.inr nm) (m9 _ _ t6) (b9 (by lia)) ?_);have w9:=w6.mono m9.le;rw[P8 _ (F8 (by rw[w9.keys,←A4];exact λm=>fresh (LG _ (V7 m))))];walk_at "X";refine⟨pts,kvs++[(Sum.inr nm,.ref l9)],ts++[(nm,(kd,o1,o2))],_,_,_,_,_,_,rfl,M3 s9 XR,by rw[d9 H_];exact m9 _ _ g6,d8,r6 (Paired.imp' (λ_ _ z=>aB (m9 _ _ t6) z) w9) (aB (m9 _ _ t6) ⟨rfl,l9,rfl,SqT.of f9⟩),?_,?_,?_,?_⟩
       .rw[Lr,←LS];exact Q6 d1 fresh
       .intro x hx;rw[Lr,←LS] at hx;rcases LC.mp hx with h'|h'
        .exact P_ x h'
        .rw[e7,show x=nm by simpa using h'];simp
       .rw[LB,Mu];lia
       .intro x hx;rcases LC.mp hx with h'|h'
        .exact l2 x h'
        .rw[LV.mp h'];exact⟨a1.mem_iff.mp XT,a1.mem_iff.mp XU⟩
      .have h5':=h5;symm;refine S9 (λhf=>?_) (λhf=>?_)
       .have YR:=hf;symm;refine E8 (p9 (s6.seq hC) ?_);rw[Ll];symm;obtain⟨kd,Tv,_⟩:=K0 (ss:=ks) (i:=mx/2 % (ks.length:Int)) (MM _ (by lia)) (MC _ (by lia));refine k9 (s6.seq hC) Tv ?_;symm;refine k9 (xs:=ss.map V.str) (s6.seq hB) (i:=0+(i:Int)) (by rw[Oc];exact b6 (j:=i) XS) ?_;refine ae (C6 (k:=Sum.inr nm) g6 (b9 (by rw[j5];lia)) ?_);have ep:G3 (i7 pts) (Sum.inr nm:i6) (.str kd)=i7 (pts++[(nm,kd)]):=by
         rw[P8 _ (F8 (by rw[D5,←A4];exact λm=>fresh (Ls _ (V7 m))))];unfold i7;rw[Lr];rfl
        walk_at "X";refine⟨pts++[(nm,kd)],kvs,ts,_,_,_,_,_,_,rfl,M3 s6 np,by rw[d8,ep],by rw[d9 (OD H_)];exact t6,Paired.imp' (λ_ _ z=>aB g6 z) w6,?_,?_,?_,?_⟩
        .exact uB d1 fresh
        .exact qU P_ (by rw[e7];simp)
        .rw[LB,Mu];lia
        .intro x hx;rw[Lr];walk_at "X";exact⟨Ls _ (l2 x hx).1,Ls _ (l2 x hx).2⟩
       .have YS:=hf;symm;walk_at "X";exact⟨pts,kvs,ts,_,_,_,_,_,_,rfl,s6,g6,t6,w6,d1,P_,by lia,l2⟩
    .have h3':=h3;symm;refine S9 (λhf=>?_) (λhf=>?_)
     .have YR:=hf;symm;refine E8 (p9 (s6.seq hC) ?_);rw[Ll];symm;obtain⟨kd,Tv,_⟩:=K0 (ss:=ks) (i:=mx/2 % (ks.length:Int)) (MM _ (by lia)) (MC _ (by lia));refine k9 (s6.seq hC) Tv ?_;symm;refine k9 (xs:=ss.map V.str) (s6.seq hB) (i:=0+(i:Int)) (by rw[Oc];exact b6 (j:=i) XS) ?_;refine ae (C6 (k:=Sum.inr nm) g6 (b9 (by rw[j5];lia)) ?_);have ep:G3 (i7 pts) (Sum.inr nm:i6) (.str kd)=i7 (pts++[(nm,kd)]):=by
       rw[P8 _ (F8 (by rw[D5,←A4];exact λm=>fresh (Ls _ (V7 m))))];unfold i7;rw[Lr];rfl
      walk_at "X";refine⟨pts++[(nm,kd)],kvs,ts,_,_,_,_,_,_,rfl,M3 s6 np,by rw[d8,ep],by rw[d9 (OD H_)];exact t6,Paired.imp' (λ_ _ z=>aB g6 z) w6,?_,?_,?_,?_⟩
      .exact uB d1 fresh
      .exact qU P_ (by rw[e7];simp)
      .rw[LB,Mu];lia
      .intro x hx;rw[Lr];walk_at "X";exact⟨Ls _ (l2 x hx).1,Ls _ (l2 x hx).2⟩
     .have YS:=hf;symm;walk_at "X";exact⟨pts,kvs,ts,_,_,_,_,_,_,rfl,s6,g6,t6,w6,d1,P_,by lia,l2⟩
   .have hz':=hz;symm;refine S9 (λhf=>?_) (λhf=>?_)
    .have YR:=hf;symm;refine E8 (p9 (s6.seq hC) ?_);rw[Ll];symm;obtain⟨kd,Tv,_⟩:=K0 (ss:=ks) (i:=mx/2 % (ks.length:Int)) (MM _ (by lia)) (MC _ (by lia));refine k9 (s6.seq hC) Tv ?_;symm;refine k9 (xs:=ss.map V.str) (s6.seq hB) (i:=0+(i:Int)) (by rw[Oc];exact b6 (j:=i) XS) ?_;refine ae (C6 (k:=Sum.inr nm) g6 (b9 (by rw[j5];lia)) ?_);have ep:G3 (i7 pts) (Sum.inr nm:i6) (.str kd)=i7 (pts++[(nm,kd)]):=by
      rw[P8 _ (F8 (by rw[D5,←A4];exact λm=>fresh (Ls _ (V7 m))))];unfold i7;rw[Lr];rfl
     walk_at "X";refine⟨pts++[(nm,kd)],kvs,ts,_,_,_,_,_,_,rfl,M3 s6 np,by rw[d8,ep],by rw[d9 (OD H_)];exact t6,Paired.imp' (λ_ _ z=>aB g6 z) w6,?_,?_,?_,?_⟩
     .exact uB d1 fresh
     .exact qU P_ (by rw[e7];simp)
     .rw[LB,Mu];lia
     .intro x hx;rw[Lr];walk_at "X";exact⟨Ls _ (l2 x hx).1,Ls _ (l2 x hx).2⟩
    .have YS:=hf;symm;walk_at "X";exact⟨pts,kvs,ts,_,_,_,_,_,_,rfl,s6,g6,t6,w6,d1,P_,by lia,l2⟩
  .rintro σ H3 ⟨pts,kvs,ts,v1,v2,v3,v4,v5,v6,rfl,s3,g3,t3,w3,d1,d2,l1,l2⟩;refine⟨by show cs.length<=_;lia,?_⟩;symm;refine⟨b9 (by simp),λl9 n9=>?_⟩;obtain⟨H9,e9,f9,m9,_⟩:=b7 (o:= .tup _) n9;rw[e9];exact k l9 p q kvs ⟨pts,ts⟩ H9 (s3.trans m9) ⟨⟨SqT.of f9,.inl (m9 _ _ g3),.inl (m9 _ _ t3),w3.mono m9.le⟩,m9 _ _ g3,m9 _ _ t3,H_,d1,by show(pts.map (·.1)++ts.map (·.1)).length<=13;rw[LB,Ll,Ll];lia,l2,λx hx=>hs1 x (MG (d2 x hx)),λhx=>hqm (MG (d2 _ hx))⟩ (λx hx=>(List.take_sublist_take_left (show cs.length<=5 by lia)).subset (d2 x hx)) (by show(pts.map (·.1)++ts.map (·.1)).length<=5;rw[LB,Ll,Ll];lia) (by show pts.length<=3;lia) (by show ts.length<=3;lia)
def ltP (a b:Str):Prop:=a.cps.toList<b.cps.toList
theorem mR:∀{ss:List Str},Ao ss=true->ss.Pairwise ltP
 |[],_=> .nil
 |[_],_=>Rm _ _
 |x::y::r,h=>by
  rw[oP,Mg] at h;have ih:=mR h.2;have hxy:x.cps.toList<y.cps.toList:=Nv h.1;refine Na.mpr ⟨λz hz=>?_,ih⟩;rcases Mi.mp hz with e|e
  .rw[e];exact hxy
  .exact SQ hxy ((Na.mp ih).1 z e)
structure Ordr (W:x9) (s1 s2:List Str):Prop where
 p1:s1.Perm (W.pts.map (·.1))
 p2:s2.Perm (W.ts.map (·.1))
 o1:sortedS s1=true
 o2:sortedS s2=true
def Ordr.mem {W:x9}{s1 s2:List Str}(h:Ordr W s1 s2){n:Str}:n∈s1++s2↔n∈b8 W:=by
 unfold b8;rw[LC,LC,h.p1.mem_iff,h.p2.mem_iff]
def Ordr.perm {W:x9}{s1 s2:List Str}(h:Ordr W s1 s2):(s1++s2).Perm (b8 W):=h.p1.append h.p2
def Ordr.len {W:x9}{s1 s2:List Str}(h:Ordr W s1 s2):(s1++s2).length=(b8 W).length:=h.perm.length_eq
def j8 (kvm:List (i6×V))(n:Str):Str:=match A5 kvm (Sum.inr n:i6) with
 |some (.str s)=>s
 |_=>""
def qS {kvm:List (i6×V)}{n s:Str}(h:A5 kvm (Sum.inr n:i6)=some (.str s)):j8 kvm n=s:=by unfold j8;rw[h]
def TxtAt (kvm:List (i6×V))(n:Str):Prop:=∃s,A5 kvm (Sum.inr n:i6)=some (.str s)
def TxtAt.at_ {kvm:List (i6×V)}{n:Str}(h:TxtAt kvm n):A5 kvm (Sum.inr n:i6)=some (.str (j8 kvm n)):=by
 obtain⟨s,hs⟩:=h;rw[qS hs];exact hs
def rO {H:Hp}{Q:VK}{d:Addr}{kvm:List (i6×V)}{n:Str}(hD:Rd H d (.dK kvm))(h:TxtAt kvm n)(q:Q (.str (j8 kvm n)) H):uj K (.ref d) (.str n) H Q:=
 F2 (by have z:=N0 (k:=Sum.inr n) hD;rw[h.at_] at z;exact z) q
def ij (K:Za):Sp:=λvs H Q _=>∃(a p q:Addr) (kvs:List (i6×V)) (W:x9),vs=[.ref a]/\WebAt K H a p q kvs W/\(b8 W).length<=60/\∀(l:Addr) (H':Hp) (s1 s2:List Str),H l=none->Same H H'->H' l=some (.lst ((s1++s2).map V.str))->Ordr W s1 s2->Q (.ref l) H'
def E4 (W:x9):(b8 W).length=W.pts.length+W.ts.length:=by unfold b8;rw[LB,Ll,Ll]
abbrev iY (K:Za):Sp:=ij K
abbrev Z2:=λP w K mg base=>M7 P w K mg base B6 1 "things" ["web"] [] (ij K)
def xf {f fd}(T:Txt K mg)(F:Fun K "things" "things" kM f fd):u6 P w K mg base B6 1 f fd ["web"] (ij K):=by
 walk_at "#sc_things"
 .obtain⟨a,p,q,kvs,W,rfl,_⟩:=h;rfl
 .obtain⟨a,p,q,kvs,W,rfl,hW,h1,k⟩:=h;rw[E4] at h1;walk_at "@sc_things 8sGO410GO410";symm;refine b5 hW.tup (b6 (j:=0) rfl) ?_;symm;refine D4 (ss:=W.pts.map (·.1)) hW.pts (by rw[D5,A4]) (by rw[Ll];lia) (λs1 a1 a2 l1 n1=>?_);obtain⟨H1,e1,f1,m1,_⟩:=b7 (o:= .lst _) n1;rw[e1];have W1:=hW.mono m1.le;symm;refine b5 W1.tup (b6 (j:=1) rfl) ?_;symm;refine D4 (ss:=W.ts.map (·.1)) W1.ties (by rw[W1.ts.keys,A4]) (by rw[Ll];lia) (λs2 b1 b2 l2 n2=>?_);obtain⟨H2,e2,f2,m2,_⟩:=b7 (o:= .lst _) n2;rw[e2];have g1:=a1.length_eq;have g2:=b1.length_eq;rw[Ll] at g1 g2;refine pd (m2 _ _ f1) f2 (b9 (by rw[Ll,Ll];lia)) (λl3 n3=>?_);obtain⟨H3,e3,f3,m3,_⟩:=b7 (o:= .lst _) n3;rw[e3];refine k l3 H3 s1 s2 (m1.free (m2.free n3)) (m1.trans (m2.trans m3)) ?_ ⟨a1,b1,a2,b2⟩;rw[f3,Lr]
abbrev fv:=λP w K mg base=>M7 P w K mg base B6 1 "_law_all" ["_law_web"] [] (iY K)
def rP {f fd}(T:Txt K mg)(F:Fun K "_law_all" "_law_all" fH f fd):u6 P w K mg base B6 1 f fd ["_law_web"] (iY K):=by
 walk_at "#sc__law_all"
 .obtain⟨a,p,q,kvs,W,rfl,_⟩:=h;rfl
 .obtain⟨a,p,q,kvs,W,rfl,hW,h1,k⟩:=h;rw[E4] at h1;walk_at "@sc__law_all 8sGO410GO410";symm;refine b5 hW.tup (b6 (j:=0) rfl) ?_;symm;refine D4 (ss:=W.pts.map (·.1)) hW.pts (by rw[D5,A4]) (by rw[Ll];lia) (λs1 a1 a2 l1 n1=>?_);obtain⟨H1,e1,f1,m1,_⟩:=b7 (o:= .lst _) n1;rw[e1];have W1:=hW.mono m1.le;symm;refine b5 W1.tup (b6 (j:=1) rfl) ?_;symm;refine D4 (ss:=W.ts.map (·.1)) W1.ties (by rw[W1.ts.keys,A4]) (by rw[Ll];lia) (λs2 b1 b2 l2 n2=>?_);obtain⟨H2,e2,f2,m2,_⟩:=b7 (o:= .lst _) n2;rw[e2];have g1:=a1.length_eq;have g2:=b1.length_eq;rw[Ll] at g1 g2;refine pd (m2 _ _ f1) f2 (b9 (by rw[Ll,Ll];lia)) (λl3 n3=>?_);obtain⟨H3,e3,f3,m3,_⟩:=b7 (o:= .lst _) n3;rw[e3];refine k l3 H3 s1 s2 (m1.free (m2.free n3)) (m1.trans (m2.trans m3)) ?_ ⟨a1,b1,a2,b2⟩;rw[f3,Lr]
theorem pR:∀{kvs:List (i6×V)} {k:i6} {v:V},A5 kvs k=some v->(k,v)∈kvs
 |p::r,k,v,h=>by
  by_cases e:p.1=k
  .rw[bp e] at h;rw[←e,←LO h];exact Lv
  .rw[aY e] at h;exact Lw _ (pR h)
def qR {pts:List (Str×Str)}{n:Str}{v:V}(h:A5 (i7 pts) (Sum.inr n:i6)=some v):∃k,v= .str k/\(n,k)∈pts:=by
 obtain⟨x,hx,e⟩:=Ln.mp (pR h);obtain⟨x1,x2⟩:=x;have e1:=(NG e).1;have e2:=(NG e).2;exact⟨x2,e2.symm,by rw[←NL e1];exact hx⟩
def E9 {W:x9}(h:(b8 W).Nodup):(W.pts.map (·.1)).Nodup:=(LU.mp h).1
def N7 {W:x9}(h:(b8 W).Nodup):(W.ts.map (·.1)).Nodup:=(LU.mp h).2.1
def dJ {pts:List (Str×Str)}{n s:Str}(h:n∉pts.map (·.1)):G3 (i7 pts) (Sum.inr n:i6) (.str s)=i7 (pts++[(n,s)]):=by
 rw[P8 _ (F8 (by rw[D5,←A4];exact λm=>h (V7 m)))];unfold i7;rw[Lr];rfl
def lX {ms:List (Str×Str)}{n m:Str}(nd:(ms.map (·.1)).Nodup)(h:(n,m)∈ms):j8 (i7 ms) n=m:=qS (O1 nd h)
def P6 {p b:Addr}{o:Obj}{kvs:List (i6×V)}{H:Hp}(h:b≠p):E7 p o kvs H b=H b:=d9 h
def lV {p:Addr}{o:Obj}{kvs:List (i6×V)}{H:Hp}:E7 p o kvs H p=some (.frz o (.dK kvs)):=d8
def lZ {p:Addr}{o:Obj}{kvs:List (i6×V)}{H H1:Hp}(s:Same H H1):Same (E7 p o kvs H) (E7 p o kvs H1):=λb u hb=>by
 by_cases z:b=p
 .rw[z,lV] at hb⊢;exact hb
 .rw[P6 z] at hb⊢;exact s _ _ hb
def GO {α:Type}{p:α->Bool}{s:List α}{i:Nat}{x:α}(h:s[i]?=some x)(hp:p x=true):(s.take (i+1)).filter p=(s.take i).filter p++[x]:=by
 rw[Me,h,Mm];show _++List.filter p [x]=_;rw[Mq hp];rfl
def IC {α:Type}{p:α->Bool}{s:List α}{i:Nat}{x:α}(h:s[i]?=some x)(hp:p x=false):(s.take (i+1)).filter p=(s.take i).filter p:=by
 rw[Me,h,Mm];show _++List.filter p [x]=_;rw[Mr (by rw[hp];decide)];simp
def fP {l:List Str}{x:Str}{i:Nat}(nd:l.Nodup)(h:l[i]?=some x):x∉l.take i:=λm=>by
 have e7:l.take (i+1)=l.take i++[x]:=by rw[Me,h];rfl
 have z:(l.take (i+1)).Nodup:=nd.sublist (Og _ _);rw[e7] at z;exact(LU.mp z).2.2 x m x (by simp) rfl
def jb (K:Za):Sp:=λvs H Q _=>∃(d:Addr) (kvs:List (i6×V)) (ss:List Str),vs=[.ref d]/\Rd H d (.dK kvs)/\kvs.map (·.1)=ss.map Sum.inr/\ss.Nodup/\ss.length<=60/\∀(l:Addr) (H':Hp) (b_:List (i6×V)),H l=none->Same H H'->H' l=some (.dK b_)->b_.Perm kvs->Q (.ref l) H'
def cH (K:Za):Sp:=λvs H Q _=>∃(t d:Addr) (x:N4) (nm:List (i6×V)) (u v:Str),vs=[.ref t,.ref d]/\SqT K H t (Y7 x)/\Rd H d (.dK nm)/\A5 nm (Sum.inr x.2.1:i6)=some (.str u)/\A5 nm (Sum.inr x.2.2:i6)=some (.str v)/\∀(t':Addr) (H':Hp),H t'=none->Same H H'->H' t'=some (.tup (Y7 (x.1,u,v)))->Q (.ref t') H'
def NewP (K:Za)(H:Hp)(Q:VK)(W:x9):Prop:=∀(a p q:Addr) (kvs:List (i6×V)) (W':x9) (H':Hp),Same H H'->WebAt K H' a p q kvs W'->H' p=some (.dK (i7 W'.pts))->H' q=some (.dK kvs)->p≠q->H p=none->H q=none->W'.pts.Perm W.pts->W'.ts.Perm W.ts->Q (.ref a) H'
def oC (K:Za):Sp:=λvs H Q _=>∃(a p q:Addr) (kvs:List (i6×V)) (W:x9),vs=[.ref a]/\WebAt K H a p q kvs W/\(W.pts.map (·.1)).Nodup/\(W.ts.map (·.1)).Nodup/\W.pts.length<=60/\W.ts.length<=60/\NewP K H Q W
def A8 (f:Str->Str)(W:x9):x9:=⟨W.pts.map λx=>(f x.1,x.2),W.ts.map λx=>(f x.1,(x.2.1,f x.2.2.1,f x.2.2.2))⟩
def nC (K:Za):Sp:=λvs H Q _=>∃(a d p q:Addr) (kvs nm:List (i6×V)) (W:x9) (f:Str->Str),vs=[.ref a,.ref d]/\WebAt K H a p q kvs W/\H p=some (.dK (i7 W.pts))/\H q=some (.dK kvs)/\Rd H d (.dK nm)/\(∀n∈b8 W,A5 nm (Sum.inr n:i6)=some (.str (f n)))/\((b8 W).map f).Nodup/\(b8 W).length<=60/\
 (∀x∈W.ts,x.2.2.1∈W.pts.map (·.1)/\x.2.2.2∈W.pts.map (·.1))/\NewP K H Q (A8 f W)
abbrev ml:=λP w K mg base=>M7 P w K mg base B6 1 "in_order" ["named"] [] (jb K)
def rS {f fd}(T:Txt K mg)(F:Fun K "in_order" "in_order" fi f fd):u6 P w K mg base B6 1 f fd ["named"] (jb K):=by
 walk_at "#sc_in_order"
 .obtain⟨d,kvs,ss,rfl,_⟩:=h;rfl
 .obtain⟨d,kvs,ss,rfl,hd,hk,L_,hl,k⟩:=h;have nd:(kvs.map (·.1)).Nodup:=by
   rw[hk];refine PH _ ?_ L_;exact λa b h z=>h (NL z)
  walk_at "@sc_in_order 8v4jname;0;eGO90c0name,named;nd70f100";symm;refine D4 (ss:=ss) hd hk (by lia) (λs1 a1 a2 l1 n1=>?_);obtain⟨H1,e1,f1,m1,_⟩:=b7 (o:= .lst _) n1;rw[e1];have hd1:=m1.rd hd;have UJ:=a1.length_eq;refine j7 (SqL.of f1) ?_;refine k8 (n:=s1.length) (λi out H'=>Same H1 H'/\Paired (PrV K H') out ((s1.take i).map λs=>(Sum.inr s,(A5 kvs (Sum.inr s:i6)).getD .non))) ⟨Same.refl _,.nil⟩ (λi out H' hi hp=>⟨_,.str (s1[i]),SqL.of (hp.1 _ _ f1),by rw[Lo,Lm hi];rfl⟩) ?_ ?_
  .rintro N i v out H2 H3 hi ⟨s2,pr⟩ y hN';obtain⟨rfl,hx⟩:=Itl.get y (SqL.of (s2 _ _ f1));rw[Lo] at hx;obtain⟨x,I_,rfl⟩:=My.mp hx;have hxk:(Sum.inr x:i6)∈kvs.map (·.1):=by
    rw[hk];exact Ln.mpr ⟨x,a1.mem_iff.mp (LF I_),rfl⟩
   obtain⟨kv,f_,XW⟩:=Ln.mp hxk;have ev:=dP nd f_;rw[XW] at ev;have e7:s1.take (i+1)=s1.take i++[x]:=by rw[Me,I_];rfl
   symm;refine⟨rfl,?_⟩;symm;refine F2 (v:=kv.2) (by have z':=N0 (k:=Sum.inr x) (s2.rd hd1);rw[ev] at z';exact z') ?_;symm;refine⟨b9 (by simp),λt nt=>?_⟩;obtain⟨H4,e4,f4,m4,_⟩:=b7 (o:= .tup _) nt;rw[e4];have A_:=Mc pr;rw[Ll,Lz] at A_;refine⟨b9 (by lia),hN' _ _ ⟨s2.trans m4,?_⟩⟩;rw[e7,Lr];refine r6 (Paired.imp' (λ_ _ z=>PrV.mono m4.le z) pr) ⟨t,rfl,?_⟩;show SqT K _ t [V.str x,(A5 kvs (Sum.inr x:i6)).getD V.non];rw[ev];exact SqT.of f4
  .rintro out H2 ⟨s2,pr⟩;have A_:=Mc pr;rw[Ll,Lz] at A_;refine⟨⟨_,SqL.of (s2 _ _ f1),by rw[Ll];exact Lp _⟩,λD hD=>⟨b9 (by lia),?_⟩⟩;obtain⟨H5,e5,f5,m5,_⟩:=b7 (o:= .lst out) hD;show um _ (upd _ D _) _;rw[e5];symm;rw[Lu (Lp _)] at pr;refine E2 (SqL.of f5) (Paired.imp' (λ_ _ z=>PrV.mono m5.le z) pr) (b9 (by rw[Ll];lia)) (λl nl=>?_);obtain⟨H6,e6,f6,m6,_⟩:=b7 (o:= .dK _) nl;rw[e6];have mA:=m1.trans (s2.trans (m5.trans m6));have Vr:(s1.map λs=>((Sum.inr s:i6),(A5 kvs (Sum.inr s:i6)).getD V.non)).Perm kvs:=by
    refine List.Perm.trans (a1.map _) ?_;rw[←Fh hk nd]
   rw[J5 ((Vr.map _).nodup_iff.mpr nd)] at f6;exact k l H6 _ ((m1.trans (s2.trans m5)).free nl) mA f6 Vr
abbrev aQ:=λP w K mg base=>M7 P w K mg base B6 1 "tie_renamed" ["tie","names"] [] (cH K)
def ni {f fd}(T:Txt K mg)(F:Fun K "tie_renamed" "tie_renamed" aG f fd):u6 P w K mg base B6 1 f fd ["tie","names"] (cH K):=by
 walk_at "#sc_tie_renamed"
 .obtain⟨t,d,x,nm,u,v,rfl,_⟩:=h;rfl
 .obtain⟨t,d,x,nm,u,v,rfl,ht,hd,Rw,hv1,k⟩:=h;walk_at "@sc_tie_renamed 8dh10af110f110";symm;refine b5 ht (b6 (j:=0) rfl) ?_;symm;refine b5 ht (b6 (j:=1) rfl) ?_;refine F2 (v:= .str u) (by have z':=N0 (k:=Sum.inr x.2.1) hd;rw[Rw] at z';exact z') ?_;symm;refine b5 ht (b6 (j:=2) rfl) ?_;refine F2 (v:= .str v) (by have z':=N0 (k:=Sum.inr x.2.2) hd;rw[hv1] at z';exact z') ?_;symm;refine⟨b9 (by simp),λl9 n9=>?_⟩;obtain⟨H9,e9,f9,m9,_⟩:=b7 (o:= .tup _) n9;rw[e9];exact k l9 H9 n9 m9 f9
abbrev dw:=λP w K mg base=>M7 P w K mg base B6 2 "copied" ["web"] [] (oC K)
def xU {f fd}(T:Txt K mg)(cf:ml P w K mg base)(F:Fun K "copied" "copied" ky f fd):u6 P w K mg base B6 2 f fd ["web"] (oC K):=by
 walk_at "#sc_copied"
 .obtain⟨a,p,q,kvs,W,rfl,_⟩:=h;rfl
 .obtain⟨a,p,q,kvs,W,rfl,hW,d1,d2,l1,l2,k⟩:=h;walk_at "@sc_copied 8da3'0cf 4103'0cf 410";symm;refine b5 hW.tup (b6 (j:=0) rfl) ?_;symm;refine⟨p,i7 W.pts,W.pts.map (·.1),rfl,hW.pts,by rw[D5,A4],d1,by rw[Ll];exact l1,λp' H1 kp np' m1 f1 pm1=>?_⟩;have W1:=hW.mono m1.le;symm;refine b5 W1.tup (b6 (j:=1) rfl) ?_;symm;refine⟨q,kvs,W.ts.map (·.1),rfl,W1.ties,by rw[W1.ts.keys,A4],d2,by rw[Ll];exact l2,λq' H2 kq nq' m2 f2 pm2=>?_⟩;symm;refine⟨b9 (by simp),λl9 n9=>?_⟩;obtain⟨H9,e9,f9,m9,_⟩:=b7 (o:= .tup _) n9;rw[e9];obtain⟨o_,rfl,pp⟩:=yH pm1;have W2:=hW.mono (m1.trans (m2.trans m9)).le;obtain⟨y_,w',pt⟩:=jv pm2 W2.ts;have g1:=m9 _ _ (m2 _ _ f1);have g2:=m9 _ _ f2;exact k l9 p' q' kq ⟨o_,y_⟩ H9 (m1.trans (m2.trans m9)) ⟨SqT.of f9,.inl g1,.inl g2,w'⟩ g1 g2 (d6 f1 nq') np' (m1.free nq') pp pt
abbrev iw:=λP w K mg base=>M7 P w K mg base B6 3 "renamed" ["web","names"] [] (nC K)
def tU {f fd}(T:Txt K mg)(K1:aQ P w K mg base)(F4:dw P w K mg base)(F:Fun K "renamed" "renamed" iS f fd):u6 P w K mg base B6 3 f fd ["web","names"] (nC K):=by
 walk_at "#sc_renamed"
 .obtain⟨a,d,p,q,kvs,nm,W,f,rfl,_⟩:=h;rfl
 .obtain⟨a,d,p,q,kvs,nm,W,f,rfl,hW,hp,hq,hd,hf,L_,hl,hE,k⟩:=h;have XX:W.pts.length+W.ts.length<=60:=by unfold b8 at hl;rw[LB,Ll,Ll] at hl;exact hl
  have YR:∀x∈W.pts,A5 nm (Sum.inr x.1:i6)=some (.str (f x.1)):=λx hx=>hf _ (Ls _ (Ln.mpr ⟨x,hx,rfl⟩));have YS:∀x∈W.ts,A5 nm (Sum.inr x.1:i6)=some (.str (f x.1)):=λx hx=>hf _ (LG _ (Ln.mpr ⟨x,hx,rfl⟩));have nd1:((A8 f W).pts.map (·.1)).Nodup:=by
   unfold b8 at L_;rw[Lr] at L_;have z:=(LU.mp L_).1;unfold A8;rw[LH] at z⊢;exact z
  have w_:((A8 f W).ts.map (·.1)).Nodup:=by
   unfold b8 at L_;rw[Lr] at L_;have z:=(LU.mp L_).2.1;unfold A8;rw[LH] at z⊢;exact z
  have z_:=j5 W.pts;have UZ:=hW.ts.length;walk_at "@sc_renamed 252v4jname,kind;1;L10wc0name,kind,names;c1name,kind,names;xndaf20001253v4jname,tie;1;L10wc0name,tie,names;c1name,tie,names;xndaf2003'0K1 710283<4d7203"
  symm;refine b5 hW.tup (b6 (j:=0) rfl) ?_;refine D6 hp (λWC o1=>?_);refine k8 (n:=(i7 W.pts).length) (λi out H'=>Same (E7 p o1 (i7 W.pts) H) H'/\Paired (PrV K H') out (i7 ((W.pts.take i).map λx=>(f x.1,x.2)))) ⟨Same.refl _,.nil⟩ (λi out H' hi hp=>⟨hp.1 _ _ d8,hi⟩) ?_ ?_
  .rintro N i v out H1 H2 hi ⟨s1,pr⟩ ⟨t,kv,f_,nt,rfl,rfl⟩ hN';obtain⟨x,hx,rfl⟩:=bA f_;obtain⟨H3,e3,f3,m3,_⟩:=b7 (o:= .tup _) nt;rw[e3];have d3:=((L0 (o:=o1) hp).trans (s1.trans m3).le).dic hd;have e7:W.pts.take (i+1)=W.pts.take i++[x]:=by rw[Me,hx];rfl
   refine K9 (SqT.of f3) rfl ?_;symm;refine⟨rfl,?_⟩;symm;refine F2 (v:= .str (f x.1)) (by have z':=N0 (k:=Sum.inr x.1) d3;rw[YR x (LF hx)] at z';exact z') ?_;symm;refine⟨b9 (by simp),λt4 n4=>?_⟩;obtain⟨H4,e4,f4,m4,_⟩:=b7 (o:= .tup _) n4;rw[e4];have A_:=Mc pr;rw[j5,Ll,Lz] at A_;refine⟨b9 (by lia),hN' _ _ ⟨s1.trans (m3.trans m4),?_⟩⟩;rw[e7,Lr];unfold i7 at pr⊢;rw[Lr];exact r6 (Paired.imp' (λ_ _ z=>PrV.mono (m3.trans m4).le z) pr) ⟨t4,rfl,SqT.of f4⟩
  .rintro out H1 ⟨s1,pr⟩;have A_:=Mc pr;rw[j5,Ll,Lz] at A_;refine⟨⟨s1 _ _ d8,Lp _⟩,λD hD=>⟨b9 (by lia),?_⟩⟩;have sM:=J6 hp s1 hD (u:= .lst out);have fM:=X0 s1 hD (u:= .lst out);have TC:=Paired.imp' (λ_ _ z=>PrV.mono (iz (d:=p) (u:= .lst out) hD) z) pr;generalize thaw p (upd H1 D (.lst out))=HM at sM fM TC⊢;rw[Lu (by lia)] at TC;symm;refine E2 (SqL.of fM) TC (b9 (by rw[j5,Ll];lia)) (λpp npp=>?_);have eP:cN (i7 (W.pts.map λx=>(f x.1,x.2)))=i7 (A8 f W).pts:=J5 (V3 nd1);rw[eP];obtain⟨H2,e2,f2,m2,_⟩:=b7 (o:= .dK (i7 (A8 f W).pts)) npp;show R9 _ _ _ (upd HM pp (.dK (i7 (A8 f W).pts))) _;rw[e2];have s2:=sM.trans m2;have W2:=hW.mono s2.le;have U_:=s2 _ _ hq;symm;refine b5 W2.tup (b6 (j:=1) rfl) ?_;refine D6 U_ (λYT o2=>?_);refine k8 (n:=kvs.length) (λi out H'=>Same (E7 q o2 kvs H2) H'/\∃ks2,Paired (PrV K H') out ks2/\TiesIs K H' ks2 ((W.ts.take i).map λx=>(f x.1,(x.2.1,f x.2.2.1,f x.2.2.2)))) ⟨Same.refl _,[],.nil,.nil⟩ (λi out H' hi hp=>⟨hp.1 _ _ d8,hi⟩) ?_ ?_
   .rintro N i v out H3 U' hi ⟨s3,ks2,pr3,ti3⟩ ⟨t,kv,f_,nt,rfl,rfl⟩ hN';obtain⟨H4,e4,f4,m4,_⟩:=b7 (o:= .tup _) nt;rw[e4];have V_:=(L0 (o:=o2) U_).trans (s3.trans m4).le;have d4:=V_.dic (s2.rd hd);obtain⟨x,hx,ex,b,eb,sb⟩:=(W2.ts.mono V_).get f_;have D_:x∈W.ts:=LF hx;have e7:W.ts.take (i+1)=W.ts.take i++[x]:=by rw[Me,hx];rfl
    refine K9 (SqT.of f4) rfl ?_;rw[ex,eb];symm;refine⟨rfl,?_⟩;symm;refine F2 (v:= .str (f x.1)) (by have z':=N0 (k:=Sum.inr x.1) d4;rw[YS x D_] at z';exact z') ?_;symm;refine⟨b,d,x.2,nm,f x.2.2.1,f x.2.2.2,rfl,sb,d4,hf _ (Ls _ (hE x D_).1),hf _ (Ls _ (hE x D_).2),λt5 H5 n5 m5 f5=>?_⟩;symm;refine⟨b9 (by simp),λt6 n6=>?_⟩;obtain⟨H6,e6,f6,m6,_⟩:=b7 (o:= .tup _) n6;rw[e6];have A_:=Mc pr3;have Wa:=ti3.length;rw[Ll,Lz] at Wa;have mA:=m4.trans (m5.trans m6);refine⟨b9 (by lia),hN' _ _ ⟨s3.trans mA,ks2++[((Sum.inr (f x.1):i6),V.ref t5)],r6 (Paired.imp' (λ_ _ z=>PrV.mono mA.le z) pr3) (show PrV K H6 (.ref t6) ((Sum.inr (f x.1):i6),V.ref t5) from⟨t6,rfl,SqT.of f6⟩),?_⟩⟩;rw[e7,Lr];exact r6 (ti3.mono mA.le) ⟨rfl,t5,rfl,SqT.of (m6 _ _ f5)⟩
   .rintro out H3 ⟨s3,ks2,pr3,ti3⟩;have A_:=Mc pr3;have Wa:=ti3.length;rw[Ll,Lz] at Wa;refine⟨⟨s3 _ _ d8,Lp _⟩,λD' hD'=>⟨b9 (by lia),?_⟩⟩;have sN:=J6 U_ s3 hD' (u:= .lst out);have fN:=X0 s3 hD' (u:= .lst out);have leN:=iz (d:=q) (u:= .lst out) hD';have prN:=Paired.imp' (λ_ _ z=>PrV.mono leN z) pr3;have YU:=ti3.mono leN;generalize thaw q (upd H3 D' (.lst out))=HN at sN fN prN YU⊢;rw[Lu (by lia)] at YU;have Uq:(ks2.map (·.1)).Nodup:=by
     rw[YU.keys,←A4];refine PH _ ?_ w_;exact λa b h z=>h (NL z)
    symm;refine E2 (SqL.of fN) prN (b9 (by lia)) (λqq nqq=>?_);rw[J5 Uq];obtain⟨H5,e5,f5,m5,_⟩:=b7 (o:= .dK ks2) nqq;show R9 _ _ _ (upd HN qq (.dK ks2)) _;rw[e5];symm;refine⟨b9 (by simp),λt9 n9=>?_⟩;obtain⟨H9,e9,f9,m9,_⟩:=b7 (o:= .tup _) n9;rw[e9];symm;have sA:=s2.trans (sN.trans (m5.trans m9));have gp:=m9 _ _ (m5 _ _ (sN _ _ f2));have gq:=m9 _ _ f5;refine⟨t9,pp,qq,ks2,A8 f W,rfl,⟨SqT.of f9,.inl gp,.inl gq,YU.mono (m5.trans m9).le⟩,nd1,w_,by unfold A8;rw[Ll];lia,by unfold A8;rw[Ll];lia,λa' p' q' b_ W' H' sH hW' h1 h2 h3 h4 h5 h6 h7=>k a' p' q' b_ W' H' (sA.trans sH) hW' h1 h2 h3 (sA.free h4) (sA.free h5) h6 h7⟩
def ze {H:Hp}{a:Addr}{xs:List V}{R:It->(Hp->Hp)->Hp->Prop}(h:SqT K H a xs)(q:R (Jj K a) id H):xb K (.ref a) H R:= .inl (.inr (.inl ⟨a,rfl,⟨xs,h⟩,q⟩))
def Dh {a:Addr}{xs:List V}{i:Nat}{H H':Hp}{v:V}(h:(Jj K a).yld i H v H')(hx:SqT K H a xs):H'=H/\xs[i]?=some v:=⟨h.1,h.2 xs hx⟩
def PrsAt (K:Za)(H:Hp)(xs:List V)(ps:List (Str×Str)):Prop:=Paired (λv (x:Str×Str)=>∃t,v=V.ref t/\SqT K H t [.str x.1,.str x.2]) xs ps
def PrsAt.mono {H H':Hp}{xs:List V}{ps:List (Str×Str)}(l:Le H H')(h:PrsAt K H xs ps):PrsAt K H' xs ps:=Paired.imp' (λ_ _ ⟨t,e,z⟩=>⟨t,e,l.tup z⟩) h
def pV (x:Str×Str):List V:=[.str x.1,.str x.2]
def Hj (a b:Str×Str):Prop:=¬G8 (pV b)<G8 (pV a)
def yD {a b:Str×Str}(h1:Hj a b)(h2:Hj b a):a=b:=by
 have e:G8 (pV a)=G8 (pV b):=rg h2 h1;have e1:a.1.cps.toList=b.1.cps.toList:=(Mo e).1;have e2:a.2.cps.toList=b.2.cps.toList:=(Mo (Mo e).2).1;exact PR (Q8 e1) (Q8 e2)
theorem oN {α:Type}{r:α->α->Prop}(XY:∀a b,r a b->r b a->a=b):∀{l m:List α},l.Perm m->l.Pairwise r->m.Pairwise r->l=m
 |[],m,p,_,_=>(List.nil_perm.mp p).symm
 |a::l,[],p,_,_=>absurd p.length_eq (by simp)
 |a::l,b::m,p,h1,h2=>by
  have g1:=Na.mp h1;have g2:=Na.mp h2;have e:a=b:=by
   rcases Mi.mp (p.mem_iff.mp Lv) with e|ha
   .exact e
   .rcases Mi.mp (p.mem_iff.mpr (Lv (a:=b))) with e|hb
    .exact e.symm
    .exact XY a b (g1.1 b hb) (g2.1 a ha)
  subst e;rw[oN XY (List.Perm.cons_inv p) g1.2 g2.2]
def yw (a b:N4):bt (Y7 a) (Y7 b)=decide (a=b):=by
 obtain⟨a1,a2,a3⟩:=a;obtain⟨b1,b2,b3⟩:=b;show(a1==b1&&(a2==b2&&(a3==b3&&true)))=_;rw[LQ];simp
def gk (a:N4):(Y7 a).all E3=true:=rfl
def oZ (K:Za):Sp:=λvs H Q _=>∃(a p q:Addr) (kvs:List (i6×V)) (W:x9) (mk:Str),vs=[.ref a,.str mk]/\mk.length<=10/\WebAt K H a p q kvs W/\(b8 W).Nodup/\(b8 W).length<=60/\(∀n∈b8 W,n.length<=100)/\
 ∀(d:Addr) (H':Hp) (ns:List Str),H d=none->Same H H'->ns.Perm (b8 W)->H' d=some (.dK (i7 (ns.map λn=>(n,mk++n))))->Q (.ref d) H'
def mX (ms:List (Str×Str)):(i7 ms).map (·.2)=(ms.map (·.2)).map V.str:=by unfold i7;rw[LH,LH];rfl
def Dq {H:Hp}{xs:List V}{ps:List (Str×Str)}(h:PrsAt K H xs ps):Paired (PrV K H) xs (i7 ps):=by
 unfold PrsAt at h;induction h with
 |nil=>exact .nil
 |cons a t ih=>exact .cons a ih
theorem jn {α β γ:Type}{R:β->γ->Prop}{f:α->β}{g:α->γ}:∀{l:List α},(∀u∈l,R (f u) (g u))->Paired R (l.map f) (l.map g)
 |[],_=> .nil
 |a::l,h=> .cons (h a Lv) (jn λu hu=>h u (Lw _ hu))
def zR {H:Hp}{xs:List V}{ps:List (Str×Str)}(h:PrsAt K H xs ps):∃us:List (Addr×List V),xs=us.map (λu=>V.ref u.1)/\us.map (·.2)=ps.map pV/\∀u∈us,SqT K H u.1 u.2:=by
 unfold PrsAt at h;induction h with
 |nil=>exact⟨[],rfl,rfl,λ_ h=>nomatch h⟩
 | @cons v x _ _ a t ih=>
  obtain⟨us,e1,e2,e3⟩:=ih
  obtain⟨t,rfl,ht⟩:=a
  refine⟨(t,pV x)::us,by rw[e1];rfl,by rw[Ms,e2];rfl,λu hu=>?_⟩
  rcases Mi.mp hu with z|z
  .rw[z];exact ht
  .exact e3 u z
theorem EqN.of0 {H:Hp}{x y:V}{b:Bool}(h:EqN K H 0 x y b):∀n,EqN K H n x y b
 |0=>h
 |n+1=> .inl (EqN.of0 h n)
def rm:List V->Str×Str
 |[.str a,.str b]=>(a,b)
 |_=>("","")
def Dw (x:Str×Str):rm (pV x)=x:=rfl
abbrev tD:=λP w K mg base=>M7 P w K mg base B6 2 "marked" ["web","mark"] [] (oZ K)
def wM {f fd}(T:Txt K mg)(C5:Z2 P w K mg base)(F:Fun K "marked" "marked" mr f fd):u6 P w K mg base B6 2 f fd ["web","mark"] (oZ K):=by
 walk_at "#sc_marked"
 .obtain⟨a,p,q,kvs,W,mk,rfl,_⟩:=h;rfl
 .obtain⟨a,p,q,kvs,W,mk,rfl,hmk,hW,nd,hl,hn,k⟩:=h;walk_at "@sc_marked 8v4jname;1;e3=90c0name,mark;nd70s0100";symm;refine⟨a,p,q,kvs,W,rfl,hW,hl,λl1 H1 s1 s2 n1 m1 f1 or=>?_⟩;have A_:=or.len;have L_:(s1++s2).Nodup:=or.perm.nodup_iff.mpr nd;have m_:∀n∈s1++s2,n.length<=100:=λn hm=>hn n (or.mem.mp hm);have WD:=or.perm;generalize s1++s2=s at f1 A_ L_ m_ WD;refine j7 (SqL.of f1) ?_;refine k8 (n:=s.length) (λi out H'=>Same H1 H'/\Paired (PrV K H') out (i7 ((s.take i).map λn=>(n,mk++n)))) ⟨Same.refl _,.nil⟩ (λi out H' hi hp=>⟨_,.str (s[i]),SqL.of (hp.1 _ _ f1),by rw[Lo,Lm hi];rfl⟩) ?_ ?_
  .rintro N i v out H2' H2 hi ⟨s2',pr⟩ y hN';obtain⟨rfl,hy⟩:=Itl.get y (SqL.of (s2' _ _ f1));rw[Lo,Lm hi] at hy;cases hy;have XX:=m_ _ (LM hi);have z_:=Mc pr;rw[j5,Ll,Lz] at z_;symm;refine⟨rfl,?_⟩;symm;refine U0 (b9 (by lia)) ?_;symm;refine⟨b9 (by simp),λl3 n3=>?_⟩;obtain⟨H3,e3,f3,m3,_⟩:=b7 (o:= .tup _) n3;rw[e3];refine⟨b9 (by lia),hN' _ _ ⟨s2'.trans m3,?_⟩⟩;rw[Me,Lm hi,Lr];unfold i7 at pr⊢;rw[Lr];exact r6 (Paired.imp' (λ_ _ z=>PrV.mono m3.le z) pr) ⟨l3,rfl,SqT.of f3⟩
  .rintro out H2 ⟨s2',pr⟩;have z_:=Mc pr;rw[j5,Ll,Lz] at z_;rw[Lu (Lp _)] at pr;refine⟨⟨_,SqL.of (s2' _ _ f1),by rw[Ll];exact Lp _⟩,λD hD=>⟨b9 (by lia),?_⟩⟩;obtain⟨H3,e3,f3,m3,_⟩:=b7 (H:=H2) (o:= .lst out) hD;symm;change iI K _ (upd H2 D _) _;rw[e3];refine E2 (SqL.of f3) (Paired.imp' (λ_ _ z=>PrV.mono m3.le z) pr) (b9 (by rw[j5,Ll];lia)) (λd w_=>?_);have Uq:((s.map λn=>(n,mk++n)).map (·.1)).Nodup:=by
    rw[LH,show((·.1)∘λn:Str=>(n,mk++n))=id from rfl,ON];exact L_
   rw[J5 (V3 Uq)];obtain⟨H4,e4,f4,m4,_⟩:=b7 (o:= .dK (i7 (s.map λn=>(n,mk++n)))) w_;rw[e4];exact k d H4 s (m1.free (s2'.free (m3.free w_))) (m1.trans (s2'.trans (m3.trans m4))) WD f4
def dQ {kvs:List (i6×V)}{k:i6}{v:V}(h:k∈kvs.map (·.1)):G3 kvs k v=kvs.map (λkv=>if kv.1=k then(kv.1,v) else kv):=by
 unfold G3;rw[if_pos];obtain⟨x,hx,e⟩:=Ln.mp h;exact Nr.mpr ⟨x,hx,by simpa using e⟩
theorem sh {α:Type}{f:α->α}:∀{l:List α},(∀x∈l,f x=x)->l.map f=l
 |[],_=>rfl
 |a::l,h=>by rw[Ms,h a Lv,sh λx hx=>h x (Lw _ hx)]
def IP {A:List (Str×Str)}{n s:Str}(nd:(A.map (·.1)).Nodup)(hc:∀s',(n,s')∈A->s'=s):∃C:List (Str×Str),G3 (i7 A) (Sum.inr n:i6) (.str s)=i7 C/\(C.map (·.1)).Nodup/\(∀x,x∈C↔x∈A\/x=(n,s))/\C.length<=A.length+1:=by
 by_cases h:n∈A.map (·.1)
 .obtain⟨y,hy,ey⟩:=Ln.mp h;have TH:(n,s)∈A:=by
   have e:y.2=s:=hc y.2 (by rw[←ey];exact hy);rw[←e,←ey];exact hy
  refine⟨A,?_,nd,λx=>⟨.inl,λz=>z.elim id λe=>by rw[e];exact TH⟩,NR _⟩;rw[dQ (by rw[D5];exact Ln.mpr ⟨y,hy,by rw[ey]⟩)];refine sh λkv f_=>?_;obtain⟨x,hx,rfl⟩:=Ln.mp f_;by_cases e:x.1=n
  .rw[if_pos (by rw[e]),hc x.2 (by rw[←e];exact hx)]
  .rw[if_neg λz=>e (NL z)]
 .refine⟨A++[(n,s)],dJ h,?_,λx=>by simp,by simp⟩;rw[Lr];exact Q6 nd h
theorem su:∀{B A:List (Str×Str)},(A.map (·.1)).Nodup->(B.map (·.1)).Nodup->(∀n s s',(n,s)∈A->(n,s')∈B->s=s')->∃C:List (Str×Str),Q7 (i7 A) (i7 B)=i7 C/\(C.map (·.1)).Nodup/\(∀x,x∈C↔x∈A\/x∈B)/\C.length<=A.length+B.length
 |[],A,nd,_,_=>⟨A,rfl,nd,λx=>by simp,Lp _⟩
 |b::B,A,nd,w_,hc=>by
  have SD:=MP.mp (show(b.1::B.map (·.1)).Nodup from w_);obtain⟨C,e1,n1,m1,l1⟩:=IP (A:=A) (n:=b.1) (s:=b.2) nd λs' h=>hc b.1 s' b.2 h Lv;obtain⟨D,e2,n2,m2,l2⟩:=su (B:=B) (A:=C) n1 SD.2 λn s s' h h'=>by
   rcases(m1 _).mp h with z|z
   .exact hc n s s' z (Lw _ h')
   .cases z;exact absurd (Ln.mpr ⟨_,h',rfl⟩) SD.1
  refine⟨D,?_,n2,λx=>?_,by rw[Mv];lia⟩
  .show Q7 (G3 (i7 A) (Sum.inr b.1:i6) (.str b.2)) (i7 B)=_;rw[e1,e2]
  .rw[m2,m1,Mi,Wx]
def DR {H:Hp}{kA:List (i6×V)}{A:List (Str×N4)}{b:Str×N4}{l:Addr}(h:TiesIs K H kA A)(nd:(A.map (·.1)).Nodup)(hc:∀s,(b.1,s)∈A->s=b.2)(hl:SqT K H l (Y7 b.2)):∃C:List (Str×N4),TiesIs K H (G3 kA (Sum.inr b.1:i6) (.ref l)) C/\(C.map (·.1)).Nodup/\(∀x,x∈C↔x∈A\/x=b)/\C.length<=A.length+1:=by
 by_cases hm:b.1∈A.map (·.1)
 .obtain⟨y,hy,ey⟩:=Ln.mp hm;have hyb:b∈A:=by
   have e:y.2=b.2:=hc y.2 (by rw[←ey];exact hy);rw[show b=y from PR ey.symm e.symm];exact hy
  refine⟨A,?_,nd,λx=>⟨.inl,λz=>z.elim id λe=>by rw[e];exact hyb⟩,NR _⟩;rw[dQ (by rw[h.keys];exact Ln.mpr ⟨y,hy,by rw[ey]⟩)];have gen:∀{kX:List (i6×V)} {X:List (Str×N4)},TiesIs K H kX X->(∀x∈X,x.1=b.1->x.2=b.2)->TiesIs K H (kX.map λkv=>if kv.1=(Sum.inr b.1:i6) then(kv.1,.ref l) else kv) X:=by
   intro kX X hX;induction hX with
   |nil=>intro _;exact .nil
   | @cons kv x _ _ zz rr ih=>
    intro hq
    refine .cons ?_ (ih λx hx=>hq x (Lw _ hx))
    show TieAt K H (if kv.1=(Sum.inr b.1:i6) then(kv.1,.ref l) else kv) x
    by_cases e:x.1=b.1
    .rw[if_pos (by rw[zz.1,e])]
     exact⟨zz.1,l,rfl,by rw[hq x Lv e];exact hl⟩
    .rw[if_neg (by rw[zz.1];exact λy=>e (NL y))]
     exact zz
  exact gen h λx hx e=>hc x.2 (by rw[←e];exact hx)
 .refine⟨A++[b],?_,?_,λx=>by simp,by simp⟩
  .rw[P8 _ (F8 (by rw[h.keys,←A4];exact λm=>hm (V7 m)))];exact r6 h ⟨rfl,l,rfl,hl⟩
  .rw[Lr];exact Q6 nd hm
theorem wj {H:Hp}:∀{kB:List (i6×V)} {B:List (Str×N4)} {kA:List (i6×V)} {A:List (Str×N4)},TiesIs K H kA A->TiesIs K H kB B->(A.map (·.1)).Nodup->(B.map (·.1)).Nodup->(∀n s s',(n,s)∈A->(n,s')∈B->s=s')->∃C:List (Str×N4),TiesIs K H (Q7 kA kB) C/\(C.map (·.1)).Nodup/\(∀x,x∈C↔x∈A\/x∈B)/\C.length<=A.length+B.length
 |_,_,kA,A,h,.nil,nd,_,_=>⟨A,h,nd,λx=>by simp,Lp _⟩
 |kv::kB,b::B,kA,A,h,.cons z r,nd,w_,hc=>by
  have SD:=MP.mp (show(b.1::B.map (·.1)).Nodup from w_);obtain⟨kk,Ur⟩:=kv;obtain⟨ek,l,el,hl⟩:=z;have Xx:kk=Sum.inr b.1:=ek;have el':Ur= .ref l:=el;subst Xx el';obtain⟨C,t1,n1,m1,l1⟩:=DR h nd (λs hs=>hc b.1 s b.2 hs Lv) hl;obtain⟨D,t2,n2,m2,l2⟩:=wj t1 r n1 SD.2 λn s s' h h'=>by
   rcases(m1 _).mp h with z|z
   .exact hc n s s' z (Lw _ h')
   .have e:n=b.1:=by rw[←z]
    exact absurd (Ln.mpr ⟨_,h',e⟩) SD.1
  refine⟨D,t2,n2,λx=>?_,by rw[Mv];lia⟩;rw[m2,m1,Mi,Wx]
def NewP.mono {H H1:Hp}{Q:VK}{W:x9}(s:Same H H1)(k:NewP K H Q W):NewP K H1 Q W:=λa p q kvs W' H' s' h1 h2 h3 h4 h5 h6 h7 h8=>k a p q kvs W' H' (s.trans s') h1 h2 h3 h4 (s.free h5) (s.free h6) h7 h8
def JX (K:Za)(H:Hp)(Q:VK)(X Y:x9):Prop:=∀(a p q:Addr) (kvs:List (i6×V)) (Z:x9) (H':Hp),Same H H'->WebAt K H' a p q kvs Z->H' p=some (.dK (i7 Z.pts))->H' q=some (.dK kvs)->p≠q->H p=none->H q=none->(Z.pts.map (·.1)).Nodup->(Z.ts.map (·.1)).Nodup->(∀x,x∈Z.pts↔x∈X.pts\/x∈Y.pts)->(∀x,x∈Z.ts↔x∈X.ts\/x∈Y.ts)->Z.pts.length<=X.pts.length+Y.pts.length->Z.ts.length<=X.ts.length+Y.ts.length->Q (.ref a) H'
structure sY (X Y:x9):Prop where
 x1:(X.pts.map (·.1)).Nodup
 x2:(X.ts.map (·.1)).Nodup
 y1:(Y.pts.map (·.1)).Nodup
 y2:(Y.ts.map (·.1)).Nodup
 cp:∀n s s',(n,s)∈X.pts->(n,s')∈Y.pts->s=s'
 ct:∀n s s',(n,s)∈X.ts->(n,s')∈Y.ts->s=s'
 l1:X.pts.length+Y.pts.length<=60
 l2:X.ts.length+Y.ts.length<=60
def oH (K:Za):Sp:=λvs H Q _=>∃(a p q b p2 q2:Addr) (kvs K':List (i6×V)) (X Y:x9),vs=[.ref a,.ref b]/\WebAt K H a p q kvs X/\WebAt K H b p2 q2 K' Y/\sY X Y/\JX K H Q X Y
abbrev kY:=λP w K mg base=>M7 P w K mg base B6 3 "united" ["web","more"] [] (oH K)
def xF {f fd}(T:Txt K mg)(F4:dw P w K mg base)(F:Fun K "united" "united" lD f fd):u6 P w K mg base B6 3 f fd ["web","more"] (oH K):=by
 walk_at "#sc_united"
 .obtain⟨a,p,q,b,p2,q2,kvs,K',X,Y,rfl,_⟩:=h;rfl
 .obtain⟨a,p,q,b,p2,q2,kvs,K',X,Y,rfl,hX,hY,ag,k⟩:=h;have g1:=ag.l1;have g2:=ag.l2;have UZ:=hX.ts.length;have hkl2:=hY.ts.length;walk_at "@sc_united 252v4102NQ'0MX '0Oj '0Ph '0X1 02411253v4102NQ'0MX '0Oj '0Ph '0X1 0341183<4d7203"
  symm;refine b5 hX.tup (b6 (j:=0) rfl) ?_;symm;refine U1 hX.pts (λpp npp=>?_);obtain⟨H1,e1,f1,m1,_⟩:=b7 (o:= .dK _) npp;rw[e1];have Y1:=hY.mono m1.le;symm;refine⟨.inr (.inr (.inl ⟨rfl,.inl ⟨_,f1⟩⟩)),?_⟩;symm;refine b5 Y1.tup (b6 (j:=0) rfl) ?_;symm;have nep:pp≠p2:=λz=>by
   have z2:=hY.pts;rw[←z] at z2;rcases z2 with z2|⟨_,z2⟩<;>(rw[npp] at z2;cases z2)
  refine⟨pp,p2,i7 X.pts,i7 Y.pts,rfl,rfl,f1,Y1.pts,nep,by rw[j5,j5];lia,?_⟩;obtain⟨zp,ez,nz,mz,lz⟩:=su ag.x1 ag.y1 ag.cp;rw[ez];have s2:Same H (upd H1 pp (.dK (i7 zp))):=M3 m1 npp;have f2:(upd H1 pp (.dK (i7 zp))) pp=some (.dK (i7 zp)):=d8;generalize upd H1 pp (.dK (i7 zp))=H2 at s2 f2⊢;have X2:=hX.mono s2.le;symm;refine b5 X2.tup (b6 (j:=1) rfl) ?_;symm;refine U1 X2.ties (λqq nqq=>?_);obtain⟨H3,e3,f3,m3,_⟩:=b7 (o:= .dK _) nqq;rw[e3];have s3:=s2.trans m3;have Y3:=hY.mono s3.le;have Y2:=hY.mono s2.le;symm;refine⟨.inr (.inr (.inl ⟨rfl,.inl ⟨_,f3⟩⟩)),?_⟩;symm;refine b5 Y3.tup (b6 (j:=1) rfl) ?_;symm;have neq:qq≠q2:=λz=>by
   have z2:=Y2.ties;rw[←z] at z2;rcases z2 with z2|⟨_,z2⟩<;>(rw[nqq] at z2;cases z2)
  refine⟨qq,q2,kvs,K',rfl,rfl,f3,Y3.ties,neq,by lia,?_⟩;obtain⟨zt,tz,WE,XZ,X'⟩:=wj (hX.mono s3.le).ts Y3.ts ag.x2 ag.y2 ag.ct;have s4:Same H2 (upd H3 qq (.dK (Q7 kvs K'))):=M3 m3 nqq;have f4:(upd H3 qq (.dK (Q7 kvs K'))) qq=some (.dK (Q7 kvs K')):=d8;have t4:TiesIs K (upd H3 qq (.dK (Q7 kvs K'))) (Q7 kvs K') zt:=dz f3 tz;generalize upd H3 qq (.dK (Q7 kvs K'))=H4 at s4 f4 t4⊢;symm;refine⟨b9 (by simp),λt9 n9=>?_⟩;obtain⟨H9,e9,f9,m9,_⟩:=b7 (o:= .tup _) n9;rw[e9];symm;have s9:=s2.trans (s4.trans m9);refine⟨t9,pp,qq,_,⟨zp,zt⟩,rfl,⟨SqT.of f9,.inl (m9 _ _ (s4 _ _ f2)),.inl (m9 _ _ f4),t4.mono m9.le⟩,nz,WE,Mh lz g1,Mh X' g2,λa' p' q' b_ Z H' s' w1 w2 w3 w4 w5 w6 w7 w8=>?_⟩;have w7':Z.pts.Perm zp:=w7;have w8':Z.ts.Perm zt:=w8;refine k a' p' q' b_ Z H' (s9.trans s') w1 w2 w3 w4 (s9.free w5) (s9.free w6) ((w7'.map _).nodup_iff.mpr nz) ((w8'.map _).nodup_iff.mpr WE) (λx=>by rw[w7'.mem_iff,mz]) (λx=>by rw[w8'.mem_iff,XZ]) (by rw[w7'.length_eq];exact lz) (by rw[w8'.length_eq];exact X')
def gO (ps:List (Str×Str))(n:Str):V:=(A5 (i7 ps) (Sum.inr n:i6)).getD .non
def Ih {ps:List (Str×Str)}{n s:Str}(nd:(ps.map (·.1)).Nodup)(h:(n,s)∈ps):gO ps n= .str s:=by
 unfold gO;rw[O1 nd h];rfl
def CN {ps:List (Str×Str)}{n:Str}(h:n∉ps.map (·.1)):A5 (i7 ps) (Sum.inr n:i6)=none:=F8 (by rw[D5,←A4];exact λm=>h (V7 m))
def EW {ps:List (Str×Str)}{n:Str}(h:n∉ps.map (·.1)):gO ps n= .non:=by
 unfold gO;rw[CN h];rfl
def wt (ps:List (Str×Str))(n:Str):E3 (gO ps n)=true:=by
 unfold gO;cases e:A5 (i7 ps) (Sum.inr n:i6) with
 |none=>rfl
 |some v=>
  obtain⟨k,rfl,_⟩:=qR e
  rfl
def DQ {ps:List (Str×Str)}(nd:(ps.map (·.1)).Nodup)(s n:Str):dq (.str s) (gO ps n)=true↔(n,s)∈ps:=by
 by_cases h:n∈ps.map (·.1)
 .obtain⟨⟨y1,y2⟩,hy,rfl⟩:=Ln.mp h;rw[Ih nd hy];show(s==y2)=true↔_;rw[Pd];exact⟨λe=>e▸hy,λz=>j6 nd z hy⟩
 .rw[EW h];exact⟨λz=>(nomatch z),λz=>absurd (Ln.mpr ⟨_,z,rfl⟩) h⟩
def qH (ps:List (Str×Str))(x:N4):List V:=[.str x.1,gO ps x.2.1,gO ps x.2.2]
def oF (ps:List (Str×Str))(x:N4):(qH ps x).all E3=true:=by
 show(true&&(E3 (gO ps x.2.1)&&(E3 (gO ps x.2.2)&&true)))=true;rw[wt,wt];rfl
def pS {ps:List (Str×Str)}(nd:(ps.map (·.1)).Nodup)(z x:N4):bt (Y7 z) (qH ps x)=true↔z.1=x.1/\(x.2.1,z.2.1)∈ps/\(x.2.2,z.2.2)∈ps:=by
 show((z.1==x.1)&&(dq (.str z.2.1) (gO ps x.2.1)&&(dq (.str z.2.2) (gO ps x.2.2)&&true)))=true↔_;rw[Ox,Mg,Mg,DQ nd,DQ nd,Pd]
def WP (P R:x9)(ps:List (Str×Str))(x:Str×Str):Prop:=(∃kd,(x.1,kd)∈P.pts/\(x.2,kd)∈R.pts)\/∃(t:N4) (s e:Str),(x.1,t)∈P.ts/\(t.2.1,s)∈ps/\(t.2.2,e)∈ps/\(x.2,(t.1,s,e))∈R.ts
def WP.mono {P R:x9}{ps qs:List (Str×Str)}{x:Str×Str}(h:WP P R ps x)(s:∀y∈ps,y∈qs):WP P R qs x:=h.imp id fun⟨t,a,e,h1,h2,h3,h4⟩=>⟨t,a,e,h1,s _ h2,s _ h3,h4⟩
def mem_nms {W:x9}{n:Str}:n∈b8 W↔(∃k,(n,k)∈W.pts)\/∃t,(n,t)∈W.ts:=by
 unfold b8;rw[LC];constructor
 .rintro(h|h)
  .obtain⟨x,hx,rfl⟩:=Ln.mp h;exact .inl ⟨x.2,hx⟩
  .obtain⟨x,hx,rfl⟩:=Ln.mp h;exact .inr ⟨x.2,hx⟩
 .rintro(⟨k,h⟩|⟨t,h⟩)
  .exact .inl (Ln.mpr ⟨_,h,rfl⟩)
  .exact .inr (Ln.mpr ⟨_,h,rfl⟩)
def Y5 {W:x9}(nd:(b8 W).Nodup){n k:Str}{t:N4}(h:(n,k)∈W.pts)(h':(n,t)∈W.ts):False:=(LU.mp nd).2.2 n (Ln.mpr ⟨_,h,rfl⟩) n (Ln.mpr ⟨_,h',rfl⟩) rfl
section
variable {P0 R:x9} {ps:List (Str×Str)} {n t:Str}
def vM (nd:(b8 P0).Nodup){k:Str}(hk:(n,k)∈P0.pts):WP P0 R ps (n,t)↔(t,k)∈R.pts:=by
 constructor
 .rintro(⟨kd,h1,h2⟩|⟨y,s,e,h1,_⟩)
  .rw[j6 (E9 nd) hk h1];exact h2
  .exact(Y5 nd hk h1).elim
 .exact λh=> .inl ⟨k,hk,h⟩
def wc (nd:(b8 P0).Nodup){y:N4}(hy:(n,y)∈P0.ts):WP P0 R ps (n,t)↔∃s e,(y.2.1,s)∈ps/\(y.2.2,e)∈ps/\(t,(y.1,s,e))∈R.ts:=by
 constructor
 .rintro(⟨kd,h1,h2⟩|⟨y',s,e,h1,h2,h3,h4⟩)
  .exact(Y5 nd h1 hy).elim
  .have z:y'=y:=j6 (N7 nd) h1 hy;subst z;exact⟨s,e,h2,h3,h4⟩
 .rintro⟨s,e,h2,h3,h4⟩;exact .inr ⟨y,s,e,hy,h2,h3,h4⟩
def WP.inP (h:WP P0 R ps (n,t)):n∈b8 P0:=by
 rcases h with⟨kd,h1,h2⟩|⟨y,s,e,h1,_⟩
 .exact mem_nms.mpr (.inl ⟨_,h1⟩)
 .exact mem_nms.mpr (.inr ⟨_,h1⟩)
def WP.inR (h:WP P0 R ps (n,t)):t∈b8 R:=by
 rcases h with⟨kd,h1,h2⟩|⟨y,s,e,_,_,_,h1⟩
 .exact mem_nms.mpr (.inl ⟨_,h2⟩)
 .exact mem_nms.mpr (.inr ⟨_,h1⟩)
def IG {H:Hp}{Q:VK}{k:Str}(ndP:(b8 P0).Nodup)(ndR:(b8 R).Nodup)(hk:(n,k)∈P0.pts)(q:∀b,(b=true↔WP P0 R ps (n,t))->Q (.bl b) H):gB K ((A5 (i7 R.pts) (Sum.inr t:i6)).getD .non) (.str k) H Q:=by
 cases e:A5 (i7 R.pts) (Sum.inr t:i6) with
 |none=>
  refine qv (.inl ⟨rfl,?_⟩)
  rw[show decide ((none:Option V).getD V.non=V.str k)=false by simp]
  refine q false ⟨λz=>(nomatch z),λz=>?_⟩
  rw[O1 (E9 ndR) ((vM ndP hk).mp z)] at e
  cases e
 |some v=>
  obtain⟨k',rfl,hk'⟩:=qR e
  refine gG (q _ ?_)
  rw[vM ndP hk,SU]
  exact⟨λz=>z▸hk',λz=>j6 (E9 ndR) hk' z⟩
def IS {H:Hp}{Q:VK}{y:N4}{b_:List (i6×V)}{l:Addr}(ndP:(b8 P0).Nodup)(ndR:(b8 R).Nodup)(nk:(ps.map (·.1)).Nodup)(hR:TiesIs K H b_ R.ts)(hy:(n,y)∈P0.ts)(hl:SqT K H l (qH ps y))(q:∀b,(b=true↔WP P0 R ps (n,t))->Q (.bl b) H):gB K ((A5 b_ (Sum.inr t:i6)).getD .non) (.ref l) H Q:=by
 by_cases ht:t∈R.ts.map (·.1)
 .obtain⟨bb,z,h1,h2,h3⟩:=TiesIs.val (ts:=R.ts) hR ht;rw[h1];refine qv (ko h3 hl (gk _) (oF _ _) (q _ ?_));rw[pS nk,wc ndP hy];constructor
  .rintro⟨e1,e2,e3⟩;refine⟨_,_,e2,e3,?_⟩;rw[←e1];exact h2
  .rintro⟨s,e,e2,e3,e4⟩;have z':=j6 (N7 ndR) h2 e4;rw[z'];exact⟨rfl,e2,e3⟩
 .have e:A5 b_ (Sum.inr t:i6)=none:=by
   cases e:A5 b_ (Sum.inr t:i6) with
   |none=>rfl
   |some v=>
    have z:=U7 (n:=t) hR
    rw[e,LL ht] at z
    cases z
  rw[e];refine qv (.inr (.inr (.inl (.inr ⟨l,_,rfl,rfl,hl,q false ⟨λz=>(nomatch z),λz=>?_⟩⟩))));obtain⟨s,e',_,_,h4⟩:=(wc ndP hy).mp z;exact absurd (Ln.mpr ⟨_,h4,rfl⟩) ht
end
def eM (K:Za):Sp:=λvs H Q _=>∃(t d:Addr) (x:N4) (ps:List (Str×Str)),vs=[.ref t,.ref d]/\SqT K H t (Y7 x)/\Rd H d (.dK (i7 ps))/\∀(l:Addr) (H':Hp),H l=none->Same H H'->H' l=some (.tup (qH ps x))->Q (.ref l) H'
abbrev bW:=λP w K mg base=>M7 P w K mg base B6 1 "tie_paired" ["tie","paired"] [] (eM K)
def oj {f fd}(T:Txt K mg)(F:Fun K "tie_paired" "tie_paired" bO f fd):u6 P w K mg base B6 1 f fd ["tie","paired"] (eM K):=by
 walk_at "#sc_tie_paired"
 .obtain⟨t,d,x,ps,rfl,_⟩:=h;rfl
 .obtain⟨t,d,⟨x1,x2,x3⟩,ps,rfl,hT,hD,k⟩:=h;walk_at "@sc_tie_paired 8dh10aV0110V0110";symm;refine b5 hT (b6 (j:=0) rfl) ?_;symm;refine⟨d,rfl,.inl ⟨_,hD⟩,?_⟩;symm;refine b5 hT (b6 (j:=1) rfl) ?_;refine⟨_,N0 (k:=Sum.inr x2) hD,?_⟩;symm;refine⟨d,rfl,.inl ⟨_,hD⟩,?_⟩;symm;refine b5 hT (b6 (j:=2) rfl) ?_;refine⟨_,N0 (k:=Sum.inr x3) hD,?_⟩;symm;refine⟨b9 (by simp),λl9 n9=>?_⟩;obtain⟨H9,e9,f9,m9,_⟩:=b7 (o:= .tup (qH ps (x1,x2,x3))) n9;change Q _ (upd H l9 (.tup (qH ps (x1,x2,x3))));rw[e9];exact k l9 H9 n9 m9 f9
def PairB (K:Za)(H:Hp)(v:V)(b:Bool):Prop:=(b=true/\∃(t:Addr) (n m:Str),v= .ref t/\SqT K H t [.str n,.str m])\/(b=false/\∃t,TyB K H v t/\cg t "tuple"=false)
def kJ (K:Za):Sp:=λvs H Q _=>∃v b,vs=[v]/\PairB K H v b/\∀H',Same H H'->Q (.bl b) H'
abbrev oE:=λP w K mg base=>M7 P w K mg base B6 1 "is_pair" ["thing"] [] (kJ K)
def uZ {f fd}(T:Txt K mg)(F:Fun K "is_pair" "is_pair" iM f fd):u6 P w K mg base B6 1 f fd ["thing"] (kJ K):=by
 walk_at "#sc_is_pair"
 .obtain⟨v,b,rfl,_⟩:=h;rfl
 .obtain⟨v,b,rfl,hb,k⟩:=h;walk_at "@sc_is_pair 8'2De tZYX70W~j'0T.b_tuple '0Boot.«tuple» '2De FBl906g'1Cp t&%#4jname;;e00c0name;ntZYX70W~8~7~6";symm;rcases hb with⟨rfl,t,n,m,rfl,hT⟩|⟨rfl,t,hv,hn⟩
  .refine cu (cm (t:="tuple") (.inr (.inl ⟨rfl,_,hT⟩)) (by simp) ?_);rw[show cg "tuple" "tuple"=true from rfl];symm;refine E8 (xZ hT ?_);symm;rw[if_pos (by rfl)];symm;refine ze hT ?_;refine k8 (n:=2) (λi out H'=>H'=H/\out=List.replicate i (V.bl true)) ⟨rfl,rfl⟩ (λi out H' hi hp=>⟨_,[V.str n,.str m][i],by rw[hp.1];exact hT,Lm hi⟩) ?_ ?_
   .rintro N i v out H1' H1 hi ⟨rfl,rfl⟩ yy hN';obtain⟨rfl,TH⟩:=Dh yy hT;obtain⟨x,rfl⟩:∃x,v= .str x:=by
     match i,hi,TH with
     |0,_,TH=>cases TH;exact⟨n,rfl⟩
     |1,_,TH=>cases TH;exact⟨m,rfl⟩
    symm;refine⟨rfl,?_⟩;symm;refine cu (cm (t:="str") rfl (by simp) ?_);rw[show cg "str" "str"=true from rfl];refine⟨b9 (by rw[Nb];lia),hN' _ _ ⟨rfl,?_⟩⟩;rw[Qk]
   .rintro out H1 ⟨rfl,rfl⟩;refine⟨⟨_,hT,Lp _⟩,λD hD=>⟨b9 (by simp),?_⟩⟩;obtain⟨H2,e2,f2,m2,_⟩:=b7 (H:=H1) (o:= .lst (List.replicate 2 (V.bl true))) hD;symm;change tT K _ (upd H1 D _) _;rw[e2];refine jq (bs:=[true,true]) (SqL.of f2) ?_;exact k H2 m2
  .refine cu (cm hv (by simp) ?_);rw[hn];symm;exact k H (Same.refl H)
def aC (K:Za):Sp:=λvs H Q _=>∃(a p q a' p' q' d:Addr) (kvs b_:List (i6×V)) (P R:x9) (ps:List (Str×Str)) (x:Str×Str),vs=[.ref a,.ref a',.ref d,.str x.1]/\WebAt K H a p q kvs P/\(b8 P).Nodup/\WebAt K H a' p' q' b_ R/\(b8 R).Nodup/\Rd H d (.dK (i7 ps))/\(ps.map (·.1)).Nodup/\x∈ps/\∀H' b,Same H H'->(b=true↔WP P R ps x)->Q (.bl b) H'
abbrev bq:=λP w K mg base=>M7 P w K mg base B6 2 "is_well_paired" ["piece","other","paired","name"] [] (aC K)
def gn {f fd}(T:Txt K mg)(M9:bW P w K mg base)(F:Fun K "is_well_paired" "is_well_paired" U8 f fd):u6 P w K mg base B6 2 f fd ["piece","other","paired","name"] (aC K):=by
 walk_at "#sc_is_well_paired"
 .obtain⟨a,p,q,a',p',q',d,kvs,b_,P0,R,ps,x,rfl,_⟩:=h;rfl
 .obtain⟨a,p,q,a',p',q',d,kvs,b_,P0,R,ps,⟨n,t⟩,rfl,hP,ndP,hR,ndR,hd,nk,hx,k⟩:=h;have tx:TxtAt (i7 ps) n:=⟨t,O1 nk hx⟩
  have gx:j8 (i7 ps) n=t:=lX nk hx;walk_at "@sc_is_well_paired 2ibD0310q8FBV11f203C1003g2ibD0310q8FBV11f2033'0M9 aC100302gz"
  symm;refine b5 hP.tup (b6 (j:=0) rfl) ?_;refine W5 (N0 (k:=Sum.inr n) hP.pts) ?_;rw[O4];symm;refine F9 (λb1=>?_) (λb1=>?_)
  .obtain⟨⟨y1,y2⟩,hy,ey⟩:=Ln.mp b1;have ey':y1=n:=ey;subst ey';symm;refine b5 hR.tup (b6 (j:=0) rfl) ?_;refine⟨p',rfl,.inl ⟨_,hR.pts⟩,?_⟩;symm;refine rO hd tx ?_;rw[gx];refine⟨_,N0 (k:=Sum.inr t) hR.pts,?_⟩;symm;refine b5 hP.tup (b6 (j:=0) rfl) ?_;symm;refine F2 (v:= .str y2) (by have z:=N0 (k:=Sum.inr y1) hP.pts;rw[O1 (E9 ndP) hy] at z;exact z) ?_;exact IG ndP ndR hy λb hb=>k H b (Same.refl H) hb
  .symm;refine b5 hP.tup (b6 (j:=1) rfl) ?_;refine W5 (N0 (k:=Sum.inr n) hP.ties) ?_;rw[U7 hP.ts];symm;refine F9 (λb2=>?_) (λb2=>?_)
   .obtain⟨aa,y,g1,g2,g3⟩:=TiesIs.val (ts:=P0.ts) hP.ts b2;symm;refine b5 hR.tup (b6 (j:=1) rfl) ?_;refine⟨q',rfl,.inl ⟨_,hR.ties⟩,?_⟩;symm;refine rO hd tx ?_;rw[gx];refine⟨_,N0 (k:=Sum.inr t) hR.ties,?_⟩;symm;refine b5 hP.tup (b6 (j:=1) rfl) ?_;symm;refine F2 (v:= .ref aa) (by have z:=N0 (k:=Sum.inr n) hP.ties;rw[g1] at z;exact z) ?_;symm;refine⟨aa,d,y,ps,rfl,g3,hd,λl H1 n1 m1 f1=>?_⟩;exact IS ndP ndR nk (hR.mono m1.le).ts g2 (SqT.of f1) λb hb=>k H1 b m1 hb
   .symm;refine k H false (Same.refl H) ⟨λz=>(nomatch z),λz=>?_⟩;exact((LC.mp (show n∈P0.pts.map (·.1)++P0.ts.map (·.1) from z.inP)).elim b1 b2).elim
def TyB.same {H H':Hp}{v:V}{t:String}(s:Same H H')(h:TyB K H v t):TyB K H' v t:=by
 cases v with
 |ref a=>
  rcases h with⟨e,xs,z⟩|⟨e,xs,z⟩|⟨e,xs,z⟩
  .exact .inl ⟨e,xs,s.seq z⟩
  .exact .inr (.inl ⟨e,xs,s.tup z⟩)
  .exact .inr (.inr ⟨e,xs,s.rd z⟩)
 |_=>exact h
def PairB.same {H H':Hp}{v:V}{b:Bool}(s:Same H H')(h:PairB K H v b):PairB K H' v b:=by
 rcases h with⟨e,t,n,m,e2,z⟩|⟨e,t,z,w⟩
 .exact .inl ⟨e,t,n,m,e2,s.tup z⟩
 .exact .inr ⟨e,t,TyB.same s z,w⟩
structure uP (P R:x9) (ps:List (Str×Str)):Prop where
 nk:(ps.map (·.1)).Nodup
 nv:(ps.map (·.2)).Nodup
 so:ps.Pairwise Hj
 wp:∀x∈ps,WP P R ps x
def BadV (K:Za)(H:Hp)(P R:x9)(v:V):Prop:=(∃t,TyB K H v t/\t≠"list")\/∃l xs,v= .ref l/\H l=some (.lst xs)/\xs.length<=30/\((∃bs,Paired (PairB K H) xs bs/\false∈bs)\/∃ps,PrsAt K H xs ps/\¬uP P R ps)
def GoodV (K:Za)(H:Hp)(P R:x9)(v:V)(ps:List (Str×Str)):Prop:=∃l xs,v= .ref l/\H l=some (.lst xs)/\xs.length<=30/\PrsAt K H xs ps/\uP P R ps
def BadV.same {H H':Hp}{P R:x9}{v:V}(s:Same H H')(h:BadV K H P R v):BadV K H' P R v:=by
 rcases h with⟨t,h1,h2⟩|⟨l,xs,h1,h2,h3,⟨bs,h4,h5⟩|⟨ps,h4,h5⟩⟩
 .exact .inl ⟨t,TyB.same s h1,h2⟩
 .exact .inr ⟨l,xs,h1,s _ _ h2,h3,.inl ⟨bs,Paired.imp' (λ_ _ z=>PairB.same s z) h4,h5⟩⟩
 .exact .inr ⟨l,xs,h1,s _ _ h2,h3,.inr ⟨ps,h4.mono s.le,h5⟩⟩
def GoodV.same {H H':Hp}{P R:x9}{v:V}{ps:List (Str×Str)}(s:Same H H')(h:GoodV K H P R v ps):GoodV K H' P R v ps:=by
 obtain⟨l,xs,h1,h2,h3,h4,h5⟩:=h;exact⟨l,xs,h1,s _ _ h2,h3,h4.mono s.le,h5⟩
def eW (K:Za):Sp:=λvs H Q _=>∃(a p q a' p' q':Addr) (kvs b_:List (i6×V)) (P R:x9) (v:V) (b:Bool),vs=[.ref a,.ref a',v]/\WebAt K H a p q kvs P/\(b8 P).Nodup/\WebAt K H a' p' q' b_ R/\(b8 R).Nodup/\((b=false/\BadV K H P R v)\/(b=true/\∃ps,GoodV K H P R v ps))/\∀H',Same H H'->Q (.bl b) H'
def zL {α:Type}[DecidableEq α]:∀{l m:List α},l.Nodup->(∀x∈l,x∈m)->m.length<=l.length->l.Perm m:=by
 intro l;induction l with
 |nil=>
  intro m _ _ h
  rw[MQ (Nat.le_zero.mp h)]
 |cons x r ih=>
  intro m nd h hl
  have Rx:=MP.mp nd
  have hx:=h x Lv
  have z:=ih (m:=m.erase x) Rx.2 (λy hy=>(Se (λe:y=x=>Rx.1 (by rw[←e];exact hy))).mpr (h y (Lw _ hy))) (by rw[Rb hx];rw[Mv] at hl;lia)
  exact(z.cons x).trans (List.perm_cons_erase hx).symm
def addS_le:∀(ss a:List Str),(ss.foldl av a).length<=a.length+ss.length:=by
 intro ss;induction ss with
 |nil=>intro a;exact Lp _
 |cons x r ih=>
  intro a
  have z:=ih (av a x)
  have:(av a x).length<=a.length+1:=by
   unfold av;split
   .exact NR _
   .rw[LB];exact Lp _
  rw[ND,Mv];lia
def AJ:∀(l A:List (Str×Str)),(A.map (·.1)).Nodup->∃C:List (Str×Str),(i7 l).foldl (λa x=>G3 a x.1 x.2) (i7 A)=i7 C/\(C.map (·.1)).Nodup/\∀n∈C.map (·.1),n∈A.map (·.1)\/n∈l.map (·.1):=by
 intro l;induction l with
 |nil=>intro A nd;exact⟨A,rfl,nd,λn h=> .inl h⟩
 |cons b r ih=>
  intro A nd
  by_cases h:b.1∈A.map (·.1)
  .have e1:G3 (i7 A) (Sum.inr b.1:i6) (.str b.2)=i7 (A.map λx=>if x.1=b.1 then(x.1,b.2) else x):=by
    obtain⟨y,hy,ey⟩:=Ln.mp h;rw[dQ (by rw[D5];exact Ln.mpr ⟨y,hy,by rw[ey]⟩)];unfold i7;rw[LH,LH];refine NM λx _=>?_;by_cases e:x.1=b.1
    .show(if(Sum.inr x.1:i6)=Sum.inr b.1 then((Sum.inr x.1:i6),V.str b.2) else(Sum.inr x.1,V.str x.2))=_;rw[if_pos (by rw[e])];simp [e]
    .show(if(Sum.inr x.1:i6)=Sum.inr b.1 then((Sum.inr x.1:i6),V.str b.2) else(Sum.inr x.1,V.str x.2))=_;rw[if_neg λz=>e (NL z)];simp [e]
   have e2:(A.map λx=>if x.1=b.1 then(x.1,b.2) else x).map (·.1)=A.map (·.1):=by
    rw[LH];refine NM λx _=>?_;show(if x.1=b.1 then(x.1,b.2) else x).1=x.1;split<;>rfl
   obtain⟨C,h1,h2,h3⟩:=ih (A.map λx=>if x.1=b.1 then(x.1,b.2) else x) (by rw[e2];exact nd)
   refine⟨C,?_,h2,λn hn=>?_⟩
   .show(i7 r).foldl (λa x=>G3 a x.1 x.2) (G3 (i7 A) (Sum.inr b.1:i6) (.str b.2))=_
    rw[e1];exact h1
   .rcases h3 n hn with z|z
    .rw[e2] at z;exact .inl z
    .exact .inr (Lw _ z)
  .obtain⟨C,h1,h2,h3⟩:=ih (A++[b]) (by rw[Lr];exact Q6 nd h)
   refine⟨C,?_,h2,λn hn=>?_⟩
   .show(i7 r).foldl (λa x=>G3 a x.1 x.2) (G3 (i7 A) (Sum.inr b.1:i6) (.str b.2))=_
    rw[dJ h];exact h1
   .rcases h3 n hn with z|z
    .rw[Lr] at z
     rcases LC.mp z with z|z
     .exact .inl z
     .rw[show n=b.1 by simpa using z];exact .inr Lv
    .exact .inr (Lw _ z)
def BQ (ps:List (Str×Str)):∃qs:List (Str×Str),cN (i7 ps)=i7 qs/\qs.length<=ps.length/\(((ps.map (·.1)).Nodup/\qs=ps)\/(¬(ps.map (·.1)).Nodup/\qs.length<ps.length)):=by
 by_cases nd:(ps.map (·.1)).Nodup
 .exact⟨ps,J5 (V3 nd),Lp _,.inl ⟨nd,rfl⟩⟩
 .obtain⟨C,h1,h2,h3⟩:=AJ ps [] Ny;have sub:∀n∈C.map (·.1),n∈ps.map (·.1):=λn hn=>(h3 n hn).resolve_left (by simp);have lt:C.length<ps.length:=Nat.lt_of_not_le λz=>nd ((zL h2 sub (by rw[Ll,Ll];exact z)).nodup_iff.mp h2);exact⟨C,h1,NY lt,.inr ⟨nd,lt⟩⟩
def Er (x y:Str×Str):bt (pV x) (pV y)=decide (x=y):=by
 obtain⟨x1,x2⟩:=x;obtain⟨y1,y2⟩:=y;show(x1==y1&&(x2==y2&&true))=_;rw[LQ];simp
def oO {H:Hp}{xs:List V}{ps:List (Str×Str)}(h:PrsAt K H xs ps):Paired (PairB K H) xs (ps.map λ_=>true):=by
 unfold PrsAt at h;induction h with
 |nil=>exact .nil
 |cons a t ih=>
  obtain⟨t,e,z⟩:=a
  exact .cons (.inl ⟨rfl,t,_,_,e,z⟩) ih
def ya {bs:List Bool}(h:false∈bs):bs.all id=false:=by
 rw[Rc];intro z;have:=LZ.mp z _ h;cases this
abbrev gQ:=λP w K mg base=>M7 P w K mg base B6 3 "is_overlap" ["piece","other","pairs"] [] (eW K)
def og {f fd}(T:Txt K mg)(iR:oE P w K mg base)(V0:bq P w K mg base)(F:Fun K "is_overlap" "is_overlap" bD f fd):u6 P w K mg base B6 3 f fd ["piece","other","pairs"] (eW K):=by
 walk_at "#sc_is_overlap"
 .obtain⟨a,p,q,a',p',q',kvs,b_,P0,R,v,b,rfl,_⟩:=h;rfl
 .obtain⟨a,p,q,a',p',q',kvs,b_,P0,R,v,b,rfl,hP,ndP,hR,ndR,hv,k⟩:=h;have three:(b=false/\∃t,TyB K H v t/\t≠"list")\/∃l xs bs,v= .ref l/\H l=some (.lst xs)/\xs.length<=30/\Paired (PairB K H) xs bs/\((bs.all id=false/\b=false)\/(bs.all id=true/\∃ps,PrsAt K H xs ps/\(b=true↔uP P0 R ps))):=by
   rcases hv with⟨rfl,⟨t,h1,h2⟩|⟨l,xs,h1,h2,h3,⟨bs,h4,h5⟩|⟨ps,h4,h5⟩⟩⟩|⟨rfl,ps,l,xs,h1,h2,h3,h4,h5⟩
   .exact .inl ⟨rfl,t,h1,h2⟩
   .exact .inr ⟨l,xs,bs,h1,h2,h3,h4,.inl ⟨ya h5,rfl⟩⟩
   .exact .inr ⟨l,xs,_,h1,h2,h3,oO h4,.inr ⟨by rw[Nc];exact LZ.mpr λ_ _=>rfl,ps,h4,⟨λz=>(nomatch z),λz=>absurd z h5⟩⟩⟩
   .exact .inr ⟨l,xs,_,h1,h2,h3,oO h4,.inr ⟨by rw[Nc];exact LZ.mpr λ_ _=>rfl,ps,h4,⟨λ_=>h5,λ_=>rfl⟩⟩⟩
  clear hv;walk_at "@sc_is_overlap 2iyKHtZYX72W~e?>Ht&%#4jpair;;e02c0pair;n3'0iR 90z253v922iyKb)l4,~bA~a~94,~1A?>4~003l92gb)02G'1tf (92gz8t&%#4jname;013;e03c0name,piece,other,paired;n3'0V0 h01h027300"
  symm;rcases three with⟨rfl,t,ht,hn⟩|⟨l,xs,bs,rfl,hl,Va,X_,hb⟩
  .refine cu (cm ht (by simp) ?_);rw[show cg t "list"=false by unfold cg;simp [hn]];symm;exact k H (Same.refl H)
  refine cu (cm (t:="list") (.inl ⟨rfl,_,SqL.of hl⟩) (by simp) ?_);rw[show cg "list" "list"=true from rfl];have WG:=Mc X_;symm;refine j7 (SqL.of hl) ?_;refine k8 (n:=xs.length) (λi out H'=>Same H H'/\out=(bs.take i).map V.bl) ⟨Same.refl _,rfl⟩ (λi out H' hi hp=>⟨xs,xs[i],SqL.of (hp.1 _ _ hl),Lm hi⟩) ?_ ?_
  .rintro N i v out H1' H1 hi ⟨s1,rfl⟩ y hN';obtain⟨rfl,hy⟩:=Itl.get y (SqL.of (s1 _ _ hl));obtain⟨x,hx,hpb⟩:=A9 X_ hy;symm;refine⟨rfl,?_⟩;symm;refine⟨_,x,rfl,hpb.same s1,λH2 m2=>?_⟩;refine⟨b9 (by rw[Ll,Lz];lia),hN' _ _ ⟨s1.trans m2,?_⟩⟩;rw[Me,hx,Lr];rfl
  rintro out H1 ⟨s1,rfl⟩;refine⟨⟨_,SqL.of (s1 _ _ hl),Lp _⟩,λD hD=>⟨b9 (by rw[Ll,Lz];lia),?_⟩⟩;rw[Lu (by lia)];obtain⟨H2,e2,f2,m2,_⟩:=b7 (H:=H1) (o:= .lst (bs.map V.bl)) hD;symm;change tT K _ (upd H1 D _) _;rw[e2];refine jq (SqL.of f2) ?_;have s2:=s1.trans m2;rcases hb with⟨e9,rfl⟩|⟨e9,ps,pr,hb⟩
  .rw[e9];symm;exact k H2 s2
  rw[e9];clear X_ WG e9 f2;symm;have UX:=Mc pr;have pr2:=pr.mono s2.le;refine E2 (SqL.of (s2 _ _ hl)) (Dq pr2) (b9 (by rw[j5];lia)) (λd nd=>?_);obtain⟨qs,eqs,lqs,YV⟩:=BQ ps;rw[eqs];obtain⟨H3,e3,f3,m3,_⟩:=b7 (o:= .dK (i7 qs)) nd;rw[e3];have s3:=s2.trans m3;symm;refine⟨.inr (.inr (.inl ⟨rfl,.inl ⟨_,f3⟩⟩)),?_⟩;refine⟨d,_,rfl,rfl,.inl f3,λlv nv=>?_⟩;obtain⟨H4,e4,f4,m4,_⟩:=b7 (o:= .ext (jF lv d)) nv;rw[e4];symm;refine cZ f4 (.inl (m4 _ _ f3)) (λl5 n5=>?_);rw[mX];obtain⟨H5,e5,f5,m5,_⟩:=b7 (o:= .lst ((qs.map (·.2)).map V.str)) n5;rw[e5];symm;refine⟨l5,_,rfl,SqL.of f5,by rw[Ll];lia,λl6 n6=>?_⟩;obtain⟨H6,e6,f6,m6,_⟩:=b7 (o:= .ext (cb l6 (dW (qs.map (·.2))).length)) n6;rw[e6];have Us:(dW (qs.map (·.2))).length<=qs.length:=by
   have z:=addS_le (qs.map (·.2)) [];rw[Ll] at z;simpa [dW] using z
  have WB:=mV (qs.map (·.2));rw[Ll] at WB;symm;refine iu f6 (by lia) ?_;have s6:=s3.trans (m4.trans (m5.trans m6));symm;refine E8 (p9 (SqL.of (s6 _ _ hl)) ?_);symm;refine S9 (λz=>?_) (λz=>?_)
  .symm;have eb:b=false:=by
    rw[Rc];intro hbt;have ov:=hb.mp hbt;rcases YV with⟨_,rfl⟩|⟨hn,_⟩
    .exact z (by rw[WB.mpr ov.nv,UX])
    .exact hn ov.nk
   rw[←eb];exact k _ s6
  have hqe:qs=ps:=by
   rcases YV with⟨_,h⟩|⟨_,h⟩
   .exact h
   .lia
  have hnk:(ps.map (·.1)).Nodup:=by
   rcases YV with⟨h,_⟩|⟨_,h⟩
   .exact h
   .lia
  subst hqe;have hnv:=WB.mp (by lia);clear YV lqs Us WB eqs z;symm;obtain⟨us,e1,eu,ut⟩:=zR (pr.mono s6.le);have Sw:us.length=qs.length:=by have z:=Mw List.length eu;rwa [Ll,Ll] at z
  have Q_:∀u∈us,∃x:Str×Str,u.2=pV x:=λu hu=>by
   have z:u.2∈us.map (·.2):=Ln.mpr ⟨u,hu,rfl⟩;rw[eu] at z;obtain⟨x,_,e⟩:=Ln.mp z;exact⟨x,e.symm⟩
  refine⟨l,us,rfl,by rw[←e1];exact SqL.of (s6 _ _ hl),λu hu=>⟨ut u hu,?_⟩,λu hu u' UI=>?_,by lia,λC_ pm srt l7 n7=>?_⟩
  .obtain⟨x,e⟩:=Q_ u hu;exact⟨x.1,_,e⟩
  .obtain⟨x,e⟩:=Q_ u hu;obtain⟨x',e'⟩:=Q_ u' UI;rw[e,e'];exact .cons (.inl ⟨_,_,rfl,rfl⟩) (.cons (.inl ⟨_,_,rfl,rfl⟩) .nil)
  obtain⟨H7,e7,f7,m7,_⟩:=b7 (o:= .lst (C_.map λt=>V.ref t.1)) n7;rw[e7];have hc:∀u∈C_,u.2=pV (rm u.2):=λu hu=>by
   obtain⟨x,e⟩:=Q_ u (pm.mem_iff.mp hu);rw[e,Dw]
  have p1:(C_.map λu=>rm u.2).Perm qs:=by
   have p1:=pm.map λu=>rm u.2;have e9:us.map (λu=>rm u.2)=qs:=by
    have z:(us.map (·.2)).map rm=(qs.map pV).map rm:=by rw[eu]
    rw[LH,LH] at z;rw[show us.map (λu=>rm u.2)=us.map (rm∘(·.2)) from rfl,z];exact(NM λx _=>Dw x).trans (ON qs)
   rwa [e9] at p1
  have so:(C_.map λu=>rm u.2).Pairwise Hj:=Nk.mpr (Rf (fun{a b} ha hb z=>by
   show ¬G8 (pV (rm b.2))<G8 (pV (rm a.2));rw[←hc a ha,←hc b hb];exact z) srt)
  have hul:=pm.length_eq;have s7:=s6.trans m7;have hsq:IZ K H7 (.ref l) (.ref l7) ((qs.zip (C_.map λu=>rm u.2)).map λp=>decide (p.1=p.2)):=by
   refine⟨l,l7,us.map (λt=>V.ref t.1),C_.map (λt=>V.ref t.1),rfl,rfl,.inr ⟨SqL.of (by rw[←e1];exact s7 _ _ hl),SqL.of f7⟩,by rw[Ll,Ll];lia,by rw[Ll,List.length_zip,Ll,Ll];lia,λj x y b hx hy hb=>?_⟩;rw[Lo] at hx hy hb;obtain⟨u1,Rw,rfl⟩:=My.mp hx;obtain⟨u2,Sq,rfl⟩:=My.mp hy;obtain⟨⟨b1,b2⟩,F',rfl⟩:=My.mp hb;obtain⟨g1,g2⟩:=OS.mp F';have q1:(us.map (·.2))[j]?=some u1.2:=by rw[Lo,Rw];rfl
   rw[Lo,Sq] at g2;rw[eu,Lo,g1] at q1;have q2:rm u2.2=b2:=LO g2;have q1':pV b1=u1.2:=LO q1;have t1:=m7.tup (ut u1 (LF Rw));have t2:=m7.tup (ut u2 (pm.mem_iff.mp (LF Sq)));rw[hc u2 (LF Sq),q2] at t2;rw[←q1'] at t1;have z:=Eq1.tup t1 t2 (by rfl) (by rfl);rw[Er] at z;exact EqN.of0 (.inl z) _
  symm;refine .inr ⟨_,hsq,?_⟩;have RV:((qs.zip (C_.map λu=>rm u.2)).map λp=>decide (p.1=p.2)).all id=true↔qs=C_.map λu=>rm u.2:=by
   rw[Nc,LZ];constructor
   .intro h;refine List.ext_getElem (by rw[Ll];lia) λj h1 h2=>?_;have z:=h (qs[j],(C_.map λu=>rm u.2)[j]) (by
     refine LF (i:=j) ?_;rw[OS];exact⟨Lm h1,Lm h2⟩)
    simpa using z
   .intro h p hp;rw[←h] at hp;obtain⟨j,hj⟩:=MV hp;obtain⟨g1,g2⟩:=OS.mp hj;rw[g1] at g2;simpa using LO g2
  cases e8:((qs.zip (C_.map λu=>rm u.2)).map λp=>decide (p.1=p.2)).all id with
  |false=>
   symm
   have eb:b=false:=by
    rw[Rc];intro hbt;have ov:=hb.mp hbt;have z:=RV.mpr (oN (λ_ _=>yD) p1.symm ov.so so);rw[e8] at z;cases z
   rw[←eb]
   exact k _ s7
  |true=>
  have TR:qs.Pairwise Hj:=by rw[RV.mp e8];exact so
  clear RV e8 hsq so p1 hc srt pm Q_;symm;have YW:=(m4.trans (m5.trans (m6.trans m7))) _ _ f3;refine gi YW (λYa o8=>?_);refine k8 (n:=(i7 qs).length) (λi out H'=>Same (E7 d o8 (i7 qs) H7) H'/\∃bs:List Bool,out=bs.map V.bl/\bs.length=i/\∀(j:Nat) (x:Str×Str) (bb:Bool),qs[j]?=some x->bs[j]?=some bb->(bb=true↔WP P0 R qs x)) ⟨Same.refl _,[],rfl,rfl,λj x bb _ h=>by simp at h⟩ (λi out H' hi hp=>⟨hp.1 _ _ d8,hi⟩) ?_ ?_
  .rintro N i v out H8' H8 hi ⟨s8,bs,rfl,WG,hbw⟩ ⟨rfl,kv,f_,rfl⟩ hN';obtain⟨x,hx,rfl⟩:=bA f_;have le8:=(L0 (o:=o8) YW).trans s8.le;have leH:=s7.le.trans le8;rw[j5] at hi;symm;refine⟨rfl,?_⟩;symm;refine⟨a,p,q,a',p',q',d,kvs,b_,P0,R,qs,x,rfl,hP.mono leH,ndP,hR.mono leH,ndR,le8.dic (.inl YW),hnk,LF hx,λH9 bb m9 Xk=>?_⟩;refine⟨b9 (by rw[Ll];lia),hN' _ _ ⟨s8.trans m9,bs++[bb],by rw[Lr];rfl,by rw[LB,WG];rfl,λj y b' hj F'=>?_⟩⟩;rcases Tp j bs.length with z|z|z
   .rw[Nm z] at F';exact hbw j y b' hj F'
   .rw[z,MJ (Lp _),TV] at F';have e1:bb=b':=by simpa using F'
    rw[z,WG,hx] at hj;cases hj;rw[←e1];exact Xk
   .rw[Ob (by rw[LB];simp;lia)] at F';cases F'
  .rintro out H8 ⟨s8,bs,rfl,WG,hbw⟩;rw[j5] at WG;refine⟨⟨s8 _ _ d8,Lp _⟩,λD2 hD2=>⟨b9 (by rw[Ll];lia),?_⟩⟩;have sM:=J6 YW s8 hD2 (u:= .lst (bs.map V.bl));have fM:=X0 s8 hD2 (u:= .lst (bs.map V.bl));generalize thaw d (upd H8 D2 (.lst (bs.map V.bl)))=HM at sM fM⊢;symm;refine jq (SqL.of fM) ?_;have eb:bs.all id=b:=by
    rw[LQ,hb,LZ];constructor
    .intro h;refine⟨hnk,hnv,TR,λx hx=>?_⟩;obtain⟨j,hj⟩:=MV hx;have lj:j<bs.length:=by
      rcases MK j qs.length with z|z
      .lia
      .rw[Ob z] at hj;cases hj
     exact(hbw j x _ hj (Lm lj)).mp (h _ (LM lj))
    .intro h bb Xk;obtain⟨j,hj⟩:=MV Xk;have lj:j<qs.length:=by
      rcases MK j bs.length with z|z
      .lia
      .rw[Ob z] at hj;cases hj
     exact(hbw j _ bb (Lm lj) hj).mpr (h.wp _ (LM lj))
   rw[eb];exact k HM (s7.trans sM)
def aN (n:Str):Str:=("a.":Str)++n
def bN (n:Str):Str:=("b.":Str)++n
def V1 (x y:Str):(x++y).cps.toList=x.cps.toList++y.cps.toList:=by
 show(x.cps++y.cps).toList=_;simp
def fc {n m:Str}(h:aN n=aN m):n=m:=by
 have z:(("a.":Str)++n).cps.toList=(("a.":Str)++m).cps.toList:=Mw (λs:Str=>s.cps.toList) h;rw[V1,V1] at z;exact Q8 (Pw z)
def ER {n m:Str}(h:bN n=bN m):n=m:=by
 have z:(("b.":Str)++n).cps.toList=(("b.":Str)++m).cps.toList:=Mw (λs:Str=>s.cps.toList) h;rw[V1,V1] at z;exact Q8 (Pw z)
def DJ {n m:Str}:aN n≠bN m:=λh=>by
 have z:(("a.":Str)++n).cps.toList=(("b.":Str)++m).cps.toList:=Mw (λs:Str=>s.cps.toList) h;rw[V1,V1] at z;have e1:("a.":Str).cps.toList=[97,46]:=by decide+kernel
 have e2:("b.":Str).cps.toList=[98,46]:=by decide+kernel
 rw[e1,e2] at z;exact absurd (Mo z).1 (by decide)
def K4 (ps:List (Str×Str))(t:Str):Str:=match ps.find? (λx=>decide (x.2=t)) with
 |some x=>aN x.1
 |none=>bN t
def cV (ps:List (Str×Str))(t:Str):(∃n,(n,t)∈ps/\K4 ps t=aN n)\/(t∉ps.map (·.2)/\K4 ps t=bN t):=by
 unfold K4;cases e:ps.find? (λx=>decide (x.2=t)) with
 |none=>
  refine .inr ⟨λz=>?_,rfl⟩
  obtain⟨x,hx,ex⟩:=Ln.mp z
  exact absurd (Oa.mp e x hx) (by simpa using ex)
 |some x=>
  have z:x.2=t:=by simpa using Qy e
  exact .inl ⟨x.1,by rw[←z];exact Oe e,rfl⟩
def sT {l:List (Str×Str)}{n m s:Str}(nd:(l.map (·.2)).Nodup)(h1:(n,s)∈l)(h2:(m,s)∈l):n=m:=
 j6 (l:=l.map λx=>(x.2,x.1)) (n:=s) (by rw[LH];exact nd) (Ln.mpr ⟨_,h1,rfl⟩) (Ln.mpr ⟨_,h2,rfl⟩)
structure OV (P R:x9) (ps:List (Str×Str)):Prop where
 ov:uP P R ps
 ndP:(b8 P).Nodup
 ndR:(b8 R).Nodup
 eP:∀x∈P.ts,x.2.2.1∈P.pts.map (·.1)/\x.2.2.2∈P.pts.map (·.1)
 eR:∀x∈R.ts,x.2.2.1∈R.pts.map (·.1)/\x.2.2.2∈R.pts.map (·.1)
section
variable {P R:x9} {ps:List (Str×Str)}
def OV.nk (o:OV P R ps):(ps.map (·.1)).Nodup:=o.ov.nk
def OV.nv (o:OV P R ps):(ps.map (·.2)).Nodup:=o.ov.nv
def OV.u1 (o:OV P R ps){n t t':Str}(h:(n,t)∈ps)(h':(n,t')∈ps):t=t':=j6 o.nk h h'
def OV.u2 (o:OV P R ps){n n' t:Str}(h:(n,t)∈ps)(h':(n',t)∈ps):n=n':=sT o.nv h h'
def OV.ptR (o:OV P R ps){n t kd:Str}(h:(n,t)∈ps)(hk:(n,kd)∈P.pts):(t,kd)∈R.pts:=(vM o.ndP hk).mp (o.ov.wp _ h)
def OV.tiR (o:OV P R ps){n t:Str}{x:N4}(h:(n,t)∈ps)(hk:(n,x)∈P.ts):∃s e,(x.2.1,s)∈ps/\(x.2.2,e)∈ps/\(t,(x.1,s,e))∈R.ts:=(wc o.ndP hk).mp (o.ov.wp _ h)
def OV.mem' (o:OV P R ps){n t:Str}(h:(n,t)∈ps):n∈b8 P/\t∈b8 R/\True:=⟨(o.ov.wp _ h).inP,(o.ov.wp _ h).inR,trivial⟩
def OV.fb_a (o:OV P R ps){n t:Str}(h:(n,t)∈ps):K4 ps t=aN n:=by
 rcases cV ps t with⟨n',h',e⟩|⟨hn,_⟩
 .rw[e,o.u2 h h']
 .exact absurd (Ln.mpr ⟨_,h,rfl⟩) hn
def OV.fb_back (o:OV P R ps){n t:Str}(h:aN n=K4 ps t):(n,t)∈ps:=by
 rcases cV ps t with⟨n',h',e⟩|⟨_,e⟩
 .rw[e] at h;rw[fc h];exact h'
 .rw[e] at h;exact absurd h DJ
def OV.fb_inj (o:OV P R ps){t t':Str}(h:K4 ps t=K4 ps t'):t=t':=by
 rcases cV ps t with⟨n,h1,e⟩|⟨h1,e⟩
 .rw[e] at h;exact o.u1 h1 (o.fb_back h)
 .rcases cV ps t' with⟨n',h2,e2⟩|⟨_,e2⟩
  .rw[e,e2] at h;exact absurd h.symm DJ
  .rw[e,e2] at h;exact ER h
def OV.agree (o:OV P R ps){X Y:x9}(WH:X.pts.Perm (A8 aN P).pts)(Ut:X.ts.Perm (A8 aN P).ts)(TX:Y.pts.Perm (A8 (K4 ps) R).pts)(Vb:Y.ts.Perm (A8 (K4 ps) R).ts)(hl:(b8 P).length<=13)(RE:(b8 R).length<=13):sY X Y:=by
 have nl1:(b8 P).length=P.pts.length+P.ts.length:=E4 P;have nl2:(b8 R).length=R.pts.length+R.ts.length:=E4 R;have TY:∀{l:List Str} {f:Str->Str},l.Nodup->(∀a b,f a=f b->a=b)->(l.map f).Nodup:=λh hf=>Nk.mpr (PN (λUK e=>UK (hf _ _ e)) h);refine⟨?_,?_,?_,?_,λn s s' h h'=>?_,λn s s' h h'=>?_,?_,?_⟩
 .refine(WH.map _).nodup_iff.mpr ?_;unfold A8;rw[LH];have z:=TY (f:=aN) (E9 o.ndP) λ_ _=>fc;rwa [LH] at z
 .refine(Ut.map _).nodup_iff.mpr ?_;unfold A8;rw[LH];have z:=TY (f:=aN) (N7 o.ndP) λ_ _=>fc;rwa [LH] at z
 .refine(TX.map _).nodup_iff.mpr ?_;unfold A8;rw[LH];have z:=TY (f:=K4 ps) (E9 o.ndR) λ_ _=>o.fb_inj;rwa [LH] at z
 .refine(Vb.map _).nodup_iff.mpr ?_;unfold A8;rw[LH];have z:=TY (f:=K4 ps) (N7 o.ndR) λ_ _=>o.fb_inj;rwa [LH] at z
 .obtain⟨x,hx,e⟩:=Ln.mp (WH.mem_iff.mp h);obtain⟨y,hy,e'⟩:=Ln.mp (TX.mem_iff.mp h');have e1:aN x.1=K4 ps y.1:=(NG e).1.trans (NG e').1.symm;have p:=o.fb_back e1;have q:=o.ptR p (show(x.1,x.2)∈P.pts from hx);rw[←(NG e).2,←(NG e').2];exact j6 (E9 o.ndR) q hy
 .obtain⟨x,hx,e⟩:=Ln.mp (Ut.mem_iff.mp h);obtain⟨y,hy,e'⟩:=Ln.mp (Vb.mem_iff.mp h');have e1:aN x.1=K4 ps y.1:=(NG e).1.trans (NG e').1.symm;have p:=o.fb_back e1;obtain⟨s1,s2,h1,h2,h3⟩:=o.tiR p (show(x.1,x.2)∈P.ts from hx);have q:=j6 (N7 o.ndR) h3 hy;rw[←(NG e).2,←(NG e').2,←q,o.fb_a h1,o.fb_a h2]
 .rw[WH.length_eq,TX.length_eq];unfold A8;rw[Ll,Ll];lia
 .rw[Ut.length_eq,Vb.length_eq];unfold A8;rw[Ll,Ll];lia
end
def BK {l:List (Str×Str)}{x:Str×Str}(h:x.2∉l.map (·.2))(t:Str):K4 (l++[x]) t=if t=x.2 then aN x.1 else K4 l t:=by
 unfold K4;rw[List.find?_append];by_cases e:t=x.2
 .rw[if_pos e];have z:l.find? (λy=>decide (y.2=t))=none:=Oa.mpr λy hy=>by
   have:y.2≠t:=λq=>h (by rw[←e,←q];exact Ln.mpr ⟨y,hy,rfl⟩);simpa using this
  rw[z,RC (by simp [e])];rfl
 .rw[if_neg e];have z:[x].find? (λy=>decide (y.2=t))=none:=Oa.mpr λy hy=>by
   have e2:y=x:=by simpa using hy
   have:y.2≠t:=λq=>e (by rw[←q,e2]);simpa using this
  rw[z];cases l.find? (λy=>decide (y.2=t))<;>rfl
def Ai {ns:List Str}{l:List (Str×Str)}{x:Str×Str}(j_:x.2∈ns)(h:x.2∉l.map (·.2)):G3 (i7 (ns.map λt=>(t,K4 l t))) (Sum.inr x.2:i6) (.str (aN x.1))=i7 (ns.map λt=>(t,K4 (l++[x]) t)):=by
 rw[dQ (by rw[D5,LH];exact Ln.mpr ⟨x.2,j_,rfl⟩)];unfold i7;rw[LH,LH,LH];refine NM λt _=>?_;show(if(Sum.inr t:i6)=Sum.inr x.2 then((Sum.inr t:i6),V.str (aN x.1)) else(Sum.inr t,V.str (K4 l t)))=(Sum.inr t,V.str (K4 (l++[x]) t));rw[BK h];by_cases e:t=x.2
 .rw[if_pos (by rw[e]),if_pos e]
 .rw[if_neg (λz=>e (NL z)),if_neg e]
structure OW (K:Za) (H:Hp) (z p q d1 d2:Addr) (kvs:List (i6×V)) (Z P R:x9) (ps:List (Str×Str)) (ns r_:List Str):Prop where
 at_:WebAt K H z p q kvs Z
 hp:H p=some (.dK (i7 Z.pts))
 hq:H q=some (.dK kvs)
 ne:p≠q
 n1:(Z.pts.map (·.1)).Nodup
 n2:(Z.ts.map (·.1)).Nodup
 m1:∀x,x∈Z.pts↔x∈(A8 aN P).pts\/x∈(A8 (K4 ps) R).pts
 m2:∀x,x∈Z.ts↔x∈(A8 aN P).ts\/x∈(A8 (K4 ps) R).ts
 l1:Z.pts.length<=26
 l2:Z.ts.length<=26
 a1:ns.Perm (b8 P)
 a2:r_.Perm (b8 R)
 h1:H d1=some (.dK (i7 (ns.map λn=>(n,aN n))))
 h2:H d2=some (.dK (i7 (r_.map λt=>(t,K4 ps t))))
def cW (K:Za):Sp:=λvs H Q E=>∃(a p q a' p' q':Addr) (kvs b_:List (i6×V)) (P R:x9) (v:V),vs=[.ref a,.ref a',v]/\WebIs 13 K H a p q kvs P/\WebIs 13 K H a' p' q' b_ R/\((BadV K H P R v/\∀H' e,Same H H'->H' e=none->E (.ref (cA K "NoOverlap")) (some e) H')\/∃ps,GoodV K H P R v ps/\
 ∀(t z pz qz d1 d2:Addr) (kz:List (i6×V)) (Z:x9) (ns r_:List Str) (H':Hp),Same H H'->H' t=some (.tup [.ref z,.ref d1,.ref d2])->OW K H' z pz qz d1 d2 kz Z P R ps ns r_->H pz=none->H d1=none->H d2=none->Q (.ref t) H')
abbrev dY:=λP w K mg base=>M7 P w K mg base (gY P w) 4 "overlap_web" ["piece","other","pairs"] [] (cW K)
def jZ {f fd}(T:Txt K mg)(bH:gQ P w K mg base)(gr:tD P w K mg base)(bj:kY P w K mg base)(U5:iw P w K mg base)(F:Fun K "overlap_web" "overlap_web" aL f fd):u6 P w K mg base (gY P w) 4 f fd ["piece","other","pairs"] (cW K):=by
 refine F.okE sc_overlap_web (λvs H Q E h=>?_) (λc_ A outer s H vs Q E hr h=>?_)
 .obtain⟨a,p,q,a',p',q',kvs,b_,P0,R,v,rfl,_⟩:=h;rfl
 .obtain⟨a,p,q,a',p',q',kvs,b_,P0,R,v,rfl,hP,hR,hv⟩:=h;have Yb:=hP.len;have Vc:=hR.len;walk_at "@sc_overlap_web 2iH3'0bH h007102m@'0T.r_NoOverlap 4p2533'0gr 70p2543'0gr 71p2~fe02k5If3154158dh3'0bj a3'0U5 70033'0U5 71047304"
  symm;rcases hv with⟨bad,k⟩|⟨ps,good,k⟩
  .refine⟨a,p,q,a',p',q',kvs,b_,P0,R,v,false,rfl,hP.at_,hP.nd,hR.at_,hR.nd,.inl ⟨rfl,bad⟩,λH1 m1=>?_⟩;symm;exact⟨b9 (by simp),λe he=>k H1 e m1 he⟩
  refine⟨a,p,q,a',p',q',kvs,b_,P0,R,v,true,rfl,hP.at_,hP.nd,hR.at_,hR.nd,.inr ⟨rfl,ps,good⟩,λH1 m1=>?_⟩;obtain⟨l,xs,rfl,hl,Va,pr,ov⟩:=good;have o:OV P0 R ps:=⟨ov,hP.nd,hR.nd,hP.ends,hR.ends⟩
  have P1:=hP.same m1;have R1:=hR.same m1;symm;refine⟨a,p,q,kvs,P0,_,rfl,by decide+kernel,P1.at_,hP.nd,by lia,hP.nl,λd1 H2 ns n2 m2 pn f2=>?_⟩;have R2:=R1.same m2;symm;refine⟨a',p',q',b_,R,_,rfl,by decide+kernel,R2.at_,hR.nd,by lia,hR.nl,λd2 H3 r_ n3 m3 pn' f3=>?_⟩;have E_:=m1.trans (m2.trans m3);have l3:=E_ _ _ hl;have TJ:d1≠d2:=d6 f2 n3;have nel:l≠d2:=d6 ((m1.trans m2) _ _ hl) n3;have UX:=Mc pr;symm;refine j7 (SqL.of l3) ?_;refine F5 (n:=xs.length) (λi σ H'=>(∃v5,σ=[some (.ref a),some (.ref a'),some (.ref l),some (.ref d1),some (.ref d2),v5])/\Same H H'/\H d2=none/\H' l=some (.lst xs)/\PrsAt K H' xs ps/\H' d1=some (.dK (i7 (ns.map λn=>(n,aN n))))/\H' d2=some (.dK (i7 (r_.map λt=>(t,K4 (ps.take i) t))))) ⟨⟨_,rfl⟩,E_,m1.free (m2.free n3),l3,pr.mono E_.le,m3 _ _ f2,f3⟩ (λi σ H' hi hp=>⟨xs,xs[i],SqL.of hp.2.2.2.1,Lm hi⟩) ?_ ?_
  .rintro bk i v σ YX H4 hi ⟨⟨v5,rfl⟩,s4,w_,YY,Wb,g1,g2⟩ y _ _;obtain⟨rfl,hy⟩:=Itl.get y (SqL.of YY);obtain⟨x,hx,t,rfl,ht⟩:=A9 Wb hy;have D_:=LF hx;obtain⟨hn,Yc,_⟩:=o.mem' (n:=x.1) (t:=x.2) D_;have Sr:x.2∉(ps.take i).map (·.2):=by
    rw[Rn];exact fP o.nv (by rw[Lo,hx];rfl)
   have ndn:((ns.map λn=>(n,aN n)).map (·.1)).Nodup:=by
    rw[LH,show((·.1)∘λn:Str=>(n,aN n))=id from rfl,ON];exact pn.nodup_iff.mpr hP.nd
   have j_:(x.1,aN x.1)∈ns.map λn=>(n,aN n):=Ln.mpr ⟨x.1,pn.mem_iff.mpr hn,rfl⟩;have YQ:=pn'.length_eq;symm;refine b5 ht (b6 (j:=0) rfl) ?_;refine rO (.inl g1) ⟨_,O1 ndn j_⟩ ?_;rw[lX ndn j_];symm;refine b5 ht (b6 (j:=1) rfl) ?_;refine ae (C6 (k:=Sum.inr x.2) g2 (b9 (by rw[j5,Ll];lia)) ?_);rw[Ai (pn'.mem_iff.mpr Yc) Sr];walk_at "X";refine⟨⟨_,rfl⟩,M3 s4 w_,w_,by rw[d9 nel];exact YY,?_,by rw[d9 TJ];exact g1,?_⟩
   .exact pr.mono (M3 s4 w_).le
   .rw[d8,Me,hx];rfl
  rintro σ H4 ⟨⟨v5,rfl⟩,s4,w_,YY,Wb,g1,g2⟩;refine⟨⟨_,SqL.of YY,Lp _⟩,?_⟩;rw[Lu (by lia)] at g2;have P4:=hP.same s4;have R4:=hR.same s4;have vn:∀n∈b8 P0,A5 (i7 (ns.map λn=>(n,aN n))) (Sum.inr n:i6)=some (.str (aN n)):=λn hn=>O1 (by
   rw[LH,show((·.1)∘λn:Str=>(n,aN n))=id from rfl,ON];exact pn.nodup_iff.mpr hP.nd) (Ln.mpr ⟨n,pn.mem_iff.mpr hn,rfl⟩)
  have vt:∀n∈b8 R,A5 (i7 (r_.map λt=>(t,K4 ps t))) (Sum.inr n:i6)=some (.str (K4 ps n)):=λn hn=>O1 (by
   rw[LH,show((·.1)∘λt:Str=>(t,K4 ps t))=id from rfl,ON];exact pn'.nodup_iff.mpr hR.nd) (Ln.mpr ⟨n,pn'.mem_iff.mpr hn,rfl⟩)
  have TY:∀{l:List Str} {f:Str->Str},l.Nodup->(∀a b,f a=f b->a=b)->(l.map f).Nodup:=λh hf=>Nk.mpr (PN (λUK e=>UK (hf _ _ e)) h);symm;refine⟨a,d1,p,q,kvs,_,P0,aN,rfl,P4.at_,P4.hp,P4.hq,.inl g1,vn,TY hP.nd λ_ _=>fc,by lia,hP.ends,λa5 p5 q5 k5 X H5 s5 X5 xp xq xne TZ Vs x1 x2=>?_⟩;have R5:=R4.same s5;symm;refine⟨a',d2,p',q',b_,_,R,K4 ps,rfl,R5.at_,R5.hp,R5.hq,.inl (s5 _ _ g2),vt,TY hR.nd λ_ _=>o.fb_inj,by lia,hR.ends,λa6 p6 q6 k6 Y H6 s6 Y6 yp yq yne ny1 ny2 y1 y2=>?_⟩;have ag:=o.agree x1 x2 y1 y2 Yb Vc;symm;refine⟨a5,p5,q5,a6,p6,q6,k5,k6,X,Y,rfl,X5.mono s6.le,Y6,ag,λz pz qz kz Z H7 s7 wz zp zq zne nz1 nz2 nd1 SD mz1 mz2 lz1 lz2=>?_⟩;symm;refine⟨b9 (by simp),λt8 n8=>?_⟩;obtain⟨H8,e8,f8,m8,_⟩:=b7 (o:= .tup _) n8;rw[e8];have s48:=s5.trans (s6.trans (s7.trans m8));have c1:=x1.length_eq;have c2:=x2.length_eq;have c3:=y1.length_eq;have c4:=y2.length_eq;have q1:=E4 P0;have q2:=E4 R;unfold A8 at c1 c2 c3 c4;rw[Ll] at c1 c2 c3 c4;refine k t8 z pz qz d1 d2 kz Z ns r_ H8 (s4.trans s48) f8 ⟨wz.mono m8.le,m8 _ _ zp,m8 _ _ zq,zne,nd1,SD,λx=>?_,λx=>?_,by lia,by lia,pn,pn',s48 _ _ g1,s48 _ _ g2⟩ (s4.free (s5.free (s6.free nz1))) (m1.free n2) w_
  .rw[mz1,x1.mem_iff,y1.mem_iff]
  .rw[mz2,x2.mem_iff,y2.mem_iff]
def aq (H:Hp)(p q:Addr):Hp:=λx=>if x=p then none else if x=q then none else H x
def E5 {H:Hp}{p q x:Addr}(h1:x≠p)(h2:x≠q):aq H p q x=H x:=by unfold aq;rw[if_neg h1,if_neg h2]
def lL {H:Hp}{p q:Addr}:aq H p q p=none:=by unfold aq;rw[if_pos rfl]
def Aa {H:Hp}{p q:Addr}:aq H p q q=none:=by
 unfold aq;by_cases h:q=p
 .rw[if_pos h]
 .rw[if_neg h,if_pos rfl]
def ig {H:Hp}{p q:Addr}:Same (aq H p q) H:=λb u e=>by
 by_cases h1:b=p
 .rw[h1,lL] at e;cases e
 .by_cases h2:b=q
  .rw[h2,Aa] at e;cases e
  .rwa [E5 h1 h2] at e
def iC {H0 H:Hp}{p q:Addr}(s:Same H0 H)(n1:H0 p=none)(n2:H0 q=none):Same H0 (aq H p q):=λb u e=>by
 rw[E5 (λz=>by rw[z,n1] at e;cases e) (λz=>by rw[z,n2] at e;cases e)];exact s _ _ e
def Mp (P R:x9)(ps:List (Str×Str))(i:Nat)(x:Str×Str):Prop:=(0<i/\x∈(A8 (K4 ps) R).pts)\/(1<i/\x∈(A8 aN P).pts)
def Mt (P R:x9)(ps:List (Str×Str))(i:Nat)(x:Str×N4):Prop:=(0<i/\x∈(A8 (K4 ps) R).ts)\/(1<i/\x∈(A8 aN P).ts)
section
variable {P R:x9} {ps:List (Str×Str)} {i j:Nat}
def Mp.u (ag:sY (A8 aN P) (A8 (K4 ps) R)){n s s':Str}:Mp P R ps i (n,s)->Mp P R ps j (n,s')->s=s':=by
 rintro(⟨_,h⟩|⟨_,h⟩) (⟨_,h'⟩|⟨_,h'⟩)
 .exact j6 ag.y1 h h'
 .exact(ag.cp n s' s h' h).symm
 .exact ag.cp n s s' h h'
 .exact j6 ag.x1 h h'
def Mt.u (ag:sY (A8 aN P) (A8 (K4 ps) R)){n:Str}{s s':N4}:Mt P R ps i (n,s)->Mt P R ps j (n,s')->s=s':=by
 rintro(⟨_,h⟩|⟨_,h⟩) (⟨_,h'⟩|⟨_,h'⟩)
 .exact j6 ag.y2 h h'
 .exact(ag.ct n s' s h' h).symm
 .exact ag.ct n s s' h h'
 .exact j6 ag.x2 h h'
end
def gm (K:Za):Sp:=λvs H Q _=>∃(a p q a' p' q' l:Addr) (kvs b_:List (i6×V)) (P R:x9) (ps:List (Str×Str)) (xs:List V),vs=[.ref a,.ref a',.ref l]/\WebIs 13 K H a p q kvs P/\WebIs 13 K H a' p' q' b_ R/\OV P R ps/\H l=some (.lst xs)/\PrsAt K H xs ps/\ps.length<=30/\
 ∀(t z pz qz d1 d2:Addr) (kz:List (i6×V)) (Z:x9) (ns r_:List Str) (H':Hp),Same H H'->H' t=some (.tup [.ref z,.ref d1,.ref d2])->OW K H' z pz qz d1 d2 kz Z P R ps ns r_->H pz=none->H qz=none->H d1=none->H d2=none->Q (.ref t) H'
def du {nx:List Str}{f:Str->Str}{n:Str}(nd:nx.Nodup)(h:n∈nx):TxtAt (i7 (nx.map λn=>(n,f n))) n/\j8 (i7 (nx.map λn=>(n,f n))) n=f n:=by
 have Uq:((nx.map λn=>(n,f n)).map (·.1)).Nodup:=by
  rw[LH,show((·.1)∘λn:Str=>(n,f n))=id from rfl,ON];exact nd
 have hm:(n,f n)∈nx.map λn=>(n,f n):=Ln.mpr ⟨n,h,rfl⟩;exact⟨⟨_,O1 Uq hm⟩,lX Uq hm⟩
def yS {s:List Str}{i:Nat}{f:Str->Str}(nd:s.Nodup)(hi:i<s.length):s[i]∉((s.take i).map λn=>(n,f n)).map (·.1):=by
 rw[LH,show((·.1)∘λn:Str=>(n,f n))=id from rfl,ON];exact fP nd (Lm hi)
abbrev je:=λP w K mg base=>M7 P w K mg base B6 2 "_law_over" ["_law_piece_here","_law_other","_law_pairs"] [] (gm K)
def qD {f fd}(T:Txt K mg)(O0:fv P w K mg base)(F:Fun K "_law_over" "_law_over" cI f fd):u6 P w K mg base B6 2 f fd ["_law_piece_here","_law_other","_law_pairs"] (gm K):=by
 walk_at "#sc__law_over"
 .obtain⟨a,p,q,a',p',q',l,kvs,b_,P0,R,ps,xs,rfl,_⟩:=h;rfl
 .obtain⟨a,p,q,a',p',q',l,kvs,b_,P0,R,ps,xs,rfl,hP,hR,o,hl,pr,z_,k⟩:=h;have Yb:=hP.len;have Vc:=hR.len;have ag:=o.agree (MS (A8 aN P0).pts) (MS (A8 aN P0).ts) (MS (A8 (K4 ps) R).pts) (MS (A8 (K4 ps) R).ts) Yb Vc;walk_at "@sc__law_over 253U254U255U256U2re3'0O0 90k7Isp073072re3'0O0 91k7Isp074072re02wk7k8xIsp074082reuad7104d7003wk9k:x2rL19wk7k;xI0;5f:07mrL19wk7k<xIdh1<af:1<f:1<6f:078dhd75067304"
  symm;intro d1 nd1;obtain⟨H1,e1,f1,m1,_⟩:=b7 (o:= .dK []) nd1;rw[e1];symm;intro d2 w_;obtain⟨H2,e2,f2,m2,_⟩:=b7 (o:= .dK []) w_;rw[e2];symm;intro pp npp;obtain⟨H3,e3,f3,m3,_⟩:=b7 (o:= .dK []) npp;rw[e3];symm;intro qq nqq;obtain⟨H4,e4,f4,m4,_⟩:=b7 (o:= .dK []) nqq;rw[e4];have s4:=m1.trans (m2.trans (m3.trans m4));have N1:H d1=none:=nd1;have N2:H d2=none:=m1.free w_;have Np:H pp=none:=m1.free (m2.free npp);have Nq:H qq=none:=m1.free (m2.free (m3.free nqq));have TJ:d1≠d2:=d6 f1 w_;have Wc:d1≠pp:=d6 (m2 _ _ f1) npp;have Wd:d1≠qq:=d6 (m3 _ _ (m2 _ _ f1)) nqq;have We:d2≠pp:=d6 f2 npp;have Wf:d2≠qq:=d6 (m3 _ _ f2) nqq;have Wg:pp≠qq:=d6 f3 nqq;have g1:H4 d1=some (.dK []):=m4 _ _ (m3 _ _ (m2 _ _ f1));have g2:H4 d2=some (.dK []):=m4 _ _ (m3 _ _ f2);have g3:H4 pp=some (.dK []):=m4 _ _ f3;clear e1 e2 e3 e4 f1 f2 f3 m1 m2 m3 m4 nd1 w_ npp nqq;symm;refine⟨a,p,q,kvs,P0,rfl,hP.at_.mono s4.le,by lia,λl5 H5 s1 s2 n5 m5 f5 or=>?_⟩;have A_:=or.len;have L_:(s1++s2).Nodup:=or.perm.nodup_iff.mpr hP.nd;have m_:∀n∈s1++s2,n.length<=100:=λn hm=>hP.nl n (or.mem.mp hm);have WD:=or.perm;generalize s1++s2=s at f5 A_ L_ m_ WD;have ne5:l5≠d1:=(d6 g1 n5).symm;refine j7 (SqL.of f5) ?_;refine F5 (n:=s.length) (λi σ H'=>(∃v7,σ=[some (.ref a),some (.ref a'),some (.ref l),some (.ref d1),some (.ref d2),some (.ref pp),some (.ref qq),v7,none,none,none,none,none])/\Same (aq H5 d1 d1) H'/\H' d1=some (.dK (i7 ((s.take i).map λn=>(n,aN n))))) ⟨⟨_,rfl⟩,ig,m5 _ _ g1⟩ (λi σ H' hi hp=>⟨_,.str (s[i]),SqL.of (hp.2.1 _ _ (by rw[E5 ne5 ne5];exact f5)),by rw[Lo,Lm hi];rfl⟩) ?_ ?_
  .rintro bk i v σ H6' H6 hi ⟨⟨v7,rfl⟩,s6,g6⟩ y _ _;obtain⟨rfl,hy⟩:=Itl.get y (SqL.of (s6 _ _ (by rw[E5 ne5 ne5];exact f5)));rw[Lo,Lm hi] at hy;cases hy;have XX:=m_ _ (LM hi);have UK:("a.":Str).length=2:=by decide+kernel
   symm;refine U0 (b9 (by lia)) ?_;symm;refine ae (C6 (k:=Sum.inr s[i]) g6 (b9 (by rw[j5,Ll,Lz];lia)) ?_);rw[dJ (yS L_ hi)];walk_at "X";refine⟨⟨_,rfl⟩,M3 s6 lL,?_⟩;rw[d8,Me,Lm hi,Lr];rfl
  rintro σ H6 ⟨⟨v7,rfl⟩,s6,g6⟩;refine⟨⟨_,SqL.of (s6 _ _ (by rw[E5 ne5 ne5];exact f5)),by rw[Ll];exact Lp _⟩,?_⟩;rw[Lu (Lp _)] at g6;have s06:Same H H6:=(iC (s4.trans m5) N1 N1).trans s6;have k2:H6 d2=some (.dK []):=s6 _ _ (by rw[E5 TJ.symm TJ.symm];exact m5 _ _ g2);have k3:H6 pp=some (.dK []):=s6 _ _ (by rw[E5 Wc.symm Wc.symm];exact m5 _ _ g3);have k4:H6 qq=some (.dK []):=s6 _ _ (by rw[E5 Wd.symm Wd.symm];exact m5 _ _ f4);symm;refine⟨a',p',q',b_,R,rfl,hR.at_.mono s06.le,by lia,λl7 H7 s1' s2' n7 m7 f7 or'=>?_⟩;have hol':=or'.len;have Yd:(s1'++s2').Nodup:=or'.perm.nodup_iff.mpr hR.nd;have Vt:∀n∈s1'++s2',n.length<=100:=λn hm=>hR.nl n (or'.mem.mp hm);have Vd:=or'.perm;generalize s1'++s2'=s' at f7 hol' Yd Vt Vd;have WI:l7≠d2:=(d6 k2 n7).symm;refine j7 (SqL.of f7) ?_;refine F5 (n:=s'.length) (λi σ H'=>(∃v7,σ=[some (.ref a),some (.ref a'),some (.ref l),some (.ref d1),some (.ref d2),some (.ref pp),some (.ref qq),v7,none,none,none,none,none])/\Same (aq H7 d2 d2) H'/\H' d2=some (.dK (i7 ((s'.take i).map λn=>(n,K4 [] n))))) ⟨⟨_,rfl⟩,ig,m7 _ _ k2⟩ (λi σ H' hi hp=>⟨_,.str (s'[i]),SqL.of (hp.2.1 _ _ (by rw[E5 WI WI];exact f7)),by rw[Lo,Lm hi];rfl⟩) ?_ ?_
  .rintro bk i v σ H8' H8 hi ⟨⟨v7,rfl⟩,s8,g8⟩ y _ _;obtain⟨rfl,hy⟩:=Itl.get y (SqL.of (s8 _ _ (by rw[E5 WI WI];exact f7)));rw[Lo,Lm hi] at hy;cases hy;have XX:=Vt _ (LM hi);have UK:("b.":Str).length=2:=by decide+kernel
   symm;refine U0 (b9 (by lia)) ?_;symm;refine ae (C6 (k:=Sum.inr s'[i]) g8 (b9 (by rw[j5,Ll,Lz];lia)) ?_);rw[dJ (yS Yd hi)];walk_at "X";refine⟨⟨_,rfl⟩,M3 s8 lL,?_⟩;rw[d8,Me,Lm hi,Lr];rfl
  rintro σ H8 ⟨⟨v7',rfl⟩,s8,g8⟩;refine⟨⟨_,SqL.of (s8 _ _ (by rw[E5 WI WI];exact f7)),by rw[Ll];exact Lp _⟩,?_⟩;rw[Lu (Lp _)] at g8;have WJ:Same H (aq H7 d2 d2):=iC (s06.trans m7) N2 N2;have nel:l≠d2:=d6 hl N2;have UX:=Mc pr;symm;refine j7 (SqL.of (s8 _ _ (WJ _ _ hl))) ?_;refine F5 (n:=xs.length) (λi σ H'=>(∃v7 v8,σ=[some (.ref a),some (.ref a'),some (.ref l),some (.ref d1),some (.ref d2),some (.ref pp),some (.ref qq),v7,v8,none,none,none,none])/\Same (aq H7 d2 d2) H'/\H' d2=some (.dK (i7 (s'.map λt=>(t,K4 (ps.take i) t))))) ⟨⟨_,_,rfl⟩,s8,g8⟩ (λi σ H' hi hp=>⟨xs,xs[i],SqL.of (hp.2.1 _ _ (WJ _ _ hl)),Lm hi⟩) ?_ ?_
  .rintro bk i v σ H9' H9 hi ⟨⟨v7,v8,rfl⟩,s9,g9⟩ y _ _;obtain⟨rfl,hy⟩:=Itl.get y (SqL.of (s9 _ _ (WJ _ _ hl)));obtain⟨x,hx,t,rfl,ht⟩:=A9 (pr.mono (WJ.trans s9).le) hy;have D_:=LF hx;obtain⟨hn,Yc,_⟩:=o.mem' (n:=x.1) (t:=x.2) D_;have Sr:x.2∉(ps.take i).map (·.2):=by
    rw[Rn];exact fP o.nv (by rw[Lo,hx];rfl)
   have XX:=hP.nl _ hn;have UK:("a.":Str).length=2:=by decide+kernel
   refine K9 ht rfl ?_;symm;refine U0 (b9 (by lia)) ?_;symm;refine ae (C6 (k:=Sum.inr x.2) g9 (b9 (by rw[j5,Ll];lia)) ?_);erw [Ai (Vd.mem_iff.mpr Yc) Sr];walk_at "X";refine⟨⟨_,_,rfl⟩,M3 s9 lL,?_⟩;rw[d8,Me,hx];rfl
  rintro σ H9 ⟨⟨v7',v8',rfl⟩,s9,g9⟩;refine⟨⟨_,SqL.of (s9 _ _ (WJ _ _ hl)),Lp _⟩,?_⟩;rw[Lu (by lia)] at g9;have j1:H9 d1=some (.dK (i7 (s.map λn=>(n,aN n)))):=s9 _ _ (by rw[E5 TJ TJ];exact m7 _ _ g6);have j3:H9 pp=some (.dK []):=s9 _ _ (by rw[E5 We.symm We.symm];exact m7 _ _ k3);have j4:H9 qq=some (.dK []):=s9 _ _ (by rw[E5 Wf.symm Wf.symm];exact m7 _ _ k4);have s09:Same H H9:=WJ.trans s9;symm;refine⟨b9 (by simp),λt1 nt1=>?_⟩;obtain⟨HA,eA,fA,mA,_⟩:=b7 (o:= .tup _) nt1;rw[eA];symm;refine⟨b9 (by simp),λt2 nt2=>?_⟩;obtain⟨HC,eC,fC,mC,_⟩:=b7 (o:= .tup _) nt2;rw[eC];symm;refine⟨b9 (by simp),λlz nlz=>?_⟩;obtain⟨HD,eD,fD,mD,_⟩:=b7 (o:= .lst _) nlz;rw[eD];have Ye:=mA.trans (mC.trans mD);have s0B:Same H (aq HD pp qq):=iC (s09.trans Ye) Np Nq;have hB1:aq HD pp qq d1=some (.dK (i7 (s.map λn=>(n,aN n)))):=(E5 Wc Wd).trans (Ye _ _ j1);have hB2:aq HD pp qq d2=some (.dK (i7 (s'.map λt=>(t,K4 ps t)))):=(E5 We Wf).trans (Ye _ _ g9);have Yf:aq HD pp qq t1=some (.tup [.ref a',.ref d2]):=(E5 (d6 j3 nt1).symm (d6 j4 nt1).symm).trans (mD _ _ (mC _ _ fA));have Yg:aq HD pp qq t2=some (.tup [.ref a,.ref d1]):=(E5 (d6 (mA _ _ j3) nt2).symm (d6 (mA _ _ j4) nt2).symm).trans (mD _ _ fC);have YZ:aq HD pp qq lz=some (.lst [.ref t1,.ref t2]):=(E5 (d6 (mC _ _ (mA _ _ j3)) nlz).symm (d6 (mC _ _ (mA _ _ j4)) nlz).symm).trans fD;have WK:aq HD pp qq pp=none:=lL;have WL:aq HD pp qq qq=none:=Aa;have jD3:=Ye _ _ j3;have jD4:=Ye _ _ j4;have sBD:Same (aq HD pp qq) HD:=ig;generalize aq HD pp qq=HB at s0B hB1 hB2 Yf Yg YZ WK WL sBD;refine j7 (SqL.of fD) ?_;refine F5 (n:=2) (λi σ H'=>(∃v7 v8 v9 v10 v11 UL,σ=[some (.ref a),some (.ref a'),some (.ref l),some (.ref d1),some (.ref d2),some (.ref pp),some (.ref qq),v7,v8,v9,v10,v11,UL])/\Same HB H'/\∃(zp:List (Str×Str)) (zt:List (Str×N4)) (kz:List (i6×V)),H' pp=some (.dK (i7 zp))/\H' qq=some (.dK kz)/\TiesIs K H' kz zt/\(zp.map (·.1)).Nodup/\(zt.map (·.1)).Nodup/\(∀x,x∈zp↔Mp P0 R ps i x)/\(∀x,x∈zt↔Mt P0 R ps i x)/\zp.length<=i*13/\zt.length<=i*13) ⟨⟨_,_,_,_,_,_,rfl⟩,sBD,[],[],[],jD3,jD4,.nil,Ny,Ny,λx=>by simp [Mp],λx=>by simp [Mt],Lp _,Lp _⟩ (λi σ H' hi hp=>⟨_,[V.ref t1,.ref t2][i],SqL.of (hp.2.1 _ _ YZ),Lm hi⟩) ?_ ?_
  .rintro bk i v σ HE' HE hi ⟨⟨v7,v8,v9,v10,v11,UL,rfl⟩,sE,zp,zt,kz,gp,gq,tz,nzp,WE,mzp,XZ,lzp,X'⟩ y _ _;obtain⟨rfl,hy⟩:=Itl.get y (SqL.of (sE _ _ YZ));have dat:∃(tv b db pb qb:Addr) (Y':List (i6×V)) (X:x9) (f:Str->Str) (nx:List Str),v= .ref tv/\HB tv=some (.tup [.ref b,.ref db])/\WebIs 13 K H b pb qb Y' X/\HB db=some (.dK (i7 (nx.map λn=>(n,f n))))/\nx.Perm (b8 X)/\(∀x,Mp P0 R ps (i+1) x↔Mp P0 R ps i x\/x∈(A8 f X).pts)/\(∀x,Mt P0 R ps (i+1) x↔Mt P0 R ps i x\/x∈(A8 f X).ts):=by
    match i,hi,hy with
    |0,_,hy=>
     cases hy
     walk_at "X"
     exact⟨t1,a',d2,p',q',b_,R,K4 ps,s',rfl,Yf,hR,hB2,Vd,λx=>by simp [Mp],λx=>by simp [Mt]⟩
    |1,_,hy=>
     cases hy
     walk_at "X"
     exact⟨t2,a,d1,p,q,kvs,P0,aN,s,rfl,Yg,hP,hB1,WD,λx=>by simp [Mp],λx=>by simp [Mt]⟩
   obtain⟨tv,b,db,pb,qb,Y',X,f,nx,rfl,htv,hX,q_,hnx,mM,mT⟩:=dat;have hXl:=hX.len;rw[E4] at hXl;have hkvb:=hX.at_.ts.length;have XB:=hX.same s0B;have ndx:=hnx.nodup_iff.mpr hX.nd;have Wh:pp≠pb:=λz=>by rw[z,XB.hp] at WK;cases WK
   have Vu:qq≠pb:=λz=>by rw[z,XB.hp] at WL;cases WL
   have Vv:pp≠qb:=λz=>by rw[z,XB.hq] at WK;cases WK
   have Wi:qq≠qb:=λz=>by rw[z,XB.hq] at WL;cases WL
   refine K9 (SqT.of (sE _ _ htv)) rfl ?_;symm;refine b5 (XB.at_.mono sE.le).tup (b6 (j:=0) rfl) ?_;refine D6 (sE _ _ XB.hp) (λYa o1=>?_);refine F5 (n:=(i7 X.pts).length) (λj σ H'=>(∃v7 v8 v11 UL,σ=[some (.ref a),some (.ref a'),some (.ref l),some (.ref d1),some (.ref d2),some (.ref pp),some (.ref qq),v7,v8,some (.ref b),some (.ref db),v11,UL])/\Same (E7 pb o1 (i7 X.pts) HB) H'/\∃(zp:List (Str×Str)),H' pp=some (.dK (i7 zp))/\H' qq=some (.dK kz)/\TiesIs K H' kz zt/\(zp.map (·.1)).Nodup/\(∀x,x∈zp↔Mp P0 R ps i x\/x∈(X.pts.take j).map (λy=>(f y.1,y.2)))/\zp.length<=i*13+j) ⟨⟨_,_,_,_,rfl⟩,lZ sE,zp,by rw[P6 Wh];exact gp,by rw[P6 Vu];exact gq,tz.mono (L0 (o:=o1) (sE _ _ XB.hp)),nzp,λx=>by rw[mzp];simp,by lia⟩ (λj σ H' hj hp=>⟨hp.2.1 _ _ d8,hj⟩) ?_ ?_
   .rintro YO j v σ HF' HF hj ⟨⟨v7,v8,v11,UL,rfl⟩,sF,zp2,gp2,gq2,tz2,nz2,mz2,lz2⟩ ⟨t,kv,f_,nt,rfl,rfl⟩ _ _;obtain⟨x,hx,rfl⟩:=bA f_;have D_:=LF hx;obtain⟨HG,eG,fG,mG,_⟩:=b7 (o:= .tup _) nt;rw[eG];have leG:=(L0 (o:=o1) XB.hp).trans (sF.trans mG).le;have j_:x.1∈nx:=hnx.mem_iff.mpr (mem_nms.mpr (.inl ⟨_,D_⟩));have hg:=du (f:=f) ndx j_;rw[j5] at hj;refine K9 (SqT.of fG) rfl ?_;symm;refine rO (leG.dic (.inl q_)) hg.1 ?_;rw[hg.2];refine ae (C6 (k:=Sum.inr (f x.1)) (mG _ _ gp2) (b9 (by rw[j5];lia)) ?_);have Wj:∀x':Str×Str,x'∈(X.pts.take (j+1)).map (λy=>(f y.1,y.2))↔x'∈(X.pts.take j).map (λy=>(f y.1,y.2))\/x'=(f x.1,x.2):=λx'=>by
     rw[Me,hx,Lr];simp
    have hIn:∀x':Str×Str,(Mp P0 R ps i x'\/x'∈(X.pts.take j).map (λy=>(f y.1,y.2)))->Mp P0 R ps (i+1) x':=λx' h=>(mM x').mpr (h.imp id λz=>by
     obtain⟨y,hy,e⟩:=Ln.mp z;exact Ln.mpr ⟨y,MG hy,e⟩)
    obtain⟨C,ec,nc,mc,lc⟩:=IP (A:=zp2) (n:=f x.1) (s:=x.2) nz2 λWy h=>Mp.u ag (hIn _ ((mz2 _).mp h)) ((mM (f x.1,x.2)).mpr (.inr (Ln.mpr ⟨x,D_,rfl⟩)));rw[ec];walk_at "X";refine⟨⟨_,_,_,_,rfl⟩,M3 (sF.trans mG) (by rw[P6 Wh];exact WK),C,d8,by rw[d9 Wg.symm];exact mG _ _ gq2,dz (mG _ _ gp2) (tz2.mono mG.le),nc,λx'=>?_,by lia⟩;rw[mc,mz2,Wj,Wx]
   .rintro σ HF ⟨⟨v7',v8',v11',v12',rfl⟩,sF,zp2,gp2,gq2,tz2,nz2,mz2,lz2⟩;refine⟨⟨sF _ _ d8,Lp _⟩,?_⟩;rw[j5] at lz2;rw[j5,Lu (Lp _)] at mz2;have mzM:∀x,x∈zp2↔Mp P0 R ps (i+1) x:=λx=>by rw[mz2,mM];rfl
    have sG:=sF.thaw XB.hp;have gpT:thaw pb HF pp=some (.dK (i7 zp2)):=by rw[M8 Wh];exact gp2
    have gqT:thaw pb HF qq=some (.dK kz):=by rw[M8 Vu];exact gq2
    have tzT:TiesIs K (thaw pb HF) kz zt:=tz2.mono le_thaw;generalize thaw pb HF=HG at sG gpT gqT tzT⊢;symm;refine b5 (XB.at_.mono sG.le).tup (b6 (j:=1) rfl) ?_;refine D6 (sG _ _ XB.hq) (λYa o2=>?_);refine F5 (n:=Y'.length) (λj σ H'=>(∃v7 v8 v11 UL,σ=[some (.ref a),some (.ref a'),some (.ref l),some (.ref d1),some (.ref d2),some (.ref pp),some (.ref qq),v7,v8,some (.ref b),some (.ref db),v11,UL])/\Same (E7 qb o2 Y' HB) H'/\∃(zt:List (Str×N4)) (kz:List (i6×V)),H' pp=some (.dK (i7 zp2))/\H' qq=some (.dK kz)/\TiesIs K H' kz zt/\(zt.map (·.1)).Nodup/\(∀x,x∈zt↔Mt P0 R ps i x\/x∈(X.ts.take j).map (λy=>(f y.1,(y.2.1,f y.2.2.1,f y.2.2.2))))/\zt.length<=i*13+j) ⟨⟨_,_,_,_,rfl⟩,lZ sG,zt,kz,by rw[P6 Vv];exact gpT,by rw[P6 Wi];exact gqT,tzT.mono (L0 (o:=o2) (sG _ _ XB.hq)),WE,λx=>by rw[XZ];simp,by lia⟩ (λj σ H' hj hp=>⟨hp.2.1 _ _ d8,hj⟩) ?_ ?_
    .rintro bk3 j v σ HI' HI hj ⟨⟨v7,v8,v11,UL,rfl⟩,sI,zt2,kz2,gp3,gq3,tz3,nz3,mz3,lz3⟩ ⟨t,kv,f_,nt,rfl,rfl⟩ _ _;obtain⟨HJ,eJ,fJ,mJ,_⟩:=b7 (o:= .tup _) nt;rw[eJ];have leJ:=(L0 (o:=o2) XB.hq).trans (sI.trans mJ).le;obtain⟨x,hx,ex,bb,eb,sb⟩:=(XB.at_.ts.mono leJ).get f_;obtain⟨kk,Ur⟩:=kv;have Ux:kk=Sum.inr x.1:=ex;have Ve:Ur= .ref bb:=eb;subst Ux Ve;have D_:=LF hx;have Xv:=hX.ends x D_;obtain⟨x0,x1,x2,x3⟩:=x;have tx:∀n∈b8 X,TxtAt (i7 (nx.map λn=>(n,f n))) n/\j8 (i7 (nx.map λn=>(n,f n))) n=f n:=λn hn=>du (f:=f) ndx (hnx.mem_iff.mpr hn);have h0:=tx x0 (mem_nms.mpr (.inr ⟨_,D_⟩));have h2:=tx x2 (Ls _ Xv.1);have h3:=tx x3 (Ls _ Xv.2);have D:=leJ.dic (.inl q_);have kl3:=tz3.length;refine K9 (SqT.of fJ) rfl ?_;symm;refine b5 sb (b6 (j:=0) rfl) ?_;symm;refine b5 sb (b6 (j:=1) rfl) ?_;refine rO D h2.1 ?_;rw[h2.2];symm;refine b5 sb (b6 (j:=2) rfl) ?_;refine rO D h3.1 ?_;rw[h3.2];symm;refine⟨b9 (by simp),λlK nK=>?_⟩;obtain⟨HK,eK,fK,mK,_⟩:=b7 (o:= .tup (Y7 (x1,f x2,f x3))) nK;change zQ _ _ (upd HJ lK (.tup (Y7 (x1,f x2,f x3)))) _;rw[eK];symm;refine rO (mK.le.dic D) h0.1 ?_;rw[h0.2];refine ae (C6 (k:=Sum.inr (f x0)) (mK _ _ (mJ _ _ gq3)) (b9 (by lia)) ?_);have Y_:=mJ.trans mK;have Wj:∀x':Str×N4,x'∈(X.ts.take (j+1)).map (λy=>(f y.1,(y.2.1,f y.2.2.1,f y.2.2.2)))↔x'∈(X.ts.take j).map (λy=>(f y.1,(y.2.1,f y.2.2.1,f y.2.2.2)))\/x'=(f x0,(x1,f x2,f x3)):=λx'=>by
      rw[Me,hx,Lr];simp
     have hIn:∀x':Str×N4,(Mt P0 R ps i x'\/x'∈(X.ts.take j).map (λy=>(f y.1,(y.2.1,f y.2.2.1,f y.2.2.2))))->Mt P0 R ps (i+1) x':=λx' h=>(mT x').mpr (h.imp id λz=>by
      obtain⟨y,hy,e⟩:=Ln.mp z;exact Ln.mpr ⟨y,MG hy,e⟩)
     obtain⟨C,tc,nc,mc,lc⟩:=DR (b:=(f x0,(x1,f x2,f x3))) (l:=lK) (tz3.mono Y_.le) nz3 (λWy h=>Mt.u ag (hIn _ ((mz3 _).mp h)) ((mT (f x0,(x1,f x2,f x3))).mpr (.inr (Ln.mpr ⟨_,D_,rfl⟩)))) (SqT.of fK);walk_at "X";refine⟨⟨_,_,_,_,rfl⟩,M3 (sI.trans Y_) (by rw[P6 Wi];exact WL),C,_,by rw[d9 Wg];exact Y_ _ _ gp3,d8,dz (Y_ _ _ gq3) tc,nc,λx'=>?_,by lia⟩;rw[mc,mz3,Wj,Wx]
    .rintro σ HI ⟨⟨v7,v8,v11,UL,rfl⟩,sI,zt2,kz2,gp3,gq3,tz3,nz3,mz3,lz3⟩;refine⟨⟨sI _ _ d8,Lp _⟩,?_⟩;rw[hkvb,Lu (Lp _)] at mz3;walk_at "X";refine⟨⟨_,_,_,_,_,_,rfl⟩,sI.thaw XB.hq,zp2,zt2,kz2,by rw[M8 Vv];exact gp3,by rw[M8 Wi];exact gq3,tz3.mono le_thaw,nz2,nz3,mzM,λx=>by rw[mz3,mT];rfl,by lia,by lia⟩
  rintro σ HE ⟨⟨v7,v8,v9,v10,v11,UL,rfl⟩,sE,zp,zt,kz,gp,gq,tz,nzp,WE,mzp,XZ,lzp,X'⟩;refine⟨⟨_,SqL.of (sE _ _ YZ),Lp _⟩,?_⟩;symm;refine⟨b9 (by simp),λt9 n9=>?_⟩;obtain⟨HF,eF,fF,mF,_⟩:=b7 (H:=HE) (o:= .tup [.ref pp,.ref qq]) n9;change zQ _ _ (upd HE t9 (.tup [.ref pp,.ref qq])) _;rw[eF];symm;refine⟨b9 (by simp),λt10 n10=>?_⟩;obtain⟨HG,eG,fG,mG,_⟩:=b7 (o:= .tup _) n10;rw[eG];have WN:=mF.trans mG;have sG:=sE.trans WN;refine k t10 t9 pp qq d1 d2 kz ⟨zp,zt⟩ s s' HG (s0B.trans sG) fG ⟨⟨SqT.of (mG _ _ fF),.inl (WN _ _ gp),.inl (WN _ _ gq),tz.mono WN.le⟩,WN _ _ gp,WN _ _ gq,Wg,nzp,WE,λx=>?_,λx=>?_,lzp,X',WD,Vd,sG _ _ hB1,sG _ _ hB2⟩ Np Nq N1 N2
  .rw[mzp];unfold Mp;simp [or_comm]
  .rw[XZ];unfold Mt;simp [or_comm]
def j9 {t u:TS}{nx:L2.St->Hp->Prop}{rt:V->Hp->Prop}{bk ct:L2.St->Hp->Prop}{σ:L2.St}{H:Hp}(h:∀nx':L2.St->Hp->Prop,(∀σ H,u ⟨nx,rt,bk,ct⟩ σ H->nx' σ H)->t ⟨nx',rt,bk,ct⟩ σ H):Ag t u ⟨nx,rt,bk,ct⟩ σ H:=h _ λ_ _ z=>z
abbrev eS:=λP w K mg base=>M7 P w K mg base B6 1 "first_match" ["piece","web","fixed"] [] (dF K)
def mn {f fd}(T:Txt K mg)(F:Fun K "first_match" "first_match" aP f fd):u6 P w K mg base B6 1 f fd ["piece","web","fixed"] (dF K):=by
 walk_at "#kj"
 .exact h.elim
 .exact h.elim
abbrev nS:=λP w K mg base=>M7 P w K mg base B6 1 "first_found" ["piece","web","piece_looks","web_looks","fixed"] [] (cY K)
def ke {f fd}(T:Txt K mg)(F:Fun K "first_found" "first_found" aT f fd):u6 P w K mg base B6 1 f fd ["piece","web","piece_looks","web_looks","fixed"] (cY K):=by
 walk_at "#mL"
 .exact h.elim
 .exact h.elim
abbrev CZ:=λP w K mg base=>M7 P w K mg base B6 1 "found" ["piece","web","piece_looks","web_looks","fixed","most"] [] (tB K)
def zd {f fd}(T:Txt K mg)(F:Fun K "found" "found" qe f fd):u6 P w K mg base B6 1 f fd ["piece","web","piece_looks","web_looks","fixed","most"] (tB K):=by
 walk_at "#AS"
 .exact h.elim
 .exact h.elim
abbrev Bg:=λP w K mg base=>M7 P w K mg base B6 1 "may_be" ["name","image","fixed"] [] (oJ K)
def xJ {f fd}(T:Txt K mg)(F:Fun K "may_be" "may_be" kr f fd):u6 P w K mg base B6 1 f fd ["name","image","fixed"] (oJ K):=by
 walk_at "#wK"
 .exact h.elim
 .exact h.elim
abbrev jH:=λP w K mg base=>M7 P w K mg base B6 1 "point_choices" ["piece_looks","web_looks","fixed"] [] (bo K)
def iO {f fd}(T:Txt K mg)(F:Fun K "point_choices" "point_choices" X6 f fd):u6 P w K mg base B6 1 f fd ["piece_looks","web_looks","fixed"] (bo K):=by
 walk_at "#ic"
 .exact h.elim
 .exact h.elim
abbrev qT:=λP w K mg base=>M7 P w K mg base B6 1 "tie_places" ["piece","web","fixed"] [] (eE K)
def nM {f fd}(T:Txt K mg)(F:Fun K "tie_places" "tie_places" cj f fd):u6 P w K mg base B6 1 f fd ["piece","web","fixed"] (eE K):=by
 walk_at "#oh"
 .exact h.elim
 .exact h.elim
abbrev yR:=λP w K mg base=>M7 P w K mg base B6 1 "enough" ["lists"] [] (oW K)
def xC {f fd}(T:Txt K mg)(F:Fun K "enough" "enough" mH f fd):u6 P w K mg base B6 1 f fd ["lists"] (oW K):=by
 walk_at "#xV"
 .exact h.elim
 .exact h.elim
abbrev BY:=λP w K mg base=>M7 P w K mg base B6 1 "lines" ["piece","choices","places","most"] [] (sf K)
def zu {f fd}(T:Txt K mg)(F:Fun K "lines" "lines" rj f fd):u6 P w K mg base B6 1 f fd ["piece","choices","places","most"] (sf K):=by
 walk_at "#yh"
 .exact h.elim
 .exact h.elim
abbrev AA:=λP w K mg base=>M7 P w K mg base B6 1 "images" ["piece","choices","places","begun"] [] (pD K)
def xr {f fd}(T:Txt K mg)(F:Fun K "images" "images" nG f fd):u6 P w K mg base B6 1 f fd ["piece","choices","places","begun"] (pD K):=by
 walk_at "#xE"
 .exact h.elim
 .exact h.elim
abbrev ox:=λP w K mg base=>M7 P w K mg base B6 1 "tie_choices" ["piece","places","put","name"] [] (dj K)
def nF {f fd}(T:Txt K mg)(F:Fun K "tie_choices" "tie_choices" aJ f fd):u6 P w K mg base B6 1 f fd ["piece","places","put","name"] (dj K):=by
 walk_at "#ku"
 .exact h.elim
 .exact h.elim
abbrev uo:=λP w K mg base=>M7 P w K mg base B6 1 "has_room" ["piece","places","put","name","image"] [] (iW K)
def tL {f fd}(T:Txt K mg)(F:Fun K "has_room" "has_room" eZ f fd):u6 P w K mg base B6 1 f fd ["piece","places","put","name","image"] (iW K):=by
 walk_at "#sV"
 .exact h.elim
 .exact h.elim
structure Sd where
 a:Addr
 p:Addr
 q:Addr
 kvs:List (i6×V)
 W:x9
def SdIs (K:Za)(H:Hp)(s:Sd):Prop:=WebIs 13 K H s.a s.p s.q s.kvs s.W
def SdIs.same {H H':Hp}{s:Sd}(h:SdIs K H s)(m:Same H H'):SdIs K H' s:=WebIs.same h m
structure RuleIs (K:Za) (H:Hp) (r bl:Addr) (L R:Sd) (bs:List Sd):Prop where
 tup:SqT K H r [.ref L.a,.ref R.a,.ref bl]
 l:SdIs K H L
 r:SdIs K H R
 bl:SqL K H bl (bs.map λs=>V.ref s.a)
 bars:∀b∈bs,SdIs K H b
def RuleIs.same {H H':Hp}{r bl:Addr}{L R:Sd}{bs:List Sd}(h:RuleIs K H r bl L R bs)(m:Same H H'):RuleIs K H' r bl L R bs:=⟨m.tup h.tup,h.l.same m,h.r.same m,m.seq h.bl,λb hb=>(h.bars b hb).same m⟩
def vA (K:Za):Sp:=λvs H Q _=>∃(a p q a' p' q':Addr) (kvs b_:List (i6×V)) (W O:x9),vs=[.ref a,.ref a']/\WebIs 13 K H a p q kvs W/\WebIs 13 K H a' p' q' b_ O/\∀(l:Addr) (H':Hp) (s1 s2:List Str),H l=none->Same H H'->Ordr W s1 s2->H' l=some (.lst (((s1++s2).filter λn=>decide (n∈b8 O)).map V.str))->Q (.ref l) H'
def rG (K:Za):Sp:=λvs H Q _=>∃(a p q a' p' q':Addr) (kvs b_:List (i6×V)) (W O:x9),vs=[.ref a,.ref a']/\WebIs 13 K H a p q kvs W/\WebIs 13 K H a' p' q' b_ O/\∀(l:Addr) (H':Hp) (s1 s2:List Str),H l=none->Same H H'->Ordr W s1 s2->H' l=some (.lst (((s1++s2).filter λn=>!decide (n∈b8 O)).map V.str))->Q (.ref l) H'
def vx (K:Za):Sp:=λvs H Q _=>∃(r bl:Addr) (L R:Sd) (bs:List Sd),vs=[.ref r]/\RuleIs K H r bl L R bs/\∀(l:Addr) (H':Hp) (s1 s2:List Str),H l=none->Same H H'->Ordr L.W s1 s2->H' l=some (.lst (((s1++s2).filter λn=>decide (n∈b8 R.W)).map V.str))->Q (.ref l) H'
def tJ (K:Za):Sp:=λvs H Q _=>∃(r bl:Addr) (L R:Sd) (bs:List Sd),vs=[.ref r]/\RuleIs K H r bl L R bs/\∀(l:Addr) (H':Hp) (s1 s2:List Str),H l=none->Same H H'->Ordr L.W s1 s2->H' l=some (.lst (((s1++s2).filter λn=>!decide (n∈b8 R.W)).map V.str))->Q (.ref l) H'
def iX (K:Za):Sp:=λvs H Q _=>∃(r bl:Addr) (L R:Sd) (bs:List Sd),vs=[.ref r]/\RuleIs K H r bl L R bs/\∀(l:Addr) (H':Hp) (s1 s2:List Str),H l=none->Same H H'->Ordr R.W s1 s2->H' l=some (.lst (((s1++s2).filter λn=>!decide (n∈b8 L.W)).map V.str))->Q (.ref l) H'
abbrev Ak:=λP w K mg base=>M7 P w K mg base B6 2 "both" ["web","other"] [] (vA K)
def Cs {f fd}(T:Txt K mg)(C5:Z2 P w K mg base)(F:Fun K "both" "both" uU f fd):u6 P w K mg base B6 2 f fd ["web","other"] (vA K):=by
 walk_at "#sc_both"
 .obtain⟨a,p,q,a',p',q',kvs,b_,W,O,rfl,_⟩:=h;rfl
 .obtain⟨a,p,q,a',p',q',kvs,b_,W,O,rfl,hW,hO,k⟩:=h;have hWl:=hW.len;walk_at "@sc_both 8jname;1;e3=90c0name,other;MyKbD0011qbD0011q00";symm;refine⟨a,p,q,kvs,W,rfl,hW.at_,by lia,λl1 H1 s1 s2 n1 m1 f1 or=>?_⟩;have hlen:=or.len;refine j7 (SqL.of f1) ?_;refine k8 (n:=(s1++s2).length) (λi out H'=>Same H1 H'/\out=(((s1++s2).take i).filter λn=>decide (n∈b8 O)).map V.str) ⟨Same.refl _,rfl⟩ (λi out H' hi hp=>⟨_,.str ((s1++s2)[i]),SqL.of (hp.1 _ _ f1),by rw[Lo,Lm hi];rfl⟩) ?_ ?_
  .rintro N i v out U' H3 hi ⟨s3,rfl⟩ y hN';obtain⟨rfl,hx⟩:=Itl.get y (SqL.of (s3 _ _ f1));rw[Lo,Lm hi] at hx;cases hx;have O3:=hO.at_.mono (m1.trans s3).le;have e7:(s1++s2).take (i+1)=(s1++s2).take i++[(s1++s2)[i]]:=by rw[Me,Lm hi];rfl
   have n_:=LD (λn=>decide (n∈b8 O)) ((s1++s2).take i);rw[Lz] at n_;have yes:(decide ((s1++s2)[i]∈b8 O))=true->((((s1++s2).take i).filter λn=>decide (n∈b8 O)).map V.str).length<=sizeLine/\N ((((s1++s2).take i).filter λn=>decide (n∈b8 O)).map V.str++[V.str (s1++s2)[i]]) H3:=λhb=>by
    refine⟨b9 (by rw[Ll];lia),hN' _ _ ⟨s3,?_⟩⟩;rw[e7,Mm,Mq (p:=λn=>decide (n∈b8 O)) hb,MN,Lr];rfl
   have no:(decide ((s1++s2)[i]∈b8 O))=false->N ((((s1++s2).take i).filter λn=>decide (n∈b8 O)).map V.str) H3:=λhb=>by
    refine hN' _ _ ⟨s3,?_⟩;rw[e7,Mm,Mr (p:=λn=>decide (n∈b8 O)) (by rw[hb];simp),MN,MD]
   symm;refine⟨rfl,?_⟩;symm;refine b5 O3.tup (b6 (j:=0) rfl) ?_;refine W5 (N0 (k:=Sum.inr (s1++s2)[i]) O3.pts) ?_;rw[O4];symm;refine F9 (λb1=>?_) (λb1=>?_)
   .symm;refine yes (by rw[LN (show(s1++s2)[i]∈b8 O from Ls _ b1)])
   .symm;refine b5 O3.tup (b6 (j:=1) rfl) ?_;refine W5 (N0 (k:=Sum.inr (s1++s2)[i]) O3.ties) ?_;rw[U7 O3.ts];symm;refine F9 (λb2=>?_) (λb2=>?_)
    .symm;refine yes (by rw[LN (show(s1++s2)[i]∈b8 O from LG _ b2)])
    .exact no (by rw[LL (show(s1++s2)[i]∉b8 O from λz=>(LC.mp z).elim b1 b2)])
  .rintro out H3 ⟨s3,rfl⟩;have n_:=LD (λn=>decide (n∈b8 O)) ((s1++s2).take (s1++s2).length);rw[Lz] at n_;refine⟨⟨_,SqL.of (s3 _ _ f1),by rw[Ll];exact Lp _⟩,λD hD=>⟨b9 (by rw[Ll];lia),?_⟩⟩;rw[Lu (Lp _)];obtain⟨H4,e4,f4,m4,_⟩:=b7 (H:=H3) (o:= .lst (((s1++s2).filter λn=>decide (n∈b8 O)).map V.str)) hD;refine k D _ s1 s2 ((m1.trans s3).free hD) ?_ or ?_
   .show Same _ (upd _ D _);rw[e4];exact m1.trans (s3.trans m4)
   .show upd _ D _ D=_;rw[d8]
abbrev pQ:=λP w K mg base=>M7 P w K mg base B6 2 "alone" ["web","other"] [] (rG K)
def zZ {f fd}(T:Txt K mg)(C5:Z2 P w K mg base)(F:Fun K "alone" "alone" qp f fd):u6 P w K mg base B6 2 f fd ["web","other"] (rG K):=by
 walk_at "#sc_alone"
 .obtain⟨a,p,q,a',p',q',kvs,b_,W,O,rfl,_⟩:=h;rfl
 .obtain⟨a,p,q,a',p',q',kvs,b_,W,O,rfl,hW,hO,k⟩:=h;have hWl:=hW.len;walk_at "@sc_alone 8jname;1;e3=90c0name,other;MySb*0011q:b*0011q00";symm;refine⟨a,p,q,kvs,W,rfl,hW.at_,by lia,λl1 H1 s1 s2 n1 m1 f1 or=>?_⟩;have hlen:=or.len;refine j7 (SqL.of f1) ?_;refine k8 (n:=(s1++s2).length) (λi out H'=>Same H1 H'/\out=(((s1++s2).take i).filter λn=>!decide (n∈b8 O)).map V.str) ⟨Same.refl _,rfl⟩ (λi out H' hi hp=>⟨_,.str ((s1++s2)[i]),SqL.of (hp.1 _ _ f1),by rw[Lo,Lm hi];rfl⟩) ?_ ?_
  .rintro N i v out U' H3 hi ⟨s3,rfl⟩ y hN';obtain⟨rfl,hx⟩:=Itl.get y (SqL.of (s3 _ _ f1));rw[Lo,Lm hi] at hx;cases hx;have O3:=hO.at_.mono (m1.trans s3).le;have e7:(s1++s2).take (i+1)=(s1++s2).take i++[(s1++s2)[i]]:=by rw[Me,Lm hi];rfl
   have n_:=LD (λn=>!decide (n∈b8 O)) ((s1++s2).take i);rw[Lz] at n_;have yes:(!decide ((s1++s2)[i]∈b8 O))=true->((((s1++s2).take i).filter λn=>!decide (n∈b8 O)).map V.str).length<=sizeLine/\N ((((s1++s2).take i).filter λn=>!decide (n∈b8 O)).map V.str++[V.str (s1++s2)[i]]) H3:=λhb=>by
    refine⟨b9 (by rw[Ll];lia),hN' _ _ ⟨s3,?_⟩⟩;rw[e7,Mm,Mq (p:=λn=>!decide (n∈b8 O)) hb,MN,Lr];rfl
   have no:(!decide ((s1++s2)[i]∈b8 O))=false->N ((((s1++s2).take i).filter λn=>!decide (n∈b8 O)).map V.str) H3:=λhb=>by
    refine hN' _ _ ⟨s3,?_⟩;rw[e7,Mm,Mr (p:=λn=>!decide (n∈b8 O)) (by rw[hb];simp),MN,MD]
   symm;refine⟨rfl,?_⟩;symm;refine b5 O3.tup (b6 (j:=0) rfl) ?_;refine aA (N0 (k:=Sum.inr (s1++s2)[i]) O3.pts) ?_;rw[O4];symm;refine S9 (λb1=>?_) (λb1=>?_)
   .symm;refine b5 O3.tup (b6 (j:=1) rfl) ?_;refine aA (N0 (k:=Sum.inr (s1++s2)[i]) O3.ties) ?_;rw[U7 O3.ts];symm;refine S9 (λb2=>?_) (λb2=>?_)
    .symm;refine yes (by rw[LL (show(s1++s2)[i]∉b8 O from λz=>(LC.mp z).elim b1 b2)];rfl)
    .exact no (by rw[LN (show(s1++s2)[i]∈b8 O from LG _ b2)];rfl)
   .exact no (by rw[LN (show(s1++s2)[i]∈b8 O from Ls _ b1)];rfl)
  .rintro out H3 ⟨s3,rfl⟩;have n_:=LD (λn=>!decide (n∈b8 O)) ((s1++s2).take (s1++s2).length);rw[Lz] at n_;refine⟨⟨_,SqL.of (s3 _ _ f1),by rw[Ll];exact Lp _⟩,λD hD=>⟨b9 (by rw[Ll];lia),?_⟩⟩;rw[Lu (Lp _)];obtain⟨H4,e4,f4,m4,_⟩:=b7 (H:=H3) (o:= .lst (((s1++s2).filter λn=>!decide (n∈b8 O)).map V.str)) hD;refine k D _ s1 s2 ((m1.trans s3).free hD) ?_ or ?_
   .show Same _ (upd _ D _);rw[e4];exact m1.trans (s3.trans m4)
   .show upd _ D _ D=_;rw[d8]
abbrev yX:=λP w K mg base=>M7 P w K mg base B6 3 "kept" ["rule"] [] (vx K)
def Ca {f fd}(T:Txt K mg)(vg:Ak P w K mg base)(F:Fun K "kept" "kept" vd f fd):u6 P w K mg base B6 3 f fd ["rule"] (vx K):=by
 walk_at "#sc_kept"
 .obtain⟨r,bl,L,R,bs,rfl,_⟩:=h;rfl
 .obtain⟨r,bl,L,R,bs,rfl,hr',k⟩:=h;walk_at "@sc_kept 83'0vg a1010";symm;refine b5 hr'.tup (b6 (j:=0) rfl) ?_;symm;refine b5 hr'.tup (b6 (j:=1) rfl) ?_;symm;exact⟨_,_,_,_,_,_,_,_,_,_,rfl,hr'.l,hr'.r,λl H' s1 s2 n m o f=>k l H' s1 s2 n m o f⟩
abbrev vS:=λP w K mg base=>M7 P w K mg base B6 3 "taken" ["rule"] [] (tJ K)
def Aj {f fd}(T:Txt K mg)(dM:pQ P w K mg base)(F:Fun K "taken" "taken" pY f fd):u6 P w K mg base B6 3 f fd ["rule"] (tJ K):=by
 walk_at "#sc_taken"
 .obtain⟨r,bl,L,R,bs,rfl,_⟩:=h;rfl
 .obtain⟨r,bl,L,R,bs,rfl,hr',k⟩:=h;walk_at "@sc_taken 83'0dM a1010";symm;refine b5 hr'.tup (b6 (j:=0) rfl) ?_;symm;refine b5 hr'.tup (b6 (j:=1) rfl) ?_;symm;exact⟨_,_,_,_,_,_,_,_,_,_,rfl,hr'.l,hr'.r,λl H' s1 s2 n m o f=>k l H' s1 s2 n m o f⟩
abbrev bT:=λP w K mg base=>M7 P w K mg base B6 3 "fresh_of" ["rule"] [] (iX K)
def tQ {f fd}(T:Txt K mg)(dM:pQ P w K mg base)(F:Fun K "fresh_of" "fresh_of" fe f fd):u6 P w K mg base B6 3 f fd ["rule"] (iX K):=by
 walk_at "#sc_fresh_of"
 .obtain⟨r,bl,L,R,bs,rfl,_⟩:=h;rfl
 .obtain⟨r,bl,L,R,bs,rfl,hr',k⟩:=h;walk_at "@sc_fresh_of 83'0dM a1010";symm;refine b5 hr'.tup (b6 (j:=1) rfl) ?_;symm;refine b5 hr'.tup (b6 (j:=0) rfl) ?_;symm;exact⟨_,_,_,_,_,_,_,_,_,_,rfl,hr'.r,hr'.l,λl H' s1 s2 n m o f=>k l H' s1 s2 n m o f⟩
def Dy (ns:List Int)(i j k:Nat)(h:j<=i+k):∃cs:List Int,fq (ns.map V.int) (some (i:Int)) (some (j:Int))=cs.map V.int/\cs.length<=k:=by
 unfold fq;rw[HT.sIx_nat,HT.sIx_nat,←List.map_drop,←Rn];exact⟨_,rfl,by rw[Lz,Nh];lia⟩
section
variable {H:Hp} {p p' z z' q q':Addr}
def Gz {pts o_:List (Str×Str)}(h1:H p=some (.dK (i7 pts)))(h2:H p'=some (.dK (i7 o_)))(pm:pts.Perm o_)(nd:(o_.map (·.1)).Nodup):EqD K H p p' true:=by
 by_cases e:p=p'
 .exact .inl ⟨e,rfl⟩
 .exact Cr e (.inl h1) (.inl h2) pm nd
def HW {kvs b_:List (i6×V)}{ts y_:List (Str×N4)}(h1:H q=some (.dK kvs))(h2:H q'=some (.dK b_))(w:TiesIs K H kvs ts)(w':TiesIs K H b_ y_)(pm:ts.Perm y_)(nd:(y_.map (·.1)).Nodup):EqD K H q q' true:=by
 by_cases e:q=q'
 .exact .inl ⟨e,rfl⟩
 .exact AG e (.inl h1) (.inl h2) w w' pm nd
def CK (h:SqT K H z [.ref p,.ref q])(h':SqT K H z' [.ref p',.ref q'])(e1:EqD K H p p' true)(e2:EqD K H q q' true)(n:Nat):EqN K H (n+1) (.ref z) (.ref z') true:=by
 by_cases e:z=z'
 .subst e;exact EqN.of0 (.inr ⟨z,z,rfl,rfl,.inl ⟨rfl,rfl⟩⟩) _
 .refine .inr ⟨z,z',_,_,[true,true],rfl,rfl,e,.inl ⟨h,h'⟩,rfl,rfl,λj x y b hx hy hb=>?_,rfl⟩;match j,hx,hy,hb with
  |0,hx,hy,hb=>
   cases hx;cases hy;cases hb
   exact EqN.of0 (.inr ⟨p,p',rfl,rfl,e1⟩) _
  |1,hx,hy,hb=>
   cases hx;cases hy;cases hb
   exact EqN.of0 (.inr ⟨q,q',rfl,rfl,e2⟩) _
  |j+2,hx,_,_=>cases hx
def OW.same {H':Hp}{d1 d2:Addr}{kvs:List (i6×V)}{Z P R:x9}{ps:List (Str×Str)}{ns r_:List Str}(h:OW K H z p q d1 d2 kvs Z P R ps ns r_)(s:Same H H'):OW K H' z p q d1 d2 kvs Z P R ps ns r_:=⟨h.at_.mono s.le,s _ _ h.hp,s _ _ h.hq,h.ne,h.n1,h.n2,h.m1,h.m2,h.l1,h.l2,h.a1,h.a2,s _ _ h.h1,s _ _ h.h2⟩
def Ip {ns:List Str}{f:Str->Str}(nd:ns.Nodup):((ns.map λn=>(n,f n)).map (·.1)).Nodup:=by
 rw[LH,show((·.1)∘λn:Str=>(n,f n))=id from rfl,ON];exact nd
end
def WebIs.perm {H:Hp}{a p q:Addr}{kvs:List (i6×V)}{W W':x9}(h:WebAt K H a p q kvs W')(hp:H p=some (.dK (i7 W'.pts)))(hq:H q=some (.dK kvs))(ne:p≠q)(p1:W'.pts.Perm W.pts)(p2:W'.ts.Perm W.ts)(nd:(b8 W).Nodup)(len:(b8 W).length<=13)(ends:∀x∈W.ts,x.2.2.1∈W.pts.map (·.1)/\x.2.2.2∈W.pts.map (·.1))(nl:∀x∈b8 W,x.length<=100)(qm:("?":Str)∉b8 W):WebIs 13 K H a p q kvs W':=by
 have pm:(b8 W').Perm (b8 W):=(p1.map _).append (p2.map _);refine⟨h,hp,hq,ne,pm.nodup_iff.mpr nd,by rw[pm.length_eq];exact len,λx hx=>?_,λx hx=>nl x (pm.mem_iff.mp hx),λz=>qm (pm.mem_iff.mp z)⟩;have z:=ends x (p2.mem_iff.mp hx);exact⟨(p1.map _).mem_iff.mpr z.1,(p1.map _).mem_iff.mpr z.2⟩
structure WPm (A B:x9):Prop where
 p:A.pts.Perm B.pts
 t:A.ts.Perm B.ts
def WPm.nm {A B:x9}(h:WPm A B):(b8 A).Perm (b8 B):=(h.p.map _).append (h.t.map _)
def cJ (K:Za):Sp:=λvs H Q _=>∃(r bl:Addr) (L R:Sd),vs=[.ref r]/\RuleIs K H r bl L R []/\∀(r' Vf:Addr) (L' R':Sd) (H':Hp),Same H H'->RuleIs K H' r' Vf L' R' []->H' Vf=some (.lst [])->WPm L'.W L.W->WPm R'.W R.W->H L'.p=none->H Vf=none->Q (.ref r') H'
abbrev dZ:=λP w K mg base=>M7 P w K mg base B6 3 "rule_copied" ["rule"] [] (cJ K)
def kF {f fd}(T:Txt K mg)(F4:dw P w K mg base)(F:Fun K "rule_copied" "rule_copied" aF f fd):u6 P w K mg base B6 3 f fd ["rule"] (cJ K):=by
 walk_at "#sc_rule_copied"
 .obtain⟨r,bl,L,R,rfl,_⟩:=h;rfl
 .obtain⟨r,bl,L,R,rfl,hR,k⟩:=h;have Wk:=hR.l.len;have Vc:=hR.r.len;rw[E4] at Wk Vc;walk_at "@sc_rule_copied 8dh3<410a3<410jbar;;e10c0bar;n3<90";symm;refine b5 hR.tup (b6 (j:=0) rfl) ?_;symm;refine⟨L.a,L.p,L.q,L.kvs,L.W,rfl,hR.l.at_,E9 hR.l.nd,N7 hR.l.nd,by lia,by lia,λa1 p1 q1 k1 W1 H1 m1 h1 Um VS ne1 np1 nq1 e1 e2=>?_⟩;symm;refine b5 (m1.tup hR.tup) (b6 (j:=1) rfl) ?_;symm;refine⟨R.a,R.p,R.q,R.kvs,R.W,rfl,(hR.same m1).r.at_,E9 hR.r.nd,N7 hR.r.nd,by lia,by lia,λa2 p2 q2 k2 W2 H2 m2 h2 ZI U_ ne2 np2 nq2 e3 e4=>?_⟩;have J_:=m1.trans m2;symm;refine b5 (J_.tup hR.tup) (b6 (j:=2) rfl) ?_;refine j7 (J_.seq hR.bl) ?_;refine k8 (n:=0) (λi out H'=>H'=H2/\out=[]) ⟨rfl,rfl⟩ (λi out H' hi _=>absurd hi (Pt _)) (λN i x out H' H'' hi=>absurd hi (Pt _)) ?_;rintro out U' ⟨rfl,rfl⟩;refine⟨⟨_,J_.seq hR.bl,Lp _⟩,λl3 n3=>⟨b9 (by simp),?_⟩⟩;obtain⟨H3,e5,f3,m3,_⟩:=b7 (H:=U') (o:= .lst []) n3;change um _ (upd U' l3 (.lst [])) _;rw[e5];symm;refine⟨b9 (by simp),λl4 n4=>?_⟩;obtain⟨H4,e6,f4,m4,_⟩:=b7 (o:= .tup _) n4;rw[e6];have Yh:=m3.trans m4;have Vg:=m2.trans Yh;have B1:WebIs 13 K H4 a1 p1 q1 k1 W1:=WebIs.perm (h1.mono Vg.le) (Vg _ _ Um) (Vg _ _ VS) ne1 e1 e2 hR.l.nd hR.l.len hR.l.ends hR.l.nl hR.l.qm;have B2:WebIs 13 K H4 a2 p2 q2 k2 W2:=WebIs.perm (h2.mono Yh.le) (Yh _ _ ZI) (Yh _ _ U_) ne2 e3 e4 hR.r.nd hR.r.len hR.r.ends hR.r.nl hR.r.qm;exact k l4 l3 ⟨a1,p1,q1,k1,W1⟩ ⟨a2,p2,q2,k2,W2⟩ H4 (J_.trans Yh) ⟨SqT.of f4,B1,B2,SqL.of (m4 _ _ f3),λ_ h=>nomatch h⟩ (m4 _ _ f3) ⟨e1,e2⟩ ⟨e3,e4⟩ np1 (J_.free n3)
structure Frs (L R:x9) (us:List Str):Prop where
 nd:us.Nodup
 mem:∀n,n∈us↔n∈b8 R/\n∉b8 L
def eU (K:Za):Sp:=λvs H Q _=>∃(r bl:Addr) (L R:Sd) (v:V) (mk:Str),vs=[.ref r,v,.str mk]/\RuleIs K H r bl L R []/\mk.length<=10/\∀(st f:Addr) (us:List Str) (H':Hp),Same H H'->H' st=some (.tup [.ref r,v,.ref f])->H' f=some (.dK (i7 (us.map λn=>(n,mk++n))))->Frs L.W R.W us->(∃t1 t2,Ordr R.W t1 t2/\us=(t1++t2).filter λn=>!decide (n∈b8 L.W))->Q (.ref st) H'
abbrev fQ:=λP w K mg base=>M7 P w K mg base B6 4 "named_step" ["rule","match","mark"] [] (eU K)
def oi {f fd}(T:Txt K mg)(J1:bT P w K mg base)(F:Fun K "named_step" "named_step" bZ f fd):u6 P w K mg base B6 4 f fd ["rule","match","mark"] (eU K):=by
 walk_at "#sc_named_step"
 .obtain⟨r,bl,L,R,v,mk,rfl,_⟩:=h;rfl
 .obtain⟨r,bl,L,R,v,mk,rfl,hR,hmk,k⟩:=h;have Vc:=hR.r.len;walk_at "@sc_named_step 8dh0071v4jname;2;e3'0J1 90c0name,mark;nd70s0100";symm;refine⟨r,bl,L,R,[],rfl,hR,λl1 H1 s1 s2 n1 m1 or f1=>?_⟩;have A_:=or.len;have L_:((s1++s2).filter λn=>!decide (n∈b8 L.W)).Nodup:=(or.perm.nodup_iff.mpr hR.r.nd).sublist NN;have VT:Frs L.W R.W ((s1++s2).filter λn=>!decide (n∈b8 L.W)):=⟨L_,λn=>by rw[LW,or.mem,Nw,MR]⟩
  have UG:((s1++s2).filter λn=>!decide (n∈b8 L.W)).length<=13:=by
   have z:=LD (λn=>!decide (n∈b8 L.W)) (s1++s2);lia
  have WO:∃t1 t2,Ordr R.W t1 t2/\((s1++s2).filter λn=>!decide (n∈b8 L.W))=(t1++t2).filter λn=>!decide (n∈b8 L.W):=⟨s1,s2,or,rfl⟩
  generalize (s1++s2).filter (λn=>!decide (n∈b8 L.W))=s at f1 L_ VT UG WO;refine j7 (SqL.of f1) ?_;refine k8 (n:=s.length) (λi out H'=>Same H1 H'/\Paired (PrV K H') out (i7 ((s.take i).map λn=>(n,mk++n)))) ⟨Same.refl _,.nil⟩ (λi out H' hi hp=>⟨_,.str (s[i]),SqL.of (hp.1 _ _ f1),by rw[Lo,Lm hi];rfl⟩) ?_ ?_
  .rintro N i v out H2' H2 hi ⟨s2',pr⟩ y hN';obtain⟨rfl,hy⟩:=Itl.get y (SqL.of (s2' _ _ f1));rw[Lo,Lm hi] at hy;cases hy;have XX:=hR.r.nl _ ((VT.mem _).mp (LM hi)).1;have z_:=Mc pr;rw[j5,Ll,Lz] at z_;symm;refine⟨rfl,?_⟩;symm;refine U0 (b9 (by lia)) ?_;symm;refine⟨b9 (by simp),λl3 n3=>?_⟩;obtain⟨H3,e3,f3,m3,_⟩:=b7 (o:= .tup _) n3;rw[e3];refine⟨b9 (by lia),hN' _ _ ⟨s2'.trans m3,?_⟩⟩;rw[Me,Lm hi,Lr];unfold i7 at pr⊢;rw[Lr];exact r6 (Paired.imp' (λ_ _ z=>PrV.mono m3.le z) pr) ⟨l3,rfl,SqT.of f3⟩
  .rintro out H2 ⟨s2',pr⟩;have z_:=Mc pr;rw[j5,Ll,Lz] at z_;rw[Lu (Lp _)] at pr;refine⟨⟨_,SqL.of (s2' _ _ f1),by rw[Ll];exact Lp _⟩,λD hD=>⟨b9 (by lia),?_⟩⟩;obtain⟨H3,e3,f3,m3,_⟩:=b7 (H:=H2) (o:= .lst out) hD;symm;change iI K _ (upd H2 D _) _;rw[e3];refine E2 (SqL.of f3) (Paired.imp' (λ_ _ z=>PrV.mono m3.le z) pr) (b9 (by rw[j5,Ll];lia)) (λd w_=>?_);have Uq:((s.map λn=>(n,mk++n)).map (·.1)).Nodup:=by
    rw[LH,show((·.1)∘λn:Str=>(n,mk++n))=id from rfl,ON];exact L_
   rw[J5 (V3 Uq)];obtain⟨H4,e4,f4,m4,_⟩:=b7 (o:= .dK (i7 (s.map λn=>(n,mk++n)))) w_;rw[e4];symm;refine⟨b9 (by simp),λl5 n5=>?_⟩;obtain⟨H5,e5,f5,m5,_⟩:=b7 (o:= .tup _) n5;rw[e5];exact k l5 d s H5 (m1.trans (s2'.trans (m3.trans (m4.trans m5)))) f5 (m5 _ _ f4) VT WO
def BarL (K:Za)(H:Hp)(r:Addr)(xs:List V):Prop:=∃(x y:V) (bl:Addr),SqT K H r [x,y,.ref bl]/\SqL K H bl xs
def BarL.same {H H':Hp}{r:Addr}{xs:List V}(h:BarL K H r xs)(s:Same H H'):BarL K H' r xs:=by
 obtain⟨x,y,bl,h1,h2⟩:=h;exact⟨x,y,bl,s.tup h1,s.seq h2⟩
def cS (K:Za):Sp:=λvs H Q E=>∃(l r1 r2:Addr) (xs ys:List V),vs=[.ref l]/\SqL K H l [.ref r1,.ref r2]/\BarL K H r1 xs/\BarL K H r2 ys/\((0<xs.length+ys.length/\∀H' e,Same H H'->H' e=none->E (.ref (cA K "HasBars")) (some e) H')\/(xs=[]/\ys=[]/\∀H',Same H H'->Q .non H'))
abbrev aI:=λP w K mg base=>M7 P w K mg base (gY P w) 1 "refuse_bars" ["rules"] [] (cS K)
def kc {f fd}(T:Txt K mg)(F:Fun K "refuse_bars" "refuse_bars" aK f fd):u6 P w K mg base (gY P w) 1 f fd ["rules"] (cS K):=by
 refine F.okE sc_refuse_bars (λvs H Q E h=>?_) (λc_ A outer s H vs Q E hr h=>?_)
 .obtain⟨l,r1,r2,xs,ys,rfl,_⟩:=h;rfl
 .obtain⟨l,r1,r2,xs,ys,rfl,hl,b1,b2,hk⟩:=h;walk_at "@sc_refuse_bars miTt'2HY (A'0T.b_any ~g4jrule;;e00c0rule;nF;l4106gm@'0T.r_HasBars 4p";symm;refine j7 hl ?_;refine k8 (n:=2) (λi out H'=>Same H H'/\out=[V.bl (decide (0<(xs.length:Int))),V.bl (decide (0<(ys.length:Int)))].take i) ⟨Same.refl _,rfl⟩ (λi out H' hi hp=>by
   match i,hi with
   |0,_=>exact⟨_,.ref r1,hp.1.seq hl,rfl⟩
   |1,_=>exact⟨_,.ref r2,hp.1.seq hl,rfl⟩) ?_ ?_
  .rintro N i v out H1' H1 hi ⟨s1,rfl⟩ y hN';obtain⟨rfl,hx⟩:=Itl.get y (s1.seq hl);obtain⟨r,zs,rfl,hz,e⟩:∃(r:Addr) (zs:List V),v= .ref r/\BarL K H r zs/\[V.bl (decide (0<(xs.length:Int))),V.bl (decide (0<(ys.length:Int)))][i]?=some (.bl (decide (0<(zs.length:Int)))):=by
    match i,hi with
    |0,_=>cases hx;exact⟨r1,xs,rfl,b1,rfl⟩
    |1,_=>cases hx;exact⟨r2,ys,rfl,b2,rfl⟩
   obtain⟨x,y',bl,h1,h2⟩:=hz.same s1;symm;refine⟨rfl,?_⟩;symm;refine b5 h1 (b6 (j:=2) rfl) ?_;refine E8 (p9 h2 ?_);symm;refine⟨b9 (by simp;lia),hN' _ _ ⟨s1,?_⟩⟩;rw[Me,e];rfl
  .rintro out H1 ⟨s1,rfl⟩;refine⟨⟨_,s1.seq hl,Lp _⟩,λD hD=>⟨b9 (by simp),?_⟩⟩;obtain⟨H2,e2,f2,m2,_⟩:=b7 (H:=H1) (o:= .lst [V.bl (decide (0<(xs.length:Int))),V.bl (decide (0<(ys.length:Int)))]) hD;symm;change Gj K _ (upd H1 D (.lst [V.bl (decide (0<(xs.length:Int))),V.bl (decide (0<(ys.length:Int)))])) _;rw[e2];refine⟨D,[decide (0<(xs.length:Int)),decide (0<(ys.length:Int))],rfl,SqL.of f2,?_⟩;have s2:=s1.trans m2;rcases hk with⟨N_,k⟩|⟨rfl,rfl,k⟩
   .rw[show List.any [decide (0<(xs.length:Int)),decide (0<(ys.length:Int))] id=true by
     show(decide _||(decide _||false))=true;rw[SF,Qt,LA,LA];lia]
    symm;exact⟨b9 (by simp),λe he=>k H2 e s2 he⟩
   .symm;exact k H2 s2
structure StO (K:Za) (H:Hp) (s r d f bl:Addr) (L R L' R':Sd) (mk:Str) (us:List Str):Prop where
 st:H s=some (.tup [.ref r,.ref d,.ref f])
 ru:RuleIs K H r bl L' R' []
 b:H bl=some (.lst [])
 l:WPm L'.W L.W
 r:WPm R'.W R.W
 f:H f=some (.dK (i7 (us.map λn=>(n,mk++n))))
 u:Frs L.W R.W us
 ks:∃t1 t2,Ordr R'.W t1 t2/\us=(t1++t2).filter λn=>!decide (n∈b8 L'.W)
def StO.same {H H':Hp}{s r d f bl:Addr}{L R L' R':Sd}{mk:Str}{us:List Str}(h:StO K H s r d f bl L R L' R' mk us)(m:Same H H'):StO K H' s r d f bl L R L' R' mk us:=⟨m _ _ h.st,h.ru.same m,m _ _ h.b,h.l,h.r,m _ _ h.f,h.u,h.ks⟩
def Frs.perm {L R L' R':x9}{us:List Str}(h:Frs L' R' us)(l:WPm L' L)(r:WPm R' R):Frs L R us:=⟨h.nd,λn=>by rw[h.mem,l.nm.mem_iff,r.nm.mem_iff]⟩
def RuleIs.barL {H:Hp}{r bl:Addr}{L R:Sd}(h:RuleIs K H r bl L R []):BarL K H r []:=⟨_,_,_,h.tup,h.bl⟩
def cP (K : Za) : Sp := λvs H Q E => ∃ (r1 r2 : Addr) (v : V), vs = [.ref r1, .ref r2, v] /\
  ((∃ xs ys, BarL K H r1 xs /\ BarL K H r2 ys /\ 0 < xs.length + ys.length /\ ∀ H' e, Same H H' -> H' e = none -> E (.ref (cA K "HasBars")) (some e) H') \/
   ∃ (b1 b2 : Addr) (L1 R1 L2 R2 : Sd), RuleIs K H r1 b1 L1 R1 [] /\ RuleIs K H r2 b2 L2 R2 [] /\ ((BadV K H L1.W L2.W v /\ ∀ H' e, Same H H' -> H' e = none -> E (.ref (cA K "NoOverlap")) (some e) H') \/ ∃ ps, GoodV K H L1.W L2.W v ps /\
     ∀ (t z pz qz d1 d2 s1 q1 f1 c1 s2 q2 f2 c2 : Addr) (kz : List (i6 × V)) (Z : x9) (ns r_ us C_ : List Str) (SI Tc K_ Td : Sd) (H' : Hp), Same H H' -> H' t = some (.tup [.ref z, .ref s1, .ref s2]) -> OW K H' z pz qz d1 d2 kz Z L1.W L2.W ps ns r_ -> StO K H' s1 q1 d1 f1 c1 L1 R1 SI Tc "c." us -> StO K H' s2 q2 d2 f2 c2 L2 R2 K_ Td "d." C_ -> Q (.ref t) H'))
abbrev eQ:=λP w K mg base=>M7 P w K mg base (gY P w) 5 "split_steps" ["rule","other","pairs"] [] (cP K)
def kS {f fd}(T:Txt K mg)(K3:aI P w K mg base)(aX:dY P w K mg base)(X9:fQ P w K mg base)(V6:dZ P w K mg base)(F:Fun K "split_steps" "split_steps" aV f fd):u6 P w K mg base (gY P w) 5 f fd ["rule","other","pairs"] (cP K):=by
 refine F.okE sc_split_steps (λvs H Q E h=>?_) (λc_ A outer s H vs Q E hr h=>?_)
 .obtain⟨r1,r2,v,rfl,_⟩:=h;rfl
 .obtain⟨r1,r2,v,rfl,hv⟩:=h;walk_at "@sc_split_steps 2NP'0K3 -4u7001253P'0aX -h10a11022543'0X9 h3'0V6 90a13p8dh13743'0X9 h3'0V6 91a13p"
  refine j9 λTZ hx=>?_;rfl';refine⟨b9 (by simp),λl1 n1=>?_⟩;obtain⟨H1,e1,f1,m1,_⟩:=b7 (o:= .lst [.ref r1,.ref r2]) n1;rw[e1];rfl';rcases hv with⟨xs,ys,bx,bby,N_,k⟩|⟨b1,b2,L1,R1,L2,R2,h1,h2,hv⟩
  .exact⟨l1,r1,r2,xs,ys,rfl,SqL.of f1,bx.same m1,bby.same m1,.inl ⟨N_,λH' e s he=>k H' e (m1.trans s) he⟩⟩
  refine⟨l1,r1,r2,[],[],rfl,SqL.of f1,(h1.same m1).barL,(h2.same m1).barL,.inr ⟨rfl,rfl,λH2 s2=>?_⟩⟩;rfl';refine hx [some (.ref r1),some (.ref r2),some v,none,none] _ ?_;clear hx;have m2:=m1.trans s2;have A2:=h1.same m2;have B2:=h2.same m2;refine j9 λVs hx=>?_;rfl';refine b5 A2.tup (b6 (j:=0) rfl) ?_;rfl';refine b5 B2.tup (b6 (j:=0) rfl) ?_;rfl';rcases hv with⟨bad,k⟩|⟨ps,good,k⟩
  .exact⟨_,_,_,_,_,_,_,_,L1.W,L2.W,v,rfl,A2.l,B2.l,.inl ⟨bad.same m2,λH' e s he=>k H' e (m2.trans s) he⟩⟩
  refine⟨_,_,_,_,_,_,_,_,L1.W,L2.W,v,rfl,A2.l,B2.l,.inr ⟨ps,good.same m2,λt z pz qz d1 d2 kz Z ns r_ H3 s3 ft ow npz nd1 w_=>?_⟩⟩;have m3:=m2.trans s3;have A3:=h1.same m3;have B3:=h2.same m3;rfl';refine hx [some (.ref r1),some (.ref r2),some v,some (.ref t),none] _ ?_;clear hx;refine j9 λWQ hx=>?_;rfl';refine⟨r1,b1,L1,R1,rfl,A3,λq1 c1 SI Tc H4 s4 Q1 C1 wl1 wr1 nl1 _=>?_⟩;rfl';refine b5 (s4.tup (SqT.of ft)) (b6 (j:=1) rfl) ?_;rfl';refine⟨q1,c1,SI,Tc,.ref d1,"c.",rfl,Q1,by decide+kernel,λt1 f1 us H5 s5 ft1 ff1 Rw Xw=>?_⟩;rfl';refine hx [some (.ref r1),some (.ref r2),some v,some (.ref t),some (.ref t1)] _ ?_;clear hx;have S1:StO K H5 t1 q1 d1 f1 c1 L1 R1 SI Tc "c." us:=⟨ft1,Q1.same s5,s5 _ _ C1,wl1,wr1,ff1,Rw.perm wl1 wr1,Xw⟩
  have WR:=s4.trans s5;rfl';refine b5 (WR.tup (SqT.of ft)) (b6 (j:=0) rfl) ?_;rfl';refine⟨r2,b2,L2,R2,rfl,B3.same WR,λq2 c2 K_ Td H6 s6 Q2 C2 wl2 wr2 _ nc2=>?_⟩;have s36:=WR.trans s6;rfl';refine b5 (s36.tup (SqT.of ft)) (b6 (j:=2) rfl) ?_;rfl';refine⟨q2,c2,K_,Td,.ref d2,"d.",rfl,Q2,by decide+kernel,λt2 f2 C_ H7 s7 ft2 Yi Sq Tq=>?_⟩;have S2:StO K H7 t2 q2 d2 f2 c2 L2 R2 K_ Td "d." C_:=⟨ft2,Q2.same s7,s7 _ _ C2,wl2,wr2,Yi,Sq.perm wl2 wr2,Tq⟩
  rfl';refine⟨b9 (by simp),λt8 n8=>?_⟩;obtain⟨H8,e8,f8,m8,_⟩:=b7 (o:= .tup _) n8;rw[e8];have s38:=s36.trans (s7.trans m8);exact k t8 z pz qz d1 d2 t1 q1 f1 c1 t2 q2 f2 c2 kz Z ns r_ us C_ SI Tc K_ Td H8 (m3.trans s38) f8 (ow.same s38) (S1.same (s6.trans (s7.trans m8))) (S2.same m8)
def Fb {H:Hp}{n kd o1 o2:Str}{kL:List (i6×V)}{TL:List (Str×N4)}{l:Addr}(w:TiesIs K H kL TL)(h:n∉TL.map (·.1))(hl:SqT K H l (Y7 (kd,o1,o2))):TiesIs K H (G3 kL (Sum.inr n:i6) (.ref l)) (TL++[(n,(kd,o1,o2))]):=by
 rw[P8 _ (F8 (by rw[w.keys,←A4];exact λm=>h (V7 m)))];exact r6 w ⟨rfl,l,rfl,hl⟩
structure RP (K:Za) (H H':Hp) (p q:Addr) (L:x9) (ss:List Str) (pts:List (Str×Str)) (kvs:List (i6×V)) (ts:List (Str×N4)):Prop where
 sm:Same H H'
 hp:H' p=some (.dK (i7 pts))
 hq:H' q=some (.dK kvs)
 w:TiesIs K H' kvs ts
 n1:(pts.map (·.1)).Nodup
 n2:(ts.map (·.1)).Nodup
 i1:∀x∈pts,x∈L.pts\/x.1∈ss.drop 5
 i2:∀x∈ts,x∈L.ts\/x.1∈ss.drop 7
 e:∀x∈ts,x.2.2.1∈pts.map (·.1)/\x.2.2.2∈pts.map (·.1)
def RP.mono {H H' H2:Hp}{p q:Addr}{L:x9}{ss:List Str}{pts:List (Str×Str)}{kvs:List (i6×V)}{ts:List (Str×N4)}(h:RP K H H' p q L ss pts kvs ts)(s:Same H' H2):RP K H H2 p q L ss pts kvs ts:=⟨h.sm.trans s,s _ _ h.hp,s _ _ h.hq,h.w.mono s.le,h.n1,h.n2,h.i1,h.i2,h.e⟩
def RP.setP {H H':Hp}{p q:Addr}{L:x9}{ss:List Str}{pts:List (Str×Str)}{kvs:List (i6×V)}{ts:List (Str×N4)}{n kd:Str}(h:RP K H H' p q L ss pts kvs ts)(np:H p=none)(ne:p≠q)(hn:n∉pts.map (·.1))(hi:(n,kd)∈L.pts\/n∈ss.drop 5):RP K H (upd H' p (.dK (i7 (pts++[(n,kd)])))) p q L ss (pts++[(n,kd)]) kvs ts:=by
 refine⟨M3 h.sm np,d8,by rw[d9 ne.symm];exact h.hq,dz h.hp h.w,by rw[Lr];exact Q6 h.n1 hn,h.n2,λx hx=>?_,h.i2,λx hx=>?_⟩
 .rcases LC.mp hx with z|z
  .exact h.i1 x z
  .rw[LV.mp z];exact hi
 .have z:=h.e x hx;rw[Lr];exact⟨Ls _ z.1,Ls _ z.2⟩
def RP.setT {H H':Hp}{p q l:Addr}{L:x9}{ss:List Str}{pts:List (Str×Str)}{kvs:List (i6×V)}{ts:List (Str×N4)}{n kd o1 o2:Str}(h:RP K H H' p q L ss pts kvs ts)(nq:H q=none)(ne:p≠q)(hn:n∉ts.map (·.1))(hl:SqT K H' l (Y7 (kd,o1,o2)))(hi:(n,(kd,o1,o2))∈L.ts\/n∈ss.drop 7)(h1:o1∈pts.map (·.1))(h2:o2∈pts.map (·.1)):RP K H (upd H' q (.dK (G3 kvs (Sum.inr n:i6) (.ref l)))) p q L ss pts (G3 kvs (Sum.inr n:i6) (.ref l)) (ts++[(n,(kd,o1,o2))]):=by
 refine⟨M3 h.sm nq,by rw[d9 ne];exact h.hp,d8,dz h.hq (Fb h.w hn hl),h.n1,by rw[Lr];exact Q6 h.n2 hn,h.i1,λx hx=>?_,λx hx=>?_⟩
 .rcases LC.mp hx with z|z
  .exact h.i2 x z
  .rw[LV.mp z];exact hi
 .rcases LC.mp hx with z|z
  .exact h.e x z
  .rw[LV.mp z];exact⟨h1,h2⟩
structure Fe (L R:x9) (ss:List Str):Prop where
 i1:∀x∈R.pts,x∈L.pts\/x.1∈ss.drop 5
 i2:∀x∈R.ts,x∈L.ts\/x.1∈ss.drop 5
def eN (K:Za):Sp:=λvs H Q _=>∃(L:Sd) (ln lk:Addr) (ss ks:List Str) (b:Int),vs=[.ref L.a,.ref ln,.int b,.ref lk]/\SdIs K H L/\SqL K H ln (ss.map V.str)/\SqL K H lk (ks.map V.str)/\ss.length=8/\ss.Nodup/\(∀s∈ss,s.length<=100)/\("?":Str)∉ss/\(∀n∈b8 L.W,n∈ss.take 5)/\(b8 L.W).length<=5/\0<ks.length/\ks.length<=2/\0<=b/\
 ∀(R:Sd) (H':Hp),Same H H'->SdIs K H' R->Fe L.W R.W ss->Q (.ref R.a) H'
def ay {α:Type}[DecidableEq α]{l m:List α}(nd:l.Nodup)(h:∀x∈l,x∈m):l.length<=m.length:=by
 induction l generalizing m with
 |nil=>exact Ov _
 |cons a r ih=>
  rw[MP] at nd
  have ha:=h a Lv
  have z:=ih (m:=m.erase a) nd.2 λx hx=>(Se λe=>nd.1 (by rw[←e];exact hx)).mpr (h x (Lw _ hx))
  rw[Rb ha] at z
  have:=List.length_pos_of_mem ha
  rw[Mv];lia
abbrev gc:=λP w K mg base=>M7 P w K mg base B6 1 "_law_right" ["_law_left","_law_names_here","_law_bits","_law_kinds"] [] (eN K)
def nY {f fd}(T:Txt K mg)(F:Fun K "_law_right" "_law_right" bw f fd):u6 P w K mg base B6 1 f fd ["_law_left","_law_names_here","_law_bits","_law_kinds"] (eN K):=by
 walk_at "#sc__law_right"
 .obtain⟨L,ln,lk,ss,ks,b,rfl,_⟩:=h;rfl
 .obtain⟨L,ln,lk,ss,ks,b,rfl,hL,hN',hK,UG,hsn,hs1,hqm,j_,hL5,Uz,Tq,J',k⟩:=h;have hLn:=hL5;rw[E4] at hLn;have T_:∀n∈ss.take 5,n∉ss.drop 5:=λn h1 h2=>by
   have z:=hsn;rw[←ML 5 ss] at z;exact(LU.mp z).2.2 n h1 n h2 rfl
  obtain⟨s6,g6,h6⟩:∃s,ss[6]?=some s/\s∈ss.drop 5:=⟨ss[6],Lm (by lia),LF (i:=1) (by rw[NB];exact Lm (by lia))⟩
  obtain⟨s7,g7,h7⟩:∃s,ss[7]?=some s/\s∈ss.drop 7:=⟨ss[7],Lm (by lia),LF (i:=0) (by rw[NB];exact Lm (by lia))⟩
  have Zb:∀n∈ss.drop 7,n∈ss.drop 5:=λn hn=>by
   have e:ss.drop 7=(ss.drop 5).drop 2:=by rw[PU]
   rw[e] at hn;exact MZ hn
  have s67:s6∉ss.drop 7:=λz=>by
   obtain⟨j,hj⟩:=MV z;rw[NB] at hj;have z1:7+j<ss.length:=(Mf.mp hj).1;have:=(List.getElem?_inj z1 hsn).mp (hj.trans g6.symm);lia
  walk_at "@sc__law_right 254U255U2r~c4GO410wk6k7xmibBo~3o~2020666gIC10074072r~c4GO410wk6k7x258C1007miySbBo~3o~202s60666gSbD1804q:bD1804qI085072ibBo~3o~202666gI13411259GO942iySbBo~3o~202666g:b;l996gIdhf3~k6af9EoJ026l99f9EoJ026l995118d7405"
  refine j9 λTZ hx=>?_;rfl';intro p np;obtain⟨H1,e1,f1,m1,_⟩:=b7 (o:= .dK []) np;rw[e1];rfl';refine hx [some (.ref L.a),some (.ref ln),some (.int b),some (.ref lk),some (.ref p),none,none,none,none,none] _ ?_;clear hx;refine j9 λVs hx=>?_;rfl';intro q nq;obtain⟨H2,e2,f2,m2,_⟩:=b7 (o:= .dK []) nq;rw[e2];rfl';refine hx [some (.ref L.a),some (.ref ln),some (.int b),some (.ref lk),some (.ref p),some (.ref q),none,none,none,none] _ ?_;clear hx;have H_:p≠q:=d6 f1 nq;have XR:H q=none:=m1.free nq;have J_:=m1.trans m2;have r0:RP K H H2 p q L.W ss [] [] []:=⟨J_,m2 _ _ f1,f2,.nil,Ny,Ny,(λ_ h=>nomatch h),(λ_ h=>nomatch h),λ_ h=>nomatch h⟩
  have K_:=hL.same J_;refine j9 λWQ hx=>?_;rfl';refine b5 K_.at_.tup (b6 (j:=0) rfl) ?_;rfl';refine D4 (ss:=L.W.pts.map (·.1)) K_.at_.pts (by rw[D5,A4]) (by rw[Ll];lia) (λs1 a1 a2 l3 n3=>?_);obtain⟨H3,e3,f3,m3,_⟩:=b7 (o:= .lst _) n3;rw[e3];have hs1l:=a1.length_eq;rw[Ll] at hs1l;have nd1:s1.Nodup:=a1.nodup_iff.mpr (E9 hL.nd);have Yj:l3≠p:=(d6 (m2 _ _ f1) n3).symm;rfl';refine⟨_,rfl,.inl ⟨l3,_,rfl,SqL.of f3,?_⟩⟩;refine kI (n:=s1.length) (λi σ H'=>(∃v6 v7,σ=[some (.ref L.a),some (.ref ln),some (.int b),some (.ref lk),some (.ref p),some (.ref q),v6,v7,none,none])/\H' l3=some (.lst (s1.map V.str))/\∃pts,RP K H H' p q L.W ss pts [] []/\(∀x∈pts,x∈L.W.pts)/\∀x∈pts.map (·.1),x∈s1.take i) ⟨⟨_,_,rfl⟩,f3,[],r0.mono m3,(λ_ h=>nomatch h),λ_ h=>nomatch h⟩ (λi σ H' hi hp=>⟨_,.str (s1[i]),SqL.of hp.2.1,by rw[Lo,Lm hi];rfl⟩) ?_ ?_
  .clear hx;rintro i v σ H4 YX hi ⟨⟨v6,v7,rfl⟩,f4,pts,rp,pin,Vw⟩ ⟨t,x,hx,nt,rfl,rfl⟩ _ _;have I_:=hx _ (SqL.of f4);have ex:s1[i]?=some s1[i]:=Lm hi;rw[Lo,ex] at I_;cases I_;obtain⟨H5,e5,f5,m5,_⟩:=b7 (o:= .tup _) nt;rw[e5];have e7:s1.take (i+1)=s1.take i++[s1[i]]:=by rw[Me,ex];rfl
   have Vq:s1[i]∉s1.take i:=fP nd1 ex;obtain⟨⟨n',kd⟩,hy,en⟩:=Ln.mp (a1.mem_iff.mp (LM hi));have en:n'=s1[i]:=en;subst en;generalize s1[i]=n at ex e7 Vq hy f5⊢;have Zc:=rp.mono m5;have L5:=hL.same Zc.sm;refine K9 (SqT.of f5) rfl ?_;rfl';refine F9 (λc1=>?_) (λc1=>?_)
   .rfl';refine b5 L5.at_.tup (b6 (j:=0) rfl) ?_;rfl';refine F2 (v:= .str kd) (by have z:=N0 (k:=Sum.inr n) L5.at_.pts;rw[O1 (E9 hL.nd) hy] at z;exact z) ?_;rfl';have z_:pts.length<=i:=by
     have z:=ay rp.n1 Vw;rw[Ll,Lz] at z;lia
    refine ae (C6 (k:=Sum.inr n) Zc.hp (b9 (by rw[j5];lia)) ?_);rw[dJ (λz=>Vq (Vw n z))];walk_at "X";refine⟨⟨_,_,rfl⟩,by rw[d9 Yj];exact m5 _ _ f4,pts++[(n,kd)],Zc.setP np H_ (λz=>Vq (Vw n z)) (.inl hy),λx hx=>?_,λx hx=>?_⟩
    .rcases LC.mp hx with z|z
     .exact pin x z
     .rw[LV.mp z];exact hy
    .rw[Lr] at hx;rw[e7];rcases LC.mp hx with z|z
     .exact Ls _ (Vw x z)
     .exact LG _ z
   .rfl';exact⟨⟨_,_,rfl⟩,m5 _ _ f4,pts,Zc,pin,λx hx=>by rw[e7];exact Ls _ (Vw x hx)⟩
  rintro σ H4 ⟨⟨v6,v7,rfl⟩,f4,pts,rp,pin,Vw⟩;refine⟨⟨_,SqL.of f4,by rw[Ll];exact Lp _⟩,?_⟩;refine hx [some (.ref L.a),some (.ref ln),some (.int b),some (.ref lk),some (.ref p),some (.ref q),v6,v7,none,none] H4 ?_;clear hx;have z_:pts.length<=L.W.pts.length:=by
   have z:=ay rp.n1 Vw;rw[Ll,Lz] at z;lia
  clear r0 K_ f3 f4 f1 f2 e1 e2 e3 m1 m2 m3 n3 Yj Vw;have L4:=hL.same rp.sm;refine j9 λZd hx=>?_;rfl';refine b5 L4.at_.tup (b6 (j:=1) rfl) ?_;rfl';refine D4 (ss:=L.W.ts.map (·.1)) L4.at_.ties (by rw[L4.at_.ts.keys,A4]) (by rw[Ll];lia) (λs2 b1 b2 l5 n5=>?_);obtain⟨H5,e5,f5,m5,_⟩:=b7 (o:= .lst _) n5;rw[e5];have hs2l:=b1.length_eq;rw[Ll] at hs2l;have w_:s2.Nodup:=b1.nodup_iff.mpr (N7 hL.nd);have Yk:l5≠q:=(d6 rp.hq n5).symm;rfl';refine⟨_,rfl,.inl ⟨l5,_,rfl,SqL.of f5,?_⟩⟩;refine kI (n:=s2.length) (λi σ H'=>(∃v6 v7 v8,σ=[some (.ref L.a),some (.ref ln),some (.int b),some (.ref lk),some (.ref p),some (.ref q),v6,v7,v8,none])/\H' l5=some (.lst (s2.map V.str))/\∃kvs ts,RP K H H' p q L.W ss pts kvs ts/\(∀x∈ts,x∈L.W.ts)/\∀x∈ts.map (·.1),x∈s2.take i) ⟨⟨_,_,_,rfl⟩,f5,[],[],rp.mono m5,(λ_ h=>nomatch h),λ_ h=>nomatch h⟩ (λi σ H' hi hp=>⟨_,.str (s2[i]),SqL.of hp.2.1,by rw[Lo,Lm hi];rfl⟩) ?_ ?_
  .clear hx;rintro i v σ H6 H6' hi ⟨⟨v6,v7,v8,rfl⟩,f6,kvs,ts,rp,Yl,Wl⟩ ⟨t,x,hx,nt,rfl,rfl⟩ _ _;have I_:=hx _ (SqL.of f6);have ex:s2[i]?=some s2[i]:=Lm hi;rw[Lo,ex] at I_;cases I_;obtain⟨H7,e7',f7,m7,_⟩:=b7 (o:= .tup _) nt;rw[e7'];have e7:s2.take (i+1)=s2.take i++[s2[i]]:=by rw[Me,ex];rfl
   have Vq:s2[i]∉s2.take i:=fP w_ ex;have Vh:=b1.mem_iff.mp (LM hi);generalize s2[i]=n at ex e7 Vq Vh f7⊢;have Wm:=rp.mono m7;have L7:=hL.same Wm.sm;have WA:=Wm.w.length;obtain⟨aa,⟨y1,y2,y3⟩,q1,q2,q3⟩:=TiesIs.val (ts:=L.W.ts) L7.at_.ts Vh;have stay:(∃w6 w7 w8,[some (V.ref L.a),some (.ref ln),some (.int b),some (.ref lk),some (.ref p),some (.ref q),some (.int (i:Int)),some (.str n),some (.ref aa),none]=[some (.ref L.a),some (.ref ln),some (.int b),some (.ref lk),some (.ref p),some (.ref q),w6,w7,w8,none])/\H7 l5=some (.lst (s2.map V.str))/\∃kvs ts,RP K H H7 p q L.W ss pts kvs ts/\(∀x∈ts,x∈L.W.ts)/\∀x∈ts.map (·.1),x∈s2.take (i+1):=⟨⟨_,_,_,rfl⟩,m7 _ _ f6,kvs,ts,Wm,Yl,λx hx=>by rw[e7];exact Ls _ (Wl x hx)⟩
   refine K9 (SqT.of f7) rfl ?_;rfl';refine j9 λnx5 hx=>?_;rfl';refine b5 L7.at_.tup (b6 (j:=1) rfl) ?_;rfl';refine F2 (v:= .ref aa) (by have z:=N0 (k:=Sum.inr n) L7.at_.ties;rw[q1] at z;exact z) ?_;rfl';refine hx [some (.ref L.a),some (.ref ln),some (.int b),some (.ref lk),some (.ref p),some (.ref q),some (.int (i:Int)),some (.str n),some (.ref aa),none] _ ?_;clear hx;rfl';refine F9 (λc1=>?_) (λc1=>?_)
   .rfl';refine b5 q3 (b6 (j:=1) rfl) ?_;rfl';refine W5 (N0 (k:=Sum.inr y2) (.inl Wm.hp)) ?_;rw[O4];rfl';refine F9 (λc2=>?_) (λc2=>?_)
    .rfl';refine b5 q3 (b6 (j:=2) rfl) ?_;rfl';refine W5 (N0 (k:=Sum.inr y3) (.inl Wm.hp)) ?_;rw[O4];rfl';refine F9 (λc3=>?_) (λc3=>?_)
     .have htl:ts.length<=i:=by
       have z:=ay rp.n2 Wl;rw[Ll,Lz] at z;lia
      have nn:n∉ts.map (·.1):=λz=>Vq (Wl n z);rfl';refine ae (C6 (k:=Sum.inr n) Wm.hq (b9 (by lia)) ?_);walk_at "X";refine⟨⟨_,_,_,rfl⟩,by rw[d9 Yk];exact m7 _ _ f6,_,_,Wm.setT XR H_ nn q3 (.inl q2) c2 c3,λx hx=>?_,λx hx=>?_⟩
      .rcases LC.mp hx with z|z
       .exact Yl x z
       .rw[LV.mp z];exact q2
      .rw[Lr] at hx;rw[e7];rcases LC.mp hx with z|z
       .exact Ls _ (Wl x z)
       .exact LG _ z
     .rfl';exact stay
    .rfl';exact stay
   .rfl';exact stay
  rintro σ H6 ⟨⟨v6,v7,v8,rfl⟩,f6,kvs,ts,rp,Yl,Wl⟩;refine⟨⟨_,SqL.of f6,by rw[Ll];exact Lp _⟩,?_⟩;refine hx [some (.ref L.a),some (.ref ln),some (.int b),some (.ref lk),some (.ref p),some (.ref q),v6,v7,v8,none] H6 ?_;clear hx;have htl:ts.length<=L.W.ts.length:=by
   have z:=ay rp.n2 Wl;rw[Ll,Lz] at z;lia
  clear f5 f6 e5 m5 n5 Yk L4 Wl;refine j9 λnx6 hx=>?_;suffices go:∀(o_:List (Str×Str)) (H':Hp),RP K H H' p q L.W ss o_ kvs ts->o_.length<=L.W.pts.length+1->(∀x∈o_.map (·.1),x∉ss.drop 7)->nx6 [some (.ref L.a),some (.ref ln),some (.int b),some (.ref lk),some (.ref p),some (.ref q),v6,v7,v8,none] H' by
   have Ym:∀x∈pts.map (·.1),x∈ss.take 5:=λx hx=>by
    obtain⟨y,hy,rfl⟩:=Ln.mp hx;exact j_ _ (Ls _ (Ln.mpr ⟨y,pin y hy,rfl⟩))
   rfl';refine F9 (λc1=>?_) (λc1=>?_)
   .rfl';obtain⟨kd,Tv,_⟩:=K0 (ss:=ks) (i:=0) (by lia) (by lia);refine k9 (rp.sm.seq hK) Tv ?_;rfl';refine k9 (rp.sm.seq hN') (b6 (j:=6) (by rw[Lo,g6];rfl)) ?_;have nn:s6∉pts.map (·.1):=λz=>T_ _ (Ym _ z) h6;refine ae (C6 (k:=Sum.inr s6) rp.hp (b9 (by rw[j5];lia)) ?_);rw[dJ nn];refine go _ _ (rp.setP np H_ nn (.inr h6)) (by rw[LB,Mu];lia) λx hx=>?_;rw[Lr] at hx;rcases LC.mp hx with z|z
    .exact λy=>T_ _ (Ym _ z) (Zb _ y)
    .rw[show x=s6 by simpa using z];exact s67
   .rfl';exact go pts H6 rp (by lia) λx hx y=>T_ _ (Ym _ hx) (Zb _ y)
  clear rp pin z_;intro pts H7 rp z_ Ym;refine hx _ _ ?_;clear hx;refine j9 λnx7 hx=>?_;rfl';refine D4 (ss:=pts.map (·.1)) (.inl rp.hp) (by rw[D5,A4]) (by rw[Ll];lia) (λs3 a3 _ l8 n8=>?_);obtain⟨H8,e8,f8,m8,_⟩:=b7 (o:= .lst _) n8;rw[e8];have TK:=a3.length_eq;rw[Ll] at TK;have rp:=rp.mono m8;rfl';refine hx [some (.ref L.a),some (.ref ln),some (.int b),some (.ref lk),some (.ref p),some (.ref q),v6,v7,v8,some (.ref l8)] _ ?_;clear hx e8;refine j9 λnx8 hx=>?_;suffices go:∀(b_:List (i6×V)) (y_:List (Str×N4)) (H':Hp),RP K H H' p q L.W ss pts b_ y_->y_.length<=L.W.ts.length+1->nx8 [some (.ref L.a),some (.ref ln),some (.int b),some (.ref lk),some (.ref p),some (.ref q),v6,v7,v8,some (.ref l8)] H' by
   rfl';refine F9 (λc1=>?_) (λc1=>?_)
   .rfl';refine E8 (p9 (SqL.of f8) ?_);rw[Ll,TK];rfl';refine F9 (λc2=>?_) (λc2=>?_)
    .have N_:0<pts.length:=by lia
     rfl';obtain⟨kd,Tv,hkm⟩:=yN (xs:=ks.map V.str) (by rw[Ll];exact Uz);obtain⟨kd',_,rfl⟩:=Ln.mp hkm;refine k9 (rp.sm.seq hK) Tv ?_;rfl';refine E8 (p9 (SqL.of f8) ?_);rw[Ll,TK];rfl';obtain⟨o1,To,XT⟩:=K0 (ss:=s3) (i:=b/1024 % (pts.length:Int)) (MM _ (by lia)) (by rw[TK];exact MC _ (by lia));refine k9 (SqL.of f8) To ?_;rfl';refine E8 (p9 (SqL.of f8) ?_);rw[Ll,TK];rfl';obtain⟨o2,S',XU⟩:=K0 (ss:=s3) (i:=b/4096 % (pts.length:Int)) (MM _ (by lia)) (by rw[TK];exact MC _ (by lia));refine k9 (SqL.of f8) S' ?_;rfl';refine⟨b9 (by simp),λl9 n9=>?_⟩;obtain⟨H9,e9,f9,m9,_⟩:=b7 (o:= .tup (Y7 (kd',o1,o2))) n9;change Dg _ _ _ _ _ (upd H8 l9 (.tup (Y7 (kd',o1,o2)))) _;rw[e9];have Ze:=rp.mono m9;rfl';refine k9 (Ze.sm.seq hN') (b6 (j:=7) (by rw[Lo,g7];rfl)) ?_;have nn:s7∉ts.map (·.1):=λz=>by
      obtain⟨y,hy,e⟩:=Ln.mp z;have e:y.1=s7:=e;exact T_ _ (j_ _ (LG _ (Ln.mpr ⟨y,Yl y hy,rfl⟩))) (by rw[e];exact Zb _ h7)
     have WA:=Ze.w.length;refine ae (C6 (k:=Sum.inr s7) Ze.hq (b9 (by lia)) ?_);exact go _ _ _ (Ze.setT XR H_ nn (SqT.of f9) (.inr h7) (a3.mem_iff.mp XT) (a3.mem_iff.mp XU)) (by rw[LB,Mu];lia)
    .rfl';exact go kvs ts H8 rp (by lia)
   .rfl';exact go kvs ts H8 rp (by lia)
  clear rp Yl htl;intro kvs ts H9 rp htl;refine hx _ _ ?_;clear hx;rfl';refine⟨b9 (by simp),λla na=>?_⟩;obtain⟨HA,eA,fA,mA,_⟩:=b7 (o:= .tup [.ref p,.ref q]) na;rw[eA];have rp:=rp.mono mA;have XG:∀x∈pts.map (·.1)++ts.map (·.1),x∈ss:=λx hx=>by
   rcases LC.mp hx with z|z
   .obtain⟨y,hy,rfl⟩:=Ln.mp z;rcases rp.i1 y hy with z|z
    .exact MG (j_ _ (Ls _ (Ln.mpr ⟨y,z,rfl⟩)))
    .exact MZ z
   .obtain⟨y,hy,rfl⟩:=Ln.mp z;rcases rp.i2 y hy with z|z
    .exact MG (j_ _ (LG _ (Ln.mpr ⟨y,z,rfl⟩)))
    .exact MZ z
  refine k ⟨la,p,q,kvs,⟨pts,ts⟩⟩ HA rp.sm ⟨⟨SqT.of fA,.inl rp.hp,.inl rp.hq,rp.w⟩,rp.hp,rp.hq,H_,LU.mpr ⟨rp.n1,rp.n2,λx hx y hy e=>?_⟩,by rw[E4];show pts.length+ts.length<=13;lia,rp.e,λx hx=>hs1 x (XG x hx),λhx=>hqm (XG _ hx)⟩ ⟨rp.i1,λx hx=>(rp.i2 x hx).imp id (Zb _)⟩;subst e;obtain⟨y1,TX,rfl⟩:=Ln.mp hx;obtain⟨y2,Vb,e2⟩:=Ln.mp hy;have e2:y2.1=y1.1:=e2;rcases rp.i2 y2 Vb with z|z
  .have z':y1.1∈L.W.ts.map (·.1):=by rw[←e2];exact Ln.mpr ⟨y2,z,rfl⟩
   rcases rp.i1 y1 TX with w|w
   .exact(LU.mp hL.nd).2.2 _ (Ln.mpr ⟨y1,w,rfl⟩) _ z' rfl
   .exact T_ _ (j_ _ (LG _ z')) w
  .exact Ym _ hx (by rw[←e2];exact z)
def gj (K:Za):Sp:=λvs H Q _=>∃(lc lk:Addr) (cs:List Int) (ks:List Str),vs=[.ref lc,.ref lk]/\SqL K H lc (cs.map V.int)/\cs.length<=5/\SqL K H lk (ks.map V.str)/\0<ks.length/\ks.length<=2/\
 ∀(r bl:Addr) (L R:Sd) (ss:List Str) (H':Hp),Same H H'->RuleIs K H' r bl L R []->Fe L.W R.W ss->ss.Nodup->(∀n∈b8 L.W,n∈ss.take 5)->(∀s∈ss,cw s=true)->L.W.pts.length<=3->L.W.ts.length<=3->ss.length=8->Q (.ref r) H'
abbrev jt:=λP w K mg base=>M7 P w K mg base B6 3 "_law_rule" ["_law_cells","_law_kinds"] [] (gj K)
def qi {f fd}(T:Txt K mg)(F7:bK P w K mg base)(bV:fW P w K mg base)(bB:gv P w K mg base)(bI:gc P w K mg base)(F:Fun K "_law_rule" "_law_rule" dn f fd):u6 P w K mg base B6 3 f fd ["_law_cells","_law_kinds"] (gj K):=by
 walk_at "#sc__law_rule"
 .obtain⟨lc,lk,cs,ks,rfl,_⟩:=h;rfl
 .obtain⟨lc,lk,cs,ks,rfl,hC,R_,hK,Uz,Tq,k⟩:=h;walk_at "@sc__law_rule 2523|at'2Kb (A'0T.b_sum '0Boot.«sum» 4j_law_k;0;{4l90c0_law_k,_law_cells;n3|af1000062533'0bV 7262543'0bB h~400'0Kk [h03h6a6018dh04a3'0bI h04h03aoJ02601u+"
  refine j9 λTZ hx=>?_;rfl';refine E8 (p9 hC ?_);rw[Ll];refine jY (by lia) (by lia) ?_;refine k8 (n:=cs.length) (λi out H'=>H'=H/\∃ms:List Int,out=ms.map V.int/\ms.length=i) ⟨rfl,[],rfl,rfl⟩ (λi out H' hi _=>by show i<((cs.length:Nat):Int).toNat;lia) ?_ ?_
  .rintro N i v out H1' H1 hi ⟨rfl,ms,rfl,hml⟩ ⟨rfl,rfl⟩ hN';rfl';refine⟨rfl,?_⟩;rfl';refine k9 hC (i:=0+(i:Int)) (v:= .int cs[i]) (by rw[Oc];exact b6 (by rw[Lo,Lm hi];rfl)) ?_;rfl';refine⟨cs[i],0+(i:Int),rfl,by lia,by lia,λmx hmx=>?_⟩;exact⟨b9 (by rw[Ll];lia),hN' _ _ ⟨rfl,ms++[mx],by rw[Lr];rfl,by rw[LB,hml];rfl⟩⟩
  rintro out H1 ⟨rfl,ms,rfl,hml⟩;refine⟨by show((cs.length:Nat):Int).toNat<=cs.length;lia,λlm nlm=>⟨b9 (by rw[Ll];lia),?_⟩⟩;obtain⟨H2,e2,f2,m2,_⟩:=b7 (H:=H1) (o:= .lst (ms.map V.int)) nlm;rfl';change Cm K _ (upd H1 lm _) _;rw[e2];refine GU (SqL.of f2) ?_;rfl';refine⟨_,77,rfl,by lia,by lia,λc hc=>?_⟩;rfl';refine hx [some (.ref lc),some (.ref lk),some (.int c),none,none] _ ?_;clear hx;refine j9 λVs hx=>?_;rfl';refine⟨c,rfl,hc,λln H3 ss n3 m3 f3 ⟨hs1,UD,hs3,hs4,hs5⟩=>?_⟩;rfl';refine hx [some (.ref lc),some (.ref lk),some (.int c),some (.ref ln),none] _ ?_;clear hx;have m23:=m2.trans m3;refine j9 λWQ hx=>?_;rfl';refine kD (m23.seq hC) (λl4 n4=>?_);obtain⟨ds,Wz,hdl⟩:∃ds:List Int,fq (cs.map V.int) none (some 5)=ds.map V.int/\ds.length<=5:=by
   unfold fq;rw[←List.map_drop,←Rn];exact⟨_,rfl,by rw[Lz,Nh];lia⟩
  rw[Wz];obtain⟨H4,e4,f4,m4,_⟩:=b7 (o:= .lst (ds.map V.int)) n4;rw[e4];have Vg:=m23.trans m4;rfl';refine⟨l4,ln,lk,ds,ss,ks,rfl,SqL.of f4,SqL.of (m4 _ _ f3),Vg.seq hK,hdl,hs1,Uz,Tq,UD,λs hs=>Mh (hs3 s hs) (by decide),hs4,λa p q kvs W H5 m5 hW j_ hW5 hp3 ht3=>?_⟩;rfl';refine hx [some (.ref lc),some (.ref lk),some (.int c),some (.ref ln),some (.ref a)] _ ?_;clear hx;have m25:=Vg.trans m5;have Vi:=m4.trans m5;rfl';refine⟨⟨a,p,q,kvs,W⟩,ln,lk,ss,ks,c/7,rfl,hW,SqL.of (Vi _ _ f3),m25.seq hK,hs1,UD,λs hs=>Mh (hs3 s hs) (by decide),hs4,j_,hW5,Uz,Tq,by lia,λR H6 m6 hR hrt=>?_⟩;rfl';refine⟨b9 (by simp),λlb nb=>?_⟩;obtain⟨H7,e7,f7,m7,_⟩:=b7 (o:= .lst []) nb;rw[e7];rfl';refine⟨b9 (by simp),λlr nr=>?_⟩;obtain⟨H8,e8,f8,m8,_⟩:=b7 (o:= .tup _) nr;rw[e8];have Wn:=m7.trans m8;have L8:SdIs K H8 ⟨a,p,q,kvs,W⟩:=WebIs.same hW (m6.trans Wn);exact k lr lb ⟨a,p,q,kvs,W⟩ R ss H8 (m25.trans (m6.trans Wn)) ⟨SqT.of f8,L8,hR.same Wn,SqL.of (m8 _ _ f7),λ_ h=>nomatch h⟩ hrt UD j_ hs5 hp3 ht3 hs1
def EV {t:String}(h:t≠"str"):cg t "str"=false:=by
 unfold cg;have e1:(t=="str")=false:=by simpa using h
 rw[e1];simp
abbrev gy:=λP w K mg base=>M7 P w K mg base B6 1 "is_text_of" ["thing","signs","most"] [] (ee K)
def nX {f fd}(T:Txt K mg)(F:Fun K "is_text_of" "is_text_of" bS f fd):u6 P w K mg base B6 1 f fd ["thing","signs","most"] (ee K):=by
 walk_at "#sc_is_text_of"
 .obtain⟨v,signs,most,rfl,_⟩:=h;rfl
 .obtain⟨v,signs,most,rfl,h⟩:=h;walk_at "@sc_is_text_of 2iy'2jx HtZYX70W~8~7~6Kb'0uR l906gb;l9002gz8t&%#4jsign;1;e00c0sign,signs;nFD0001q"
  rcases h with⟨x,rfl,hx,k⟩|⟨⟨t,ty,ht⟩,k⟩
  .symm;refine cu (cm (t:="str") rfl (by simp) ?_);symm;rw[if_neg (by decide)];symm;refine E8 (pF (b9 hx) ?_);symm;refine F9 (λh1=>?_) (λh1=>?_)
   .symm;have e:R8 x signs most=false:=by
     unfold R8;rw[LL (by lia)];rfl
    rw[←e];exact k H (Same.refl H)
   .symm;refine E8 (pF (b9 hx) ?_);symm;refine F9 (λh2=>?_) (λh2=>?_)
    .symm;have e:R8 x signs most=false:=by
      unfold R8;rw[LL (show ¬((x.length:Int)<=most) by lia)];simp
     rw[←e];exact k H (Same.refl H)
    .symm;refine k8 (n:=x.cps.size) (λi out H'=>H'=H/\out=(x.cps.toList.take i).map λc=>V.bl (decide (c∈signs.cps.toList))) ⟨rfl,rfl⟩ (λi out H' hi _=>by exact hi) ?_ ?_
     .rintro N i v out H1 H2 hi ⟨rfl,rfl⟩ y hN;obtain⟨rfl,c,hc,rfl⟩:=Its.lt y;symm;refine⟨rfl,?_⟩;symm;refine⟨b9 (by rw[Ll,Lz,←uW];lia),hN _ _ ⟨rfl,?_⟩⟩;exact K2 (λc=>V.bl (decide (c∈signs.cps.toList))) hc
     .rintro out H1 ⟨rfl,rfl⟩;refine⟨Lp _,λD hD=>⟨b9 (by rw[Ll,Lz,←uW];lia),?_⟩⟩;symm;refine jq (bs:=x.cps.toList.map λc=>decide (c∈signs.cps.toList)) (SqL.of ?_) ?_
      .show upd H1 D _ D=_;rw[d8,Lu (by simp),LH];rfl
      .have e:R8 x signs most=(x.cps.toList.map λc=>decide (c∈signs.cps.toList)).all id:=by
        unfold R8 sk;rw[LN (show 1<=(x.length:Int) by lia),LN (show(x.length:Int)<=most by lia),Nc];rfl
       rw[←e];exact k _ λb o q=>by
        show upd H1 D _ b=_;rw[d9 (d6 q hD)];exact q
  .symm;refine cu (cm ty (by simp) ?_);rw[EV ht];symm;exact k H (Same.refl H)
def yJ {x:Str}(h:1<=(x.length:Int)):rJ x.cps.toList 0=some (x.cps.toList.headD 0):=by
 refine b6 (j:=0) ?_;have hl:=uW x;cases e:x.cps.toList with
 |nil=>rw[e] at hl;simp at hl;lia
 |cons c r=>rfl
abbrev oX:=λP w K mg base=>M7 P w K mg base B6 2 "is_name" ["thing"] [] (kC K)
def uw {f fd}(T:Txt K mg)(bG:gy P w K mg base)(F:Fun K "is_name" "is_name" iD f fd):u6 P w K mg base B6 2 f fd ["thing"] (kC K):=by
 walk_at "#sc_is_name"
 .obtain⟨v,rfl,_⟩:=h;rfl
 .obtain⟨v,rfl,h⟩:=h;walk_at "@sc_is_name 8'2De 3'0bG h00a'1Jv '0T.c_NAME_SIGNS '1Jv '0T.c_MOST_NAME_SIGNS '1Cp FD10'1Jv '0T.c_SMALL_LETTERS q";symm;refine⟨v,_,_,rfl,?_⟩;rcases h with⟨x,rfl,hx,k⟩|⟨no,k⟩
  .refine .inl ⟨x,rfl,hx,λH' sm=>?_⟩;symm;refine iL (λe=>?_) (λe=>?_)
   .symm;have h1:1<=(x.length:Int):=by
     unfold R8 at e;simp only[Mg,LA] at e;exact e.1.1
    refine mU (b9 hx) (yJ h1) ?_;symm;have e2:eO x=JD x kSL:=by
     unfold eO;rw[show R8 x kNS 24=true from e,Pu]
    have q:=k H' sm;rw[e2] at q;exact q
   .have e2:eO x=false:=by
     unfold eO;rw[show R8 x kNS 24=false from e,Sg]
    have q:=k H' sm;rw[e2] at q;exact q
  .refine .inr ⟨no,λH' sm=>?_⟩;symm;exact k H' sm--SPLIT
def dX (gs:List Str)(W:x9):x9:=⟨W.pts.filter λx=>!decide (x.1∈gs),W.ts.filter λx=>!decide (x.1∈gs)⟩
def iU (gs:List Str)(W:x9):Bool:=(dX gs W).ts.any λx=>decide (x.2.2.1∈gs)||decide (x.2.2.2∈gs)
def lY (K:Za):Sp:=λvs H Q E=>∃(a l p q:Addr) (kvs:List (i6×V)) (W:x9) (gs:List Str),vs=[.ref a,.ref l]/\WebAt K H a p q kvs W/\H p=some (.dK (i7 W.pts))/\H q=some (.dK kvs)/\SqL K H l (gs.map V.str)/\(W.pts.map (·.1)).Nodup/\(W.ts.map (·.1)).Nodup/\W.pts.length<=60/\W.ts.length<=60/\(∀x∈W.ts,x.1.length<=100)/\
 if iU gs W=true then ∀H' e,Same H H'->H' e=none->E (.ref (cA K "Loose")) (some e) H' else NewP K H Q (dX gs W)
abbrev oG:=λP w K mg base=>M7 P w K mg base (gY P w) 3 "without" ["web","names"] [] (lY K)
def uG {f fd}(T:Txt K mg)(F4:dw P w K mg base)(F:Fun K "without" "without" ik f fd):u6 P w K mg base (gY P w) 3 f fd ["web","names"] (lY K):=by
 refine F.okE sc_without (λvs H Q E h=>?_) (λc_ A outer s H vs Q E hr h=>?_)
 .obtain⟨a,l,p,q,kvs,W,gs,rfl,_⟩:=h;rfl
 .obtain⟨a,l,p,q,kvs,W,gs,rfl,hW,hp,hq,hL,nd1,w_,l1,l2,YQ,k⟩:=h;have z_:=j5 W.pts;have UZ:=hW.ts.length;walk_at "@sc_without 252v4jname,kind;1;L10wc0name,kind,names;c1name,kind,names;xMb*0002qd7001253v4jname,tie;1;L10wc0name,tie,names;c1name,tie,names;xMb*0002qd70012~feGO93k4miyKbDCf304601qbDCf304601qm@'0T.r_Loose 4'1Ku 0483<4d7203"
  symm;refine b5 hW.tup (b6 (j:=0) rfl) ?_;refine D6 hp (λWC o1=>?_);refine k8 (n:=(i7 W.pts).length) (λi out H'=>Same (E7 p o1 (i7 W.pts) H) H'/\Paired (PrV K H') out (i7 ((W.pts.take i).filter λx=>!decide (x.1∈gs)))) ⟨Same.refl _,.nil⟩ (λi out H' hi hp=>⟨hp.1 _ _ d8,hi⟩) ?_ ?_
  .rintro N i v out H1 H2 hi ⟨s1,pr⟩ ⟨t,kv,f_,nt,rfl,rfl⟩ hN';obtain⟨x,hx,rfl⟩:=bA f_;obtain⟨H3,e3,f3,m3,_⟩:=b7 (o:= .tup _) nt;rw[e3];have L3:=((L0 (o:=o1) hp).trans (s1.trans m3).le).lst hL;have e7:W.pts.take (i+1)=W.pts.take i++[x]:=by rw[Me,hx];rfl
   have A_:=Mc pr;have n_:=LD (λx:Str×Str=>!decide (x.1∈gs)) (W.pts.take i);rw[j5] at A_;rw[Lz] at n_;refine K9 (SqT.of f3) rfl ?_;symm;refine⟨rfl,?_⟩;symm;refine cc L3 ?_;symm;refine jT (λhb=>?_) (λhb=>?_)
   .symm;refine⟨b9 (by simp),λt4 n4=>?_⟩;obtain⟨H4,e4,f4,m4,_⟩:=b7 (o:= .tup _) n4;rw[e4];refine⟨b9 (by lia),hN' _ _ ⟨s1.trans (m3.trans m4),?_⟩⟩;rw[e7,Mm,Mq (by rw[hb];rfl),MN];unfold i7 at pr⊢;rw[Lr];exact r6 (Paired.imp' (λ_ _ z=>PrV.mono (m3.trans m4).le z) pr) ⟨t4,rfl,SqT.of f4⟩
   .refine hN' _ _ ⟨s1.trans m3,?_⟩;rw[e7,Mm,Mr (by rw[hb];simp),MN,MD];exact Paired.imp' (λ_ _ z=>PrV.mono m3.le z) pr
  .rintro out H1 ⟨s1,pr⟩;have A_:=Mc pr;have n_:=LD (λx:Str×Str=>!decide (x.1∈gs)) (W.pts.take (i7 W.pts).length);rw[j5] at A_;rw[Lz] at n_;refine⟨⟨s1 _ _ d8,Lp _⟩,λD hD=>⟨b9 (by lia),?_⟩⟩;have sM:=J6 hp s1 hD (u:= .lst out);have fM:=X0 s1 hD (u:= .lst out);have TC:=Paired.imp' (λ_ _ z=>PrV.mono (iz (d:=p) (u:= .lst out) hD) z) pr;generalize thaw p (upd H1 D (.lst out))=HM at sM fM TC⊢;rw[Lu (by lia)] at TC;symm;refine E2 (SqL.of fM) TC (b9 (by rw[j5];refine Mh (LD _ _) ?_;lia)) (λpp npp=>?_);have eP:cN (i7 (W.pts.filter λx=>!decide (x.1∈gs)))=i7 (dX gs W).pts:=J5 (V3 (Z0 nd1));rw[eP];obtain⟨H2,e2,f2,m2,_⟩:=b7 (o:= .dK (i7 (dX gs W).pts)) npp;show R9 _ _ _ (upd HM pp (.dK (i7 (dX gs W).pts))) _;rw[e2];have s2:=sM.trans m2;have W2:=hW.mono s2.le;have U_:=s2 _ _ hq;have K_:=s2.seq hL;symm;refine b5 W2.tup (b6 (j:=1) rfl) ?_;refine D6 U_ (λYT o2=>?_);refine k8 (n:=kvs.length) (λi out H'=>Same (E7 q o2 kvs H2) H'/\Paired (PrV K H') out ((kvs.take i).filter λkv=>!gH gs kv.1)) ⟨Same.refl _,.nil⟩ (λi out H' hi hp=>⟨hp.1 _ _ d8,hi⟩) ?_ ?_
   .rintro N i v out H3 U' hi ⟨s3,pr3⟩ ⟨t,kv,f_,nt,rfl,rfl⟩ hN';obtain⟨H4,e4,f4,m4,_⟩:=b7 (o:= .tup _) nt;rw[e4];have V_:=(L0 (o:=o2) U_).trans (s3.trans m4).le;have L4:=V_.lst K_;obtain⟨x,hx,ex,b,eb,sb⟩:=(W2.ts.mono V_).get f_;obtain⟨kk,Ur⟩:=kv;have Ux:kk=Sum.inr x.1:=ex;have Ve:Ur= .ref b:=eb;subst Ux Ve;have e7:kvs.take (i+1)=kvs.take i++[(Sum.inr x.1,.ref b)]:=by rw[Me,f_];rfl
    have hol3:=Mc pr3;have Uu:=LD (λkv:i6×V=>!gH gs kv.1) (kvs.take i);rw[Lz] at Uu;refine K9 (SqT.of f4) rfl ?_;symm;refine⟨rfl,?_⟩;symm;refine cc L4 ?_;symm;refine jT (λhb=>?_) (λhb=>?_)
    .symm;refine⟨b9 (by simp),λt5 n5=>?_⟩;obtain⟨H5,e5,f5,m5,_⟩:=b7 (o:= .tup _) n5;rw[e5];refine⟨b9 (by lia),hN' _ _ ⟨s3.trans (m4.trans m5),?_⟩⟩;rw[e7,Mm,Mq (p:=λkv:i6×V=>!gH gs kv.1) (by show(!decide (x.1∈gs))=true;rw[hb];rfl),MN];exact r6 (Paired.imp' (λ_ _ z=>PrV.mono (m4.trans m5).le z) pr3) ⟨t5,rfl,SqT.of f5⟩
    .refine hN' _ _ ⟨s3.trans m4,?_⟩;rw[e7,Mm,Mr (p:=λkv:i6×V=>!gH gs kv.1) (by show ¬(!decide (x.1∈gs))=true;rw[hb];simp),MN,MD];exact Paired.imp' (λ_ _ z=>PrV.mono m4.le z) pr3
   .rintro Vj H3 ⟨s3,pr3⟩;have hol3:=Mc pr3;have Uu:=LD (λkv:i6×V=>!gH gs kv.1) (kvs.take kvs.length);rw[Lz] at Uu;refine⟨⟨s3 _ _ d8,Lp _⟩,λD3 hD3=>⟨b9 (by lia),?_⟩⟩;have sM3:=J6 U_ s3 hD3 (u:= .lst Vj);have fM3:=X0 s3 hD3 (u:= .lst Vj);have Wo:=Paired.imp' (λ_ _ z=>PrV.mono (iz (d:=q) (u:= .lst Vj) hD3) z) pr3;generalize thaw q (upd H3 D3 (.lst Vj))=HM3 at sM3 fM3 Wo⊢;rw[Lu (Lp _)] at Wo;have Uq:((kvs.filter λkv=>!gH gs kv.1).map (·.1)).Nodup:=Z0 YT;symm;refine E2 (SqL.of fM3) Wo (b9 (by refine Mh (LD _ _) ?_;lia)) (λqq nqq=>?_);rw[J5 Uq];obtain⟨H4,e4,f4,m4,_⟩:=b7 (o:= .dK (kvs.filter λkv=>!gH gs kv.1)) nqq;show R9 _ _ _ (upd HM3 qq _) _;rw[e4];have s4:=s2.trans (sM3.trans m4);have W4:=hW.mono s4.le;have TT:TiesIs K H4 (kvs.filter λkv=>!gH gs kv.1) (dX gs W).ts:=eo (λkv x z=>by rw[z.1];rfl) W4.ts;have hpp:=(sM3.trans m4) _ _ f2;generalize hkf:(kvs.filter λkv=>!gH gs kv.1)=kvf at TT f4 Uq;have lkf:kvf.length<=60:=by rw[←hkf];refine Mh (LD _ _) ?_;lia
    have L4:=s4.seq hL;symm;refine D4 (ss:=(dX gs W).ts.map (·.1)) (.inl f4) (by rw[TT.keys,A4]) (by rw[Ll,←TT.length];lia) (λs1 a1 a2 ls1 n1=>?_);obtain⟨H5,e5,f5,m5,_⟩:=b7 (o:= .lst _) n1;rw[e5];have ndt:((dX gs W).ts.map (·.1)).Nodup:=Z0 w_;refine j7 (SqL.of f5) ?_;refine kI (n:=s1.length) (λi σ H'=>Same H5 H'/\(∃v4,σ=[some (.ref a),some (.ref l),some (.ref pp),some (.ref qq),v4])/\∀n∈s1.take i,∀t:N4,(n,t)∈(dX gs W).ts->(decide (t.2.1∈gs)||decide (t.2.2∈gs))=false) ⟨Same.refl _,⟨_,rfl⟩,by simp⟩ (λi σ H' hi hp=>⟨_,.str (s1[i]),SqL.of (hp.1 _ _ f5),by rw[Lo,Lm hi];rfl⟩) ?_ ?_
    .rintro i v σ H6' H6 hi ⟨s6,⟨v4,rfl⟩,ha⟩ y _ _;obtain⟨rfl,hx⟩:=Itl.get y (SqL.of (s6 _ _ f5));rw[Lo] at hx;obtain⟨nm,I_,rfl⟩:=My.mp hx;have m_:=a1.mem_iff.mp (LF I_);obtain⟨⟨WS,tt⟩,j_,rfl⟩:=Ln.mp m_;have WT:=m5.trans s6;obtain⟨c,ev,sc⟩:=wg (TT.mono WT.le) ndt j_;have L6:=WT.seq L4;have F6:Rd H6 qq (.dK kvf):= .inl (WT _ _ f4);have loud:(decide (tt.2.1∈gs)||decide (tt.2.2∈gs))=true->∀e,H6 e=none->E (.ref (cA K "Loose")) (some e) H6:=λhb e he=>by
      have hl:iU gs W=true:=Nr.mpr ⟨_,j_,hb⟩;rw[if_pos hl] at k;exact k H6 e (s4.trans WT) he
     have hlen1:WS.length<=100:=YQ _ (LW.mp j_).1;have hlen2:(" is not taken out, but an end of it is":Str).length<=100:=by decide+kernel
     symm;refine F2 (v:= .ref c) (by have z':=N0 (k:=Sum.inr WS) F6;rw[ev] at z';exact z') ?_;symm;refine b5 sc (b6 (j:=1) rfl) ?_;symm;refine gJ L6 ?_;symm;refine F9 (λh1=>?_) (λh1=>?_)
     .symm;refine⟨WS,rfl,by lia,λz=>?_⟩;symm;walk_at "X";exact⟨b9 (by simp),loud (by rw[LN h1];rfl)⟩
     .symm;refine F2 (v:= .ref c) (by have z':=N0 (k:=Sum.inr WS) F6;rw[ev] at z';exact z') ?_;symm;refine b5 sc (b6 (j:=2) rfl) ?_;symm;refine gJ L6 ?_;symm;refine F9 (λh2=>?_) (λh2=>?_)
      .symm;refine⟨WS,rfl,by lia,λz=>?_⟩;symm;walk_at "X";exact⟨b9 (by simp),loud (by rw[LN h2,Bool.or_true])⟩
      .symm;refine⟨s6,⟨_,rfl⟩,λn hn t ht=>?_⟩;rw[Me,I_] at hn;rcases LC.mp hn with h'|h'
       .exact ha n h' t ht
       .have ZG:n=WS:=by simpa using h'
        subst ZG;rw[j6 ndt ht j_,LL h1,LL h2];rfl
    .rintro σ H6 ⟨s6,⟨v4,rfl⟩,ha⟩;refine⟨⟨_,SqL.of (s6 _ _ f5),by rw[Ll];exact Lp _⟩,?_⟩;rw[Lu (Lp _)] at ha;have hl:¬iU gs W=true:=λz=>by
      obtain⟨x,hx,hb⟩:=Nr.mp z;rw[ha x.1 (a1.mem_iff.mpr (Ln.mpr ⟨x,hx,rfl⟩)) x.2 hx] at hb;cases hb
     rw[if_neg hl] at k;have WT:=m5.trans s6;symm;refine⟨b9 (by simp),λt9 n9=>?_⟩;obtain⟨H9,e9,f9,m9,_⟩:=b7 (o:= .tup _) n9;rw[e9];have Zf:=WT.trans m9;symm;exact⟨t9,pp,qq,kvf,dX gs W,rfl,⟨SqT.of f9,.inl (Zf _ _ hpp),.inl (Zf _ _ f4),TT.mono Zf.le⟩,Z0 nd1,ndt,Mh (LD _ _) l1,Mh (LD _ _) l2,NewP.mono (s4.trans Zf) k⟩
def Bi:cg "dict" "dict"=true:=rfl
def ET {H:Hp}{Q:VK}{pts:List (Str×Str)}{m k:Str}(nd:(pts.map (·.1)).Nodup)(q:Q (.bl (decide ((m,k)∈pts))) H):gB K ((A5 (i7 pts) (Sum.inr m:i6)).getD .non) (.str k) H Q:=by
 cases e:A5 (i7 pts) (Sum.inr m:i6) with
 |none=>
  refine qv (pX ?_)
  rw[LL (λz=>by rw[O1 nd z] at e;cases e)] at q;exact q
 |some v=>
  obtain⟨k2,rfl,hk⟩:=qR e
  refine gG ?_
  have:decide (k2=k)=decide ((m,k)∈pts):=by
   rw[LQ,LA,LA];exact⟨λz=>z▸hk,λz=>j6 nd hk z⟩
  rw[this];exact q
def BX {H:Hp}{Q:VK}{kvs:List (i6×V)}{ts:List (Str×N4)}{m:Str}{y:N4}{l:Addr}(w:TiesIs K H kvs ts)(nd:(ts.map (·.1)).Nodup)(hl:SqT K H l (Y7 y))(q:Q (.bl (decide ((m,y)∈ts))) H):gB K ((A5 kvs (Sum.inr m:i6)).getD .non) (.ref l) H Q:=by
 by_cases hm:m∈ts.map (·.1)
 .obtain⟨a,x,h1,h2,h3⟩:=TiesIs.val (ts:=ts) w hm;rw[h1];refine qv (ko h3 hl (gk _) (gk _) ?_);rw[yw];have:decide (x=y)=decide ((m,y)∈ts):=by
   rw[LQ,LA,LA];exact⟨λz=>z▸h2,λz=>j6 nd h2 z⟩
  rw[this];exact q
 .have e:A5 kvs (Sum.inr m:i6)=none:=by
   have z:=U7 (n:=m) w;rw[LL hm] at z;cases e:A5 kvs (Sum.inr m:i6) with
   |none=>rfl
   |some v=>rw[e] at z;cases z
  rw[e];refine qv (pZ hl ?_);rw[LL (λz=>hm (Ln.mpr ⟨_,z,rfl⟩))] at q;exact q
def wb (K:Za):Sp:=λvs H Q _=>∃(a p q d:Addr) (kvs:List (i6×V)) (W:x9) (kvm:List (i6×V)),vs=[.ref a,.ref d]/\WebAt K H a p q kvs W/\(b8 W).length<=60/\Rd H d (.dK kvm)/\(∀n∈b8 W,TxtAt kvm n)/\∀(l:Addr) (H':Hp) (s1 s2:List Str),H l=none->Same H H'->H' l=some (.lst (((s1++s2).map (j8 kvm)).map V.str))->Ordr W s1 s2->Q (.ref l) H'
abbrev AI:=λP w K mg base=>M7 P w K mg base B6 2 "line" ["piece","match"] [] (wb K)
def BF {f fd}(T:Txt K mg)(C5:Z2 P w K mg base)(F:Fun K "line" "line" uT f fd):u6 P w K mg base B6 2 f fd ["piece","match"] (wb K):=by
 walk_at "#sc_line"
 .obtain⟨a,p,q,d,kvs,W,kvm,rfl,_⟩:=h;rfl
 .obtain⟨a,p,q,d,kvs,W,kvm,rfl,hW,hl,hD,hT,k⟩:=h;walk_at "@sc_line 8jname;1;e3=90c0name,match;nf100";symm;refine⟨a,p,q,kvs,W,rfl,hW,hl,λl1 H1 s1 s2 n1 m1 f1 or=>?_⟩;have hlen:=or.len;refine j7 (SqL.of f1) ?_;refine k8 (n:=(s1++s2).length) (λi out H'=>Same H1 H'/\out=((s1++s2).take i).map λn=>V.str (j8 kvm n)) ⟨Same.refl _,rfl⟩ (λi out H' hi hp=>⟨_,.str ((s1++s2)[i]),SqL.of (hp.1 _ _ f1),by rw[Lo,Lm hi];rfl⟩) ?_ ?_
  .rintro N i v out H2 H3 hi ⟨s3,rfl⟩ y hN';obtain⟨rfl,hx⟩:=Itl.get y (SqL.of (s3 _ _ f1));rw[Lo,Lm hi] at hx;cases hx;symm;refine⟨rfl,?_⟩;symm;refine rO ((m1.trans s3).rd hD) (hT _ (or.mem.mp (LM hi))) ?_;refine⟨b9 (by rw[Ll,Lz];lia),hN' _ _ ⟨s3,?_⟩⟩;exact K2 (λn:Str=>V.str (j8 kvm n)) (Lm hi)
  .rintro out H2 ⟨s3,rfl⟩;refine⟨⟨_,SqL.of (s3 _ _ f1),by rw[Ll];exact Lp _⟩,λD hD'=>⟨b9 (by rw[Ll,Lz];lia),?_⟩⟩;rw[Lu (Lp _)];obtain⟨H3,e3,f3,m3,_⟩:=b7 (o:= .lst ((s1++s2).map λn=>V.str (j8 kvm n))) hD';refine k D _ s1 s2 ((m1.trans s3).free hD') ?_ ?_ or
   .show Same _ (upd _ D _);rw[e3];exact m1.trans (s3.trans m3)
   .show upd _ D _ D=_;rw[d8,LH];rfl
structure xh (P W:x9) (kvm:List (i6×V)):Prop where
 len:kvm.length=(b8 P).length
 txt:∀n∈b8 P,TxtAt kvm n
 nd:((b8 P).map (j8 kvm)).Nodup
 pts:∀x∈P.pts,(j8 kvm x.1,x.2)∈W.pts
 ts:∀x∈P.ts,(j8 kvm x.1,(x.2.1,j8 kvm x.2.2.1,j8 kvm x.2.2.2))∈W.ts
open Classical in
noncomputable def wC (P W:x9)(kvm:List (i6×V)):Bool:=decide (xh P W kvm)
open Classical in
def mI {P W:x9}{kvm:List (i6×V)}(h:¬xh P W kvm):wC P W kvm=false:=by unfold wC;exact LL h
open Classical in
def vI {P W:x9}{kvm:List (i6×V)}(h:xh P W kvm):wC P W kvm=true:=by unfold wC;exact LN h
def Kg (K:Za)(PG:Program)(w:World)(H:Hp)(mv:V)(P W:x9)(b:Bool):Prop:=
 (∃t,TyB K H mv t/\t≠"dict"/\b=false)\/
 (∃d n,mv= .ref d/\H d=some (.ext (bR PG w d n))/\n<=1000/\n≠(b8 P).length/\b=false)\/
 (∃d kvm,mv= .ref d/\H d=some (.dK kvm)/\(kvm.map (·.1)).Nodup/\kvm.length<=100/\(∀kv∈kvm,∃t,TyB K H kv.2 t)/\b=wC P W kvm)
def FJ {t:String}(h:t≠"dict"):cg t "dict"=false:=by
 unfold cg;rw[show(t=="dict")=false by simpa using h];simp
def BD (kvm:List (i6×V))(n:Str):Bool:=match A5 kvm (Sum.inr n:i6) with
 |some (.str _)=>true
 |_=>false
def txB_iff {kvm:List (i6×V)}{n:Str}:BD kvm n=true↔TxtAt kvm n:=by
 unfold BD TxtAt;constructor
 .intro h;split at h
  .next s e=>exact⟨s,e⟩
  .cases h
 .rintro⟨s,e⟩;rw[e]
def Et {H:Hp}{v:V}{t:String}(h:TyB K H v t):cg t "str"=(match v with| .str _=>true|_=>false):=by
 cases v with
 |non=>cases h;rfl
 |bl _=>cases h;rfl
 |int _=>cases h;rfl
 |str _=>cases h;rfl
 |ref a=>rcases h with⟨rfl,_⟩|⟨rfl,_⟩|⟨rfl,_⟩<;>rfl
 |_=>exact h.elim
def FI {H:Hp}{kvm:List (i6×V)}(h:∀kv∈kvm,∃t,TyB K H kv.2 t)(n:Str):∃t,TyB K H ((A5 kvm (Sum.inr n:i6)).getD .non) t/\cg t "str"=BD kvm n:=by
 unfold BD;cases e:A5 kvm (Sum.inr n:i6) with
 |none=>exact⟨"NoneType",rfl,rfl⟩
 |some v=>
  obtain⟨t,ht⟩:=h _ (pR e)
  refine⟨t,ht,?_⟩
  rw[Et (v:=v) ht]
  cases v<;>rfl
def jo (K:Za)(P:Program)(w:World):Sp:=λvs H Q _=>∃(a p q a' p' q':Addr) (kvs b_:List (i6×V)) (Pc W:x9) (mv:V) (b:Bool),vs=[.ref a,.ref a',mv]/\WebIs 13 K H a p q kvs Pc/\WebIs 13 K H a' p' q' b_ W/\Kg K P w H mv Pc W b/\∀H',Same H H'->Q (.bl b) H'
abbrev lJ:=λP w K mg base=>M7 P w K mg base B6 3 "is_match" ["piece","web","match"] [] (jo K P w)
def rR {f fd}(T:Txt K mg)(C5:Z2 P w K mg base)(uk:AI P w K mg base)(K1:aQ P w K mg base)(F:Fun K "is_match" "is_match" fw f fd):u6 P w K mg base B6 3 f fd ["piece","web","match"] (jo K P w):=by
 walk_at "#sc_is_match"
 .obtain⟨a,p,q,a',p',q',kvs,b_,Pc,W,mv,b,rfl,_⟩:=h;rfl
 .obtain⟨a,p,q,a',p',q',kvs,b_,Pc,W,mv,b,rfl,hP,hW,hM,k⟩:=h;have Yb:=hP.len;walk_at "@sc_is_match 2533=902iyKHtZYX72W~i'0T.b_dict ~hb)l92l93gz2iHt&%#4jname;2;e03c0name,match;ntZYXaV0100W~8~7~6z2ib)l4,~bA~a~943'0uk 7002l93gz2iHt&%#4jname,kind;21;L10wc0name,kind,match,web;c1name,kind,match,web;xnFBV13f20001gz8t&%#4jname,tie;21;L10wc0name,tie,match,web;c1name,tie,match,web;xnFBV13f2003'0K1 7102g"
  symm;refine⟨a,p,q,kvs,Pc,rfl,hP.at_,by lia,λln H1 s1 s2 n1 m1 f1 or=>?_⟩;have hlen:=or.len;symm;rcases hM with⟨t,ty,ht,rfl⟩|⟨d,n,rfl,hd,hn,v_,rfl⟩|⟨d,kvm,rfl,hD0,TY,hml,UQ,rfl⟩
  .refine cu (cm (ty.mono m1) (by simp) ?_);rw[FJ ht];symm;exact k _ m1
  .refine .inr ⟨d,n,"dict",rfl,m1 _ _ hd,by simp,?_⟩;rw[Bi];symm;refine zN (m1 _ _ hd) hn ?_;symm;refine E8 (p9 (SqL.of f1) ?_);rw[Ll,hlen];symm;refine S9 (λhz=>?_) (λhz=>absurd (SV.mp hz) v_);symm;exact k _ m1
  have hD:Rd H d (.dK kvm):= .inl hD0;have D1:=m1.rd hD;refine cu (cm (t:="dict") (.inr (.inr ⟨rfl,_,D1⟩)) (by simp) ?_);rw[Bi];symm;refine E8 (iV D1 ?_);symm;refine E8 (p9 (SqL.of f1) ?_);rw[Ll,hlen];symm;refine S9 (λhz=>?_) (λhz=>?_)
  .symm;rw[←mI (P:=Pc) (W:=W) (kvm:=kvm) (λz=>hz (by rw[z.len]))];exact k _ m1
  have hz':kvm.length=(b8 Pc).length:=SV.mp hz;symm;refine j7 (SqL.of f1) ?_;refine k8 (n:=(s1++s2).length) (λi out H'=>Same H1 H'/\out=((s1++s2).take i).map λn=>V.bl (BD kvm n)) ⟨Same.refl _,rfl⟩ (λi out H' hi hp=>⟨_,.str ((s1++s2)[i]),SqL.of (hp.1 _ _ f1),by rw[Lo,Lm hi];rfl⟩) ?_ ?_
  .rintro N i v out H2 H3 hi ⟨s3,rfl⟩ y hN';obtain⟨rfl,hx⟩:=Itl.get y (SqL.of (s3 _ _ f1));rw[Lo,Lm hi] at hx;cases hx;symm;refine⟨rfl,?_⟩;symm;refine⟨d,rfl,.inl ⟨_,s3.rd D1⟩,?_⟩;symm;refine⟨_,N0 (k:=Sum.inr (s1++s2)[i]) (s3.rd D1),?_⟩;obtain⟨t,ht,e⟩:=FI (K:=K) UQ (s1++s2)[i];symm;refine cu (cm (ht.mono (m1.trans s3)) (by simp) ?_);rw[e];refine⟨b9 (by rw[Ll,Lz];lia),hN' _ _ ⟨s3,?_⟩⟩;exact K2 (λn:Str=>V.bl (BD kvm n)) (Lm hi)
  .rintro out H2 ⟨s3,rfl⟩;refine⟨⟨_,SqL.of (s3 _ _ f1),by rw[Ll];exact Lp _⟩,λD hD'=>⟨b9 (by rw[Ll,Lz];lia),?_⟩⟩;rw[Lu (Lp _)];have e9:((s1++s2).map λn=>V.bl (BD kvm n))=((s1++s2).map (BD kvm)).map V.bl:=by rw[LH];rfl
   rw[e9];obtain⟨H3,e3,f3,m3,_⟩:=b7 (o:= .lst (((s1++s2).map (BD kvm)).map V.bl)) hD';have m4:=m1.trans (s3.trans m3);have f4:=m3 _ _ (s3 _ _ f1);symm;change tT K _ (upd H2 D _) _;rw[e3];refine jq (SqL.of f3) ?_;symm;refine jT (λhb=>?_) (λhb=>?_)
   .symm;rw[←mI (P:=Pc) (W:=W) (kvm:=kvm) (λz=>?_)]
    .exact k _ m4
    .have:((s1++s2).map (BD kvm)).all id=true:=by
      rw[Nc,LZ];exact λn hn=>txB_iff.mpr (z.txt n (or.mem.mp hn))
     rw[this] at hb;cases hb
   have hT:∀n∈b8 Pc,TxtAt kvm n:=λn hn=>by
    rw[Nc,LZ] at hb;exact txB_iff.mp (hb n (or.mem.mpr hn))
   symm;refine⟨a,p,q,d,kvs,Pc,kvm,rfl,hP.at_.mono m4.le,by lia,m4.rd hD,hT,λl5 H5 r1 r2 n5 m5 f5 or5=>?_⟩;have Yn:=or5.len;symm;refine⟨l5,_,rfl,SqL.of f5,by rw[Ll];lia,λl6 n6=>?_⟩;obtain⟨H6,e6,f6,m6,_⟩:=b7 (o:= .ext (cb l6 (dW ((r1++r2).map (j8 kvm))).length)) n6;rw[e6];symm;have Us:(dW ((r1++r2).map (j8 kvm))).length<=1000:=by
    have z:=nE ((r1++r2).map (j8 kvm)) [];rw[Ll] at z;unfold dW;simp only[Pl] at z;lia
   refine iu f6 Us ?_;symm;refine E8 (p9 (SqL.of (m6 _ _ (m5 _ _ f4))) ?_);rw[Ll,hlen];symm;have m7:=m4.trans (m5.trans m6);have Yo:(dW ((r1++r2).map (j8 kvm))).length=(b8 Pc).length↔((b8 Pc).map (j8 kvm)).Nodup:=by
    have z:=mV ((r1++r2).map (j8 kvm));rw[Ll,Yn] at z;rw[z];exact(or5.perm.map _).nodup_iff
   refine S9 (λZg=>?_) (λZg=>?_)
   .symm;rw[←mI (P:=Pc) (W:=W) (kvm:=kvm) (λz=>Zg (by rw[Yo.mpr z.nd]))];exact k _ m7
   have L_:=Yo.mp (SV.mp Zg);clear Zg;have D7:=m7.rd hD;have hp7:=m7 _ _ hP.hp;have P7:=hP.same m7;have W7:=hW.same m7;have hptl:=j5 Pc.pts;have UZ:=hP.at_.ts.length;rw[E4] at Yb;symm;refine b5 P7.at_.tup (b6 (j:=0) rfl) ?_;refine D6 hp7 (λWC o8=>?_);refine k8 (n:=(i7 Pc.pts).length) (λi out H'=>Same (E7 p o8 (i7 Pc.pts) H6) H'/\out=(Pc.pts.take i).map λx=>V.bl (decide ((j8 kvm x.1,x.2)∈W.pts))) ⟨Same.refl _,rfl⟩ (λi out H' hi hp=>⟨hp.1 _ _ d8,hi⟩) ?_ ?_
   .rintro N i v out H8' H8 hi ⟨s8,rfl⟩ ⟨t,kv,f_,nt,rfl,rfl⟩ hN';obtain⟨x,hx,rfl⟩:=bA f_;obtain⟨H9,e9,f9,m9,_⟩:=b7 (o:= .tup _) nt;rw[e9];have le9:=(L0 (o:=o8) hp7).trans (s8.trans m9).le;have W9:=W7.at_.mono le9;have D9:=le9.dic D7;refine K9 (SqT.of f9) rfl ?_;symm;refine⟨rfl,?_⟩;symm;refine b5 W9.tup (b6 (j:=0) rfl) ?_;refine⟨p',rfl,.inl ⟨_,W9.pts⟩,?_⟩;symm;refine rO D9 (hT _ (Ls _ (Ln.mpr ⟨x,LF hx,rfl⟩))) ?_;refine⟨_,N0 (k:=Sum.inr (j8 kvm x.1)) W9.pts,?_⟩;symm;refine ET (E9 W7.nd) ?_;refine⟨b9 (by rw[Ll,Lz];lia),hN' _ _ ⟨s8.trans m9,?_⟩⟩;exact K2 (λx:Str×Str=>V.bl (decide ((j8 kvm x.1,x.2)∈W.pts))) hx
   .rintro out H8 ⟨s8,rfl⟩;refine⟨⟨s8 _ _ d8,Lp _⟩,λD8 hD8=>⟨b9 (by rw[Ll,Lz];lia),?_⟩⟩;rw[hptl,Lu (Lp _)];have e10:(Pc.pts.map λx=>V.bl (decide ((j8 kvm x.1,x.2)∈W.pts)))=(Pc.pts.map λx=>decide ((j8 kvm x.1,x.2)∈W.pts)).map V.bl:=by rw[LH];rfl
    rw[e10];have sM:=J6 hp7 s8 hD8 (u:= .lst ((Pc.pts.map λx=>decide ((j8 kvm x.1,x.2)∈W.pts)).map V.bl));have fM:=X0 s8 hD8 (u:= .lst ((Pc.pts.map λx=>decide ((j8 kvm x.1,x.2)∈W.pts)).map V.bl));generalize thaw p (upd H8 D8 (.lst ((Pc.pts.map λx=>decide ((j8 kvm x.1,x.2)∈W.pts)).map V.bl)))=HM at sM fM⊢;symm;refine jq (SqL.of fM) ?_;symm;have mM:=m7.trans sM;refine jT (λUo=>?_) (λUo=>?_)
    .symm;rw[←mI (P:=Pc) (W:=W) (kvm:=kvm) (λz=>?_)]
     .exact k _ mM
     .have:(Pc.pts.map λx=>decide ((j8 kvm x.1,x.2)∈W.pts)).all id=true:=by
       rw[Nc,LZ];exact λx hx=>LN (z.pts x hx)
      rw[this] at Uo;cases Uo
    have hPts:∀x∈Pc.pts,(j8 kvm x.1,x.2)∈W.pts:=λx hx=>by
     rw[Nc,LZ] at Uo;exact Nv (Uo x hx)
    have DM:=mM.rd hD;have PM:=hP.same mM;have WM:=hW.same mM;have hqM:=PM.hq;symm;refine b5 PM.at_.tup (b6 (j:=1) rfl) ?_;refine D6 hqM (λYT o10=>?_);refine k8 (n:=kvs.length) (λi out H'=>Same (E7 q o10 kvs HM) H'/\out=(Pc.ts.take i).map λx=>V.bl (decide ((j8 kvm x.1,(x.2.1,j8 kvm x.2.2.1,j8 kvm x.2.2.2))∈W.ts))) ⟨Same.refl _,rfl⟩ (λi out H' hi hp=>⟨hp.1 _ _ d8,hi⟩) ?_ ?_
    .rintro N i v out H11' H11 hi ⟨s11,rfl⟩ ⟨t,kv,f_,nt,rfl,rfl⟩ hN';obtain⟨H12,e12,f12,J_,_⟩:=b7 (o:= .tup _) nt;rw[e12];have Wq:=(L0 (o:=o10) hqM).trans (s11.trans J_).le;have Zh:=WM.at_.mono Wq;have D12:=Wq.dic DM;obtain⟨x,hx,ex,bb,eb,sb⟩:=(PM.at_.ts.mono Wq).get f_;obtain⟨kk,Ur⟩:=kv;have Ux:kk=Sum.inr x.1:=ex;have Ve:Ur= .ref bb:=eb;subst Ux Ve;have D_:=LF hx;have hxe:=hP.ends x D_;refine K9 (SqT.of f12) rfl ?_;symm;refine⟨rfl,?_⟩;symm;refine b5 Zh.tup (b6 (j:=1) rfl) ?_;refine⟨q',rfl,.inl ⟨_,Zh.ties⟩,?_⟩;symm;refine rO D12 (hT _ (LG _ (Ln.mpr ⟨x,D_,rfl⟩))) ?_;refine⟨_,N0 (k:=Sum.inr (j8 kvm x.1)) Zh.ties,?_⟩;symm;refine⟨bb,d,x.2,kvm,_,_,rfl,sb,D12,(hT _ (Ls _ hxe.1)).at_,(hT _ (Ls _ hxe.2)).at_,λl13 H13 n13 E_ f13=>?_⟩;refine BX (Zh.mono E_.le).ts (N7 hW.nd) (SqT.of f13) ?_;refine⟨b9 (by rw[Ll,Lz];lia),hN' _ _ ⟨s11.trans (J_.trans E_),?_⟩⟩;exact K2 (λx:Str×N4=>V.bl (decide ((j8 kvm x.1,(x.2.1,j8 kvm x.2.2.1,j8 kvm x.2.2.2))∈W.ts))) hx
    .rintro out H11 ⟨s11,rfl⟩;refine⟨⟨s11 _ _ d8,Lp _⟩,λD11 hD11=>⟨b9 (by rw[Ll,Lz];lia),?_⟩⟩;rw[UZ,Lu (Lp _)];have e13:(Pc.ts.map λx=>V.bl (decide ((j8 kvm x.1,(x.2.1,j8 kvm x.2.2.1,j8 kvm x.2.2.2))∈W.ts)))=(Pc.ts.map λx=>decide ((j8 kvm x.1,(x.2.1,j8 kvm x.2.2.1,j8 kvm x.2.2.2))∈W.ts)).map V.bl:=by rw[LH];rfl
     rw[e13];generalize X_:(Pc.ts.map λx=>decide ((j8 kvm x.1,(x.2.1,j8 kvm x.2.2.1,j8 kvm x.2.2.2))∈W.ts))=bs;have sN:=J6 hqM s11 hD11 (u:= .lst (bs.map V.bl));have fN:=X0 s11 hD11 (u:= .lst (bs.map V.bl));generalize thaw q (upd H11 D11 (.lst (bs.map V.bl)))=HN at sN fN⊢;symm;refine jq (SqL.of fN) ?_;have eF:bs.all id=wC Pc W kvm:=by
      rw[←X_];cases hc:(Pc.ts.map λx=>decide ((j8 kvm x.1,(x.2.1,j8 kvm x.2.2.1,j8 kvm x.2.2.2))∈W.ts)).all id with
      |true=>
       rw[Nc,LZ] at hc
       exact(vI ⟨hz',hT,L_,hPts,λx hx=>Nv (hc x hx)⟩).symm
      |false=>
       refine(mI λz=>?_).symm
       have:(Pc.ts.map λx=>decide ((j8 kvm x.1,(x.2.1,j8 kvm x.2.2.1,j8 kvm x.2.2.2))∈W.ts)).all id=true:=by
        rw[Nc,LZ];exact λx hx=>LN (z.ts x hx)
       rw[this] at hc;cases hc
     rw[eF];exact k _ (mM.trans sN)
def dS {fr:List (Str×Str)}(nd:(fr.map (·.1)).Nodup){n s:Str}(h:(n,s)∈fr):TxtAt (i7 fr) n/\j8 (i7 fr) n=s:=⟨⟨s,O1 nd h⟩,qS (O1 nd h)⟩
def lC {ss:List Str}{f:Str->Str}(nd:ss.Nodup){n:Str}(h:n∈ss):TxtAt (i7 (ss.map λn=>(n,f n))) n/\j8 (i7 (ss.map λn=>(n,f n))) n=f n:=
 dS (by rw[LH];exact(RR ss).symm▸nd) (Ln.mpr ⟨n,h,rfl⟩)
def oD (K:Za):Sp:=λvs H Q _=>∃(d l:Addr) (kvs:List (i6×V)) (ss:List Str),vs=[.ref d,.ref l]/\Rd H d (.dK kvs)/\SqL K H l (ss.map V.str)/\ss.Nodup/\ss.length<=60/\(∀n∈ss,TxtAt kvs n)/\∀(d':Addr) (H':Hp),H d'=none->Same H H'->H' d'=some (.dK (i7 (ss.map λn=>(n,j8 kvs n))))->Q (.ref d') H'
abbrev sS:=λP w K mg base=>M7 P w K mg base B6 1 "picked" ["put","names"] [] (oD K)
def wx {f fd}(T:Txt K mg)(F:Fun K "picked" "picked" mw f fd):u6 P w K mg base B6 1 f fd ["put","names"] (oD K):=by
 walk_at "#sc_picked"
 .obtain⟨d,l,kvs,ss,rfl,_⟩:=h;rfl
 .obtain⟨d,l,kvs,ss,rfl,hD,hL,nd,hl,hT,k⟩:=h;walk_at "@sc_picked 8v4jname;0;e01c0name,put;nd70f100";symm;refine j7 hL ?_;refine k8 (n:=ss.length) (λi out H'=>Same H H'/\Paired (PrV K H') out (i7 ((ss.take i).map λn=>(n,j8 kvs n)))) ⟨Same.refl _,.nil⟩ (λi out H' hi hp=>⟨_,.str (ss[i]),hp.1.seq hL,by rw[Lo,Lm hi];rfl⟩) ?_ ?_
  .rintro N i v out H2' H2 hi ⟨s2,pr⟩ y hN';obtain⟨rfl,hx⟩:=Itl.get y (s2.seq hL);rw[Lo,Lm hi] at hx;cases hx;have A_:=Mc pr;rw[j5,Ll,Lz] at A_;symm;refine⟨rfl,?_⟩;symm;refine rO (s2.rd hD) (hT _ (LM hi)) ?_;symm;refine⟨b9 (by simp),λt4 n4=>?_⟩;obtain⟨H4,e4,f4,m4,_⟩:=b7 (o:= .tup _) n4;rw[e4];refine⟨b9 (by lia),hN' _ _ ⟨s2.trans m4,?_⟩⟩;rw[Me,Lm hi,Lr];unfold i7 at pr⊢;rw[Lr];exact r6 (Paired.imp' (λ_ _ z=>PrV.mono m4.le z) pr) ⟨t4,rfl,SqT.of f4⟩
  .rintro out H2 ⟨s2,pr⟩;have A_:=Mc pr;rw[j5,Ll,Lz] at A_;refine⟨⟨_,s2.seq hL,by rw[Ll];exact Lp _⟩,λD hD'=>⟨b9 (by lia),?_⟩⟩;rw[Lu (Lp _)] at pr;obtain⟨H3,e3,f3,m3,_⟩:=b7 (H:=H2) (o:= .lst out) hD';symm;change iI K _ (upd H2 D _) _;rw[e3];refine E2 (SqL.of f3) (Paired.imp' (λ_ _ z=>PrV.mono m3.le z) pr) (b9 (by rw[j5,Ll];lia)) (λpp npp=>?_);rw[J5 (V3 (by rw[LH];exact(RR ss).symm▸nd))];obtain⟨H4,e4,f4,m4,_⟩:=b7 (o:= .dK _) npp;rw[e4];exact k pp H4 (s2.free (m3.free npp)) (s2.trans (m3.trans m4)) f4
def gW (K:Za):Sp:=λvs H Q _=>∃(st r m bl:Addr) (x:V) (L R:Sd) (bs:List Sd) (km:List (i6×V)),vs=[.ref st]/\SqT K H st [.ref r,.ref m,x]/\RuleIs K H r bl L R bs/\Rd H m (.dK km)/\(∀n∈b8 L.W,TxtAt km n)/\∀(l:Addr) (H':Hp) (s1 s2:List Str),H l=none->Same H H'->Ordr L.W s1 s2->H' l=some (.lst ((((s1++s2).filter λn=>!decide (n∈b8 R.W)).map (j8 km)).map V.str))->Q (.ref l) H'
abbrev dC:=λP w K mg base=>M7 P w K mg base B6 4 "taken_out" ["step"] [] (gW K)
def qt {f fd}(T:Txt K mg)(pP:vS P w K mg base)(F:Fun K "taken_out" "taken_out" cQ f fd):u6 P w K mg base B6 4 f fd ["step"] (gW K):=by
 walk_at "#sc_taken_out"
 .obtain⟨st,r,m,bl,x,L,R,bs,km,rfl,_⟩:=h;rfl
 .obtain⟨st,r,m,bl,x,L,R,bs,km,rfl,hS,hR,hM,hT,k⟩:=h;have Wk:=hR.l.len;walk_at "@sc_taken_out 8jname;0;e3'0pP 410c0name,step;nC1100";symm;refine b5 hS (b6 (j:=0) rfl) ?_;symm;refine⟨r,bl,L,R,bs,rfl,hR,λl1 H1 s1 s2 n1 m1 or f1=>?_⟩;have hlen:=or.len;have n_:=LD (λn=>!decide (n∈b8 R.W)) (s1++s2);have j_:∀n∈(s1++s2).filter λn=>!decide (n∈b8 R.W),TxtAt km n:=λn hn=>hT n (or.mem.mp (LW.mp hn).1);have k':=λl H' h1 h2=>k l H' s1 s2 h1 h2 or;clear k;generalize (s1++s2).filter (λn=>!decide (n∈b8 R.W))=ss at f1 n_ j_ k';refine j7 (SqL.of f1) ?_;refine k8 (n:=ss.length) (λi out H'=>Same H1 H'/\out=(ss.take i).map λn=>V.str (j8 km n)) ⟨Same.refl _,rfl⟩ (λi out H' hi hp=>⟨_,.str (ss[i]),SqL.of (hp.1 _ _ f1),by rw[Lo,Lm hi];rfl⟩) ?_ ?_
  .rintro N i v out H2' H2 hi ⟨s3,rfl⟩ y hN';obtain⟨rfl,hx⟩:=Itl.get y (SqL.of (s3 _ _ f1));rw[Lo,Lm hi] at hx;cases hx;symm;refine⟨rfl,?_⟩;symm;refine b5 ((m1.trans s3).tup hS) (b6 (j:=1) rfl) ?_;symm;refine rO ((m1.trans s3).rd hM) (j_ _ (LM hi)) ?_;refine⟨b9 (by rw[Ll,Lz];lia),hN' _ _ ⟨s3,?_⟩⟩;exact K2 (λn:Str=>V.str (j8 km n)) (Lm hi)
  .rintro out H2 ⟨s3,rfl⟩;refine⟨⟨_,SqL.of (s3 _ _ f1),by rw[Ll];exact Lp _⟩,λD hD'=>⟨b9 (by rw[Ll,Lz];lia),?_⟩⟩;rw[Lu (Lp _)];obtain⟨H3,e3,f3,m3,_⟩:=b7 (H:=H2) (o:= .lst (ss.map λn=>V.str (j8 km n))) hD';refine k' D _ ((m1.trans s3).free hD') ?_ ?_
   .show Same _ (upd H2 D _);rw[e3];exact m1.trans (s3.trans m3)
   .show upd H2 D _ D=_;rw[d8,LH];rfl
def oB (K:Za):Sp:=λvs H Q _=>∃(x z u v:V) (r bl:Addr),vs=[x,.ref r,z]/\SqT K H r [u,v,.ref bl]/\SqL K H bl []/\Q .non H
abbrev mE:=λP w K mg base=>M7 P w K mg base B6 2 "barred" ["web","rule","match"] [] (oB K)
def wF {f fd}(T:Txt K mg)(aU:eS P w K mg base)(F:Fun K "barred" "barred" ny f fd):u6 P w K mg base B6 2 f fd ["web","rule","match"] (oB K):=by
 walk_at "#sc_barred"
 .obtain⟨x,z,u,v,r,bl,rfl,_⟩:=h;rfl
 .obtain⟨x,z,u,v,r,bl,rfl,hR,hB,k⟩:=h;walk_at "@sc_barred 2r~c411wk3k4x2553'0aU h047002mib~505]g8d73058]"
  symm;refine b5 hR (b6 (j:=2) rfl) ?_;symm;refine⟨_,rfl,.inl ⟨bl,_,rfl,hB,?_⟩⟩;refine kI (n:=0) (λi σ H'=>H'=H) rfl (λi σ H' hi _=>absurd hi (Pt _)) (λi x σ H' H'' hi=>absurd hi (Pt _)) ?_;rintro σ H1 rfl;refine⟨⟨_,hB,Lp _⟩,?_⟩;symm;exact k
def zP {W W':x9}(p1:W'.pts.Perm W.pts)(p2:W'.ts.Perm W.ts):(b8 W').Perm (b8 W):=(p1.map _).append (p2.map _)
theorem rl:∀{a b:List Str},a.Pairwise ltP->b.Pairwise ltP->(∀x,x∈a↔x∈b)->a=b
 |[],[],_,_,_=>rfl
 |[],y::t,_,_,h=>absurd ((h y).mpr Lv) (by simp)
 |x::r,[],_,_,h=>absurd ((h x).mp Lv) (by simp)
 |x::r,y::t,h1,h2,h=>by
  have Vk:=Na.mp h1;have Vx:=Na.mp h2;have WU:∀z:Str,¬ltP z z:=λz=>Nz _;have e:x=y:=MT λne=>by
   rcases Mi.mp ((h x).mp Lv) with z|z
   .exact ne z
   .rcases Mi.mp ((h y).mpr Lv) with z'|z'
    .exact ne z'.symm
    .have q1:y.cps.toList<x.cps.toList:=Vx.1 x z;have q2:x.cps.toList<y.cps.toList:=Vk.1 y z';exact List.lt_asymm q1 q2
  subst e;rw[rl Vk.2 Vx.2 λz=>⟨λhz=>?_,λhz=>?_⟩]
  .rcases Mi.mp ((h z).mp (Lw _ hz)) with e|e
   .exact absurd (Vk.1 z hz) (by rw[e];exact WU _)
   .exact e
  .rcases Mi.mp ((h z).mpr (Lw _ hz)) with e|e
   .exact absurd (Vx.1 z hz) (by rw[e];exact WU _)
   .exact e
def Ordr.r1 {W:x9}{s1 s2:List Str}(h:Ordr W s1 s2)(nd:(b8 W).Nodup):s1.Pairwise ltP:=mR (qN h.o1 (h.p1.nodup_iff.mpr (E9 nd)))
def Ordr.r2 {W:x9}{s1 s2:List Str}(h:Ordr W s1 s2)(nd:(b8 W).Nodup):s2.Pairwise ltP:=mR (qN h.o2 (h.p2.nodup_iff.mpr (N7 nd)))
def Ordr.uniq {W W':x9}{s1 s2 t1 t2:List Str}(h:Ordr W s1 s2)(h':Ordr W' t1 t2)(p1:W'.pts.Perm W.pts)(p2:W'.ts.Perm W.ts)(nd:(b8 W).Nodup):t1=s1/\t2=s2:=by
 have Rx:(b8 W').Nodup:=(zP p1 p2).nodup_iff.mpr nd;exact⟨rl (h'.r1 Rx) (h.r1 nd) λx=>by rw[h'.p1.mem_iff,h.p1.mem_iff,(p1.map _).mem_iff],rl (h'.r2 Rx) (h.r2 nd) λx=>by rw[h'.p2.mem_iff,h.p2.mem_iff,(p2.map _).mem_iff]⟩
def oz {x s:Str}{m:Int}(h:R8 x s m=true):(x.length:Int)<=m:=by
 unfold R8 at h;simp only[Mg,LA] at h;exact h.1.2
def zF {x:Str}(h:eO x=true):x.length<=1000:=by
 unfold eO at h;have:=oz (Mg _ _▸h).1;lia
def gF (n:Nat):(List.replicate n true).all id=true:=by rw[LZ];intro b hb;exact(SW.mp hb).2
def bh (L:x9)(km kf:List (i6×V))(n:Str):Str:=if n∈b8 L then j8 km n else j8 kf n
structure FrOk (W L R:x9) (fr:List (Str×Str)):Prop where
 ks:∃u1 u2,Ordr R u1 u2/\fr.map (·.1)=(u1++u2).filter λn=>!decide (n∈b8 L)
 nm:∀x∈fr,eO x.2=true
 nd:(fr.map (·.2)).Nodup
 no:∀x∈fr,x.2∉b8 W
 len:fr.length<=8
def FrOk.at_ {W L R:x9}{fr:List (Str×Str)}{s1 s2:List Str}(h:FrOk W L R fr)(ndR:(b8 R).Nodup)(o:Ordr R s1 s2):fr.map (·.1)=(s1++s2).filter λn=>!decide (n∈b8 L):=by
 obtain⟨u1,u2,ou,e⟩:=h.ks;obtain⟨e1,e2⟩:=o.uniq ou (MS _) (MS _) ndR;rw[e,e1,e2]
def FrOk.nd1 {W L R:x9}{fr:List (Str×Str)}(h:FrOk W L R fr)(ndR:(b8 R).Nodup):(fr.map (·.1)).Nodup:=by
 obtain⟨u1,u2,ou,e⟩:=h.ks;rw[e];exact(ou.perm.nodup_iff.mpr ndR).sublist NN
def FrOk.mem {W L R:x9}{fr:List (Str×Str)}(h:FrOk W L R fr){n:Str}:n∈fr.map (·.1)↔n∈b8 R/\n∉b8 L:=by
 obtain⟨u1,u2,ou,e⟩:=h.ks;rw[e,LW,ou.mem,Nw,MR]
def FrOk.txt {W L R:x9}{fr:List (Str×Str)}(h:FrOk W L R fr)(ndR:(b8 R).Nodup){n:Str}(hn:n∈fr.map (·.1)):TxtAt (i7 fr) n/\(n,j8 (i7 fr) n)∈fr:=by
 obtain⟨⟨n',s⟩,hx,e⟩:=Ln.mp hn;have e':n'=n:=e;subst e';have z:=dS (h.nd1 ndR) hx;exact⟨z.1,by rw[z.2];exact hx⟩
def cR (K:Za):Sp:=λvs H Q _=>∃(S L R:Sd) (r bl f:Addr) (bs:List Sd) (fr:List (Str×Str)),vs=[.ref S.a,.ref r,.ref f]/\SdIs K H S/\RuleIs K H r bl L R bs/\H f=some (.dK (i7 fr))/\FrOk S.W L.W R.W fr/\∀H',Same H H'->Q (.bl true) H'
abbrev eh:=λP w K mg base=>M7 P w K mg base B6 4 "names_serve" ["web","rule","fresh"] [] (cR K)
def ki {f fd}(T:Txt K mg)(J1:bT P w K mg base)(ir:oX P w K mg base)(F:Fun K "names_serve" "names_serve" aS f fd):u6 P w K mg base B6 4 f fd ["web","rule","fresh"] (cR K):=by
 walk_at "#sc_names_serve"
 .obtain⟨S,L,R,r,bl,f,bs,fr,rfl,_⟩:=h;rfl
 .obtain⟨S,L,R,r,bl,f,bs,fr,rfl,hS,hR,hF,ok,k⟩:=h;have n_:=ok.len;walk_at "@sc_names_serve 2533'0J1 912iyKHtZYX72W~i'0T.b_dict ~hb)l92l93gz2iHt&%#4jname;2;e03c0name,fresh;n3'0ir 4V0100z2ib)l4,~bA~a~94,~1A?>4~002l93gz8'1JV t'2HY (A'0T.b_any ~g4jname;0;'1zo 02c0name,web;n'2Lg FD0011q'1Cp FD0011q"
  symm;refine⟨r,bl,L,R,bs,rfl,hR,λl1 H1 s1 s2 n1 m1 or f1=>?_⟩;rw[←ok.at_ hR.r.nd or] at f1;have F1:=m1 _ _ hF;symm;refine cu (cm (t:="dict") (.inr (.inr ⟨rfl,_,.inl F1⟩)) (by simp) ?_);symm;rw[if_neg (by decide)];symm;refine E8 (iV (.inl F1) ?_);symm;refine E8 (p9 (SqL.of f1) ?_);rw[j5,Ll,Ll];symm;rw[if_neg (by simp)];symm;refine j7 (SqL.of f1) ?_;refine k8 (n:=fr.length) (λi out H'=>Same H1 H'/\out=List.replicate i (V.bl true)) ⟨Same.refl _,rfl⟩ (λi out H' hi hp=>⟨_,.str (fr[i].1),SqL.of (hp.1 _ _ f1),by rw[Lo,Lo,Lm hi];rfl⟩) ?_ ?_
  .rintro N i v out H2' H2 hi ⟨s2',rfl⟩ y hN';obtain⟨rfl,hx⟩:=Itl.get y (SqL.of (s2' _ _ f1));rw[Lo,Lo,Lm hi] at hx;cases hx;have hm:=LM hi;generalize fr[i]=x at hm;symm;refine⟨rfl,?_⟩;symm;refine⟨f,rfl,.inl ⟨_,.inl (s2' _ _ F1)⟩,?_⟩;symm;refine⟨_,N0 (k:=Sum.inr x.1) (show Rd H2 f _ from .inl (s2' _ _ F1)),?_⟩;rw[O1 (k:=x.2) (ok.nd1 hR.r.nd) hm];symm;refine⟨_,rfl,.inl ⟨x.2,rfl,zF (ok.nm x hm),λH3 m3=>?_⟩⟩;rw[ok.nm x hm];refine⟨b9 (by rw[Nb];lia),hN' _ _ ⟨s2'.trans m3,?_⟩⟩;rw[Qk]
  .rintro out H2 ⟨s2',rfl⟩;refine⟨⟨_,SqL.of (s2' _ _ f1),by rw[Ll,Ll];exact Lp _⟩,λD hD=>⟨b9 (by rw[Nb];lia),?_⟩⟩;obtain⟨H3,e3,f3,m3,_⟩:=b7 (H:=H2) (o:= .lst (List.replicate fr.length (V.bl true))) hD;symm;change tT K _ (upd H2 D _) _;rw[e3];refine jq (bs:=List.replicate fr.length true) (SqL.of (by rw[f3,SX])) ?_;rw[gF];have E_:=s2'.trans m3;have F3:=E_ _ _ F1;symm;refine⟨.inr (.inr (.inl ⟨rfl,.inl ⟨_,F3⟩⟩)),?_⟩;symm;refine⟨f,_,rfl,rfl,.inl F3,λv4 n4=>?_⟩;obtain⟨H4,e4,f4,m4,_⟩:=b7 (o:= .ext (jF v4 f)) n4;rw[e4];symm;refine cZ f4 (.inl (m4 _ _ F3)) (λl5 n5=>?_);rw[mX];obtain⟨H5,e5,f5,m5,_⟩:=b7 (o:= .lst _) n5;rw[e5];symm;refine⟨l5,_,rfl,SqL.of f5,by rw[Ll];lia,λl6 n6=>?_⟩;obtain⟨H6,e6,f6,m6,_⟩:=b7 (o:= .ext (cb l6 (dW (fr.map (·.2))).length)) n6;rw[e6];have Wr:=E_.trans (m4.trans (m5.trans m6));have Us:(dW (fr.map (·.2))).length=fr.length:=by
    have z:=(mV (fr.map (·.2))).mpr ok.nd;rw[Ll] at z;exact z
   symm;refine iu f6 (by lia) ?_;rw[Us];symm;refine E8 (p9 (SqL.of (Wr _ _ f1)) ?_);rw[Ll,Ll];symm;rw[if_neg (by simp)];have F6:=Wr _ _ F1;have S6:=hS.same (m1.trans Wr);symm;refine⟨f,_,rfl,.inl ⟨F6,λndf o=>?_⟩⟩;refine k8 (n:=(i7 fr).length) (λi out H'=>Same (E7 f o (i7 fr) H6) H'/\out=List.replicate i (V.bl false)) ⟨Same.refl _,rfl⟩ (λi out H' hi hp=>⟨hp.1 _ _ d8,hi⟩) ?_ ?_
   .rintro N i v out H7' H7 hi ⟨s7,rfl⟩ ⟨rfl,kv,f_,rfl⟩ hN';have le7:=(L0 (o:=o) F6).trans s7.le;have S7:=S6.at_.mono le7;obtain⟨x,hx,rfl⟩:=bA f_;have Ta:=ok.no x (LF hx);rw[j5] at hi;symm;refine⟨rfl,?_⟩;symm;refine b5 S7.tup (b6 (j:=0) rfl) ?_;refine W5 (N0 (k:=Sum.inr x.2) S7.pts) ?_;rw[O4,LL (λz=>Ta (Ls _ z))];symm;refine b5 S7.tup (b6 (j:=1) rfl) ?_;refine W5 (N0 (k:=Sum.inr x.2) S7.ties) ?_;rw[U7 S7.ts,LL (λz=>Ta (LG _ z))];refine⟨b9 (by rw[Nb];lia),hN' _ _ ⟨s7,?_⟩⟩;rw[Qk]
   .rintro out H7 ⟨s7,rfl⟩;refine⟨⟨s7 _ _ d8,Lp _⟩,λD8 n8=>⟨b9 (by rw[Nb,j5];lia),?_⟩⟩;have s8:=J6 F6 s7 n8 (u:= .lst (List.replicate (i7 fr).length (V.bl false)));have f8:=X0 s7 n8 (u:= .lst (List.replicate (i7 fr).length (V.bl false)));generalize thaw f (upd H7 D8 (.lst (List.replicate (i7 fr).length (V.bl false))))=H8 at s8 f8⊢;symm;refine⟨D8,List.replicate (i7 fr).length false,rfl,SqL.of (by rw[f8,SX]),?_⟩;rw[show(List.replicate (i7 fr).length false).any id=false by rw[Tj];intro x hx;rw[List.eq_of_mem_replicate hx];simp];symm;exact k _ (m1.trans (Wr.trans s8))
structure StI (K:Za) (H:Hp) (st r m f bl:Addr) (L R:Sd) (km kf:List (i6×V)) (bs:List Sd):Prop where
 tup:SqT K H st [.ref r,.ref m,.ref f]
 r:RuleIs K H r bl L R bs
 m:H m=some (.dK km)
 f:H f=some (.dK kf)
 b:H bl=some (.lst (bs.map λs=>V.ref s.a))
def StI.same {H H':Hp}{st r m f bl:Addr}{L R:Sd}{km kf:List (i6×V)}{bs:List Sd}(h:StI K H st r m f bl L R km kf bs)(s:Same H H'):StI K H' st r m f bl L R km kf bs:=⟨s.tup h.tup,h.r.same s,s _ _ h.m,s _ _ h.f,s _ _ h.b⟩
def jR {α:Type}{l:List α}{p:α->Bool}(h:l.Nodup):(l.filter p).Nodup:=h.sublist NN
def yb {A B:List (Str×Str)}{n:Str}(nd:((A++B).map (·.1)).Nodup)(h:n∈A.map (·.1)):TxtAt (i7 A++i7 B) n/\j8 (i7 A++i7 B) n=j8 (i7 A) n:=by
 obtain⟨⟨n',s⟩,hx,e⟩:=Ln.mp h;have e':n'=n:=e;subst e';have e2:i7 A++i7 B=i7 (A++B):=by unfold i7;rw[Lr]
 have z:=dS nd (Ls B hx);rw[Lr] at nd;rw[e2,(dS (LU.mp nd).1 hx).2];exact z
def wL {A B:List (Str×Str)}{n:Str}(nd:((A++B).map (·.1)).Nodup)(h:n∈B.map (·.1)):TxtAt (i7 A++i7 B) n/\j8 (i7 A++i7 B) n=j8 (i7 B) n:=by
 obtain⟨⟨n',s⟩,hx,e⟩:=Ln.mp h;have e':n'=n:=e;subst e';have e2:i7 A++i7 B=i7 (A++B):=by unfold i7;rw[Lr]
 have z:=dS nd (LG A hx);rw[Lr] at nd;rw[e2,(dS (LU.mp nd).2.1 hx).2];exact z
def aj (ss:List Str)(f:Str->Str):(ss.map λn=>(n,f n)).map (·.1)=ss:=by rw[LH];exact RR ss
def oR (K:Za):Sp:=λvs H Q _=>∃(st r m f bl:Addr) (L R:Sd) (km kf:List (i6×V)) (bs:List Sd),vs=[.ref st]/\StI K H st r m f bl L R km kf bs/\(∀n∈b8 L.W,TxtAt km n)/\(∀n∈b8 R.W,n∉b8 L.W->TxtAt kf n)/\∀(d:Addr) (H':Hp) (t1 t2:List Str),H d=none->Same H H'->Ordr R.W t1 t2->H' d=some (.dK (i7 ((t1++t2).map λn=>(n,bh L.W km kf n))))->Q (.ref d) H'
abbrev sW:=λP w K mg base=>M7 P w K mg base B6 4 "behind" ["step"] [] (oR K)
def xX {f fd}(T:Txt K mg)(cU:sS P w K mg base)(uJ:yX P w K mg base)(J1:bT P w K mg base)(C5:Z2 P w K mg base)(F:Fun K "behind" "behind" mP f fd):u6 P w K mg base B6 4 f fd ["step"] (oR K):=by
 walk_at "#sc_behind"
 .obtain⟨st,r,m,f,bl,L,R,km,kf,bs,rfl,_⟩:=h;rfl
 .obtain⟨st,r,m,f,bl,L,R,km,kf,bs,rfl,hS,hM,hF,k⟩:=h;have Wk:=hS.r.l.len;have Vc:=hS.r.r.len;walk_at "@sc_behind 251102523'0cU a103'0uJ 912NQ'0MX '0Oj '0Ph '0X1 0243'0cU a103'0J1 9183'0cU 723=411"
  symm;refine b5 hS.tup (b6 (j:=0) rfl) ?_;symm;refine b5 hS.tup (b6 (j:=1) rfl) ?_;symm;refine⟨r,bl,L,R,bs,rfl,hS.r,λl1 H1 s1 s2 n1 m1 o1 f1=>?_⟩;have S1:=hS.same m1;have UJ:=o1.len;have hfl1:=LD (λn=>decide (n∈b8 R.W)) (s1++s2);symm;refine⟨m,l1,km,_,rfl,.inl S1.m,SqL.of f1,jR (o1.perm.nodup_iff.mpr hS.r.l.nd),by lia,λn hn=>hM n (o1.mem.mp (LW.mp hn).1),λd2 H2 n2 m2 f2=>?_⟩;have S2:=S1.same m2;symm;refine⟨.inr (.inr (.inl ⟨rfl,.inl ⟨_,f2⟩⟩)),?_⟩;symm;refine b5 S2.tup (b6 (j:=2) rfl) ?_;symm;refine⟨r,bl,L,R,bs,rfl,S2.r,λl3 H3 u1 u2 n3 m3 o3 f3=>?_⟩;have S3:=S2.same m3;have hl3:=o3.len;have Uu:=LD (λn=>!decide (n∈b8 L.W)) (u1++u2);symm;refine⟨f,l3,kf,_,rfl,.inl S3.f,SqL.of f3,jR (o3.perm.nodup_iff.mpr hS.r.r.nd),by lia,λn hn=>hF n (o3.mem.mp (LW.mp hn).1) (by have z:=(LW.mp hn).2;rw[Nw,MR] at z;exact z),λd4 H4 n4 m4 f4=>?_⟩;have S4:=S3.same m4;have f2':=m4 _ _ (m3 _ _ f2);have ne24:d2≠d4:=d6 (m3 _ _ f2) n4;have Up:∀n∈(s1++s2).filter (λn=>decide (n∈b8 R.W)),n∈b8 L.W:=λn hn=>o1.mem.mp (LW.mp hn).1;have Ta:∀n∈(u1++u2).filter (λn=>!decide (n∈b8 L.W)),n∉b8 L.W:=λn hn=>by have z:=(LW.mp hn).2;rw[Nw,MR] at z;exact z
  have Yp:(((s1++s2).filter λn=>decide (n∈b8 R.W))++((u1++u2).filter λn=>!decide (n∈b8 L.W))).Nodup:=LU.mpr ⟨jR (o1.perm.nodup_iff.mpr hS.r.l.nd),jR (o3.perm.nodup_iff.mpr hS.r.r.nd),λa ha b hb e=>Ta b hb (e▸Up a ha)⟩;have Yq:∀n∈b8 R.W,n∈b8 L.W->n∈(s1++s2).filter λn=>decide (n∈b8 R.W):=λn h1 h2=>LW.mpr ⟨o1.mem.mpr h2,LN h1⟩;have Yr:∀n∈b8 R.W,n∉b8 L.W->n∈(u1++u2).filter λn=>!decide (n∈b8 L.W):=λn h1 h2=>LW.mpr ⟨o3.mem.mpr h1,by rw[LL h2];rfl⟩;generalize (s1++s2).filter (λn=>decide (n∈b8 R.W))=A at f2' Yp Yq hfl1;generalize (u1++u2).filter (λn=>!decide (n∈b8 L.W))=B at f4 Yp Yr Uu;have TY:(((A.map λn=>(n,j8 km n))++(B.map λn=>(n,j8 kf n))).map (·.1)).Nodup:=by rw[Lr,aj,aj];exact Yp
  symm;refine⟨d2,d4,_,_,rfl,rfl,f2',.inl f4,ne24,by rw[j5,j5,Ll,Ll];lia,?_⟩;rw[wY (by have z:=V3 TY;unfold i7 at z⊢;rw[Lr] at z;exact z)];have n20:H1 d2=none:=n2;have s5:Same H1 (upd H4 d2 (.dK (i7 (A.map λn=>(n,j8 km n))++i7 (B.map λn=>(n,j8 kf n))))):=M3 (m2.trans (m3.trans m4)) n20;have f5:upd H4 d2 (.dK (i7 (A.map λn=>(n,j8 km n))++i7 (B.map λn=>(n,j8 kf n)))) d2=some (.dK (i7 (A.map λn=>(n,j8 km n))++i7 (B.map λn=>(n,j8 kf n)))):=d8;generalize upd H4 d2 (.dK (i7 (A.map λn=>(n,j8 km n))++i7 (B.map λn=>(n,j8 kf n))))=H5 at s5 f5⊢;have S5:=S1.same s5;symm;refine b5 S5.r.tup (b6 (j:=1) rfl) ?_;symm;refine⟨R.a,R.p,R.q,R.kvs,R.W,rfl,S5.r.r.at_,by lia,λl6 H6 t1 t2 n6 m6 f6 o6=>?_⟩;have hl6:=o6.len;symm;have gA:∀n∈b8 R.W,TxtAt (i7 (A.map λn=>(n,j8 km n))++i7 (B.map λn=>(n,j8 kf n))) n/\j8 (i7 (A.map λn=>(n,j8 km n))++i7 (B.map λn=>(n,j8 kf n))) n=bh L.W km kf n:=λn hn=>by
   unfold bh;by_cases hL:n∈b8 L.W
   .rw[if_pos hL];have hA:=Yq n hn hL;have z:=yb TY (by rw[aj];exact hA);exact⟨z.1,z.2.trans (lC (LU.mp Yp).1 hA).2⟩
   .rw[if_neg hL];have hB:=Yr n hn hL;have z:=wL TY (by rw[aj];exact hB);exact⟨z.1,z.2.trans (lC (LU.mp Yp).2.1 hB).2⟩
  refine⟨d2,l6,_,_,rfl,.inl (m6 _ _ f5),SqL.of f6,o6.perm.nodup_iff.mpr hS.r.r.nd,by lia,λn hn=>(gA n (o6.mem.mp hn)).1,λd7 H7 n7 m7 f7=>?_⟩;refine k d7 H7 t1 t2 (m1.free (s5.free (m6.free n7))) (m1.trans (s5.trans (m6.trans m7))) o6 ?_;rw[f7];congr 3;exact NM λn hn=>by rw[(gA n (o6.mem.mp hn)).2]
def cX (L R:x9)(km:List (i6×V)):List Str:=((b8 L).filter λn=>!decide (n∈b8 R)).map (j8 km)
def Ek {gs Ys:List Str}(W:x9)(h:∀n,n∈gs↔n∈Ys):dX gs W=dX Ys W:=by
 unfold dX;congr 1
 .exact Tw λx _=>by rw[LQ];simp only[Nw,MR];rw[h]
 .exact Tw λx _=>by rw[LQ];simp only[Nw,MR];rw[h]
def vf {L R:x9}{km:List (i6×V)}{s1 s2:List Str}(o:Ordr L s1 s2)(n:Str):n∈((s1++s2).filter λn=>!decide (n∈b8 R)).map (j8 km)↔n∈cX L R km:=((o.perm.filter _).map _).mem_iff
def Cb {f:Str->Str}{W:x9}(h:((b8 W).map f).Nodup):((A8 f W).pts.map (·.1)).Nodup/\((A8 f W).ts.map (·.1)).Nodup:=by
 unfold b8 at h;rw[Lr] at h;have z:=LU.mp h;unfold A8;have z1:=z.1;have z2:=z.2.1;rw[LH] at z1 z2;exact⟨by show((W.pts.map λx=>(f x.1,x.2)).map (·.1)).Nodup;rw[LH];exact z1,by show((W.ts.map λx=>(f x.1,(x.2.1,f x.2.2.1,f x.2.2.2))).map (·.1)).Nodup;rw[LH];exact z2⟩
def yc (W:x9)(gs:List Str):Prop:=∀x∈W.ts,x.1∉gs->x.2.2.1∉gs/\x.2.2.2∉gs
structure Co (n:Str) (L R:x9):Prop where
 p:∀k,(n,k)∈L.pts↔(n,k)∈R.pts
 t:∀t,(n,t)∈L.ts↔(n,t)∈R.ts
def lO (K:Za):Sp:=λvs H Q E=>∃(S L R:Sd) (st r m f bl:Addr) (km kf:List (i6×V)),vs=[.ref S.a,.ref st]/\SdIs K H S/\StI K H st r m f bl L R km kf []/\(km.map (·.1)).Nodup/\km.length<=100/\(∀kv∈km,∃n s,kv=(Sum.inr n,V.str s))/\xh L.W S.W km/\S.W.pts.length+S.W.ts.length<=13/\(yc S.W (cX L.W R.W km)->NewP K H Q (dX (cX L.W R.W km) S.W))/\(¬yc S.W (cX L.W R.W km)->∀H' e,Same H H'->H' e=none->E (.ref (cA K "Loose")) (some e) H')
def we (K:Za):Sp:=λvs H Q E=>∃(S L R:Sd) (st r m f bl:Addr) (km:List (i6×V)) (fr:List (Str×Str)),vs=[.ref S.a,.ref st]/\SdIs K H S/\StI K H st r m f bl L R km (i7 fr) []/\(km.map (·.1)).Nodup/\km.length<=100/\(∀kv∈km,∃n s,kv=(Sum.inr n,V.str s))/\xh L.W S.W km/\FrOk S.W L.W R.W fr/\((b8 R.W).map (bh L.W km (i7 fr))).Nodup/\(∀n∈b8 L.W,n∈b8 R.W->Co n L.W R.W)/\(b8 R.W).length<=13/\S.W.pts.length+S.W.ts.length<=13/\(yc S.W (cX L.W R.W km)->∀v H',Same H H'->Q v H')/\(¬yc S.W (cX L.W R.W km)->∀H' e,Same H H'->H' e=none->E (.ref (cA K "Loose")) (some e) H')
abbrev pJ:=λP w K mg base=>M7 P w K mg base (gY P w) 5 "rest_of" ["web","step"] [] (lO K)
def ve {f fd}(T:Txt K mg)(fh:lJ P w K mg base)(gZ:oG P w K mg base)(K8:dC P w K mg base)(Z6:mE P w K mg base)(F:Fun K "rest_of" "rest_of" iF f fd):u6 P w K mg base (gY P w) 5 f fd ["web","step"] (lO K):=by
 refine F.okE sc_rest_of (λvs H Q E h=>?_) (λc_ A outer s H vs Q E hr h=>?_)
 .obtain⟨S,L,R,st,r,m,f,bl,km,kf,rfl,_⟩:=h;rfl
 .obtain⟨S,L,R,st,r,m,f,bl,km,kf,rfl,hS,hT,knd,kln,ktx,fit,hsz,k,kE⟩:=h;have Wk:=hT.r.l.len;have Vc:=hT.r.r.len;walk_at "@sc_rest_of 252112iH3'0fh h127011m@'0T.r_NoMatch 4p253P'0gZ -703'0K8 912ib~53'0Z6 h007211]gm@'0T.r_Barred 4p803"
  symm;refine b5 hT.tup (b6 (j:=0) rfl) ?_;symm;refine b5 hT.r.tup (b6 (j:=0) rfl) ?_;symm;refine b5 hT.tup (b6 (j:=1) rfl) ?_;symm;refine⟨L.a,L.p,L.q,S.a,S.p,S.q,L.kvs,S.kvs,L.W,S.W,.ref m,true,rfl,hT.r.l,hS,.inr (.inr ⟨m,km,rfl,hT.m,knd,kln,λkv hk=>?_,(vI fit).symm⟩),λH1 m1=>?_⟩
  .obtain⟨n,s,rfl⟩:=ktx kv hk;exact⟨"str",rfl⟩
  have T1:=hT.same m1;have S1:=hS.same m1;symm;refine⟨st,r,m,bl,.ref f,L,R,[],km,rfl,T1.tup,T1.r,.inl T1.m,fit.txt,λl2 H2 s1 s2 n2 m2 o2 f2=>?_⟩;have T2:=T1.same m2;have S2:=S1.same m2;symm;have Vy:=vf (R:=R.W) (km:=km) o2;generalize ((s1++s2).filter λn=>!decide (n∈b8 R.W)).map (j8 km)=gs at f2 Vy;have hsz':=S2.len;rw[E4] at hsz';refine⟨S.a,l2,S.p,S.q,S.kvs,S.W,gs,rfl,S2.at_,S2.hp,S2.hq,SqL.of f2,E9 hS.nd,N7 hS.nd,by lia,by lia,λx hx=>hS.nl _ (LG _ (Ln.mpr ⟨x,hx,rfl⟩)),?_⟩;have hlb:iU gs S.W=true↔¬yc S.W (cX L.W R.W km):=by
   rw[show iU gs S.W=(S.W.ts.filter λx=>!decide (x.1∈gs)).any λx=>decide (x.2.2.1∈gs)||decide (x.2.2.2∈gs) from rfl,Nr];constructor
   .rintro⟨x,hx,hz⟩ lo;have I_:=LW.mp hx;have hn:x.1∉cX L.W R.W km:=λq=>by
     have q2:=I_.2;rw[LN ((Vy _).mpr q)] at q2;cases q2
    have he:=lo x I_.1 hn;rw[Qt,LA,LA,Vy,Vy] at hz;exact hz.elim he.1 he.2
   .intro z;refine MT λy=>z λx hx hn=>?_;have hf:x∈S.W.ts.filter λx=>!decide (x.1∈gs):=LW.mpr ⟨hx,by rw[LL λq=>hn ((Vy _).mp q)];rfl⟩;refine⟨λq=>y ⟨x,hf,?_⟩,λq=>y ⟨x,hf,?_⟩⟩
    .rw[LN ((Vy _).mpr q)];rfl
    .rw[LN ((Vy _).mpr q),Bool.or_true]
  by_cases lo:yc S.W (cX L.W R.W km);case neg=>
   rw[if_pos (hlb.mpr lo)]
   exact λH3 e m3 he=>kE lo H3 e (m1.trans (m2.trans m3)) he
  have k:=k lo;have Xj:¬iU gs S.W=true:=λz=>hlb.mp z lo;rw[if_neg Xj,Ek S.W Vy];intro a3 p3 q3 k3 W3 H3 m3 w3 hp3 hq3 ne3 np3 nq3 e31 e32;have T3:=T2.same m3;have S3:=S2.same m3;symm;refine b5 T3.tup (b6 (j:=1) rfl) ?_;symm;refine⟨_,_,_,_,r,bl,rfl,T3.r.tup,T3.r.bl,?_⟩;symm;rw[if_neg (by simp)];symm;exact k a3 p3 q3 k3 W3 H3 (m1.trans (m2.trans m3)) w3 hp3 hq3 ne3 ((m1.trans m2).free np3) ((m1.trans m2).free nq3) e31 e32
abbrev zw:=λP w K mg base=>M7 P w K mg base (gY P w) 6 "done" ["web","step"] [] (we K)
def Dj {f fd}(T:Txt K mg)(hJ:pJ P w K mg base)(aM:eh P w K mg base)(bj:kY P w K mg base)(U5:iw P w K mg base)(kK:sW P w K mg base)(F:Fun K "done" "done" ug f fd):u6 P w K mg base (gY P w) 6 f fd ["web","step"] (we K):=by
 refine F.okE sc_done (λvs H Q E h=>?_) (λc_ A outer s H vs Q E hr h=>?_)
 .obtain⟨S,L,R,st,r,m,f,bl,km,fr,rfl,_⟩:=h;rfl
 .obtain⟨S,L,R,st,r,m,f,bl,km,fr,rfl,hS,hT,knd,kln,ktx,fit,fo,ndB,ag,hR8,hsz,k,kE⟩:=h;have Wk:=hT.r.l.len;have Vc:=hT.r.r.len;walk_at "@sc_done 25211253P'0hJ -70012iH3'0aM h007211m@'0T.r_NoNames 4p83'0bj 733'0U5 a123'0kK 91"
  symm;refine b5 hT.tup (b6 (j:=0) rfl) ?_;symm;refine⟨S,L,R,st,r,m,f,bl,km,i7 fr,rfl,hS,hT,knd,kln,ktx,fit,hsz,λlo=>?_,kE⟩;intro a3 p3 q3 k3 W3 H3 m3 w3 hp3 hq3 ne3 np3 nq3 e31 e32;have T3:=hT.same m3;have S3:=hS.same m3;symm;refine b5 T3.tup (b6 (j:=2) rfl) ?_;symm;refine⟨S,L,R,r,bl,f,[],fr,rfl,S3,T3.r,T3.f,fo,λH4 m4=>?_⟩;have T4:=T3.same m4;symm;refine b5 T4.r.tup (b6 (j:=1) rfl) ?_;symm;refine⟨st,r,m,f,bl,L,R,km,i7 fr,[],rfl,T4,fit.txt,λn h1 h2=>(fo.txt hT.r.r.nd (fo.mem.mpr ⟨h1,h2⟩)).1,λd5 H5 t1 t2 n5 m5 o5 f5=>?_⟩;have T5:=T4.same m5;have nds:=o5.perm.nodup_iff.mpr hT.r.r.nd;have gb:∀n∈b8 R.W,TxtAt (i7 ((t1++t2).map λn=>(n,bh L.W km (i7 fr) n))) n/\j8 (i7 ((t1++t2).map λn=>(n,bh L.W km (i7 fr) n))) n=bh L.W km (i7 fr) n:=λn hn=>lC nds (o5.mem.mpr hn);symm;refine⟨R.a,d5,R.p,R.q,R.kvs,_,R.W,bh L.W km (i7 fr),rfl,T5.r.r.at_,T5.r.r.hp,T5.r.r.hq,.inl f5,λn hn=>?_,ndB,by lia,T5.r.r.ends,?_⟩
  .have z:=(gb n hn).1.at_;rw[(gb n hn).2] at z;exact z
  intro a6 p6 q6 k6 W6 H6 m6 w6 hp6 hq6 ne6 np6 nq6 e61 e62;have WV:=m4.trans (m5.trans m6);symm;have nr:=Cb ndB;have nw1:(W3.pts.map (·.1)).Nodup:=(e31.map _).nodup_iff.mpr (Z0 (E9 hS.nd));have nw2:(W3.ts.map (·.1)).Nodup:=(e32.map _).nodup_iff.mpr (Z0 (N7 hS.nd));have lf1:=LD (λx:Str×Str=>!decide (x.1∈cX L.W R.W km)) S.W.pts;have lf2:=LD (λx:Str×N4=>!decide (x.1∈cX L.W R.W km)) S.W.ts;have Yt:=e31.length_eq;have le2:=e32.length_eq;have Vz:=e61.length_eq;have V_:=e62.length_eq;rw[show(A8 (bh L.W km (i7 fr)) R.W).pts.length=R.W.pts.length from Ll _] at Vz;rw[show(A8 (bh L.W km (i7 fr)) R.W).ts.length=R.W.ts.length from Ll _] at V_;rw[show(dX (cX L.W R.W km) S.W).pts.length=(S.W.pts.filter λx=>!decide (x.1∈cX L.W R.W km)).length from rfl] at Yt;rw[show(dX (cX L.W R.W km) S.W).ts.length=(S.W.ts.filter λx=>!decide (x.1∈cX L.W R.W km)).length from rfl] at le2;rw[E4] at hR8;have Zi:∀m∈b8 L.W,bh L.W km (i7 fr) m=j8 km m:=λm hm=>by unfold bh;rw[if_pos hm]
  have bhF:∀m,m∉b8 L.W->bh L.W km (i7 fr) m=j8 (i7 fr) m:=λm hm=>by unfold bh;rw[if_neg hm]
  have Yu:∀m∈b8 R.W,m∉b8 L.W->j8 (i7 fr) m∉b8 S.W:=λm h1 h2=>fo.no _ (fo.txt hT.r.r.nd (fo.mem.mpr ⟨h1,h2⟩)).2;have agr:sY W3 W6:=by
   refine⟨nw1,nw2,(e61.map _).nodup_iff.mpr nr.1,(e62.map _).nodup_iff.mpr nr.2,λn s s' h1 h2=>?_,λn s s' h1 h2=>?_,by lia,by lia⟩
   .have h1:=(LW.mp (e31.mem_iff.mp h1)).1;obtain⟨y,hy,e⟩:=Ln.mp (e61.mem_iff.mp h2);cases e;have Yv:y.1∈b8 R.W:=Ls _ (Ln.mpr ⟨y,hy,rfl⟩);by_cases z:y.1∈b8 L.W
    .rw[Zi _ z] at h1;exact j6 (E9 hS.nd) h1 (fit.pts _ (((ag _ z Yv).p y.2).mpr hy))
    .rw[bhF _ z] at h1;exact absurd (Ls _ (Ln.mpr ⟨_,h1,rfl⟩)) (Yu _ Yv z)
   .have h1:=(LW.mp (e32.mem_iff.mp h1)).1;obtain⟨y,hy,e⟩:=Ln.mp (e62.mem_iff.mp h2);cases e;have Yv:y.1∈b8 R.W:=LG _ (Ln.mpr ⟨y,hy,rfl⟩);by_cases z:y.1∈b8 L.W
    .have hyL:=((ag _ z Yv).t y.2).mpr hy;have en:=hT.r.l.ends y hyL;rw[Zi _ z] at h1;have f9:=fit.ts _ hyL;rw[Zi _ (Ls _ en.1),Zi _ (Ls _ en.2)];exact j6 (N7 hS.nd) h1 f9
    .rw[bhF _ z] at h1;exact absurd (LG _ (Ln.mpr ⟨_,h1,rfl⟩)) (Yu _ Yv z)
  exact⟨a3,p3,q3,a6,p6,q6,k3,k6,W3,W6,rfl,w3.mono WV.le,w6,agr,λa7 p7 q7 k7 Z7 H7 s7 _ _ _ _ _ _ _ _ _ _ _ _=>k lo _ H7 (m3.trans (WV.trans s7))⟩
def lH {D d:Addr}{kvs:List (i6×V)}{o:Obj}{H H1:Hp}(h:H d=some (.dK kvs))(s:Same (E7 d o kvs H) H1)(hD:H1 D=none):H D=none:=by
 have z:=s.free hD;by_cases e:D=d
 .rw[e,lV] at z;cases z
 .rw[P6 e] at z;exact z
def wQ {H:Hp}{d:Addr}{kvs:List (i6×V)}(hd:Rd H d (.dK kvs)){R:It->(Hp->Hp)->Hp->Prop}(q:∀(G0:Hp) (o:Obj) (th:Hp->Hp),Le H G0->G0 d=some (.frz o (.dK kvs))->(∀(H1:Hp) (D:Addr) (u:HO),Same G0 H1->H1 D=none->H D=none/\Same H (th (upd H1 D u))/\th (upd H1 D u) D=some u)->R (FG d o kvs) th G0):rIterD FG (.ref d) H R:=by
 rcases hd with hd|⟨o,hd⟩
 .exact D6 hd λYa o1=>q _ o1 _ (L0 hd) lV λH1 D u s hD=>⟨lH hd s hD,J6 hd s hD,X0 s hD⟩
 .refine⟨d,kvs,rfl,.inr ⟨o,hd,λnd=>q H o id (Same.refl H).le hd λH1 D u s hD=>⟨s.free hD,λb v hb=>?_,d8⟩⟩⟩;show upd H1 D u b=_;rw[d9 λe=>by rw[e,s.free hD] at hb;cases hb];exact s _ _ hb
def qI {H:Hp}{d p:Addr}{o:Obj}{kvs b_:List (i6×V)}(hd:H d=some (.dK kvs))(hp:H p=some (.dK b_)):Rd (E7 d o kvs H) p (.dK b_):=by
 by_cases e:p=d
 .subst e;rw[hd] at hp;cases hp;exact .inr ⟨o,lV⟩
 .exact .inl (by rw[P6 e];exact hp)
def iZ (K:Za):Sp:=λvs H Q _=>∃(d:Addr) (kvs:List (i6×V)) (v:V) (ns:List Str) (f:i6×V->Bool),vs=[.ref d,v]/\Rd H d (.dK kvs)/\kvs.map (·.1)=ns.map Sum.inr/\kvs.length<=100/\(∀kv∈kvs,∀H',Le H H'->∀Q',Q' (.bl (f kv)) H'->gB K kv.2 v H' Q')/\Hu H Q (λss=>ss.map Sum.inr=(kvs.filter f).map (·.1))
abbrev fI:=λP w K mg base=>M7 P w K mg base B6 1 "names_of" ["named","thing"] [] (iZ K)
def sP {f fd}(T:Txt K mg)(F:Fun K "names_of" "names_of" fj f fd):u6 P w K mg base B6 1 f fd ["named","thing"] (iZ K):=by
 walk_at "#sc_names_of"
 .obtain⟨d,kvs,v,ns,f,rfl,_⟩:=h;rfl
 .obtain⟨d,kvs,v,ns,f,rfl,hd,hk,hl,he,k⟩:=h;walk_at "@sc_names_of 8jname,held;1;L00wc0name,held,thing;c1name,held,thing;xMbB0102g00";symm;refine wQ hd λG0 o1 th leG fG Sm=>?_;refine k8 (n:=kvs.length) (λi out H'=>Same G0 H'/\∃ss:List Str,out=ss.map V.str/\ss.map Sum.inr=((kvs.take i).filter f).map (·.1)) ⟨Same.refl _,[],rfl,rfl⟩ (λi out H' hi hp=>⟨hp.1 _ _ fG,hi⟩) ?_ ?_
  .rintro N i u out H1 H2 hi ⟨s1,ss,rfl,es⟩ ⟨t,kv,f_,nt,rfl,rfl⟩ hN';obtain⟨H3,e3,f3,m3,_⟩:=b7 (o:= .tup _) nt;rw[e3];have hm:=LF f_;have Vz:=leG.trans (s1.trans m3).le;obtain⟨n,hn⟩:∃n,kv.1=Sum.inr n:=by
    have z:kv.1∈ns.map Sum.inr:=by rw[←hk];exact Ln.mpr ⟨kv,hm,rfl⟩
    obtain⟨n,_,e⟩:=Ln.mp z;exact⟨n,e.symm⟩
   have UG:ss.length<=100:=by
    have z:=Mw List.length es;rw[Ll,Ll] at z;have y:=LD f (kvs.take i);rw[Lz] at y;lia
   refine K9 (SqT.of f3) rfl ?_;symm;refine⟨rfl,?_⟩;symm;refine he kv hm H3 Vz _ ?_;symm;refine iL (λht=>?_) (λhf=>?_)
   .symm;refine⟨b9 (by rw[Ll];lia),hN' _ _ ⟨s1.trans m3,ss++[n],?_,?_⟩⟩
    .rw[Lr,hn];rfl
    .rw[GO f_ ht,Lr,Lr,es];show _++[Sum.inr n]=_++[kv.1];rw[hn]
   .exact hN' _ _ ⟨s1.trans m3,ss,rfl,by rw[IC f_ hf];exact es⟩
  .rintro out H1 ⟨s1,ss,rfl,es⟩;rw[Lu (Lp _)] at es;have UG:ss.length<=100:=by
    have z:=Mw List.length es;rw[Ll,Ll] at z;have y:=LD f kvs;lia
   refine⟨⟨s1 _ _ fG,Lp _⟩,λD hD=>⟨b9 (by rw[Ll];lia),?_⟩⟩;obtain⟨z1,z2,z3⟩:=Sm _ _ (.lst (ss.map V.str)) s1 hD;exact k D _ ss z1 z2 z3 es
def PP (P R:x9):List (Str×List Str):=P.pts.map λx=>(x.1,(R.pts.filter λy=>decide (y.2=x.2)).map (·.1))
def yU (ps:List (Str×Str))(x y:N4):Bool:=bt (Y7 y) (qH ps x)
def TP (P R:x9)(ps:List (Str×Str)):List (Str×List Str):=P.ts.map λx=>(x.1,(R.ts.filter λy=>yU ps x.2 y.2).map (·.1))
def PtAt (H:Hp)(kvs:List (i6×V))(pa:List (Str×List Str)):Prop:=Paired (λkv x=>kv.1=Sum.inr x.1/\∃l,kv.2=V.ref l/\H l=some (.lst (x.2.map V.str))) kvs pa
def PtAt.same {H H':Hp}{kvs:List (i6×V)}{pa:List (Str×List Str)}(h:PtAt H kvs pa)(s:Same H H'):PtAt H' kvs pa:=Paired.imp' (λ_ _ z=>⟨z.1,let ⟨l,e,f⟩:=z.2;⟨l,e,s _ _ f⟩⟩) h
theorem PtAt.keys {H:Hp}:∀{kvs:List (i6×V)} {pa:List (Str×List Str)},PtAt H kvs pa->kvs.map (·.1)=pa.map λx=>Sum.inr x.1
 |_,_,.nil=>rfl
 |_,_,.cons h t=>by rw[Ms,Ms,PtAt.keys t,h.1]
def aE (K:Za):Sp:=λvs H Q _=>∃(a p q a' p' q':Addr) (kvs b_:List (i6×V)) (P R:x9),vs=[.ref a,.ref a']/\WebIs 13 K H a p q kvs P/\WebIs 13 K H a' p' q' b_ R/\∀(d:Addr) (kv:List (i6×V)) (H':Hp),H d=none->Same H H'->H' d=some (.dK kv)->PtAt H' kv (PP P R)->Q (.ref d) H'
def cq (K:Za):Sp:=λvs H Q _=>∃(a p q a' p' q' e:Addr) (kvs b_:List (i6×V)) (P R:x9) (ps:List (Str×Str)),vs=[.ref a,.ref a',.ref e]/\WebIs 13 K H a p q kvs P/\WebIs 13 K H a' p' q' b_ R/\H e=some (.dK (i7 ps))/\e≠q/\∀(d:Addr) (kv:List (i6×V)) (H':Hp),H d=none->Same H H'->H' d=some (.dK kv)->PtAt H' kv (TP P R ps)->Q (.ref d) H'
def jf {a b:List Str}(h:a.map (Sum.inr:Str->i6)=b.map Sum.inr):a=b:=by
 induction a generalizing b with
 |nil=>cases b with|nil=>rfl|cons _ _=>cases h
 |cons x a ih=>
  cases b with
  |nil=>cases h
  |cons y b=>
   have h':=Mo h
   rw[NL h'.1,ih h'.2]
def oQ {H:Hp}{kvs:List (i6×V)}{pa:List (Str×List Str)}{n:Str}{l:Addr}{ss:List Str}(h:PtAt H kvs pa)(f:H l=some (.lst (ss.map V.str))):PtAt H (kvs++[(Sum.inr n,V.ref l)]) (pa++[(n,ss)]):=r6 h ⟨rfl,l,rfl,f⟩
set_option maxHeartbeats 4000000 in
abbrev ba:=λP w K mg base=>M7 P w K mg base B6 2 "point_partners" ["piece","other"] [] (aE K)
def gR {f fd}(T:Txt K mg)(T7:fI P w K mg base)(F:Fun K "point_partners" "point_partners" S8 f fd):u6 P w K mg base B6 2 f fd ["piece","other"] (aE K):=by
 walk_at "#sc_point_partners"
 .obtain⟨a,p,q,a',p',q',kvs,b_,P,R,rfl,_⟩:=h;rfl
 .obtain⟨a,p,q,a',p',q',kvs,b_,P0,R0,rfl,hP,hR,k⟩:=h;have lP:=hP.len;rw[E4] at lP;have lR:=hR.len;rw[E4] at lR;have eP:=j5 P0.pts;have eR:=j5 R0.pts;walk_at "@sc_point_partners 8v4jname,kind;1;L10wc0name,kind,other;c1name,kind,other;xnd703'0T7 a1201";symm;refine b5 hP.at_.tup (b6 (j:=0) rfl) ?_;refine D6 hP.hp (λWC o1=>?_);refine k8 (n:=(i7 P0.pts).length) (λi out H'=>Same (E7 p o1 (i7 P0.pts) H) H'/\∃kv:List (i6×V),Paired (PrV K H') out kv/\PtAt H' kv ((PP P0 R0).take i)) ⟨Same.refl _,[],.nil,.nil⟩ (λi out H' hi hp=>⟨hp.1 _ _ d8,hi⟩) ?_ ?_
  .rintro N i v out H1 H2 hi ⟨s1,kv,pr,pt⟩ ⟨t,kv0,f_,nt,rfl,rfl⟩ hN';obtain⟨x,hx,rfl⟩:=bA f_;obtain⟨H3,e3,f3,m3,_⟩:=b7 (o:= .tup _) nt;rw[e3];have s3:=s1.trans m3;have Vz:=(L0 (o:=o1) hP.hp).trans s3.le;have g3:Rd H3 p' (.dK (i7 R0.pts)):=s3.rd (qI hP.hp hR.hp);have R3:=hR.at_.mono Vz;refine K9 (SqT.of f3) rfl ?_;symm;refine⟨rfl,?_⟩;symm;refine b5 R3.tup (b6 (j:=0) rfl) ?_;symm;refine⟨p',i7 R0.pts,.str x.2,R0.pts.map (·.1),λkv=>dq kv.2 (.str x.2),rfl,g3,by rw[D5,A4],by lia,λkv f_ H' _ Q' q'=>?_,λl H4 ss nl m4 f4 es=>?_⟩
   .obtain⟨y,hy,rfl⟩:=Ln.mp f_;refine gG ?_;rw[show decide (y.2=x.2)=dq (.str y.2) (.str x.2) by show _=(y.2==x.2);rw[LQ,Pd,LA]];exact q'
   have Ua:ss=(R0.pts.filter λy=>decide (y.2=x.2)).map (·.1):=by
    refine jf (es.trans ?_);unfold i7;rw[List.filter_map,LH,LH];congr 1
   symm;refine⟨b9 (by simp),λt5 n5=>?_⟩;obtain⟨H5,e5,f5,m5,_⟩:=b7 (o:= .tup _) n5;rw[e5];have Vi:=m3.trans (m4.trans m5);have ol:=Mc pr;have Ws:=Mc pt;rw[Lz] at Ws;refine⟨b9 (by lia),hN' _ _ ⟨s1.trans Vi,kv++[(Sum.inr x.1,.ref l)],r6 (Paired.imp' (λ_ _ z=>PrV.mono Vi.le z) pr) ⟨t5,rfl,SqT.of f5⟩,?_⟩⟩;have e7:(PP P0 R0).take (i+1)=(PP P0 R0).take i++[(x.1,ss)]:=by
    rw[Me,show(PP P0 R0)[i]?=some (x.1,ss) by unfold PP;rw[Lo,hx,Ua];rfl];rfl
   rw[e7];exact oQ (pt.same Vi) (m5 _ _ f4)
  .rintro out H1 ⟨s1,kv,pr,pt⟩;have ol:=Mc pr;have Ws:=Mc pt;have lp:(PP P0 R0).length=P0.pts.length:=Ll _;rw[Lz] at Ws;rw[Lu (by lia)] at pt;refine⟨⟨s1 _ _ d8,Lp _⟩,λD hD=>⟨b9 (by lia),?_⟩⟩;have sM:=J6 hP.hp s1 hD (u:= .lst out);have fM:=X0 s1 hD (u:= .lst out);have TC:=Paired.imp' (λ_ _ z=>PrV.mono (iz (d:=p) (u:= .lst out) hD) z) pr;have Wt:PtAt (thaw p (upd H1 D (.lst out))) kv (PP P0 R0):=Paired.imp' (λ_ _ z=>⟨z.1,let ⟨l,e,f⟩:=z.2;⟨l,e,by
    have n1:l≠p:=λy=>by rw[y,s1 _ _ d8] at f;cases f
    rw[M8 n1,d9 (d6 f hD)];exact f⟩⟩) pt
   generalize thaw p (upd H1 D (.lst out))=HM at sM fM TC Wt⊢;symm;refine E2 (SqL.of fM) TC (b9 (by lia)) (λpp npp=>?_);have eK:cN kv=kv:=J5 (by
    rw[Wt.keys,show((PP P0 R0).map λx=>(Sum.inr x.1:i6))=(i7 P0.pts).map (·.1) by unfold PP;rw[LH,D5];rfl];exact WC)
   rw[eK];obtain⟨H2,e2,f2,m2,_⟩:=b7 (o:= .dK kv) npp;rw[e2];exact k pp kv H2 (sM.free npp) (sM.trans m2) f2 (Wt.same m2)
set_option maxHeartbeats 4000000 in
abbrev dD:=λP w K mg base=>M7 P w K mg base B6 2 "tie_partners" ["piece","other","paired"] [] (cq K)
def jE {f fd}(T:Txt K mg)(T7:fI P w K mg base)(M9:bW P w K mg base)(F:Fun K "tie_partners" "tie_partners" ai f fd):u6 P w K mg base B6 2 f fd ["piece","other","paired"] (cq K):=by
 walk_at "#sc_tie_partners"
 .obtain⟨a,p,q,a',p',q',e,kvs,b_,P,R,ps,rfl,_⟩:=h;rfl
 .obtain⟨a,p,q,a',p',q',e,kvs,b_,P0,R0,ps,rfl,hP,hR,he,heq,k⟩:=h;have lP:=hP.len;rw[E4] at lP;have lR:=hR.len;rw[E4] at lR;have eP:=hP.at_.ts.length;have eR:=hR.at_.ts.length;walk_at "@sc_tie_partners 8v4jname,tie;12;L10wc0name,tie,other,paired;c1name,tie,other,paired;xnd703'0T7 a123'0M9 7103";symm;refine b5 hP.at_.tup (b6 (j:=1) rfl) ?_;refine D6 hP.hq (λWC o1=>?_);refine k8 (n:=kvs.length) (λi out H'=>Same (E7 q o1 kvs H) H'/\∃kv:List (i6×V),Paired (PrV K H') out kv/\PtAt H' kv ((TP P0 R0 ps).take i)) ⟨Same.refl _,[],.nil,.nil⟩ (λi out H' hi hp=>⟨hp.1 _ _ d8,hi⟩) ?_ ?_
  .rintro N i v out H1 H2 hi ⟨s1,kv,pr,pt⟩ ⟨t,kv0,f_,nt,rfl,rfl⟩ hN';obtain⟨H3,e3,f3,m3,_⟩:=b7 (o:= .tup _) nt;rw[e3];have s3:=s1.trans m3;have Vz:=(L0 (o:=o1) hP.hq).trans s3.le;have g3:Rd H3 q' (.dK b_):=s3.rd (qI hP.hq hR.hq);have gE:H3 e=some (.dK (i7 ps)):=s3 _ _ (by rw[P6 heq];exact he);have R3:=hR.at_.mono Vz;have P3:=hP.at_.mono Vz;obtain⟨x,hx,ex,bb,eb,sb⟩:=P3.ts.get f_;obtain⟨kk,Ur⟩:=kv0;have Ux:kk=Sum.inr x.1:=ex;have Ve:Ur= .ref bb:=eb;subst Ux Ve;refine K9 (SqT.of f3) rfl ?_;symm;refine⟨rfl,?_⟩;symm;refine b5 R3.tup (b6 (j:=1) rfl) ?_;symm;refine⟨bb,e,x.2,ps,rfl,sb,.inl gE,λlt H4 nlt m4 f4=>?_⟩;have R4:=R3.mono m4.le;symm;refine⟨q',b_,.ref lt,R0.ts.map (·.1),λkv=>decide (∃y∈R0.ts,kv.1=Sum.inr y.1/\yU ps x.2 y.2=true),rfl,m4.rd g3,by rw[R4.ts.keys,A4],by lia,λkv f_ H' le' Q' q'=>?_,λl H5 ss nl m5 f5 es=>?_⟩
   .obtain⟨jj,hjj⟩:=MV f_;obtain⟨y,hy,ey,b2,eb2,sb2⟩:=(R4.ts.mono le').get hjj;obtain⟨k1,v1⟩:=kv;have ey':k1=Sum.inr y.1:=ey;have eb2':v1= .ref b2:=eb2;subst ey' eb2';have Vh:=LF hy;refine qv (ko sb2 (le'.tup (SqT.of f4)) (gk _) (oF _ _) ?_);have z:decide (∃z∈R0.ts,(Sum.inr y.1:i6)=Sum.inr z.1/\yU ps x.2 z.2=true)=bt (Y7 y.2) (qH ps x.2):=by
     rw[LQ,LA];constructor
     .rintro⟨z,hz,e1,e2⟩;have e3:y=z:=by
       have e4:y.1=z.1:=NL e1;exact PR e4 (j6 (N7 hR.nd) (show(y.1,y.2)∈R0.ts from Vh) (by rw[e4];exact hz))
      rw[e3];exact e2
     .exact λh=>⟨y,Vh,rfl,h⟩
    rw[←z];exact q'
   have Ua:ss=(R0.ts.filter λy=>yU ps x.2 y.2).map (·.1):=by
    refine jf (es.trans ?_);have key:∀{kv:List (i6×V)} {ts:List (Str×N4)},TiesIs K H4 kv ts->(∀y∈ts,y∈R0.ts)->(kv.filter λkv=>decide (∃y∈R0.ts,kv.1=Sum.inr y.1/\yU ps x.2 y.2=true)).map (·.1)=((ts.filter λy=>yU ps x.2 y.2).map (·.1)).map Sum.inr:=by
     intro kv ts w;induction w with
     |nil=>intro _;rfl
     |cons h t ih=>
      intro hs
      have Tb:=ih λy hy=>hs y (Lw _ hy)
      have hk:=h.1
      rename_i kv0 y0 kvr tsr
      have e:decide (∃y∈R0.ts,kv0.1=Sum.inr y.1/\yU ps x.2 y.2=true)=yU ps x.2 y0.2:=by
       rw[LQ,LA];constructor
       .rintro⟨z,hz,e1,e2⟩;have e4:y0.1=z.1:=NL (hk.symm.trans e1);have e5:=j6 (N7 hR.nd) (show(y0.1,y0.2)∈R0.ts from hs y0 Lv) (show(y0.1,z.2)∈R0.ts by rw[e4];exact hz);rw[e5];exact e2
       .exact λh=>⟨y0,hs y0 Lv,hk,h⟩
      cases hb:yU ps x.2 y0.2 with
      |true=>
       rw[Mq (by rw[e];exact hb),Mq (p:=λy:Str×N4=>yU ps x.2 y.2) hb,Ms,Ms,Ms,Tb,hk]
      |false=>
       rw[Mr (by rw[e,hb];decide),Mr (p:=λy:Str×N4=>yU ps x.2 y.2) (by rw[hb];decide),Tb]
    exact key R4.ts λy hy=>hy
   symm;refine⟨b9 (by simp),λt5 n5=>?_⟩;obtain⟨H6,e6,f6,m6,_⟩:=b7 (o:= .tup _) n5;rw[e6];have Vi:=m3.trans (m4.trans (m5.trans m6));have ol:=Mc pr;have Ws:=Mc pt;rw[Lz] at Ws;refine⟨b9 (by lia),hN' _ _ ⟨s1.trans Vi,kv++[(Sum.inr x.1,.ref l)],r6 (Paired.imp' (λ_ _ z=>PrV.mono Vi.le z) pr) ⟨t5,rfl,SqT.of f6⟩,?_⟩⟩;have e7:(TP P0 R0 ps).take (i+1)=(TP P0 R0 ps).take i++[(x.1,ss)]:=by
    rw[Me,show(TP P0 R0 ps)[i]?=some (x.1,ss) by unfold TP;rw[Lo,hx,Ua];rfl];rfl
   rw[e7];exact oQ (pt.same Vi) (m6 _ _ f5)
  .rintro out H1 ⟨s1,kv,pr,pt⟩;have ol:=Mc pr;have Ws:=Mc pt;have lp:(TP P0 R0 ps).length=P0.ts.length:=Ll _;rw[Lz] at Ws;rw[Lu (by lia)] at pt;refine⟨⟨s1 _ _ d8,Lp _⟩,λD hD=>⟨b9 (by lia),?_⟩⟩;have sM:=J6 hP.hq s1 hD (u:= .lst out);have fM:=X0 s1 hD (u:= .lst out);have TC:=Paired.imp' (λ_ _ z=>PrV.mono (iz (d:=q) (u:= .lst out) hD) z) pr;have Wt:PtAt (thaw q (upd H1 D (.lst out))) kv (TP P0 R0 ps):=Paired.imp' (λ_ _ z=>⟨z.1,let ⟨l,e,f⟩:=z.2;⟨l,e,by
    have n1:l≠q:=λy=>by rw[y,s1 _ _ d8] at f;cases f
    rw[M8 n1,d9 (d6 f hD)];exact f⟩⟩) pt
   generalize thaw q (upd H1 D (.lst out))=HM at sM fM TC Wt⊢;symm;refine E2 (SqL.of fM) TC (b9 (by lia)) (λpp npp=>?_);have eK:cN kv=kv:=J5 (by
    rw[Wt.keys,show((TP P0 R0 ps).map λx=>(Sum.inr x.1:i6))=kvs.map (·.1) by unfold TP;rw[LH,hP.at_.ts.keys];rfl];exact WC)
   rw[eK];obtain⟨H2,e2,f2,m2,_⟩:=b7 (o:= .dK kv) npp;rw[e2];exact k pp kv H2 (sM.free npp) (sM.trans m2) f2 (Wt.same m2)
def RwAt (K:Za)(H:Hp)(x:aO):Prop:=H x.1=some (.lst (x.2.map λt=>V.ref t.1))/\∀t∈x.2,SqT K H t.1 [.str t.2.1,.str t.2.2]
def RwAt.same {H H':Hp}{x:aO}(h:RwAt K H x)(s:Same H H'):RwAt K H' x:=⟨s _ _ h.1,λt ht=>s.tup (h.2 t ht)⟩
def Au {H:Hp}{d a:Addr}{ys xs:List V}{u:HO}(h:H d=some (.lst ys))(s:SqT K H a xs):SqT K (upd H d u) a xs:=by
 rcases s with s|s
 .refine .inl ?_;by_cases z:a=d
  .subst z;rcases s with s|⟨_,s⟩<;>(rw[h] at s;cases s)
  .unfold Rd;rw[d9 z];exact s
 .exact .inr s
def RwAt.upd {H:Hp}{x:aO}{l:Addr}{ys:List V}{u:HO}(h:RwAt K H x)(hl:H l=some (.lst ys))(ne:x.1≠l):RwAt K (upd H l u) x:=⟨by rw[d9 ne];exact h.1,λt ht=>Au hl (h.2 t ht)⟩
def E6 {α:Type}{l:List α}{i:Nat}{x:α}(h:l[i]?=some x):l.take (i+1)=l.take i++[x]:=by rw[Me,h];rfl
def lE (row:List M6)(x:Str×List Str):List (List M6):=(x.2.filter λp=>!decide (p∈row.map (·.2))).map λp=>row++[(x.1,p)]
def rE (rows:List (List M6))(x:Str×List Str):List (List M6):=rows++rows.flatMap λrow=>lE row x
def C4 (pa:List (Str×List Str)):List (List M6):=pa.foldl rE [[]]
def M5 (pa:List (Str×List Str))(x:Str×List Str):C4 (pa++[x])=rE (C4 pa) x:=by
 unfold C4;rw[List.foldl_append];rfl
def tM (row:List M6)(x:Str×List Str):(lE row x).length<=x.2.length:=by
 unfold lE;rw[Ll];exact LD _ _
theorem jO {α β:Type}{f:α->List β}{m:Nat}:∀{l:List α},(∀a∈l,(f a).length<=m)->(l.flatMap f).length<=l.length*m
 |[],_=>by simp
 |a::l,h=>by
  rw[Tx,LB,Mv,Nat.succ_mul];have h1:=h a Lv;have h2:=jO (l:=l) λb hb=>h b (Lw _ hb);lia
def oY:∀{pa:List (Str×List Str)},(∀x∈pa,x.2.length<=3)->(C4 pa).length<=4 ^ pa.length:=by
 intro pa;generalize hn:pa.length=n;induction n generalizing pa with
 |zero=>intro _;rw[MQ hn];exact Lp _
 |succ n ih=>
  intro h
  obtain⟨pb,x,rfl⟩:∃pb x,pa=pb++[x]:=⟨pa.dropLast,pa.getLast (by intro e;rw[e] at hn;cases hn),(NS _).symm⟩
  rw[LB,Mu] at hn
  have hb:=ih (pa:=pb) (by lia) λy hy=>h y (Ls _ hy)
  rw[M5]
  unfold rE
  rw[LB,Nat.pow_succ]
  have z:=jO (l:=C4 pb) (f:=λrow=>lE row x) (m:=3) λr _=>Mh (tM r x) (h x (by simp))
  lia
def bf:∀{pa:List (Str×List Str)} {r:List M6},r∈C4 pa->r.length<=pa.length:=by
 intro pa;generalize hn:pa.length=n;induction n generalizing pa with
 |zero=>
  intro r hr
  rw[MQ hn] at hr
  rw[LV.mp hr]
  exact Lp _
 |succ n ih=>
  intro r hr
  obtain⟨pb,x,rfl⟩:∃pb x,pa=pb++[x]:=⟨pa.dropLast,pa.getLast (by intro e;rw[e] at hn;cases hn),(NS _).symm⟩
  rw[LB,Mu] at hn
  rw[M5] at hr
  rcases LC.mp hr with z|z
  .have:=ih (pa:=pb) (by lia) z
   lia
  .obtain⟨row,t_,z⟩:=NK.mp z
   obtain⟨p,_,rfl⟩:=Ln.mp z
   have:=ih (pa:=pb) (by lia) t_
   rw[LB,Mu]
   lia
def jr (K:Za):Sp:=λvs H Q _=>∃(d:Addr) (kvs:List (i6×V)) (pa:List (Str×List Str)),vs=[.ref d]/\H d=some (.dK kvs)/\PtAt H kvs pa/\pa.length<=3/\(∀x∈pa,x.2.length<=3)/\∀(l:Addr) (ls:List aO) (H':Hp),H l=none->Same H H'->H' l=some (.lst (ls.map λx=>V.ref x.1))->(∀x∈ls,RwAt K H' x/\H x.1=none)->(ls.map λx=>x.2.map (·.2))=C4 pa->Q (.ref l) H'
set_option maxHeartbeats 4000000 in
abbrev mZ:=λP w K mg base=>M7 P w K mg base B6 1 "pairings" ["partners"] [] (jr K)
def sv {f fd}(T:Txt K mg)(F:Fun K "pairings" "pairings" fE f fd):u6 P w K mg base B6 1 f fd ["partners"] (jr K):=by
 walk_at "#sc_pairings"
 .obtain⟨d,kvs,pa,rfl,_⟩:=h;rfl
 .obtain⟨d,kvs,pa,rfl,hd,hpt,z_,hx3,k⟩:=h;have lpk:=Mc hpt;walk_at "@sc_pairings 251u4u+2re00k2253,~1A?>912re01k4255jpair;;e04c0pair;n10mNQ/'0PySem.F.slot_list_extend '0PySem.F.type_list_extend '0jK 034jpartner;542;ef002c0partner,used,row,name;Mb*0001qs02u4d7300m5103801"
  refine DA ?_;rfl';refine⟨b9 (by simp),λl0 n0=>?_⟩;obtain⟨H1,e1,f1,m1,_⟩:=b7 (o:= .lst []) n0;rw[e1];rfl';refine⟨b9 (by simp),λl1 n1=>?_⟩;obtain⟨H2,e2,f2,m2,_⟩:=b7 (o:= .lst [.ref l0]) n1;rw[e2];have m02:=m1.trans m2;rfl';refine j9 λTZ hx=>?_;rfl';refine gi (m02 _ _ hd) (λYa o1=>?_);refine F5 (n:=kvs.length) (λi σ H'=>Same (E7 d o1 kvs H) H'/\∃(lr:Addr) (ls:List aO) (v2 v3 v4 v5:Option V),σ=[some (.ref d),some (.ref lr),v2,v3,v4,v5]/\H lr=none/\H' lr=some (.lst (ls.map λx=>V.ref x.1))/\(∀x∈ls,RwAt K H' x/\H x.1=none)/\(ls.map λx=>x.2.map (·.2))=C4 (pa.take i)) ⟨lZ m02,l1,[(l0,[])],_,_,_,_,rfl,m1.free n1,?_,?_,rfl⟩ (λi σ H' hi hp=>⟨hp.1 _ _ d8,hi⟩) ?_ ?_
  .rw[P6 (d6 (m1 _ _ hd) n1).symm];exact f2
  .intro x hx;rw[LV.mp hx];exact⟨⟨by rw[P6 (d6 hd n0).symm];exact m2 _ _ f1,λ_ h=>nomatch h⟩,n0⟩
  .rintro bk i v σ U' H3 hi ⟨s3,lr,ls,v2,v3,v4,v5,rfl,nlr,g3,Uv,UM⟩ ⟨rfl,kv,f_,rfl⟩ _ _;obtain⟨x,hx,ek,lx,ev,fx⟩:=A9 hpt f_;have D_:=LF hx;have hx3':=hx3 x D_;have hk9:A5 kvs (Sum.inr x.1:i6)=some (.ref lx):=by
    have z:=dP Ya (LF f_);rw[ek,ev] at z;exact z
   have lsl:ls.length<=64:=by
    have z:=Mw List.length UM;rw[Ll] at z;have y:=oY (pa:=pa.take i) λy hy=>hx3 y (MG hy);rw[z];refine Mh y (Mh (Sf (by decide) (show(pa.take i).length<=3 by rw[Lz];lia)) (by decide))
   have rdd:∀H',Same (E7 d o1 kvs H) H'->Rd H' d (.dK kvs):=λH' s=> .inr ⟨o1,s _ _ lV⟩;have Zj:∀H',Same (E7 d o1 kvs H) H'->H' lx=some (.lst (x.2.map V.str)):=λH' s=>s _ _ (by rw[P6 (λy=>by rw[y,hd] at fx;cases fx)];exact fx);have XW:kV kv.1= .str x.1:=by rw[ek];rfl
   show R9 2 (kV kv.1) _ _ _;rw[XW];rfl';refine j9 λVs Ut=>?_;rfl';refine FE (vp (SqL.of g3) (λll nll=>?_));obtain⟨H4,e4,f4,m4,_⟩:=b7 (o:= .lst (ls.map λx=>V.ref x.1)) nll;rw[e4];rfl';refine Ut [some (.ref d),some (.ref lr),some (.str x.1),some (.ref ll),v4,v5] H4 ?_;clear Ut;refine j9 λWQ Ut=>?_;rfl';refine j7 (SqL.of (m4 _ _ g3)) ?_;refine F5 (n:=ls.length) (λj σ H'=>Same H3 H'/\(∃v4 v5,σ=[some (.ref d),some (.ref lr),some (.str x.1),some (.ref ll),v4,v5])/\∃ms:List aO,H' ll=some (.lst ((ls++ms).map λx=>V.ref x.1))/\(∀y∈ms,RwAt K H' y/\y.1≠ll/\H y.1=none)/\(ms.map λy=>y.2.map (·.2))=((ls.take j).map λy=>y.2.map (·.2)).flatMap λrow=>lE row x) ⟨m4,⟨_,_,rfl⟩,[],by rw[MD];exact f4,(λ_ h=>nomatch h),rfl⟩ (λj σ H' hj hp=>⟨_,.ref ls[j].1,SqL.of (hp.1 _ _ g3),by rw[Lo,Lm hj];rfl⟩) ?_ ?_
   .rintro YO j v σ H5' H5 hj ⟨s5,⟨v4,v5,rfl⟩,ms,f5,rw5,em5⟩ yy _ _;obtain⟨rfl,Tg⟩:=Itl.get yy (SqL.of (s5 _ _ g3));rw[Lo,Lm hj] at Tg;cases Tg;have Xm:=LM hj;have hT:ls.take (j+1)=ls.take j++[ls[j]]:=E6 (Lm hj);have R3:=(Uv _ Xm).1;generalize ls[j]=y at Xm hT R3;have R5:=R3.same s5;have hyl:y.2.length<=3:=by
     have z:y.2.map (·.2)∈C4 (pa.take i):=by rw[←UM];exact Ln.mpr ⟨y,Xm,rfl⟩
     have w:=bf z;rw[Ll,Lz] at w;lia
    have mslen:ms.length<=192:=by
     have z:=Mw List.length em5;rw[Ll] at z;have w:=jO (l:=(ls.take j).map λy=>y.2.map (·.2)) (f:=λrow=>lE row x) (m:=3) λr _=>Mh (tM r x) hx3';rw[Ll,Lz] at w;lia
    rfl';refine j9 λZd hx4=>?_;rfl';refine j7 (SqL.of R5.1) ?_;refine k8 (n:=y.2.length) (λt out H'=>Same H5 H'/\out=(y.2.take t).map λz=>V.str z.2.2) ⟨Same.refl _,rfl⟩ (λt out H' ht hp=>⟨_,.ref y.2[t].1,SqL.of (hp.1 _ _ R5.1),by rw[Lo,Lm ht];rfl⟩) ?_ ?_
    .rintro N t v out H6' H6 ht ⟨s6,rfl⟩ yy hN';obtain⟨rfl,Tg⟩:=Itl.get yy (SqL.of (s6 _ _ R5.1));rw[Lo,Lm ht] at Tg;cases Tg;rfl';refine⟨rfl,?_⟩;rfl';refine b5 (s6.tup (R5.2 _ (LM ht))) (b6 (j:=1) rfl) ?_;refine⟨b9 (by rw[Ll,Lz];lia),hN' _ _ ⟨s6,?_⟩⟩;rw[E6 (Lm ht),Lr];rfl
    rintro out H6 ⟨s6,rfl⟩;rw[Lu (Lp _)];refine⟨⟨_,SqL.of (s6 _ _ R5.1),by rw[Ll];exact Lp _⟩,λlu nlu=>⟨b9 (by rw[Ll];lia),?_⟩⟩;obtain⟨H7,e7,f7,m7,_⟩:=b7 (H:=H6) (o:= .lst (y.2.map λz=>V.str z.2.2)) nlu;change R9 _ _ _ (upd H6 lu (.lst (y.2.map λz=>V.str z.2.2))) _;rw[e7];have f7':H7 lu=some (.lst (((y.2.map (·.2)).map (·.2)).map V.str)):=by rw[f7,LH,LH];rfl
    have Zk:=s6.trans m7;have s7:=s5.trans Zk;have R7:=R5.same Zk;rfl';refine hx4 [some (.ref d),some (.ref lr),some (.str x.1),some (.ref ll),some (.ref y.1),some (.ref lu)] H7 ?_;clear hx4;have Yw:=Zk _ _ f5;have WW:=s3.trans s7;rfl';refine⟨.inl ⟨rfl,_,SqL.of Yw⟩,?_⟩;rfl';refine F2 (v:= .ref lx) (by have z:=N0 (k:=Sum.inr x.1) (rdd _ WW);rw[hk9] at z;exact z) ?_;refine j7 (SqL.of (Zj _ WW)) ?_;refine k8 (n:=x.2.length) (λt out H'=>Same H7 H'/\∃ns:List aO,out=(ns.map λz=>V.ref z.1)/\(∀z∈ns,RwAt K H' z/\z.1≠ll/\H z.1=none)/\(ns.map λz=>z.2.map (·.2))=lE (y.2.map (·.2)) (x.1,x.2.take t)/\ns.length<=t) ⟨Same.refl _,[],rfl,(λ_ h=>nomatch h),rfl,Lp _⟩ (λt out H' ht hp=>⟨_,.str x.2[t],SqL.of (Zj _ (WW.trans hp.1)),by rw[Lo,Lm ht];rfl⟩) ?_ ?_
    .rintro N t v out H8' H8 ht ⟨s8,ns,rfl,Th,Yx,nl8⟩ yy hN';obtain⟨rfl,Tg⟩:=Itl.get yy (SqL.of (Zj _ (WW.trans s8)));rw[Lo,Lm ht] at Tg;cases Tg;have hTt:=E6 (Lm ht);rfl';refine⟨rfl,?_⟩;rfl';refine cc (SqL.of (s8 _ _ f7')) ?_;rfl';refine S9 (λhb=>?_) (λhb=>?_)
     .rfl';refine⟨b9 (by simp),λt9 n9=>?_⟩;obtain⟨H9,e9,f9,m9,_⟩:=b7 (o:= .tup [.str x.1,.str x.2[t]]) n9;rw[e9];rfl';refine⟨b9 (by simp),λlA nA=>?_⟩;obtain⟨HA,eA,fA,mA,_⟩:=b7 (o:= .lst [.ref t9]) nA;rw[eA];have Ti:=m9.trans mA;have RA:=(R7.same s8).same Ti;refine pd RA.1 fA (b9 (by rw[Ll];simp;lia)) (λlB nB=>?_);obtain⟨HB,eB,fB,mB,_⟩:=b7 (o:= .lst ((y.2.map λt=>V.ref t.1)++[.ref t9])) nB;rw[eB];have m8B:=Ti.trans mB;refine⟨b9 (by rw[Ll];lia),hN' _ _ ⟨s8.trans m8B,ns++[(lB,y.2++[(t9,(x.1,x.2[t]))])],by rw[Lr];rfl,λz hz=>?_,?_,by rw[LB];simp;lia⟩⟩
      .rcases LC.mp hz with q|q
       .walk_at "X";exact⟨(Th z q).1.same m8B,(Th z q).2⟩
       .rw[LV.mp q];refine⟨⟨by rw[Lr];exact fB,λu hu=>?_⟩,(d6 ((s8.trans Ti) _ _ Yw) nB).symm,lH hd (WW.trans (s8.trans Ti)) nB⟩;rcases LC.mp hu with q|q
        .exact mB.tup (RA.2 u q)
        .rw[LV.mp q];exact SqT.of ((mA.trans mB) _ _ f9)
      .rw[Lr,Yx,hTt];unfold lE;rw[Mm,Mq (by simpa using hb),Lr,SY,Lr];rfl
     .refine hN' _ _ ⟨s8,ns,rfl,Th,?_,by lia⟩;rw[Yx,hTt];unfold lE;rw[Mm,Mr (by simpa using hb)];simp
    rintro out H8 ⟨s8,ns,rfl,Th,Yx,nl8⟩;rw[Lu (Lp _)] at Yx;refine⟨⟨_,SqL.of (Zj _ (WW.trans s8)),by rw[Ll];exact Lp _⟩,λD hD=>⟨b9 (by rw[Ll];lia),?_⟩⟩;obtain⟨H9,e9,f9,m9,_⟩:=b7 (H:=H8) (o:= .lst (ns.map λz=>V.ref z.1)) hD;change um _ (upd H8 D (.lst (ns.map λz=>V.ref z.1))) _;rw[e9];have m79:=s8.trans m9;have Yy:=m79 _ _ Yw;rfl';refine⟨ll,D,_,_,rfl,rfl,Yy,f9,b9 (by rw[Ll,Ll,LB];lia),?_⟩;walk_at "X";refine⟨M3 (s7.trans m79) nll,⟨_,_,rfl⟩,ms++ns,?_,λz hz=>?_,?_⟩
    .rw[d8,←LS,Lr (l₂:=ns)]
    .rcases LC.mp hz with q|q
     .walk_at "X";exact⟨((rw5 z q).1.same (Zk.trans m79)).upd Yy (rw5 z q).2.1,(rw5 z q).2⟩
     .walk_at "X";exact⟨((Th z q).1.same m9).upd Yy (Th z q).2.1,(Th z q).2⟩
    .rw[Lr,em5,Yx,hT,Lr,Sy,SY,RD]
   .rintro σ H5 ⟨s5,⟨v4,v5,rfl⟩,ms,f5,rw5,em5⟩;refine⟨⟨_,SqL.of (s5 _ _ g3),by rw[Ll];exact Lp _⟩,?_⟩;rw[Lu (Lp _)] at em5;refine Ut [some (.ref d),some (.ref lr),some (.str x.1),some (.ref ll),v4,v5] H5 ?_;rfl';refine⟨s3.trans s5,ll,ls++ms,_,_,_,_,rfl,lH hd s3 nll,f5,λz hz=>?_,?_⟩
    .rcases LC.mp hz with q|q
     .walk_at "X";exact⟨(Uv z q).1.same s5,(Uv z q).2⟩
     .walk_at "X";exact⟨(rw5 z q).1,(rw5 z q).2.2⟩
    .rw[E6 hx,M5,Lr,em5,UM];rfl
  rintro σ H3 ⟨s3,lr,ls,v2,v3,v4,v5,rfl,nlr,g3,Uv,UM⟩;refine⟨⟨s3 _ _ d8,Lp _⟩,?_⟩;rw[Lu (by lia)] at UM;have hdd:H3 d=some (.frz o1 (.dK kvs)):=s3 _ _ d8;have ned:∀{b:Addr} {zs:List V},H3 b=some (.lst zs)->b≠d:=λh z=>by rw[z,hdd] at h;cases h
  refine hx _ _ ?_;symm;refine k lr ls _ nlr (s3.thaw hd) (by rw[M8 (ned g3)];exact g3) (λz hz=>⟨⟨by rw[M8 (ned (Uv z hz).1.1)];exact(Uv z hz).1.1,λt ht=>le_thaw.tup ((Uv z hz).1.2 t ht)⟩,(Uv z hz).2⟩) UM
def CB (P R:x9):List (List M6):=(C4 (PP P R)).flatMap λa=>(C4 (TP P R a)).map λb=>a++b
def DT (ps:List M6):Prop:=ps.Pairwise λa b=>¬C7 [b]<C7 [a]
def DI (x:aO)(r:List M6):Prop:=(x.2.map (·.2)).Perm r/\DT (x.2.map (·.2))
def ql {n:Nat}(h:n<=9000000):n<=sizeLine:=Mh h (by decide)
def J3:∀{pa:List (Str×List Str)} {r:List M6},r∈C4 pa->(r.map (·.1)).Sublist (pa.map (·.1)):=by
 intro pa;generalize hn:pa.length=n;induction n generalizing pa with
 |zero=>
  intro r hr
  rw[MQ hn] at hr
  rw[LV.mp hr]
  exact List.nil_sublist _
 |succ n ih=>
  intro r hr
  obtain⟨pb,x,rfl⟩:∃pb x,pa=pb++[x]:=⟨pa.dropLast,pa.getLast (by intro e;rw[e] at hn;cases hn),(NS _).symm⟩
  rw[LB,Mu] at hn
  rw[M5] at hr
  rw[Lr]
  rcases LC.mp hr with z|z
  .exact(ih (pa:=pb) (by lia) z).trans (List.sublist_append_left _ _)
  .obtain⟨row,t_,z⟩:=NK.mp z
   obtain⟨p,_,rfl⟩:=Ln.mp z
   rw[Lr]
   exact(ih (pa:=pb) (by lia) t_).append (List.Sublist.refl _)
def dR (P R:x9):(PP P R).map (·.1)=P.pts.map (·.1):=by unfold PP;rw[LH];rfl
def gX (P R:x9)(ps:List M6):(TP P R ps).map (·.1)=P.ts.map (·.1):=by unfold TP;rw[LH];rfl
def zS {P R:x9}(h:R.pts.length<=3):∀x∈PP P R,x.2.length<=3:=λx hx=>by
 obtain⟨y,_,rfl⟩:=Ln.mp hx;show(List.map _ _).length<=3;rw[Ll];exact Mh (LD _ _) h
def yB {P R:x9}{ps:List M6}(h:R.ts.length<=3):∀x∈TP P R ps,x.2.length<=3:=λx hx=>by
 obtain⟨y,_,rfl⟩:=Ln.mp hx;show(List.map _ _).length<=3;rw[Ll];exact Mh (LD _ _) h
def gh {pa:List (Str×List Str)}(h:pa.length<=3)(hx:∀x∈pa,x.2.length<=3):(C4 pa).length<=64:=Mh (oY hx) (Mh (Sf (by decide) h) (by decide))
theorem AH {H:Hp}:∀{l:List (Addr×M6)},(∀t∈l,SqT K H t.1 [.str t.2.1,.str t.2.2])->Paired (PrV K H) (l.map λt=>V.ref t.1) (i7 (l.map (·.2)))
 |[],_=> .nil
 |t::l,h=> .cons ⟨t.1,rfl,h t Lv⟩ (AH λu hu=>h u (Lw _ hu))
def zH {a b c d:Str}:Paired SameT [V.str a,.str b] [V.str c,.str d]:= .cons (.inl ⟨_,_,rfl,rfl⟩) (.cons (.inl ⟨_,_,rfl,rfl⟩) .nil)
def IH {H:Hp}{Q:VK}{p:Addr}{us:List (Addr×M6)}(hp:SqL K H p (us.map λt=>V.ref t.1))(h:∀t∈us,SqT K H t.1 [.str t.2.1,.str t.2.2])(hl:us.length<64)(q:∀C_:List (Addr×M6),C_.Perm us->DT (C_.map (·.2))->∀l,H l=none->Q (.ref l) (upd H l (.lst (C_.map λt=>V.ref t.1)))):kT K [.ref p] H Q:=by
 refine⟨p,us.map λt=>(t.1,[.str t.2.1,.str t.2.2]),rfl,by rw[LH];exact hp,λt ht=>?_,λt ht t' ht'=>?_,by rw[Ll];exact hl,λy_ pm pw l nl=>?_⟩
 .obtain⟨u,hu,rfl⟩:=Ln.mp ht;exact⟨h u hu,_,_,rfl⟩
 .obtain⟨u,_,rfl⟩:=Ln.mp ht;obtain⟨u',_,rfl⟩:=Ln.mp ht';exact zH
 .obtain⟨C_,rfl,pm'⟩:=cL _ pm us rfl;have z:=q C_ pm' (by
   rw[Nk] at pw;exact Nk.mpr pw) l nl
  rw[LH];exact z
def jm (K:Za):Sp:=λvs H Q _=>∃(a p q a' p' q':Addr) (kvs b_:List (i6×V)) (P R:x9),vs=[.ref a,.ref a']/\WebIs 13 K H a p q kvs P/\WebIs 13 K H a' p' q' b_ R/\P.pts.length<=3/\P.ts.length<=3/\R.pts.length<=3/\R.ts.length<=3/\
 ∀(l:Addr) (ls Rz:List aO) (H':Hp),H l=none->Same H H'->H' l=some (.lst (ls.map λx=>V.ref x.1))->(∀x∈ls,RwAt K H' x/\x.1≠l/\H x.1=none)->ls.Pairwise (λa b=>¬C7 (b.2.map (·.2))<C7 (a.2.map (·.2)))->ls.Perm Rz->Paired DI Rz (CB P R)->Q (.ref l) H'
set_option maxHeartbeats 4000000 in
abbrev fu:=λP w K mg base=>M7 P w K mg base B6 3 "overlaps" ["piece","other"] [] (jm K)
def tE {f fd}(T:Txt K mg)(bz:mZ P w K mg base)(T8:ba P w K mg base)(af:dD P w K mg base)(F:Fun K "overlaps" "overlaps" fg f fd):u6 P w K mg base B6 3 f fd ["piece","other"] (jm K):=by
 walk_at "#sc_overlaps"
 .obtain⟨a,p,q,a',p',q',kvs,b_,P,R,rfl,_⟩:=h;rfl
 .obtain⟨a,p,q,a',p',q',kvs,b_,P0,R0,rfl,hP,hR,lp1,lp2,lr1,lr2,k⟩:=h;walk_at "@sc_overlaps 252u+2re3'0bz 43'0T8 7001k3mre3'0bz 43'0af h0071v93k4mNQ/`_^024G'1tf (4s03048G'2Bb ('0hr 92"
  refine DA ?_;rfl';refine⟨b9 (by simp),λld nld=>?_⟩;obtain⟨H1,e1,f1,m1,_⟩:=b7 (o:= .lst []) nld;rw[e1];rfl';refine j9 λTZ hx=>?_;rfl';refine⟨a,p,q,a',p',q',kvs,b_,P0,R0,rfl,hP.same m1,hR.same m1,λd kv H2 w_ m2 f2 pt2=>?_⟩;rfl';refine⟨d,kv,PP P0 R0,rfl,f2,pt2,by unfold PP;rw[Ll];exact lp1,zS lr1,λlP ls H3 n3 m3 f3 Uv UM=>?_⟩;have E_:=m2.trans m3;have s3:=m1.trans E_;have nPd:lP≠ld:=λz=>by rw[z,m2 _ _ f1] at n3;cases n3
  have lsl:ls.length<=64:=by
   have z:=Mw List.length UM;rw[Ll] at z;rw[z];exact gh (by unfold PP;rw[Ll];exact lp1) (zS lr1)
  have nls:∀x∈ls,x.1≠ld\/True:=λ_ _=> .inr trivial;refine j7 (SqL.of f3) ?_;refine F5 (n:=ls.length) (λi σ H'=>Same H H'/\H' lP=some (.lst (ls.map λx=>V.ref x.1))/\(∀x∈ls,RwAt K H' x/\x.1≠ld)/\(∃v3 v4,σ=[some (.ref a),some (.ref a'),some (.ref ld),v3,v4])/\∃tl:List aO,H' ld=some (.lst (tl.map λx=>V.ref x.1))/\(∀x∈tl,RwAt K H' x/\x.1≠ld/\H x.1=none)/\Paired DI tl (((C4 (PP P0 R0)).take i).flatMap λa=>(C4 (TP P0 R0 a)).map λb=>a++b)/\tl.length<=i*64) ⟨s3,f3,?_,⟨_,_,rfl⟩,[],E_ _ _ f1,(λ_ h=>nomatch h),.nil,Ov _⟩ (λi σ H' hi hp=>⟨_,.ref ls[i].1,SqL.of hp.2.1,by rw[Lo,Lm hi];rfl⟩) ?_ ?_
  .exact λx hx=>⟨(Uv x hx).1,λz=>by have y:=(Uv x hx).2;rw[z,m2 _ _ f1] at y;cases y⟩
  .rintro bk i v σ YX H4 hi ⟨s4,g4,Zl,⟨v3,v4,rfl⟩,tl,t4,VA,Wb,hl4⟩ yy _ _;obtain⟨rfl,Tg⟩:=Itl.get yy (SqL.of g4);rw[Lo,Lm hi] at Tg;cases Tg;have Vh:=LM hi;have Zm:(C4 (PP P0 R0))[i]?=some (ls[i].2.map (·.2)):=by rw[←UM,Lo,Lm hi];rfl
   have R4:=(Zl _ Vh).1;generalize ls[i]=y at Vh Zm R4;obtain⟨row,t_⟩:∃row,row=y.2.map (·.2):=⟨_,rfl⟩
   rw[←t_] at Zm;have hrm:=LF Zm;have hrl:y.2.length<=3:=by
    have z:=bf hrm;rw[t_,Ll] at z;unfold PP at z;rw[Ll] at z;lia
   have hrk:(row.map (·.1)).Nodup:=by
    have z:=J3 hrm;rw[dR] at z;exact(E9 hP.nd).sublist z
   obtain⟨c,hc⟩:∃c,c=i*64:=⟨_,rfl⟩
   rw[←hc] at hl4;rfl';refine E2 (SqL.of R4.1) (AH R4.2) (b9 (by rw[j5,Ll];lia)) (λe ne=>?_);rw[←t_,J5 (V3 hrk)];obtain⟨H5,e5,f5,m5,_⟩:=b7 (o:= .dK (i7 row)) ne;change um _ (upd H4 e (.dK (i7 row))) _;rw[e5];have s5:=s4.trans m5;have P5:=hP.same s5;have Q5:=hR.same s5;rfl';refine⟨a,p,q,a',p',q',e,kvs,b_,P0,R0,row,rfl,P5,Q5,f5,(d6 (hP.same s4).hq ne).symm,λd2 kv2 H6 nd6 m6 f6 pt6=>?_⟩;rfl';refine⟨d2,kv2,TP P0 R0 row,rfl,f6,pt6,by unfold TP;rw[Ll];exact lp2,yB lr2,λlT zs H7 n7 m7 f7 rw7 es7=>?_⟩;have Yz:=m5.trans (m6.trans m7);have s7:=s4.trans Yz;have t7:=Yz _ _ t4;have nTd:lT≠ld:=λz=>by rw[z,(m5.trans m6) _ _ t4] at n7;cases n7
   have zsl:zs.length<=64:=by
    have z:=Mw List.length es7;rw[Ll] at z;rw[z];exact gh (by unfold TP;rw[Ll];exact lp2) (yB lr2)
   refine j7 (SqL.of f7) ?_;refine F5 (n:=zs.length) (λj σ H'=>Same H H'/\H' lP=some (.lst (ls.map λx=>V.ref x.1))/\(∀x∈ls,RwAt K H' x/\x.1≠ld)/\(∃v4,σ=[some (.ref a),some (.ref a'),some (.ref ld),some (.ref y.1),v4])/\H' lT=some (.lst (zs.map λx=>V.ref x.1))/\(∀x∈zs,RwAt K H' x/\x.1≠ld)/\∃tl:List aO,H' ld=some (.lst (tl.map λx=>V.ref x.1))/\(∀x∈tl,RwAt K H' x/\x.1≠ld/\H x.1=none)/\Paired DI tl ((((C4 (PP P0 R0)).take i).flatMap λa=>(C4 (TP P0 R0 a)).map λb=>a++b)++((C4 (TP P0 R0 row)).take j).map λb=>row++b)/\tl.length<=c+j) ⟨s7,Yz _ _ g4,λx hx=>⟨(Zl x hx).1.same Yz,(Zl x hx).2⟩,⟨_,rfl⟩,f7,λx hx=>⟨(rw7 x hx).1,λz=>by have y:=(rw7 x hx).2;rw[z,(m5.trans m6) _ _ t4] at y;cases y⟩,tl,t7,λx hx=>⟨(VA x hx).1.same Yz,(VA x hx).2⟩,by rw[Si,QJ,MD];exact Wb,hl4⟩ (λj σ H' hj hp=>⟨_,.ref zs[j].1,SqL.of hp.2.2.2.2.1,by rw[Lo,Lm hj];rfl⟩) ?_ ?_
   .rintro YO j v σ H8' H8 hj ⟨s8,g8,Th,⟨v4,rfl⟩,h8,rz8,tl,t8,rt8,pr8,hl8⟩ yy _ _;obtain⟨rfl,Tg⟩:=Itl.get yy (SqL.of h8);rw[Lo,Lm hj] at Tg;cases Tg;have hzm:=LM hj;have hzr:(C4 (TP P0 R0 row))[j]?=some (zs[j].2.map (·.2)):=by rw[←es7,Lo,Lm hj];rfl
    have Z8:=(rz8 _ hzm).1;generalize zs[j]=z at hzm hzr Z8;have hzl:z.2.length<=3:=by
     have w:=bf (LF hzr);rw[Ll] at w;unfold TP at w;rw[Ll] at w;lia
    have Y8:=(Th _ Vh).1;rfl';refine⟨.inl ⟨rfl,_,SqL.of t8⟩,?_⟩;rfl';refine pd Y8.1 Z8.1 (b9 (by rw[Ll,Ll];lia)) (λlc nc=>?_);rw[←Lr];obtain⟨H9,e9,f9,m9,_⟩:=b7 (o:= .lst ((y.2++z.2).map λt=>V.ref t.1)) nc;rw[e9];rfl';refine IH (SqL.of f9) (λt ht=>?_) (by rw[LB];lia) (λus pm sr lo no=>?_)
    .rcases LC.mp ht with w|w
     .exact m9.tup (Y8.2 t w)
     .exact m9.tup (Z8.2 t w)
    obtain⟨HA,eA,fA,mA,_⟩:=b7 (o:= .lst (us.map λt=>V.ref t.1)) no;rw[eA];have Ti:=m9.trans mA;have tA:=Ti _ _ t8;have oA:RwAt K HA (lo,us):=⟨fA,λt ht=>by
     rcases LC.mp (pm.mem_iff.mp ht) with w|w
     .exact Ti.tup (Y8.2 t w)
     .exact Ti.tup (Z8.2 t w)⟩
    have nod:lo≠ld:=(d6 (m9 _ _ t8) no).symm;rfl';refine⟨ld,_,_,rfl,rfl,tA,OI (m:=9000000) (by rw[Ll];lia) (by decide),?_⟩;rfl';refine⟨M3 (s8.trans Ti) nld,by rw[d9 nPd];exact Ti _ _ g8,λx hx=>⟨((Th x hx).1.same Ti).upd tA (Th x hx).2,(Th x hx).2⟩,⟨_,rfl⟩,by rw[d9 nTd];exact Ti _ _ h8,λx hx=>⟨((rz8 x hx).1.same Ti).upd tA (rz8 x hx).2,(rz8 x hx).2⟩,tl++[(lo,us)],by rw[d8,Lr];rfl,λx hx=>?_,?_,by rw[LB,Mu];lia⟩
    .rcases LC.mp hx with w|w
     .walk_at "X";exact⟨((rt8 x w).1.same Ti).upd tA (rt8 x w).2.1,(rt8 x w).2⟩
     .rw[LV.mp w];walk_at "X";exact⟨oA.upd tA nod,nod,(s8.trans m9).free no⟩
    .rw[E6 hzr,Lr,←LS];refine r6 pr8 ⟨?_,sr⟩;show(us.map (·.2)).Perm (row++z.2.map (·.2));rw[t_,←Lr];exact pm.map _
   .rintro σ H8 ⟨s8,g8,Th,⟨v4,rfl⟩,h8,rz8,tl,t8,rt8,pr8,hl8⟩;refine⟨⟨_,SqL.of h8,by rw[Ll];exact Lp _⟩,?_⟩;have ez:(C4 (TP P0 R0 row)).length=zs.length:=by rw[←es7,Ll]
    rw[Lu (l:=C4 (TP P0 R0 row)) (i:=zs.length) (by rw[ez];exact Lp _)] at pr8;walk_at "X";refine⟨s8,g8,Th,⟨_,_,rfl⟩,tl,t8,rt8,?_,by lia⟩;rw[E6 Zm,Sy,RD];exact pr8
  rintro σ H4 ⟨s4,g4,Zl,⟨v3,v4,rfl⟩,tl,t4,VA,Wb,hl4⟩;refine⟨⟨_,SqL.of g4,by rw[Ll];exact Lp _⟩,?_⟩;have ez:(C4 (PP P0 R0)).length=ls.length:=by rw[←UM,Ll]
  rw[Lu (by lia)] at Wb;refine hx _ _ ?_;symm;refine⟨ld,tl,rfl,SqL.of t4,λl hl=>⟨SqL.of (VA l hl).1.1,(VA l hl).1.2⟩,λtl' pm Uw l nl=>?_⟩;obtain⟨H5,e5,f5,m5,_⟩:=b7 (H:=H4) (o:= .lst (tl'.map λx=>V.ref x.1)) nl;change Q _ (upd H4 l (.lst (tl'.map λx=>V.ref x.1)));rw[e5];exact k l tl' tl H5 (s4.free nl) (s4.trans m5) f5 (λx hx=>⟨(VA x (pm.mem_iff.mp hx)).1.same m5,d6 (VA x (pm.mem_iff.mp hx)).1.1 nl,(VA x (pm.mem_iff.mp hx)).2.2⟩) Uw pm Wb
section
variable {P R Z:x9} {ps:List (Str×Str)}
def ren_pt {f:Str->Str}{W:x9}{x:Str×Str}:x∈(A8 f W).pts↔∃n k,(n,k)∈W.pts/\x=(f n,k):=by
 unfold A8;rw[Ln];exact⟨fun⟨y,hy,e⟩=>⟨y.1,y.2,hy,e.symm⟩,fun⟨n,k,h,e⟩=>⟨(n,k),h,e.symm⟩⟩
def ren_ts {f:Str->Str}{W:x9}{x:Str×N4}:x∈(A8 f W).ts↔∃n t,(n,t)∈W.ts/\x=(f n,(t.1,f t.2.1,f t.2.2)):=by
 unfold A8;rw[Ln];exact⟨fun⟨y,hy,e⟩=>⟨y.1,y.2,hy,e.symm⟩,fun⟨n,k,h,e⟩=>⟨(n,k),h,e.symm⟩⟩
def OV.ndZ (o:OV P R ps)(n1:(Z.pts.map (·.1)).Nodup)(n2:(Z.ts.map (·.1)).Nodup)(m1:∀x,x∈Z.pts↔x∈(A8 aN P).pts\/x∈(A8 (K4 ps) R).pts)(m2:∀x,x∈Z.ts↔x∈(A8 aN P).ts\/x∈(A8 (K4 ps) R).ts):(b8 Z).Nodup:=by
 refine LU.mpr ⟨n1,n2,λa ha b hb e=>?_⟩;subst e;obtain⟨x,hx,rfl⟩:=Ln.mp ha;obtain⟨y,hy,e⟩:=Ln.mp hb;rcases(m1 x).mp hx with h|h<;>obtain⟨n,k,hn,rfl⟩:=ren_pt.mp h<;>rcases(m2 y).mp hy with h'|h'<;>obtain⟨m,t,hm,rfl⟩:=ren_ts.mp h'
 .have z:m=n:=fc e;rw[z] at hm;exact Y5 o.ndP hn hm
 .have z:=o.fb_back (show aN n=K4 ps m from e.symm);exact Y5 o.ndR (o.ptR z hn) hm
 .have z:=o.fb_back (show aN m=K4 ps n from e);obtain⟨_,_,_,_,h3⟩:=o.tiR z hm;exact Y5 o.ndR hn h3
 .have z:m=n:=o.fb_inj e;rw[z] at hm;exact Y5 o.ndR hn hm
end
def vX {H:Hp}{xs ys:List V}{n:Nat}(pr:Paired (λx y=>EqN K H n x y true) xs ys)(j:Nat)(x y:V)(b:Bool)(h1:xs[j]?=some x)(h2:ys[j]?=some y)(h3:(List.replicate xs.length true)[j]?=some b):EqN K H n x y b:=by
 have e3:b=true:=(SW.mp (LF h3)).2;subst e3;obtain⟨y',TH,z⟩:=A9 pr h1;rw[h2] at TH;cases TH;exact z
def AZ {H:Hp}{a c:Addr}{xs ys:List V}{n:Nat}(hs:(SqT K H a xs/\SqT K H c ys)\/(SqL K H a xs/\SqL K H c ys))(pr:Paired (λx y=>EqN K H n x y true) xs ys):EqN K H (n+1) (.ref a) (.ref c) true:=by
 by_cases e:a=c
 .exact EqN.of0 (.inr ⟨a,c,rfl,rfl,.inl ⟨e,rfl⟩⟩) _
 .exact .inr ⟨a,c,xs,ys,List.replicate xs.length true,rfl,rfl,e,hs,Mc pr,Nb,vX pr,(gF _).symm⟩
def vc {H:Hp}{a c:Addr}{xs ys:List V}(hs:(SqT K H a xs/\SqT K H c ys)\/(SqL K H a xs/\SqL K H c ys))(pr:Paired (λx y=>EqN K H 8 x y true) xs ys):IZ K H (.ref a) (.ref c) (List.replicate xs.length true):=
 ⟨a,c,xs,ys,rfl,rfl,hs,Mc pr,Nb,vX pr⟩
def vN {H:Hp}(i:Str)(n:Nat):EqN K H n (.str i) (.str i) true:=by
 refine EqN.of0 (.inl ?_) n;have z:=Eq1.flat (K:=K) (H:=H) (x:= .str i) (y:= .str i) rfl rfl;rw[lG rfl] at z;exact z
def yZ {a b:List M6}(h1:DT a)(h2:DT b)(p:a.Perm b):a=b:=
 List.Perm.eq_of_pairwise (le:=λa b=>¬C7 [b]<C7 [a]) (λx y _ _ g1 g2=>(Mo (nJ (rg g2 g1))).1) h1 h2 p
structure IsO (P R:x9) (ps:List M6):Prop where
 nk:(ps.map (·.1)).Nodup
 nv:(ps.map (·.2)).Nodup
 wp:∀x∈ps,WP P R ps x
section
variable {P R:x9} {F:List M6}
def IsO.ptR (o:IsO P R F)(ndP:(b8 P).Nodup){n t kd:Str}(h:(n,t)∈F)(hk:(n,kd)∈P.pts):(t,kd)∈R.pts:=(vM ndP hk).mp (o.wp _ h)
def IsO.tiR (o:IsO P R F)(ndP:(b8 P).Nodup){n t:Str}{x:N4}(h:(n,t)∈F)(hk:(n,x)∈P.ts):∃s e,(x.2.1,s)∈F/\(x.2.2,e)∈F/\(t,(x.1,s,e))∈R.ts:=(wc ndP hk).mp (o.wp _ h)
def IsO.u2 (o:IsO P R F){n n' t:Str}(h:(n,t)∈F)(h':(n',t)∈F):n=n':=
 j6 (l:=F.map λx=>(x.2,x.1)) (by rw[LH];exact o.nv) (Ln.mpr ⟨_,h,rfl⟩) (Ln.mpr ⟨_,h',rfl⟩)
def IsO.nd (o:IsO P R F):F.Nodup:=PN (fun{a b} z e=>z (by rw[e])) (Nk.mp o.nk)
def lk (r:List M6)(n:Str):Option Str:=(r.find? λz=>decide (z.1=n)).map (·.2)
def Q0 {r:List M6}(nd:(r.map (·.1)).Nodup){n p:Str}:lk r n=some p↔(n,p)∈r:=by
 induction r with
 |nil=>exact⟨(λh=>nomatch h),(λh=>nomatch h)⟩
 |cons z r ih=>
  have n2:=MP.mp (show(z.1::r.map (·.1)).Nodup from nd)
  unfold lk
  by_cases e:z.1=n
  .rw[RC (by rw[LA];exact e)]
   constructor
   .intro h
    have h':z.2=p:=LO h
    rw[show(n,p)=z from PR e.symm h'.symm]
    exact Lv
   .intro h
    rcases Mi.mp h with h|h
    .rw[←h];rfl
    .exact absurd (Ln.mpr ⟨_,h,rfl⟩) (by rw[←e];exact n2.1)
  .rw[List.find?_cons_of_neg (by rw[LA];exact e)]
   refine(ih n2.2).trans ⟨λh=>Lw _ h,λh=>?_⟩
   rcases Mi.mp h with h|h
   .exact absurd (by rw[←h]) e
   .exact h
def cD (pa:List (Str×List Str))(g:Str->Option Str):List M6:=pa.filterMap λx=>(g x.1).map λp=>(x.1,p)
def rY (pa:List (Str×List Str))(x:Str×List Str)(g:Str->Option Str):cD (pa++[x]) g=cD pa g++(match g x.1 with|some p=>[(x.1,p)]|none=>[]):=by
 unfold cD;rw[List.filterMap_append];congr 1;cases h:g x.1 with
 |none=>rw[Oq (by rw[h];rfl)];rfl
 |some p=>rw[NQ (b:=(x.1,p)) (by rw[h];rfl)];rfl
def can_mem {pa:List (Str×List Str)}{g:Str->Option Str}{n p:Str}:(n,p)∈cD pa g↔n∈pa.map (·.1)/\g n=some p:=by
 unfold cD;rw[OG];constructor
 .rintro⟨x,hx,e⟩;obtain⟨p',B_,e2⟩:=My.mp e;cases e2;exact⟨Ln.mpr ⟨x,hx,rfl⟩,B_⟩
 .rintro⟨h,e⟩;obtain⟨x,hx,rfl⟩:=Ln.mp h;exact⟨x,hx,by rw[e];rfl⟩
def iB {pa:List (Str×List Str)}{g g':Str->Option Str}(h:∀n∈pa.map (·.1),g n=g' n):cD pa g=cD pa g':=by
 unfold cD;induction pa with
 |nil=>rfl
 |cons x pa ih=>
  have e:=h x.1 Lv
  have Tb:=ih λn hn=>h n (Lw _ hn)
  cases c:g x.1 with
  |none=>rw[Oq (by rw[c];rfl),Oq (by rw[←e,c];rfl),Tb]
  |some p=>rw[NQ (b:=(x.1,p)) (by rw[c];rfl),NQ (b:=(x.1,p)) (by rw[←e,c];rfl),Tb]
def tw (pa:List (Str×List Str))(g:Str->Option Str):((cD pa g).map (·.1)).Sublist (pa.map (·.1)):=by
 induction pa with
 |nil=>exact List.nil_sublist _
 |cons x pa ih=>
  unfold cD at ih⊢
  cases h:g x.1 with
  |none=>
   rw[Oq (by rw[h];rfl)]
   exact ih.cons _
  |some p=>
   rw[NQ (b:=(x.1,p)) (by rw[h];rfl)]
   exact ih.cons_cons _
def jP {α:Type}{M:List α->Prop}(h0:M [])(hs:∀l x,M l->M (l++[x])):∀l,M l:=by
 intro l;generalize hn:l.length=n;induction n generalizing l with
 |zero=>rw[MQ hn];exact h0
 |succ n ih=>
  obtain⟨pb,x,rfl⟩:∃pb x,l=pb++[x]:=⟨l.dropLast,l.getLast (by intro e;rw[e] at hn;cases hn),(NS _).symm⟩
  rw[LB,Mu] at hn
  exact hs pb x (ih pb (by lia))
def Ab (g:Str->Option Str):∀pa:List (Str×List Str),(∀x∈pa,∀p,g x.1=some p->p∈x.2)->(∀n n' p,g n=some p->g n'=some p->n=n')->(pa.map (·.1)).Nodup->cD pa g∈C4 pa:=by
 refine jP (λ_ _ _=>LV.mpr rfl) λpa x ih h1 h2 nd=>?_;rw[Lr] at nd;have n2:=LU.mp nd;have Tb:=ih (λy hy=>h1 y (Ls _ hy)) h2 n2.1;rw[rY,M5];unfold rE;cases h:g x.1 with
 |none=>
  show cD pa g++[]∈_
  rw[MD];exact Ls _ Tb
 |some p=>
  refine LG _ (NK.mpr ⟨_,Tb,Ln.mpr ⟨p,LW.mpr ⟨h1 x (by simp) p h,?_⟩,rfl⟩⟩)
  rw[Nw,MR]
  intro m
  obtain⟨z,hz,e⟩:=Ln.mp m
  have z2:=can_mem.mp (show(z.1,z.2)∈cD pa g from hz)
  have e2:=h2 z.1 x.1 p (by rw[z2.2];exact Mw some e) h
  exact n2.2.2 _ z2.1 _ (by rw[e2];simp) rfl
def tq:∀pa:List (Str×List Str),(pa.map (·.1)).Nodup->∀r∈C4 pa,r=cD pa (lk r):=by
 refine jP (λ_ r hr=>LV.mp hr) λpa x ih nd r hr=>?_;rw[Lr] at nd;have n2:=LU.mp nd;have VB:x.1∉pa.map (·.1):=λm=>n2.2.2 _ m _ (by simp) rfl;rw[M5] at hr;rw[rY];rcases LC.mp hr with z|z
 .have e:=ih n2.1 r z;have k:x.1∉r.map (·.1):=λm=>VB ((J3 z).subset m);have kn:(r.map (·.1)).Nodup:=n2.1.sublist (J3 z);cases h:lk r x.1 with
  |none=>rw[←e];exact(MD _).symm
  |some p=>exact absurd (Ln.mpr ⟨_,(Q0 kn).mp h,rfl⟩) k
 .obtain⟨row,t_,z⟩:=NK.mp z;obtain⟨p,_,rfl⟩:=Ln.mp z;have e:=ih n2.1 row t_;have sb:=J3 t_;have k:x.1∉row.map (·.1):=λm=>VB (sb.subset m);have kn:(row.map (·.1)).Nodup:=n2.1.sublist sb;have kn2:((row++[(x.1,p)]).map (·.1)).Nodup:=by
   rw[Lr];refine LU.mpr ⟨kn,by simp,λa ha b hb e=>?_⟩;rw[LV.mp hb] at e;rw[e] at ha;exact k ha
  rw[(Q0 kn2).mpr (show(x.1,p)∈row++[(x.1,p)] by simp)];have c:cD pa (lk (row++[(x.1,p)]))=cD pa (lk row):=iB λn hn=>by
   refine VY λq=>?_;rw[Q0 kn2,Q0 kn,LC];constructor
   .rintro(h|h)
    .exact h
    .rw[LV] at h;cases h;exact absurd hn VB
   .exact .inl
  rw[c,←e]
def tm:∀pa:List (Str×List Str),(pa.map (·.1)).Nodup->(∀x∈pa,x.2.Nodup)->(C4 pa).Nodup:=by
 refine jP (λ_ _=>by show([[]]:List (List M6)).Nodup;simp) λpa x ih nd hx=>?_;rw[Lr] at nd;have n2:=LU.mp nd;have VB:x.1∉pa.map (·.1):=λm=>n2.2.2 _ m _ (by simp) rfl;have Tb:=ih n2.1 λy hy=>hx y (Ls _ hy);rw[M5];unfold rE;have inE:∀{row r:List M6},r∈lE row x->∃p,r=row++[(x.1,p)]:=λh=>by
  obtain⟨p,_,rfl⟩:=Ln.mp h;exact⟨p,rfl⟩
 refine LU.mpr ⟨Tb,?_,λa ha b hb e=>?_⟩
 .refine List.pairwise_flatMap.mpr ⟨λrow _=>?_,Tb.imp fun{a b} UK r hr r' hr' e=>?_⟩
  .unfold lE;refine Nk.mpr (((hx x (by simp)).sublist NN).imp fun{p q} H_ e=>H_ ?_);have z:=Pw e;exact Mw Prod.snd (Mo z).1
  .obtain⟨p,rfl⟩:=inE hr;obtain⟨q,rfl⟩:=inE hr';exact UK (List.append_inj' e rfl).1
 .obtain⟨row,t_,z⟩:=NK.mp hb;obtain⟨p,rfl⟩:=inE z;rw[e] at ha;exact VB ((J3 ha).subset (Ln.mpr ⟨(x.1,p),by simp,rfl⟩))
theorem vz {α:Type}{p:α->Bool}:∀{l:List α} {b:α},l.Nodup->b∈l->p b=true->(∀c∈l,c≠b->p c=false)->l.countP p=1
 |a::l,b,nd,hb,h1,h0=>by
  have n2:=MP.mp nd;rcases Mi.mp hb with rfl|hb
  .rw[Oy h1,OA.mpr λc hc=>?_];rw[h0 c (Lw _ hc) λe=>n2.1 (by rw[←e];exact hc)];decide
  .rw[Pq]
   .exact vz n2.2 hb h1 λc hc=>h0 c (Lw _ hc)
   .rw[h0 a Lv λe=>n2.1 (by rw[e];exact hb)];decide
theorem rN {α β:Type}{f:α->List β}{p:β->Bool}:∀{l:List α} {b:α},l.Nodup->b∈l->(f b).countP p=1->(∀c∈l,c≠b->(f c).countP p=0)->(l.flatMap f).countP p=1
 |a::l,b,nd,hb,h1,h0=>by
  have n2:=MP.mp nd;rw[Tx,List.countP_append];rcases Mi.mp hb with rfl|hb
  .rw[h1,OA.mpr λc hc=>?_];obtain⟨d,hd,TM⟩:=NK.mp hc;exact(OA.mp (h0 d (Lw _ hd) λe=>n2.1 (by rw[←e];exact hd))) c TM
  .rw[rN n2.2 hb h1 λc hc=>h0 c (Lw _ hc),h0 a Lv λe=>n2.1 (by rw[e];exact hb)]
def lF (o:IsO P R F)(ndP:(b8 P).Nodup)(ndR:(b8 R).Nodup)(eP:∀x∈P.ts,x.2.2.1∈P.pts.map (·.1)/\x.2.2.2∈P.pts.map (·.1)):(CB P R).countP (λr=>decide (r.Perm F))=1:=by
 have nP:=E9 ndP;have nT:=N7 ndP;have nk:=o.nk;have Zn:((PP P R).map (·.1)).Nodup:=by rw[dR];exact nP
 have Zo:∀a,((TP P R a).map (·.1)).Nodup:=λa=>by rw[gX];exact nT
 have VC:∀n,n∈P.pts.map (·.1)->n∈P.ts.map (·.1)->False:=λn h1 h2=>(LU.mp ndP).2.2 n h1 n h2 rfl;have inj:∀n n' p,lk F n=some p->lk F n'=some p->n=n':=λn n' p h1 h2=>o.u2 ((Q0 nk).mp h1) ((Q0 nk).mp h2);obtain⟨A0,Zp⟩:∃A0,A0=cD (PP P R) (lk F):=⟨_,rfl⟩
 have Zq:∀{n p},(n,p)∈A0↔n∈P.pts.map (·.1)/\(n,p)∈F:=fun{n p}=>by rw[Zp,can_mem,dR,Q0 nk]
 have A0k:(A0.map (·.1)).Nodup:=Zn.sublist (by rw[Zp];exact tw _ _);obtain⟨B0,Zr⟩:∃B0,B0=cD (TP P R A0) (lk F):=⟨_,rfl⟩
 have B0m:∀{n p},(n,p)∈B0↔n∈P.ts.map (·.1)/\(n,p)∈F:=fun{n p}=>by rw[Zr,can_mem,gX,Q0 nk]
 have B0k:(B0.map (·.1)).Nodup:=(Zo A0).sublist (by rw[Zr];exact tw _ _);have XH:A0∈C4 (PP P R):=by
  rw[Zp];refine Ab _ _ (λx hx p hp=>?_) inj Zn;obtain⟨y,hy,rfl⟩:=Ln.mp hx;have z:=o.ptR ndP ((Q0 nk).mp hp) (show(y.1,y.2)∈P.pts from hy);exact Ln.mpr ⟨_,LW.mpr ⟨z,by simp⟩,rfl⟩
 have YM:B0∈C4 (TP P R A0):=by
  rw[Zr];refine Ab _ _ (λx hx p hp=>?_) inj (Zo A0);obtain⟨y,hy,rfl⟩:=Ln.mp hx;obtain⟨s,e,h1,h2,h3⟩:=o.tiR ndP ((Q0 nk).mp hp) (show(y.1,y.2)∈P.ts from hy);refine Ln.mpr ⟨_,LW.mpr ⟨h3,?_⟩,rfl⟩;exact(pS A0k _ _).mpr ⟨rfl,Zq.mpr ⟨(eP _ hy).1,h1⟩,Zq.mpr ⟨(eP _ hy).2,h2⟩⟩
 have pm0:(A0++B0).Perm F:=by
  have nd1:∀{l:List M6},(l.map (·.1)).Nodup->l.Nodup:=fun{l} h=>by
   rw[List.Nodup,Nk] at h;exact h.imp λUK e=>UK (by rw[e])
  refine(List.perm_ext_iff_of_nodup (LU.mpr ⟨nd1 A0k,nd1 B0k,λa ha b hb e=>?_⟩) o.nd).mpr λz=>?_
  .subst e;exact VC a.1 (Zq.mp (show(a.1,a.2)∈A0 from ha)).1 (B0m.mp (show(a.1,a.2)∈B0 from hb)).1
  .obtain⟨n,p⟩:=z;rw[LC,Zq,B0m];constructor
   .exact λh=>h.elim (·.2) (·.2)
   .intro h;have z:=WP.inP (t:=p) (o.wp _ h);rcases LC.mp (show n∈P.pts.map (·.1)++P.ts.map (·.1) from z) with y|y
    .exact .inl ⟨y,h⟩
    .exact .inr ⟨y,h⟩
 have key:∀a∈C4 (PP P R),∀b∈C4 (TP P R a),(a++b).Perm F->a=A0/\(a=A0->b=B0):=λa ha b hb pm=>by
  have ka:=J3 ha;rw[dR] at ka;have kb:=J3 hb;rw[gX] at kb;have ea:a=A0:=by
   rw[tq _ Zn a ha,Zp];refine iB λn hn=>VY λq=>?_;rw[dR] at hn;rw[Q0 (nP.sublist ka),Q0 nk,←pm.mem_iff,LC];constructor
   .exact .inl
   .rintro(h|h)
    .exact h
    .exact(VC n hn (kb.subset (Ln.mpr ⟨_,h,rfl⟩))).elim
  refine⟨ea,λ_=>?_⟩;rw[tq _ (Zo a) b hb,Zr,ea];refine iB λn hn=>VY λq=>?_;rw[gX] at hn;rw[Q0 (nT.sublist kb),Q0 nk,←pm.mem_iff,LC];constructor
  .exact .inr
  .rintro(h|h)
   .exact(VC n (ka.subset (Ln.mpr ⟨_,h,rfl⟩)) hn).elim
   .exact h
 have ndPP:(C4 (PP P R)).Nodup:=tm _ Zn λx hx=>by
  obtain⟨y,_,rfl⟩:=Ln.mp hx;exact(E9 ndR).sublist (NN.map _)
 have ndTP:∀a,(C4 (TP P R a)).Nodup:=λa=>tm _ (Zo a) λx hx=>by
  obtain⟨y,_,rfl⟩:=Ln.mp hx;exact(N7 ndR).sublist (NN.map _)
 refine rN ndPP XH ?_ λa ha v_=>?_
 .rw[List.countP_map];refine vz (ndTP A0) YM (by show decide _=true;rw[LA];exact pm0) λb hb v_=>?_;show decide _=false;rw[MR];exact λpm=>v_ ((key A0 XH b hb pm).2 rfl)
 .refine OA.mpr λr hr=>?_;obtain⟨b,hb,rfl⟩:=Ln.mp hr;rw[LA];exact λpm=>v_ (key a ha b hb pm).1
theorem qX {F:List M6}(sF:DT F):∀{ls:List aO} {rs:List (List M6)},Paired DI ls rs->ls.countP (λy=>decide (y.2.map (·.2)=F))=rs.countP (λr=>decide (r.Perm F))
 |_,_,.nil=>rfl
 |_,_,.cons (a:=x) (b:=r) h t=>by
  have e:decide (x.2.map (·.2)=F)=decide (r.Perm F):=by
   rw[LQ,LA,LA];exact⟨λz=>by rw[←z];exact h.1.symm,λz=>yZ h.2 sF (h.1.trans z)⟩
  rw[NX,NX,qX sF t,e]
end
section
variable {P R:x9} {F:List M6}
def gz:∀pa:List (Str×List Str),∀r∈C4 pa,(r.map (·.2)).Nodup/\∀z∈r,∃x∈pa,x.1=z.1/\z.2∈x.2:=by
 refine jP (λr hr=>?_) λpa x ih r hr=>?_
 .rw[LV.mp hr];exact⟨Ny,λ_ h=>nomatch h⟩
 .rw[M5] at hr;rcases LC.mp hr with h|h
  .exact⟨(ih r h).1,λz hz=>let ⟨y,a,b⟩:=(ih r h).2 z hz;⟨y,Ls _ a,b⟩⟩
  .obtain⟨row,t_,h⟩:=NK.mp h;obtain⟨p,hp,rfl⟩:=Ln.mp h;have B_:=LW.mp hp;have np:p∉row.map (·.2):=by simpa using B_.2
   refine⟨by rw[Lr];exact Q6 (ih row t_).1 np,λz hz=>?_⟩;rcases LC.mp hz with h|h
   .obtain⟨y,a,b⟩:=(ih row t_).2 z h;exact⟨y,Ls _ a,b⟩
   .rw[LV.mp h];exact⟨x,by simp,rfl,B_.1⟩
def Fd (ndP:(b8 P).Nodup)(ndR:(b8 R).Nodup):∀r∈CB P R,IsO P R r:=λr hr=>by
 obtain⟨a,ha,hr⟩:=NK.mp hr;obtain⟨b,hb,rfl⟩:=Ln.mp hr;have nP:=E9 ndP;have nT:=N7 ndP;have ka:=J3 ha;rw[dR] at ka;have kb:=J3 hb;rw[gX] at kb;have nka:=nP.sublist ka;have ga:∀z∈a,∃kd,(z.1,kd)∈P.pts/\(z.2,kd)∈R.pts:=λz hz=>by
  obtain⟨x,hx,e,m⟩:=(gz _ a ha).2 z hz;obtain⟨y,hy,rfl⟩:=Ln.mp hx;obtain⟨u,hu,eu⟩:=Ln.mp m;have UI:=LW.mp hu;refine⟨y.2,by rw[←e];exact hy,?_⟩;rw[←eu,←Nv UI.2];exact UI.1
 have gb:∀z∈b,∃(t:N4) (s e:Str),(z.1,t)∈P.ts/\(t.2.1,s)∈a/\(t.2.2,e)∈a/\(z.2,(t.1,s,e))∈R.ts:=λz hz=>by
  obtain⟨x,hx,e,m⟩:=(gz _ b hb).2 z hz;obtain⟨y,hy,rfl⟩:=Ln.mp hx;obtain⟨u,hu,eu⟩:=Ln.mp m;have UI:=LW.mp hu;obtain⟨h1,h2,h3⟩:=(pS nka _ _).mp (show bt (Y7 u.2) (qH a y.2)=true from UI.2);refine⟨y.2,u.2.2.1,u.2.2.2,by rw[←e];exact hy,h2,h3,?_⟩;rw[←eu,←h1];exact UI.1
 refine⟨?_,?_,λz hz=>?_⟩
 .rw[Lr];exact LU.mpr ⟨nka,nT.sublist kb,λx hx y hy e=>(LU.mp ndP).2.2 x (ka.subset hx) y (kb.subset hy) e⟩
 .rw[Lr];refine LU.mpr ⟨(gz _ a ha).1,(gz _ b hb).1,λx hx y hy e=>?_⟩;obtain⟨z,hz,rfl⟩:=Ln.mp hx;obtain⟨u,hu,rfl⟩:=Ln.mp hy;obtain⟨kd,_,h1⟩:=ga z hz;obtain⟨t,s,e',_,_,_,h2⟩:=gb u hu;exact(LU.mp ndR).2.2 _ (Ln.mpr ⟨_,h1,rfl⟩) _ (Ln.mpr ⟨_,h2,rfl⟩) e
 .rcases LC.mp hz with h|h
  .exact .inl (ga z h)
  .obtain⟨t,s,e,h1,h2,h3,h4⟩:=gb z h;exact .inr ⟨t,s,e,h1,Ls _ h2,Ls _ h3,h4⟩
end
theorem Ac {α β:Type}[DecidableEq β]{g:α->β}:∀{l:List α},(∀x∈l,l.countP (λy=>decide (g y=g x))=1)->l.Pairwise λa b=>g a≠g b
 |[],_=> .nil
 |a::l,h=>by
  have h0:=h a Lv;rw[NX,if_pos (by simp)] at h0;have h1:=OA.mp (show l.countP (λy=>decide (g y=g a))=0 by lia);refine Na.mpr ⟨λb hb e=>h1 b hb (by rw[e];simp),Ac λx hx=>?_⟩;have h2:=h x (Lw _ hx);have ne:g a≠g x:=λe=>h1 x hx (by rw[e];simp);rw[NX,if_neg (by simpa using ne)] at h2;exact h2
section
variable {P R:x9}
def IsO.perm {r r':List M6}(o:IsO P R r)(h:r'.Perm r):IsO P R r':=⟨(h.map _).nodup_iff.mpr o.nk,(h.map _).nodup_iff.mpr o.nv,λx hx=>(o.wp x (h.mem_iff.mp hx)).mono λy hy=>h.mem_iff.mpr hy⟩
def Ee {r:List M6}(h:r∈CB P R):r.length<=P.pts.length+P.ts.length:=by
 obtain⟨a,ha,hr⟩:=NK.mp h;obtain⟨b,hb,rfl⟩:=Ln.mp hr;have h1:=bf ha;have h2:=bf hb;unfold PP at h1;unfold TP at h2;rw[Ll] at h1 h2;rw[LB];lia
def ma {ls Rz:List aO}(ndP:(b8 P).Nodup)(ndR:(b8 R).Nodup)(pm:ls.Perm Rz)(pr:Paired DI Rz (CB P R)){x:aO}(hx:x∈ls):DT (x.2.map (·.2))/\IsO P R (x.2.map (·.2))/\x.2.length<=P.pts.length+P.ts.length:=by
 obtain⟨i,hi⟩:=MV (pm.mem_iff.mp hx);obtain⟨r,hr,o⟩:=A9 pr hi;have hm:=LF hr;refine⟨o.2,(Fd ndP ndR r hm).perm o.1,?_⟩;have z:=Ee hm;rw[←o.1.length_eq,Ll] at z;exact z
def BZ {ls Rz:List aO}(ndP:(b8 P).Nodup)(ndR:(b8 R).Nodup)(eP:∀x∈P.ts,x.2.2.1∈P.pts.map (·.1)/\x.2.2.2∈P.pts.map (·.1))(pm:ls.Perm Rz)(pr:Paired DI Rz (CB P R))(Uw:ls.Pairwise (λa b=>¬C7 (b.2.map (·.2))<C7 (a.2.map (·.2)))):ls.Pairwise λa b=>C7 (a.2.map (·.2))<C7 (b.2.map (·.2)):=by
 have h1:ls.Pairwise λa b=>a.2.map (·.2)≠b.2.map (·.2):=Ac (g:=λy:aO=>y.2.map (·.2)) λx hx=>by
  obtain⟨h1,h2,_⟩:=ma ndP ndR pm pr hx;rw[pm.countP_eq,qX h1 pr];exact lF h2 ndP ndR eP
 refine PN (fun{a b} z=>?_) (Uw.and h1);exact MT λy=>z.2 (nJ (rg y z.1))
end
theorem yu {H:Hp}(n:Nat):∀{us vs:List (Addr×M6)},us.map (·.2)=vs.map (·.2)->(∀t∈us,SqT K H t.1 [.str t.2.1,.str t.2.2])->(∀t∈vs,SqT K H t.1 [.str t.2.1,.str t.2.2])->Paired (λx y=>EqN K H (n+1) x y true) (us.map λt=>V.ref t.1) (vs.map λt=>V.ref t.1)
 |[],[],_,_,_=> .nil
 |[],_::_,h,_,_=>nomatch h
 |_::_,[],h,_,_=>nomatch h
 |u::us,v::vs,h,h1,h2=>by
  have e:=(Mo h).1;have s1:=h1 u Lv;have s2:=h2 v Lv;rw[show v.2=u.2 from e.symm] at s2;exact .cons (AZ (n:=n) (.inl ⟨s1,s2⟩) (.cons (vN _ _) (.cons (vN _ _) .nil))) (yu n (Mo h).2 (λt ht=>h1 t (Lw _ ht)) λt ht=>h2 t (Lw _ ht))
theorem jX {H:Hp}:∀{xs ys:List aO},(xs.map λx=>x.2.map (·.2))=(ys.map λx=>x.2.map (·.2))->(∀x∈xs,RwAt K H x)->(∀y∈ys,RwAt K H y)->Paired (λx y=>EqN K H 8 x y true) (xs.map λx=>V.ref x.1) (ys.map λy=>V.ref y.1)
 |[],[],_,_,_=> .nil
 |[],_::_,h,_,_=>nomatch h
 |_::_,[],h,_,_=>nomatch h
 |x::xs,y::ys,h,h1,h2=> .cons (AZ (n:=7) (.inr ⟨SqL.of (h1 x Lv).1,SqL.of (h2 y Lv).1⟩) (yu 6 (Mo h).1 (h1 x Lv).2 (h2 y Lv).2)) (jX (Mo h).2 (λt ht=>h1 t (Lw _ ht)) λt ht=>h2 t (Lw _ ht))
structure RuD (L R:x9):Prop where
 ag:∀n∈b8 L,n∈b8 R->Co n L R
 kL:∀n∈b8 L,cw n=true
 kR:∀n∈b8 R,cw n=true
 l5:(b8 L).length<=5
 r8:(b8 R).length<=8
 p3:L.pts.length<=3
 t3:L.ts.length<=3
def RuD.pm {L R L' R':x9}(h:RuD L R)(l:WPm L' L)(r:WPm R' R):RuD L' R':=by
 refine⟨λn h1 h2=>?_,λn hn=>h.kL n (l.nm.mem_iff.mp hn),λn hn=>h.kR n (r.nm.mem_iff.mp hn),by rw[l.nm.length_eq];exact h.l5,by rw[r.nm.length_eq];exact h.r8,by rw[l.p.length_eq];exact h.p3,by rw[l.t.length_eq];exact h.t3⟩;have a:=h.ag n (l.nm.mem_iff.mp h1) (r.nm.mem_iff.mp h2);exact⟨λk=>by rw[l.p.mem_iff,r.p.mem_iff];exact a.p k,λk=>by rw[l.t.mem_iff,r.t.mem_iff];exact a.t k⟩
def yW {n:Str}(h:cw n=true):n.length<=8:=by
 have:=oz (show R8 n kSL 8=true from h);lia
def vk (mk n:Str):(mk++n).length=mk.length+n.length:=by
 show(mk.cps++n.cps).size=mk.cps.size+n.cps.size;rw[Array.size_append]
def Bc {mk n m:Str}(h:mk++n=mk++m):n=m:=by
 have z:=Mw (λs:Str=>s.cps.toList) h;simp only[V1,List.append_cancel_left_eq] at z;exact Q8 z
structure Mk (mk:Str):Prop where
 l:mk.length=2
 n:∀c∈mk.cps.toList,c∈kNS.cps.toList
 h:∃c r,mk.cps.toList=c::r/\c∈kSL.cps.toList
def Mk.nm {mk n:Str}(k:Mk mk)(h:cw n=true):eO (mk++n)=true:=by
 have h8:=yW h;have hl:=vk mk n;have kl:=k.l;unfold cw R8 at h;simp only[Mg] at h;obtain⟨⟨_,_⟩,ha⟩:=h;unfold sk at ha;rw[LZ] at ha;have sub:∀c∈kSL.cps.toList,c∈kNS.cps.toList:=by decide+kernel
 unfold eO R8 JD;rw[hl,LN (by lia),LN (by lia),Pu,Pu];refine Bool.and_eq_true_iff.mpr ⟨?_,?_⟩
 .unfold sk;rw[LZ,V1];intro c hc;refine LN ?_;rcases LC.mp hc with z|z
  .exact k.n c z
  .exact sub c (by simpa using ha c z)
 .obtain⟨c,r,e,hc⟩:=k.h;rw[V1,e];exact LN hc
def Jz:Mk "c.":=⟨by decide+kernel,by decide+kernel,⟨99,[46],by decide+kernel,by decide+kernel⟩⟩
def JY:Mk "d.":=⟨by decide+kernel,by decide+kernel,⟨100,[46],by decide+kernel,by decide+kernel⟩⟩
def AE {x y n m:Str}{c d:Nat}{r r':List Nat}(hx:x.cps.toList=c::r)(hy:y.cps.toList=d::r')(ne:c≠d):x++n≠y++m:=λh=>by
 have z:=Mw (λs:Str=>s.cps.toList) h;simp only[V1,hx,hy,Ro,List.cons.injEq] at z;exact ne z.1
def Mk.out {mk:Str}(hm:mk="c."\/mk="d.")(n m:Str):aN n≠mk++m/\bN n≠mk++m:=by
 have ea:("a.":Str).cps.toList=[97,46]:=by decide+kernel
 have eb:("b.":Str).cps.toList=[98,46]:=by decide+kernel
 have ec:("c.":Str).cps.toList=[99,46]:=by decide+kernel
 have ed:("d.":Str).cps.toList=[100,46]:=by decide+kernel
 rcases hm with rfl|rfl
 .exact⟨AE ea ec (by decide),AE eb ec (by decide)⟩
 .exact⟨AE ea ed (by decide),AE eb ed (by decide)⟩
section
variable {H:Hp} {z p q d1 d2:Addr} {kvs:List (i6×V)} {Z P0 R:x9} {ps:List (Str×Str)} {ns r_:List Str}
def OW.nmZ (o:OW K H z p q d1 d2 kvs Z P0 R ps ns r_){n:Str}(h:n∈b8 Z):(∃m∈b8 P0,n=aN m)\/∃m∈b8 R,n=K4 ps m:=by
 rcases mem_nms.mp h with⟨k,h⟩|⟨t,h⟩
 .rcases(o.m1 _).mp h with h|h<;>obtain⟨n,k',hn,e⟩:=ren_pt.mp h
  .exact .inl ⟨n,mem_nms.mpr (.inl ⟨_,hn⟩),(NG e).1⟩
  .exact .inr ⟨n,mem_nms.mpr (.inl ⟨_,hn⟩),(NG e).1⟩
 .rcases(o.m2 _).mp h with h|h<;>obtain⟨n,k',hn,e⟩:=ren_ts.mp h
  .exact .inl ⟨n,mem_nms.mpr (.inr ⟨_,hn⟩),(NG e).1⟩
  .exact .inr ⟨n,mem_nms.mpr (.inr ⟨_,hn⟩),(NG e).1⟩
def OW.ab (o:OW K H z p q d1 d2 kvs Z P0 R ps ns r_)(v:OV P0 R ps){n:Str}(h:n∈b8 Z):(∃m∈b8 P0,n=aN m)\/∃m∈b8 R,n=bN m:=by
 rcases o.nmZ h with z|⟨m,hm,rfl⟩
 .exact .inl z
 .rcases cV ps m with⟨n,hn,e⟩|⟨_,e⟩
  .exact .inl ⟨n,(v.mem' hn).1,e⟩
  .exact .inr ⟨m,hm,e⟩
def OW.sd (o:OW K H z p q d1 d2 kvs Z P0 R ps ns r_)(v:OV P0 R ps)(k1:∀n∈b8 P0,cw n=true)(k2:∀n∈b8 R,cw n=true)(l1:(b8 P0).length<=5)(l2:(b8 R).length<=5):SdIs K H ⟨z,p,q,kvs,Z⟩/\(b8 Z).length<=10:=by
 have nd:=v.ndZ o.n1 o.n2 o.m1 o.m2;have len:(b8 Z).length<=10:=by
  have y:=ay (m:=(b8 P0).map aN++(b8 R).map (K4 ps)) nd λx hx=>by
   rcases o.nmZ hx with⟨m,hm,rfl⟩|⟨m,hm,rfl⟩
   .exact Ls _ (Ln.mpr ⟨m,hm,rfl⟩)
   .exact LG _ (Ln.mpr ⟨m,hm,rfl⟩)
  rw[LB,Ll,Ll] at y;lia
 have la:∀n:Str,(aN n).length=2+n.length:=λn=>vk "a." n;have lb:∀n:Str,(bN n).length=2+n.length:=λn=>vk "b." n;have ln:∀n∈b8 Z,2<=n.length/\n.length<=10:=λn hn=>by
  rcases o.ab v hn with⟨m,hm,rfl⟩|⟨m,hm,rfl⟩
  .have:=yW (k1 m hm);rw[la];lia
  .have:=yW (k2 m hm);rw[lb];lia
 refine⟨⟨o.at_,o.hp,o.hq,o.ne,nd,by show(b8 Z).length<=13;lia,λx hx=>?_,λx hx=>by have:=(ln x hx).2;lia,λhq=>?_⟩,len⟩
 .rcases(o.m2 _).mp hx with h|h<;>obtain⟨n,t,hn,rfl⟩:=ren_ts.mp h
  .have e:=v.eP _ hn;obtain⟨y1,TX,e1⟩:=Ln.mp e.1;obtain⟨y2,Vb,e2⟩:=Ln.mp e.2;exact⟨Ln.mpr ⟨_,(o.m1 _).mpr (.inl (ren_pt.mpr ⟨y1.1,y1.2,TX,rfl⟩)),Mw aN e1⟩,Ln.mpr ⟨_,(o.m1 _).mpr (.inl (ren_pt.mpr ⟨y2.1,y2.2,Vb,rfl⟩)),Mw aN e2⟩⟩
  .have e:=v.eR _ hn;obtain⟨y1,TX,e1⟩:=Ln.mp e.1;obtain⟨y2,Vb,e2⟩:=Ln.mp e.2;exact⟨Ln.mpr ⟨_,(o.m1 _).mpr (.inr (ren_pt.mpr ⟨y1.1,y1.2,TX,rfl⟩)),Mw (K4 ps) e1⟩,Ln.mpr ⟨_,(o.m1 _).mpr (.inr (ren_pt.mpr ⟨y2.1,y2.2,Vb,rfl⟩)),Mw (K4 ps) e2⟩⟩
 .have:=(ln _ hq).1;have e:("?":Str).length=1:=by decide+kernel
  lia
end
structure Ir (W L R:x9) (km:List (i6×V)) (fr:List (Str×Str)):Prop where
 knd:(km.map (·.1)).Nodup
 kln:km.length<=100
 ktx:∀kv∈km,∃n s,kv=(Sum.inr n,V.str s)
 fit:xh L W km
 fo:FrOk W L R fr
 ndB:((b8 R).map (bh L km (i7 fr))).Nodup
 ag:∀n∈b8 L,n∈b8 R->Co n L R
 r13:(b8 R).length<=13
def iE {l:List Str}{f:Str->Str}(nd:l.Nodup)(h:∀a∈l,∀b∈l,f a=f b->a=b):(l.map f).Nodup:=by
 rw[List.Nodup,Nk];exact Rf (λha hb ne e=>ne (h _ ha _ hb e)) nd
def yz {P0 R L' R' Z:x9}{f:Str->Str}{ns us:List Str}{mk:Str}(nd:(b8 P0).Nodup)(ndR:(b8 R).Nodup)(eP:∀x∈P0.ts,x.2.2.1∈P0.pts.map (·.1)/\x.2.2.2∈P0.pts.map (·.1))(pn:ns.Perm (b8 P0))(inj:∀a∈b8 P0,∀b∈b8 P0,f a=f b->a=b)(zp:∀x∈(A8 f P0).pts,x∈Z.pts)(zt:∀x∈(A8 f P0).ts,x∈Z.ts)
  (wl:WPm L' P0) (wr:WPm R' R) (ru:RuD P0 R) (ks:∃t1 t2,Ordr R' t1 t2/\us=(t1++t2).filter λn=>!decide (n∈b8 L')) (hu:Frs P0 R us) (mm:Mk mk) (zn:∀n∈b8 Z,∀m,n≠mk++m):Ir Z L' R' (i7 (ns.map λn=>(n,f n))) (us.map λn=>(n,mk++n)):=by
 have nns:=pn.nodup_iff.mpr nd
 have gt:∀n∈b8 P0,TxtAt (i7 (ns.map λn=>(n,f n))) n/\j8 (i7 (ns.map λn=>(n,f n))) n=f n:=λn hn=>du nns (pn.mem_iff.mpr hn)
 have gu:∀n∈us,TxtAt (i7 (us.map λn=>(n,mk++n))) n/\j8 (i7 (us.map λn=>(n,mk++n))) n=mk++n:=λn hn=>du (f:=λn=>mk++n) hu.nd hn
 have hl:=pn.length_eq
 have l5:=ru.l5
 have Up:us.length<=8:=Mh (ay hu.nd λn hn=>((hu.mem n).mp hn).1) ru.r8
 have rd:=ru.pm wl wr
 have YA:∀m∈b8 P0,f m∈b8 Z:=λm hm=>by
  rcases mem_nms.mp hm with⟨k,h⟩|⟨t,h⟩
  .exact mem_nms.mpr (.inl ⟨k,zp _ (ren_pt.mpr ⟨m,k,h,rfl⟩)⟩)
  .exact mem_nms.mpr (.inr ⟨_,zt _ (ren_ts.mpr ⟨m,t,h,rfl⟩)⟩)
 refine⟨V3 (Ip nns),by rw[j5,Ll];lia,Di,⟨by rw[j5,Ll,hl,wl.nm.length_eq],λn hn=>(gt n (wl.nm.mem_iff.mp hn)).1,?_,λx hx=>?_,λx hx=>?_⟩,⟨?_,λx hx=>?_,?_,λx hx z=>?_,by rw[Ll];exact Up⟩,?_,rd.ag,by have:=rd.r8;lia⟩
 .rw[NM λn hn=>(gt n (wl.nm.mem_iff.mp hn)).2]
  exact iE (wl.nm.nodup_iff.mpr nd) λa ha b hb e=>inj a (wl.nm.mem_iff.mp ha) b (wl.nm.mem_iff.mp hb) e
 .have hx:=wl.p.mem_iff.mp hx
  rw[(gt _ (mem_nms.mpr (.inl ⟨_,hx⟩))).2]
  exact zp _ (ren_pt.mpr ⟨x.1,x.2,hx,rfl⟩)
 .have hx:=wl.t.mem_iff.mp hx
  have e:=eP x hx
  rw[(gt _ (mem_nms.mpr (.inr ⟨_,hx⟩))).2,(gt _ (Ls _ e.1)).2,(gt _ (Ls _ e.2)).2]
  exact zt _ (ren_ts.mpr ⟨x.1,x.2,hx,rfl⟩)
 .obtain⟨t1,t2,o,e⟩:=ks
  exact⟨t1,t2,o,by rw[aj];exact e⟩
 .obtain⟨n,hn,rfl⟩:=Ln.mp hx
  exact mm.nm (ru.kR n ((hu.mem n).mp hn).1)
 .rw[LH]
  exact iE (f:=λn=>mk++n) hu.nd λa _ b _ e=>Bc e
 .obtain⟨n,hn,rfl⟩:=Ln.mp hx
  exact zn _ z n rfl
 .have bL:∀m∈b8 P0,bh L' (i7 (ns.map λn=>(n,f n))) (i7 (us.map λn=>(n,mk++n))) m=f m:=λm hm=>by unfold bh;rw[if_pos (wl.nm.mem_iff.mpr hm),(gt m hm).2]
  have bF:∀m∈b8 R,m∉b8 P0->bh L' (i7 (ns.map λn=>(n,f n))) (i7 (us.map λn=>(n,mk++n))) m=mk++m:=λm hm hn=>by unfold bh;rw[if_neg (λz=>hn (wl.nm.mem_iff.mp z)),(gu m ((hu.mem m).mpr ⟨hm,hn⟩)).2]
  refine iE (wr.nm.nodup_iff.mpr ndR) λa ha b hb e=>?_
  have ha:=wr.nm.mem_iff.mp ha
  have hb:=wr.nm.mem_iff.mp hb
  by_cases za:a∈b8 P0<;>by_cases zb:b∈b8 P0
  .rw[bL a za,bL b zb] at e;exact inj a za b zb e
  .rw[bL a za,bF b hb zb] at e;exact absurd e (zn _ (YA a za) b)
  .rw[bF a ha za,bL b zb] at e;exact absurd e.symm (zn _ (YA b zb) a)
  .rw[bF a ha za,bF b hb zb] at e;exact Bc e
def pI (K:Za):Sp:=λvs H Q _=>∃(d1 d2:Addr) (k1 k2:List (i6×V)) (s1 s2:List Str),vs=[.ref d1,.ref d2]/\H d1=some (.dK k1)/\H d2=some (.dK k2)/\k1.map (·.2)=s1.map V.str/\k2.map (·.2)=s2.map V.str/\s1.length<=60/\∀(l:Addr) (us:List Str) (H':Hp),H l=none->Same H H'->H' l=some (.lst (us.map V.str))->(∀x,x∈us↔x∈s1/\x∈s2)->us.length<=60->Q (.ref l) H'
abbrev rL:=λP w K mg base=>M7 P w K mg base B6 1 "common" ["one","other"] [] (pI K)
def xa {f fd}(T:Txt K mg)(F:Fun K "common" "common" mY f fd):u6 P w K mg base B6 1 f fd ["one","other"] (pI K):=by
 walk_at "#sc_common"
 .obtain⟨d1,d2,k1,k2,s1,s2,rfl,_⟩:=h;rfl
 .obtain⟨d1,d2,k1,k2,s1,s2,rfl,h1,h2,e1,e2,hl,k⟩:=h;walk_at "@sc_common 252,~1A?>4~0018jimage;2;eG'2yQ (A4~000c0image,images;MbD0001q00"
  refine j9 λTZ hx=>?_;rfl';refine⟨.inr (.inr (.inl ⟨rfl,.inl ⟨_,h2⟩⟩)),?_⟩;rfl';refine⟨d2,_,rfl,rfl,.inl h2,λv1 n1=>?_⟩;obtain⟨H1,z1,f1,m1,_⟩:=b7 (o:= .ext (jF v1 d2)) n1;rw[z1];rfl';refine cZ f1 (.inl (m1 _ _ h2)) (λli n2=>?_);obtain⟨H2,z2,f2,m2,_⟩:=b7 (o:= .lst _) n2;rw[z2];rw[e2] at f2;have J_:=m1.trans m2;rfl';refine hx [some (.ref d1),some (.ref d2),some (.ref li)] _ ?_;clear hx;have g1:=J_ _ _ h1;rfl';refine⟨.inr (.inr (.inl ⟨rfl,.inl ⟨_,g1⟩⟩)),?_⟩;rfl';refine⟨d1,_,rfl,rfl,.inl g1,λv3 n3=>?_⟩;obtain⟨H3,z3,f3,m3,_⟩:=b7 (o:= .ext (jF v3 d1)) n3;rw[z3];rfl';refine⟨v3,d1,_,s1,rfl,f3,.inl (m3 _ _ g1),e1,by lia,λl_ pm lo nlo=>?_⟩;obtain⟨H4,z4,f4,m4,_⟩:=b7 (o:= .lst (l_.map V.str)) nlo;rw[z4];have z_:=pm.length_eq;have Vg:=m3.trans m4;refine j7 (SqL.of f4) ?_;refine k8 (n:=l_.length) (λi out H'=>Same H4 H'/\out=((l_.take i).filter λn=>decide (n∈s2)).map V.str) ⟨Same.refl _,rfl⟩ (λi out H' hi hp=>⟨_,.str (l_[i]),SqL.of (hp.1 _ _ f4),by rw[Lo,Lm hi];rfl⟩) ?_ ?_
  .rintro N i v out H5' H5 hi ⟨s5,rfl⟩ y hN';obtain⟨rfl,hy⟩:=Itl.get y (SqL.of (s5 _ _ f4));have ex:l_[i]?=some l_[i]:=Lm hi;rw[Lo,ex] at hy;cases hy;have e7:l_.take (i+1)=l_.take i++[l_[i]]:=by rw[Me,ex];rfl
   have n_:=LD (λn=>decide (n∈s2)) (l_.take i);rw[Lz] at n_;rfl';refine⟨rfl,?_⟩;rfl';refine gJ (SqL.of (s5 _ _ (Vg _ _ f2))) ?_;rfl';refine F9 (λhb=>?_) (λhb=>?_)
   .rfl';refine⟨b9 (by rw[Ll];lia),hN' _ _ ⟨s5,?_⟩⟩;rw[e7,Mm,Mq (p:=λn=>decide (n∈s2)) (LN hb),MN,Lr];rfl
   .refine hN' _ _ ⟨s5,?_⟩;rw[e7,Mm,Mr (p:=λn=>decide (n∈s2)) (by simp [hb]),MN,MD]
  .rintro out H5 ⟨s5,rfl⟩;rw[Lu (Lp _)];have n_:=LD (λn=>decide (n∈s2)) l_;refine⟨⟨_,SqL.of (s5 _ _ f4),by rw[Ll];exact Lp _⟩,λD hD=>⟨b9 (by rw[Ll];lia),?_⟩⟩;obtain⟨H6,z6,f6,m6,_⟩:=b7 (H:=H5) (o:= .lst ((l_.filter λn=>decide (n∈s2)).map V.str)) hD;change Q (.ref D) (upd H5 D (.lst ((l_.filter λn=>decide (n∈s2)).map V.str)));rw[z6];have Zs:=J_.trans (Vg.trans s5);exact k D _ H6 (Zs.free hD) (Zs.trans m6) f6 (λx=>by rw[LW,pm.mem_iff,LA]) (by lia)
def kh (K:Za):Sp:=λvs H Q E=>∃(S L1 R1 L2 R2:Sd) (s1 q1 m1 f1 c1 s2 q2 m2 f2 c2:Addr) (a1 a2 VD UH:List (Str×Str)),vs=[.ref S.a,.ref s1,.ref s2]/\SdIs K H S/\StI K H s1 q1 m1 f1 c1 L1 R1 (i7 a1) (i7 VD) []/\StI K H s2 q2 m2 f2 c2 L2 R2 (i7 a2) (i7 UH) []/\Ir S.W L1.W R1.W (i7 a1) VD/\Ir S.W L2.W R2.W (i7 a2) UH/\(∀x∈VD.map (·.2),x∉UH.map (·.2))/\a1.length<=60/\(b8 L1.W).length<=5/\(b8 L2.W).length<=5/\
 (¬(yc S.W (cX L1.W R1.W (i7 a1))/\yc S.W (cX L2.W R2.W (i7 a2)))->∀H' e,Same H H'->H' e=none->E (.ref (cA K "Loose")) (some e) H')/\
 (yc S.W (cX L1.W R1.W (i7 a1))->yc S.W (cX L2.W R2.W (i7 a2))->∀v H',Same H H'->((∃x∈a1.map (·.2),x∈a2.map (·.2)/\(x∈cX L1.W R1.W (i7 a1)\/x∈cX L2.W R2.W (i7 a2)))->∃t,v= .ref t)->((¬∃x∈a1.map (·.2),x∈a2.map (·.2)/\(x∈cX L1.W R1.W (i7 a1)\/x∈cX L2.W R2.W (i7 a2)))->v= .non)->Q v H')
abbrev vR:=λP w K mg base=>M7 P w K mg base (gY P w) 7 "clash" ["web","one","other"] [] (kh K)
def AL {f fd}(T:Txt K mg)(qf:zw P w K mg base)(fR:rL P w K mg base)(K8:dC P w K mg base)(Z6:mE P w K mg base)(F:Fun K "clash" "clash" qo f fd):u6 P w K mg base (gY P w) 7 f fd ["web","one","other"] (kh K):=by
 refine F.okE sc_clash (λvs H Q E h=>?_) (λc_ A outer s H vs Q E hr h=>?_)
 .obtain⟨S,L1,R1,L2,R2,s1,q1,m1,f1,c1,s2,q2,m2,f2,c2,a1,a2,VD,UH,rfl,_⟩:=h;rfl
 .obtain⟨S,L1,R1,L2,R2,s1,q1,m1,f1,c1,s2,q2,m2,f2,c2,a1,a2,VD,UH,rfl,hS,hT,hU,D1,D2,VC,XF,l15,l25,kE,k⟩:=h;have hSl:=hS.len;rw[E4] at hSl;have vals:∀a:List (Str×Str),(i7 a).map (·.2)=(a.map (·.2)).map V.str:=λa=>mX a;have fl1:=D1.fo.len;walk_at "@sc_clash 253P'0qf -7001254P'0qf -70022553'0fR a11122iT058dap15256s3'0K8 913'0K8 922~d7Aname;6;Ae3'0fR a1112Rc0name,out;RMbD0001qR002iT078dap172ib~53'0Z6 h04a1111]g8dap62ib~53'0Z6 h03a1212]g8dap68]"
  refine j9 λTZ hx=>?_;rfl';refine⟨S,L1,R1,s1,q1,m1,f1,c1,_,VD,rfl,hS,hT,D1.knd,D1.kln,D1.ktx,D1.fit,D1.fo,D1.ndB,D1.ag,D1.r13,hSl,λlo1 v1 H1 t1=>?_,λlo H' e s he=>kE (λz=>lo z.1) H' e s he⟩;rfl';refine hx [some (.ref S.a),some (.ref s1),some (.ref s2),some v1,none,none,none,none] _ ?_;clear hx;refine j9 λVs hx=>?_;rfl';refine⟨S,L2,R2,s2,q2,m2,f2,c2,_,UH,rfl,hS.same t1,hU.same t1,D2.knd,D2.kln,D2.ktx,D2.fit,D2.fo,D2.ndB,D2.ag,D2.r13,hSl,λYB v2 H2 t2=>?_,λlo H' e s he=>kE (λz=>lo z.2) H' e (t1.trans s) he⟩;rfl';refine hx [some (.ref S.a),some (.ref s1),some (.ref s2),some v1,some v2,none,none,none] _ ?_;clear hx;have k:=k lo1 YB;have t12:=t1.trans t2;have T2:=hT.same t12;have U2:=hU.same t12;refine j9 λWQ hx=>?_;rfl';refine b5 T2.tup (b6 (j:=2) rfl) ?_;rfl';refine b5 U2.tup (b6 (j:=2) rfl) ?_;rfl';refine⟨f1,f2,_,_,VD.map (·.2),UH.map (·.2),rfl,T2.f,U2.f,vals VD,vals UH,by rw[Ll];lia,λl3 us H3 _ t3 g3 Sw _=>?_⟩;have ue:us=[]:=List.eq_nil_iff_forall_not_mem.mpr λx hx=>VC x ((Sw x).mp hx).1 ((Sw x).mp hx).2;subst ue;rfl';refine hx [some (.ref S.a),some (.ref s1),some (.ref s2),some v1,some v2,some (.ref l3),none,none] _ ?_;clear hx;refine j9 λZd hx=>?_;rfl';refine⟨false,.inl ⟨[],SqL.of g3,rfl⟩,?_⟩;rfl';refine hx [some (.ref S.a),some (.ref s1),some (.ref s2),some v1,some v2,some (.ref l3),none,none] _ ?_;clear hx;have t13:=t12.trans t3;have T3:=hT.same t13;have U3:=hU.same t13;refine j9 λnx5 hx=>?_;rfl';refine⟨s1,q1,m1,c1,.ref f1,L1,R1,[],_,rfl,T3.tup,T3.r,.inl T3.m,D1.fit.txt,λl4 H4 u1 u2 _ t4 o4 g4=>?_⟩;have U4:=U3.same t4;rfl';refine⟨s2,q2,m2,c2,.ref f2,L2,R2,[],_,rfl,U4.tup,U4.r,.inl U4.m,D2.fit.txt,λl5 H5 w1 w2 _ t5 o5 g5=>?_⟩;have h4:=vf (R:=R1.W) (km:=i7 a1) o4;have h5:=vf (R:=R2.W) (km:=i7 a2) o5;have z4:=LD (λn=>!decide (n∈b8 R1.W)) (u1++u2);have z5:=LD (λn=>!decide (n∈b8 R2.W)) (w1++w2);have y4:=o4.len;have y5:=o5.len;have x4:(((u1++u2).filter λn=>!decide (n∈b8 R1.W)).map (j8 (i7 a1))).length<=13:=by rw[Ll];lia
  have x5:(((w1++w2).filter λn=>!decide (n∈b8 R2.W)).map (j8 (i7 a2))).length<=13:=by rw[Ll];lia
  generalize ((u1++u2).filter λn=>!decide (n∈b8 R1.W)).map (j8 (i7 a1))=o1 at g4 h4 x4;generalize ((w1++w2).filter λn=>!decide (n∈b8 R2.W)).map (j8 (i7 a2))=o2 at g5 h5 x5;rfl';refine pd (t5 _ _ g4) g5 (b9 (by rw[Ll,Ll];lia)) (λlo nlo=>?_);rw[←Lr];obtain⟨H6,z6,g6,t6,_⟩:=b7 (o:= .lst ((o1++o2).map V.str)) nlo;rw[z6];rfl';refine hx [some (.ref S.a),some (.ref s1),some (.ref s2),some v1,some v2,some (.ref l3),some (.ref lo),none] _ ?_;clear hx;have t36:=t4.trans (t5.trans t6);have T6:=T3.same t36;have U6:=U3.same t36;refine j9 λnx6 hx=>?_;rfl';refine b5 T6.tup (b6 (j:=1) rfl) ?_;rfl';refine b5 U6.tup (b6 (j:=1) rfl) ?_;rfl';refine⟨m1,m2,_,_,a1.map (·.2),a2.map (·.2),rfl,T6.m,U6.m,vals a1,vals a2,by rw[Ll];exact XF,λl7 us H7 _ t7 g7 Sw hul=>?_⟩;refine j7 (SqL.of g7) ?_;refine k8 (n:=us.length) (λi out H'=>Same H7 H'/\out=((us.take i).filter λn=>decide (n∈o1++o2)).map V.str) ⟨Same.refl _,rfl⟩ (λi out H' hi hp=>⟨_,.str (us[i]),SqL.of (hp.1 _ _ g7),by rw[Lo,Lm hi];rfl⟩) ?_ ?_
  .rintro N i v out H8' H8 hi ⟨s8,rfl⟩ y hN';obtain⟨rfl,hy⟩:=Itl.get y (SqL.of (s8 _ _ g7));have ex:us[i]?=some us[i]:=Lm hi;rw[Lo,ex] at hy;cases hy;have e7:us.take (i+1)=us.take i++[us[i]]:=by rw[Me,ex];rfl
   have n_:=LD (λn=>decide (n∈o1++o2)) (us.take i);rw[Lz] at n_;rfl';refine⟨rfl,?_⟩;rfl';refine gJ (SqL.of (s8 _ _ (t7 _ _ g6))) ?_;rfl';refine F9 (λhb=>?_) (λhb=>?_)
   .rfl';refine⟨b9 (by rw[Ll];lia),hN' _ _ ⟨s8,?_⟩⟩;rw[e7,Mm,Mq (p:=λn=>decide (n∈o1++o2)) (LN hb),MN,Lr];rfl
   .refine hN' _ _ ⟨s8,?_⟩;rw[e7,Mm,Mr (p:=λn=>decide (n∈o1++o2)) (by simp [hb]),MN,MD]
  rintro out H8 ⟨s8,rfl⟩;rw[Lu (Lp _)];have n_:=LD (λn=>decide (n∈o1++o2)) us;refine⟨⟨_,SqL.of (s8 _ _ g7),by rw[Ll];exact Lp _⟩,λlg nlg=>⟨b9 (by rw[Ll];lia),?_⟩⟩;obtain⟨H9,z9,g9,t9,_⟩:=b7 (H:=H8) (o:= .lst ((us.filter λn=>decide (n∈o1++o2)).map V.str)) nlg;change R9 _ _ _ (upd H8 lg (.lst ((us.filter λn=>decide (n∈o1++o2)).map V.str))) _;rw[z9];have Wu:∀x,x∈(us.filter λn=>decide (n∈o1++o2))↔(x∈a1.map (·.2)/\x∈a2.map (·.2))/\(x∈cX L1.W R1.W (i7 a1)\/x∈cX L2.W R2.W (i7 a2)):=λx=>by
   rw[LW,Sw,LA,LC,h4,h5]
  generalize us.filter (λn=>decide (n∈o1++o2))=gl at g9 Wu;rfl';refine hx [some (.ref S.a),some (.ref s1),some (.ref s2),some v1,some v2,some (.ref l3),some (.ref lo),some (.ref lg)] _ ?_;clear hx;have t69:=t7.trans (s8.trans t9);have Zt:=t13.trans (t36.trans t69);refine j9 λnx7 hx=>?_;rfl';cases gl with
  |cons x r=>
   refine⟨true,.inl ⟨_,SqL.of g9,rfl⟩,?_⟩
   rfl'
   refine k9 (v:= .str x) (SqL.of g9) (b6 (j:=0) rfl) ?_
   rfl'
   refine⟨b9 (by simp),λlt nlt=>?_⟩
   obtain⟨HA,zA,gA,tA,_⟩:=b7 (o:= .tup _) nlt
   rw[zA]
   have y:=(Wu x).mp Lv
   exact k _ HA (Zt.trans tA) (λ_=>⟨lt,rfl⟩) λz=>absurd ⟨x,y.1.1,y.1.2,y.2⟩ z
  |nil=>
   have no:¬∃x∈a1.map (·.2),x∈a2.map (·.2)/\(x∈cX L1.W R1.W (i7 a1)\/x∈cX L2.W R2.W (i7 a2)):=fun⟨x,y1,y2,y3⟩=>by
    have:=(Wu x).mpr ⟨⟨y1,y2⟩,y3⟩;cases this
   refine⟨false,.inl ⟨_,SqL.of g9,rfl⟩,?_⟩
   rfl'
   refine hx [some (.ref S.a),some (.ref s1),some (.ref s2),some v1,some v2,some (.ref l3),some (.ref lo),some (.ref lg)] _ ?_
   clear hx
   have T9:=hT.same Zt
   have U9:=hU.same Zt
   symm
   refine b5 T9.tup (b6 (j:=0) rfl) ?_
   symm
   refine b5 T9.tup (b6 (j:=1) rfl) ?_
   symm
   refine⟨_,_,_,_,q1,c1,rfl,T9.r.tup,T9.r.bl,?_⟩
   symm
   rw[if_neg (by simp)]
   symm
   refine b5 U9.tup (b6 (j:=0) rfl) ?_
   symm
   refine b5 U9.tup (b6 (j:=1) rfl) ?_
   symm
   refine⟨_,_,_,_,q2,c2,rfl,U9.r.tup,U9.r.bl,?_⟩
   symm
   rw[if_neg (by simp)]
   symm
   exact k _ H9 Zt (λz=>absurd z no) λ_=>rfl
def uu (P R:x9)(rows:List (List M6)):Prop:=rows.Pairwise (λa b=>C7 a<C7 b)/\∀F,F∈rows↔DT F/\IsO P R F
def vB {P R:x9}{ls Rz:List aO}(ndP:(b8 P).Nodup)(ndR:(b8 R).Nodup)(eP:∀x∈P.ts,x.2.2.1∈P.pts.map (·.1)/\x.2.2.2∈P.pts.map (·.1))(pm:ls.Perm Rz)(pr:Paired DI Rz (CB P R))(Uw:ls.Pairwise (λa b=>¬C7 (b.2.map (·.2))<C7 (a.2.map (·.2)))):uu P R (ls.map λx=>x.2.map (·.2)):=by
 refine⟨Nk.mpr (BZ ndP ndR eP pm pr Uw),λF=>⟨λh=>?_,fun⟨s,o⟩=>?_⟩⟩
 .obtain⟨x,hx,rfl⟩:=Ln.mp h;have z:=ma ndP ndR pm pr hx;exact⟨z.1,z.2.1⟩
 .have c1:=qX s pr;rw[lF o ndP ndR eP] at c1;have c2:0<Rz.countP λy=>decide (y.2.map (·.2)=F):=by lia
  obtain⟨x,hx,e⟩:=List.countP_pos_iff.mp c2;exact Ln.mpr ⟨x,pm.mem_iff.mpr hx,by simpa using e⟩
theorem mq:∀{a b:List (List M6)},a.Pairwise (λx y=>C7 x<C7 y)->b.Pairwise (λx y=>C7 x<C7 y)->(∀F,F∈a↔F∈b)->a=b
 |[],[],_,_,_=>rfl
 |[],y::t,_,_,h=>absurd ((h y).mpr Lv) (by simp)
 |x::r,[],_,_,h=>absurd ((h x).mp Lv) (by simp)
 |x::r,y::t,h1,h2,h=>by
  have Vk:=Na.mp h1;have Vx:=Na.mp h2;have WU:∀z:List M6,¬C7 z<C7 z:=λz=>Nz _;have e:x=y:=MT λne=>by
   have z1:C7 y<C7 x:=by
    rcases Mi.mp ((h x).mp Lv) with z|z
    .exact absurd z ne
    .exact Vx.1 x z
   have z2:C7 x<C7 y:=by
    rcases Mi.mp ((h y).mpr Lv) with z|z
    .exact absurd z.symm ne
    .exact Vk.1 y z
   exact WU _ (SQ z1 z2)
  subst e;refine Mw _ (mq Vk.2 Vx.2 λF=>⟨λz=>?_,λz=>?_⟩)
  .rcases Mi.mp ((h F).mp (Lw _ z)) with w|w
   .rw[w] at z;exact absurd (Vk.1 _ z) (WU _)
   .exact w
  .rcases Mi.mp ((h F).mpr (Lw _ z)) with w|w
   .rw[w] at z;exact absurd (Vx.1 _ z) (WU _)
   .exact w
def wd {P R:x9}{F:List M6}(s:DT F)(o:IsO P R F):uP P R F:=⟨o.nk,o.nv,s,o.wp⟩
def K5 (L R:x9)(f:Str->Str):List Str:=((b8 L).filter λn=>!decide (n∈b8 R)).map f
def gone_mem {L R:x9}{f:Str->Str}{x:Str}:x∈K5 L R f↔∃n∈b8 L,n∉b8 R/\x=f n:=by
 unfold K5;rw[Ln];constructor
 .rintro⟨n,hn,rfl⟩;have z:=LW.mp hn;exact⟨n,z.1,by simpa using z.2,rfl⟩
 .rintro⟨n,h1,h2,rfl⟩;exact⟨n,LW.mpr ⟨h1,by simp [h2]⟩,rfl⟩
def zT (P R:x9)(ps:List (Str×Str))(x:Str×N4):Prop:=x∈(A8 aN P).ts\/x∈(A8 (K4 ps) R).ts
def yt (P R:x9)(ps:List (Str×Str))(gs:List Str):Prop:=∀x,zT P R ps x->x.1∉gs->x.2.2.1∉gs/\x.2.2.2∉gs
def CL (L1 R1 L2 R2:x9)(ps:List (Str×Str)):Prop:=(yt L1 L2 ps (K5 L1 R1 aN)/\yt L1 L2 ps (K5 L2 R2 (K4 ps)))/\∃x∈ps,aN x.1∈K5 L1 R1 aN\/aN x.1∈K5 L2 R2 (K4 ps)
def vJ {P0 R L' R':x9}{f:Str->Str}{ns:List Str}(nd:(b8 P0).Nodup)(pn:ns.Perm (b8 P0))(wl:WPm L' P0)(wr:WPm R' R){x:Str}:x∈cX L' R' (i7 (ns.map λn=>(n,f n)))↔x∈K5 P0 R f:=by
 have gt:∀n∈b8 P0,j8 (i7 (ns.map λn=>(n,f n))) n=f n:=λn hn=>(du (pn.nodup_iff.mpr nd) (pn.mem_iff.mpr hn)).2;rw[gone_mem];unfold cX;rw[Ln];constructor
 .rintro⟨n,hn,rfl⟩;have z:=LW.mp hn;have hP:=wl.nm.mem_iff.mp z.1;exact⟨n,hP,(λq=>by have:=z.2;rw[LN (wr.nm.mem_iff.mpr q)] at this;cases this),gt n hP⟩
 .rintro⟨n,h1,h2,rfl⟩;exact⟨n,LW.mpr ⟨wl.nm.mem_iff.mpr h1,by rw[LL λq=>h2 (wr.nm.mem_iff.mp q)];rfl⟩,gt n h1⟩
def AW {W P R:x9}{ps:List (Str×Str)}{gs Ys:List Str}(m2:∀x,x∈W.ts↔x∈(A8 aN P).ts\/x∈(A8 (K4 ps) R).ts)(g:∀x,x∈Ys↔x∈gs):yc W Ys↔yt P R ps gs:=by
 unfold yc yt;constructor
 .intro h x hx hn;have y:=h x ((m2 x).mpr hx) λq=>hn ((g _).mp q);exact⟨λq=>y.1 ((g _).mpr q),λq=>y.2 ((g _).mpr q)⟩
 .intro h x hx hn;have y:=h x ((m2 x).mp hx) λq=>hn ((g _).mpr q);exact⟨λq=>y.1 ((g _).mp q),λq=>y.2 ((g _).mp q)⟩
def ji (K:Za):Sp:=λvs H Q _=>∃(r1 r2 b1 b2 l:Addr) (L1 R1 L2 R2:Sd) (xs:List V) (ps:List (Str×Str)),vs=[.ref r1,.ref r2,.ref l]/\RuleIs K H r1 b1 L1 R1 []/\RuleIs K H r2 b2 L2 R2 []/\H l=some (.lst xs)/\xs.length<=30/\PrsAt K H xs ps/\uP L1.W L2.W ps/\RuD L1.W R1.W/\RuD L2.W R2.W/\∀b H',Same H H'->(b=true↔CL L1.W R1.W L2.W R2.W ps)->Q (.bl b) H'
abbrev nL:=λP w K mg base=>M7 P w K mg base (gY P w) 8 "is_split" ["rule","other","pairs"] [] (ji K)
def rX {f fd}(T:Txt K mg)(aR:eQ P w K mg base)(qu:vR P w K mg base)(F:Fun K "is_split" "is_split" eY f fd):u6 P w K mg base (gY P w) 8 f fd ["rule","other","pairs"] (ji K):=by
 refine F.okE sc_is_split (λvs H Q E h=>?_) (λc_ A outer s H vs Q E hr h=>?_)
 .obtain⟨r1,r2,b1,b2,l,L1,R1,L2,R2,xs,ps,rfl,_⟩:=h;rfl
 .obtain⟨r1,r2,b1,b2,l,L1,R1,L2,R2,xs,ps,rfl,h1,h2,hl,Va,pr,ov,u1,u2,k⟩:=h;have v:OV L1.W L2.W ps:=⟨ov,h1.l.nd,h2.l.nd,h1.l.ends,h2.l.ends⟩
  have hN:=sc_is_split.nd;have hu:=u4 hr;refine⟨_,QSs.r (B4 (x8 (i:=3) hN rfl (by walk_at "l") (qC aR (hr.mono (by decide)) jk (g0 (qV 0) (g0 (qV 1) (g0 (qV 2) i9)))))
   (B4 (Io T.t_GlueError (λpins Es=>(B9 (x8 (i:=4) hN rfl (by walk_at "l") (KN qu (hr.mono (by decide)) (g0 (o9 (p8 K hu) (qV 3) h9 (λ_ _=>rfl)) (g0 (o9 (p8 K hu) (qV 3) h9 (λ_ _=>rfl)) (g0 (o9 (p8 K hu) (qV 3) h9 (λ_ _=>rfl)) i9))))))) (λex=>(B9 (u7 rn))))
   (B9 (u7 (fm dv (qV 4) ua (u9 _)))))),?_⟩
  refine j9 λTZ hx=>?_;rfl';refine⟨r1,r2,.ref l,rfl,.inr ⟨b1,b2,L1,R1,L2,R2,h1,h2,.inr ⟨ps,⟨l,xs,rfl,hl,Va,pr,ov⟩,λt z pz qz d1 d2 s1 q1 f1 c1 s2 q2 f2 c2 kz Z ns r_ us C_ SI Tc K_ Td H1 m1 ft o S1 S2=>?_⟩⟩⟩;rfl';refine hx [some (.ref r1),some (.ref r2),some (.ref l),some (.ref t),none] _ ?_;clear hx;obtain⟨Zu,lenZ⟩:=o.sd v u1.kL u2.kL u1.l5 u2.l5;have zn:∀{mk:Str},(mk="c."\/mk="d.")->∀n∈b8 Z,∀m,n≠mk++m:=λhm n hn m e=>by
   rcases o.ab v hn with⟨x,_,rfl⟩|⟨x,_,rfl⟩
   .exact(Mk.out hm x m).1 e
   .exact(Mk.out hm x m).2 e
  have D1:Ir Z SI.W Tc.W (i7 (ns.map λn=>(n,aN n))) (us.map λn=>(n,("c.":Str)++n)):=yz h1.l.nd h1.r.nd h1.l.ends o.a1 (λa _ b _ e=>fc e) (λx hx=>(o.m1 x).mpr (.inl hx)) (λx hx=>(o.m2 x).mpr (.inl hx)) S1.l S1.r u1 S1.ks S1.u Jz (zn (.inl rfl));have D2:Ir Z K_.W Td.W (i7 (r_.map λn=>(n,K4 ps n))) (C_.map λn=>(n,("d.":Str)++n)):=yz h2.l.nd h2.r.nd h2.l.ends o.a2 (λa _ b _ e=>v.fb_inj e) (λx hx=>(o.m1 x).mpr (.inr hx)) (λx hx=>(o.m2 x).mpr (.inr hx)) S2.l S2.r u2 S2.ks S2.u JY (zn (.inr rfl));have g1:∀x,x∈cX SI.W Tc.W (i7 (ns.map λn=>(n,aN n)))↔x∈K5 L1.W R1.W aN:=λx=>vJ h1.l.nd o.a1 S1.l S1.r;have g2:∀x,x∈cX K_.W Td.W (i7 (r_.map λn=>(n,K4 ps n)))↔x∈K5 L2.W R2.W (K4 ps):=λx=>vJ h2.l.nd o.a2 S2.l S2.r;have i1:=AW o.m2 g1;have i2:=AW o.m2 g2;have com:(∃x∈(ns.map λn=>(n,aN n)).map (·.2),x∈(r_.map λn=>(n,K4 ps n)).map (·.2)/\(x∈cX SI.W Tc.W (i7 (ns.map λn=>(n,aN n)))\/x∈cX K_.W Td.W (i7 (r_.map λn=>(n,K4 ps n)))))↔∃x∈ps,aN x.1∈K5 L1.W R1.W aN\/aN x.1∈K5 L2.W R2.W (K4 ps):=by
   constructor
   .rintro⟨x,WH,Ut,hx3⟩;rw[LH] at WH Ut;obtain⟨n,_,rfl⟩:=Ln.mp WH;obtain⟨m,_,e⟩:=Ln.mp Ut;have hp:=v.fb_back (show aN n=K4 ps m from e.symm);exact⟨(n,m),hp,hx3.imp (g1 _).mp (g2 _).mp⟩
   .rintro⟨x,hx,hg⟩;have hm:=v.mem' (n:=x.1) (t:=x.2) hx;refine⟨aN x.1,?_,?_,hg.imp (g1 _).mpr (g2 _).mpr⟩
    .rw[LH];exact Ln.mpr ⟨x.1,o.a1.mem_iff.mpr hm.1,rfl⟩
    .rw[LH];exact Ln.mpr ⟨x.2,o.a2.mem_iff.mpr hm.2.1,v.fb_a hx⟩
  have T1:StI K H1 s1 q1 d1 f1 c1 SI Tc (i7 (ns.map λn=>(n,aN n))) (i7 (us.map λn=>(n,("c.":Str)++n))) []:=⟨SqT.of S1.st,S1.ru,o.h1,S1.f,S1.b⟩
  have T2:StI K H1 s2 q2 d2 f2 c2 K_ Td (i7 (r_.map λn=>(n,K4 ps n))) (i7 (C_.map λn=>(n,("d.":Str)++n))) []:=⟨SqT.of S2.st,S2.ru,o.h2,S2.f,S2.b⟩
  have ec:("c.":Str).cps.toList=[99,46]:=by decide+kernel
  have ed:("d.":Str).cps.toList=[100,46]:=by decide+kernel
  have VC:∀x∈(us.map λn=>(n,("c.":Str)++n)).map (·.2),x∉(C_.map λn=>(n,("d.":Str)++n)).map (·.2):=λx hx hy=>by
   rw[LH] at hx hy;obtain⟨n,_,rfl⟩:=Ln.mp hx;obtain⟨m,_,e⟩:=Ln.mp hy;exact AE (x:="c.") (y:="d.") (n:=n) (m:=m) ec ed (by decide) e.symm
  have la:(ns.map λn=>(n,aN n)).length<=60:=by
   have:=o.a1.length_eq;have:=u1.l5;rw[Ll];lia
  have Yt:(b8 SI.W).length<=5:=by rw[S1.l.nm.length_eq];exact u1.l5
  have le2:(b8 K_.W).length<=5:=by rw[S2.l.nm.length_eq];exact u2.l5
  have call:∀{Q:VK} {E:XK},(¬(yt L1.W L2.W ps (K5 L1.W R1.W aN)/\yt L1.W L2.W ps (K5 L2.W R2.W (K4 ps)))->∀H' e,Same H1 H'->H' e=none->E (.ref (cA K "Loose")) (some e) H')->(yt L1.W L2.W ps (K5 L1.W R1.W aN)/\yt L1.W L2.W ps (K5 L2.W R2.W (K4 ps))->∀v H',Same H1 H'->(v= .non↔¬∃x∈ps,aN x.1∈K5 L1.W R1.W aN\/aN x.1∈K5 L2.W R2.W (K4 ps))->(v= .non\/∃t,v= .ref t)->Q v H')->kh K [.ref z,.ref s1,.ref s2] H1 Q E:=fun{Q E} kE kQ=>by
   refine⟨⟨z,pz,qz,kz,Z⟩,SI,Tc,K_,Td,s1,q1,d1,f1,c1,s2,q2,d2,f2,c2,_,_,_,_,rfl,Zu,T1,T2,D1,D2,VC,la,Yt,le2,λlo=>?_,λlo1 YB v H' s hy hn=>?_⟩
   .exact kE λy=>lo ⟨i1.mpr y.1,i2.mpr y.2⟩
   .refine kQ ⟨i1.mp lo1,i2.mp YB⟩ v H' s ?_ ?_
    .rw[←com];constructor
     .intro e c;obtain⟨t,e'⟩:=hy c;rw[e] at e';cases e'
     .exact hn
    .by_cases c:(∃x∈(ns.map λn=>(n,aN n)).map (·.2),x∈(r_.map λn=>(n,K4 ps n)).map (·.2)/\(x∈cX SI.W Tc.W (i7 (ns.map λn=>(n,aN n)))\/x∈cX K_.W Td.W (i7 (r_.map λn=>(n,K4 ps n)))))
     .exact .inr (hy c)
     .exact .inl (hn c)
  clear T1 T2 D1 D2 g1 g2 i1 i2 com VC zn S1 S2;symm;refine FA ?_;symm;refine b5 (SqT.of ft) (b6 (j:=0) rfl) ?_;symm;refine b5 (SqT.of ft) (b6 (j:=1) rfl) ?_;symm;refine b5 (SqT.of ft) (b6 (j:=2) rfl) ?_;symm;refine call (λlo H2 e s2 he=>?_) (λlo w H2 s2 hw hw2=>?_)
  .refine⟨_,e,rfl,rfl,T.s_Loose_GlueError,?_⟩;have s3:Same H1 (upd H2 e (.ext (cx e (cA K "Loose")))):=M3 s2 (s2.free he);generalize upd H2 e (.ext (cx e (cA K "Loose")))=H3 at s3⊢;symm;exact k false H3 (m1.trans s3) ⟨(λy=>by cases y),λy=>absurd y.1 lo⟩
  .symm;rw[if_pos rfl];refine k _ H2 (m1.trans s2) ?_;rw[Nw,MR,hw,Classical.not_not];exact⟨λy=>⟨lo,y⟩,λy=>y.2⟩
open Classical in
noncomputable def bE (L1 R1 L2 R2:x9)(ps:List (Str×Str)):Bool:=decide (CL L1 R1 L2 R2 ps)
open Classical in
def rK {L1 R1 L2 R2:x9}{ps:List (Str×Str)}:bE L1 R1 L2 R2 ps=true↔CL L1 R1 L2 R2 ps:=by unfold bE;exact SU
def zC {H:Hp}{x:aO}(h:RwAt K H x):PrsAt K H (x.2.map λt=>V.ref t.1) (x.2.map (·.2)):=jn λu hu=>⟨u.1,rfl,h.2 u hu⟩
abbrev tR (ls:List aO):List V:=ls.map λx=>V.ref x.1
abbrev BB (ls:List aO):List (List M6):=ls.map λx=>x.2.map (·.2)
def ib (K:Za):Sp:=λvs H Q _=>∃(r1 r2 b1 b2:Addr) (L1 R1 L2 R2:Sd),vs=[.ref r1,.ref r2]/\RuleIs K H r1 b1 L1 R1 []/\RuleIs K H r2 b2 L2 R2 []/\RuD L1.W R1.W/\RuD L2.W R2.W/\
 ∀(l:Addr) (ls:List aO) (H':Hp),H l=none->Same H H'->H' l=some (.lst (tR ls))->(∀x∈ls,RwAt K H' x/\H x.1=none/\x.1≠l/\x.2.length<=30)->(∃rows,uu L1.W L2.W rows/\BB ls=rows.filter (bE L1.W R1.W L2.W R2.W))->ls.length<=9000->Q (.ref l) H'
def oV {p:List M6->Bool}(ls:List aO):BB (ls.filter λx=>p (x.2.map (·.2)))=(BB ls).filter p:=by
 show List.map _ _=List.filter _ (List.map _ _);rw[List.filter_map];rfl
def wo {P R:x9}{ls Rz:List aO}(pm:ls.Perm Rz)(pr:Paired DI Rz (CB P R))(h1:P.pts.length<=3)(h2:P.ts.length<=3)(h3:R.pts.length<=3)(h4:R.ts.length<=3):ls.length<=9000:=by
 have e1:=pm.length_eq;have e2:=pr.length;have k1:(C4 (PP P R)).length<=64:=gh (by unfold PP;rw[Ll];exact h1) (zS h3);have k2:=jO (l:=C4 (PP P R)) (f:=λa=>(C4 (TP P R a)).map λb=>a++b) (m:=64) λa _=>by
  rw[Ll];exact gh (by unfold TP;rw[Ll];exact h2) (yB h4)
 have k3:(CB P R).length<=(C4 (PP P R)).length*64:=k2;have k4:(C4 (PP P R)).length*64<=64*64:=Nat.mul_le_mul_right 64 k1;lia
abbrev sj:=λP w K mg base=>M7 P w K mg base (gY P w) 9 "splits" ["rule","other"] [] (ib K)
def xx {f fd}(T:Txt K mg)(K3:aI P w K mg base)(fk:nL P w K mg base)(O5:fu P w K mg base)(F:Fun K "splits" "splits" nH f fd):u6 P w K mg base (gY P w) 9 f fd ["rule","other"] (ib K):=by
 refine F.okE sc_splits (λvs H Q E h=>?_) (λc_ A outer s H vs Q E hr h=>?_)
 .obtain⟨r1,r2,b1,b2,L1,R1,L2,R2,rfl,_⟩:=h;rfl
 .obtain⟨r1,r2,b1,b2,L1,R1,L2,R2,rfl,h1,h2,u1,u2,k⟩:=h;walk_at "@sc_splits 2NP'0K3 -4u70018jpairs;01;e3'0O5 a1011c0pairs,rule,other;MTP'0fk '0yT h01720000"
  refine j9 λTZ hx=>?_;rfl';refine⟨b9 (by simp),λl1 n1=>?_⟩;obtain⟨H1,e1,f1,m1,_⟩:=b7 (o:= .lst [.ref r1,.ref r2]) n1;rw[e1];rfl';refine⟨l1,r1,r2,[],[],rfl,SqL.of f1,(h1.same m1).barL,(h2.same m1).barL,.inr ⟨rfl,rfl,λH2 s2=>?_⟩⟩;rfl';refine hx [some (.ref r1),some (.ref r2)] _ ?_;clear hx;have m2:=m1.trans s2;have A2:=h1.same m2;have B2:=h2.same m2;rfl';refine b5 A2.tup (b6 (j:=0) rfl) ?_;rfl';refine b5 B2.tup (b6 (j:=0) rfl) ?_;rfl';refine⟨_,_,_,_,_,_,_,_,L1.W,L2.W,rfl,A2.l,B2.l,u1.p3,u1.t3,u2.p3,u2.t3,λlo ls Rz H3 nlo m3 f3 hrw Uw pm pr=>?_⟩;have E_:=m2.trans m3;have l9:=wo pm pr u1.p3 u1.t3 u2.p3 u2.t3;refine j7 (SqL.of f3) ?_;refine k8 (n:=ls.length) (λi out H'=>Same H3 H'/\out=tR ((ls.take i).filter λx=>bE L1.W R1.W L2.W R2.W (x.2.map (·.2)))) ⟨Same.refl _,rfl⟩ (λi out H' hi hp=>⟨_,.ref (ls[i]).1,SqL.of (hp.1 _ _ f3),by rw[Lo,Lm hi];rfl⟩) ?_ ?_
  .rintro N i v out YX H4 hi ⟨s4,rfl⟩ y hN';obtain⟨rfl,hy⟩:=Itl.get y (SqL.of (s4 _ _ f3));have ex:ls[i]?=some ls[i]:=Lm hi;rw[Lo,ex] at hy;cases hy;have e7:ls.take (i+1)=ls.take i++[ls[i]]:=by rw[Me,ex];rfl
   have hm:=LM hi;have n_:=LD (λx:aO=>bE L1.W R1.W L2.W R2.W (x.2.map (·.2))) (ls.take i);rw[Lz] at n_;generalize ls[i]=x at hm e7 ex;have rx:=(hrw x hm).1.same s4;have VE:=ma h1.l.nd h2.l.nd pm pr hm;have Wv:=E_.trans s4;have UX:x.2.length<=30:=by
    have:=VE.2.2;have:=u1.p3;have:=u1.t3;lia
   rfl';refine⟨rfl,?_⟩;rfl';refine⟨r1,r2,b1,b2,x.1,L1,R1,L2,R2,_,_,rfl,h1.same Wv,h2.same Wv,rx.1,by rw[Ll];exact UX,zC rx,wd VE.1 VE.2.1,u1,u2,λb H5 m5 hb=>?_⟩;have eb:b=bE L1.W R1.W L2.W R2.W (x.2.map (·.2)):=by rw[LQ,hb,rK]
   rfl';refine iL (λht=>?_) (λhf=>?_)
   .rfl';refine⟨ql (by rw[Ll];lia),hN' _ _ ⟨s4.trans m5,?_⟩⟩;rw[e7,Mm,Mq (by rw[←eb];exact ht),MN];show _=List.map _ _;rw[Lr];rfl
   .refine hN' _ _ ⟨s4.trans m5,?_⟩;rw[e7,Mm,Mr (by rw[←eb,hf];decide),MN,MD]
  .rintro out H4 ⟨s4,rfl⟩;rw[Lu (Lp _)];have n_:=LD (λx:aO=>bE L1.W R1.W L2.W R2.W (x.2.map (·.2))) ls;refine⟨⟨_,SqL.of (s4 _ _ f3),by rw[Ll];exact Lp _⟩,λD hD=>⟨ql (by rw[Ll];lia),?_⟩⟩;obtain⟨H5,e5,f5,m5,_⟩:=b7 (H:=H4) (o:= .lst (tR (ls.filter λx=>bE L1.W R1.W L2.W R2.W (x.2.map (·.2))))) hD;change Q (.ref D) (upd H4 D (.lst (tR (ls.filter λx=>bE L1.W R1.W L2.W R2.W (x.2.map (·.2))))));rw[e5];have WR:=s4.trans m5;refine k D _ H5 (E_.free (s4.free hD)) (E_.trans WR) f5 (λx hx=>?_) ⟨BB ls,vB h1.l.nd h2.l.nd h1.l.ends pm pr Uw,oV ls⟩ (by lia);have hm:=(LW.mp hx).1;obtain⟨y1,y2,y3⟩:=hrw x hm;have VE:=ma h1.l.nd h2.l.nd pm pr hm;have:=u1.p3;have:=u1.t3;exact⟨y1.same WR,m2.free y3,d6 ((y1.same s4).1) hD,by lia⟩
def cT (K:Za):Sp:=λvs H Q _=>∃(r bl:Addr) (L R:Sd),vs=[.ref r]/\RuleIs K H r bl L R []/\∀(r' Vf:Addr) (L' R':Sd) (H':Hp),Same H H'->RuleIs K H' r' Vf L' R' []->L'.W=L.W->R'.W=R.W->Q (.ref r') H'
abbrev et:=λP w K mg base=>M7 P w K mg base B6 1 "_law_copied" ["_law_rule_here"] [] (cT K)
def mf {f fd}(T:Txt K mg)(F:Fun K "_law_copied" "_law_copied" aH f fd):u6 P w K mg base B6 1 f fd ["_law_rule_here"] (cT K):=by
 walk_at "#sc__law_copied"
 .obtain⟨r,bl,L,R,rfl,_⟩:=h;rfl
 .obtain⟨r,bl,L,R,rfl,hR,k⟩:=h;have cp:∀{H1 H2:Hp} {S:Sd} {a p q:Addr},SdIs K H1 S->Same H1 H2->SqT K H2 a [.ref p,.ref q]->H2 p=some (.dK (i7 S.W.pts))->H2 q=some (.dK S.kvs)->p≠q->SdIs K H2 ⟨a,p,q,S.kvs,S.W⟩:=λh s t hp hq ne=>⟨⟨t,.inl hp,.inl hq,h.at_.ts.mono s.le⟩,hp,hq,ne,h.nd,h.len,h.ends,h.nl,h.qm⟩
  walk_at "@sc__law_copied 8dhdav4C106v4C106adav4C106v4C106u+";symm;refine b5 hR.tup (b6 (j:=0) rfl) ?_;symm;refine b5 hR.l.at_.tup (b6 (j:=0) rfl) ?_;symm;refine U1 hR.l.at_.pts (λp1 n1=>?_);obtain⟨H1,e1,f1,m1,_⟩:=b7 (o:= .dK _) n1;rw[e1];have R1:=hR.same m1;symm;refine b5 R1.tup (b6 (j:=0) rfl) ?_;symm;refine b5 R1.l.at_.tup (b6 (j:=1) rfl) ?_;symm;refine U1 R1.l.at_.ties (λq1 n2=>?_);obtain⟨H2,e2,f2,m2,_⟩:=b7 (o:= .dK _) n2;rw[e2];symm;refine⟨b9 (by simp),λa1 n3=>?_⟩;obtain⟨H3,e3,f3,m3,_⟩:=b7 (o:= .tup _) n3;rw[e3];have E_:=m1.trans (m2.trans m3);have C1:=cp (a:=a1) (p:=p1) (q:=q1) hR.l E_ (SqT.of f3) (m3 _ _ (m2 _ _ f1)) (m3 _ _ f2) (d6 f1 n2);have R3:=hR.same E_;symm;refine b5 R3.tup (b6 (j:=1) rfl) ?_;symm;refine b5 R3.r.at_.tup (b6 (j:=0) rfl) ?_;symm;refine U1 R3.r.at_.pts (λp2 n4=>?_);obtain⟨H4,e4,f4,m4,_⟩:=b7 (o:= .dK _) n4;rw[e4];have R4:=R3.same m4;symm;refine b5 R4.tup (b6 (j:=1) rfl) ?_;symm;refine b5 R4.r.at_.tup (b6 (j:=1) rfl) ?_;symm;refine U1 R4.r.at_.ties (λq2 n5=>?_);obtain⟨H5,e5,f5,m5,_⟩:=b7 (o:= .dK _) n5;rw[e5];symm;refine⟨b9 (by simp),λa2 n6=>?_⟩;obtain⟨H6,e6,f6,m6,_⟩:=b7 (o:= .tup _) n6;rw[e6];have Ww:=m4.trans (m5.trans m6);have C2:=cp (a:=a2) (p:=p2) (q:=q2) R3.r Ww (SqT.of f6) (m6 _ _ (m5 _ _ f4)) (m6 _ _ f5) (d6 f4 n5);symm;refine⟨b9 (by simp),λbl n7=>?_⟩;obtain⟨H7,e7,f7,m7,_⟩:=b7 (o:= .lst []) n7;rw[e7];symm;refine⟨b9 (by simp),λr' n8=>?_⟩;obtain⟨H8,e8,f8,m8,_⟩:=b7 (o:= .tup _) n8;rw[e8];have Wn:=m7.trans m8;exact k r' bl ⟨a1,p1,q1,L.kvs,L.W⟩ ⟨a2,p2,q2,R.kvs,R.W⟩ H8 (E_.trans (Ww.trans Wn)) ⟨SqT.of f8,C1.same (Ww.trans Wn),C2.same Wn,SqL.of (m8 _ _ f7),λ_ h=>nomatch h⟩ rfl rfl
def bJ (K:Za):Sp:=λvs H Q _=>∃(r bl:Addr) (L R:Sd),vs=[.ref r]/\RuleIs K H r bl L R []/\∀(l:Addr) (us:List Str) (H':Hp),H l=none->Same H H'->H' l=some (.lst (us.map V.str))->us.length<=13->(∀n,n∈us↔n∈b8 L.W/\n∉b8 R.W)->Q (.ref l) H'
abbrev dg:=λP w K mg base=>M7 P w K mg base B6 2 "_law_gone" ["_law_rule_here"] [] (bJ K)
def pW {f fd}(T:Txt K mg)(O0:fv P w K mg base)(F:Fun K "_law_gone" "_law_gone" dE f fd):u6 P w K mg base B6 2 f fd ["_law_rule_here"] (bJ K):=by
 walk_at "#sc__law_gone"
 .obtain⟨r,bl,L,R,rfl,_⟩:=h;rfl
 .obtain⟨r,bl,L,R,rfl,hR,k⟩:=h;have hWl:=hR.l.len;walk_at "@sc__law_gone 8j_law_name;0;e3'0O0 410c0_law_name,_law_rule_here;MySb*00C116q:b*00C116q00";symm;refine b5 hR.tup (b6 (j:=0) rfl) ?_;symm;refine⟨_,_,_,_,L.W,rfl,hR.l.at_,by lia,λl1 H1 s1 s2 n1 m1 f1 or=>?_⟩;have hlen:=or.len;have m_:∀n,n∈s1++s2↔n∈b8 L.W:=λn=>or.mem;generalize s1++s2=s at f1 hlen m_;refine j7 (SqL.of f1) ?_;refine k8 (n:=s.length) (λi out H'=>Same H1 H'/\out=((s.take i).filter λn=>!decide (n∈b8 R.W)).map V.str) ⟨Same.refl _,rfl⟩ (λi out H' hi hp=>⟨_,.str (s[i]),SqL.of (hp.1 _ _ f1),by rw[Lo,Lm hi];rfl⟩) ?_ ?_
  .rintro N i v out U' H3 hi ⟨s3,rfl⟩ y hN';obtain⟨rfl,hx⟩:=Itl.get y (SqL.of (s3 _ _ f1));have ex:s[i]?=some s[i]:=Lm hi;rw[Lo,ex] at hx;cases hx;have e7:s.take (i+1)=s.take i++[s[i]]:=by rw[Me,ex];rfl
   have n_:=LD (λn=>!decide (n∈b8 R.W)) (s.take i);rw[Lz] at n_;generalize s[i]=n at ex e7;have R3:=hR.same (m1.trans s3);have no:n∈b8 R.W->N (((s.take i).filter λn=>!decide (n∈b8 R.W)).map V.str) H3:=λhb=>hN' _ _ ⟨s3,by rw[e7,Mm,Mr (p:=λn=>!decide (n∈b8 R.W)) (by simp [hb]),MN,MD]⟩;symm;refine⟨rfl,?_⟩;symm;refine b5 R3.tup (b6 (j:=1) rfl) ?_;symm;refine b5 R3.r.at_.tup (b6 (j:=0) rfl) ?_;refine aA (N0 (k:=Sum.inr n) R3.r.at_.pts) ?_;rw[O4];symm;refine S9 (λb1=>?_) (λb1=>?_)
   .symm;refine b5 R3.tup (b6 (j:=1) rfl) ?_;symm;refine b5 R3.r.at_.tup (b6 (j:=1) rfl) ?_;refine aA (N0 (k:=Sum.inr n) R3.r.at_.ties) ?_;rw[U7 R3.r.at_.ts];symm;refine S9 (λb2=>?_) (λb2=>?_)
    .symm;have Ta:n∉b8 R.W:=λz=>(LC.mp z).elim b1 b2;refine⟨b9 (by rw[Ll];lia),hN' _ _ ⟨s3,?_⟩⟩;rw[e7,Mm,Mq (p:=λn=>!decide (n∈b8 R.W)) (by simp [Ta]),MN,Lr];rfl
    .exact no (LG _ b2)
   .exact no (Ls _ b1)
  .rintro out H3 ⟨s3,rfl⟩;rw[Lu (Lp _)];have n_:=LD (λn=>!decide (n∈b8 R.W)) s;refine⟨⟨_,SqL.of (s3 _ _ f1),by rw[Ll];exact Lp _⟩,λD hD=>⟨b9 (by rw[Ll];lia),?_⟩⟩;obtain⟨H4,e4,f4,m4,_⟩:=b7 (H:=H3) (o:= .lst ((s.filter λn=>!decide (n∈b8 R.W)).map V.str)) hD;change Q (.ref D) (upd H3 D (.lst ((s.filter λn=>!decide (n∈b8 R.W)).map V.str)));rw[e4];exact k D _ H4 ((m1.trans s3).free hD) (m1.trans (s3.trans m4)) f4 (by lia) λn=>by rw[LW,m_];simp
def GK (Zts:List (Str×N4))(L R:x9)(f:Str->Str):Prop:=∃n∈b8 L,n∉b8 R/\∃x∈Zts,(f n=x.2.2.1\/f n=x.2.2.2)/\x.1∉(L.ts.map (·.1)).map f
def eV (K:Za):Sp:=λvs H Q _=>∃(z p q d r bl:Addr) (kz:List (i6×V)) (Z:x9) (L R:Sd) (ns:List Str) (f:Str->Str),vs=[.ref z,.ref r,.ref d]/\WebAt K H z p q kz Z/\H q=some (.dK kz)/\Z.ts.length<=26/\RuleIs K H r bl L R []/\H d=some (.dK (i7 (ns.map λn=>(n,f n))))/\ns.Perm (b8 L.W)/\∀b H',Same H H'->(b=true↔GK Z.ts L.W R.W f)->Q (.bl b) H'
abbrev fV:=λP w K mg base=>M7 P w K mg base B6 3 "_law_hangs" ["_law_web","_law_rule_here","_law_match"] [] (eV K)
def nQ {f fd}(T:Txt K mg)(K7:dg P w K mg base)(F:Fun K "_law_hangs" "_law_hangs" bM f fd):u6 P w K mg base B6 3 f fd ["_law_web","_law_rule_here","_law_match"] (eV K):=by
 walk_at "#sc__law_hangs"
 .obtain⟨z,p,q,d,r,bl,kz,Z,L,R,ns,f,rfl,_⟩:=h;rfl
 .obtain⟨z,p,q,d,r,bl,kz,Z,L,R,ns,f,rfl,hZ,hq,hzl,hR,hd,pn,k⟩:=h;have Wk:=hR.l.len;rw[E4] at Wk;have UZ:=hR.l.at_.ts.length;have hzk:=hZ.ts.length;have gt:∀n∈b8 L.W,TxtAt (i7 (ns.map λn=>(n,f n))) n/\j8 (i7 (ns.map λn=>(n,f n))) n=f n:=λn hn=>du (pn.nodup_iff.mpr hR.l.nd) (pn.mem_iff.mpr hn);walk_at "@sc__law_hangs 2~d3A_law_name;2;AeC116Rc0_law_name,_law_match;RnRf1002re3'0K7 91k4mre10k5miySbDf204~4C1005['0Kk q:b*0503qzz"
  refine j9 λTZ hx=>?_;rfl';refine b5 hR.tup (b6 (j:=0) rfl) ?_;rfl';refine b5 hR.l.at_.tup (b6 (j:=1) rfl) ?_;refine gi hR.l.hq (λYT o1=>?_);refine k8 (n:=L.kvs.length) (λi out H'=>Same (E7 L.q o1 L.kvs H) H'/\out=((L.W.ts.take i).map λx=>f x.1).map V.str) ⟨Same.refl _,rfl⟩ (λi out H' hi hp=>⟨hp.1 _ _ d8,hi⟩) ?_ ?_
  .rintro N i v out H1' H1 hi ⟨s1,rfl⟩ ⟨rfl,kv,f_,rfl⟩ hN';have Yt:=(L0 (o:=o1) hR.l.hq).trans s1.le;obtain⟨x,hx,ex,bb,eb,sb⟩:=(hR.l.at_.ts.mono Yt).get f_;have VB:x.1∈b8 L.W:=LG _ (Ln.mpr ⟨x,LF hx,rfl⟩);have XW:kV kv.1= .str x.1:=by rw[ex];rfl
   show R9 _ (kV kv.1) _ _ _;rw[XW];rfl';refine⟨rfl,?_⟩;rfl';refine rO (s1.rd (qI hR.l.hq hd)) (gt _ VB).1 ?_;rw[(gt _ VB).2];refine⟨b9 (by rw[Ll,Ll,Lz];lia),hN' _ _ ⟨s1,?_⟩⟩;rw[E6 hx,Lr,Lr];rfl
  rintro out H1 ⟨s1,rfl⟩;rw[UZ,Lu (Lp _)];refine⟨⟨s1 _ _ d8,by rw[←UZ];exact Lp _⟩,λlu nlu=>⟨b9 (by rw[Ll,Ll];lia),?_⟩⟩;have s2:=J6 hR.l.hq s1 nlu (u:= .lst ((L.W.ts.map λx=>f x.1).map V.str));have f2:=X0 s1 nlu (u:= .lst ((L.W.ts.map λx=>f x.1).map V.str));change R9 _ _ _ (thaw L.q (upd H1 lu (.lst ((L.W.ts.map λx=>f x.1).map V.str)))) _;generalize thaw L.q (upd H1 lu (.lst ((L.W.ts.map λx=>f x.1).map V.str)))=H2 at s2 f2;rfl';refine hx [some (.ref z),some (.ref r),some (.ref d),some (.ref lu),none,none] _ ?_;clear hx;have eu:(L.W.ts.map λx=>f x.1)=(L.W.ts.map (·.1)).map f:=by rw[LH];rfl
  rw[eu] at f2;refine j9 λVs hx=>?_;rfl';refine⟨r,bl,L,R,rfl,hR.same s2,λlg us H3 nlg s3 f3 hul Sw=>?_⟩;have s03:=s2.trans s3;have Zv:=s3 _ _ f2;refine j7 (SqL.of f3) ?_;refine F5 (n:=us.length) (λi σ H'=>(∃v4 v5,σ=[some (.ref z),some (.ref r),some (.ref d),some (.ref lu),v4,v5])/\Same H3 H'/\∀n∈us.take i,∀x∈Z.ts,(f n=x.2.2.1\/f n=x.2.2.2)->x.1∈(L.W.ts.map (·.1)).map f) ⟨⟨_,_,rfl⟩,Same.refl _,λn hn=>by simp at hn⟩ (λi σ H' hi hp=>⟨_,.str (us[i]),SqL.of (hp.2.1 _ _ f3),by rw[Lo,Lm hi];rfl⟩) ?_ ?_
  .clear hx;rintro bk i v σ YX H4 hi ⟨⟨v4,v5,rfl⟩,s4,Zw⟩ y _ _;obtain⟨rfl,hy⟩:=Itl.get y (SqL.of (s4 _ _ f3));have ex:us[i]?=some us[i]:=Lm hi;rw[Lo,ex] at hy;cases hy;have e7:us.take (i+1)=us.take i++[us[i]]:=by rw[Me,ex];rfl
   have hn:=(Sw _).mp (LM hi);generalize us[i]=n at ex e7 hn;have Wv:=s03.trans s4;have Z4:=hZ.mono Wv.le;have q4:=Wv _ _ hq;have d4:=Wv _ _ hd;rfl';refine b5 Z4.tup (b6 (j:=1) rfl) ?_;refine gi q4 (λndz o5=>?_);refine F5 (n:=kz.length) (λj σ H'=>(∃v5,σ=[some (.ref z),some (.ref r),some (.ref d),some (.ref lu),some (.str n),v5])/\Same (E7 q o5 kz H4) H'/\∀x∈Z.ts.take j,(f n=x.2.2.1\/f n=x.2.2.2)->x.1∈(L.W.ts.map (·.1)).map f) ⟨⟨_,rfl⟩,Same.refl _,λx hx=>by simp at hx⟩ (λj σ H' hj hp=>⟨hp.2.1 _ _ d8,hj⟩) ?_ ?_
   .rintro YO j v σ H5' H5 hj ⟨⟨v5,rfl⟩,s5,no5⟩ ⟨rfl,kv,f_,rfl⟩ _ _;have le5:=(L0 (o:=o5) q4).trans s5.le;have Z5:=Z4.mono le5;obtain⟨x,hx,ex5,bb,eb,sb⟩:=Z5.ts.get f_;have hkm:=LF f_;obtain⟨kk,Ur⟩:=kv;have Ux:kk=Sum.inr x.1:=ex5;have Ve:Ur= .ref bb:=eb;subst Ux Ve;have D_:=LF hx;obtain⟨x0,x1,x2,x3⟩:=x;have e9:=E6 hx;have d5:=s5.rd (qI q4 d4);have u5:H5 lu=some (.lst (((L.W.ts.map (·.1)).map f).map V.str)):=s5 _ _ (by rw[P6 (λy=>by have w:=s4 _ _ Zv;rw[y,q4] at w;cases w)];exact s4 _ _ Zv);rfl';refine rO d5 (gt _ hn.1).1 ?_;rw[(gt _ hn.1).2];rfl';refine b5 Z5.tup (b6 (j:=1) rfl) ?_;rfl';refine F2 (v:= .ref bb) (by have w:=N0 (k:=Sum.inr x0) Z5.ties;rw[dP (kv:=(Sum.inr x0,.ref bb)) ndz hkm] at w;exact w) ?_;rfl';refine zv sb (by rintro⟨w,_⟩;exact absurd (show(1:Nat)=0 from w) (by decide)) (λl6 n6=>?_);obtain⟨H6,e6,f6,m6,_⟩:=b7 (o:= .tup [.str x2,.str x3]) n6;rw[show fq (Y7 (x1,x2,x3)) (some 1) none=[V.str x2,.str x3] from rfl,e6];refine rM (.inr (SqT.of f6)) rfl rfl ?_;have j_:Gy (.str (f n)) [V.str x2,.str x3]=decide (f n∈[x2,x3]):=gL (gs:=[x2,x3]);rw[j_];have nxt:((f n=x2\/f n=x3)->x0∈(L.W.ts.map (·.1)).map f)->(∃w5,[some (V.ref z),some (.ref r),some (.ref d),some (.ref lu),some (.str n),some (.str x0)]=[some (.ref z),some (.ref r),some (.ref d),some (.ref lu),some (.str n),w5])/\Same (E7 q o5 kz H4) H6/\∀x∈Z.ts.take (j+1),(f n=x.2.2.1\/f n=x.2.2.2)->x.1∈(L.W.ts.map (·.1)).map f:=λhc=>⟨⟨_,rfl⟩,s5.trans m6,λx hx=>by
     rw[e9] at hx;rcases LC.mp hx with w|w
     .exact no5 x w
     .rw[LV.mp w];exact hc⟩
    rfl';refine F9 (λb1=>?_) (λb1=>?_)
    .have b1:f n=x2\/f n=x3:=by simpa using b1
     rfl';refine cc (SqL.of (m6 _ _ u5)) ?_;rfl';refine S9 (λb2=>?_) (λb2=>?_)
     .rfl';have s6:Same H4 (thaw q H6):=(s5.trans m6).thaw q4;exact k true _ (Wv.trans s6) ⟨λ_=>⟨n,hn.1,hn.2,(x0,x1,x2,x3),D_,b1,b2⟩,λ_=>rfl⟩
     .rfl';exact nxt λ_=>b2
    .have b1:¬(f n=x2\/f n=x3):=by simpa using b1
     rfl';exact nxt λw=>absurd w b1
   .rintro σ H5 ⟨⟨v5,rfl⟩,s5,no5⟩;rw[hzk,Lu (Lp _)] at no5;refine⟨⟨s5 _ _ d8,Lp _⟩,?_⟩;walk_at "X";refine⟨⟨_,_,rfl⟩,s4.trans (s5.thaw q4),λm hm=>?_⟩;rw[e7] at hm;rcases LC.mp hm with w|w
    .exact Zw m w
    .rw[LV.mp w];exact no5
  rintro σ H4 ⟨⟨v4,v5,rfl⟩,s4,Zw⟩;rw[Lu (Lp _)] at Zw;refine⟨⟨_,SqL.of (s4 _ _ f3),by rw[Ll];exact Lp _⟩,?_⟩;refine hx [some (.ref z),some (.ref r),some (.ref d),some (.ref lu),v4,v5] H4 ?_;rfl';refine k false H4 (s03.trans s4) ⟨(λw=>by cases w),fun⟨n,h1,h2,x,hx,h3,h4⟩=>?_⟩;exact absurd (Zw n ((Sw n).mpr ⟨h1,h2⟩) x hx h3) h4
def Aq {Z L R P Q:x9}{ps:List (Str×Str)}{f:Str->Str}(ndZ:(b8 Z).Nodup)(m2:∀x,x∈Z.ts↔x∈(A8 aN P).ts\/x∈(A8 (K4 ps) Q).ts)(zp:∀x∈(A8 f L).pts,x∈Z.pts)(zt:∀x∈(A8 f L).ts,x∈Z.ts)(inj:∀a∈b8 L,∀b∈b8 L,f a=f b->a=b)(ag:∀n∈b8 L,n∈b8 R->Co n L R)
  (eL:∀x∈L.ts,x.2.2.1∈L.pts.map (·.1)/\x.2.2.2∈L.pts.map (·.1)) (eR:∀x∈R.ts,x.2.2.1∈R.pts.map (·.1)/\x.2.2.2∈R.pts.map (·.1)):GK Z.ts L R f↔¬yt P Q ps (K5 L R f):=by
 constructor
 .rintro⟨n,h1,h2,x,hx,he,hu⟩ lo
  have hg:f n∈K5 L R f:=gone_mem.mpr ⟨n,h1,h2,rfl⟩
  have Ta:x.1∉K5 L R f:=λy=>by
   obtain⟨m,hm,_,e⟩:=gone_mem.mp y;rcases mem_nms.mp hm with⟨k,h⟩|⟨t,h⟩
   .have zz:=zp _ (ren_pt.mpr ⟨m,k,h,rfl⟩);exact Y5 (n:=x.1) (k:=k) (t:=x.2) ndZ (by rw[e];exact zz) hx
   .exact hu (Ln.mpr ⟨m,Ln.mpr ⟨(m,t),h,rfl⟩,e.symm⟩)
  have z:=lo x ((m2 x).mp hx) Ta
  rcases he with e|e
  .exact z.1 (e▸hg)
  .exact z.2 (e▸hg)
 .intro lo
  refine MT λnh=>lo λx hx hn=>?_
  have hxZ:=(m2 x).mpr hx
  have key:∀n∈b8 L,n∉b8 R->(f n=x.2.2.1\/f n=x.2.2.2)->False:=λn h1 h2 he=>by
   refine nh ⟨n,h1,h2,x,hxZ,he,λhu=>?_⟩;obtain⟨m,hm,e⟩:=Ln.mp hu;obtain⟨⟨m',t⟩,ht,em⟩:=Ln.mp hm;have em:m'=m:=em;subst em;have hmL:m'∈b8 L:=LG _ hm;have hmR:m'∈b8 R:=MT λq=>hn (gone_mem.mpr ⟨m',hmL,q,e.symm⟩);have Yc:=((ag m' hmL hmR).t t).mp ht;have zz:=zt _ (ren_ts.mpr ⟨m',t,ht,rfl⟩);have ex:x.2=(t.1,f t.2.1,f t.2.2):=j6 (N7 ndZ) (n:=x.1) hxZ (by rw[←e];exact zz);have el:=eL _ ht;have er:=eR _ Yc;rcases he with he|he
   .rw[ex] at he;have:=inj n h1 _ (Ls _ el.1) he;exact h2 (this▸Ls _ er.1)
   .rw[ex] at he;have:=inj n h1 _ (Ls _ el.2) he;exact h2 (this▸Ls _ er.2)
  refine⟨λy=>?_,λy=>?_⟩
  .obtain⟨n,h1,h2,e⟩:=gone_mem.mp y
   exact key n h1 h2 (.inl e.symm)
  .obtain⟨n,h1,h2,e⟩:=gone_mem.mp y
   exact key n h1 h2 (.inr e.symm)
def br (K:Za):Sp:=λvs H Q _=>∃(r1 r2 b1 b2 l:Addr) (L1 R1 L2 R2:Sd) (xs:List V) (ps:List (Str×Str)),vs=[.ref r1,.ref r2,.ref l]/\RuleIs K H r1 b1 L1 R1 []/\RuleIs K H r2 b2 L2 R2 []/\H l=some (.lst xs)/\xs.length<=30/\PrsAt K H xs ps/\uP L1.W L2.W ps/\RuD L1.W R1.W/\RuD L2.W R2.W/\∀b H',Same H H'->(b=true↔CL L1.W R1.W L2.W R2.W ps)->Q (.bl b) H'
abbrev ck:=λP w K mg base=>M7 P w K mg base B6 4 "_law_is_split" ["_law_rule_here","_law_other","_law_pairs"] [] (br K)
def iN {f fd}(T:Txt K mg)(de:je P w K mg base)(Y0:fV P w K mg base)(K7:dg P w K mg base)(F:Fun K "_law_is_split" "_law_is_split" W8 f fd):u6 P w K mg base B6 4 f fd ["_law_rule_here","_law_other","_law_pairs"] (br K):=by
 walk_at "#sc__law_is_split"
 .obtain⟨r1,r2,b1,b2,l,L1,R1,L2,R2,xs,ps,rfl,_⟩:=h;rfl
 .obtain⟨r1,r2,b1,b2,l,L1,R1,L2,R2,xs,ps,rfl,h1,h2,hl,Va,pr,ov,u1,u2,k⟩:=h;have v:OV L1.W L2.W ps:=⟨ov,h1.l.nd,h2.l.nd,h1.l.ends,h2.l.ends⟩
  have z_:=Mc pr;walk_at "@sc__law_is_split 2'2iG 3'0de h10a1102wk3k4'2cz k5x2iyKT3'0Y0 h037004T3'0Y0 h037105z256sj_law_name;4;e3'0K7 90c0_law_name,_law_match;nf100j_law_name;5;e3'0K7 91c0_law_name,_law_other_match;nf1002re02wk7k8xmibDf40706qzz"
  refine j9 λTZ hx=>?_;rfl';refine b5 h1.tup (b6 (j:=0) rfl) ?_;rfl';refine b5 h2.tup (b6 (j:=0) rfl) ?_;rfl';refine⟨_,_,_,_,_,_,l,_,_,L1.W,L2.W,ps,xs,rfl,h1.l,h2.l,v,hl,pr,by lia,λt z pz qz d1 d2 kz Z ns r_ H1 m1 ft o _ _ _ _=>?_⟩;refine K9 (SqT.of ft) rfl ?_;rfl';refine hx [some (.ref r1),some (.ref r2),some (.ref l),some (.ref z),some (.ref d1),some (.ref d2),none,none,none] _ ?_;clear hx ft;obtain⟨Zu,lenZ⟩:=o.sd v u1.kL u2.kL u1.l5 u2.l5;have YC:Z.ts.length<=26:=o.l2;have i1:=Aq (R:=R1.W) Zu.nd o.m2 (λx hx=>(o.m1 x).mpr (.inl hx)) (λx hx=>(o.m2 x).mpr (.inl hx)) (λa _ b _ e=>fc e) u1.ag h1.l.ends h1.r.ends;have i2:=Aq (R:=R2.W) Zu.nd o.m2 (λx hx=>(o.m1 x).mpr (.inr hx)) (λx hx=>(o.m2 x).mpr (.inr hx)) (λa _ b _ e=>v.fb_inj e) u2.ag h2.l.ends h2.r.ends;refine j9 λVs hx=>?_;rfl';refine⟨z,pz,qz,d1,r1,b1,kz,Z,L1,R1,ns,aN,rfl,o.at_,o.hq,YC,h1.same m1,o.h1,o.a1,λb H2 m2 hb=>?_⟩;have J_:=m1.trans m2;have O2:=o.same m2;rfl';refine iL (λht=>?_) (λhf=>?_)
  .rfl';exact k false H2 J_ ⟨(λy=>by cases y),λy=>absurd y.1.1 (i1.mp (hb.mp ht))⟩
  have lo1:yt L1.W L2.W ps (K5 L1.W R1.W aN):=MT λq=>by rw[hb.mpr (i1.mpr q)] at hf;cases hf
  rfl';refine⟨z,pz,qz,d2,r2,b2,kz,Z,L2,R2,r_,K4 ps,rfl,O2.at_,O2.hq,YC,h2.same J_,O2.h2,o.a2,λb' H3 m3 F'=>?_⟩;have E_:=J_.trans m3;have O3:=O2.same m3;rfl';refine iL (λht=>?_) (λhf'=>?_)
  .rfl';exact k false H3 E_ ⟨(λy=>by cases y),λy=>absurd y.1.2 (i2.mp (F'.mp ht))⟩
  have YB:yt L1.W L2.W ps (K5 L2.W R2.W (K4 ps)):=MT λq=>by rw[F'.mpr (i2.mpr q)] at hf';cases hf'
  rfl';refine hx [some (.ref r1),some (.ref r2),some (.ref l),some (.ref z),some (.ref d1),some (.ref d2),none,none,none] _ ?_;clear hx;have YD:∀{Lq:Sd} {Rq:x9} {f:Str->Str} {us mm:List Str},(∀n,n∈us↔n∈b8 Lq.W/\n∉b8 Rq)->mm.Perm (b8 Lq.W)->(b8 Lq.W).Nodup->∀n∈us,TxtAt (i7 (mm.map λn=>(n,f n))) n/\j8 (i7 (mm.map λn=>(n,f n))) n=f n:=λhu pm nd n hn=>du (pm.nodup_iff.mpr nd) (pm.mem_iff.mpr ((hu n).mp hn).1);refine j9 λWQ hx=>?_;rfl';refine⟨r1,b1,L1,R1,rfl,h1.same E_,λlg us H4 _ m4 f4 hul Sw=>?_⟩;have gt1:=YD (f:=aN) (mm:=ns) Sw o.a1 h1.l.nd;have d14:=m4 _ _ O3.h1;refine j7 (SqL.of f4) ?_;refine k8 (n:=us.length) (λi out H'=>Same H4 H'/\out=((us.take i).map aN).map V.str) ⟨Same.refl _,rfl⟩ (λi out H' hi hp=>⟨_,.str (us[i]),SqL.of (hp.1 _ _ f4),by rw[Lo,Lm hi];rfl⟩) ?_ ?_
  .rintro N i w out H5' H5 hi ⟨s5,rfl⟩ y hN';obtain⟨rfl,hy⟩:=Itl.get y (SqL.of (s5 _ _ f4));have ex:us[i]?=some us[i]:=Lm hi;rw[Lo,ex] at hy;cases hy;have g:=gt1 _ (LM hi);rfl';refine⟨rfl,?_⟩;rfl';refine rO (.inl (s5 _ _ d14)) g.1 ?_;rw[g.2];refine⟨b9 (by rw[Ll,Ll,Lz];lia),hN' _ _ ⟨s5,?_⟩⟩;rw[E6 ex,Lr,Lr];rfl
  rintro out H5 ⟨s5,rfl⟩;rw[Lu (Lp _)];refine⟨⟨_,SqL.of (s5 _ _ f4),by rw[Ll];exact Lp _⟩,λla nla=>⟨b9 (by rw[Ll,Ll];lia),?_⟩⟩;obtain⟨H6,e6,f6,m6,_⟩:=b7 (H:=H5) (o:= .lst ((us.map aN).map V.str)) nla;rfl';change bJ K _ (upd H5 la (.lst ((us.map aN).map V.str))) _ _;rw[e6];have WV:=m4.trans (s5.trans m6);have Wr:=E_.trans WV;refine⟨r2,b2,L2,R2,rfl,h2.same Wr,λlg2 Ts H7 _ m7 f7 hul2 hus2=>?_⟩;have gt2:=YD (f:=K4 ps) (mm:=r_) hus2 o.a2 h2.l.nd;have d27:=(WV.trans m7) _ _ O3.h2;refine j7 (SqL.of f7) ?_;refine k8 (n:=Ts.length) (λi out H'=>Same H7 H'/\out=((Ts.take i).map (K4 ps)).map V.str) ⟨Same.refl _,rfl⟩ (λi out H' hi hp=>⟨_,.str (Ts[i]),SqL.of (hp.1 _ _ f7),by rw[Lo,Lm hi];rfl⟩) ?_ ?_
  .rintro N i w out H8' H8 hi ⟨s8,rfl⟩ y hN';obtain⟨rfl,hy⟩:=Itl.get y (SqL.of (s8 _ _ f7));have ex:Ts[i]?=some Ts[i]:=Lm hi;rw[Lo,ex] at hy;cases hy;have g:=gt2 _ (LM hi);rfl';refine⟨rfl,?_⟩;rfl';refine rO (.inl (s8 _ _ d27)) g.1 ?_;rw[g.2];refine⟨b9 (by rw[Ll,Ll,Lz];lia),hN' _ _ ⟨s8,?_⟩⟩;rw[E6 ex,Lr,Lr];rfl
  rintro out H8 ⟨s8,rfl⟩;rw[Lu (Lp _)];refine⟨⟨_,SqL.of (s8 _ _ f7),by rw[Ll];exact Lp _⟩,λlb nlb=>⟨b9 (by rw[Ll,Ll];lia),?_⟩⟩;obtain⟨H9,e9,f9,m9,_⟩:=b7 (H:=H8) (o:= .lst ((Ts.map (K4 ps)).map V.str)) nlb;change pK K _ _ (upd H8 lb (.lst ((Ts.map (K4 ps)).map V.str))) _;rw[e9];have m69:=m7.trans (s8.trans m9);refine pd (m69 _ _ f6) f9 (b9 (by rw[Ll,Ll,Ll,Ll];lia)) (λlc nlc=>?_);rw[←Lr];obtain⟨HA,eA,fA,mA,_⟩:=b7 (o:= .lst ((us.map aN++Ts.map (K4 ps)).map V.str)) nlc;rw[eA];have m6A:=m69.trans mA;have Zx:=Wr.trans m6A;have Wu:∀x,x∈us.map aN++Ts.map (K4 ps)↔x∈K5 L1.W R1.W aN\/x∈K5 L2.W R2.W (K4 ps):=λx=>by
   rw[LC,gone_mem,gone_mem,Ln,Ln];constructor
   .rintro(⟨n,hn,rfl⟩|⟨n,hn,rfl⟩)
    .exact .inl ⟨n,((Sw n).mp hn).1,((Sw n).mp hn).2,rfl⟩
    .exact .inr ⟨n,((hus2 n).mp hn).1,((hus2 n).mp hn).2,rfl⟩
   .rintro(⟨n,h1,h2,rfl⟩|⟨n,h1,h2,rfl⟩)
    .exact .inl ⟨n,(Sw n).mpr ⟨h1,h2⟩,rfl⟩
    .exact .inr ⟨n,(hus2 n).mpr ⟨h1,h2⟩,rfl⟩
  generalize us.map aN++Ts.map (K4 ps)=gl at fA Wu;rfl';refine hx [some (.ref r1),some (.ref r2),some (.ref l),some (.ref z),some (.ref d1),some (.ref d2),some (.ref lc),none,none] _ ?_;clear hx;have d1A:=(WV.trans m6A) _ _ O3.h1;have lA:=Zx _ _ hl;have prA:=pr.mono Zx.le;refine j9 λZd hx=>?_;rfl';refine j7 (SqL.of lA) ?_;refine F5 (n:=xs.length) (λi σ H'=>(∃v7 v8,σ=[some (.ref r1),some (.ref r2),some (.ref l),some (.ref z),some (.ref d1),some (.ref d2),some (.ref lc),v7,v8])/\H'=HA/\∀x∈ps.take i,aN x.1∉gl) ⟨⟨_,_,rfl⟩,rfl,λx hx=>by simp at hx⟩ (λi σ H' hi hp=>⟨xs,xs[i],by rw[hp.2.1];exact SqL.of lA,Lm hi⟩) ?_ ?_
  .clear hx;rintro bk i w σ HB' HB hi ⟨⟨v7,v8,rfl⟩,rfl,no⟩ y _ _;obtain⟨rfl,hy⟩:=Itl.get y (SqL.of lA);obtain⟨x,hx,t,rfl,ht⟩:=A9 prA hy;have D_:=LF hx;have e7:=E6 hx;have hn:=(v.mem' (n:=x.1) (t:=x.2) D_).1;have g:=du (f:=aN) (o.a1.nodup_iff.mpr h1.l.nd) (o.a1.mem_iff.mpr hn);refine K9 ht rfl ?_;rfl';refine rO (.inl d1A) g.1 ?_;rw[g.2];rfl';refine gJ (SqL.of fA) ?_;rfl';refine F9 (λc1=>?_) (λc1=>?_)
   .rfl';exact k true _ Zx ⟨λ_=>⟨⟨lo1,YB⟩,x,D_,(Wu _).mp c1⟩,λ_=>rfl⟩
   .rfl';walk_at "X";refine⟨⟨_,_,rfl⟩,rfl,λy' TH=>?_⟩;rw[e7] at TH;rcases LC.mp TH with w|w
    .exact no y' w
    .rw[LV.mp w];exact c1
  rintro σ HB ⟨⟨v7,v8,rfl⟩,hB,no⟩;have hB:=hB.symm;subst hB;rw[Lu (by lia)] at no;refine⟨⟨_,SqL.of lA,Lp _⟩,?_⟩;refine hx [some (.ref r1),some (.ref r2),some (.ref l),some (.ref z),some (.ref d1),some (.ref d2),some (.ref lc),v7,v8] HA ?_;rfl';exact k false HA Zx ⟨(λy=>by cases y),fun⟨_,x,hx,hg⟩=>absurd ((Wu _).mpr hg) (no x hx)⟩
def yj {L R:x9}{ss:List Str}(rt:Fe L R ss)(nd:ss.Nodup)(j_:∀n∈b8 L,n∈ss.take 5)(kd:∀s∈ss,cw s=true)(p3:L.pts.length<=3)(t3:L.ts.length<=3)(l8:ss.length=8)(YE:(b8 L).Nodup)(ndR:(b8 R).Nodup):RuD L R:=by
 have T_:∀n∈b8 L,n∉ss.drop 5:=λn h1 h2=>by
  have z:=nd;rw[←ML 5 ss] at z;exact(LU.mp z).2.2 n (j_ n h1) n h2 rfl
 have inR:∀n∈b8 R,n∈ss:=λn hn=>by
  rcases mem_nms.mp hn with⟨k,h⟩|⟨t,h⟩
  .rcases rt.i1 _ h with z|z
   .exact MG (j_ _ (mem_nms.mpr (.inl ⟨k,z⟩)))
   .exact MZ z
  .rcases rt.i2 _ h with z|z
   .exact MG (j_ _ (mem_nms.mpr (.inr ⟨t,z⟩)))
   .exact MZ z
 refine⟨λn h1 h2=>⟨λk=>⟨λh=>?_,λh=>?_⟩,λt=>⟨λh=>?_,λh=>?_⟩⟩,λn hn=>kd n (MG (j_ n hn)),λn hn=>kd n (inR n hn),?_,?_,p3,t3⟩
 .rcases mem_nms.mp h2 with⟨k',h'⟩|⟨t,h'⟩
  .rcases rt.i1 _ h' with z|z
   .rw[j6 (E9 YE) h z];exact h'
   .exact absurd z (T_ n h1)
  .rcases rt.i2 _ h' with z|z
   .exact(Y5 YE h z).elim
   .exact absurd z (T_ n h1)
 .exact(rt.i1 _ h).elim id λz=>absurd z (T_ n h1)
 .rcases mem_nms.mp h2 with⟨k',h'⟩|⟨t',h'⟩
  .rcases rt.i1 _ h' with z|z
   .exact(Y5 YE z h).elim
   .exact absurd z (T_ n h1)
  .rcases rt.i2 _ h' with z|z
   .rw[j6 (N7 YE) h z];exact h'
   .exact absurd z (T_ n h1)
 .exact(rt.i2 _ h).elim id λz=>absurd z (T_ n h1)
 .have z:=ay YE j_;rw[Lz] at z;lia
 .have z:=ay ndR inR;lia
def AD (u v z:V)(x:Int):∃y,rJ [u,v,z] (x % 3)=some y/\(y=u\/y=v\/y=z):=by
 have h0:0<=x % 3:=MM _ (by decide);have h1:x % 3<3:=MC _ (by decide);rcases Int.lt_or_le (x % 3) 1 with h|h
 .exact⟨u,by rw[show x % 3=((0:Nat):Int) by lia];exact b6 rfl,.inl rfl⟩
 .rcases Int.lt_or_le (x % 3) 2 with h'|h'
  .exact⟨v,by rw[show x % 3=((1:Nat):Int) by lia];exact b6 rfl,.inr (.inl rfl)⟩
  .exact⟨z,by rw[show x % 3=((2:Nat):Int) by lia];exact b6 rfl,.inr (.inr rfl)⟩
section
variable {H:Hp}
def Bt (a:Addr)(n:Nat):EqN K H n (.ref a) (.ref a) true:=EqN.of0 (.inr ⟨a,a,rfl,rfl,.inl ⟨rfl,rfl⟩⟩) n
def Bj {A B:Sd}(h:SdIs K H A)(h':SdIs K H B)(w:WPm A.W B.W)(n:Nat):EqN K H (n+1) (.ref A.a) (.ref B.a) true:=CK h.at_.tup h'.at_.tup (Gz h.hp h'.hp w.p (E9 h'.nd)) (HW h.hq h'.hq h.at_.ts h'.at_.ts w.t (N7 h'.nd)) n
def Ba {r bl r' Vf:Addr}{L R L' R':Sd}(h:RuleIs K H r bl L R [])(h':RuleIs K H r' Vf L' R' [])(wl:WPm L.W L'.W)(wr:WPm R.W R'.W):EqN K H 8 (.ref r) (.ref r') true:=by
 by_cases e:r=r'
 .subst e;exact Bt _ _
 refine .inr ⟨r,r',_,_,[true,true,true],rfl,rfl,e,.inl ⟨h.tup,h'.tup⟩,rfl,rfl,λj x y b hx hy hb=>?_,rfl⟩;match j,hx,hy,hb with
 |0,hx,hy,hb=>cases hx;cases hy;cases hb;exact Bj h.l h'.l wl 6
 |1,hx,hy,hb=>cases hx;cases hy;cases hb;exact Bj h.r h'.r wr 6
 |2,hx,hy,hb=>
  cases hx;cases hy;cases hb
  by_cases e:bl=Vf
  .subst e;exact Bt _ _
  .exact .inr ⟨bl,Vf,[],[],[],rfl,rfl,e,.inr ⟨h.bl,h'.bl⟩,rfl,rfl,(λj x y b hx=>nomatch hx),rfl⟩
 |j+3,hx,_,_=>cases hx
end
def qK (K:Za):Sp:=λvs H Q _=>∃(a:Addr) (ns:List Int),vs=[.ref a]/\SqL K H a (ns.map V.int)/\ns.length<=63/\∀H',Q (.bl true) H'
set_option maxHeartbeats 8000000 in
def FR {f fd}(T:Txt K mg)(F7:bK P w K mg base)(Z3:dB P w K mg base)(az:jt P w K mg base)(V2:et P w K mg base)(gK:sj P w K mg base)(X3:ck P w K mg base)(O5:fu P w K mg base)(F:Fun K "law" "law" An f fd):u6 P w K mg base B6 10 f fd ["_law_script"] (qK K):=by
 walk_at "#sc_law"
 .obtain⟨a,ns,rfl,_⟩:=h;rfl
 .obtain⟨a,ns,rfl,hA,hl,k⟩:=h;walk_at "@sc_law 2513|a3'0Z3 7066252Cuhu4pauappu4pE0162533'0az a~400[[02254032ib;EoJ01666gm543'0az a~400[[02255ua3'0V2 933'0V2 94256P'0gK '0yT a15152iyKHtZYX76W~e?>b)05u7304gz2~d7A_law_pairs;34;Ae3'0O5 a1314Rc0_law_pairs,_law_rule_here,_law_other;RMT3'0X3 h017200R002iyKb)0607gb;EoJ01666g8FB0607g2re06k8mNQ/`_^084dapp2NQ/`_^064u+8'2De FBP'0gK '0yT a151507g'1Cp FBQ/'0PySem.F.slot_list_count '0PySem.F.type_list_count '2jI ('0hr 3'0O5 a13144u+6g"
  refine j9 λTZ hx=>?_;rfl';refine⟨a,ns,0,rfl,hA,hl,by lia,λc0=>?_⟩;rfl';refine⟨c0,0,rfl,by lia,by lia,λc hc=>?_⟩;rfl';refine hx [some (.ref a),some (.int c),none,none,none,none,none,none,none] _ ?_;clear hx;refine j9 λVs hx=>?_;rfl';refine⟨b9 (by simp),λk1 n1=>?_⟩;obtain⟨H1,e1,f1,m1,_⟩:=b7 (o:= .lst _) n1;rw[e1];rfl';refine⟨b9 (by simp),λk2 n2=>?_⟩;obtain⟨H2,e2,f2,m2,_⟩:=b7 (o:= .lst _) n2;rw[e2];rfl';refine⟨b9 (by simp),λk3 n3=>?_⟩;obtain⟨H3,e3,f3,m3,_⟩:=b7 (o:= .lst _) n3;rw[e3];rfl';refine⟨b9 (by simp),λk4 n4=>?_⟩;obtain⟨H4,e4,f4,m4,_⟩:=b7 (o:= .lst _) n4;rw[e4];rfl';obtain⟨y,hy,hyy⟩:=AD (.ref k1) (.ref k2) (.ref k3) c;refine k9 (SqL.of f4) hy ?_;obtain⟨lk,ks,rfl,WO,Uz,Tq⟩:∃(lk:Addr) (ks:List Str),y= .ref lk/\H4 lk=some (.lst (ks.map V.str))/\0<ks.length/\ks.length<=2:=by
   rcases hyy with rfl|rfl|rfl
   .exact⟨k1,["p"],rfl,m4 _ _ (m3 _ _ (m2 _ _ f1)),by decide,by decide⟩
   .exact⟨k2,["p","q"],rfl,m4 _ _ (m3 _ _ f2),by decide,by decide⟩
   .exact⟨k3,["p"],rfl,m4 _ _ f3,by decide,by decide⟩
  have m04:=m1.trans (m2.trans (m3.trans m4));clear hyy hy f1 f2 f3 f4 e1 e2 e3 e4;rfl';refine hx [some (.ref a),some (.int c),some (.ref lk),none,none,none,none,none,none] _ ?_;clear hx;refine j9 λWQ hx=>?_;rfl';refine kD (m04.seq hA) (λl5 n5=>?_);obtain⟨cs,VH,R_⟩:=Dy ns 1 6 5 (by decide);rw[show fq (ns.map V.int) (some 1) (some 6)=cs.map V.int from VH];obtain⟨H5,e5,f5,m5,_⟩:=b7 (o:= .lst (cs.map V.int)) n5;rw[e5];rfl';refine⟨l5,lk,cs,ks,rfl,SqL.of f5,R_,SqL.of (m5 _ _ WO),Uz,Tq,λr1 b1 L1 R1 ss1 H6 m6 A6 rt1 nd1 hin1 kd1 p31 t31 l81=>?_⟩;have u1:=yj rt1 nd1 hin1 kd1 p31 t31 l81 A6.l.nd A6.r.nd;rfl';refine hx [some (.ref a),some (.int c),some (.ref lk),some (.ref r1),none,none,none,none,none] _ ?_;clear hx;have Ww:=m5.trans m6;have m06:=m04.trans Ww;have g6:=Ww _ _ WO;clear f5 e5 VH R_ WO rt1 nd1 hin1 kd1 p31 t31 l81;refine j9 λZd hx=>?_;rfl';refine hx [some (.ref a),some (.int c),some (.ref lk),some (.ref r1),some (.ref r1),none,none,none,none] _ ?_;clear hx;refine j9 λnx5 hx=>?_;suffices go:∀(r2 b2:Addr) (L2 R2:Sd) (H':Hp),Same H6 H'->RuleIs K H' r2 b2 L2 R2 []->RuD L2.W R2.W->nx5 [some (.ref a),some (.int c),some (.ref lk),some (.ref r1),some (.ref r2),none,none,none,none] H' by
   rfl';refine F9 (λb0=>?_) (λb0=>?_)
   .rfl';refine kD (m06.seq hA) (λl7 n7=>?_);obtain⟨cs',VH,R_⟩:=Dy ns 6 11 5 (by decide);rw[show fq (ns.map V.int) (some 6) (some 11)=cs'.map V.int from VH];obtain⟨H7,e7,f7,m7,_⟩:=b7 (o:= .lst (cs'.map V.int)) n7;rw[e7];rfl';refine⟨l7,lk,cs',ks,rfl,SqL.of f7,R_,SqL.of (m7 _ _ g6),Uz,Tq,λr2 b2 L2 R2 ss2 H8 m8 B8 rt nd j_ kd p3 t3 l8=>?_⟩;rfl';exact go r2 b2 L2 R2 H8 (m7.trans m8) B8 (yj rt nd j_ kd p3 t3 l8 B8.l.nd B8.r.nd)
   .rfl';exact go r1 b1 L1 R1 H6 (Same.refl _) A6 u1
  intro r2 b2 L2 R2 H7 m67 B7 u2;refine hx _ _ ?_;clear hx;have A7:=A6.same m67;clear A6 m06 Ww m04 g6;refine j9 λnx6 hx=>?_;rfl';refine⟨r1,b1,L1,R1,rfl,A7,λh1 c1 SI Tc H8 m8 C8 eL1 eR1=>?_⟩;rfl';refine⟨r2,b2,L2,R2,rfl,B7.same m8,λh2 c2 K_ Td H9 m9 D9 eL2 eR2=>?_⟩;rfl';refine⟨b9 (by simp),λlh nlh=>?_⟩;obtain⟨B0,e0,f0,m0,_⟩:=b7 (o:= .lst [.ref h1,.ref h2]) nlh;rw[e0];rfl';refine hx [some (.ref a),some (.int c),some (.ref lk),some (.ref r1),some (.ref r2),some (.ref lh),none,none,none] _ ?_;clear hx e0;have m90:=m9.trans m0;have A0:=A7.same (m8.trans m90);have B0':=B7.same (m8.trans m90);have C0:=C8.same m90;have D0:=D9.same m0;clear A7 B7 C8 D9;have sp:∀{G:Hp},Same B0 G->∀{Q:VK} {E:XK},(∀(l:Addr) (ls:List aO) (G':Hp),G l=none->Same G G'->G' l=some (.lst (tR ls))->(∀x∈ls,RwAt K G' x/\G x.1=none/\x.1≠l/\x.2.length<=30)->(∃rows,uu L1.W L2.W rows/\BB ls=rows.filter (bE L1.W R1.W L2.W R2.W))->ls.length<=9000->Q (.ref l) G')->ib K [.ref h1,.ref h2] G Q E:=fun{G} sg {Q E} kk=>by
   refine⟨h1,h2,c1,c2,SI,Tc,K_,Td,rfl,C0.same sg,D0.same sg,by rw[eL1,eR1];exact u1,by rw[eL2,eR2];exact u2,λl ls G' nl s f hx hr hl=>kk l ls G' nl s f hx ?_ hl⟩;rw[eL1,eR1,eL2,eR2] at hr;exact hr
  refine j9 λnx7 hx=>?_;rfl';refine k9 (SqL.of f0) (b6 (j:=0) rfl) ?_;rfl';refine k9 (SqL.of f0) (b6 (j:=1) rfl) ?_;rfl';refine sp (Same.refl _) λlf ls B1 nlf s1 ff UY ⟨rows,hrows,erows⟩ hll=>?_;rfl';refine hx [some (.ref a),some (.int c),some (.ref lk),some (.ref r1),some (.ref r2),some (.ref lh),some (.ref lf),none,none] _ ?_;clear hx;have A1:=A0.same s1;have B1':=B0'.same s1;refine j9 λnx8 hx=>?_;rfl';refine cu (cm (t:="list") (.inl ⟨rfl,_,SqL.of ff⟩) (by simp) ?_);rw[show cg "list" "list"=true from rfl];rfl';refine⟨b9 (by simp),λlz nlz=>?_⟩;obtain⟨B2,e2,f2,s2,_⟩:=b7 (o:= .lst [.ref r1,.ref r2]) nlz;rw[e2];have Zy:=s1.trans s2;have A2:=A1.same s2;have WX:=B1'.same s2;refine .inr ⟨[true,true],⟨lh,lz,[.ref h1,.ref h2],[.ref r1,.ref r2],rfl,rfl,.inr ⟨SqL.of (Zy _ _ f0),SqL.of f2⟩,rfl,rfl,λj x y b hx hy hb=>?_⟩,?_⟩
  .match j,hx,hy,hb with
   |0,hx,hy,hb=>cases hx;cases hy;cases hb;exact Ba (C0.same Zy) A2 (by rw[eL1];exact⟨MS _,MS _⟩) (by rw[eR1];exact⟨MS _,MS _⟩)
   |1,hx,hy,hb=>cases hx;cases hy;cases hb;exact Ba (D0.same Zy) WX (by rw[eL2];exact⟨MS _,MS _⟩) (by rw[eR2];exact⟨MS _,MS _⟩)
   |j+2,hx,_,_=>cases hx
  rw[show(!List.all [true,true] id)=false from rfl];rfl';refine hx [some (.ref a),some (.int c),some (.ref lk),some (.ref r1),some (.ref r2),some (.ref lh),some (.ref lf),none,none] _ ?_;clear hx f2 e2 nlz;have Yi:=s2 _ _ ff;have WY:∀x∈ls,RwAt K B2 x/\B0 x.1=none/\x.1≠lf/\x.2.length<=30:=λx hx=>⟨(UY x hx).1.same s2,(UY x hx).2⟩
  refine j9 λnx9 hx=>?_;rfl';refine b5 A2.tup (b6 (j:=0) rfl) ?_;rfl';refine b5 WX.tup (b6 (j:=0) rfl) ?_;rfl';refine⟨_,_,_,_,_,_,_,_,L1.W,L2.W,rfl,A2.l,WX.l,u1.p3,u1.t3,u2.p3,u2.t3,λlo os os0 B3 nlo s3 fo hrw Uw pm pr=>?_⟩;have l9:=wo pm pr u1.p3 u1.t3 u2.p3 u2.t3;refine j7 (SqL.of fo) ?_;refine k8 (n:=os.length) (λi out H'=>Same B3 H'/\out=tR ((os.take i).filter λx=>bE L1.W R1.W L2.W R2.W (x.2.map (·.2)))) ⟨Same.refl _,rfl⟩ (λi out H' hi hp=>⟨_,.ref (os[i]).1,SqL.of (hp.1 _ _ fo),by rw[Lo,Lm hi];rfl⟩) ?_ ?_
  .rintro N i v out G4' G4 hi ⟨s4,rfl⟩ y hN';obtain⟨rfl,hy⟩:=Itl.get y (SqL.of (s4 _ _ fo));have ex:os[i]?=some os[i]:=Lm hi;rw[Lo,ex] at hy;cases hy;have e7:os.take (i+1)=os.take i++[os[i]]:=by rw[Me,ex];rfl
   have hm:=LM hi;have n_:=LD (λx:aO=>bE L1.W R1.W L2.W R2.W (x.2.map (·.2))) (os.take i);rw[Lz] at n_;generalize os[i]=x at hm e7 ex;have rx:=(hrw x hm).1.same s4;have VE:=ma A2.l.nd WX.l.nd pm pr hm;have s34:=s3.trans s4;have UX:x.2.length<=30:=by
    have:=VE.2.2;have:=u1.p3;have:=u1.t3;lia
   rfl';refine⟨rfl,?_⟩;rfl';refine⟨r1,r2,b1,b2,x.1,L1,R1,L2,R2,_,_,rfl,A2.same s34,WX.same s34,rx.1,by rw[Ll];exact UX,zC rx,wd VE.1 VE.2.1,u1,u2,λb G5 m5 hb=>?_⟩;have eb:b=bE L1.W R1.W L2.W R2.W (x.2.map (·.2)):=by rw[LQ,hb,rK]
   rfl';refine iL (λht=>?_) (λhf=>?_)
   .rfl';refine⟨ql (by rw[Ll];lia),hN' _ _ ⟨s4.trans m5,?_⟩⟩;rw[e7,Mm,Mq (by rw[←eb];exact ht),MN];show _=List.map _ _;rw[Lr];rfl
   .refine hN' _ _ ⟨s4.trans m5,?_⟩;rw[e7,Mm,Mr (by rw[←eb,hf];decide),MN,MD]
  rintro out G4 ⟨s4,rfl⟩;rw[Lu (Lp _)];have n_:=LD (λx:aO=>bE L1.W R1.W L2.W R2.W (x.2.map (·.2))) os;refine⟨⟨_,SqL.of (s4 _ _ fo),by rw[Ll];exact Lp _⟩,λld nld=>⟨ql (by rw[Ll];lia),?_⟩⟩;have ov0:=vB A2.l.nd WX.l.nd A2.l.ends pm pr Uw;have er0:rows=BB os:=mq hrows.1 ov0.1 λF=>(hrows.2 F).trans (ov0.2 F).symm;have Zz:BB ls=BB (os.filter λx=>bE L1.W R1.W L2.W R2.W (x.2.map (·.2))):=by rw[erows,er0,oV]
  have ZA:∀y∈(os.filter λx=>bE L1.W R1.W L2.W R2.W (x.2.map (·.2))),RwAt K G4 y/\B2 y.1=none:=λy hy=>⟨(hrw y (LW.mp hy).1).1.same s4,(hrw y (LW.mp hy).1).2.2⟩
  obtain⟨B5,e5,f5,s5,_⟩:=b7 (H:=G4) (o:= .lst (tR (os.filter λx=>bE L1.W R1.W L2.W R2.W (x.2.map (·.2))))) nld;change R9 _ _ _ (upd G4 ld (.lst (tR (os.filter λx=>bE L1.W R1.W L2.W R2.W (x.2.map (·.2)))))) _;rw[e5];generalize os.filter (λx=>bE L1.W R1.W L2.W R2.W (x.2.map (·.2)))=es at f5 Zz ZA n_;rfl';refine hx [some (.ref a),some (.int c),some (.ref lk),some (.ref r1),some (.ref r2),some (.ref lh),some (.ref lf),some (.ref ld),none] _ ?_;clear hx e5;have s24:=s3.trans s4;have s25:=s24.trans s5;have ZC:=s25 _ _ Yi;have ls5:∀x∈ls,RwAt K B5 x:=λx hx=>(WY x hx).1.same s25;have es5:∀y∈es,RwAt K B5 y:=λy hy=>(ZA y hy).1.same s5;have yx:∀y∈es,∀x∈ls,y.1≠x.1:=λy hy x hx=>(d6 (WY x hx).1.1 (ZA y hy).2).symm;have yf:∀y∈es,y.1≠lf:=λy hy=>(d6 Yi (ZA y hy).2).symm;have dx:∀x∈ls,ld≠x.1:=λx hx=>(d6 (((WY x hx).1.same s24).1) nld).symm;have df:ld≠lf:=(d6 (s24 _ _ Yi) nld).symm;have Zs:=Zy.trans s25;clear hrw Uw pm pr fo nld nlo;refine j9 λnx10 hx=>?_;rfl';refine .inr ⟨_,vc (.inr ⟨SqL.of ZC,SqL.of f5⟩) (jX Zz ls5 es5),?_⟩;rw[gF];rfl';refine F9 (λb0=>?_) (λb0=>?_)
  .rfl';refine .inr ⟨_,vc (.inr ⟨SqL.of ZC,SqL.of f5⟩) (jX Zz ls5 es5),?_⟩;rw[gF];exact k _
  rfl';refine hx [some (.ref a),some (.int c),some (.ref lk),some (.ref r1),some (.ref r2),some (.ref lh),some (.ref lf),some (.ref ld),none] _ ?_;clear hx;refine j9 λnx11 hx=>?_;rfl';refine j7 (SqL.of ZC) ?_;refine kI (n:=ls.length) (λi σ H'=>(∃v8,σ=[some (.ref a),some (.int c),some (.ref lk),some (.ref r1),some (.ref r2),some (.ref lh),some (.ref lf),some (.ref ld),v8])/\Same B0 H'/\H' lf=some (.lst (tR ls))/\H' ld=some (.lst (tR es))/\(∀y∈es,RwAt K H' y)/\∀x∈ls,∃ys:List V,H' x.1=some (.lst ys)/\ys.length<=30+i) ⟨⟨_,rfl⟩,Zs,ZC,f5,es5,λx hx=>⟨_,(ls5 x hx).1,by rw[Ll];have:=(WY x hx).2.2.2;lia⟩⟩ (λi σ H' hi hp=>⟨_,.ref (ls[i]).1,SqL.of hp.2.2.1,by rw[Lo,Lm hi];rfl⟩) ?_ ?_
  .clear hx;rintro i v σ G' G hi ⟨⟨v8,rfl⟩,sG,gf,gd,ge,gl⟩ y _ _;obtain⟨rfl,hy⟩:=Itl.get y (SqL.of gf);have ex:ls[i]?=some ls[i]:=Lm hi;rw[Lo,ex] at hy;cases hy;have hm:=LM hi;generalize ls[i]=x at hm ex;obtain⟨ys,hys,hyl⟩:=gl x hm;rfl';refine⟨.inl ⟨rfl,_,SqL.of hys⟩,?_⟩;rfl';refine⟨b9 (by simp),λt nt=>?_⟩;obtain⟨G1,eg,_,sg,_⟩:=b7 (o:= .tup [.str "?",.str "?"]) nt;rw[eg];have TX:=sg _ _ hys;refine⟨x.1,_,_,rfl,rfl,TX,OI (show ys.length<=9030 by lia) (by decide),?_⟩;rfl';have nf:=(WY x hm).2.2.1;refine⟨⟨_,rfl⟩,M3 (sG.trans sg) (WY x hm).2.1,by rw[d9 nf.symm];exact sg _ _ gf,by rw[d9 (dx x hm)];exact sg _ _ gd,λy hy=>((ge y hy).same sg).upd TX (yx y hy x hm),λx' I_=>?_⟩;by_cases w:x'.1=x.1
   .exact⟨_,by rw[w];exact d8,by rw[LB,Mu];lia⟩
   .obtain⟨ys',Vk,Vx⟩:=gl x' I_;exact⟨ys',by rw[d9 w];exact sg _ _ Vk,by lia⟩
  rintro σ G ⟨⟨v8,rfl⟩,sG,gf,gd,ge,gl⟩;refine⟨⟨_,SqL.of gf,by rw[Ll];exact Lp _⟩,?_⟩;refine hx [some (.ref a),some (.int c),some (.ref lk),some (.ref r1),some (.ref r2),some (.ref lh),some (.ref lf),some (.ref ld),v8] G ?_;clear hx;refine j9 λnx12 hx=>?_;rfl';refine⟨.inl ⟨rfl,_,SqL.of gf⟩,?_⟩;rfl';refine⟨b9 (by simp),λln nln=>?_⟩;obtain⟨G1,eg,_,sg,_⟩:=b7 (o:= .lst []) nln;rw[eg];have gf1:=sg _ _ gf;refine⟨lf,_,_,rfl,rfl,gf1,OI (show(tR ls).length<=9000 by rw[Ll];exact hll) (by decide),?_⟩;rfl';refine hx [some (.ref a),some (.int c),some (.ref lk),some (.ref r1),some (.ref r2),some (.ref lh),some (.ref lf),some (.ref ld),v8] _ ?_;clear hx;have sU:Same B0 (upd G1 lf (.lst (tR ls++[.ref ln]))):=M3 (sG.trans sg) nlf;have gdU:upd G1 lf (.lst (tR ls++[.ref ln])) ld=some (.lst (tR es)):=by rw[d9 df];exact sg _ _ gd
  have geU:∀y∈es,RwAt K (upd G1 lf (.lst (tR ls++[.ref ln]))) y:=λy hy=>((ge y hy).same sg).upd gf1 (yf y hy);generalize upd G1 lf (.lst (tR ls++[.ref ln]))=U at sU gdU geU;rfl';refine k9 (SqL.of (sU _ _ f0)) (b6 (j:=0) rfl) ?_;rfl';refine k9 (SqL.of (sU _ _ f0)) (b6 (j:=1) rfl) ?_;rfl';refine sp sU λl2 ls2 U2 _ t2 g2 VJ ⟨rows2,hrows2,erows2⟩ _=>?_;have e22:BB ls2=BB es:=by rw[erows2,←Zz,erows,mq hrows2.1 hrows.1 λF=>(hrows2.2 F).trans (hrows.2 F).symm]
  rfl';refine .inr ⟨_,vc (.inr ⟨SqL.of g2,SqL.of (t2 _ _ gdU)⟩) (jX e22 (λx hx=>(VJ x hx).1) λy hy=>(geU y hy).same t2),?_⟩;rw[gF];have sU2:=sU.trans t2;have AU:=A0.same sU2;have BU:=B0'.same sU2;rfl';refine b5 AU.tup (b6 (j:=0) rfl) ?_;rfl';refine b5 BU.tup (b6 (j:=0) rfl) ?_;rfl';refine⟨_,_,_,_,_,_,_,_,L1.W,L2.W,rfl,AU.l,BU.l,u1.p3,u1.t3,u2.p3,u2.t3,λlq qs cy U3 _ t3 g3 hq Uw pm pr=>?_⟩;rfl';refine⟨.inl ⟨rfl,_,SqL.of g3⟩,?_⟩;rfl';refine⟨b9 (by simp),λle nle=>?_⟩;obtain⟨U4,e4,g4,t4,_⟩:=b7 (o:= .lst []) nle;rw[e4];refine⟨lq,qs,(le,[]),rfl,rfl,t4 _ _ g3,λy hy=>⟨SqL.of ((hq y hy).1.same t4).1,((hq y hy).1.same t4).2⟩,⟨SqL.of g4,λt ht=>by cases ht⟩,?_⟩;have cnt:qs.countP (λy=>decide (y.2.map (·.2)=([]:List M6)))=1:=(pm.countP_eq _).trans ((qX List.Pairwise.nil pr).trans (lF ⟨Ny,Ny,λx hx=>by cases hx⟩ AU.l.nd BU.l.nd AU.l.ends));rw[show(([]:List (Addr×M6)).map (·.2))=[] from rfl,cnt];rfl';exact k _
end
def all_mk {l:PySem.W.OpenLaw}{w:World}{K:Za}{h:Heap}{mg:Str->Option Value}{fa f0 f1 f2 f3 f4 f5 f6 f7 f8 f9 f10 f11 f12 f13 f14 f15 f16 f17 f18 f19 f20 f21 f22 Zv f24 f25 f26 f27 f28 f29 f30 f31 f32 f33 f34 f35 f36 f37 f38 f39 f40 f41 f42 f43 f44 f45 f46 f47 f48 f49 f50 f51 f52 f53 f54 f55 f56 Yw f58 Yy f60 f61 f62 f63 f64 f65:Addr}{t_MOST_NAME_SIGNS t_NAME_SIGNS t_SMALL_LETTERS:Tok}{C_Barred C_GlueError C_HasBars C_Loose C_NoMatch C_NoNames C_NoOverlap:Addr}{cd_GlueError:ClassData}(X:K.In h)(G:h.Ns mainGlobals mg)(hfa:mg "law"=some (.ref fa))
  (a0:FnIn K "is_text_of" bS f0)
  (a1:FnIn K "is_name" iD f1)
  (a2:FnIn K "in_order" fi f2)
  (a3:FnIn K "copied" ky f3)
  (a4:FnIn K "things" kM f4)
  (a5:FnIn K "without" ik f5)
  (a6:FnIn K "united" lD f6)
  (a7:FnIn K "tie_renamed" aG f7)
  (a8:FnIn K "renamed" iS f8)
  (a9:FnIn K "is_match" fw f9)
  (a10:FnIn K "line" uT f10)
  (a11:FnIn K "first_match" aP f11)
  (a12:FnIn K "first_found" aT f12)
  (a13:FnIn K "found" qe f13)
  (a14:FnIn K "may_be" kr f14)
  (a15:FnIn K "point_choices" X6 f15)
  (a16:FnIn K "tie_places" cj f16)
  (a17:FnIn K "enough" mH f17)
  (a18:FnIn K "lines" rj f18)
  (a19:FnIn K "images" nG f19)
  (a20:FnIn K "tie_choices" aJ f20)
  (a21:FnIn K "has_room" eZ f21)
  (a22:FnIn K "both" uU f22)
  (a23:FnIn K "alone" qp Zv)
  (a24:FnIn K "kept" vd f24)
  (a25:FnIn K "taken" pY f25)
  (a26:FnIn K "fresh_of" fe f26)
  (a27:FnIn K "rule_copied" aF f27)
  (a28:FnIn K "picked" mw f28)
  (a29:FnIn K "barred" ny f29)
  (a30:FnIn K "taken_out" cQ f30)
  (a31:FnIn K "names_serve" aS f31)
  (a32:FnIn K "rest_of" iF f32)
  (a33:FnIn K "done" ug f33)
  (a34:FnIn K "behind" mP f34)
  (a35:FnIn K "named_step" bZ f35)
  (a36:FnIn K "common" mY f36)
  (a37:FnIn K "clash" qo f37)
  (a38:FnIn K "tie_paired" bO f38)
  (a39:FnIn K "names_of" fj f39)
  (a40:FnIn K "point_partners" S8 f40)
  (a41:FnIn K "tie_partners" ai f41)
  (a42:FnIn K "pairings" fE f42)
  (a43:FnIn K "overlaps" fg f43)
  (a44:FnIn K "is_pair" iM f44)
  (a45:FnIn K "is_well_paired" U8 f45)
  (a46:FnIn K "is_overlap" bD f46)
  (a47:FnIn K "marked" mr f47)
  (a48:FnIn K "overlap_web" aL f48)
  (a49:FnIn K "refuse_bars" aK f49)
  (a50:FnIn K "split_steps" aV f50)
  (a51:FnIn K "is_split" eY f51)
  (a52:FnIn K "splits" nH f52)
  (a53:FnIn K "_law_cell_at" ah f53)
  (a54:FnIn K "_law_mix" fb f54)
  (a55:FnIn K "_law_names" bP f55)
  (a56:FnIn K "_law_piece" bQ f56)
  (a57:FnIn K "_law_all" fH Yw)
  (a58:FnIn K "_law_over" cI f58)
  (a59:FnIn K "_law_right" bw Yy)
  (a60:FnIn K "_law_rule" dn f60)
  (a61:FnIn K "_law_gone" dE f61)
  (a62:FnIn K "_law_hangs" bM f62)
  (a63:FnIn K "_law_is_split" W8 f63)
  (a64:FnIn K "_law_copied" aH f64)
  (a65:FnIn K "law" An f65)
  (z_all:PySem.W.nsIn K mainGlobals "all"=some none)
  (z_any:PySem.W.nsIn K mainGlobals "any"=some none)
  (z_dict:PySem.W.nsIn K mainGlobals "dict"=some none)
  (z_enumerate:PySem.W.nsIn K mainGlobals "enumerate"=some none)
  (z_isinstance:PySem.W.nsIn K mainGlobals "isinstance"=some none)
  (z_len:PySem.W.nsIn K mainGlobals "len"=some none)
  (z_list:PySem.W.nsIn K mainGlobals "list"=some none)
  (z_range:PySem.W.nsIn K mainGlobals "range"=some none)
  (z_set:PySem.W.nsIn K mainGlobals "set"=some none)
  (z_sorted:PySem.W.nsIn K mainGlobals "sorted"=some none)
  (z_str:PySem.W.nsIn K mainGlobals "str"=some none)
  (z_sum:PySem.W.nsIn K mainGlobals "sum"=some none)
  (z_tuple:PySem.W.nsIn K mainGlobals "tuple"=some none)
  (v_MOST_NAME_SIGNS:PySem.W.nsIn K mainGlobals "MOST_NAME_SIGNS"=some (some (.int 24 t_MOST_NAME_SIGNS)))
  (v_NAME_SIGNS:PySem.W.nsIn K mainGlobals "NAME_SIGNS"=some (some (.str gw t_NAME_SIGNS)))
  (v_SMALL_LETTERS:PySem.W.nsIn K mainGlobals "SMALL_LETTERS"=some (some (.str cn t_SMALL_LETTERS)))
  (n_Barred:PySem.W.nsIn K mainGlobals "Barred"=some (some (.ref C_Barred)))
  (n_GlueError:PySem.W.nsIn K mainGlobals "GlueError"=some (some (.ref C_GlueError)))
  (n_HasBars:PySem.W.nsIn K mainGlobals "HasBars"=some (some (.ref C_HasBars)))
  (n_Loose:PySem.W.nsIn K mainGlobals "Loose"=some (some (.ref C_Loose)))
  (n_NoMatch:PySem.W.nsIn K mainGlobals "NoMatch"=some (some (.ref C_NoMatch)))
  (n_NoNames:PySem.W.nsIn K mainGlobals "NoNames"=some (some (.ref C_NoNames)))
  (n_NoOverlap:PySem.W.nsIn K mainGlobals "NoOverlap"=some (some (.ref C_NoOverlap)))
  (xr_Barred:PySem.W.excIn K C_Barred DN "ValueError.__new__"=true)
  (xr_HasBars:PySem.W.excIn K C_HasBars DN "ValueError.__new__"=true)
  (xr_Loose:PySem.W.excIn K C_Loose DN "ValueError.__new__"=true)
  (xr_NoMatch:PySem.W.excIn K C_NoMatch DN "ValueError.__new__"=true)
  (xr_NoNames:PySem.W.excIn K C_NoNames DN "ValueError.__new__"=true)
  (xr_NoOverlap:PySem.W.excIn K C_NoOverlap DN "ValueError.__new__"=true)
  (xt_GlueError:PySem.W.typeIn K (.ref C_GlueError)=some (.type "type"))
  (xe_GlueError:PySem.W.subIn K (.ref C_GlueError) (.type "BaseException")=some true)
  (xc_GlueError:PySem.W.clsIn K C_GlueError=some cd_GlueError)
  (xs_Barred_GlueError:PySem.W.subIn K (.ref C_Barred) (.ref C_GlueError)=some true)
  (xs_HasBars_GlueError:PySem.W.subIn K (.ref C_HasBars) (.ref C_GlueError)=some true)
  (xs_Loose_GlueError:PySem.W.subIn K (.ref C_Loose) (.ref C_GlueError)=some true)
  (xs_NoMatch_GlueError:PySem.W.subIn K (.ref C_NoMatch) (.ref C_GlueError)=some true)
  (xs_NoNames_GlueError:PySem.W.subIn K (.ref C_NoNames) (.ref C_GlueError)=some true)
  (xs_NoOverlap_GlueError:PySem.W.subIn K (.ref C_NoOverlap) (.ref C_GlueError)=some true)
  :
  ∃fd:FuncData,(∀(s:Shared) (v:Value),BindsTo s fd ⟨[v],[]⟩ [("_law_script",v)])/\∀base:Heap,K.In base->base.Ns mainGlobals mg->u6 l.prog w K mg base B6 10 fa fd ["_law_script"] (qK K):=by
 have ec_Barred:cA K "Barred"=C_Barred:=by unfold cA;rw[n_Barred]
 have ec_GlueError:cA K "GlueError"=C_GlueError:=by unfold cA;rw[n_GlueError]
 have ec_HasBars:cA K "HasBars"=C_HasBars:=by unfold cA;rw[n_HasBars]
 have ec_Loose:cA K "Loose"=C_Loose:=by unfold cA;rw[n_Loose]
 have ec_NoMatch:cA K "NoMatch"=C_NoMatch:=by unfold cA;rw[n_NoMatch]
 have ec_NoNames:cA K "NoNames"=C_NoNames:=by unfold cA;rw[n_NoNames]
 have ec_NoOverlap:cA K "NoOverlap"=C_NoOverlap:=by unfold cA;rw[n_NoOverlap]
 have T:Txt K mg:=⟨by rw[ec_Barred];exact⟨NF X G n_Barred,xr_Barred⟩,by rw[ec_HasBars];exact⟨NF X G n_HasBars,xr_HasBars⟩,by rw[ec_Loose];exact⟨NF X G n_Loose,xr_Loose⟩,by rw[ec_NoMatch];exact⟨NF X G n_NoMatch,xr_NoMatch⟩,by rw[ec_NoNames];exact⟨NF X G n_NoNames,xr_NoNames⟩,by rw[ec_NoOverlap];exact⟨NF X G n_NoOverlap,xr_NoOverlap⟩,by rw[ec_GlueError];exact⟨NF X G n_GlueError,xt_GlueError,xe_GlueError,by rw[xc_GlueError];rfl⟩,by rw[ec_Barred,ec_GlueError];exact xs_Barred_GlueError,by rw[ec_HasBars,ec_GlueError];exact xs_HasBars_GlueError,by rw[ec_Loose,ec_GlueError];exact xs_Loose_GlueError,by rw[ec_NoMatch,ec_GlueError];exact xs_NoMatch_GlueError,by rw[ec_NoNames,ec_GlueError];exact xs_NoNames_GlueError,by rw[ec_NoOverlap,ec_GlueError];exact xs_NoOverlap_GlueError,MO X G z_all,MO X G z_any,MO X G z_dict,MO X G z_enumerate,MO X G z_isinstance,MO X G z_len,MO X G z_list,MO X G z_range,MO X G z_set,MO X G z_sorted,MO X G z_str,MO X G z_sum,MO X G z_tuple,⟨_,NF X G v_MOST_NAME_SIGNS,_,rfl⟩,⟨_,NF X G v_NAME_SIGNS,_,rfl⟩,⟨_,NF X G v_SMALL_LETTERS,_,rfl⟩⟩
 refine EL X G hfa a65 (fun{base f fd} F=>?_) λ_ _ _ _ _ _ s v=> .of_eq rfl
 have bG:gy l.prog w K mg base:=j0 X G a0 (λF=>nX T F) (by walk_at "b")
 have cf:ml l.prog w K mg base:=j0 X G a2 (λF=>rS T F) (by walk_at "b")
 have C5:Z2 l.prog w K mg base:=j0 X G a4 (λF=>xf T F) (by walk_at "b")
 have K1:aQ l.prog w K mg base:=j0 X G a7 (λF=>ni T F) (by walk_at "b")
 have aU:eS l.prog w K mg base:=j0 X G a11 (λF=>mn T F) (by walk_at "b")
 have Bx:nS l.prog w K mg base:=j0 X G a12 (λF=>ke T F) (by walk_at "b")
 have Ja:CZ l.prog w K mg base:=j0 X G a13 (λF=>zd T F) (by walk_at "b")
 have GP:Bg l.prog w K mg base:=j0 X G a14 (λF=>xJ T F) (by walk_at "b")
 have yd:jH l.prog w K mg base:=j0 X G a15 (λF=>iO T F) (by walk_at "b")
 have Cn:qT l.prog w K mg base:=j0 X G a16 (λF=>nM T F) (by walk_at "b")
 have GS:yR l.prog w K mg base:=j0 X G a17 (λF=>xC T F) (by walk_at "b")
 have Jk:BY l.prog w K mg base:=j0 X G a18 (λF=>zu T F) (by walk_at "b")
 have Ia:AA l.prog w K mg base:=j0 X G a19 (λF=>xr T F) (by walk_at "b")
 have Bz:ox l.prog w K mg base:=j0 X G a20 (λF=>nF T F) (by walk_at "b")
 have Eg:uo l.prog w K mg base:=j0 X G a21 (λF=>tL T F) (by walk_at "b")
 have cU:sS l.prog w K mg base:=j0 X G a28 (λF=>wx T F) (by walk_at "b")
 have fR:rL l.prog w K mg base:=j0 X G a36 (λF=>xa T F) (by walk_at "b")
 have M9:bW l.prog w K mg base:=j0 X G a38 (λF=>oj T F) (by walk_at "b")
 have T7:fI l.prog w K mg base:=j0 X G a39 (λF=>sP T F) (by walk_at "b")
 have bz:mZ l.prog w K mg base:=j0 X G a42 (λF=>sv T F) (by walk_at "b")
 have iR:oE l.prog w K mg base:=j0 X G a44 (λF=>uZ T F) (by walk_at "b")
 have K3:aI l.prog w K mg base:=j0 X G a49 (λF=>kc T F) (by walk_at "b")
 have Z3:dB l.prog w K mg base:=j0 X G a53 (λF=>jJ T F) (by walk_at "b")
 have F7:bK l.prog w K mg base:=j0 X G a54 (λF=>tP T F) (by walk_at "b")
 have bV:fW l.prog w K mg base:=j0 X G a55 (λF=>nR T F) (by walk_at "b")
 have O0:fv l.prog w K mg base:=j0 X G a57 (λF=>rP T F) (by walk_at "b")
 have bI:gc l.prog w K mg base:=j0 X G a59 (λF=>nY T F) (by walk_at "b")
 have V2:et l.prog w K mg base:=j0 X G a64 (λF=>mf T F) (by walk_at "b")
 have ir:oX l.prog w K mg base:=j0 X G a1 (λF=>uw T bG F) (by walk_at "b")
 have F4:dw l.prog w K mg base:=j0 X G a3 (λF=>xU T cf F) (by walk_at "b")
 have uk:AI l.prog w K mg base:=j0 X G a10 (λF=>BF T C5 F) (by walk_at "b")
 have vg:Ak l.prog w K mg base:=j0 X G a22 (λF=>Cs T C5 F) (by walk_at "b")
 have dM:pQ l.prog w K mg base:=j0 X G a23 (λF=>zZ T C5 F) (by walk_at "b")
 have Z6:mE l.prog w K mg base:=j0 X G a29 (λF=>wF T aU F) (by walk_at "b")
 have T8:ba l.prog w K mg base:=j0 X G a40 (λF=>gR T T7 F) (by walk_at "b")
 have af:dD l.prog w K mg base:=j0 X G a41 (λF=>jE T T7 M9 F) (by walk_at "b")
 have V0:bq l.prog w K mg base:=j0 X G a45 (λF=>gn T M9 F) (by walk_at "b")
 have gr:tD l.prog w K mg base:=j0 X G a47 (λF=>wM T C5 F) (by walk_at "b")
 have bB:gv l.prog w K mg base:=j0 X G a56 (λF=>oq T F7 F) (by walk_at "b")
 have de:je l.prog w K mg base:=j0 X G a58 (λF=>qD T O0 F) (by walk_at "b")
 have K7:dg l.prog w K mg base:=j0 X G a61 (λF=>pW T O0 F) (by walk_at "b")
 have gZ:oG l.prog w K mg base:=j0 X G a5 (λF=>uG T F4 F) (by walk_at "b")
 have bj:kY l.prog w K mg base:=j0 X G a6 (λF=>xF T F4 F) (by walk_at "b")
 have U5:iw l.prog w K mg base:=j0 X G a8 (λF=>tU T K1 F4 F) (by walk_at "b")
 have fh:lJ l.prog w K mg base:=j0 X G a9 (λF=>rR T C5 uk K1 F) (by walk_at "b")
 have uJ:yX l.prog w K mg base:=j0 X G a24 (λF=>Ca T vg F) (by walk_at "b")
 have pP:vS l.prog w K mg base:=j0 X G a25 (λF=>Aj T dM F) (by walk_at "b")
 have J1:bT l.prog w K mg base:=j0 X G a26 (λF=>tQ T dM F) (by walk_at "b")
 have V6:dZ l.prog w K mg base:=j0 X G a27 (λF=>kF T F4 F) (by walk_at "b")
 have O5:fu l.prog w K mg base:=j0 X G a43 (λF=>tE T bz T8 af F) (by walk_at "b")
 have bH:gQ l.prog w K mg base:=j0 X G a46 (λF=>og T iR V0 F) (by walk_at "b")
 have az:jt l.prog w K mg base:=j0 X G a60 (λF=>qi T F7 bV bB bI F) (by walk_at "b")
 have Y0:fV l.prog w K mg base:=j0 X G a62 (λF=>nQ T K7 F) (by walk_at "b")
 have K8:dC l.prog w K mg base:=j0 X G a30 (λF=>qt T pP F) (by walk_at "b")
 have aM:eh l.prog w K mg base:=j0 X G a31 (λF=>ki T J1 ir F) (by walk_at "b")
 have kK:sW l.prog w K mg base:=j0 X G a34 (λF=>xX T cU uJ J1 C5 F) (by walk_at "b")
 have X9:fQ l.prog w K mg base:=j0 X G a35 (λF=>oi T J1 F) (by walk_at "b")
 have aX:dY l.prog w K mg base:=j0 X G a48 (λF=>jZ T bH gr bj U5 F) (by walk_at "b")
 have X3:ck l.prog w K mg base:=j0 X G a63 (λF=>iN T de Y0 K7 F) (by walk_at "b")
 have hJ:pJ l.prog w K mg base:=j0 X G a32 (λF=>ve T fh gZ K8 Z6 F) (by walk_at "b")
 have aR:eQ l.prog w K mg base:=j0 X G a50 (λF=>kS T K3 aX X9 V6 F) (by walk_at "b")
 have qf:zw l.prog w K mg base:=j0 X G a33 (λF=>Dj T hJ aM bj U5 kK F) (by walk_at "b")
 have qu:vR l.prog w K mg base:=j0 X G a37 (λF=>AL T qf fR K8 Z6 F) (by walk_at "b")
 have fk:nL l.prog w K mg base:=j0 X G a51 (λF=>rX T aR qu F) (by walk_at "b")
 have gK:sj l.prog w K mg base:=j0 X G a52 (λF=>xx T K3 fk O5 F) (by walk_at "b")
 exact FR T F7 Z3 az V2 gK X3 O5 F
def walk {l:PySem.W.OpenLaw}{q:Program}{loose:List Str}{XP:(Str->Option Value)->Heap->Prop}{YP:World->Heap->Prop}{d:DefRec}{K:Params->Za}(hn:l.most=some 63)(Xi:d.params.defaults=[])
  (hY:∀(w:World) (h:Heap),YP w h->(K w.params).In h)
  (F:∀(w:World) (mg:Str->Option Value) (fa:Addr) (h:Heap),(K w.params).In h->h.Ns mainGlobals mg->mg d.name=some (.ref fa)->
   ∃fd:FuncData,(∀(s:Shared) (u:Value),BindsTo s fd ⟨[u],[]⟩ [("_law_script",u)])/\∀base:Heap,(K w.params).In base->base.Ns mainGlobals mg->u6 l.prog w (K w.params) mg base B6 10 fa fd ["_law_script"] (qK (K w.params))):
  PySem.W.WalkO q loose XP YP l.row.toRowW d [] (λf vs=>PySem.call f vs):=
 L2.walk_of (n:=63) (k:=10) (x:="_law_script") (CX:=λ_=>B6) (sp:=λw=>qK (K w.params)) hn (by decide) Xi ⟨rfl,by decide,by decide⟩ hY F (λ_ _ a ns hl _ hS=>⟨a,ns,rfl,hS,hl,λ_=>rfl⟩) λ_ _ _ _ _ z=>z
end K45
namespace PySem.W.Fast
def tw11109778647263710149:=Nat
def tw2596542597494564575:=Nat
def tw11718660287909770728:=Nat
def tw9194476282137914618:=Nat
def tw4146283887722106642:=Nat
def tw13584024077369265686:=Nat
def tw6967420346426692498:=Nat
def tw4235849307809028358:=Nat
def tw1942545141525328981:=Nat
def tw8368100629481900669:=Nat
def tw4312012846439940298:=Nat
def tw15069108486821040218:=Nat
def tw17268724670765942955:=Nat
def tw7857821889691932513:=Nat
def tw14062058623819683341:=Nat
def tw8360501429026691143:=Nat
def tw16514135434268194704:=Nat
def tw14873494301505267097:=Nat
def tw16110362419632730181:=Nat
def tw6904978942594150137:=Nat
def tw16560281169438976738:=Nat
def tw6670982476165234305:=Nat
def tw14894114573355213451:=Nat
def tw16084410988520223499:=Nat
def tw4100671122272007524:=Nat
def tw9840342946196446253:=Nat
def tw11078144769200796968:=Nat
def tw15704381771344131897:=Nat
def tw6219250918555439995:=Nat
def tw7659490080222576514:=Nat
def tw9584859450025203690:=Nat
def tw4604515085832118595:=Nat
def tw10731070251098360558:=Nat
def tw15175366166810990324:=Nat
def tw6894707218575833002:=Nat
def tw13123756328259135811:=Nat
def tw504096865226790093:=Nat
def tw8492446347677592198:=Nat
def tw7291633754721237947:=Nat
def tw14457409147359044446:=Nat
def tw14228465603144883287:=Nat
def tw969744316764015098:=Nat
def tw11650962630444170058:=Nat
def tw6011040661495973449:=Nat
def tw15241566307827355461:=Nat
def tw12718714881466019143:=Nat
def tw8067877845935837012:=Nat
def tw16843045741940183805:=Nat
def tw16540653563394108159:=Nat
def tw17295328528573077918:=Nat
def tw5029231557157522676:=Nat
def tw7108276939988257781:=Nat
def tw7564483231777062029:=Nat
def tw13945466254260404894:=Nat
def tw1360164679744520860:=Nat
def tw18152398032378249034:=Nat
def tw17083625123266097683:=Nat
def tw3233941980568491903:=Nat
def tw14559794708032366170:=Nat
def tw13347775889910483090:=Nat
def tw14991019339436118539:=Nat
def tw335126348887828452:=Nat
def tw10887861321779618512:=Nat
def tw16974923691747695164:=Nat
def tw12428877717663010301:=Nat
def tw5550229052235744549:=Nat
def tw2720850177419016356:=Nat
def tw2376209653519075717:=Nat
def tw14561977474106780410:=Nat
def tw15514676151471673431:=Nat
def tw1305405554993181373:=Nat
def tw9133252869409549768:=Nat
def tw14443353627548219835:=Nat
def tw17002430930855518291:=Nat
def tw18179627268854373759:=Nat
def tw2785847108563673894:=Nat
def tw4021316690371314099:=Nat
def tw16300993984544454082:=Nat
def tw11059747898605432430:=Nat
def tw8035790162431434201:=Nat
def tw1419625014939622580:=Nat
def tw10607634235619354786:=Nat
def tw4869124031258162333:=Nat
def tw13011780831700021565:=Nat
def tw10866239967423449633:=Nat
def tw9254812653300569154:=Nat
def tw9104389146166168908:=Nat
def tw13908094081851766646:=Nat
def tw5372253650329602309:=Nat
def tw506704813759347194:=Nat
def tw2855642683951173807:=Nat
def tw5846689956072419830:=Nat
def tw2701323670995434391:=Nat
def tw10093403090280356120:=Nat
def tw13171436009230575135:=Nat
def tw12994249449467417946:=Nat
def tw12221582195139366622:=Nat
def tw10369741319059457321:=Nat
def tw1056893151825357029:=Nat
def tw10995160044590852503:=Nat
def tw11461785752403710866:=Nat
def tw10891583907776721516:=Nat
def tw18047606956461528690:=Nat
def tw385840900854342622:=Nat
def tw13718847155363791356:=Nat
def tw12299861727018418769:=Nat
def tw15659089968825418718:=Nat
def tw3436715018398732995:=Nat
def tw7774870436868334433:=Nat
def tw10793692202884960516:=Nat
def tw5947694661233270980:=Nat
def tw6467488009880623509:=Nat
def tw16769850324055311316:=Nat
def tw15509962030841328483:=Nat
def tw1429217750652667370:=Nat
def tw10905173209290613221:=Nat
def tw14103175347221950750:=Nat
def tw7272222730736842628:=Nat
def tw4624808330249813854:=Nat
def tw12439120210507376899:=Nat
def tw3528453369703229048:=Nat
def tw11066499774381161741:=Nat
def tw8556051694525083759:=Nat
def tw17557930983434341888:=Nat
def tw2799463863197698299:=Nat
def tw4467781538931118942:=Nat
def tw10231223010321561642:=Nat
def tw13996678925388548867:=Nat
def tw16449825360732685261:=Nat
def tw13085841249987867736:=Nat
def tw1613406152690531308:=Nat
def tw1626168702676811877:=Nat
def tw13591849784444167698:=Nat
def tw4360315921302615954:=Nat
def tw7160526021609873235:=Nat
def tw18039357708332492071:=Nat
def tw7077727983539321187:=Nat
def tw1169495091966412182:=Nat
def tw14208459371293341496:=Nat
def tw2016462664406998690:=Nat
def tw13156424922137467696:=Nat
def tw17744795927547463699:=Nat
def tw8877126943751447994:=Nat
def tw12272846449854569241:=Nat
def tw4040976058889808166:=Nat
def tw1043778145637800700:=Nat
def tw16707070831909433242:=Nat
def tw8828203488191843307:=Nat
def tw14214392417237277305:=Nat
def tw15746203253914944149:=Nat
def tw15906637155299995135:=Nat
def tw13309149537120064921:=Nat
def tw3705133231757125033:=Nat
def tw16513783887317009632:=Nat
def tw2854253296629709721:=Nat
def tw2735736230703003780:=Nat
def tw10564483886927709455:=Nat
def tw1279382022711174457:=Nat
def tw14524061827940764446:=Nat
def tw14749686997109607557:=Nat
def tw11316918754008234727:=Nat
def tw16069779567527713043:=Nat
def tw5511424795544867415:=Nat
def tw8998474050363985388:=Nat
def tw9851591276798604472:=Nat
def tw7025020979269076402:=Nat
def tw16022493868423336883:=Nat
def tw1148431256642409537:=Nat
def tw16734932213569821897:=Nat
def tw13207254989371488739:=Nat
def tw10306664235681650127:=Nat
def tw14753762984014393671:=Nat
def tw12588781425246647100:=Nat
def tw3925532521425494976:=Nat
def tw6417892426562658020:=Nat
def tw5611909251277870419:=Nat
def tw17851473892558839021:=Nat
def tw9247383736143035908:=Nat
def tw17127130140683653188:=Nat
def tw12473473324376934543:=Nat
def tw121894430048397467:=Nat
def tw10174047517472943451:=Nat
def tw13650518119580581354:=Nat
def tw15569842390972537968:=Nat
def tw3516838260713679620:=Nat
def tw1472839333227015273:=Nat
def tw3581025952153849577:=Nat
def tw5932205897928274374:=Nat
def tw4357025347809891729:=Nat
def tw6344186762165852592:=Nat
def tw7621014550620276986:=Nat
def tw6040304998062605270:=Nat
def tw15362984830071354862:=Nat
def tw15104184211770525338:=Nat
def tw17592728781641626794:=Nat
def tw10722085508672003764:=Nat
def tw10624883414152858858:=Nat
def tw3049932368478983343:=Nat
def tw4961115289704003227:=Nat
def tw15460351066717989647:=Nat
def tw3352826641973057699:=Nat
def tw771615215726779987:=Nat
def tw10345772406395271838:=Nat
def tw5319750345625116820:=Nat
def tw15611184824329596684:=Nat
def tw15492186888625943642:=Nat
def tw6132504312893536347:=Nat
end PySem.W.Fast
open PySem PySem.W PyProof.Rows
local macro_rules| `(tactic|walk_at "F")=> `(tactic|(refine' L2.FnIn.mk' ?a ?l ?c ?k;(case a=>k_is);(case l=>k_is);(case c=>k_is);(case k=>k_is)))
set_option maxRecDepth 100000 in
set_option maxHeartbeats 0 in
theorem PySem.Challenge.cw_gluework_k45_splits_exact_holds : PySem.Challenge.rw_gluework_k45_splits_exact.Holds := by
 w_on;o_law;k_head;(case hw=>w_witness2);k_fill;refine K45.walk (l:=PySem.Challenge.rw_gluework_k45_splits_exact) rfl rfl (λw h Y=>PySem.W.kIn_of Y) ?F;case F=>
  intro w mg fa h KX G hmg
  refine' K45.all_mk KX G hmg ?a0 ?a1 ?a2 ?a3 ?a4 ?a5 ?a6 ?a7 ?a8 ?a9 ?a10 ?a11 ?a12 ?a13 ?a14 ?a15 ?a16 ?a17 ?a18 ?a19 ?a20 ?a21 ?a22 ?a23 ?a24 ?a25 ?a26 ?a27 ?a28 ?a29 ?a30 ?a31 ?a32 ?a33 ?a34 ?a35 ?a36 ?a37 ?a38 ?a39 ?a40 ?a41 ?a42 ?a43 ?a44 ?a45 ?a46 ?a47 ?a48 ?a49 ?a50 ?a51 ?a52 ?a53 ?a54 ?a55 ?a56 ?a57 ?a58 ?a59 ?a60 ?a61 ?a62 ?a63 ?a64 ?a65 ?z_all ?z_any ?z_dict ?z_enumerate ?z_isinstance ?z_len ?z_list ?z_range ?z_set ?z_sorted ?z_str ?z_sum ?z_tuple ?v_MOST_NAME_SIGNS ?v_NAME_SIGNS ?v_SMALL_LETTERS ?n_Barred ?n_GlueError ?n_HasBars ?n_Loose ?n_NoMatch ?n_NoNames ?n_NoOverlap ?xr_Barred ?xr_HasBars ?xr_Loose ?xr_NoMatch ?xr_NoNames ?xr_NoOverlap ?xt_GlueError ?xe_GlueError ?xc_GlueError ?xs_Barred_GlueError ?xs_HasBars_GlueError ?xs_Loose_GlueError ?xs_NoMatch_GlueError ?xs_NoNames_GlueError ?xs_NoOverlap_GlueError
  (case a0=>walk_at "F")
  (case a1=>walk_at "F")
  (case a2=>walk_at "F")
  (case a3=>walk_at "F")
  (case a4=>walk_at "F")
  (case a5=>walk_at "F")
  (case a6=>walk_at "F")
  (case a7=>walk_at "F")
  (case a8=>walk_at "F")
  (case a9=>walk_at "F")
  (case a10=>walk_at "F")
  (case a11=>walk_at "F")
  (case a12=>walk_at "F")
  (case a13=>walk_at "F")
  (case a14=>walk_at "F")
  (case a15=>walk_at "F")
  (case a16=>walk_at "F")
  (case a17=>walk_at "F")
  (case a18=>walk_at "F")
  (case a19=>walk_at "F")
  (case a20=>walk_at "F")
  (case a21=>walk_at "F")
  (case a22=>walk_at "F")
  (case a23=>walk_at "F")
  (case a24=>walk_at "F")
  (case a25=>walk_at "F")
  (case a26=>walk_at "F")
  (case a27=>walk_at "F")
  (case a28=>walk_at "F")
  (case a29=>walk_at "F")
  (case a30=>walk_at "F")
  (case a31=>walk_at "F")
  (case a32=>walk_at "F")
  (case a33=>walk_at "F")
  (case a34=>walk_at "F")
  (case a35=>walk_at "F")
  (case a36=>walk_at "F")
  (case a37=>walk_at "F")
  (case a38=>walk_at "F")
  (case a39=>walk_at "F")
  (case a40=>walk_at "F")
  (case a41=>walk_at "F")
  (case a42=>walk_at "F")
  (case a43=>walk_at "F")
  (case a44=>walk_at "F")
  (case a45=>walk_at "F")
  (case a46=>walk_at "F")
  (case a47=>walk_at "F")
  (case a48=>walk_at "F")
  (case a49=>walk_at "F")
  (case a50=>walk_at "F")
  (case a51=>walk_at "F")
  (case a52=>walk_at "F")
  (case a53=>walk_at "F")
  (case a54=>walk_at "F")
  (case a55=>walk_at "F")
  (case a56=>walk_at "F")
  (case a57=>walk_at "F")
  (case a58=>walk_at "F")
  (case a59=>walk_at "F")
  (case a60=>walk_at "F")
  (case a61=>walk_at "F")
  (case a62=>walk_at "F")
  (case a63=>walk_at "F")
  (case a64=>walk_at "F")
  (case a65=>walk_at "F")
  (case z_all|z_any|z_dict|z_enumerate|z_isinstance|z_len|z_list|z_range|z_set|z_sorted|z_str|z_sum|z_tuple|v_MOST_NAME_SIGNS|v_NAME_SIGNS|v_SMALL_LETTERS|n_Barred|n_GlueError|n_HasBars|n_Loose|n_NoMatch|n_NoNames|n_NoOverlap=>k_is)
  (case xr_Barred=>k_exc)
  (case xr_HasBars=>k_exc)
  (case xr_Loose=>k_exc)
  (case xr_NoMatch=>k_exc)
  (case xr_NoNames=>k_exc)
  (case xr_NoOverlap=>k_exc)
  (case xt_GlueError|xe_GlueError|xc_GlueError|xs_Barred_GlueError|xs_HasBars_GlueError|xs_Loose_GlueError|xs_NoMatch_GlueError|xs_NoNames_GlueError|xs_NoOverlap_GlueError=>k_is)
