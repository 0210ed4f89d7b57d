import PyProof.Rows.All
import Wide.All
import OpenK.AllK
import Wide.FinOn
import PyProof.EqAt
import PyProof.EqKinds
import PyProof.TupleCall
import PyProof.NeKinds
import PyProof.AttrMissHeap
import PyProof.ExcClass3
import PyProof.RulesAs
import PyProof.Rows.FStr
import OpenK.KOwn
import PyProof.NsDelKeeps
import PyProof.Rows.Catch
import PyProof.Rows.SetFrom
import PyProof.SetRoads
import PyProof.FactsAll.NoneType
import KE.KRevIter
import PyProof.ZipIter
import KE.KItemsList
import PyProof.MinMaxWalk
import PyProof.WalksMore
import PyProof.FString5
import PyProof.Rows.SortShellK
import PySem.Challenge.RW_gluework_k34_whole_apart
abbrev Qc:=PySem.W.Frag
abbrev Kb:=@List.length_map
abbrev Kc:=@List.getElem?_eq_getElem
abbrev Kd:=@List.mem_map
abbrev Ke:=@Nat.le_refl
abbrev Kf:=@List.mem_append_left
abbrev Kg:=@List.mem_append
abbrev Kh:=@List.getElem?_map
abbrev Ki:=@List.map_append
abbrev Kj:=@List.length_append
abbrev Kk:=@List.mem_append_right
abbrev Kl:=@List.take_of_length_le
abbrev Km:=@List.length_filter_le
abbrev Kn:=@PySem.Heap.get?_push_of_some
abbrev Ko:=@PySem.wpAny_bind
abbrev Kp:=@List.mem_filter
abbrev Kq:=@List.mem_singleton
abbrev Kr:=@List.mem_of_getElem?
abbrev Ks:=@List.nodup_append
abbrev Kt:=@List.length_take
abbrev Ku:=@List.length_singleton
abbrev Kv:=@PySem.Heap.lt_size
abbrev Kw:=@Nat.le_trans
abbrev Kx:=@Nat.lt_of_lt_of_le
abbrev Ky:=@PySem.wpAny_pure
abbrev Kz:=@List.mem_cons_self
abbrev KA:=@decide_eq_true
abbrev KC:=@Nat.ne_of_lt
abbrev KD:=@PySem.Heap.get?_push_size
abbrev KG:=@Option.some.inj
abbrev KH:=@List.size_toArray
abbrev KI:=@List.take_succ
abbrev KJ:=@decide_eq_true_eq
abbrev KL:=@List.mem_cons_of_mem
abbrev KN:=@Option.map_eq_some_iff
abbrev KO:=@Bool.and_eq_true
abbrev KP:=@List.filter_append
abbrev KQ:=@decide_eq_false
abbrev KR:=@List.filter_cons_of_pos
abbrev KS:=@List.getElem_mem
abbrev KU:=@PySem.PassesOwn.never
abbrev KW:=@PySem.Paired.length
abbrev KY:=@List.getD_eq_getElem?_getD
abbrev KZ:=@List.all_eq_true
abbrev La:=@List.append_assoc
abbrev Lb:=@List.append_nil
abbrev Lc:=@Bool.false_ne_true
abbrev Ld:=@List.filter_cons_of_neg
abbrev Lf:=@List.map_map
abbrev Lg:=@Bool.eq_iff_iff
abbrev Lh:=@List.mem_cons
abbrev Li:=@decide_eq_false_iff_not
abbrev Lj:=@Int.emod_lt_of_pos
abbrev Lk:=@List.map_cons
abbrev Ll:=@List.filter_sublist
abbrev Lm:=@List.getElem?_append_left
abbrev Ln:=@PySem.F.plainAttrs_dict
abbrev Lo:=@PySem.W.mg_none_of
abbrev Lp:=@List.filter_nil
abbrev Lq:=@List.length_cons
abbrev Ls:=@Int.emod_nonneg
abbrev Lu:=@PySem.F.plainAttrs_list
abbrev Lv:=@List.take_sublist
abbrev Lw:=@Bool.not_eq_true'
abbrev Lx:=@List.getElem?_append_right
abbrev Ly:=@of_decide_eq_true
abbrev Lz:=@Nat.lt_succ_self
abbrev LA:=@List.nodup_cons
abbrev LB:=@List.map_congr_left
abbrev LC:=@PySem.F.slot_list_append
abbrev LD:=@PySem.F.type_list_append
abbrev LF:=@List.nodup_nil
abbrev LG:=@PySem.wpAny_holding
abbrev LH:=@List.getElem?_eq_none
abbrev LJ:=@Nat.zero_le
abbrev LK:=@congrArg
abbrev LL:=@List.getElem?_eq_some_iff
abbrev LM:=@PySem.Around.under_plainId
abbrev LN:=@Nat.lt_irrefl
abbrev LO:=@PySem.F.slot_dict_values
abbrev LP:=@PyProof.Rows.callWith_type1
abbrev LQ:=@List.any_eq_true
abbrev LS:=@List.lookup_cons
abbrev LU:=@List.length_range
abbrev LV:=@PySem.F.type_dict_values
abbrev LW:=@Sum.inr.inj
abbrev LY:=@PySem.codeAny_builtin
abbrev LZ:=@List.getElem?_of_mem
abbrev Ma:=@List.perm_ext_iff_of_nodup
abbrev Mb:=@PySem.Calls.callWith_builtin
abbrev Mc:=@Ne.symm
abbrev Md:=@PySem.wpAny_truthy_bool
abbrev Me:=@List.drop_eq_getElem_cons
abbrev Mf:=@PySem.call_meetsIn
abbrev Mg:=@PySem.F.slot_dict_get
abbrev Mh:=@PySem.tupleKind_room_in1
abbrev Mi:=@PySem.F.slot_dict_update
abbrev Mj:=@List.filter_cons
abbrev Ml:=@List.eq_nil_of_length_eq_zero
abbrev Mm:=@Prod.mk.inj
abbrev Mn:=@List.getElem?_replicate
abbrev Mo:=@PySem.W.mg_of
abbrev Mp:=@List.mem_range
abbrev Mq:=@PySem.wpAny_Call_Name_kw
abbrev Mr:=@List.length_replicate
abbrev Ms:=@Array.getElem?_toList
abbrev Mt:=@List.all_map
abbrev Mu:=@Classical.byContradiction
abbrev Mv:=@Nat.mul_le_mul_right
abbrev Mw:=@List.mem_of_mem_take
abbrev My:=@PySem.wpAny_passesOwn
abbrev Mz:=@PyProof.Rows.slot_tuple_getitem
abbrev MA:=@PySem.wpAny_newObj_type
abbrev MB:=@PySem.W.kia_one
abbrev MC:=@List.range_succ
abbrev MD:=@List.flatMap_cons
abbrev ME:=@PySem.F.type_dict_update
abbrev MF:=@Nat.lt_or_ge
abbrev MG:=@List.eq_nil_iff_forall_not_mem
abbrev MH:=@Array.length_toList
abbrev MI:=@PySem.mem_of_lookup
abbrev MJ:=@beq_eq_false_iff_ne
abbrev MK:=@PySem.wpAny_getItem_str_slice
abbrev ML:=@Nat.le_succ
abbrev MM:=@PySem.plainId_quiet
abbrev MN:=@List.cons_append
abbrev MO:=@PySem.F.entry_dict_get
abbrev MQ:=@PySem.Calls.spliced_cons
abbrev MR:=@List.filter_filter
abbrev MS:=@PySem.wpAny_field
abbrev MT:=@List.find?_cons
abbrev MU:=@List.map_nil
abbrev MV:=@PySem.Txt.slice_le
abbrev MW:=@Bool.beq_eq_decide_eq
abbrev MX:=@PySem.wpAny_richCompare_same_room
abbrev MY:=@List.foldl_cons
abbrev MZ:=@PySem.F.called_set
abbrev Na:=@List.length_zip
abbrev Nb:=@PySem.wpAny_pyIter_list
abbrev Nc:=@List.Pairwise.map
abbrev Nd:=@Bool.true_and
abbrev Nf:=@PySem.Calls.evalArgs_plain
abbrev Ng:=@PySem.F.slot_list_ne
abbrev Nh:=@List.pairwise_iff_getElem
abbrev Ni:=@Option.getD_some
abbrev Nj:=@List.mem_flatMap
abbrev Nk:=@PySem.W.hideAll_get
abbrev Nl:=@List.filterMap_cons
abbrev Nm:=@List.filter_eq_self
abbrev Nn:=@Nat.le_of_lt
abbrev Np:=@PySem.F.slot_list_getattribute
abbrev Nq:=@PySem.wpAny_execs_nil
abbrev Nr:=@List.mem_filterMap
abbrev Nt:=@PySem.wpAny_callSpecial?_slot
abbrev Nu:=@List.all_cons
abbrev Nv:=@PySem.wpAny_Call_method0_late
abbrev Nw:=@Option.map_some
abbrev Nx:=@List.forIn_cons
abbrev Ny:=@Bool.false_eq_true
abbrev Nz:=@PyProof.Rows.F.plain_set_update_loop
abbrev NA:=@PySem.F.slot_zip_getattribute
abbrev NB:=@List.pairwise_cons
abbrev NC:=@List.getElem?_take
abbrev ND:=@PySem.wpAny_pyNext_list_item
abbrev NF:=@PySem.wpAny_nextOf_list_item
abbrev NG:=@PySem.Calls.spliced_nil
abbrev NH:=@PySem.atKey_none_of_get
abbrev NI:=@List.filter_congr
abbrev NJ:=@PySem.wpAny_pyNext_list_end
abbrev NK:=@PySem.codeAny_mono
abbrev NL:=@PySem.builtinLookup_eq_fast
abbrev NM:=@PySem.wpAny_notOrdered_dict
abbrev NN:=@Nat.le_of_sub_eq_zero
abbrev NO:=@List.map_id'
abbrev NP:=@PySem.wpAny_call_entry
abbrev NQ:=@List.drop_eq_nil_iff
abbrev NR:=@PySem.wpAny_mono
abbrev NS:=@PySem.SeqAt.EqAt.same
abbrev NT:=@PySem.evalArgs_none
abbrev NU:=@List.length_nil
abbrev NV:=@PySem.post_val_or_str
abbrev NW:=@PySem.F.slot_zip_next
abbrev NX:=@PySem.Heap.SameBut.update
abbrev NY:=@List.length_flatMap
abbrev NZ:=@List.flatMap_append
abbrev Oa:=@PySem.Calls.Name_function_global
abbrev Ob:=@Int.fdiv_eq_ediv_of_nonneg
abbrev Oc:=@PySem.W.of_hideAll
abbrev Od:=@PySem.wpAny_typeOf
abbrev Oe:=@Nat.lt_of_le_of_lt
abbrev Of:=@PySem.Heap.size_push
abbrev Og:=@PySem.Calls.call_function_entry
abbrev Oh:=@PySem.wpAny_seqItems
abbrev Oi:=@List.drop_zero
abbrev Oj:=@List.forIn_nil
abbrev Ol:=@List.getElem?_zip_eq_some
abbrev Om:=@List.lt_irrefl
abbrev Oo:=@Option.isSome_iff_exists
abbrev Oq:=@PySem.F.args_tuple_add_2
abbrev Ot:=@PySem.call_meets
abbrev Ou:=@Option.isSome_map
abbrev Ov:=@PySem.wpAny_comprehension_free
abbrev Ow:=@PySem.SeqAt.RcAt.lists_lengths
abbrev Ox:=@PySem.F.entry_tuple_add
abbrev Oy:=@if_true
abbrev Oz:=@PySem.F.args_dict_get_2
abbrev OA:=@PySem.F.args_dict_get_3
abbrev OC:=@List.lt_asymm
abbrev OD:=@List.sum_cons
abbrev OE:=@Nat.add_assoc
abbrev OF:=@List.length_eq_zero_iff
abbrev OG:=@List.length_drop
abbrev OH:=@beq_self_eq_true
abbrev OI:=@List.mem_reverse
abbrev OJ:=@List.countP_cons
abbrev OK:=@List.not_mem_nil
abbrev OL:=@Nat.le_add_right
abbrev OM:=@List.isEmpty_iff
abbrev ON:=@List.getElem?_set_self
abbrev OO:=@PySem.W.cellsFrom_some
abbrev OP:=@PySem.F.slot_tuple_add
abbrev OT:=@List.drop_of_length_le
abbrev OU:=@List.range_succ_eq_map
abbrev OW:=@PySem.F.args_list_ne_2
abbrev OX:=@List.filter_eq_nil_iff
abbrev OY:=@Nat.ne_of_gt
abbrev OZ:=@List.of_mem_zip
abbrev Pb:=@Nat.lt_trans
abbrev Pd:=@PySem.Heap.DictOf.new
abbrev Pe:=@PySem.F.type_dict_get
abbrev Pf:=@List.nil_append
abbrev Pg:=@Bool.or_eq_true
abbrev Ph:=@PySem.F.slot_tuple_eq
abbrev Pj:=@PySem.typeLookup_type
abbrev Pk:=@PySem.F.entry_list_ne
abbrev Pm:=@List.perm_append_comm
abbrev Pn:=@Int.zero_add
abbrev Po:=@Nat.not_lt_zero
abbrev Pp:=@if_false
abbrev Pq:=@PySem.typeIs_str
abbrev Pr:=@List.getElem?_set_ne
abbrev Py:=@Nat.pow_le_pow_right
abbrev Pz:=@Bool.and_false
abbrev PC:=@List.tail_drop
abbrev PD:=@List.take_zero
abbrev PF:=@Nat.mul_le_mul
abbrev PH:=@PySem.sizeLine_eq
abbrev PJ:=@List.getElem_of_mem
abbrev PK:=@PySem.W.kdu_collect
abbrev PQ:=@PySem.W.looks_subIn
abbrev PU:=@Nat.add_mul
abbrev PX:=@Nat.one_mul
abbrev PY:=@List.reverse_append
abbrev PZ:=@Array.toList_append
abbrev Qe:=@Array.append_assoc
abbrev Qf:=@PySem.wpAny_standAt
abbrev Qg:=@PySem.W.callWith_K
abbrev Qi:=@List.any_cons
abbrev Qj:=@List.getElem?_drop
abbrev Ql:=@Bool.and_true
abbrev Qp:=@PySem.strLen_append
abbrev Qr:=@PySem.W.kdl_values
abbrev Qu:=@Array.forIn_toList
abbrev Qx:=@Int.toNat_natCast
abbrev QH:=@List.any_eq_false
abbrev QJ:=@Nat.lt_succ_of_lt
abbrev QM:=@Nat.lt_trichotomy
abbrev QR:=@PySem.wpAny_rule
abbrev QX:=@List.getElem?_inj
abbrev QZ:=@Nat.min_self
abbrev Ra:=@Nat.pow_succ
abbrev SQ:=@beq_iff_eq
abbrev TK:=@Iff.rfl
set_option Elab.async false
set_option linter.all false
set_option maxRecDepth 100000
namespace L2
open PySem PySem.Spec PyProof.Rows
abbrev j6:=Sum Int Str
def iV:j6->Value->Bool
 | .inl k,v=>Value.isInt k v
 | .inr x,v=>Value.isStrOf x v
def Je (w:World):j6->Int
 | .inl k=>hashInt k
 | .inr x=>hashStr w x
theorem J0:∀{k:j6} {v:Value},iV k v=true->(∃i t,k=Sum.inl i/\v=Value.int i t)\/(∃x t,k=Sum.inr x/\v=Value.str x t)
 | .inl i,v,h=>by
  obtain⟨t,e⟩:=Value.isInt_shape (k:=i) (v:=v) h;exact .inl ⟨i,t,rfl,e⟩
 | .inr x,v,h=>by
  obtain⟨t,e⟩:=Value.isStrOf_shape (x:=x) (v:=v) h;exact .inr ⟨x,t,rfl,e⟩
def wG (i:Int)(t:Tok):iV (.inl i) (.int i t)=true:=by simp [iV,Value.isInt]
def xr (x:Str)(t:Tok):iV (.inr x) (.str x t)=true:=by simp [iV,Value.isStrOf]
def Dv (a b:Int):decide ((Sum.inl a:j6)=Sum.inl b)=(a==b):=by grind
def Eo (a b:Str):decide ((Sum.inr a:j6)=Sum.inr b)=decide (a=b):=by grind
def Dr (a:Int)(b:Str):decide ((Sum.inl a:j6)=Sum.inr b)=false:=KQ (λq=>nomatch q)
def EH (a:Str)(b:Int):decide ((Sum.inr a:j6)=Sum.inl b)=false:=KQ (λq=>nomatch q)
def z7 (prog:Program)(w:World):PySem.KeyKind prog w j6 where
 is:=iV
 hash:=Je w
 inj:=λv a b ha hb=>by
  rcases J0 ha with⟨i,t,rfl,rfl⟩|⟨x,t,rfl,rfl⟩
  .rcases J0 hb with⟨j,u,rfl,e⟩|⟨y,u,rfl,e⟩
   .injection e with e1 _;rw[e1]
   .exact nomatch e
  .rcases J0 hb with⟨j,u,rfl,e⟩|⟨y,u,rfl,e⟩
   .exact nomatch e
   .injection e with e1 _;rw[e1]
 byValue:=λk v h=>by
  rcases J0 h with⟨i,t,rfl,rfl⟩|⟨x,t,rfl,rfl⟩<;>rfl
 pyHash:=λhv h=>by
  rcases J0 hv with⟨i,t,rfl,rfl⟩|⟨x,t,rfl,rfl⟩
  .exact wpAny_pyHash_int h
  .exact wpAny_pyHash_str h
 eqBool:=λhu hv h=>by
  rcases J0 hu with⟨i,t,rfl,rfl⟩|⟨x,t,rfl,rfl⟩
  .rcases J0 hv with⟨j,u,rfl,rfl⟩|⟨y,u,rfl,rfl⟩
   .rw[Dv] at h;exact wpAny_eqBool_int h
   .rw[Dr] at h;exact SeqAt.EqAt.int_str i t y u _ _ _ _ h
  .rcases J0 hv with⟨j,u,rfl,rfl⟩|⟨y,u,rfl,rfl⟩
   .rw[EH] at h;exact SeqAt.EqAt.str_int x t j u _ _ _ _ h
   .rw[Eo] at h;exact wpAny_eqBool_str h
 «strs»:=λk x t v h=>by
  rcases J0 h with⟨i,u,rfl,e⟩|⟨y,u,rfl,e⟩
  .exact nomatch e
  .injection e with e1 _
   subst e1;cases v<;>rfl
def qL (prog:Program)(w:World)(i:Int)(t:Tok):(z7 prog w).is (.inl i) (.int i t)=true:=wG i t
def sr (prog:Program)(w:World)(x:Str)(t:Tok):(z7 prog w).is (.inr x) (.str x t)=true:=xr x t
inductive V where
 |non|bl (b:Bool)|int (i:Int)|str (x:Str)|byt (b:Array UInt8)|flt (b:UInt64)|ref (a:Addr)|ty (n:String)
 deriving DecidableEq
def RelV:V->Value->Prop
 | .non,u=>u=Value.none
 | .bl b,u=>u=Value.bool b
 | .int i,u=>∃t,u=Value.int i t
 | .str x,u=>∃t,u=Value.str x t
 | .byt b,u=>∃t,u=Value.bytes b t
 | .flt b,u=>∃t,u=Value.float b t
 | .ref a,u=>u=Value.ref a
 | .ty n,u=>u=Value.type n
abbrev Vals:List V->List Value->Prop:=Paired RelV
def Vals.length {xs:List V}{us:List Value}(r:Vals xs us):xs.length=us.length:=KW r
theorem Vals.get:∀{xs:List V} {us:List Value} {i:Nat} {x:V},Vals xs us->xs[i]?=some x->∃u,us[i]?=some u/\RelV x u
 |_,_,_,_,.nil,e=>by simp at e
 |_,_,0,_,.cons r _,e=>by simp at e;subst e;exact⟨_,rfl,r⟩
 |_,_,i+1,x,.cons _ t,e=>by
  obtain⟨u,h1,h2⟩:=Vals.get (i:=i) (x:=x) t (by simpa using e);exact⟨u,by simpa using h1,h2⟩
theorem Vals.set {x:V}{u:Value}(r:RelV x u):∀{xs:List V} {us:List Value} (i:Nat),Vals xs us->Vals (xs.set i x) (us.set i u)
 |_,_,_,.nil=> .nil
 |_,_,0,.cons _ t=> .cons r t
 |_,_,i+1,.cons q t=> .cons q (Vals.set r i t)
theorem Vals.append:∀{xs ys:List V} {us ws:List Value},Vals xs us->Vals ys ws->Vals (xs++ys) (us++ws)
 |_,_,_,_,.nil,s=>s
 |_,_,_,_,.cons r t,s=> .cons r (Vals.append t s)
theorem Vals.take:∀{xs:List V} {us:List Value} (n:Nat),Vals xs us->Vals (xs.take n) (us.take n)
 |_,_,0,_=> .nil
 |_,_,_+1,.nil=> .nil
 |_,_,n+1,.cons r t=> .cons r (Vals.take n t)
theorem Vals.drop:∀{xs:List V} {us:List Value} (n:Nat),Vals xs us->Vals (xs.drop n) (us.drop n)
 |_,_,0,r=>r
 |_,_,_+1,.nil=> .nil
 |_,_,n+1,.cons _ t=>Vals.drop n t
def RelO:Option V->Option Value->Prop
 |some v,some u=>RelV v u
 |none,none=>True
 |_,_=>False
def KV {κ:Type}:List (κ×V)->List (κ×Value)->Prop:=Paired fun(p:κ×V) (q:κ×Value)=>p.1=q.1/\RelV p.2 q.2
def kV:j6->V
 | .inl i=> .int i
 | .inr x=> .str x
inductive HO where
 |lst (xs:List V)
 |tup (xs:List V)
 |dK (kvs:List (j6×V))|dT (kvs:List (List j6×V))
 |set (S:Int->Bool) (n:Nat)
 |ins (C dx:Addr) (fs:List (Str×V))
 |own (x:Addr)
 |xd (fs:List (Str×V))
 |met (f x:Addr)
 |rng (lo hi:Int)
 |frz (o:Obj) (u:HO)
 |tbl (ps:Array Value)
 |ext (φ:Heap->Prop)
abbrev Hp:=Addr->Option HO
def upd (H:Hp)(a:Addr)(o:HO):Hp:=λb=>if b=a then some o else H b
theorem d6 {H:Hp}{a:Addr}{o:HO}:upd H a o a=some o:=by unfold upd;rw[if_pos rfl]
theorem b9 {H:Hp}{a b:Addr}{o:HO}(h:b≠a):upd H a o b=H b:=by unfold upd;rw[if_neg h]
def Cz {H:Hp}{a b:Addr}{o u:HO}(h:H a=some o)(h':H b=some u)(d:o≠u):a≠b:=by
 intro e;subst e;rw[h] at h';exact d (KG h')
def d9 {H:Hp}{a b:Addr}{o:HO}(h:H a=some o)(h':H b=none):a≠b:=by
 intro e;subst e;rw[h] at h';cases h'
section
variable (P:Program) (w:World)
def ObjOk (H:Hp)(h:Heap)(a:Addr):HO->Prop
 | .lst xs=>xs.length<=sizeLine/\∃(a_:List Value) (n:Nat),Vals xs a_/\h.get? a=some {cls:= .type "list",data:= .seq a_.toArray n}
 | .tup xs=>xs.length<=sizeLine/\∃a_:List Value,Vals xs a_/\IsTup h a a_.toArray
 | .dK kvs=>kvs.length<=sizeLine/\(a==sysModules)=false/\∃vs,KV kvs vs/\h.DictOf (z7 P w) a vs
 | .dT kvs=>kvs.length<=sizeLine/\(a==sysModules)=false/\∃xs:List (List j6×Addr×Value),
   Paired (fun(p:List j6×V) (q:List j6×Addr×Value)=>p.1=q.1/\H q.2.1=some (.tup (p.1.map kV))/\RelV p.2 q.2.2) kvs xs/\
   ∃o es ep,h.get? a=some o/\o.ExactDict/\o.data= .dict es ep/\es.toList=xs.map (entryOfKey (tupleKind (z7 P w)))/\(xs.map (·.1)).Nodup
 | .set S n=>h.SetOf (intKind P w) a S n
 | .ins C dx fs=>H dx=some (.own a)/\fs.length<=1000/\dx≠a/\h.get? a=some (PySem.W.instObj C dx)/\
   ∃mA,h.Ns1 dx mA/\(∀f,RelO (fs.lookup f) (mA f))/\PySem.Within mA (fs.map (·.1))
 | .own _=>∃o,h.get? a=some o
 | .xd fs=>∃mA,h.Ns1 a mA/\∀f,RelO (fs.lookup f) (mA f)
 | .rng lo hi=>∃t u v,h.get? a=some {cls:= .type "range",data:= .fields #[.int lo t,.int hi u,.int 1 v]}
 | .frz o u=>h.get? a=some o/\ObjOk H h a u
 | .tbl ps=>h.get? a=some {cls:= .none,data:= .fields ps}
 | .met f x=>h.get? a=some (PySem.W.methodObj (.ref f) (.ref x))
 | .ext φ=>φ h/\(∃o,h.get? a=some o)/\∀h1 h2:Heap,φ h1->(∀o,h1.get? a=some o->h2.get? a=some o)->φ h2
def HOk (H:Hp)(h:Heap):Prop:=∀a o,H a=some o->ObjOk P w H h a o
end
section
variable {P:Program} {w:World} {H H':Hp} {h h':Heap} {a:Addr} {o:HO}
def ObjOk.lt (x:ObjOk P w H h a o):a<h.objs.size:=by
 cases o with
 |lst xs=>obtain⟨_,_,_,_,e⟩:=x;exact Kv e
 |tup xs=>obtain⟨_,_,_,p⟩:=x;exact p.lt
 |dK kvs=>obtain⟨_,_,_,_,o,_,_,e,_⟩:=x;exact Kv e
 |dT kvs=>obtain⟨_,_,_,_,o,_,_,e,_⟩:=x;exact Kv e
 |set S n=>obtain⟨o,_,_,_,e,_⟩:=x;exact Kv e
 |ins C dx fs=>obtain⟨_,_,_,e,_⟩:=x;exact Kv e
 |own y=>obtain⟨_,e⟩:=x;exact Kv e
 |xd fs=>obtain⟨_,⟨_,_,_,e,_⟩,_⟩:=x;exact Kv e
 |rng lo hi=>obtain⟨_,_,_,e⟩:=x;exact Kv e
 |frz ob u=>obtain⟨e,_⟩:=x;exact Kv e
 |tbl ps=>exact Kv (show h.get? a=some _ from x)
 |met f y=>exact Kv (show h.get? a=some _ from x)
 |ext φ=>obtain⟨_,⟨_,e⟩,_⟩:=x;exact Kv e
theorem Paired.mapP {α β:Type}{F G:α->β->Prop}:∀{l₁:List α} {l₂:List β},Paired F l₁ l₂->(∀a b,F a b->G a b)->Paired G l₁ l₂
 |_,_,.nil,_=> .nil
 |_,_,.cons r t,f=> .cons (f _ _ r) (Paired.mapP t f)
def Paired.imp' {α β:Type}{F G:α->β->Prop}(f:∀a b,F a b->G a b){l₁:List α}{l₂:List β}(r:Paired F l₁ l₂):Paired G l₁ l₂:=Paired.mapP r f
def ObjOk.stay (x:ObjOk P w H h a o)(k:∀b u,(b=a\/H b=some (.own a))->h.get? b=some u->h'.get? b=some u)
  (ho:∀b,H b=some (.own a)->H' b=some (.own a)) (ht:∀b xs,H b=some (.tup xs)->H' b=some (.tup xs)):ObjOk P w H' h' a o:=by
 induction o with
 |lst xs=>obtain⟨z,a_,n,r,e⟩:=x;exact⟨z,a_,n,r,k _ _ (.inl rfl) e⟩
 |tup xs=>obtain⟨z,a_,r,ob,e,c⟩:=x;exact⟨z,a_,r,ob,k _ _ (.inl rfl) e,c⟩
 |dK kvs=>obtain⟨z,y,vs,r,ob,es,ep,e,c⟩:=x;exact⟨z,y,vs,r,ob,es,ep,k _ _ (.inl rfl) e,c⟩
 |dT kvs=>
  obtain⟨z,y,xs,r,ob,es,ep,e,c⟩:=x
  exact⟨z,y,xs,Paired.mapP r λp q z=>⟨z.1,ht _ _ z.2.1,z.2.2⟩,ob,es,ep,k _ _ (.inl rfl) e,c⟩
 |set S n=>obtain⟨ob,es,ep,t,e,c⟩:=x;exact⟨ob,es,ep,t,k _ _ (.inl rfl) e,c⟩
 |ins C dx fs=>
  obtain⟨d,z,ne,e,mA,⟨od,es,ep,e2,c⟩,r⟩:=x
  exact⟨ho _ d,z,ne,k _ _ (.inl rfl) e,mA,⟨od,es,ep,k _ _ (.inr d) e2,c⟩,r⟩
 |own y=>obtain⟨ob,e⟩:=x;exact⟨ob,k _ _ (.inl rfl) e⟩
 |xd fs=>obtain⟨mA,⟨od,es,ep,e,c⟩,r⟩:=x;exact⟨mA,⟨od,es,ep,k _ _ (.inl rfl) e,c⟩,r⟩
 |rng lo hi=>obtain⟨t,u,v,e⟩:=x;exact⟨t,u,v,k _ _ (.inl rfl) e⟩
 |frz ob u ih=>obtain⟨e,q⟩:=x;exact⟨k _ _ (.inl rfl) e,ih q⟩
 |tbl ps=>
  have e:h.get? a=some {cls:= .none,data:= .fields ps}:=x
  show h'.get? a=some {cls:= .none,data:= .fields ps}
  exact k a _ (.inl rfl) e
 |met f y=>
  have e:h.get? a=some (PySem.W.methodObj (.ref f) (.ref y)):=x
  show h'.get? a=some (PySem.W.methodObj (.ref f) (.ref y))
  exact k a _ (.inl rfl) e
 |ext φ=>obtain⟨p,⟨o,e⟩,st⟩:=x;exact⟨st _ _ p λo q=>k _ _ (.inl rfl) q,⟨o,k _ _ (.inl rfl) e⟩,st⟩
def HOk.lt (x:HOk P w H h)(e:H a=some o):a<h.objs.size:=(x a o e).lt
def HOk.fresh (x:HOk P w H h)(e:h.objs.size<=a):H a=none:=by
 cases q:H a with
 |none=>rfl
 |some u=>exact absurd (Kx (x.lt q) e) (LN _)
def HOk.kept (x:HOk P w H h)(k:∀b u,h.get? b=some u->h'.get? b=some u):HOk P w H h':=λa o e=>
 (x a o e).stay (λb u _ q=>k b u q) (λ_ q=>q) λ_ _ q=>q
def HOk.laid (x:HOk P w H h)(k:∀b u,h.get? b=some u->h'.get? b=some u)(hp:h.objs.size<=a)(new:ObjOk P w (upd H a o) h' a o):HOk P w (upd H a o) h':=λb u e=>by
 have hn:=x.fresh hp;by_cases hb:b=a
 .subst hb;rw[d6] at e;cases e;exact new
 .rw[b9 hb] at e;exact(x b u e).stay (λc v _ q=>k c v q) (λc q=>by rw[b9 (d9 q hn)];exact q) λc xs q=>by rw[b9 (d9 q hn)];exact q
end
def Rd (H:Hp)(a:Addr)(u:HO):Prop:=H a=some u\/∃o,H a=some (.frz o u)
def Rd.ok {P:Program}{w:World}{H:Hp}{h:Heap}{a:Addr}{u:HO}(r:Rd H a u)(x:HOk P w H h):ObjOk P w H h a u:=by
 rcases r with r|⟨o,r⟩
 .exact x a u r
 .obtain⟨_,q⟩:=x a _ r;exact q
def Gp:Option HO->Prop
 |some (.lst _)=>True
 |some (.dK _)=>True
 |some (.dT _)=>True
 |some (.set _ _)=>True
 |some (.ins _ _ _)=>True
 |some (.ext _)=>True
 |_=>False
section
variable {P:Program} {w:World} {H:Hp} {h h':Heap} {x e:Addr} {o':HO}
def HOk.write (ok:HOk P w H h)(mu:Gp (H x))(he:e=x\/H e=some (.own x))(k:∀b u,b≠e->h.get? b=some u->h'.get? b=some u)(Ts:∃u,h'.get? e=some u)
  (new:ObjOk P w (upd H x o') h' x o'):HOk P w (upd H x o') h':=λb u q=>by
 have Vx:∀c y,H c=some (.own y)->c≠x:=λc y r z=>by subst z;rw[r] at mu;exact mu
 have XY:∀c xs,H c=some (.tup xs)->c≠x:=λc xs r z=>by subst z;rw[r] at mu;exact mu
 by_cases hb:b=x
 .subst hb;rw[d6] at q;cases q;exact new
 .rw[b9 hb] at q
  by_cases hbe:b=e
  .have q':H b=some (.own x):=by
    rcases he with z|z
    .exact absurd (hbe.trans z) hb
    .rw[hbe];exact z
   rw[q] at q';cases q'
   obtain⟨v,hv⟩:=Ts
   exact⟨v,by rw[hbe];exact hv⟩
  .refine(ok b u q).stay (λc v hc r=>k c v ?_ r) (λc r=>by rw[b9 (Vx c b r)];exact r) λc xs r=>by rw[b9 (XY c xs r)];exact r
   rcases hc with rfl|hc
   .exact hbe
   .rintro rfl
    rcases he with z|z
    .exact Vx c b hc z
    .rw[hc] at z;cases z;exact hb rfl
end
structure Un (fs ex:List Addr) (H H':Hp) (h h':Heap):Prop where
 keep:∀b o,h.get? b=some o->H b=none->b∉fs->b∉ex->h'.get? b=some o
 slot:∀b o,h.get? b=some o->H b=none->b∈fs->b∉ex->∃sl,h'.get? b=some {o with slots:=sl}
 free:∀b o,h.get? b=some o->H b=none->b∉ex->H' b=none
 there:∀b o,h.get? b=some o->b∉ex->∃o',h'.get? b=some o'
 tups:∀b xs,H b=some (.tup xs)->H' b=some (.tup xs)
 frzs:∀b o u,H b=some (.frz o u)->H' b=some (.frz o u)
 tbls:∀b ps,H b=some (.tbl ps)->∃more,H' b=some (.tbl (ps++more))
section
variable {fs fs' ex O':List Addr} {H H1 H2:Hp} {h h1 h2 h':Heap} {a x e:Addr} {o:HO}
def Un.any (u:Un fs ex H H1 h h1){b:Addr}{ob:Obj}(q:h.get? b=some ob)(n:H b=none)(hx:b∉ex):∃sl,h1.get? b=some {ob with slots:=sl}:=by
 by_cases hb:b∈fs
 .exact u.slot b ob q n hb hx
 .exact⟨ob.slots,u.keep b ob q n hb hx⟩
def Un.kept (k:∀b u,h.get? b=some u->h'.get? b=some u):Un fs ex H H h h':=
 ⟨λb ob q _ _ _=>k b ob q,λb ob q _ _ _=>⟨ob.slots,k b ob q⟩,λ_ _ _ n _=>n,λb ob q _=>⟨ob,k b ob q⟩,λ_ _ q=>q,λ_ _ _ q=>q,λ_ ps q=>⟨#[],by rw[q];simp⟩⟩
def Un.refl:Un fs ex H H h h:=Un.kept λ_ _ q=>q
def Un.laid (k:∀b u,h.get? b=some u->h'.get? b=some u)(hp:h.objs.size<=a)(hn:H a=none):Un fs ex H (upd H a o) h h' where
 keep:=λb u q _ _ _=>k b u q
 slot:=λb u q _ _ _=>⟨u.slots,k b u q⟩
 free:=λb u q n _=>by rw[b9 (KC (Kx (Kv q) hp))];exact n
 there:=λb u q _=>⟨u,k b u q⟩
 tups:=λb xs q=>by rw[b9 (d9 q hn)];exact q
 frzs:=λb u xs q=>by rw[b9 (d9 q hn)];exact q
 tbls:=λb ps q=>⟨#[],by rw[b9 (d9 q hn),q];simp⟩
def Un.write (mu:Gp (H x))(he:e=x\/H e=some (.own x))(k:∀b u,b≠e->h.get? b=some u->h'.get? b=some u)(Ts:∃u,h'.get? e=some u):Un fs ex H (upd H x o) h h':=by
 have hx:∀b,H b=none->b≠x:=λb n z=>by subst z;rw[n] at mu;exact mu
 have hb:∀b,H b=none->b≠e:=λb n z=>by
  subst z;rcases he with r|r
  .exact hx b n r
  .rw[n] at r;cases r
 have hm:∀b u,H b=some u->¬Gp (some u)->b≠x:=λb u q nm z=>by subst z;rw[q] at mu;exact nm mu
 refine⟨λb u q n _ _=>k b u (hb b n) q,λb u q n _ _=>⟨u.slots,k b u (hb b n) q⟩,λb u q n _=>by rw[b9 (hx b n)];exact n,λb u q _=>?_,
  λb xs q=>by rw[b9 (hm b _ q λz=>z)];exact q,λb u xs q=>by rw[b9 (hm b _ q λz=>z)];exact q,λb ps q=>⟨#[],by rw[b9 (hm b _ q λz=>z),q];simp⟩⟩
 by_cases hbe:b=e
 .subst hbe;exact Ts
 .exact⟨u,k b u hbe q⟩
end
def Ib (h:Heap)(H:Hp):List Addr:=(List.range h.objs.size).filter λa=>(H a).isSome
def pC (h:Heap)(H:Hp):Heap:=PySem.W.hideAll h (Ib h H)
def vU (h:Heap)(H:Hp):(pC h H).objs.size=h.objs.size:=PySem.W.hideAll_size _ _
def yo {h:Heap}{H:Hp}{b:Addr}{o:Obj}(e:h.get? b=some o)(n:H b=none):(pC h H).get? b=some o:=
 Nk _ e λhm=>by
  have q:(H b).isSome=true:=(Kp.mp hm).2;rw[n] at q;simp at q
def Bw {h:Heap}{H:Hp}{b:Addr}{o:Obj}(e:(pC h H).get? b=some o):h.get? b=some o/\H b=none:=by
 have e':h.get? b=some o:=Oc (Ib h H) e;refine⟨e',?_⟩;cases q:H b with
 |none=>rfl
 |some x=>
  have hm:b∈Ib h H:=Kp.mpr ⟨Mp.mpr (Kv e'),by simp [q]⟩
  have z:(pC h H).get? b=none:=PySem.W.hideAll_none (Ib h H) hm
  rw[z] at e;cases e
def Cc (g h:Heap)(L:Addr):List (Addr×Obj):=(List.range h.objs.size).filterMap λa=>if a=L\/(g.get? a).isSome=true then none else(h.get? a).map λo=>(a,o)
def aQ (g h:Heap)(L d:Addr):List (Addr×Obj):=(Cc g h L).filter λp=>decide (p.1≠d)
structure Mod (K:Qc) (mg:Str->Option Value) (base:Heap):Prop where
 kin:K.In base
 glob:base.Ns mainGlobals mg
 blt:∃mb,base.Ns builtinsNs mb/\∀x:Str,x≠"__name__"->mb x=bootBuiltins x
 nolimit:base.NoLimit
structure Cx where
 prog:Program
 w:World
 K:Qc
 mg:Str->Option Value
 base:Heap
 A:Around
 N:List Str
 s₀:Shared
 H₀:Hp
 env:Env
 outer:List Env
 stack:List Env
 ex:List Addr
 fn:Str->Bool
 calm:Bool
 pn:List (Addr×Obj)
 xe:Value->Shared->Prop
def bS (l:List Env):List Addr:=l.filterMap (·.frame)
abbrev Cx.fs (X:Cx):List Addr:=bS X.outer
def IY (sc:Scope)(x:Str):Prop:=sc.names.lookup x=some .local\/sc.names.lookup x=some .cell\/sc.names.lookup x=some .free
def CZ (sc:Scope)(x:Str):Prop:=sc.names.lookup x=some .local\/sc.names.lookup x=some .cell
def IA (env:Env)(h:Heap)(m:Str->Option Value)(x:Str)(u:Value):Prop:=
 (env.kindOf x=some .local/\m x=some u)\/((env.kindOf x=some .cell\/env.kindOf x=some .free)/\∃c,env.cells.lookup x=some c/\h.IsCell c (some u))
structure Cx.Ok (X:Cx):Prop where
 mod:Mod X.K X.mg X.base
 kind:X.env.scope.kind= .function
 glob:X.env.globals=mainGlobals
 blt:X.env.builtins=builtinsNs
 above:X.s₀.heap.objs.size<=X.env.locals
 inj:∀x y c,X.env.cells.lookup x=some c->X.env.cells.lookup y=some c->x=y
 has:∀x,(X.env.kindOf x=some .cell\/X.env.kindOf x=some .free)->∃c,X.env.cells.lookup x=some c
 cab:∀x c,X.fn x=true->X.env.cells.lookup x=some c->X.s₀.heap.objs.size<=c
 hd:X.calm=true->X.A.handled=none
 frames:X.A.frames=some X.stack
 stk:X.stack=X.outer\/(X.stack=X.env::X.outer/\X.env.frame=some X.env.locals)
 exf:∀b∈X.ex,b≠X.env.locals/\∀x c,X.env.cells.lookup x=some c->c≠b
 bs:∀b o,X.base.get? b=some o->X.s₀.heap.get? b=some o/\X.H₀ b=none
 bsz:X.base.objs.size<=X.s₀.heap.objs.size
 noex:∀b o,X.base.get? b=some o->b∉X.ex
 exfs:∀b∈X.ex,b∉X.fs
 funs:X.s₀.heap.FunFrames X.base X.outer
 frf:∀b∈X.fs,X.H₀ b=none
structure Inv (X:Cx) (pins:List (Addr×Obj)) (σ:List (Option V)) (H:Hp) (s:Shared):Prop where
 ok:X.Ok
 os:s.os=X.s₀.os
 bare:AllBare s.gens
 base:Un X.fs X.ex X.H₀ H X.s₀.heap s.heap
 loc:∃m,s.heap.Ns X.env.locals m/\∀(i:Nat) (x:Str) (v:V),X.N[i]?=some x->σ[i]?=some (some v)->IY X.env.scope x->∃u,RelV v u/\IA X.env s.heap m x u
 cell:∀x c,X.env.cells.lookup x=some c->∃v,s.heap.IsCell c v
 free:H X.env.locals=none
 freeC:∀x c,X.env.cells.lookup x=some c->H c=none
 pin:∀p∈X.pn++pins,s.heap.get? p.1=some p.2/\H p.1=none/\p.1≠X.env.locals/\p.1∉X.fs/\∀v,p.2.data≠ .cell v
 hok:HOk X.prog X.w H s.heap
 len:σ.length=X.N.length
section
variable {X:Cx} {pins:List (Addr×Obj)} {σ:List (Option V)} {H H':Hp} {s:Shared} {h':Heap}
def Cx.Ok.nofr (ok:X.Ok){b:Addr}{o:Obj}(e:X.base.get? b=some o):b∉X.fs:=λhb=>by
 have:=(ok.funs.mem hb).1;rw[e] at this;cases this
def Inv.bs (I:Inv X pins σ H s):∀b o,X.base.get? b=some o->s.heap.get? b=some o/\H b=none:=λb o e=>
 ⟨I.base.keep b o (I.ok.bs b o e).1 (I.ok.bs b o e).2 (I.ok.nofr e) (I.ok.noex b o e),I.base.free b o (I.ok.bs b o e).1 (I.ok.bs b o e).2 (I.ok.noex b o e)⟩
def Inv.bk (I:Inv X pins σ H s):∀b o,X.base.get? b=some o->s.heap.get? b=some o:=λb o e=>(I.bs b o e).1
def Inv.mod (I:Inv X pins σ H s):Mod X.K X.mg X.base:=I.ok.mod
def Inv.kIn (I:Inv X pins σ H s):X.K.In s.heap:=I.ok.mod.kin.keeps I.bk
def Inv.lt (I:Inv X pins σ H s):X.env.locals<s.heap.objs.size:=let ⟨_,hn,_⟩:=I.loc;hn.lt
def Inv.sz (I:Inv X pins σ H s):X.s₀.heap.objs.size<=s.heap.objs.size:=Kw I.ok.above (Nn I.lt)
def Inv.nofs (I:Inv X pins σ H s){a:Addr}(h:s.heap.objs.size<=a):a∉X.fs:=λhb=>by
 obtain⟨_,o,ho,_⟩:=I.ok.funs.mem hb;exact absurd (Kx (Kv ho) (Kw I.sz h)) (LN _)
def Inv.cne (I:Inv X pins σ H s):∀x c,X.env.cells.lookup x=some c->c≠X.env.locals:=λx c e z=>by
 obtain⟨v,o,ho,hd⟩:=I.cell x c e;obtain⟨m,⟨o',es,ep,SS,Vy,_⟩,_⟩:=I.loc;rw[z,SS] at ho;cases ho;rw[Vy] at hd;cases hd
def Inv.funs (I:Inv X pins σ H s):s.heap.FunFrames X.base X.outer:=by
 have all:∀(l:List Env),(∀b∈bS l,b∈X.fs)->X.s₀.heap.FunFrames X.base l->s.heap.FunFrames X.base l:=by
  intro l;induction l with
  |nil=>intro _ _;trivial
  |cons env r ih=>
   intro hs hl
   obtain⟨hk,⟨L,o,hf,hn,ho,hd⟩,hr⟩:=hl
   have hL:L∈X.fs:=hs L (by unfold bS;rw[Nl,hf];exact Kz)
   obtain⟨sl,e⟩:=I.base.slot L o ho (I.ok.frf L hL) hL λz=>I.ok.exfs L z hL
   exact⟨hk,⟨L,_,hf,hn,e,hd⟩,ih (λb hb=>hs b (by unfold bS;rw[Nl,hf];exact KL _ hb)) hr⟩
 exact all X.outer (λ_ hb=>hb) I.ok.funs
def Inv.stack (I:Inv X pins σ H s):s.heap.FunFrames X.base X.stack:=by
 rcases I.ok.stk with e|⟨e,hf⟩
 .rw[e];exact I.funs
 .rw[e];obtain⟨m,hn,_⟩:=I.loc;refine .cons (by rw[I.ok.kind];decide) hf hn ?_ I.funs;exact Heap.get?_none_of_le (Kw I.ok.bsz I.ok.above)
def Inv.stkSub (I:Inv X pins σ H s):∀b∈bS X.stack,b∈X.env.locals::X.fs:=λb hb=>by
 rcases I.ok.stk with e|⟨e,hf⟩
 .rw[e] at hb;exact KL _ hb
 .rw[e] at hb;unfold bS at hb;rw[Nl,hf] at hb;exact hb
def Inv.stkFree (I:Inv X pins σ H s):∀b∈bS X.stack,H b=none:=λb hb=>by
 rcases Lh.mp (I.stkSub b hb) with e|hb
 .rw[e];exact I.free
 .obtain⟨_,o,ho,_⟩:=I.ok.funs.mem hb;exact I.base.free b o ho (I.ok.frf b hb) λz=>I.ok.exfs b z hb
def Inv.step {g':Array GenState}{t':Nat}{d':Drawn}{ch:List Addr}(I:Inv X pins σ H s)
  (SA:∀b∈ch,(b∈X.ex\/X.s₀.heap.objs.size<=b)/\b≠X.env.locals/\(∀x c,X.env.cells.lookup x=some c->c≠b)/\∀p∈X.pn++pins,p.1≠b)
  (keep:∀b o,b≠X.env.locals->b∉X.fs->b∉ch->s.heap.get? b=some o->H b=none->h'.get? b=some o)
  (slot:∀b o,b≠X.env.locals->b∈X.fs->b∉ch->s.heap.get? b=some o->H b=none->∃sl,h'.get? b=some {o with slots:=sl}) (free:∀b o,b∉ch->s.heap.get? b=some o->H b=none->H' b=none)
  (there:∀b o,b∉ch->s.heap.get? b=some o->∃o',h'.get? b=some o')
  (tups:∀b xs,H b=some (.tup xs)->H' b=some (.tup xs)) (frzs:∀b o u,H b=some (.frz o u)->H' b=some (.frz o u)) (tbls:∀b ps,H b=some (.tbl ps)->∃more,H' b=some (.tbl (ps++more)))
  (ns:∀m,s.heap.Ns X.env.locals m->h'.Ns X.env.locals m) (hok:HOk X.prog X.w H' h') (hg:AllBare g'):
  Inv X pins σ H' {s with heap:=h',gens:=g',drawn:=d',toks:=t'}:=by
 have neL:∀b o,X.s₀.heap.get? b=some o->b≠X.env.locals:=λb o e=>KC (Kx (Kv e) I.ok.above)
 have Xa:∀b o,X.s₀.heap.get? b=some o->b∉X.ex->b∉ch:=λb o e hx hb=>by
  rcases(SA b hb).1 with z|z
  .exact hx z
  .exact absurd (Kx (Kv e) z) (LN _)
 have cellK:∀x c,X.env.cells.lookup x=some c->∀v,s.heap.IsCell c v->h'.IsCell c v:=λx c e v ⟨o,ho,hd⟩=>by
  have Vz:c∉ch:=λz=>(SA c z).2.2.1 x c e rfl;by_cases hc:c∈X.fs
  .obtain⟨sl,q⟩:=slot c o (I.cne x c e) hc Vz ho (I.freeC x c e);exact⟨_,q,hd⟩
  .exact⟨o,keep c o (I.cne x c e) hc Vz ho (I.freeC x c e),hd⟩
 refine⟨I.ok,I.os,hg,⟨λb o e n hb hx=>?_,λb o e n hb hx=>?_,λb o e n hx=>?_,λb o e hx=>?_,λb xs e=>tups b xs (I.base.tups b xs e),λb o xs e=>frzs b o xs (I.base.frzs b o xs e),λb ps e=>?_⟩,?_,λx c e=>?_,?_,λx c e=>?_,λp hp=>?_,hok,I.len⟩
 .exact keep b o (neL b o e) hb (Xa b o e hx) (I.base.keep b o e n hb hx) (I.base.free b o e n hx)
 .obtain⟨sl,e1⟩:=I.base.slot b o e n hb hx
  obtain⟨sl',e2⟩:=slot b _ (neL b o e) hb (Xa b o e hx) e1 (I.base.free b o e n hx)
  exact⟨sl',e2⟩
 .obtain⟨o',e1⟩:=I.base.there b o e hx
  exact free b o' (Xa b o e hx) e1 (I.base.free b o e n hx)
 .obtain⟨o',e1⟩:=I.base.there b o e hx
  exact there b o' (Xa b o e hx) e1
 .obtain⟨m1,e1⟩:=I.base.tbls b ps e
  obtain⟨m2,e2⟩:=tbls b _ e1
  exact⟨m1++m2,by rw[e2,Qe]⟩
 .obtain⟨m,hn,hl⟩:=I.loc
  refine⟨m,ns m hn,λi x v e1 e2 e3=>?_⟩
  obtain⟨u,r,l⟩:=hl i x v e1 e2 e3
  refine⟨u,r,?_⟩
  rcases l with l|⟨k,c,e,z⟩
  .exact .inl l
  .exact .inr ⟨k,c,e,cellK x c e _ z⟩
 .obtain⟨v,z⟩:=I.cell x c e
  exact⟨v,cellK x c e v z⟩
 .obtain⟨m,⟨o,_,_,ho,_⟩,_⟩:=I.loc
  exact free _ o (λz=>(SA _ z).2.1 rfl) ho I.free
 .obtain⟨v,o,ho,hd⟩:=I.cell x c e
  exact free c o (λz=>(SA c z).2.2.1 x c e rfl) ho (I.freeC x c e)
 .obtain⟨e,n,ne,nf,d⟩:=I.pin p hp
  have Vz:p.1∉ch:=λz=>(SA p.1 z).2.2.2 p hp rfl
  exact⟨keep p.1 p.2 ne nf Vz e n,free p.1 p.2 Vz e n,ne,nf,d⟩
def Inv.un {t':Nat}(I:Inv X pins σ H s)(u:Un X.fs [] H H' s.heap h')(hok:HOk X.prog X.w H' h'):Inv X pins σ H' {s with heap:=h',toks:=t'}:=by
 obtain⟨m,⟨o,es,ep,ho,r⟩,_⟩:=id I.loc;obtain⟨sl,hL⟩:=u.any ho I.free (by simp);exact I.step (g':=s.gens) (d':=s.drawn) (ch:=[]) (λ_ z=>nomatch z) (λb o _ hb _ e n=>u.keep b o e n hb (by simp)) (λb o _ hb _ e n=>u.slot b o e n hb (by simp)) (λb o _ e n=>u.free b o e n (by simp)) (λb o _ e=>u.there b o e (by simp)) u.tups u.frzs u.tbls (λm' hm=>by
  obtain⟨o',VA,XZ,SS,r'⟩:=hm;rw[ho] at SS;cases SS;exact⟨_,VA,XZ,hL,r'⟩) hok I.bare
def Inv.call {g':Array GenState}{t':Nat}{d':Drawn}{ch:List Addr}(I:Inv X pins σ H s)(u:Un (bS X.stack) ch H H' s.heap h')(hok:HOk X.prog X.w H' h')(hg:AllBare g')
  (SA:∀b∈ch,(b∈X.ex\/X.s₀.heap.objs.size<=b)/\b≠X.env.locals/\(∀x c,X.env.cells.lookup x=some c->c≠b)/\∀p∈X.pn++pins,p.1≠b):
  Inv X pins σ H' {s with heap:=h',gens:=g',drawn:=d',toks:=t'}:=by
 obtain⟨m,⟨o,es,ep,ho,r⟩,_⟩:=id I.loc
 obtain⟨sl,hL⟩:=u.any ho I.free λz=>(SA _ z).2.1 rfl
 exact I.step (ch:=ch) SA (λb o hL hb hc e n=>u.keep b o e n (λz=>(Lh.mp (I.stkSub b z)).elim hL hb) hc) (λb o _ _ hc e n=>u.any e n hc) (λb o hc e n=>u.free b o e n hc) (λb o hc e=>u.there b o e hc) u.tups u.frzs u.tbls (λm' hm=>by
  obtain⟨o',VA,XZ,SS,r'⟩:=hm;rw[ho] at SS;cases SS;exact⟨_,VA,XZ,hL,r'⟩) hok hg
def Inv.turned {t':Nat}{it:Addr}(I:Inv X pins σ H s)(k:∀b o,b≠it->s.heap.get? b=some o->h'.get? b=some o)(hn:H it=none)(hL:it≠X.env.locals)
  (h1:it∈X.ex\/X.s₀.heap.objs.size<=it) (h2:∀x c,X.env.cells.lookup x=some c->c≠it) (h3:∀p∈X.pn++pins,p.1≠it):Inv X pins σ H {s with heap:=h',toks:=t'}:=by
 have nit:∀b u,H b=some u->b≠it:=λb u e z=>by rw[z,hn] at e;cases e
 refine I.step (g':=s.gens) (d':=s.drawn) (ch:=[it]) (λb hb=>?_) (λb o _ _ hc e _=>k b o (λz=>hc (by simp [z])) e) (λb o _ _ hc e _=>⟨o.slots,k b o (λz=>hc (by simp [z])) e⟩) (λ_ _ _ _ n=>n)
  (λb o hc e=>⟨o,k b o (λz=>hc (by simp [z])) e⟩) (λ_ _ e=>e) (λ_ _ _ e=>e) (λb ps e=>⟨#[],by rw[e];simp⟩) (λm hm=>?_) (λb u e=>?_) I.bare
 .have e:b=it:=by simpa using hb
  subst e
  exact⟨h1,hL,h2,h3⟩
 .obtain⟨o,es,ep,ho,r⟩:=hm
  exact⟨o,es,ep,k _ o (Mc hL) ho,r⟩
 .refine(I.hok b u e).stay (λc v hc q=>k c v ?_ q) (λ_ q=>q) λ_ _ q=>q
  rcases hc with z|z
  .rw[z];exact nit b u e
  .exact nit c _ z
def Inv.tok (I:Inv X pins σ H s)(t:Nat):Inv X pins σ H {s with toks:=t}:=I.un (h':=s.heap) (t':=t) Un.refl I.hok
def Inv.kept {t':Nat}(I:Inv X pins σ H s)(k:∀b u,s.heap.get? b=some u->h'.get? b=some u):Inv X pins σ H {s with heap:=h',toks:=t'}:=I.un (Un.kept k) (I.hok.kept k)
def Inv.laid {a:Addr}{o:HO}{t':Nat}(I:Inv X pins σ H s)(k:∀b u,s.heap.get? b=some u->h'.get? b=some u)(hp:s.heap.objs.size<=a)(new:ObjOk X.prog X.w (upd H a o) h' a o):
  Inv X pins σ (upd H a o) {s with heap:=h',toks:=t'}:=I.un (Un.laid k hp (I.hok.fresh hp)) (I.hok.laid k hp new)
def Inv.write {x e:Addr}{o:HO}{t':Nat}(I:Inv X pins σ H s)(mu:Gp (H x))(he:e=x\/H e=some (.own x))(k:∀b u,b≠e->s.heap.get? b=some u->h'.get? b=some u)(Ts:∃u,h'.get? e=some u)
  (new:ObjOk X.prog X.w (upd H x o) h' x o):Inv X pins σ (upd H x o) {s with heap:=h',toks:=t'}:=I.un (Un.write mu he k Ts) (I.hok.write mu he k Ts new)
def Inv.weak {σ':List (Option V)}(I:Inv X pins σ H s)(hl:σ'.length=σ.length)(w:∀(i:Nat) v,σ'[i]?=some (some v)->σ[i]?=some (some v)):Inv X pins σ' H s:=
 ⟨I.ok,I.os,I.bare,I.base,let ⟨m,hn,Tt⟩:=I.loc;⟨m,hn,λi x v e1 e2 e3=>Tt i x v e1 (w i v e2) e3⟩,I.cell,I.free,I.freeC,I.pin,I.hok,hl.trans I.len⟩
def Inv.pins_of {k_:List (Addr×Obj)}(I:Inv X pins σ H s)(h:∀p∈k_,s.heap.get? p.1=some p.2/\H p.1=none/\p.1≠X.env.locals/\p.1∉X.fs/\∀v,p.2.data≠ .cell v):Inv X k_ σ H s:=
 ⟨I.ok,I.os,I.bare,I.base,I.loc,I.cell,I.free,I.freeC,λp hp=>(Kg.mp hp).elim (λz=>I.pin p (Kf _ z)) (h p),I.hok,I.len⟩
def qY {N:List Str}(hN:N.Nodup){i j:Nat}{x:Str}(a:N[i]?=some x)(b:N[j]?=some x):i=j:=by
 obtain⟨h1,e1⟩:=LL.mp a;obtain⟨h2,e2⟩:=LL.mp b;exact(List.getElem_inj hN).mp (e1.trans e2.symm)
def mL {M:Model}{A:Around}{E:Value->Shared->Prop}{i:Nat}{x:Str}{v:V}{u:Value}{Q:Unit->Shared->Prop}(I:Inv X pins σ H s)(hN:X.N.Nodup)(hi:X.N[i]?=some x)(hx:CZ X.env.scope x)(r:RelV v u)
  (h:∀s',Inv X pins (σ.set i (some v)) H s'->(∃a,Heap.SameBut a s.heap s'.heap/\(a=X.env.locals\/X.env.cells.lookup x=some a))->Q () s') (hf:X.fn x=true\/X.env.scope.names.lookup x=some .local:=by first|exact .inl rfl|exact .inr rfl|assumption):wpAny M A (storeName X.env x u) Q E s:=by
 obtain⟨m,hn,hl⟩:=id I.loc
 have X_:(X.env.scope.kind== .class||(X.env.scope.kind== .module&&X.env.locals !=X.env.globals))=false:=by rw[I.ok.kind];rfl
 have hiσ:i<σ.length:=by rw[I.len];exact(LL.mp hi).1
 have cne:=I.cne
 have tracked:∀{a:Addr} {h':Heap},(∃o,s.heap.get? a=some o/\H a=none)->Heap.SameBut a s.heap h'->HOk X.prog X.w H h':=fun{a h'} ha hs b ob e=>by
  obtain⟨_,_,Tu⟩:=ha;refine(I.hok b ob e).stay (λc w' hc q=>(hs.2 c ?_).trans q) (λ_ q=>q) λ_ _ q=>q;rintro rfl;rcases hc with rfl|hc
  .rw[Tu] at e;cases e
  .rw[Tu] at hc;cases hc
 rcases hx with hk|hk
 .refine wpAny_storeName_local hk hn (λh' SU hs=>?_) X_
  obtain⟨oL,_,_,hoL,_⟩:=id hn
  refine h _ ⟨I.ok,I.os,I.bare,⟨λb o e n hb hx=>?_,λb o e n hb hx=>?_,I.base.free,λb o e hx=>?_,I.base.tups,I.base.frzs,I.base.tbls⟩,⟨_,SU,λj y v' e1 e2 e3=>?_⟩,λy c e=>?_,I.free,I.freeC,λp hp=>?_,tracked ⟨oL,hoL,I.free⟩ hs,by simpa using I.len⟩ ⟨_,hs,.inl rfl⟩
  .exact(hs.2 b (KC (Kx (Kv e) I.ok.above))).trans (I.base.keep b o e n hb hx)
  .obtain⟨sl,e1⟩:=I.base.slot b o e n hb hx
   exact⟨sl,(hs.2 b (KC (Kx (Kv e) I.ok.above))).trans e1⟩
  .obtain⟨o',e1⟩:=I.base.there b o e hx
   exact⟨o',(hs.2 b (KC (Kx (Kv e) I.ok.above))).trans e1⟩
  .by_cases hj:j=i
   .subst hj
    rw[hi] at e1;cases e1
    rw[ON hiσ] at e2
    cases e2
    exact⟨u,r,.inl ⟨hk,by simp⟩⟩
   .rw[Pr (Mc hj)] at e2
    obtain⟨u',r',q⟩:=hl j y v' e1 e2 e3
    refine⟨u',r',?_⟩
    rcases q with⟨k,e⟩|⟨k,c,e,z⟩
    .refine .inl ⟨k,?_⟩
     have:y≠x:=λe=>hj (qY hN e1 (e▸hi))
     simp [this,e]
    .exact .inr ⟨k,c,e,z.sameBut hs (cne y c e)⟩
  .obtain⟨w',z⟩:=I.cell y c e
   exact⟨w',z.sameBut hs (cne y c e)⟩
  .obtain⟨e,n,ne,nf,d⟩:=I.pin p hp
   exact⟨(hs.2 p.1 ne).trans e,n,ne,nf,d⟩
 .have Ya:X.fn x=true:=by
   rcases hf with z|z
   .exact z
   .rw[z] at hk;cases hk
  obtain⟨c,hc⟩:=I.ok.has x (.inl hk)
  obtain⟨w',z⟩:=I.cell x c hc
  refine wpAny_storeName_cell I.ok.kind hk hc z (λh' Rm hs=>?_)
  obtain⟨oc,Ud,Ue⟩:=id z
  refine h {s with heap:=h'} ⟨I.ok,I.os,I.bare,⟨λb o e n hb hx=>?_,λb o e n hb hx=>?_,I.base.free,λb o e hx=>?_,I.base.tups,I.base.frzs,I.base.tbls⟩,⟨m,hn.sameBut hs (Mc (cne x c hc)),λj y v' e1 e2 e3=>?_⟩,λy c' e=>?_,I.free,I.freeC,λp hp=>?_,tracked ⟨oc,Ud,I.freeC x c hc⟩ hs,by simpa using I.len⟩ ⟨c,hs,.inr hc⟩
  .exact(hs.2 b (KC (Kx (Kv e) (I.ok.cab x c Ya hc)))).trans (I.base.keep b o e n hb hx)
  .obtain⟨sl,e1⟩:=I.base.slot b o e n hb hx
   exact⟨sl,(hs.2 b (KC (Kx (Kv e) (I.ok.cab x c Ya hc)))).trans e1⟩
  .obtain⟨o',e1⟩:=I.base.there b o e hx
   exact⟨o',(hs.2 b (KC (Kx (Kv e) (I.ok.cab x c Ya hc)))).trans e1⟩
  .by_cases hj:j=i
   .subst hj
    rw[hi] at e1;cases e1
    rw[ON hiσ] at e2
    cases e2
    exact⟨u,r,.inr ⟨.inl hk,c,hc,Rm⟩⟩
   .rw[Pr (Mc hj)] at e2
    obtain⟨u',r',q⟩:=hl j y v' e1 e2 e3
    refine⟨u',r',?_⟩
    rcases q with q|⟨k,c',e,z'⟩
    .exact .inl q
    .refine .inr ⟨k,c',e,z'.sameBut hs ?_⟩
     rintro rfl
     exact hj (qY hN e1 (I.ok.inj _ _ _ e hc▸hi))
  .by_cases hcc:c'=c
   .subst hcc;exact⟨_,Rm⟩
   .obtain⟨w2,z2⟩:=I.cell y c' e
    exact⟨w2,z2.sameBut hs hcc⟩
  .obtain⟨e,n,ne,nf,d⟩:=I.pin p hp
   refine⟨(hs.2 p.1 ?_).trans e,n,ne,nf,d⟩
   intro q
   rw[q,Ud] at e
   have q':oc=p.2:=KG e
   exact d w' (by rw[←q'];exact Ue)
def rf {M:Model}{A:Around}{E:Value->Shared->Prop}{i:Nat}{x:Str}{v:V}{u:Value}{Q:Unit->Shared->Prop}(I:Inv X pins σ H s)(hN:X.N.Nodup)(hi:X.N[i]?=some x)(hx:CZ X.env.scope x)(r:RelV v u)
  (h:∀s',Inv X pins (σ.set i (some v)) H s'->Q () s') (hf:X.fn x=true\/X.env.scope.names.lookup x=some .local:=by first|exact .inl rfl|exact .inr rfl|assumption):wpAny M A (storeName X.env x u) Q E s:=
 mL I hN hi hx r (λs' I' _=>h s' I') hf
def Inv.call' {s':Shared}{ch:List Addr}(I:Inv X pins σ H s)(ho:s'.os=s.os)(u:Un (bS X.stack) ch H H' s.heap s'.heap)(hok:HOk X.prog X.w H' s'.heap)(hg:AllBare s'.gens)
  (SA:∀b∈ch,(b∈X.ex\/X.s₀.heap.objs.size<=b)/\b≠X.env.locals/\(∀x c,X.env.cells.lookup x=some c->c≠b)/\∀p∈X.pn++pins,p.1≠b):Inv X pins σ H' s':=by
 obtain⟨h',g',d',t',o'⟩:=s'
 have e:o'=s.os:=ho
 subst e
 exact I.call (g':=g') (t':=t') (d':=d') u hok hg SA
end
abbrev XK:=Value->Option Addr->Hp->Prop
abbrev St:=List (Option V)
abbrev VK:=V->Hp->Prop
abbrev TE:=St->Hp->VK->Prop
abbrev TT:=St->Hp->(Bool->Hp->Prop)->Prop
abbrev TA:=St->Hp->(List V->Hp->Prop)->Prop
structure qz where
 nx:St->Hp->Prop
 rt:VK
 bk:St->Hp->Prop:=λ_ _=>False
 ct:St->Hp->Prop:=λ_ _=>False
abbrev TS:=qz->St->Hp->Prop
def EP (X:Cx)(pins:List (Addr×Obj))(σ:St)(Q:VK)(u:Value)(s':Shared):Prop:=∃v H',Inv X pins σ H' s'/\RelV v u/\Q v H'
def TP (X:Cx)(pins:List (Addr×Obj))(σ:St)(Q:Bool->Hp->Prop)(b:Bool)(s':Shared):Prop:=∃H',Inv X pins σ H' s'/\Q b H'
def AP (X:Cx)(pins:List (Addr×Obj))(σ:St)(Q:List V->Hp->Prop)(us:List Value)(s':Shared):Prop:=∃vs H',Inv X pins σ H' s'/\Vals vs us/\Q vs H'
def SP (X:Cx)(pins:List (Addr×Obj))(D:qz)(f:Flow)(s':Shared):Prop:=
 match f with
 | .next=>∃σ' H',Inv X pins σ' H' s'/\D.nx σ' H'
 | .brk=>∃σ' H',Inv X pins σ' H' s'/\D.bk σ' H'
 | .cont=>∃σ' H',Inv X pins σ' H' s'/\D.ct σ' H'
 | .ret u=>∃v σ' H',Inv X pins σ' H' s'/\RelV v u/\D.rt v H'
def PE (X:Cx)(e:Expr)(t:TE):Prop:=
 ∀(pins:List (Addr×Obj)) (s:Shared) (σ:St) (H:Hp) (Q:VK),Inv X pins σ H s->t σ H Q->wpAny (model X.prog X.w) X.A (eval e X.env) (EP X pins σ Q) X.xe s
def PT (X:Cx)(e:Expr)(t:TT):Prop:=
 ∀(pins:List (Addr×Obj)) (s:Shared) (σ:St) (H:Hp) (Q:Bool->Hp->Prop),Inv X pins σ H s->t σ H Q->wpAny (model X.prog X.w) X.A (isTrue e X.env (eval e X.env)) (TP X pins σ Q) X.xe s
def PW (X:Cx)(e:Expr)(t:TT):Prop:=
 ∀(whole:Sem Value) (pins:List (Addr×Obj)) (s:Shared) (σ:St) (H:Hp) (Q:Bool->Hp->Prop),Inv X pins σ H s->t σ H Q->wpAny (model X.prog X.w) X.A (isTrue e X.env whole) (TP X pins σ Q) X.xe s
def PW.pt {X:Cx}{e:Expr}{t:TT}(h:PW X e t):PT X e t:=h _
def PA (X:Cx)(es:List Expr)(t:TA):Prop:=
 ∀(pos:Pos) (pins:List (Addr×Obj)) (s:Shared) (σ:St) (H:Hp) (Q:List V->Hp->Prop),Inv X pins σ H s->t σ H Q->wpAny (model X.prog X.w) X.A (spliced (backTo pos (starEach es X.env))) (AP X pins σ Q) X.xe s
def PS (X:Cx)(st:Stmt)(t:TS):Prop:=
 ∀(pins:List (Addr×Obj)) (s:Shared) (σ:St) (H:Hp) (D:qz),Inv X pins σ H s->t D σ H->wpAny (model X.prog X.w) X.A (exec st X.env) (SP X pins D) X.xe s
def PSs (X:Cx)(st:List Stmt)(t:TS):Prop:=
 ∀(pins:List (Addr×Obj)) (s:Shared) (σ:St) (H:Hp) (D:qz),Inv X pins σ H s->t D σ H->wpAny (model X.prog X.w) X.A (execs st X.env) (SP X pins D) X.xe s
def P0 {α:Type}{t:Sem α}{Q Q':α->Shared->Prop}{M:Model}{A:Around}{E:Value->Shared->Prop}{s:Shared}(h:wpAny M A t Q E s)(hQ:∀a s,Q a s->Q' a s):wpAny M A t Q' E s:=NR h hQ λ_ _ x=>x
section
variable {X:Cx}
def BV (i:Nat):TE:=λσ H Q=>∃v,σ[i]?=some (some v)/\Q v H
def tC (v:V):TE:=λ_ H Q=>Q v H
def EG {i:Nat}{x:Str}{pos:Pos}(hN:X.N[i]?=some x)(hv:IY X.env.scope x)(hd:(x==("__debug__":Str))=false:=by decide)(QV:(x==("__classdict__":Str))=false:=by decide):PE X (.Name x pos) (BV i):=by
 intro pins s σ H Q I h;obtain⟨v,e,h⟩:=h;obtain⟨m,hn,hl⟩:=I.loc;obtain⟨u,r,l⟩:=hl i x v hN e hv;have fin:EP X pins σ Q u s:=⟨v,H,I,r,h⟩
 rcases l with⟨hk,hm⟩|⟨hk,c,hc,QY⟩
 .exact wpAny_Name (wpAny_loadName_local I.ok.kind hk hn hm fin) hd
 .rcases hk with hk|hk
  .exact wpAny_Name (wpAny_loadName_cell I.ok.kind hk hc QY fin) hd
  .exact wpAny_Name (wpAny_loadName_free I.ok.kind hk hc QY fin QV) hd
def DB {i j pos}:PE X (.Constant (.int i) j pos) (tC (.int i)):=λ_ _ _ H _ I h=>wpAny_Constant_int ⟨.int i,H,I.tok _,⟨_,rfl⟩,h⟩
def Hk {b j pos}:PE X (.Constant (.bool b) j pos) (tC (.bl b)):=λ_ _ _ H _ I h=>Constant_bool ⟨.bl b,H,I,rfl,h⟩
def En {j pos}:PE X (.Constant .none j pos) (tC .non):=λ_ _ _ H _ I h=>Constant_none ⟨.non,H,I,rfl,h⟩
def Ex {x j pos}:PE X (.Constant (.str x) j pos) (tC (.str x)):=λ_ _ _ H _ I h=>Calls.Constant_str ⟨.str x,H,I.tok _,⟨_,rfl⟩,h⟩
def Gl (X:Cx)(x:Str):Prop:=X.env.kindOf x=some .globalImplicit
def hU {E:Value->Shared->Prop}{pins:List (Addr×Obj)}{s:Shared}{σ:St}{H:Hp}{x:Str}{u:Value}{pos:Pos}{Q:Value->Shared->Prop}(I:Inv X pins σ H s)(hg:Gl X x)(hm:X.mg x=some u)(h:Q u s)
  (hd:(x==("__debug__":Str))=false:=by decide):wpAny (model X.prog X.w) X.A (eval (.Name x pos) X.env) Q E s:=
 Oa I.ok.kind hg (Calls.loadGlobal_global (by rw[I.ok.glob];exact I.mod.glob.keeps I.bk) hm h) hd
def de {E:Value->Shared->Prop}{pins:List (Addr×Obj)}{s:Shared}{σ:St}{H:Hp}{x:Str}{u:Value}{pos:Pos}{Q:Value->Shared->Prop}(I:Inv X pins σ H s)(hg:Gl X x)(hm:X.mg x=none)(hv:bootBuiltins x=some u)(h:Q u s)
  (hn:x≠"__name__":=by decide) (hd:(x==("__debug__":Str))=false:=by decide):wpAny (model X.prog X.w) X.A (eval (.Name x pos) X.env) Q E s:=by
 obtain⟨mb,h1,h2⟩:=I.mod.blt
 exact Oa I.ok.kind hg (Calls.loadGlobal_builtin (by rw[I.ok.glob];exact I.mod.glob.keeps I.bk) hm (by rw[I.ok.blt];exact h1.keeps I.bk) ((h2 x hn).trans hv) h) hd
def BZ {x:Str}{v:V}{u:Value}{pos:Pos}(hg:Gl X x)(hm:X.mg x=some u)(r:RelV v u)(hd:(x==("__debug__":Str))=false:=by decide):PE X (.Name x pos) (tC v):=
 λ_ _ _ H _ I h=>hU I hg hm ⟨v,H,I,r,h⟩ hd
def AY {x:Str}{v:V}{u:Value}{pos:Pos}(hg:Gl X x)(hm:X.mg x=none)(hv:bootBuiltins x=some u)(r:RelV v u)(hn:x≠"__name__":=by decide)(hd:(x==("__debug__":Str))=false:=by decide):PE X (.Name x pos) (tC v):=
 λ_ _ _ H _ I h=>de I hg hm hv ⟨v,H,I,r,h⟩ hn hd
variable {a b:Expr} {ta tb:TE} {pos:Pos}
def RelV.none_iff {x:V}{v:Value}(r:RelV x v):(v==Value.none)=decide (x= .non):=by grind [cases V,RelV]
def tB (t:TE):TT:=λσ H Q=>t σ H λx H1=>∃c,x= .bl c/\Q c H1
variable {tA SV:TT} {aQ:List Expr}
def Fp (t u:TT):TT:=λσ H Q=>t σ H λc H1=>if c=true then u σ H1 Q else Q false H1
def IS (t u:TT):TT:=λσ H Q=>t σ H λc H1=>if c=true then Q true H1 else u σ H1 Q
def EC (t:TT):TT:=λσ H Q=>t σ H λc H1=>Q (!c) H1
def Ca (ha:PT X a tA):PW X (.BoolOp .And [a] pos) tA:=by
 intro wh pins s σ H Q I h;refine isTrue_and (P0 (ha pins s σ H Q I h) λc s1 e=>?_);cases c with
 |true=>exact isTrue_and_nil e
 |false=>exact e
def EV (ha:PT X a tA):PW X (.BoolOp .Or [a] pos) tA:=by
 intro wh pins s σ H Q I h;refine isTrue_or (P0 (ha pins s σ H Q I h) λc s1 e=>?_);cases c with
 |false=>exact isTrue_or_nil e
 |true=>exact e
def Ds (ha:PT X a tA)(hb:PW X (.BoolOp .And (b::aQ) pos) SV):PW X (.BoolOp .And (a::b::aQ) pos) (Fp tA SV):=by
 intro wh pins s σ H Q I h;refine isTrue_and (P0 (ha pins s σ H _ I h) λc s1 ⟨H1,I1,q1⟩=>?_);cases c with
 |true=>exact hb wh pins s1 σ H1 Q I1 q1
 |false=>exact⟨H1,I1,q1⟩
def FR (ha:PT X a tA)(hb:PW X (.BoolOp .Or (b::aQ) pos) SV):PW X (.BoolOp .Or (a::b::aQ) pos) (IS tA SV):=by
 intro wh pins s σ H Q I h;refine isTrue_or (P0 (ha pins s σ H _ I h) λc s1 ⟨H1,I1,q1⟩=>?_);cases c with
 |true=>exact⟨H1,I1,q1⟩
 |false=>exact hb wh pins s1 σ H1 Q I1 q1
def DH (ha:PT X a tA):PT X (.UnaryOp .Not a pos) (EC tA):=by
 intro pins s σ H Q I h;exact isTrue_not (ha pins s σ H (λc H1=>Q (!c) H1) I h)
def xZ (ta tb:TE):TE:=λσ H Q=>ta σ H λx H1=>∃c,x= .bl c/\if c=true then tb σ H1 Q else Q (.bl false) H1
def ER (ta tb:TE):TE:=λσ H Q=>ta σ H λx H1=>∃c,x= .bl c/\if c=true then Q (.bl true) H1 else tb σ H1 Q
def Af (ta:TE):TE:=λσ H Q=>ta σ H λx H1=>∃c,x= .bl c/\Q (.bl (!c)) H1
def Fy {op}{t:TE}(h:PE X a t):PE X (.BoolOp op [a] pos) t:=λpins s σ H Q I hw=>BoolOp_one (h pins s σ H Q I hw)
def DE (ha:PE X a ta)(hb:PE X (.BoolOp .And (b::aQ) pos) tb):PE X (.BoolOp .And (a::b::aQ) pos) (xZ ta tb):=by
 intro pins s σ H Q I h;refine BoolOp_and (P0 (ha pins s σ H _ I h) λv s1 ⟨x,H1,I1,r1,q1⟩=>?_);obtain⟨c,rfl,q1⟩:=q1;cases r1;refine Md ?_;cases c with
 |true=>exact hb pins s1 σ H1 Q I1 q1
 |false=>exact⟨.bl false,H1,I1,rfl,q1⟩
def HV (ha:PE X a ta)(hb:PE X (.BoolOp .Or (b::aQ) pos) tb):PE X (.BoolOp .Or (a::b::aQ) pos) (ER ta tb):=by
 intro pins s σ H Q I h;refine BoolOp_or (P0 (ha pins s σ H _ I h) λv s1 ⟨x,H1,I1,r1,q1⟩=>?_);obtain⟨c,rfl,q1⟩:=q1;cases r1;refine Md ?_;cases c with
 |false=>exact hb pins s1 σ H1 Q I1 q1
 |true=>exact⟨.bl true,H1,I1,rfl,q1⟩
def Dx (ha:PE X a ta):PE X (.UnaryOp .Not a pos) (Af ta):=by
 intro pins s σ H Q I h;refine UnaryOp_ (P0 (ha pins s σ H _ I h) λv s1 ⟨x,H1,I1,r1,q1⟩=>?_);obtain⟨c,rfl,q1⟩:=q1;cases r1;exact not_of (Md ⟨.bl (!c),H1,I1,rfl,q1⟩)
def Jo (t:TT)(ta tb:TE):TE:=λσ H Q=>t σ H λc H1=>if c=true then ta σ H1 Q else tb σ H1 Q
def yY {c:Expr}(hc:PT X c tA)(ha:PE X a ta)(hb:PE X b tb):PE X (.IfExp c a b pos) (Jo tA ta tb):=by
 intro pins s σ H Q I h;refine wpAny_IfExp (P0 (hc pins s σ H _ I h) λd s1 ⟨H1,I1,q1⟩=>?_);cases d with
 |true=>exact ha pins s1 σ H1 Q I1 q1
 |false=>exact hb pins s1 σ H1 Q I1 q1
end
def SqL (K:Qc)(H:Hp)(a:Addr)(xs:List V):Prop:=
 Rd H a (.lst xs)\/
  ∃(o:Obj) (a_:Array Value) (n:Nat),K.lookup a=some o/\o.cls= .type "list"/\o.dict=none/\o.data= .seq a_ n/\a_.size<=sizeLine/\Vals xs a_.toList
def SqT (K:Qc)(H:Hp)(a:Addr)(xs:List V):Prop:=
 Rd H a (.tup xs)\/
  ∃(o:Obj) (a_:Array Value) (n:Nat),K.lookup a=some o/\o.cls= .type "tuple"/\o.data= .seq a_ n/\a_.size<=sizeLine/\Vals xs a_.toList
def HR:Value->Option V
 | .none=>some .non
 | .bool b=>some (.bl b)
 | .int i _=>some (.int i)
 | .str x _=>some (.str x)
 | .bytes b _=>some (.byt b)
 | .float b _=>some (.flt b)
 | .ref a=>some (.ref a)
 | .type n=>some (.ty n)
 |_=>none
def RelV.abs {x:V}{u:Value}(r:RelV x u):HR u=some x:=by grind [cases V,RelV,HR]
def RelV.inj {x y:V}{u:Value}(r:RelV x u)(q:RelV y u):x=y:=KG (r.abs.symm.trans q.abs)
theorem Vals.inj:∀{xs ys:List V} {us:List Value},Vals xs us->Vals ys us->xs=ys
 |_,_,_,.nil,.nil=>rfl
 |_,_,_,.cons r t,.cons r' t'=>by rw[r.inj r',Vals.inj t t']
section
variable {X:Cx} {pins:List (Addr×Obj)} {σ:St} {H:Hp} {s:Shared} {a:Addr} {xs ys:List V}
def SqL.of {K:Qc}(h:H a=some (.lst xs)):SqL K H a xs:= .inl (.inl h)
def SqT.of {K:Qc}(h:H a=some (.tup xs)):SqT K H a xs:= .inl (.inl h)
def Inv.list (I:Inv X pins σ H s)(h:SqL X.K H a xs):∃a_:List Value,Vals xs a_/\PlainL s.heap a a_.toArray/\xs.length<=sizeLine:=by
 rcases h with h|⟨o,a_,n,hk,hc,hd,hs,hz,r⟩
 .obtain⟨z,a_,n,r,e⟩:=h.ok I.hok;exact⟨a_,r,⟨_,n,e,rfl,rfl,rfl⟩,z⟩
 .refine⟨a_.toList,r,⟨o,n,I.kIn a o hk,hc,hd,by simpa using hs⟩,?_⟩;have e:=r.length;simp only[MH] at e;lia
def Inv.tuple (I:Inv X pins σ H s)(h:SqT X.K H a xs):∃a_:List Value,Vals xs a_/\IsTup s.heap a a_.toArray/\xs.length<=sizeLine:=by
 rcases h with h|⟨o,a_,n,hk,hc,hs,hz,r⟩
 .obtain⟨z,a_,r,p⟩:=h.ok I.hok;exact⟨a_,r,p,z⟩
 .refine⟨a_.toList,r,⟨o,I.kIn a o hk,hc,n,by simpa using hs⟩,?_⟩;have e:=r.length;simp only[MH] at e;lia
def Inv.list_inj (I:Inv X pins σ H s)(h:SqL X.K H a xs)(h':SqL X.K H a ys):xs=ys:=by
 obtain⟨a_,r,⟨o,n,e,_,_,d⟩,_⟩:=I.list h;obtain⟨its',r',⟨o',n',e',_,_,d'⟩,_⟩:=I.list h';rw[e] at e';cases e';rw[d] at d';injection d' with d1 _
 have:a_=its':=by simpa using LK Array.toList d1
 subst this;exact r.inj r'
def Inv.tuple_inj (I:Inv X pins σ H s)(h:SqT X.K H a xs)(h':SqT X.K H a ys):xs=ys:=by
 obtain⟨a_,r,⟨o,e,_,n,d⟩,_⟩:=I.tuple h;obtain⟨its',r',⟨o',e',_,n',d'⟩,_⟩:=I.tuple h';rw[e] at e';cases e';rw[d] at d';injection d' with d1 _
 have:a_=its':=by simpa using LK Array.toList d1
 subst this;exact r.inj r'
end
abbrev Cx.wish (X:Cx)(E:Value->Shared->Prop):Cx:={X with xe:=E}
abbrev Cx.nox (X:Cx):Cx:=X.wish λ_ _=>False
def Cx.Ok.wish {X:Cx}(ok:X.Ok)(E:Value->Shared->Prop):(X.wish E).Ok:=
 ⟨ok.mod,ok.kind,ok.glob,ok.blt,ok.above,ok.inj,ok.has,ok.cab,ok.hd,ok.frames,ok.stk,ok.exf,ok.bs,ok.bsz,ok.noex,ok.exfs,ok.funs,ok.frf⟩
def Cx.Ok.unwish {X:Cx}{E:Value->Shared->Prop}(ok:(X.wish E).Ok):X.Ok:=
 ⟨ok.mod,ok.kind,ok.glob,ok.blt,ok.above,ok.inj,ok.has,ok.cab,ok.hd,ok.frames,ok.stk,ok.exf,ok.bs,ok.bsz,ok.noex,ok.exfs,ok.funs,ok.frf⟩
section
variable {X:Cx} {pins:List (Addr×Obj)} {σ:St} {H:Hp} {s:Shared} {E:Value->Shared->Prop}
def Inv.wish (I:Inv X pins σ H s)(E:Value->Shared->Prop):Inv (X.wish E) pins σ H s:=⟨I.ok.wish E,I.os,I.bare,I.base,I.loc,I.cell,I.free,I.freeC,I.pin,I.hok,I.len⟩
def Inv.unwish (I:Inv (X.wish E) pins σ H s):Inv X pins σ H s:=⟨I.ok.unwish,I.os,I.bare,I.base,I.loc,I.cell,I.free,I.freeC,I.pin,I.hok,I.len⟩
def SP.unwish {D:qz}{f:Flow}{s':Shared}(h:SP (X.wish E) pins D f s'):SP X pins D f s':=by
 cases f with
 |next=>obtain⟨σ',H',I,q⟩:=h;exact⟨σ',H',I.unwish,q⟩
 |brk=>obtain⟨σ',H',I,q⟩:=h;exact⟨σ',H',I.unwish,q⟩
 |cont=>obtain⟨σ',H',I,q⟩:=h;exact⟨σ',H',I.unwish,q⟩
 |ret u=>obtain⟨v,σ',H',I,r,q⟩:=h;exact⟨v,σ',H',I.unwish,r,q⟩
def PSs.nox {st:List Stmt}{t:TS}(h:PSs X.nox st t):PSs X st t:=λpins s σ H D I hw=>
 NR (h pins s σ H D (I.wish _) hw) (λ_ _ q=>q.unwish) λ_ _ z=>False.elim z
end
section
variable {X:Cx} {st:Stmt} {aQ:List Stmt} {t u:TS} {e:Expr} {te:TE} {pos:Pos}
def Ac:TS:=λD σ H=>D.nx σ H
def jK (t u:TS):TS:=λD σ H=>t {D with nx:=u D} σ H
def Bm:PSs X [] Ac:=λ_ _ σ H _ I h=>Nq ⟨σ,H,I,h⟩
def yL (h1:PS X st t)(h2:PSs X aQ u):PSs X (st::aQ) (jK t u):=by
 intro pins s σ H D I h;refine wpAny_execs_cons (P0 (h1 pins s σ H {D with nx:=u D} I h) λf s1 q=>?_);cases f with
 |next=>
  obtain⟨σ',H',I',q⟩:=q
  exact h2 pins s1 σ' H' D I' q
 |ret v=>exact q
 |brk=>exact q
 |cont=>exact q
def Cf (h1:PS X st t):PSs X [st] t:=by
 intro pins s σ H D I h;refine wpAny_execs_cons (P0 (h1 pins s σ H D I h) λf s1 q=>?_);cases f with
 |next=>exact Nq q
 |ret v=>exact q
 |brk=>exact q
 |cont=>exact q
def Inv.quiet {pins:List (Addr×Obj)}{σ:St}{H:Hp}{s:Shared}(I:Inv X pins σ H s):interactive X.env=false:=by simp [interactive,I.ok.kind]
def yV (te:TE):TS:=λD σ H=>te σ H λ_ H1=>D.nx σ H1
def AM (he:PE X e te)(hs:swapsWith e none pos.line X.env=pure false:=by rfl):PS X (.Expr e pos) (yV te):=by
 intro pins s σ H D I h;exact wpAny_Expr_any (P0 (he pins s σ H _ I h) λv s1 ⟨x,H1,I1,r1,q1⟩=>⟨σ,H1,I1,q1⟩) I.quiet hs
def xS (te:TE):TS:=λD σ H=>te σ H D.rt
def EU (he:PE X e te):PS X (.Return (some e) pos) (xS te):=by
 intro pins s σ H D I h;exact wpAny_Return_some (P0 (he pins s σ H _ I h) λv s1 ⟨x,H1,I1,r1,q1⟩=>⟨x,σ,H1,I1,r1,q1⟩)
def Fm (c:TT)(t u:TS):TS:=λD σ H=>c σ H λb H1=>if b=true then t D σ H1 else u D σ H1
def Hn {c:Expr}{a b:List Stmt}{tc:TT}(hc:PT X c tc)(ha:PSs X a t)(hb:PSs X b u):PS X (.If c a b pos) (Fm tc t u):=by
 intro pins s σ H D I h;refine wpAny_If (P0 (hc pins s σ H _ I h) λd s1 ⟨H1,I1,q1⟩=>?_);cases d with
 |true=>exact ha pins s1 σ H1 D I1 q1
 |false=>exact hb pins s1 σ H1 D I1 q1
end
abbrev TG:=V->St->Hp->(St->Hp->Prop)->Prop
abbrev sL:=List V->St->Hp->(St->Hp->Prop)->Prop
def PG (X:Cx)(target:Expr)(t:TG):Prop:=
 ∀(pins:List (Addr×Obj)) (s:Shared) (σ:St) (H:Hp) (v:V) (u:Value) (Q:St->Hp->Prop),Inv X pins σ H s->RelV v u->t v σ H Q->
  wpAny (model X.prog X.w) X.A (assign target X.env u) (λ_ s'=>∃σ' H',Inv X pins σ' H' s'/\Q σ' H') X.xe s
def BP (X:Cx)(ts:List Expr)(t:sL):Prop:=
 ∀(pins:List (Addr×Obj)) (s:Shared) (σ:St) (H:Hp) (vs:List V) (us:List Value) (Q:St->Hp->Prop),Inv X pins σ H s->Vals vs us->t vs σ H Q->
  wpAny (model X.prog X.w) X.A (assignInOrder ((assignEach ts X.env).map (·.2)) us) (λ_ s'=>∃σ' H',Inv X pins σ' H' s'/\Q σ' H') X.xe s
abbrev sZ:=V->V->V->Hp->(Hp->Prop)->Prop
def xx (X:Cx)(t:sZ):Prop:=
 ∀(pins:List (Addr×Obj)) (s:Shared) (σ:St) (H:Hp) (o i v:V) (ov iv u:Value) (Q:Hp->Prop),Inv X pins σ H s->RelV o ov->RelV i iv->RelV v u->t o i v H Q->
  wpAny (model X.prog X.w) X.A (setItem ov iv u) (λ_ s'=>∃H',Inv X pins σ H' s'/\Q H') X.xe s
section
variable {X:Cx} {pos:Pos}
def O7 (i:Nat):TG:=λv σ H Q=>Q (σ.set i (some v)) H
def AV {i:Nat}{x:Str}(hN:X.N.Nodup)(hi:X.N[i]?=some x)(hx:CZ X.env.scope x)(hf:X.fn x=true\/X.env.scope.names.lookup x=some .local:=by first|exact .inl rfl|exact .inr rfl|assumption):PG X (.Name x pos) (O7 i):=by
 intro pins s σ H v u Q I r h;exact wpAny_assign_Name (rf I hN hi hx r (λs' I'=>⟨_,H,I',h⟩) hf)
def Cu:sL:=λvs σ H Q=>vs=[]/\Q σ H
def kJ (t:TG)(u:sL):sL:=λvs σ H Q=>∃v r,vs=v::r/\t v σ H λσ' H'=>u r σ' H' Q
def Cb:BP X [] Cu:=by
 intro pins s σ H vs us Q I r h;obtain⟨e,h⟩:=h;subst e;cases r;exact assignInOrder_nil ⟨σ,H,I,h⟩
def yl {e:Expr}{es:List Expr}{t:TG}{u:sL}(h1:PG X e t)(h2:BP X es u)
  (hs:(assignEach (e::es) X.env).map (·.2)=assign e X.env::(assignEach es X.env).map (·.2):=by rfl):BP X (e::es) (kJ t u):=by
 intro pins s σ H vs us Q I r h
 obtain⟨v,vr,e1,h⟩:=h
 subst e1
 cases r with
 |cons r rr=>
  rw[hs]
  refine assignInOrder_cons (P0 (h1 pins s σ H _ _ _ I r h) λ_ s1 ⟨σ1,H1,I1,q1⟩=>?_)
  exact h2 pins s1 σ1 H1 _ _ Q I1 rr q1
def zF (K:Qc)(n:Nat)(t:sL):TG:=λv σ H Q=>∃a xs,v= .ref a/\SqT K H a xs/\xs.length=n/\t xs σ H Q
def Dz {es:List Expr}{k:Nat}{t:sL}{n:Nat}(hc:X.calm=true)(h:BP X es t)
  (hn:(assignEach es X.env).length=n:=by rfl) (RU:(assignEach es X.env).findIdx? (·.1)=none:=by rfl):PG X (.Tuple es k pos) (zF X.K n t):=by
 intro pins s σ H v u Q I r hw
 obtain⟨a,xs,e1,hq,hl,hw⟩:=hw
 subst e1
 cases r
 obtain⟨a_,rv,ht,hz⟩:=I.tuple hq
 refine assign_Tuple_tuple (I.ok.hd hc) ht (by simp [hn,←hl,rv.length]) RU λh' hx=>?_
 have I1:Inv X pins σ H {s with heap:=h'}:=I.kept (t':=s.toks) λb o e=>hx b o (KC (Kv e)) e
 exact h pins _ σ H xs _ Q I1 (by simpa using rv) hw
def DG (to ti:TE)(t:sZ):TG:=λv σ H Q=>to σ H λo H1=>ti σ H1 λi H2=>t o i v H2 λH3=>Q σ H3
def ED {o i:Expr}{to ti:TE}{t:sZ}(ho:PE X o to)(hi:PE X i ti)(hs:xx X t)
  (ha:∀v,assign (.Subscript o i pos) X.env v=(do
   let ov←holding [v] (eval o X.env)
   let iv←holding [v,ov] (eval i X.env)
   standAt pos
   holding [v,ov,iv] (setItem ov iv v)
   release [v,ov,iv] []):=by intro _;rfl):PG X (.Subscript o i pos) (DG to ti t):=by
 intro pins s σ H v u Q I r h
 rw[ha]
 refine Ko (LG (P0 (ho pins s σ H _ I h) λov s1 ⟨x,H1,I1,r1,q1⟩=>?_))
 refine Ko (LG (P0 (hi pins s1 σ H1 _ I1 q1) λiv s2 ⟨y,H2,I2,r2,q2⟩=>?_))
 refine Ko (Qf (Ko (LG (P0 (hs pins s2 σ H2 x y v ov iv u _ I2 r1 r2 r q2) λ_ s3 ⟨H3,I3,q3⟩=>?_))))
 exact wpAny_release ⟨σ,H3,I3,q3⟩
def tF (te:TE)(g:TG):TS:=λD σ H=>te σ H λx H1=>g x σ H1 D.nx
def Ei {tg e:Expr}{te:TE}{g:TG}(he:PE X e te)(hg:PG X tg g)(hs:swapsWithSole [tg] e pos.line X.env=pure false:=by rfl)(hw:swappedStores [tg] e X.env=pure none:=by rfl)
  (h1:(assignEach [tg] X.env).map (·.2)=[assign tg X.env]:=by rfl):PS X (.Assign [tg] e pos) (tF te g):=by
 intro pins s σ H D I h
 refine wpAny_Assign_stores (P0 (he pins s σ H _ I h) λv s1 ⟨x,H1,I1,r1,q1⟩=>?_) hs hw
 rw[h1]
 exact P0 (hg pins s1 σ H1 x v _ I1 r1 q1) λ_ s2 q=>q
def Dp {i:Nat}{x:Str}{e:Expr}{te:TE}{pos':Pos}(hN:X.N.Nodup)(hi:X.N[i]?=some x)(hx:CZ X.env.scope x)(he:PE X e te)(hs:swapsWith e (some (.Name x pos')) pos.line X.env=pure false:=by rfl)(hf:X.fn x=true\/X.env.scope.names.lookup x=some .local:=by first|exact .inl rfl|exact .inr rfl|assumption):
  PS X (.Assign [.Name x pos'] e pos) (tF te (O7 i)):=by
 intro pins s σ H D I h
 refine wpAny_Assign_Name (P0 (he pins s σ H _ I h) λv s1 ⟨y,H1,I1,r1,q1⟩=>?_) hs
 exact rf I1 hN hi hx r1 (λs2 I2=>⟨_,H1,I2,q1⟩) hf
end
section
variable {X:Cx} {pos:Pos}
def yh (c:TT)(tb:TS):TS:=λD σ H=>∃W:Nat->St->Hp->Prop,(∃m,W m σ H)/\∀m σ H,W m σ H->
 c σ H λb H1=>if b=true then ∃N:St->Hp->Prop,(∀σ' H',N σ' H'->∃m',m'<m/\W m' σ' H')/\tb {D with nx:=N,ct:=N,bk:=D.nx} σ H1 else D.nx σ H1
def Aa {c:Expr}{body:List Stmt}{tc:TT}{tb:TS}(hp:PassesOwn (model X.prog X.w) X.A X.env X.xe)(hc:PT X c tc)(hb:PSs X body tb):PS X (.While c body [] pos) (yh tc tb):=by
 intro pins s σ H D I h;obtain⟨W,⟨m0,w0⟩,turn⟩:=h;refine wpAny_While (codeAny_whileLoop (λn s'=>∃σ' H',Inv X pins σ' H' s'/\W n σ' H') ?_ m0 ⟨σ,H,I,w0⟩);rintro n s1 ⟨σ1,H1,I1,w1⟩;refine My hp (P0 (hc pins s1 σ1 H1 _ I1 (turn n σ1 H1 w1)) λb s2 ⟨H2,I2,q2⟩=>?_);cases b with
 |true=>
  obtain⟨N,hN,q2⟩:=q2
  rw[if_pos rfl]
  refine My hp (P0 (hb pins s2 σ1 H2 _ I2 q2) λf s3 q3=>?_)
  cases f with
  |next=>
   obtain⟨σ3,H3,I3,n3⟩:=q3
   obtain⟨m',hm,w3⟩:=hN σ3 H3 n3
   exact⟨m',hm,σ3,H3,I3,w3⟩
  |cont=>
   obtain⟨σ3,H3,I3,n3⟩:=q3
   obtain⟨m',hm,w3⟩:=hN σ3 H3 n3
   exact⟨m',hm,σ3,H3,I3,w3⟩
  |brk=>exact q3
  |ret v=>exact q3
 |false=>
  rw[if_neg Lc]
  exact Nq ⟨σ1,H2,I2,q2⟩
end
structure It where
 go:Nat->Hp->Prop
 yld:Nat->Hp->V->Hp->Prop
 stop:Nat->Hp->Prop
def fZ (X:Cx)(pins:List (Addr×Obj))(H:Hp)(b:Addr):Prop:=
 H b=none/\b≠X.env.locals/\b∉X.fs/\(b∈X.ex\/X.s₀.heap.objs.size<=b)/\(∀x c,X.env.cells.lookup x=some c->c≠b)/\∀p∈X.pn++pins,p.1≠b
def Inv.fpOk {X:Cx}{pins:List (Addr×Obj)}{σ:St}{H H':Hp}{s:Shared}{b:Addr}(I:Inv X pins σ H s)(hb:s.heap.objs.size<=b)(hn:H' b=none):fZ X pins H' b:=by
 refine⟨hn,OY (Kx I.lt hb),I.nofs hb,.inr (Kw I.sz hb),λx c e z=>?_,λp hp z=>?_⟩
 .obtain⟨v,q⟩:=I.cell x c e;exact absurd (Kx q.lt (by rw[z];exact hb)) (LN _)
 .exact absurd (Kx (Kv (I.pin p hp).1) (by rw[z];exact hb)) (LN _)
structure iM (P:Program) (w:World) (K:Qc) (tg:Expr) (J:It) (fp:List Addr) (it:Addr) (tn:Nat->Heap->Prop):Prop where
 mem:it∈fp
 obj:∀i h,tn i h->∀b∈fp,∃o,h.get? b=some o/\∀v,o.data≠ .cell v
 keep:∀i h h',tn i h->(∀b∈fp,∀o,h.get? b=some o->h'.get? b=some o)->tn i h'
 item:∀(X:Cx),X.prog=P->X.w=w->X.K=K->X.calm=true->∀(i:Nat) (pins:List (Addr×Obj)) (s:Shared) (σ:St) (H:Hp) (E:Value->Shared->Prop),Inv X pins σ H s->(∀b∈fp,fZ X pins H b)->tn i s.heap->J.go i H->
  wpAny (model P w) X.A (pyNext (.ref it)) (λr s1=>∃u,r=some u/\
   wpAny (model P w) X.A (letOwnedTupleGo tg (.ref it) u) (λ_ s2=>∃x H',Inv X pins σ H' s2/\RelV x u/\J.yld i H x H'/\tn (i+1) s2.heap/\∀b∈fp,H' b=none) E s1) E s
 done:∀(X:Cx),X.prog=P->X.w=w->X.K=K->X.calm=true->∀(i:Nat) (pins:List (Addr×Obj)) (s:Shared) (σ:St) (H:Hp) (E:Value->Shared->Prop),Inv X pins σ H s->(∀b∈fp,fZ X pins H b)->tn i s.heap->J.stop i H->
  wpAny (model P w) X.A (pyNext (.ref it)) (λr s1=>r=none/\Inv X pins σ H s1) E s
 self:∀(A:Around) (i:Nat) (s:Shared) (Q:Value->Shared->Prop) (E:Value->Shared->Prop),tn i s.heap->Q (.ref it) s->wpAny (model P w) A (pyIter (.ref it)) Q E s
abbrev TI:=St->Hp->(It->Hp->Prop)->Prop
def Ij (X:Cx)(pins:List (Addr×Obj))(σ:St)(tg:Expr)(R:It->Hp->Prop)(VB:Value)(s2:Shared):Prop:=
 ∃(it:Addr) (fp:List Addr) (tn:Nat->Heap->Prop) (J:It) (H':Hp),VB= .ref it/\Inv X pins σ H' s2/\iM X.prog X.w X.K tg J fp it tn/\tn 0 s2.heap/\(∀b∈fp,fZ X pins H' b)/\R J H'
def PI (X:Cx)(tg iter:Expr)(wi:TI):Prop:=
 ∀(pins:List (Addr×Obj)) (s:Shared) (σ:St) (H:Hp) (R:It->Hp->Prop),Inv X pins σ H s->wi σ H R->
  wpAny (model X.prog X.w) X.A (eval iter X.env) (λv s1=>wpAny (model X.prog X.w) X.A (pyIter v) (Ij X pins σ tg R) X.xe s1) X.xe s
def rH {M : Model} {A : Around} {E : Value -> Shared -> Prop} {s : Shared} {tg : Expr} {it : Addr} {u : Value} {o : Obj} {n : String} {vs : Array Value} {Q : Unit -> Shared -> Prop} (ho : s.heap.get? it = some o) (hc : o.cls = .type n) (hd : o.data = .fields vs)
    (hn : ["enumerate", "zip", "dict_itemiterator", "dict_reverseitemiterator", "odict_iterator", "itertools.zip_longest", "itertools.pairwise"].contains n = false) (hQ : Q () s) : wpAny M A (letOwnedTupleGo tg (.ref it) u) Q E s := by
  unfold letOwnedTupleGo
  cases tg <;> first
    | exact Ky hQ
    | (cases u <;> first
        | exact Ky hQ
        | (refine Ko (wpAny_load ho ?_)
           rw [hc, hd]
           show wpAny M A (if (["enumerate", "zip", "dict_itemiterator", "dict_reverseitemiterator", "odict_iterator", "itertools.zip_longest", "itertools.pairwise"].contains n && vs[0]? == some (rawInt _)) = true then _ else _) Q E s
           rw [if_neg (by intro h; rw [hn, Bool.false_and] at h; cases h)]
           exact Ky hQ))
def Itl (K:Qc)(a:Addr):It:=
 ⟨λi H=>∃xs x,SqL K H a xs/\xs[i]?=some x,λi H x H'=>H'=H/\∀xs,SqL K H a xs->xs[i]?=some x,λi H=>∃xs,SqL K H a xs/\xs.length<=i⟩
def Jt (K:Qc)(a:Addr):It:=
 ⟨λi H=>∃xs x,SqT K H a xs/\xs[i]?=some x,λi H x H'=>H'=H/\∀xs,SqT K H a xs->xs[i]?=some x,λi H=>∃xs,SqT K H a xs/\xs.length<=i⟩
def Ih (lo:Int)(n:Nat):It:=⟨λi _=>i<n,λi H x H'=>H'=H/\x= .int (lo+i),λi _=>n<=i⟩
def vN {P:Program}{w:World}{K:Qc}{tg:Expr}(a it:Addr):iM P w K tg (Itl K a) [it] it (λi h=>h.IsListIter it a i) where
 mem:=by simp
 obj:=λi h st b hb=>by
  have e:b=it:=by simpa using hb
  subst e;obtain⟨o,e,c,d⟩:=st;exact⟨o,e,λv z=>by rw[d] at z;cases z⟩
 keep:=λi h h' st k=>st.at λo e=>k it (by simp) o e
 item:=by
  intro X hP hw hK hc i pins s σ H E I hf st hg;subst hP hw hK;obtain⟨xs,x,hq,hx⟩:=hg;obtain⟨a_,rv,p,hz⟩:=I.list hq;obtain⟨u,hu,ru⟩:=rv.get hx;obtain⟨f0,f1,f2,f3,f4,f5⟩:=hf it (by simp);refine ND st p.isList (x:=u) (by simpa using hu) λh' v_ sb=>?_;have I1:Inv X pins σ H {s with heap:=h'}:=I.turned (t':=s.toks) (λb o hb e=>(sb.2 b hb).trans e) f0 f1 f3 f4 f5;obtain⟨o,e,c,d⟩:=id v_;exact⟨u,rfl,rH (s:={s with heap:=h'}) e c d (by decide) ⟨x,H,I1,ru,⟨rfl,λys hy=>by rw[I.list_inj hy hq];exact hx⟩,v_,λb hb=>(hf b hb).1⟩⟩
 done:=by
  intro X hP hw hK hc i pins s σ H E I hf st hg;subst hP hw hK;obtain⟨xs,hq,hx⟩:=hg;obtain⟨a_,rv,p,hz⟩:=I.list hq;obtain⟨f0,f1,f2,f3,f4,f5⟩:=hf it (by simp);have hl:=rv.length;exact NJ (I.ok.hd hc) st p.isList (by simp;lia) λh' eb=>⟨rfl,I.turned (t':=s.toks) (λb o hb e=>eb b o hb e) f0 f1 f3 f4 f5⟩
 self:=λ_ _ _ _ _ st h=>wpAny_pyIter_listiter st h
def sU {P:Program}{w:World}{K:Qc}{tg:Expr}(a it:Addr):iM P w K tg (Jt K a) [it] it (λi h=>h.IsTupleIter it a i) where
 mem:=by simp
 obj:=λi h st b hb=>by
  have e:b=it:=by simpa using hb
  subst e;obtain⟨o,e,c,d⟩:=st;exact⟨o,e,λv z=>by rw[d] at z;cases z⟩
 keep:=λi h h' st k=>st.at λo e=>k it (by simp) o e
 item:=by
  intro X hP hw hK hc i pins s σ H E I hf st hg;subst hP hw hK;obtain⟨xs,x,hq,hx⟩:=hg;obtain⟨a_,rv,p,hz⟩:=I.tuple hq;obtain⟨u,hu,ru⟩:=rv.get hx;obtain⟨f0,f1,f2,f3,f4,f5⟩:=hf it (by simp);refine wpAny_pyNext_tuple_item st (show s.heap.IsTuple a a_.toArray from p) (x:=u) (by simpa using hu) λh' v_ sb=>?_;have I1:Inv X pins σ H {s with heap:=h'}:=I.turned (t':=s.toks) (λb o hb e=>(sb.2 b hb).trans e) f0 f1 f3 f4 f5;obtain⟨o,e,c,d⟩:=id v_;exact⟨u,rfl,rH (s:={s with heap:=h'}) e c d (by decide) ⟨x,H,I1,ru,⟨rfl,λys hy=>by rw[I.tuple_inj hy hq];exact hx⟩,v_,λb hb=>(hf b hb).1⟩⟩
 done:=by
  intro X hP hw hK hc i pins s σ H E I hf st hg;subst hP hw hK;obtain⟨xs,hq,hx⟩:=hg;obtain⟨a_,rv,p,hz⟩:=I.tuple hq;obtain⟨f0,f1,f2,f3,f4,f5⟩:=hf it (by simp);have hl:=rv.length;exact wpAny_pyNext_tuple_end (I.ok.hd hc) st (show s.heap.IsTuple a a_.toArray from p) (by simp;lia) λh' eb=>⟨rfl,I.turned (t':=s.toks) (λb o hb e=>eb b o hb e) f0 f1 f3 f4 f5⟩
 self:=λ_ _ _ _ _ st h=>wpAny_pyIter_tupleiter st h
def uy {P:Program}{w:World}{K:Qc}{tg:Expr}(it:Addr)(lo:Int)(n:Nat):iM P w K tg (Ih lo n) [it] it (λi h=>IsRangeIter h it (lo+(i:Nat)*1) ((n:Int) -(i:Nat)) 1) where
 mem:=by simp
 obj:=λi h st b hb=>by
  have e:b=it:=by simpa using hb
  subst e;exact⟨_,st,λv z=>by
   have z':Data.fields _=Data.cell v:=z;cases z'⟩
 keep:=λi h h' st k=>k it (by simp) _ st
 item:=by
  intro X hP hw hK hc i pins s σ H E I hf st hg;subst hP hw hK;obtain⟨f0,f1,f2,f3,f4,f5⟩:=hf it (by simp);have W:=Walks.range (prog:=X.prog) (w:=X.w) (I.ok.hd hc) it lo 1 n;refine W.item i s _ _ hg st λv h' tk hv v_ kk=>?_;obtain⟨t,rfl⟩:=hv;have I1:Inv X pins σ H {s with heap:=h',toks:=tk}:=I.turned (λb o hb e=>kk b o (by simpa using hb) e) f0 f1 f3 f4 f5;refine⟨_,rfl,rH (s:={s with heap:=h',toks:=tk}) (n:="range_iterator") v_ rfl rfl (by decide) ⟨.int (lo+i),H,I1,⟨t,?_⟩,⟨rfl,rfl⟩,v_,λb hb=>(hf b hb).1⟩⟩;rw[Int.mul_one]
 done:=by
  intro X hP hw hK hc i pins s σ H E I hf st hg;subst hP hw hK;obtain⟨f0,f1,f2,f3,f4,f5⟩:=hf it (by simp);exact wpAny_pyNext_range_end (I.ok.hd hc) st (by have:n<=i:=hg;lia) λh' eb=>⟨rfl,I.turned (t':=s.toks) (λb o hb e=>eb b o hb e) f0 f1 f3 f4 f5⟩
 self:=λ_ _ _ _ _ st h=>wpAny_pyIter_rangeiter st h
section
variable {X:Cx} {tg:Expr}
def yw {pins:List (Addr×Obj)}{σ:St}{H:Hp}{s:Shared}{R:It->Hp->Prop}{E:Value->Shared->Prop}{lo hi:Int}{t u v:Tok}{tk:Nat}(I:Inv X pins σ H s)(h1: -(2 ^ 62)<=lo)(h2:lo<2 ^ 62)(h3: -(2 ^ 62)<=hi)(h4:hi<2 ^ 62)
  (q:R (Ih lo (hi -lo).toNat) H):wpAny (model X.prog X.w) X.A (pyIter (.ref s.heap.objs.size)) (Ij X pins σ tg R) E {s with heap:=s.heap.push {cls:= .type "range",data:= .fields #[.int lo t,.int hi u,.int 1 v]},toks:=tk}:=by
 refine wpAny_pyIter_range (IsRange.new ..) (small_one h1 h2 h3 h4) ?_
 have I1:Inv X pins σ H {s with heap:=s.heap.push {cls:= .type "range",data:= .fields #[.int lo t,.int hi u,.int 1 v]},toks:=tk}:=I.kept λb o e=>Kn _ e
 refine⟨(s.heap.push {cls:= .type "range",data:= .fields #[.int lo t,.int hi u,.int 1 v]}).objs.size,[(s.heap.push {cls:= .type "range",data:= .fields #[.int lo t,.int hi u,.int 1 v]}).objs.size],_,_,H,rfl,
  I1.kept (t':=tk) λb o e=>Kn _ e,uy _ lo (hi -lo).toNat,?_,λb hb=>?_,q⟩
 .have e1:lo+((0:Nat):Int)*1=lo:=by simp
  have e2:(((hi -lo).toNat:Nat):Int) -((0:Nat):Int)=Builtin.Range.rangeSize lo hi 1:=by rw[rangeSize_one];split<;>lia
  show IsRangeIter _ _ (lo+((0:Nat):Int)*1) ((((hi -lo).toNat:Nat):Int) -((0:Nat):Int)) 1
  rw[e1,e2]
  exact KD _ rfl
 .have e:b=(s.heap.push {cls:= .type "range",data:= .fields #[.int lo t,.int hi u,.int 1 v]}).objs.size:=by simpa using hb
  subst e
  exact I1.fpOk (Ke _) (I1.hok.fresh (Ke _))
def yk (ta:TA):TI:=λσ H R=>ta σ H λvs H1=>∃j:Int,vs=[.int j]/\-(2 ^ 62)<=j/\j<2 ^ 62/\R (Ih 0 j.toNat) H1
def vO {a:Expr}{ta:TA}{p pos:Pos}(hg:Gl X "range")(hm:X.mg "range"=none)(ha:PA X [a] ta)(hs:starEach [a] X.env=[(false,eval a X.env)]:=by rfl):PI X tg (.Call (.Name "range" p) [a] [] pos) (yk ta):=by
 intro pins s σ H R I h;refine Call_ (de I hg hm boot_range (LP (P0 (ha pos pins s σ H _ I h) λus s1 ⟨vs,H1,I1,r1,q1⟩=>?_) hs rfl));obtain⟨j,e,q1,q2,q⟩:=q1;subst e;cases r1 with
 |cons r rr=>
  cases rr
  obtain⟨t,rfl⟩:=r
  exact call_range_1 (yw I1 (by lia) (by lia) q1 q2 (by simpa using q))
def lB (fp:List Addr)(h:Heap):List (Addr×Obj):=fp.filterMap λb=>(h.get? b).map λo=>(b,o)
def bX {fp:List Addr}{h:Heap}{b:Addr}{o:Obj}(hb:b∈fp)(e:h.get? b=some o):(b,o)∈lB fp h:=Nr.mpr ⟨b,hb,by rw[e];rfl⟩
def xu {fp:List Addr}{h:Heap}{p:Addr×Obj}(hp:p∈lB fp h):p.1∈fp/\h.get? p.1=some p.2:=by
 obtain⟨b,hb,e⟩:=Nr.mp hp;cases q:h.get? b with
 |none=>rw[q] at e;cases e
 |some o=>
  rw[q] at e
  have e':(b,o)=p:=KG e
  subst e'
  exact⟨hb,q⟩
def Inv.pinned {pins:List (Addr×Obj)}{σ:St}{H:Hp}{s:Shared}{fp:List Addr}(I:Inv X pins σ H s)(hf:∀b∈fp,fZ X pins H b)(ho:∀b∈fp,∃o,s.heap.get? b=some o/\∀v,o.data≠ .cell v):Inv X (pins++lB fp s.heap) σ H s:=
 I.pins_of λp hp=>(Kg.mp hp).elim (λz=>I.pin p (Kk _ z)) λz=>by
  obtain⟨hb,e⟩:=xu z;obtain⟨f0,f1,f2,_⟩:=hf p.1 hb;obtain⟨o,e',d⟩:=ho p.1 hb;rw[e] at e';cases e';exact⟨e,f0,f1,f2,d⟩
def Inv.unpinned {pins pl:List (Addr×Obj)}{σ:St}{H:Hp}{s:Shared}(I:Inv X (pins++pl) σ H s):Inv X pins σ H s:=I.pins_of λp hp=>I.pin p (Kk _ (Kf _ hp))
end
abbrev R2:=V->V->Hp->VK->Prop
def OpR (X:Cx)(f:Value->Value->Sem Value)(r:R2):Prop:=
 ∀(pins:List (Addr×Obj)) (s:Shared) (σ:St) (H:Hp) (x y:V) (v u:Value) (Q:VK),Inv X pins σ H s->RelV x v->RelV y u->r x y H Q->
  wpAny (model X.prog X.w) X.A (f v u) (EP X pins σ Q) X.xe s
def CallR (X:Cx)(f:Value)(r:List V->Hp->VK->Prop):Prop:=
 ∀(pins:List (Addr×Obj)) (s:Shared) (σ:St) (H:Hp) (xs:List V) (us:List Value) (Q:VK),Inv X pins σ H s->Vals xs us->r xs H Q->
  wpAny (model X.prog X.w) X.A (call f us) (EP X pins σ Q) X.xe s
def Jh (X:Cx)(r:V->Hp->(Bool->Hp->Prop)->Prop):Prop:=
 ∀(pins:List (Addr×Obj)) (s:Shared) (σ:St) (H:Hp) (x:V) (v:Value) (Q:Bool->Hp->Prop),Inv X pins σ H s->RelV x v->r x H Q->
  wpAny (model X.prog X.w) X.A (truthy v) (TP X pins σ Q) X.xe s
def AJ (r:R2)(ta tb:TE):TE:=λσ H Q=>ta σ H λx H1=>tb σ H1 λy H2=>r x y H2 Q
def rI (C:Int->Int->Prop)(g:Int->Int->V):R2:=λx y H Q=>∃i j,x= .int i/\y= .int j/\C i j/\Q (g i j) H
def Aq (g:Int->Int->V):R2:=λx y H Q=>∃i j,x= .int i/\y= .int j/\Q (g i j) H
section
variable {X:Cx} {a b c:Expr} {ta tb tc:TE} {pos:Pos}
def Eb (ha:PE X a ta)(hb:PE X b tb){pins:List (Addr×Obj)}{s:Shared}{σ:St}{H:Hp}{R:V->V->Hp->Prop}(I:Inv X pins σ H s)
  (h:ta σ H λx H1=>tb σ H1 λy H2=>R x y H2) {Q:Value->Shared->Prop} {f:Value->Value->Sem Value}
  (hf:∀v u s2 x y H2,Inv X pins σ H2 s2->RelV x v->RelV y u->R x y H2->wpAny (model X.prog X.w) X.A (f v u) Q X.xe s2):
  wpAny (model X.prog X.w) X.A (eval a X.env) (λv s₁=>wpAny (model X.prog X.w) X.A (eval b X.env) (λu s₂=>wpAny (model X.prog X.w) X.A (f v u) Q X.xe s₂) X.xe s₁) X.xe s:=by
 refine P0 (ha pins s σ H _ I h) λv s1 ⟨x,H1,I1,r1,q1⟩=>?_
 refine P0 (hb pins s1 σ H1 _ I1 q1) λu s2 ⟨y,H2,I2,r2,q2⟩=>?_
 exact hf v u s2 x y H2 I2 r1 r2 q2
def Gq {op:Operator}{r:R2}(ho:OpR X (binaryOp op) r)(ha:PE X a ta)(hb:PE X b tb):PE X (.BinOp a op b pos) (AJ r ta tb):=by
 intro pins s σ H Q I h;exact wpAny_BinOp (Eb ha hb I h λv u s2 x y H2 I2 rx ry q=>ho pins s2 σ H2 x y v u Q I2 rx ry q)
def HX {f:Value->Value->Sem Value}{C:Int->Int->Prop}{g:Int->Int->Int}
  (rule:∀(i j:Int) (t u:Tok) (s:Shared) (Q:Value->Shared->Prop) (E:Value->Shared->Prop),C i j->Q (.int (g i j) s.toks) {s with toks:=s.toks+1}->wpAny (model X.prog X.w) X.A (f (.int i t) (.int j u)) Q E s):
  OpR X f (rI C λi j=> .int (g i j)):=by
 intro pins s σ H x y v u Q I rx ry h
 obtain⟨i,j,rfl,rfl,hc,q⟩:=h
 obtain⟨t,rfl⟩:=rx
 obtain⟨t',rfl⟩:=ry
 exact rule i j t t' s _ _ hc ⟨.int (g i j),H,I.tok _,⟨_,rfl⟩,q⟩
def Df {f:Value->Value->Sem Value}{g:Int->Int->Int}
  (rule:∀(i j:Int) (t u:Tok) (s:Shared) (Q:Value->Shared->Prop) (E:Value->Shared->Prop),Q (.int (g i j) s.toks) {s with toks:=s.toks+1}->wpAny (model X.prog X.w) X.A (f (.int i t) (.int j u)) Q E s):
  OpR X f (Aq λi j=> .int (g i j)):=by
 intro pins s σ H x y v u Q I rx ry h
 obtain⟨i,j,rfl,rfl,q⟩:=h
 obtain⟨t,rfl⟩:=rx
 obtain⟨t',rfl⟩:=ry
 exact rule i j t t' s _ _ ⟨.int (g i j),H,I.tok _,⟨_,rfl⟩,q⟩
def Ft {f:Value->Value->Sem Value}{g:Int->Int->Bool}
  (rule:∀(i j:Int) (t u:Tok) (s:Shared) (Q:Value->Shared->Prop) (E:Value->Shared->Prop),Q (.bool (g i j)) s->wpAny (model X.prog X.w) X.A (f (.int i t) (.int j u)) Q E s):
  OpR X f (Aq λi j=> .bl (g i j)):=by
 intro pins s σ H x y v u Q I rx ry h
 obtain⟨i,j,rfl,rfl,q⟩:=h
 obtain⟨t,rfl⟩:=rx
 obtain⟨t',rfl⟩:=ry
 exact rule i j t t' s _ _ ⟨.bl (g i j),H,I,rfl,q⟩
def Gk (i j:Int):Prop:=0<j/\j<1073741824
def Iu (i j:Int):Prop:=0<=j/\j<=1000000/\i.natAbs<2 ^ 64
def CMul (i j:Int):Prop:=(-(2 ^ 64)<i/\i<2 ^ 64)\/(-(2 ^ 64)<j/\j<2 ^ 64)
def CMul.ok {i j:Int}(h:CMul i j):IntMulOk i j:=by
 rcases h with⟨h1,h2⟩|⟨h1,h2⟩
 .exact .of_left (intBits_le_64 h1 h2)
 .exact .of_right (intBits_le_64 h1 h2)
def tQ (k:Nat):(0:Int)<=2 ^ k:=by
 rw[two_pow_cast];exact Int.natCast_nonneg _
def op_add:OpR X (binaryOp .Add) (Aq λi j=> .int (i+j)):=Df λ_ _ _ _ _ _ _ q=>add_int q
def tw:OpR X (binaryOp .Sub) (Aq λi j=> .int (i -j)):=Df λ_ _ _ _ _ _ _ q=>sub_int q
def op_mul:OpR X (binaryOp .Mult) (rI CMul λi j=> .int (i*j)):=HX λ_ _ _ _ _ _ _ hc q=>mul_int q hc.ok
def D4:OpR X (binaryOp .FloorDiv) (rI Gk λi j=> .int (i/j)):=HX λi j _ _ _ _ _ hc q=>by
 have h1:(0:Int)<j:=hc.1;have h2:j<1073741824:=hc.2;exact floordiv_int (by lia) (by rw[Ob i (by lia)];exact q) (.inl (PyProof.noPylong_small (by lia)))
def A7:OpR X (binaryOp .Mod) (rI (λ_ j=>0<j) λi j=> .int (i % j)):=HX λi j _ _ _ _ _ hc q=>by
 have h1:(0:Int)<j:=hc;exact mod_int' (by lia) (by rw[Int.fmod_eq_emod_of_nonneg i (by lia)];exact q)
def zb:OpR X (binaryOp .RShift) (rI (λ_ j=>0<=j) λi j=> .int (i/2 ^ j.toNat)):=HX λi j _ _ _ _ _ hc q=>
 rshift_int hc (by rw[Ob i (tQ _)];exact q)
def Ae:OpR X (binaryOp .BitAnd) (Aq λi j=> .int (Builtin.bitAnd i j)):=Df λ_ _ _ _ _ _ _ q=>and_int q
end
def Ge:V->V->Bool
 | .non,.non=>true| .non,.int _=>true| .int _,.non=>true| .non,.bl _=>true| .bl _,.non=>true| .non,.str _=>true| .str _,.non=>true
 | .int _,.int _=>true| .bl _,.bl _=>true| .str _,.str _=>true| .byt _,.byt _=>true
 | .int _,.str _=>true| .str _,.int _=>true| .bl _,.str _=>true| .str _,.bl _=>true
 |_,_=>false
def Ii:R2:=λx y H Q=>Ge x y=true/\Q (.bl (decide (x=y))) H
def II:R2:=λx y H Q=>Ge x y=true/\Q (.bl (!decide (x=y))) H
def jU {i j:Int}:decide (V.int i=V.int j)=(i==j):=by
 rw[Lg];simp
def uj {i j:Bool}:decide (V.bl i=V.bl j)=(i==j):=by
 rw[Lg];simp
def oN {i j:Str}:decide (V.str i=V.str j)=(i==j):=by
 rw[Lg];simp
def vh {i j:Array UInt8}:decide (V.byt i=V.byt j)=(i.toList==j.toList):=by
 rw[Lg];cases i;cases j;simp
section
variable {X:Cx} {a b c:Expr} {ta tb tc:TE} {pos:Pos}
def D5 {pins:List (Addr×Obj)}{σ:St}{H:Hp}{s:Shared}{Q:VK}{k k':Bool}(I:Inv X pins σ H s)(q:Q (.bl k) H)(e:k=k'):EP X pins σ Q (.bool k') s:=by
 subst e;exact⟨.bl k,H,I,rfl,q⟩
def op_eq:OpR X (compareOp .Eq) Ii:=by
 intro pins s σ H x y v u Q I rx ry h;obtain⟨hs,q⟩:=h;cases x with
 |non=>
  cases rx
  cases y with
  |non=>cases ry;exact PySem.EqNone.eq_none_none (D5 I q (by simp))
  |bl j=>cases ry;exact PySem.EqNone.eq_none_bool (D5 I q (by simp))
  |int j=>obtain⟨t',rfl⟩:=ry;exact PySem.EqNone.eq_none_int (D5 I q (by simp))
  |str j=>obtain⟨t',rfl⟩:=ry;exact PySem.EqNone.eq_none_str (D5 I q (by simp))
  |_=>exact absurd (show false=true from hs) Lc
 |bl i=>
  cases rx
  cases y with
  |non=>cases ry;exact PySem.EqNone.eq_bool_none (D5 I q (by simp))
  |bl j=>cases ry;exact eq_bool (D5 I q uj)
  |str j=>obtain⟨t',rfl⟩:=ry;exact PySem.EqMixed.eq_bool_str (D5 I q (by simp))
  |_=>exact absurd (show false=true from hs) Lc
 |int i=>
  obtain⟨t,rfl⟩:=rx
  cases y with
  |non=>cases ry;exact PySem.EqNone.eq_int_none (D5 I q (by simp))
  |int j=>obtain⟨t',rfl⟩:=ry;exact eq_int (D5 I q jU)
  |str j=>obtain⟨t',rfl⟩:=ry;exact PySem.EqMixed.eq_int_str (D5 I q (by simp))
  |_=>exact absurd (show false=true from hs) Lc
 |str i=>
  obtain⟨t,rfl⟩:=rx
  cases y with
  |non=>cases ry;exact PySem.EqNone.eq_str_none (D5 I q (by simp))
  |bl j=>cases ry;exact PySem.EqMixed.eq_str_bool (D5 I q (by simp))
  |int j=>obtain⟨t',rfl⟩:=ry;exact PySem.EqMixed.eq_str_int (D5 I q (by simp))
  |str j=>obtain⟨t',rfl⟩:=ry;exact eq_str (D5 I q oN)
  |_=>exact absurd (show false=true from hs) Lc
 |byt i=>
  obtain⟨t,rfl⟩:=rx
  cases y with
  |byt j=>obtain⟨t',rfl⟩:=ry;exact PySem.W.eq_bytes (D5 I q vh)
  |_=>exact absurd (show false=true from hs) Lc
 |_=>cases y<;>exact absurd (show false=true from hs) Lc
def op_ne:OpR X (compareOp .NotEq) II:=by
 intro pins s σ H x y v u Q I rx ry h;obtain⟨hs,q⟩:=h;cases x with
 |non=>
  cases rx
  cases y with
  |non=>cases ry;exact PySem.EqNone.ne_none_none (D5 I q (by simp))
  |bl j=>cases ry;exact PySem.EqNone.ne_none_bool (D5 I q (by simp))
  |int j=>obtain⟨t',rfl⟩:=ry;exact PySem.EqNone.ne_none_int (D5 I q (by simp))
  |str j=>obtain⟨t',rfl⟩:=ry;exact PySem.EqNone.ne_none_str (D5 I q (by simp))
  |_=>exact absurd (show false=true from hs) Lc
 |bl i=>
  cases rx
  cases y with
  |non=>cases ry;exact PySem.EqNone.ne_bool_none (D5 I q (by simp))
  |bl j=>cases ry;exact ne_bool (D5 I q (LK not uj))
  |str j=>obtain⟨t',rfl⟩:=ry;exact PySem.EqMixed.ne_bool_str (D5 I q (by simp))
  |_=>exact absurd (show false=true from hs) Lc
 |int i=>
  obtain⟨t,rfl⟩:=rx
  cases y with
  |non=>cases ry;exact PySem.EqNone.ne_int_none (D5 I q (by simp))
  |int j=>obtain⟨t',rfl⟩:=ry;exact ne_int (D5 I q (LK not jU))
  |str j=>obtain⟨t',rfl⟩:=ry;exact PySem.EqMixed.ne_int_str (D5 I q (by simp))
  |_=>exact absurd (show false=true from hs) Lc
 |str i=>
  obtain⟨t,rfl⟩:=rx
  cases y with
  |non=>cases ry;exact PySem.EqNone.ne_str_none (D5 I q (by simp))
  |bl j=>cases ry;exact PySem.EqMixed.ne_str_bool (D5 I q (by simp))
  |int j=>obtain⟨t',rfl⟩:=ry;exact PySem.EqMixed.ne_str_int (D5 I q (by simp))
  |str j=>obtain⟨t',rfl⟩:=ry;exact ne_str (D5 I q (LK not oN))
  |_=>exact absurd (show false=true from hs) Lc
 |byt i=>
  obtain⟨t,rfl⟩:=rx
  cases y with
  |byt j=>obtain⟨t',rfl⟩:=ry;exact PySem.W.ne_bytes (D5 I q (LK not vh))
  |_=>exact absurd (show false=true from hs) Lc
 |_=>cases y<;>exact absurd (show false=true from hs) Lc
def op_lt:OpR X (compareOp .Lt) (Aq λi j=> .bl (decide (i<j))):=Ft λ_ _ _ _ _ _ _ q=>lt_int q
def GA:OpR X (compareOp .LtE) (Aq λi j=> .bl (decide (i<=j))):=Ft λ_ _ _ _ _ _ _ q=>le_int q
def yP:OpR X (compareOp .Gt) (Aq λi j=> .bl (decide (j<i))):=Ft λ_ _ _ _ _ _ _ q=>gt_int q
def wc:OpR X (compareOp .Lt) (λx y H Q=>∃i j,x= .str i/\y= .str j/\Q (.bl (decide (i.cps.toList<j.cps.toList))) H):=by
 intro pins s σ H x y v u Q I rx ry h;obtain⟨i,j,rfl,rfl,q⟩:=h;obtain⟨t,rfl⟩:=rx;obtain⟨t',rfl⟩:=ry;exact lt_str (D5 I q rfl)
def wW:OpR X (compareOp .In) (λx y H Q=>∃i j,x= .str i/\y= .str j/\Q (.bl (!(Builtin.Str.occurrences j i 0 j.length 1).isEmpty)) H):=by
 intro pins s σ H x y v u Q I rx ry h;obtain⟨i,j,rfl,rfl,q⟩:=h;obtain⟨t,rfl⟩:=rx;obtain⟨t',rfl⟩:=ry;exact in_str (D5 I q rfl)
def OpR.or {f:Value->Value->Sem Value}{r r':R2}(h:OpR X f r)(h':OpR X f r'):OpR X f (λx y H Q=>r x y H Q\/r' x y H Q):=by
 intro pins s σ H x y v u Q I rx ry q;rcases q with q|q
 .exact h pins s σ H x y v u Q I rx ry q
 .exact h' pins s σ H x y v u Q I rx ry q
def A1 (b:Expr){op:CmpOp}(h:op≠ .In:=by decide)(h2:op≠ .NotIn:=by decide):behindInMarks op b=false:=by
 have e1:(op==CmpOp.In)=false:=by cases op<;>first|rfl|exact absurd rfl h
 have e2:(op==CmpOp.NotIn)=false:=by cases op<;>first|rfl|exact absurd rfl h2
 cases b<;>simp [behindInMarks,e1,e2]
def Bk {op:CmpOp}{r:R2}(ho:OpR X (compareOp op) r)(ha:PE X a ta)(hb:PE X b tb)(hm:behindInMarks op b=false):PE X (.Compare a [op] [b] pos) (AJ r ta tb):=by
 intro pins s σ H Q I h;exact wpAny_Compare1 (Eb ha hb I h λv u s2 x y H2 I2 rx ry q=>ho pins s2 σ H2 x y v u Q I2 rx ry q) hm
def Al (t:TE):TT:=λσ H Q=>t σ H λx H'=>∃k,x= .bl k/\Q k H'
def Bx {op:CmpOp}{r:R2}(ho:OpR X (compareOp op) r)(ha:PE X a ta)(hb:PE X b tb)(hm:behindInMarks op b=false):PT X (.Compare a [op] [b] pos) (Al (AJ r ta tb)):=by
 intro pins s σ H Q I h;refine wpAny_isTrue_Compare1 (P0 (ha pins s σ H _ I h) λv s1 ⟨x,H1,I1,r1,q1⟩=>P0 (hb pins s1 σ H1 _ I1 q1) λu s2 ⟨y,H2,I2,r2,q2⟩=>
  P0 (ho pins s2 σ H2 x y v u _ I2 r1 r2 q2) λc s3 ⟨z,H3,I3,r3,k,e,q3⟩=>?_) hm
 subst e;cases r3;exact Md ⟨H3,I3,q3⟩
def AA (K:Qc)(x:V)(H:Hp)(k:Bool):Prop:=
 match x with
 | .non=>k=false
 | .bl b=>k=b
 | .int i=>k=(i !=0)
 | .str y=>y.length<=sizeLine/\k=((y.length:Int) !=0)
 | .byt y=>y.size<=sizeLine/\k=((y.size:Int) !=0)
 | .ref p=>(∃xs,SqL K H p xs/\k=!xs.isEmpty)\/(∃xs,SqT K H p xs/\k=!xs.isEmpty)\/∃kvs,H p=some (.dK kvs)/\k=!kvs.isEmpty
 |_=>False
def uv {κ:Type}{kvs:List (κ×V)}{vs:List (κ×Value)}(r:KV kvs vs):(!vs.isEmpty)=!kvs.isEmpty:=by
 cases r<;>rfl
def kc {xs:List V}{a_:List Value}(r:Vals xs a_):(!a_.toArray.isEmpty)=!xs.isEmpty:=by
 cases r<;>simp
def iS:(sizeLine:Nat)<2 ^ 63:=by rw[PH];decide
def Dj:Jh X (λx H Q=>∃k,AA X.K x H k/\Q k H):=by
 intro pins s σ H x v Q I rx h;obtain⟨k,e,q⟩:=h;have hl:=iS;have hs:sizeLine=16777216:=PH;cases x with
 |non=>
  cases rx
  have e':k=false:=e
  subst e'
  exact truthy_none ⟨H,I,q⟩
 |bl b=>
  cases rx
  have e':k=b:=e
  subst e'
  exact Md ⟨H,I,q⟩
 |int i=>
  obtain⟨t,rfl⟩:=rx
  have e':k=(i !=0):=e
  subst e'
  exact PySem.P.truthy_int ⟨H,I,q⟩
 |str y=>
  obtain⟨t,rfl⟩:=rx
  obtain⟨hy,e'⟩:y.length<=sizeLine/\k=((y.length:Int) !=0):=e
  subst e'
  exact PySem.P.truthy_str (by lia) ⟨H,I.tok _,q⟩
 |byt y=>
  obtain⟨t,rfl⟩:=rx
  obtain⟨hy,e'⟩:y.size<=sizeLine/\k=((y.size:Int) !=0):=e
  subst e'
  exact PySem.W.truthy_bytes (by lia) ⟨H,I.tok _,q⟩
 |ref p=>
  cases rx
  have e':(∃xs,SqL X.K H p xs/\k=!xs.isEmpty)\/(∃xs,SqT X.K H p xs/\k=!xs.isEmpty)\/∃kvs,H p=some (.dK kvs)/\k=!kvs.isEmpty:=e
  rcases e' with⟨xs,hx,e'⟩|⟨xs,hx,e'⟩|⟨kvs,hx,e'⟩
  .subst e'
   obtain⟨a_,r,pl,hz⟩:=I.list hx
   have hlen:=r.length
   exact wpAny_truthy_list pl.isList (by simp only[KH];lia) ⟨H,I.tok _,by rw[kc r];exact q⟩
  .subst e'
   obtain⟨a_,r,pl,hz⟩:=I.tuple hx
   have hlen:=r.length
   exact truthy_tuple pl (by simp only[KH];lia) ⟨H,I.tok _,by rw[kc r];exact q⟩
  .subst e'
   obtain⟨hz,hS,vs,r,m⟩:kvs.length<=sizeLine/\(p==sysModules)=false/\∃vs,KV kvs vs/\s.heap.DictOf (z7 X.prog X.w) p vs:=I.hok p _ hx
   have hlen:kvs.length=vs.length:=KW r
   exact wpAny_truthy_dict hS m (by lia) ⟨H,I.tok _,by rw[uv r];exact q⟩
 |_=>exact(show False from e).elim
def yb (ha:PE X a ta)(he:∀whole,isTrue a X.env whole=(do let v←whole;standAt a.pos;holding [v] (truthy v))):
  PT X a (λσ H Q=>ta σ H λx H'=>∃k,AA X.K x H' k/\Q k H'):=by
 intro pins s σ H Q I h
 exact isTrue_plain (P0 (ha pins s σ H _ I h) λv s1 ⟨x,H1,I1,r1,q1⟩=>Dj pins s1 σ H1 x v Q I1 r1 q1) (he _)
def op_add_str:OpR X (binaryOp .Add) (λx y H Q=>∃i j,x= .str i/\y= .str j/\i.length+j.length<=sizeLine/\Q (.str (i++j)) H):=by
 intro pins s σ H x y v u Q I rx ry h;obtain⟨i,j,rfl,rfl,hz,q⟩:=h;obtain⟨t,rfl⟩:=rx;obtain⟨t',rfl⟩:=ry;exact add_str (λt' tk=>⟨.str (i++j),H,I.tok _,⟨_,rfl⟩,q⟩) hz
def V4 {x:V}{us:List Value}(r:Vals [x] us):∃u,us=[u]/\RelV x u:=by
 cases r with
 |cons r1 r2=>cases r2;exact⟨_,rfl,r1⟩
def hJ {x y:V}{us:List Value}(r:Vals [x,y] us):∃u w',us=[u,w']/\RelV x u/\RelV y w':=by
 cases r with
 |cons r1 r2=>
  cases r2 with
  |cons r3 r4=>cases r4;exact⟨_,_,rfl,r1,r3⟩
def xq (hc:X.calm=true):CallR X (.builtin "max") (λxs H Q=>∃i j,xs=[.int i,.int j]/\Q (.int (if j>i then j else i)) H):=by
 intro pins s σ H xs us Q I r h;obtain⟨i,j,rfl,q⟩:=h;obtain⟨u,w',rfl,⟨t,rfl⟩,⟨t',rfl⟩⟩:=hJ r;refine max_two_ints (I.ok.hd hc) λh' tk k=>⟨_,H,I.kept k,?_,q⟩
 by_cases hj:j>i
 .rw[if_pos hj,if_pos hj];exact⟨_,rfl⟩
 .rw[if_neg hj,if_neg hj];exact⟨_,rfl⟩
def iP (hc:X.calm=true):CallR X (.builtin "min") (λxs H Q=>∃i j,xs=[.int i,.int j]/\Q (.int (if j<i then j else i)) H):=by
 intro pins s σ H xs us Q I r h;obtain⟨i,j,rfl,q⟩:=h;obtain⟨u,w',rfl,⟨t,rfl⟩,⟨t',rfl⟩⟩:=hJ r;refine min_two_ints (I.ok.hd hc) λh' tk k=>⟨_,H,I.kept k,?_,q⟩
 by_cases hj:j<i
 .rw[if_pos hj,if_pos hj];exact⟨_,rfl⟩
 .rw[if_neg hj,if_neg hj];exact⟨_,rfl⟩
def dS:CallR X (.type "int") (λxs H Q=>(∃i,xs=[.int i]/\Q (.int i) H)\/∃k,xs=[.bl k]/\Q (.int (if k then 1 else 0)) H):=by
 intro pins s σ H xs us Q I r h;rcases h with⟨i,rfl,q⟩|⟨k,rfl,q⟩
 .obtain⟨u,rfl,t,rfl⟩:=V4 r;exact call_int_int ⟨.int i,H,I,⟨_,rfl⟩,q⟩
 .obtain⟨u,rfl,r1⟩:=V4 r;cases r1;exact call_int_bool ⟨.int (if k then 1 else 0),H,I.tok _,⟨_,rfl⟩,q⟩
def GH (K:Qc)(x:V)(H:Hp)(n:Nat):Prop:=
 match x with
 | .str y=>y.length<=sizeLine/\n=y.length
 | .byt y=>y.size<=sizeLine/\n=y.size
 | .ref p=>(∃xs,SqL K H p xs/\n=xs.length)\/∃xs,SqT K H p xs/\n=xs.length
 |_=>False
def call_len:CallR X (.builtin "len") (λxs H Q=>∃x n,xs=[x]/\GH X.K x H n/\Q (.int n) H):=by
 intro pins s σ H xs us Q I r h;obtain⟨x,n,rfl,e,q⟩:=h;obtain⟨u,rfl,rx⟩:=V4 r;have hl:=iS;have hs:sizeLine=16777216:=PH;cases x with
 |str y=>
  obtain⟨t,rfl⟩:=rx
  obtain⟨hy,e'⟩:y.length<=sizeLine/\n=y.length:=e
  subst e'
  exact len_str (by lia) ⟨.int _,H,I.tok _,⟨_,rfl⟩,q⟩
 |byt y=>
  obtain⟨t,rfl⟩:=rx
  obtain⟨hy,e'⟩:y.size<=sizeLine/\n=y.size:=e
  subst e'
  exact PySem.W.len_bytes (by lia) ⟨.int _,H,I.tok _,⟨_,rfl⟩,q⟩
 |ref p=>
  cases rx
  have e':(∃xs,SqL X.K H p xs/\n=xs.length)\/∃xs,SqT X.K H p xs/\n=xs.length:=e
  rcases e' with⟨xs,hx,e'⟩|⟨xs,hx,e'⟩
  .subst e'
   obtain⟨a_,r',pl,hz⟩:=I.list hx
   have hlen:=r'.length
   exact Calls.call_len_list pl.isList (by simp only[KH];lia) ⟨.int xs.length,H,I.tok _,⟨_,by simp only[KH];rw[hlen]⟩,q⟩
  .subst e'
   obtain⟨a_,r',pl,hz⟩:=I.tuple hx
   have hlen:=r'.length
   exact len_tuple pl (by simp only[KH];lia) ⟨.int xs.length,H,I.tok _,⟨_,by simp only[KH];rw[hlen]⟩,q⟩
 |_=>exact(show False from e).elim
end
structure JP (h:Heap) (x dx C:Addr) (mA:Str->Option Value):Prop where
 obj:h.get? x=some (PySem.W.instObj C dx)
 ns:h.Ns1 dx mA
 ne:dx≠x
section
variable {prog:Program} {w:World} {A:Around} {E:Value->Shared->Prop} {s:Shared} {K:Qc} {x dx C f:Addr} {mA:Str->Option Value} {name:Str} {v:Value}
end
def RelO.some_of {v:V}{o:Option Value}(r:RelO (some v) o):∃u,o=some u/\RelV v u:=by
 cases o with
 |none=>exact(show False from r).elim
 |some u=>exact⟨u,rfl,r⟩
section
variable {P:Program} {w:World} {H H':Hp} {h h':Heap} {a C dx:Addr} {fs fs':List (Str×V)}
end
structure JI (K:Qc) (C:Addr):Prop where
 pg:PySem.W.plainGet K C Str.empty=true
 hd:PySem.W.hasDictIn K C=true
 po:PySem.W.plainOver K C=true
 sa:PySem.W.findIn K (.ref C) "__setattr__"=some (some (.builtin "object.__setattr__"))
structure Ka (K:Qc) (C:Addr) (f:Str) (v:V) (u:Value):Prop where
 at_:PySem.W.findIn K (.ref C) f=some (some u)
 rel:RelV v u
 get:PySem.W.specialIn K u "__get__"=some none
 cp:PySem.W.copiedNames.contains f=false
structure JX (K:Qc) (C:Addr) (m:Str) (f:Addr):Prop where
 at_:PySem.W.findIn K (.ref C) m=some (some (.ref f))
 fn:PySem.W.isFn K (.ref f)=true
 kp:PySem.W.keepIn K (.ref f)=true
section
variable {X:Cx} {pins:List (Addr×Obj)} {σ:St} {H:Hp} {s:Shared} {a C dx:Addr} {fs:List (Str×V)} {f:Str} {v:V} {A:Around} {E:Value->Shared->Prop}
end
section
variable {X:Cx} {o e value:Expr} {f:Str} {pos pos' z_:Pos} {ta tv:TE}
end
section
variable {X:Cx} {pins:List (Addr×Obj)} {σ:St} {H:Hp} {s:Shared} {A:Around} {E:Value->Shared->Prop} {Q:Value->Shared->Prop} {c:Value} {b:Bool}
inductive me (K:Qc) (H:Hp):V->Value->Prop where
 |non:me K H .non (.type "NoneType")
 |bl (x:Bool):me K H (.bl x) (.type "bool")
 |int (i:Int):me K H (.int i) (.type "int")
 |str (x:Str):me K H (.str x) (.type "str")
 |flt (x:UInt64):me K H (.flt x) (.type "float")
 |lst {a:Addr} {xs:List V} (e:H a=some (.lst xs)):me K H (.ref a) (.type "list")
 |frz {a:Addr} {o:Obj} {xs:List V} (e:H a=some (.frz o (.lst xs))):me K H (.ref a) (.type "list")
 |tup {a:Addr} {xs:List V} (e:H a=some (.tup xs)):me K H (.ref a) (.type "tuple")
 |dK {a:Addr} {kvs:List (j6×V)} (e:H a=some (.dK kvs)):me K H (.ref a) (.type "dict")
 |dT {a:Addr} {kvs:List (List j6×V)} (e:H a=some (.dT kvs)):me K H (.ref a) (.type "dict")
 |ins {a C dx:Addr} {fs:List (Str×V)} (e:H a=some (.ins C dx fs)) (cl:JI K C) (ha:PySem.W.findIn K (.ref C) "__class__"=some (some (.builtin "object.__class__")))
   (hn:PySem.W.specialIn K (.builtin "object.__class__") "__get__"=some (some (.builtin "getset_descriptor.__get__"))) (Ug:PySem.W.takesIn K (.builtin "object.__class__")=some true)
   (hm:PySem.W.mroIn K C (.type "object")=some true):me K H (.ref a) (.ref C)
end
structure Room (k:Nat) (A:Around):Prop where
 hd:A.handled=none
 dp:A.depth+3*k+5<recursionLimit
 un:A.units+16*k+200<cLine
def Room.mono {j k:Nat}{A:Around}(r:Room k A)(h:j<=k):Room j A:=⟨r.hd,by have:=r.dp;lia,by have:=r.un;lia⟩
def Room.deeper {k:Nat}{A:Around}(r:Room (k+1) A)(env:Env):Room k (A.deeper env):=
 ⟨r.hd,by have:=r.dp;show A.depth+1+3*k+5<_;lia,by have:=r.un;show A.units+3+16*k+200<_;lia⟩
def Room.depth {k:Nat}{A:Around}(r:Room k A):A.depth<recursionLimit:=by have:=r.dp;lia
def Room.units {k:Nat}{A:Around}(r:Room k A):A.units+64<cLine:=by have:=r.un;lia
def yg:TA:=λ_ H Q=>Q [] H
def uZ (ta:TE)(tr:TA):TA:=λσ H Q=>ta σ H λx H1=>tr σ H1 λxs H2=>Q (x::xs) H2
section
variable {X:Cx} {e:Expr} {es:List Expr} {te:TE} {t:TA} {pos:Pos}
def FA:PA X [] yg:=λ_ _ _ _ H Q I h=>NG ⟨[],H,I,.nil,h⟩
def Bn (ha:PE X e te)(hr:PA X es t)(hs:starEach (e::es) X.env=(false,eval e X.env)::starEach es X.env:=by rfl):PA X (e::es) (uZ te t):=by
 intro pos pins s σ H Q I h;rw[hs];show wpAny _ _ (spliced ((false,eval e X.env)::backTo pos (starEach es X.env))) _ _ s;refine MQ (P0 (ha pins s σ H _ I h) λu s1 ⟨x,H1,I1,r1,q1⟩=>?_);exact P0 (hr pos pins s1 σ H1 _ I1 q1) λus s2 ⟨xs,H2,I2,r2,q2⟩=>⟨x::xs,H2,I2,.cons r1 r2,q2⟩
def DI (t:TA):TE:=λσ H Q=>t σ H λxs H1=>xs.length<=sizeLine/\∀p,H1 p=none->Q (.ref p) (upd H1 p (.tup xs))
def EI (t:TA):TE:=λσ H Q=>t σ H λxs H1=>xs.length<=sizeLine/\∀p,H1 p=none->Q (.ref p) (upd H1 p (.lst xs))
def DP {x1}(h:PA X es t):PE X (.Tuple es x1 pos) (DI t):=by
 intro pins s σ H Q I hq;refine wpAny_Tuple_spliced (P0 (h pos pins s σ H _ I hq) λus s1 ⟨xs,H1,I1,r,z,q⟩=>⟨by rw[←r.length];exact z,?_⟩);have hf:H1 s1.heap.objs.size=none:=I1.hok.fresh (Ke _);refine⟨.ref s1.heap.objs.size,upd H1 s1.heap.objs.size (.tup xs),I1.laid (t':=s1.toks) (λb u e=>Kn _ e) (Ke _) ?_,rfl,q _ hf⟩;exact⟨z,us,r,⟨_,KD _ rfl,rfl,_,rfl⟩⟩
def EY (h:PA X es t):PE X (.List es pos) (EI t):=by
 intro pins s σ H Q I hq;refine wpAny_List_spliced (P0 (h pos pins s σ H _ I hq) λus s1 ⟨xs,H1,I1,r,z,q⟩=>⟨by rw[←r.length];exact z,?_⟩);have hf:H1 s1.heap.objs.size=none:=I1.hok.fresh (Ke _);refine⟨.ref s1.heap.objs.size,upd H1 s1.heap.objs.size (.lst xs),I1.laid (t':=s1.toks) (λb u e=>Kn _ e) (Ke _) ?_,rfl,q _ hf⟩;exact⟨z,us,0,r,KD _ rfl⟩
end
abbrev Sp:=List V->Hp->VK->XK->Prop
abbrev qh:=List Env->Hp->Shared->XK->Value->Shared->Prop
structure BQ (P:Program) (w:World) (K:Qc) (mg:Str->Option Value) (base:Heap) (A:Around) (outer:List Env) (s:Shared) (H:Hp):Prop where
 frames:A.frames=some outer
 mod:Mod K mg base
 bs:∀b o,base.get? b=some o->s.heap.get? b=some o/\H b=none
 bsz:base.objs.size<=s.heap.objs.size
 funs:s.heap.FunFrames base outer
 frf:∀b∈bS outer,H b=none
 hok:HOk P w H s.heap
 bare:AllBare s.gens
def CE (outer:List Env)(P:Program)(w:World)(H:Hp)(s:Shared)(Q:VK)(u:Value)(s':Shared):Prop:=
 ∃v H',s'.os=s.os/\AllBare s'.gens/\Un (bS outer) [] H H' s.heap s'.heap/\HOk P w H' s'.heap/\RelV v u/\Q v H'
def CR (CX:qh)(outer:List Env)(P:Program)(w:World)(H:Hp)(s:Shared)(Q:VK)(E:XK)(r:Result)(s':Shared):Prop:=
 match r with
 | .ok (.ret u)=>CE outer P w H s Q u s'
 | .ok _=>False
 | .error e=>CX outer H s E e s'
structure C5 (P:Program) (w:World) (K:Qc) (mg:Str->Option Value) (base:Heap) (CX:qh) (k:Nat) (f:Addr) (fd:FuncData) (ps:List Str) (sp:Sp):Prop where
 len:∀vs H Q E,sp vs H Q E->vs.length=ps.length
 run:∀(A:Around) (outer:List Env) (s:Shared) (H:Hp) (args:Args) (us:List Value) (vs:List V) (Q:VK) (E:XK),Room k A->BQ P w K mg base A outer s H->BindsTo s fd args (ps.zip us)->Vals vs us->sp vs H Q E->
  codeAny (model P w) A (.call (.ref f) args) (CR CX outer P w H s Q E) s
section
variable {X:Cx} {pins:List (Addr×Obj)} {σ:St} {H:Hp} {s s':Shared}
def Inv.env0 (I:Inv X pins σ H s):BQ X.prog X.w X.K X.mg X.base X.A X.stack s H:=
 ⟨I.ok.frames,I.ok.mod,I.bs,Kw I.ok.bsz I.sz,I.stack,I.stkFree,I.hok,I.bare⟩
def Inv.after {Q:VK}{u:Value}(I:Inv X pins σ H s)(h:CE X.stack X.prog X.w H s Q u s'):EP X pins σ Q u s':=by
 obtain⟨v,H',os,bare,un,hok,r,q⟩:=h;obtain⟨hh,g,d,t,SW⟩:=s';obtain rfl:SW=s.os:=os;exact⟨v,H',I.call (h':=hh) (g':=g) (d':=d) (t':=t) (ch:=[]) un hok bare (λb z=>absurd z (by simp)),r,q⟩
end
def rq (sp:Sp)(r_:List V)(E:XK)(t:TA):TE:=λσ H Q=>t σ H λvs H1=>sp (vs++r_) H1 Q E
def Binds (K:Qc)(fd:FuncData)(ps:List Str)(ds:List Value):Prop:=
 ∀(s:Shared) (us:List Value),K.In s.heap->(us++ds).length=ps.length->BindsTo s fd ⟨us,[]⟩ (ps.zip (us++ds))
def Binds.all {K:Qc}{fd:FuncData}{ps:List Str}(h:∀us:List Value,us.length=ps.length->bindArgs fd ⟨us,[]⟩=pure (ps.zip us)):Binds K fd ps []:=λs us _ hl=>by
 rw[Lb] at hl⊢;exact .of_eq (h us hl)
def dE (CX:qh)(X:Cx)(E:XK):Prop:=∀(pins:List (Addr×Obj)) (σ:St) (H:Hp) (s:Shared) (e:Value) (s':Shared),Inv X pins σ H s->CX X.stack H s E e s'->X.xe e s'
section
variable {X:Cx} {CX:qh} {k:Nat} {f C:Addr} {fd:FuncData} {ps:List Str} {sp:Sp} {r_:List V} {ds:List Value} {E:XK} {x m:Str} {p pos apos:Pos} {e o:Expr} {es:List Expr} {ta:TE} {t:TA}
def DX {pins:List (Addr×Obj)}{σ:St}{H:Hp}{s:Shared}{Q:VK}{us:List Value}{vs:List V}(F:C5 X.prog X.w X.K X.mg X.base CX k f fd ps sp)(hr:Room k X.A)(hb:Binds X.K fd ps ds)(hd:Vals r_ ds)(hx:dE CX X E)
  (I:Inv X pins σ H s) (r:Vals vs us) (h:sp (vs++r_) H Q E):wpAny (model X.prog X.w) X.A (call (.ref f) us) (EP X pins σ Q) X.xe s:=by
 have r2:Vals (vs++r_) (us++ds):=r.append hd
 have hl:(us++ds).length=ps.length:=by rw[←r2.length];exact F.len _ _ _ _ h
 refine wpAny_call (NK (F.run X.A X.stack s H ⟨us,[]⟩ (us++ds) (vs++r_) Q E hr I.env0 (hb s us I.kIn hl) r2 h) λr s' hq=>?_)
 cases r with
 |error e=>exact hx pins σ H s e s' I hq
 |ok fl=>
  cases fl with
  |ret u=>exact I.after hq
  |next=>exact False.elim hq
  |brk=>exact False.elim hq
  |cont=>exact False.elim hq
def Ct (F:C5 X.prog X.w X.K X.mg X.base CX k f fd ps sp)(hr:Room k X.A)(hg:Gl X x)(hm:X.mg x=some (.ref f))(hk:PySem.W.keepIn X.K (.ref f)=true)(hb:Binds X.K fd ps ds)(hd:Vals r_ ds)(hx:dE CX X E)
  (ha:PA X (e::es) t) (w_:(x==("__debug__":Str))=false:=by decide) (he:starEach (e::es) X.env=(false,eval e X.env)::starEach es X.env:=by rfl) (Q_:(backTo pos (starEach es X.env)).any (·.1)=false:=by rfl):
  PE X (.Call (.Name x p) (e::es) [] pos) (rq sp r_ E t):=by
 intro pins s σ H Q I h
 refine Mq (hU I hg hm ?_ w_)
 refine Qg (h₀:=X.base) I.ok.mod.kin hk (P0 (ha pos pins s σ H _ I h) λus s1 ⟨vs,H1,I1,r,q⟩=>⟨I1.kIn,?_⟩) he Q_
 exact DX F hr hb hd hx I1 r q
structure Mk (K:Qc) (C f:Addr):Prop where
 makes:PySem.W.makesIn K C=true
 init:PySem.W.findIn K (.ref C) "__init__"=some (some (.ref f))
 fn:PySem.W.isFn K (.ref f)=true
 kp:PySem.W.keepIn K (.ref C)=true
end
section
variable {X:Cx} {CX:qh} {k:Nat} {f C:Addr} {fd:FuncData} {ps ks:List Str} {sp:Sp} {E:XK} {x m:Str} {p pos apos kpos:Pos} {e o:Expr} {es:List Expr} {kws:List Keyword} {te ta:TE} {t tk:TA} {nm:Option Str}
structure Jf (K:Qc) (fd:FuncData) (ps ks:List Str) (g:List Value->List Value->List Value) (gV:List V->List V->List V):Prop where
 to:∀(s:Shared) (us ws:List Value),K.In s.heap->(g us ws).length=ps.length->BindsTo s fd ⟨us,ks.zip ws⟩ (ps.zip (g us ws))
 rel:∀{vs:List V} {us:List Value} {zs:List V} {ws:List Value},Vals vs us->Vals zs ws->Vals (gV vs zs) (g us ws)
variable {g:List Value->List Value->List Value} {gV:List V->List V->List V}
end
structure j7 (N P:List Str) (sc:Scope):Prop where
 kind:sc.kind= .function
 co:sc.isCoroutine=false
 gen:sc.isGenerator=false
 nd:N.Nodup
 pre:N.take P.length=P
 par:∀x∈P,sc.names.lookup x=some .local\/sc.names.lookup x=some .cell
 nofree:∀y∈sc.names,y.2≠ .free
theorem oA {kindOf:Str->Option NameKind}{x:Str}:∀{binds:List (Str×Value)} {m:Str->Option Value},(∀v,(x,v)∉binds)->bindL kindOf binds m x=m x
 |[],_,_=>rfl
 |(n,v)::r,m,h=>by
  unfold bindL;rw[oA λw hw=>h w (KL _ hw)];split
  .have:x≠n:=by rintro rfl;exact h v Kz
   simp [this]
  .rfl
theorem mY {kindOf:Str->Option NameKind}{x:Str}:∀{binds:List (Str×Value)} {m:Str->Option Value},(∀v,(x,v)∉binds)->bindC kindOf binds m x=m x
 |[],_,_=>rfl
 |(n,v)::r,m,h=>by
  unfold bindC;rw[mY λw hw=>h w (KL _ hw)];split
  .rfl
  .have:x≠n:=by rintro rfl;exact h v Kz
   simp [this]
theorem oq {kindOf:Str->Option NameKind}{x:Str}{v:Value}:∀{P:List Str} {vs:List Value} {i:Nat} {m:Str->Option Value},P.Nodup->P[i]?=some x->vs[i]?=some v->kindOf x=some .local->
  bindL kindOf (P.zip vs) m x=some v
 |[],_,_,_,_,h,_,_=>by simp at h
 |_::_,[],_,_,_,_,h,_=>by simp at h
 |p::P,w::vs,0,m,nd,h1,h2,hk=>by
  simp at h1 h2;subst h1;subst h2;show bindL kindOf ((p,w)::P.zip vs) m p=_;unfold bindL;rw[oA λv hv=>(LA.mp nd).1 (OZ hv).1,if_pos hk];simp
 |p::P,w::vs,i+1,m,nd,h1,h2,hk=>by
  show bindL kindOf ((p,w)::P.zip vs) m x=_;unfold bindL;exact oq (i:=i) (LA.mp nd).2 (by simpa using h1) (by simpa using h2) hk
theorem mW {kindOf:Str->Option NameKind}{x:Str}{v:Value}:∀{P:List Str} {vs:List Value} {i:Nat} {m:Str->Option Value},P.Nodup->P[i]?=some x->vs[i]?=some v->kindOf x≠some .local->
  bindC kindOf (P.zip vs) m x=some v
 |[],_,_,_,_,h,_,_=>by simp at h
 |_::_,[],_,_,_,_,h,_=>by simp at h
 |p::P,w::vs,0,m,nd,h1,h2,hk=>by
  simp at h1 h2;subst h1;subst h2;show bindC kindOf ((p,w)::P.zip vs) m p=_;unfold bindC;rw[mY λv hv=>(LA.mp nd).1 (OZ hv).1,if_neg hk];simp
 |p::P,w::vs,i+1,m,nd,h1,h2,hk=>by
  show bindC kindOf ((p,w)::P.zip vs) m x=_;unfold bindC;exact mW (i:=i) (LA.mp nd).2 (by simpa using h1) (by simpa using h2) hk
def gy (N:List Str)(vs:List V):St:=vs.map some++List.replicate (N.length -vs.length) none
def kB (CX:qh)(P:Program)(w:World)(K:Qc)(mg:Str->Option Value)(base:Heap)(N:List Str)(qual:Str)(scope:Scope)(f:Addr)(cd:Value)(A:Around)(outer:List Env)(s:Shared)(H:Hp)(E:XK):Cx where
 prog:=P
 w:=w
 K:=K
 mg:=mg
 base:=base
 A:=A.deeper (envOfC qual scope s.heap.objs.size f cd)
 N:=N
 s₀:=s
 H₀:=H
 env:=envOfC qual scope s.heap.objs.size f cd
 outer:=outer
 stack:=envOfC qual scope s.heap.objs.size f cd::outer
 ex:=[]
 calm:=true
 fn:=λ_=>true
 pn:=[]
 xe:=λe s'=>wpAny (model P w) (A.deeper (envOfC qual scope s.heap.objs.size f cd)) («leaving» (envOfC qual scope s.heap.objs.size f cd) e) (λ_ Xb=>CX outer H s E e Xb) (λe' Xb=>CX outer H s E e' Xb) s'
def sE {sc:Scope}{n:Nat}{x:Str}(h:sc.names.lookup x=some .cell):∃c,(cellsFrom n sc.names []).lookup x=some c:=by
 have q:=OO sc.names n [] (.inl h);exact Oo.mp q
def xA {CX:qh}{P:Program}{w:World}{K:Qc}{mg:Str->Option Value}{base:Heap}{N ps:List Str}{qual:Str}{scope:Scope}{f:Addr}{cd:Value}{A:Around}{outer:List Env}{s s1:Shared}{H:Hp}{E:XK}{us:List Value}{vs:List V}
  (S:j7 N ps scope) (hd:A.handled=none) (e0:BQ P w K mg base A outer s H) (hl:vs.length=ps.length) (r:Vals vs us)
  (x:InCallC s s.heap.objs.size (bindL (envOfC qual scope s.heap.objs.size f cd).kindOf (ps.zip us) λ_=>none) (cellsFrom (s.heap.objs.size+1) scope.names []) (bindC (envOfC qual scope s.heap.objs.size f cd).kindOf (ps.zip us) λ_=>none) s1):
  Inv (kB CX P w K mg base N qual scope f cd A outer s H E) [] (gy N vs) H s1:=by
 have Q_:ps.length<=N.length:=by have:=LK List.length S.pre;rw[Kt] at this;lia
 obtain⟨h1,tk,rfl,hk⟩:=x.done
 have VC:∀b:Addr,b∉(kB CX P w K mg base N qual scope f cd A outer s H E).ex:=λb z=>absurd (show b∈([]:List Addr) from z) (by simp)
 refine⟨⟨e0.mod,S.kind,rfl,rfl,Ke _,λy z c h1 h2=>?_,λy hy=>?_,λy c _ h=>?_,λ_=>hd,Around.frames_deeper e0.frames,.inr ⟨rfl,rfl⟩,λb z=>absurd z (VC b),e0.bs,e0.bsz,λb _ _=>VC b,λb z=>absurd z (VC b),e0.funs,e0.frf⟩,
  rfl,e0.bare,Un.kept hk,⟨_,x.toInCall.ns,λi y v h1 h2 h3=>?_⟩,λy c h=>⟨_,x.cell y c h⟩,e0.hok.fresh (Ke _),λy c h=>?_,λp hp=>absurd (show p∈([]:List (Addr×Obj)) from hp) (by simp),e0.hok.kept hk,?_⟩
 .exact name_of_addr x.apart (MI h1) (MI h2)
 .have hy:scope.names.lookup y=some .cell\/scope.names.lookup y=some .free:=hy
  rcases hy with hy|hy
  .exact sE hy
  .exact absurd rfl (S.nofree _ (MI hy))
 .exact Nn (x.above y c (MI h))
 .have hi:i<vs.length:=by
   unfold gy at h2;by_cases hi:i<vs.length
   .exact hi
   .rw[Lx (by simpa using hi)] at h2;rw[Mn] at h2;split at h2<;>cases h2
  have ha:vs[i]?=some v:=by
   unfold gy at h2;rw[Lm (by simpa using hi),Kh] at h2;cases e:vs[i]? with
   |none=>rw[e] at h2;cases h2
   |some a=>rw[e] at h2;cases h2;rfl
  obtain⟨u,hu,rv⟩:=r.get ha
  have hp:ps[i]?=some y:=by
   rw[←S.pre,List.getElem?_take_of_lt (by lia)];exact h1
  have SX:ps.Nodup:=by rw[←S.pre];exact S.nd.sublist (Lv _ _)
  refine⟨u,rv,?_⟩
  rcases S.par y (Kr hp) with k|k
  .exact .inl ⟨k,oq SX hp hu k⟩
  .obtain⟨c,e⟩:=sE (n:=s.heap.objs.size+1) k
   refine .inr ⟨.inl k,c,e,?_⟩
   have q:=x.cell y c e
   rw[mW SX hp hu (by show scope.names.lookup y≠_;rw[k];decide)] at q
   exact q
 .exact e0.hok.fresh (Nn (x.above y c (MI h)))
 .unfold gy
  show _=N.length
  rw[Kj,Kb,Mr]
  lia
def CW {CX:qh}{P:Program}{w:World}{K:Qc}{mg:Str->Option Value}{base:Heap}{k:Nat}{f:Addr}{name qual:Str}{params:Arguments}{body:List Stmt}{scope:Scope}{dV kV doc pm c_ ct oc:Value}{an od:Option Addr}
  {Rb:Array (Option Value)} {N ps:List Str} {sp:Sp} (lk:K.lookup f=some ⟨oc,od,.func (PySem.W.fnOf name qual params body scope dV kV doc pm an c_ ct),Rb⟩) (QV:PySem.W.codeIn K c_ qual=true) (S:j7 N ps scope)
  (len:∀vs H Q E,sp vs H Q E->vs.length=ps.length)
  (Pl:∀(A:Around) (outer:List Env) (s:Shared) (H:Hp) (vs:List V) (Q:VK) (E:XK),Room k (A.deeper (envOfC qual scope s.heap.objs.size f c_))->sp vs H Q E->
   ∃t,PSs (kB CX P w K mg base N qual scope f c_ A outer s H E) body t/\t {nx:=λ_ H'=>Q .non H',rt:=Q} (gy N vs) H):
  C5 P w K mg base CX (k+1) f (PySem.W.fnOf name qual params body scope dV kV doc pm an c_ ct) ps sp:=by
 refine⟨len,λA outer s H args us vs Q E hr e0 hb r SE=>?_⟩
 have hl:=len _ _ _ _ SE
 have KX:K.In s.heap:=e0.mod.kin.keeps λb o e=>(e0.bs b o e).1
 have lim:s.heap.NoLimit:=e0.mod.nolimit.keeps λb o e=>(e0.bs b o e).1
 have VD:∀y∈ps.zip us,scope.names.lookup y.1=some .local\/(scope.names.lookup y.1=some .cell/\((cellsFrom (s.heap.objs.size+1) scope.names []).lookup y.1).isSome=true):=fun⟨n,v⟩ hy=>by
  rcases S.par n (OZ hy).1 with q|q
  .exact .inl q
  .exact .inr ⟨q,OO _ _ _ (.inl q)⟩
 refine codeAny_call_function hr.depth (KX _ _ lk) rfl S.co S.gen rfl (PySem.W.codeRec_of KX QV) (hb _ _ _ _ ?_)
 refine wpAny_newFunctionEnv_cells S.kind VD λenv he s1 x=>?_
 subst he
 refine⟨lim.keeps x.toInCall.keep,codeAny_func ?_⟩
 obtain⟨t,ht,hq⟩:=Pl A outer s H vs Q E (hr.deeper _) SE
 have I:Inv (kB CX P w K mg base N qual scope f c_ A outer s H E) [] (gy N vs) H s1:=xA S hr.hd e0 hl r x
 refine NR (ht [] s1 (gy N vs) H _ I hq) (λfl s' hs=>?_) λe s' hs=>hs
 have fin:∀{σ':St} {H':Hp} {v:V} {u:Value},Inv (kB CX P w K mg base N qual scope f c_ A outer s H E) [] σ' H' s'->RelV v u->Q v H'->CE outer P w H s Q u s':=
  fun{σ' H' v u} J rv q=>⟨v,H',J.os,J.bare,J.base,J.hok,rv,q⟩
 cases fl with
 |ret u=>
  obtain⟨v,σ',H',J,rv,q⟩:=hs
  exact fin J rv q
 |next=>
  obtain⟨σ',H',J,q⟩:=hs
  exact fin (v:=V.non) (u:=Value.none) J rfl q
 |brk=>
  obtain⟨_,_,_,q⟩:=hs
  exact False.elim q
 |cont=>
  obtain⟨_,_,_,q⟩:=hs
  exact False.elim q
section
variable {X:Cx} {x:Str} {p pos:Pos} {e:Expr} {es:List Expr} {t:TA} {id T:String} {r:List V->Hp->VK->Prop}
def Fu (r:List V->Hp->VK->Prop)(t:TA):TE:=λσ H Q=>t σ H λvs H1=>r vs H1 Q
def ym (hc:CallR X (.builtin id) r)(hg:Gl X x)(hm:X.mg x=none)(hv:bootBuiltins x=some (.builtin id))(ha:PA X (e::es) t)(hn:x≠"__name__":=by decide)(w_:(x==("__debug__":Str))=false:=by decide)
  (he:starEach (e::es) X.env=(false,eval e X.env)::starEach es X.env:=by rfl) (Q_:(backTo pos (starEach es X.env)).any (·.1)=false:=by rfl):PE X (.Call (.Name x p) (e::es) [] pos) (Fu r t):=by
 intro pins s σ H Q I h
 refine Mq (de I hg hm hv ?_ hn w_)
 exact PyProof.Rows.callWith_builtin1 (P0 (ha pos pins s σ H _ I h) λus s1 ⟨vs,H1,I1,r1,q1⟩=>hc pins s1 σ H1 vs us Q I1 r1 q1) he Q_
def vK (hc:CallR X (.type T) r)(hg:Gl X x)(hm:X.mg x=none)(hv:bootBuiltins x=some (.type T))(ha:PA X (e::es) t)(hn:x≠"__name__":=by decide)(w_:(x==("__debug__":Str))=false:=by decide)
  (he:starEach (e::es) X.env=(false,eval e X.env)::starEach es X.env:=by rfl) (Q_:(backTo pos (starEach es X.env)).any (·.1)=false:=by rfl):PE X (.Call (.Name x p) (e::es) [] pos) (Fu r t):=by
 intro pins s σ H Q I h
 refine Mq (de I hg hm hv ?_ hn w_)
 exact LP (P0 (ha pos pins s σ H _ I h) λus s1 ⟨vs,H1,I1,r1,q1⟩=>hc pins s1 σ H1 vs us Q I1 r1 q1) he Q_
end
end L2
namespace HT
open PySem PyProof.Rows
section
open PySem.SeqAt
open PySem.AutoSeq1 (wpAny_loadPart')
open PySem.MeetsSeq PySem.MeetsSeq2 PySem.MeetsSeq3
end
section
variable {prog:Program} {w:World} {A:Around} {E:Value->Shared->Prop} {s:Shared}
def cat_tup {t b:Addr}{vs ws:List Value}{Q:Value->Shared->Prop}(ht:IsTup s.heap t vs.toArray)(hb:IsTup s.heap b ws.toArray)(hv:vs≠[])
  (h1:ws=[]->Q (.ref t) s) (h2:ws≠[]->Q (.ref s.heap.objs.size) {s with heap:=s.heap.push {cls:= .type "tuple",data:= .seq (vs++ws).toArray}})
  (hsz:vs.length+ws.length<=sizeLine):wpAny (model prog w) A (binaryOp .Add (.ref t) (.ref b)) Q E s:=by
 obtain⟨⟨cls,dd,data,sl⟩,ho,hc,n,hd⟩:=id ht
 obtain⟨⟨cls2,dd2,data2,sl2⟩,Rc,RJ,n2,hd2⟩:=id hb
 simp only at hc hd RJ hd2
 subst hc hd RJ hd2
 have e:vs.toArray++ws.toArray=(vs++ws).toArray:=by simp
 by_cases hw:ws=[]
 .exact concat_meets ⟨_,ho,rfl⟩ ⟨_,Rc,rfl⟩ noFill_tuple_add seq_tuple_add OP Ox (Oq _ _)
   (tuple_addW1 t b vs.toArray ws.toArray n n2 dd dd2 sl sl2 (by simpa using hv) (by simp [hw])) ⟨ho,Rc,h1 hw⟩
 .refine concat_meets ⟨_,ho,rfl⟩ ⟨_,Rc,rfl⟩ noFill_tuple_add seq_tuple_add OP Ox (Oq _ _)
   (tuple_addW2 t b vs.toArray ws.toArray n n2 dd dd2 sl sl2 (by simpa using hv) (by simpa using hw) (by rw[KH,KH];exact hsz)) ⟨ho,Rc,?_⟩
  rw[e]
  exact h2 hw
def sIx (n d:Nat):Option Int->Nat
 |none=>d
 |some v=>if v<0 then(v+(n:Int)).toNat else min v.toNat n
def sIx_nat (n d k:Nat):sIx n d (some (k:Int))=min k n:=by
 show(if(k:Int)<0 then((k:Int)+(n:Int)).toNat else min (k:Int).toNat n)=min k n;rw[if_neg (by lia),Qx]
def Dy (n d:Nat)(hd:d<=n)(o:Option Int):sIx n d o<=n:=by
 cases o with
 |none=>exact hd
 |some v=>
  show(if v<0 then(v+(n:Int)).toNat else min v.toNat n)<=n
  by_cases hv:v<0
  .rw[if_pos hv];lia
  .rw[if_neg hv];exact Nat.min_le_right _ _
def vE (v:Int)(n d:Nat):(if v<0 then max (v+(n:Int)) 0 else min v (n:Int))=((sIx n d (some v):Nat):Int):=by
 show(if v<0 then max (v+(n:Int)) 0 else min v (n:Int))=(((if v<0 then(v+(n:Int)).toNat else min v.toNat n):Nat):Int);by_cases hv:v<0
 .simp only[if_pos hv];lia
 .simp only[if_neg hv];lia
def sS (lo hi:Option Int)(n:Nat):Builtin.Slice.sliceAdjust lo hi 1 (n:Int)=(((sIx n 0 lo:Nat):Int),((sIx n n hi:Nat):Int)):=by
 have h1:¬((1:Int)<0):=by lia
 unfold Builtin.Slice.sliceAdjust;simp only[h1,Pp];refine Prod.ext ?_ ?_
 .cases lo with
  |none=>rfl
  |some v=>exact vE v n 0
 .cases hi with
  |none=>rfl
  |some v=>exact vE v n n
def tX (i j:Nat):Builtin.Slice.slicePlaces (i:Int) (j:Int) 1=j -i:=by
 unfold Builtin.Slice.slicePlaces;have h1:(1:Int)>0:=by lia
 simp only[h1,Oy,Int.ediv_one];split<;>lia
def lV {v:Value}{o:Option Int}{Q:Option Int->Shared->Prop}(p:IsPart v o)(h:Q o s):wpAny (model prog w) A (Builtin.Slice.slicePartIndex v) Q E s:=by
 cases p with
 |none=>exact slicePart_none h
 |int i t=>exact slicePart_int h
def iR {sl:Addr}{vl vu:Value}{lo hi:Option Int}{n:Nat}{Q:Int×Int×Nat->Shared->Prop}(hs:s.heap.IsSliceOf sl vl vu .none)(pl:IsPart vl lo)(pu:IsPart vu hi)
  (h:Q (((sIx n 0 lo:Nat):Int),1,sIx n n hi -sIx n 0 lo) s):wpAny (model prog w) A (Builtin.Slice.sliceApplied (.ref sl) (pure (n:Int))) Q E s:=by
 obtain⟨os,Uh,Tv,Xc⟩:=id hs
 unfold Builtin.Slice.sliceApplied Builtin.Slice.sliceFields
 refine Ko (Ko (MS Uh Xc (x:=vl) rfl (Ko (MS Uh Xc (x:=vu) rfl (Ko (MS Uh Xc (x:= .none) rfl (Ky ?_)))))))
 refine Ko (slicePart_none ?_)
 show wpAny _ _ (if((1:Int)==0)=true then _ else _) _ _ s
 rw[if_neg (by decide)]
 refine Ko (lV pl (Ko (lV pu (Ko (Ky ?_)))))
 show wpAny _ _ (match Builtin.Slice.sliceAdjust lo hi 1 (n:Int) with|(lo,hi)=>pure (lo,(1:Int),Builtin.Slice.slicePlaces lo hi 1)) _ _ s
 rw[sS lo hi n]
 show wpAny _ _ (pure (((sIx n 0 lo:Nat):Int),(1:Int),Builtin.Slice.slicePlaces ((sIx n 0 lo:Nat):Int) ((sIx n n hi:Nat):Int) 1)) _ _ s
 rw[tX]
 exact Ky h
def zr (xs:Array Value)(i k:Nat):((List.range k).filterMap fun(m:Nat)=>xs[((i:Int)+(m:Int)*1).toNat]?).toArray=((xs.toList.drop i).take k).toArray:=by
 have e:(fun(m:Nat)=>xs[((i:Int)+(m:Int)*1).toNat]?)=λm=>xs[i+m]?:=by
  funext m;have:((i:Int)+(m:Int)*1).toNat=i+m:=by lia
  rw[this]
 rw[e];have:=pick_run xs i k;rw[List.filterMap_map] at this;have e2:((λx=>xs[x]?)∘λx=>i+x)=λm=>xs[i+m]?:=rfl;rw[e2] at this;rw[this]
def getItem_tuple_cut {t sl:Addr}{items:Array Value}{vl vu:Value}{lo hi:Option Int}{Q:Value->Shared->Prop}(ht:IsTup s.heap t items)(hs:s.heap.IsSliceOf sl vl vu .none)(pl:IsPart vl lo)(pu:IsPart vu hi)
  (hw:¬(sIx items.size 0 lo=0/\sIx items.size items.size hi=items.size))
  (h:Q (.ref s.heap.objs.size) {s with heap:=s.heap.push {cls:= .type "tuple",data:= .seq ((items.toList.drop (sIx items.size 0 lo)).take (sIx items.size items.size hi -sIx items.size 0 lo)).toArray}})
  (hsz:items.size<=sizeLine):wpAny (model prog w) A (getItem (.ref t) (.ref sl)) Q E s:=by
 have Rf:sizeOk (.seq ((items.toList.drop (sIx items.size 0 lo)).take (sIx items.size items.size hi -sIx items.size 0 lo)).toArray):=by
  show((items.toList.drop (sIx items.size 0 lo)).take (sIx items.size items.size hi -sIx items.size 0 lo)).toArray.size<=sizeLine;rw[KH,Kt,OG,MH];lia
 have hj:sIx items.size items.size hi<=items.size:=Dy _ _ (Ke _) hi
 obtain⟨os,Uh,Tv,Xc⟩:=id hs
 have hTs:s.TypeIs (.ref sl) "slice":=⟨os,Uh,Tv⟩
 unfold getItem
 try with_reducible refine LG ?_
 first|refine Ko (Ky ?_)|skip
 refine Ko (wpAny_sequenceKey ht.typeIs (by decide) ?_)
 refine Ko (Nt (name:=Str.ofString "__getitem__") ht.typeIs Mz
  (NP Mz ht.typeIs entry_tuple_getitem ?_ (args_tuple_getitem _ _)))
 show wpAny _ _ (Builtin.Tuple.tupleItemsOf (.ref t)>>=_) _ _ s
 refine Ko (tupleItemsOf_ ht ?_)
 refine Ko (Od hTs ?_)
 rw[if_pos (by decide)]
 refine Ko (iR hs pl pu ?_)
 have g_:¬((((sIx items.size 0 lo:Nat):Int)==0&&(1:Int)==1&&(sIx items.size items.size hi -sIx items.size 0 lo)==items.size)=true):=by
  intro q;rw[KO,KO] at q;have q1:((sIx items.size 0 lo:Nat):Int)=0:=eq_of_beq q.1.1;have q2:sIx items.size items.size hi -sIx items.size 0 lo=items.size:=eq_of_beq q.2;exact hw ⟨by lia,by lia⟩
 show wpAny _ _ (if(((sIx items.size 0 lo:Nat):Int)==0&&(1:Int)==1&&(sIx items.size items.size hi -sIx items.size 0 lo)==items.size)=true then _ else _) _ _ s
 rw[if_neg g_,zr]
 first
  |exact Ko (m:=Builtin.Tuple.tupleExact _) (MA (Ky ⟨_,rfl,Ky h⟩) Rf)
  |exact Ko (m:=Builtin.Tuple.tupleExact _) (MA (Ko (Ky (Ky ⟨_,rfl,Ky h⟩))) Rf)
  |exact Ko (Ko (m:=Builtin.Tuple.tupleExact _) (MA (Ky (Ky ⟨_,rfl,Ky h⟩)) Rf))
  |exact Ko (Ko (m:=Builtin.Tuple.tupleExact _) (MA (Ky ⟨_,rfl,Ky h⟩) Rf))
end
end HT
namespace L2
open PySem PySem.Spec PyProof.Rows
abbrev TO:=St->Hp->(Option Int->Hp->Prop)->Prop
def PO (X:Cx)(e:Option Expr)(t:TO):Prop:=
 ∀(pins:List (Addr×Obj)) (s:Shared) (σ:St) (H:Hp) (Q:Option Int->Hp->Prop),Inv X pins σ H s->t σ H Q->
  wpAny (model X.prog X.w) X.A (evalPart e X.env) (λu s'=>∃o H',Inv X pins σ H' s'/\IsPart u o/\Q o H') X.xe s
def oJ:TO:=λ_ H Q=>Q none H
def Ag (t:TE):TO:=λσ H Q=>t σ H λx H1=>∃i,x= .int i/\Q (some i) H1
section
variable {X:Cx} {e:Expr} {te:TE} {lo hi:Option Expr} {tl th:TO} {pos p2:Pos}
def Bq:PO X none oJ:=by
 intro pins s σ H Q I h;rw[evalPart_none];exact Ky ⟨none,H,I,.none,h⟩
def Ck (h:PE X e te):PO X (some e) (Ag te):=by
 intro pins s σ H Q I hw;rw[evalPart_some];refine P0 (h pins s σ H _ I hw) λu s1 ⟨x,H1,I1,r1,q1⟩=>?_;obtain⟨i,rfl,q⟩:=q1;obtain⟨t,rfl⟩:=r1;exact⟨some i,H1,I1,.int i t,q⟩
def SlR (X:Cx)(r:V->Option Int->Option Int->Hp->VK->Prop):Prop:=
 ∀(pins:List (Addr×Obj)) (s:Shared) (σ:St) (H:Hp) (x:V) (v vl vu:Value) (lo hi:Option Int) (sl:Addr) (Q:VK),Inv X pins σ H s->RelV x v->s.heap.IsSliceOf sl vl vu .none->IsPart vl lo->IsPart vu hi->r x lo hi H Q->
  ∃T id,typeLookup (.type T) "__getitem__"=pure (some (.builtin id))/\s.TypeIs v T/\wpAny (model X.prog X.w) X.A (getItem v (.ref sl)) (EP X pins σ Q) X.xe s
def SlR.or {r r':V->Option Int->Option Int->Hp->VK->Prop}(h:SlR X r)(h':SlR X r'):SlR X (λx lo hi H Q=>r x lo hi H Q\/r' x lo hi H Q):=by grind [SlR]
def IE (r:V->Option Int->Option Int->Hp->VK->Prop)(te:TE)(tl th:TO):TE:=λσ H Q=>te σ H λx H1=>tl σ H1 λl H2=>th σ H2 λu H3=>r x l u H3 Q
def zD {r:V->Option Int->Option Int->Hp->VK->Prop}(hr:SlR X r)(he:PE X e te)(hl:PO X lo tl)(hu:PO X hi th):PE X (.Subscript e (.Slice lo hi none p2) pos) (IE r te tl th):=by
 intro pins s σ H Q I h;refine Subscript_ (P0 (he pins s σ H _ I h) λv s1 ⟨x,H1,I1,r1,q1⟩=>?_);refine wpAny_Slice (P0 (hl pins s1 σ H1 _ I1 q1) λvl s2 ⟨l,H2,I2,pl,q2⟩=>P0 (hu pins s2 σ H2 _ I2 q2) λvu s3 ⟨u,H3,I3,pu,q3⟩=>?_);rw[evalPart_none];refine Ky ?_;have I4:Inv X pins σ H3 {s3 with heap:=s3.heap.push {cls:= .type "slice",data:= .fields #[vl,vu,.none]}}:=I3.kept (t':=s3.toks) λb ob q=>Kn _ q;obtain⟨T,id,hT,ht,hg⟩:=hr pins {s3 with heap:=s3.heap.push {cls:= .type "slice",data:= .fields #[vl,vu,.none]}} σ H3 x v vl vu l u s3.heap.objs.size Q I4 r1 (Heap.IsSliceOf.new ..) pl pu q3;show wpAny (model X.prog X.w) X.A (subscriptTail e (.Slice lo hi none p2) v (.ref s3.heap.objs.size)) (EP X pins σ Q) X.xe {s3 with heap:=s3.heap.push {cls:= .type "slice",data:= .fields #[vl,vu,.none]}};exact tail_any (ops:=[.ref s3.heap.objs.size,v]) ht hT hg (by with_unfolding_all rfl)
def fJ (xs:List V)(lo hi:Option Int):List V:=(xs.drop (HT.sIx xs.length 0 lo)).take (HT.sIx xs.length xs.length hi -HT.sIx xs.length 0 lo)
def jt (xs:List V)(lo hi:Option Int):(fJ xs lo hi).length<=xs.length:=by
 unfold fJ;rw[Kt,OG];lia
def Ga (K:Qc):V->Option Int->Option Int->Hp->VK->Prop:=λx lo hi H Q=>∃a xs,x= .ref a/\SqT K H a xs/\
 ¬(HT.sIx xs.length 0 lo=0/\HT.sIx xs.length xs.length hi=xs.length)/\∀p,H p=none->Q (.ref p) (upd H p (.tup (fJ xs lo hi)))
def sl_tup:SlR X (Ga X.K):=by
 intro pins s σ H x v vl vu lo hi sl Q I rx hs pl pu h;obtain⟨a,xs,rfl,hx,hw,q⟩:=h;cases rx;obtain⟨a_,r,ht,hz⟩:=I.tuple hx;have hlen:a_.toArray.size=xs.length:=by rw[KH];exact r.length.symm
 refine⟨"tuple",_,Mz.lookup,ht.typeIs,?_⟩;refine HT.getItem_tuple_cut ht hs pl pu (by rw[hlen];exact hw) ?_ (by rw[hlen];exact hz);rw[hlen];refine⟨.ref s.heap.objs.size,_,I.laid (t':=s.toks) (o:= .tup (fJ xs lo hi)) (λb ob q=>Kn _ q) (Ke _) ?_,rfl,q _ (I.hok.fresh (Ke _))⟩;exact⟨Kw (jt xs lo hi) hz,_,(r.drop (HT.sIx xs.length 0 lo)).take (HT.sIx xs.length xs.length hi -HT.sIx xs.length 0 lo),IsTup.new _ _⟩
def CB (K:Qc):R2:=λx y H Q=>∃a b xs ys,x= .ref a/\y= .ref b/\SqT K H a xs/\SqT K H b ys/\xs≠[]/\xs.length+ys.length<=sizeLine/\
 (ys=[]->Q (.ref a) H)/\(ys≠[]->∀p,H p=none->Q (.ref p) (upd H p (.tup (xs++ys))))
def Vals.nil_iff {xs:List V}{us:List Value}(r:Vals xs us):us=[]↔xs=[]:=by
 cases r with
 |nil=>simp
 |cons _ _=>simp
def Bv:OpR X (binaryOp .Add) (CB X.K):=by
 intro pins s σ H x y v u Q I rx ry h;obtain⟨a,b,xs,ys,rfl,rfl,ha,hb,hx,hz,q1,q2⟩:=h;cases rx;cases ry;obtain⟨a_,r1,p1,_⟩:=I.tuple ha;obtain⟨Pt,r2,p2,_⟩:=I.tuple hb;refine HT.cat_tup p1 p2 (λz=>hx (r1.nil_iff.mp z)) (λz=>⟨.ref a,H,I,rfl,q1 (r2.nil_iff.mp z)⟩) (λz=>?_) (by rw[←r1.length,←r2.length];exact hz);refine⟨.ref s.heap.objs.size,_,I.laid (t':=s.toks) (o:= .tup (xs++ys)) (λb ob q=>Kn _ q) (Ke _) ?_,rfl,q2 (λw=>z (r2.nil_iff.mpr w)) _ (I.hok.fresh (Ke _))⟩;exact⟨by rw[Kj];exact hz,_,r1.append r2,IsTup.new _ _⟩
end
def Ff (n:Nat)(i:Int):Option Nat:=if 0<=i then(if i<n then some i.toNat else none) else if -(n:Int)<=i then some (i+n).toNat else none
def nX {α:Type}(xs:List α)(i:Int):Option α:=(Ff xs.length i).bind λj=>xs[j]?
theorem vH {n:Nat}{i:Int}{j:Nat}(h:Ff n i=some j):seqIndex? i n=some j/\j<n/\-(n:Int)<=i/\i<n:=by
 unfold Ff at h;by_cases h0:0<=i
 .rw[if_pos h0] at h;by_cases h1:i<n
  .rw[if_pos h1] at h;have e:i.toNat=j:=KG h;exact⟨by rw[seqIndex_of h0 h1,e],by lia,by lia,h1⟩
  .rw[if_neg h1] at h;cases h
 .rw[if_neg h0] at h;by_cases h1: -(n:Int)<=i
  .rw[if_pos h1] at h;have e:(i+n).toNat=j:=KG h;exact⟨by rw[seqIndex_neg (by lia) h1,e],by lia,h1,by lia⟩
  .rw[if_neg h1] at h;cases h
def pz {α:Type}{xs:List α}{i:Int}{v:α}(h:nX xs i=some v):∃j,seqIndex? i xs.length=some j/\xs[j]?=some v/\j<xs.length/\-(xs.length:Int)<=i/\i<xs.length:=by grind [nX,Ff,vH]
def k7 {α:Type}{xs:List α}{j:Nat}{v:α}(h:xs[j]?=some v):nX xs (j:Int)=some v:=by
 have hj:j<xs.length:=(LL.mp h).1;have e:Ff xs.length (j:Int)=some j:=by
  unfold Ff;rw[if_pos (by lia),if_pos (by lia)];simp
 unfold nX;rw[e];exact h
def vp (b:Expr):Prop:=∀o i,subscripted b false o i=operate [o,i] (getItem o i)
def IxR (X:Cx)(r:R2):Prop:=
 ∀(value slice:Expr) (pins:List (Addr×Obj)) (s:Shared) (σ:St) (H:Hp) (x y:V) (v u:Value) (Q:VK),Inv X pins σ H s->RelV x v->RelV y u->r x y H Q->
  subscripted slice false v u=operate [v,u] (getItem v u)->wpAny (model X.prog X.w) X.A (subscriptTail value slice v u) (EP X pins σ Q) X.xe s
def yR (X:Cx)(id:String)(r:V->List V->Hp->VK->Prop):Prop:=
 ∀(pins:List (Addr×Obj)) (s:Shared) (σ:St) (H:Hp) (x:V) (xs:List V) (v:Value) (us:List Value) (Q:VK),Inv X pins σ H s->RelV x v->Vals xs us->r x xs H Q->
  wpAny (model X.prog X.w) X.A (call (.builtin id) (v::us)) (EP X pins σ Q) X.xe s
section
variable {X:Cx} {a b:Expr} {ta tb:TE} {pos:Pos}
def IxR.or {r r':R2}(h:IxR X r)(h':IxR X r'):IxR X (λx y H Q=>r x y H Q\/r' x y H Q):=by
 intro value slice pins s σ H x y v u Q I rx ry q hs;rcases q with q|q
 .exact h value slice pins s σ H x y v u Q I rx ry q hs
 .exact h' value slice pins s σ H x y v u Q I rx ry q hs
def HD {r:R2}(hr:IxR X r)(ha:PE X a ta)(hb:PE X b tb)(hs:vp b):PE X (.Subscript a b pos) (AJ r ta tb):=by
 intro pins s σ H Q I h;exact Subscript_ (Eb ha hb I h λv u s2 x y H2 I2 rx ry q=>hr a b pins s2 σ H2 x y v u Q I2 rx ry q (hs _ _))
def FJ (K:Qc):R2:=λx y H Q=>∃p xs i v,x= .ref p/\y= .int i/\SqL K H p xs/\nX xs i=some v/\Q v H
def GU (K:Qc):R2:=λx y H Q=>∃p xs i v,x= .ref p/\y= .int i/\SqT K H p xs/\nX xs i=some v/\Q v H
def Gy:R2:=λx y H Q=>∃z i c,x= .str z/\y= .int i/\z.length<=sizeLine/\nX z.cps.toList i=some c/\Q (.str ⟨#[c]⟩) H
def ix_list:IxR X (FJ X.K):=by
 intro value slice pins s σ H x y v u Q I rx ry h hs;obtain⟨p,xs,i,z,rfl,rfl,hq,he,q⟩:=h;cases rx;obtain⟨t,rfl⟩:=ry;obtain⟨a_,r,pl,hz⟩:=I.list hq;obtain⟨j,h1,h2,h3,h4,h5⟩:=pz he;obtain⟨w,ew,RV⟩:=r.get h2;have hl:=r.length;have hn:=iS;have fin:EP X pins σ Q w s:=⟨z,H,I,RV,q⟩
 by_cases h0:0<=i
 .have hj:i.toNat=j:=by
   rw[seqIndex_of h0 h5] at h1;exact KG h1
  exact item_listR pl.isList h0 (by lia) (by rw[hj];simpa using ew) fin hs
 .have hj:(i+(a_.toArray.size:Int)).toNat=j:=by
   rw[seqIndex_neg (by lia) h4] at h1;rw[KH,←hl];exact KG h1
  exact subscriptTail_builtinR (x:=w) pl.isList.typeIs slot_list_getitem.lookup
   (wpAny_getItem_list_neg (Q:=λr s'=>r=w/\EP X pins σ Q r s') pl.isList (by lia) (by rw[KH]<;>lia) (by lia) (by rw[hj];simpa using ew) ⟨rfl,fin⟩) hs
def ix_tup:IxR X (GU X.K):=by
 intro value slice pins s σ H x y v u Q I rx ry h hs;obtain⟨p,xs,i,z,rfl,rfl,hq,he,q⟩:=h;cases rx;obtain⟨t,rfl⟩:=ry;obtain⟨a_,r,pl,hz⟩:=I.tuple hq;obtain⟨j,h1,h2,h3,h4,h5⟩:=pz he;obtain⟨w,ew,RV⟩:=r.get h2;have hl:=r.length;have hn:=iS;have fin:EP X pins σ Q w s:=⟨z,H,I,RV,q⟩
 exact subscriptTail_builtinR (x:=w) pl.typeIs slot_tuple_getitem.lookup
  (getItem_tuple (j:=j) (Q:=λr s'=>r=w/\EP X pins σ Q r s') pl (by lia) (by lia) (by rw[KH,←hl];exact h1) (by simpa using ew) ⟨rfl,fin⟩) hs
def Fg:IxR X Gy:=by
 intro value slice pins s σ H x y v u Q I rx ry h hs;obtain⟨z,i,c,rfl,rfl,hz,he,q⟩:=h;obtain⟨t,rfl⟩:=rx;obtain⟨t',rfl⟩:=ry;obtain⟨j,h1,h2,h3,h4,h5⟩:=pz he;have hl:z.cps.toList.length=z.length:=by simp [Str.length]
 rw[hl] at h1 h4 h5;have hn:=iS;exact tail_any (Pq s z t) slot_str_getitem.lookup (getItem_str (c:=c) (by
  have e1:decide (i< -(2 ^ 63:Int))=false:=KQ (by lia);have e2:decide (i≥2 ^ 63)=false:=KQ (by lia);rw[e1,e2,Bool.or_false]) (by rw[h1];simpa using h2) ⟨.str ⟨#[c]⟩,H,I.tok _,⟨_,rfl⟩,q⟩) hs
def Js (K:Qc):R2:=λx y H Q=>FJ K x y H Q\/GU K x y H Q\/Gy x y H Q
def ix_seq:IxR X (Js X.K):=ix_list.or (ix_tup.or Fg)
def uB (a_:List Value)(n j:Nat)(u:Value):Obj.mapSeq (·.setIfInBounds j u) {cls:= .type "list",data:= .seq a_.toArray n}={cls:= .type "list",data:= .seq (a_.set j u).toArray n}:=by
 simp [Obj.mapSeq]
def Inv.lst {pins:List (Addr×Obj)}{σ:St}{H:Hp}{s:Shared}{p:Addr}{xs:List V}(I:Inv X pins σ H s)(h:H p=some (.lst xs)):
  ∃(a_:List Value) (n:Nat),Vals xs a_/\s.heap.get? p=some {cls:= .type "list",data:= .seq a_.toArray n}/\xs.length<=sizeLine:=by
 obtain⟨z,a_,n,r,e⟩:=I.hok p _ h
 exact⟨a_,n,r,e,z⟩
def Inv.lstUpd {pins:List (Addr×Obj)}{σ:St}{H:Hp}{s:Shared}{p:Addr}{xs ys:List V}{a_ its':List Value}{n n':Nat}{f:Obj->Obj}(I:Inv X pins σ H s)(h:H p=some (.lst xs))
  (ho:s.heap.get? p=some {cls:= .type "list",data:= .seq a_.toArray n}) (hf:f {cls:= .type "list",data:= .seq a_.toArray n}={cls:= .type "list",data:= .seq its'.toArray n'}) (r:Vals ys its') (hz:ys.length<=sizeLine) (t:Nat):
  Inv X pins σ (upd H p (.lst ys)) {s with heap:=s.heap.update p f,toks:=t}:=by
 have e:(s.heap.update p f).get? p=some {cls:= .type "list",data:= .seq its'.toArray n'}:=by
  rw[Heap.get?_update_self f ho (by rw[hf]<;>rfl),hf]
 refine I.write (x:=p) (e:=p) (by rw[h];trivial) (.inl rfl) (λb u hb q=>(Heap.get?_update_other _ _ (Mc hb)).trans q) ⟨_,e⟩ ?_
 exact⟨hz,its',n',r,e⟩
def CO:V->V->V->Hp->(Hp->Prop)->Prop:=λo i v H Q=>∃p xs k j,o= .ref p/\i= .int k/\H p=some (.lst xs)/\Ff xs.length k=some j/\Q (upd H p (.lst (xs.set j v)))
def yi:xx X CO:=by
 intro pins s σ H o i v ov iv u Q I ro ri rv h;obtain⟨p,xs,k,j,rfl,rfl,hp,hj,q⟩:=h;cases ro;obtain⟨t,rfl⟩:=ri;obtain⟨a_,n,r,ho,hz⟩:=I.lst hp;obtain⟨h1,h2,h3,h4⟩:=vH hj;have hl:=r.length;have hn:=iS;have I':Inv X pins σ (upd H p (.lst (xs.set j v))) {s with heap:=s.heap.update p (Obj.mapSeq (·.setIfInBounds j u))}:=
  I.lstUpd hp ho (uB a_ n j u) (r.set rv j) (by rw[List.length_set];exact hz) s.toks
 by_cases h0:0<=k
 .have hk:k.toNat=j:=by
   rw[seqIndex_of h0 h4] at h1;exact KG h1
  exact PySem.W.ki_setAt ho h0 (by lia) (by rw[KH,←hl];exact h4) (by rw[hk];exact⟨_,I',q⟩)
 .have hk:(k+(a_.toArray.size:Int)).toNat=j:=by
   rw[seqIndex_neg (by lia) h3] at h1;rw[KH,←hl];exact KG h1
  exact PySem.W.ki_setBack ho (by lia) (by rw[KH,←hl];exact h3) (by lia) (by rw[hk];exact⟨_,I',q⟩)
def qf (lo hi:Option Int)(n:Nat):(sliceBounds lo hi none n).1=((HT.sIx n 0 lo:Nat):Int)/\(sliceBounds lo hi none n).2.1=((HT.sIx n n hi:Nat):Int)/\(sliceBounds lo hi none n).2.2=1:=by
 refine⟨?_,?_,rfl⟩
 .cases lo with
  |none=>simp [sliceBounds,HT.sIx]
  |some i=>
   simp only[sliceBounds,HT.sIx,Option.getD_none,show(1:Int)>0 by decide,Oy]
   by_cases h:i<0
   .simp only[h,Oy]<;>lia
   .simp only[h,Pp]<;>lia
 .cases hi with
  |none=>simp [sliceBounds,HT.sIx]
  |some i=>
   simp only[sliceBounds,HT.sIx,Option.getD_none,show(1:Int)>0 by decide,Oy]
   by_cases h:i<0
   .simp only[h,Oy]<;>lia
   .simp only[h,Pp]<;>lia
def mx (a_:List Value)(lo hi:Option Int):slicePick a_.toArray lo hi none=((a_.drop (HT.sIx a_.length 0 lo)).take (HT.sIx a_.length a_.length hi -HT.sIx a_.length 0 lo)).toArray:=by
 obtain⟨h1,h2,h3⟩:=qf lo hi a_.toArray.size;unfold slicePick;rw[h1,h2,h3];simp only[sliceRange_one,pick_run,KH]<;>rfl
def GR (K:Qc):V->Option Int->Option Int->Hp->VK->Prop:=λx lo hi H Q=>∃a xs,x= .ref a/\SqL K H a xs/\∀p,H p=none->Q (.ref p) (upd H p (.lst (fJ xs lo hi)))
def sl_list:SlR X (GR X.K):=by
 intro pins s σ H x v vl vu lo hi sl Q I rx hs pl pu h;obtain⟨a,xs,rfl,hx,q⟩:=h;cases rx;obtain⟨a_,r,ht,hz⟩:=I.list hx;have hlen:=r.length;refine⟨"list",_,slot_list_getitem.lookup,ht.isList.typeIs,?_⟩;refine wpAny_getItem_list_slice ht.isList hs pl pu .none (by simp) ?_ (by rw[KH]<;>lia);rw[mx,←hlen];refine⟨.ref s.heap.objs.size,_,I.laid (t':=s.toks) (o:= .lst (fJ xs lo hi)) (λb ob q=>Kn _ q) (Ke _) ?_,rfl,q _ (I.hok.fresh (Ke _))⟩;exact⟨Kw (jt xs lo hi) hz,_,0,(r.drop (HT.sIx xs.length 0 lo)).take (HT.sIx xs.length xs.length hi -HT.sIx xs.length 0 lo),KD _ rfl⟩
def J5:V->Bool
 | .non=>true
 | .bl _=>true
 | .int _=>true
 | .str _=>true
 |_=>false
def ej:V->V->Bool
 | .non,.non=>true
 | .bl a,.bl b=>a==b
 | .bl a,.int b=>(if a then 1 else 0)==b
 | .int a,.bl b=>a==(if b then 1 else 0)
 | .int a,.int b=>a==b
 | .str a,.str b=>a==b
 |_,_=>false
def fC {A:Around}{s:Shared}{y x:V}{u v:Value}(ry:RelV y u)(rx:RelV x v)(fy:J5 y=true)(fx:J5 x=true):SeqAt.EqAt A s u v (ej y x):=by
 cases y with
 |non=>
  cases ry
  cases x with
  |non=>cases rx;exact NS _
  |bl b=>cases rx;exact SeqAt.EqAt.none_bool b
  |int b=>obtain⟨t,rfl⟩:=rx;exact SeqAt.EqAt.none_int b t
  |str b=>obtain⟨t,rfl⟩:=rx;exact SeqAt.EqAt.none_str b t
  |_=>exact absurd (show false=true from fx) Lc
 |bl a=>
  cases ry
  cases x with
  |non=>cases rx;exact SeqAt.EqAt.bool_none a
  |bl b=>cases rx;exact SeqAt.EqAt.bool_bool a b
  |int b=>obtain⟨t,rfl⟩:=rx;exact SeqAt.EqAt.bool_int a b t
  |str b=>obtain⟨t,rfl⟩:=rx;exact SeqAt.EqAt.bool_str a b t
  |_=>exact absurd (show false=true from fx) Lc
 |int a=>
  obtain⟨t',rfl⟩:=ry
  cases x with
  |non=>cases rx;exact SeqAt.EqAt.int_none a t'
  |bl b=>cases rx;exact SeqAt.EqAt.int_bool a t' b
  |int b=>obtain⟨t,rfl⟩:=rx;exact SeqAt.EqAt.int_int a t' b t
  |str b=>obtain⟨t,rfl⟩:=rx;exact SeqAt.EqAt.int_str a t' b t
  |_=>exact absurd (show false=true from fx) Lc
 |str a=>
  obtain⟨t',rfl⟩:=ry
  cases x with
  |non=>cases rx;exact SeqAt.EqAt.str_none a t'
  |bl b=>cases rx;exact SeqAt.EqAt.str_bool a t' b
  |int b=>obtain⟨t,rfl⟩:=rx;exact SeqAt.EqAt.str_int a t' b t
  |str b=>obtain⟨t,rfl⟩:=rx;exact SeqAt.EqAt.str_str a t' b t
  |_=>exact absurd (show false=true from fx) Lc
 |_=>exact absurd (show false=true from fy) Lc
def sI (x:V)(u:Value):Bool:=match u with
 | .none=>ej .non x
 | .bool b=>ej (.bl b) x
 | .int i _=>ej (.int i) x
 | .str z _=>ej (.str z) x
 |_=>false
def Aj {x y:V}{u:Value}(r:RelV y u)(f:J5 y=true):sI x u=ej y x:=by grind [cases V,RelV,J5,sI,ej]
theorem fQ {x:V}:∀{xs:List V} {us:List Value},Vals xs us->xs.all J5=true->us.any (sI x)=xs.any λy=>ej y x
 |_,_,.nil,_=>rfl
 |y::xs,u::us,.cons r t,f=>by
  rw[Nu,KO] at f;rw[Qi,Qi,Aj r f.1,fQ t f.2]
theorem cO {A:Around}{s:Shared}{x:V}{v:Value}(rx:RelV x v)(fx:J5 x=true):∀{xs:List V} {us:List Value},Vals xs us->xs.all J5=true->∀u∈us,SeqAt.EqAt A s u v (sI x u)
 |_,_,.nil,_=>λu hu=>by cases hu
 |y::xs,u::us,.cons r t,f=>λu' hu=>by
  rw[Nu,KO] at f;rcases Lh.mp hu with rfl|hu
  .rw[Aj r f.1];exact fC r rx f.1 fx
  .exact cO rx fx t f.2 u' hu
def GG (x:V)(xs:List V):Bool:=xs.any λy=>ej y x
def HY (K:Qc)(neg:Bool):R2:=λx y H Q=>∃p xs,y= .ref p/\(SqL K H p xs\/SqT K H p xs)/\J5 x=true/\xs.all J5=true/\Q (.bl (if neg then !GG x xs else GG x xs)) H
def op_in_seq:OpR X (compareOp .In) (HY X.K false):=by
 intro pins s σ H x y v u Q I rx ry h;obtain⟨p,xs,rfl,hq,fx,fs,q⟩:=h;cases ry;rcases hq with hq|hq
 .obtain⟨a_,r,pl,hz⟩:=I.list hq;refine SeqAt.in_listAt (sI x) pl.isList (λw hw=>cO rx fx r fs w (by simpa using hw)) ⟨.bl _,H,I,rfl,?_⟩;rw[show a_.toArray.any (sI x)=a_.any (sI x) by simp,fQ r fs];exact q
 .obtain⟨a_,r,pl,hz⟩:=I.tuple hq;refine SeqAt.in_tupleAt (sI x) pl (λw hw=>cO rx fx r fs w (by simpa using hw)) ⟨.bl _,H,I,rfl,?_⟩;rw[show a_.toArray.any (sI x)=a_.any (sI x) by simp,fQ r fs];exact q
def op_notIn_seq:OpR X (compareOp .NotIn) (HY X.K true):=by
 intro pins s σ H x y v u Q I rx ry h;obtain⟨p,xs,rfl,hq,fx,fs,q⟩:=h;cases ry;rcases hq with hq|hq
 .obtain⟨a_,r,pl,hz⟩:=I.list hq;refine SeqAt.notIn_listAt (sI x) pl.isList (λw hw=>cO rx fx r fs w (by simpa using hw)) ⟨.bl _,H,I,rfl,?_⟩;rw[show a_.toArray.any (sI x)=a_.any (sI x) by simp,fQ r fs];exact q
 .obtain⟨a_,r,pl,hz⟩:=I.tuple hq;refine SeqAt.notIn_tupleAt (sI x) pl (λw hw=>cO rx fx r fs w (by simpa using hw)) ⟨.bl _,H,I,rfl,?_⟩;rw[show a_.toArray.any (sI x)=a_.any (sI x) by simp,fQ r fs];exact q
def pR:OpR X (compareOp .NotIn) (λx y H Q=>∃i j,x= .str i/\y= .str j/\Q (.bl (!(!(Builtin.Str.occurrences j i 0 j.length 1).isEmpty))) H):=by
 intro pins s σ H x y v u Q I rx ry h;obtain⟨i,j,rfl,rfl,q⟩:=h;obtain⟨t,rfl⟩:=rx;obtain⟨t',rfl⟩:=ry;exact notIn_str ⟨.bl _,H,I,rfl,q⟩
def CallR.or {f:Value}{r r':List V->Hp->VK->Prop}(h:CallR X f r)(h':CallR X f r'):CallR X f (λxs H Q=>r xs H Q\/r' xs H Q):=by grind [CallR]
def call_list_of:CallR X (.type "list") (λxs H Q=>∃p ys,xs=[.ref p]/\(SqL X.K H p ys\/SqT X.K H p ys)/\∀l,H l=none->Q (.ref l) (upd H l (.lst ys))):=by
 intro pins s σ H xs us Q I r h;obtain⟨p,ys,rfl,hq,q⟩:=h;obtain⟨u,rfl,rx⟩:=V4 r;cases rx;have fin:∀(a_:List Value),Vals ys a_->ys.length<=sizeLine->∀(h':Heap) (c':Nat),(∀b o',s.heap.get? b=some o'->h'.get? b=some o')->
   h'.get? s.heap.objs.size=some {cls:= .type "list",dict:=none,data:= .seq a_.toArray c',slots:= #[]}->EP X pins σ Q (.ref s.heap.objs.size) {s with heap:=h'}:=λa_ r' hz h' c' kp e=>
  ⟨.ref s.heap.objs.size,_,I.laid (t':=s.toks) kp (Ke _) (show ObjOk X.prog X.w _ h' _ (.lst ys) from⟨hz,a_,c',r',e⟩),rfl,q _ (I.hok.fresh (Ke _))⟩
 rcases hq with hq|hq
 .obtain⟨a_,r',pl,hz⟩:=I.list hq;have hlen:=r'.length;obtain⟨o,ho,hc,n,hd⟩:=pl.isList;exact call_list_seq p (.inl rfl) ho hc hd (λh' c' kp e=>fin a_ r' hz h' c' kp e) (by simp only[KH]<;>lia)
 .obtain⟨a_,r',pl,hz⟩:=I.tuple hq;have hlen:=r'.length;obtain⟨o,ho,hc,n,hd⟩:=pl;exact call_list_seq p (.inr rfl) ho hc hd (λh' c' kp e=>fin a_ r' hz h' c' kp e) (by simp only[KH]<;>lia)
def Hq (K:Qc)(T:String)(x:V)(H:Hp):Prop:=match x with
 | .str _=>T="str"
 | .int _=>T="int"
 | .ref p=>(T="list"/\∃xs,SqL K H p xs)\/(T="tuple"/\∃o,K.lookup p=some o/\o.cls= .type "tuple"/\o.dict=none)\/
   (T="dict"/\((∃kvs,H p=some (.dK kvs))\/∃kvs,H p=some (.dT kvs)))\/(T="set"/\∃S n,H p=some (.set S n))
 |_=>False
def ye {pins:List (Addr×Obj)}{σ:St}{H:Hp}{s:Shared}{T:String}{x:V}{v:Value}(I:Inv X pins σ H s)(r:RelV x v)(ty:Hq X.K T x H):
  s.TypeIs v T/\∀a,v= .ref a->∃ob,s.heap.get? a=some ob/\ob.dict=none:=by
 cases x with
 |str z=>
  obtain⟨t,rfl⟩:=r
  cases (show T="str" from ty)
  exact⟨Pq s z t,λ_ e=>nomatch e⟩
 |int i=>
  obtain⟨t,rfl⟩:=r
  cases (show T="int" from ty)
  exact⟨typeIs_int s i t,λ_ e=>nomatch e⟩
 |ref p=>
  cases r
  rcases ty with⟨rfl,xs,hq⟩|⟨rfl,o,hk,hc,hd⟩|⟨rfl,hk⟩|⟨rfl,S,n,hk⟩
  .obtain⟨a_,_,pl,_⟩:=I.list hq
   refine⟨pl.isList.typeIs,λa e=>?_⟩
   cases e
   obtain⟨o,n,e,c,hd,_⟩:=pl
   exact⟨o,e,hd⟩
  .refine⟨⟨o,I.kIn p o hk,hc⟩,λa e=>?_⟩
   cases e
   exact⟨o,I.kIn _ o hk,hd⟩
  .have z:∃o,s.heap.get? p=some o/\o.ExactDict:=by
    rcases hk with⟨kvs,hk⟩|⟨kvs,hk⟩
    .obtain⟨_,_,_,_,o,_,_,e,ex,_⟩:=I.hok p _ hk;exact⟨o,e,ex⟩
    .obtain⟨_,_,_,_,o,_,_,e,ex,_⟩:=I.hok p _ hk;exact⟨o,e,ex⟩
   obtain⟨o,e,ex⟩:=z
   refine⟨⟨o,e,ex.1⟩,λa e2=>?_⟩
   cases e2
   exact⟨o,e,ex.2.1⟩
  .obtain⟨o,_,_,_,e,ex,_⟩:=I.hok p _ hk
   refine⟨⟨o,e,ex.1⟩,λa e2=>?_⟩
   cases e2
   exact⟨o,e,ex.2.1⟩
 |_=>exact False.elim ty
def Dm (K:Qc)(T:String)(r:V->List V->Hp->VK->Prop)(to:TE):TE:=λσ H Q=>to σ H λx H1=>Hq K T x H1/\r x [] H1 Q
def Iv (K:Qc)(T:String)(r:V->List V->Hp->VK->Prop)(to:TE)(t:TA):TE:=λσ H Q=>to σ H λx H1=>Hq K T x H1/\t σ H1 λxs H2=>r x xs H2 Q
variable {o e:Expr} {es:List Expr} {to:TE} {t:TA} {name:Str} {apos b_:Pos} {T id:String} {r:V->List V->Hp->VK->Prop}
def DN (pa:PlainAttrs T)(slot:Slot T name id)(SY:typeOf (.builtin id)=pure (.type "method_descriptor"))(hm:yR X id r)(ho:PE X o to)
  (i_:attributeBase o name X.env (eval o X.env)=eval o X.env:=by rfl) (j_:(apos.endLine==b_.line)=true:=by rfl):PE X (.Call (.Attribute o name apos) [] [] b_) (Dm X.K T r to):=by
 intro pins s σ H Q I h
 refine Nv i_ j_ (P0 (ho pins s σ H _ I h) λv s1 ⟨x,H1,I1,r1,ty,q1⟩=>?_)
 obtain⟨h1,h2⟩:=ye I1 r1 ty
 exact⟨T,id,pa,slot,SY,h1,h2,Mb rfl (NT (hm pins s1 σ H1 x [] v [] Q I1 r1 .nil q1))⟩
def GB (pa:PlainAttrs T)(slot:Slot T name id)(SY:typeOf (.builtin id)=pure (.type "method_descriptor"))(hm:yR X id r)(ho:PE X o to)(ha:PA X (e::es) t)
  (i_:attributeBase o name X.env (eval o X.env)=eval o X.env:=by rfl)
  (Yb:((backTo b_ (starEach (e::es) X.env)).all (λx=>!x.1)&&(backToKw b_ (keywordEach [] X.env)).all (λx=>x.1.isSome)
   &&decide ((e::es).length+([]:List Keyword).length+(if([]:List Keyword).isEmpty then 0 else 1)<30))=true:=by rfl)
  (j_:(apos.endLine==b_.line)=true:=by rfl) (hs:starEach (e::es) X.env=(false,eval e X.env)::starEach es X.env:=by rfl) (Ui:(backTo b_ (starEach es X.env)).any (·.1)=false:=by rfl):
  PE X (.Call (.Attribute o name apos) (e::es) [] b_) (Iv X.K T r to t):=by
 intro pins s σ H Q I h
 refine wpAny_Call_method_late i_ Yb j_ rfl (P0 (ho pins s σ H _ I h) λv s1 ⟨x,H1,I1,r1,ty,q1⟩=>?_)
 obtain⟨h1,h2⟩:=ye I1 r1 ty
 refine⟨T,id,pa,slot,SY,h1,h2,?_⟩
 have hA:=ha b_ pins s1 σ H1 _ I1 q1
 rw[hs] at hA⊢
 refine Mb (by show(false||(backTo b_ (starEach es X.env)).any (·.1))=false;rw[Ui]<;>rfl) (Nf ?_)
 exact P0 hA λus s2 ⟨vs,H2,I2,r2,q2⟩=>hm pins s2 σ H2 x vs v us Q I2 r1 r2 q2
end
def Ik (X:Cx)(id:String)(r:V->List V->Hp->VK->Prop):Prop:=
 ∀(pins:List (Addr×Obj)) (s:Shared) (σ:St) (H:Hp) (x:V) (xs:List V) (v:Value) (us:List Value) (Q:VK),Inv X pins σ H s->RelV x v->Vals xs us->r x xs H Q->
  wpAny (model X.prog X.w) X.A (call (.builtin id) (v::us)) (EP X pins σ Q) X.xe s
theorem Vals.one:∀{x:V} {us:List Value},Vals [x] us->∃u,us=[u]/\RelV x u
 |_,_,.cons r .nil=>⟨_,rfl,r⟩
theorem Vals.zero:∀{us:List Value},Vals [] us->us=[]
 |_,.nil=>rfl
def Vals.dropLast {xs:List V}{us:List Value}(h:Vals xs us):Vals xs.dropLast us.dropLast:=by
 induction h with
 |nil=>exact .nil
 |cons r t ih=>
  cases t with
  |nil=>exact .nil
  |cons q t'=>exact .cons r ih
def uq {α:Type}(l:List α):l.eraseIdx (l.length -1)=l.dropLast:=by
 induction l with
 |nil=>rfl
 |cons a r ih=>
  cases r with
  |nil=>rfl
  |cons b r=>
   have e:(a::b::r).length -1=((b::r).length -1)+1:=by
    have h1:(a::b::r).length=r.length+2:=rfl;have h2:(b::r).length=r.length+1:=rfl;lia
   rw[e,List.eraseIdx_cons_succ,ih]
   all_goals rfl
section
variable {X:Cx} {pins:List (Addr×Obj)} {σ:St} {H:Hp} {s:Shared} {l b:Addr} {xs ys zs:List V}
def Inv.lset {a_ its':List Value}{n:Nat}{f:Array Value->Array Value}{t':Nat}(I:Inv X pins σ H s)(hH:H l=some (.lst xs))
  (e:s.heap.get? l=some {cls:= .type "list",data:= .seq a_.toArray n}) (hf:f a_.toArray=its'.toArray) (hv:Vals ys its') (hz:ys.length<=sizeLine):
  Inv X pins σ (upd H l (.lst ys)) {s with heap:=s.heap.update l (Obj.mapSeq f),toks:=t'}:=by
 have q:=PySem.IsL.update e f
 rw[hf] at q
 refine I.write (x:=l) (e:=l) (by rw[hH];exact trivial) (.inl rfl) (λb' u hb hu=>(Heap.get?_update_other s.heap (Obj.mapSeq f) (Mc hb)).trans hu) ⟨_,q⟩ ?_
 exact⟨hz,its',_,hv,q⟩
def Inv.lnew {a_:List Value}{t':Nat}(I:Inv X pins σ H s)(hv:Vals ys a_)(hz:ys.length<=sizeLine):
  Inv X pins σ (upd H s.heap.objs.size (.lst ys)) {s with heap:=s.heap.push {cls:= .type "list",data:= .seq a_.toArray},toks:=t'}:=
 I.laid (λ_ _ q=>Kn _ q) (Ke _) ⟨hz,a_,0,hv,KD _ rfl⟩
def Inv.fresh (I:Inv X pins σ H s):H s.heap.objs.size=none:=I.hok.fresh (Ke _)
def Inv.lstM (I:Inv X pins σ H s)(hH:H l=some (.lst xs)):xs.length<=sizeLine/\∃(a_:List Value) (n:Nat),Vals xs a_/\xs.length=a_.length/\s.heap.get? l=some {cls:= .type "list",data:= .seq a_.toArray n}:=by
 obtain⟨z,a_,n,r,e⟩:=I.hok l _ hH;exact⟨z,a_,n,r,r.length,e⟩
def yA {n:Nat}(h:n<=sizeLine):Builtin.List.listTooLong n=false:=by
 unfold Builtin.List.listTooLong;exact KQ (by lia)
end
section
variable {X:Cx}
def uV:V->List V->Hp->VK->Prop:=λx vs H Q=>∃l xs y,x= .ref l/\vs=[y]/\H l=some (.lst xs)/\xs.length<sizeLine/\Q .non (upd H l (.lst (xs++[y])))
def vP:Ik X "list.append" uV:=by
 intro pins s σ H x vs v us Q I rx rv h;obtain⟨l,xs,y,rfl,rfl,hH,hz,q⟩:=h;cases rx;obtain⟨u,rfl,ru⟩:=rv.one;obtain⟨z,a_,n,r,hl,e⟩:=I.lstM hH;refine Ot F.slot_list_append ⟨_,e,rfl⟩ F.entry_list_append (F.args_list_append_2 _ _) (PySem.list_append l a_.toArray n u (by rw[KH];lia)) ⟨e,?_⟩;refine⟨.non,_,I.lset (its':=a_++[u]) hH e (by simp) (r.append (.cons ru .nil)) ?_,rfl,q⟩;rw[Kj,Ku];lia
def vt:V->List V->Hp->VK->Prop:=λx vs H Q=>∃l b xs zs,x= .ref l/\vs=[.ref b]/\H l=some (.lst xs)/\H b=some (.lst zs)/\xs.length+zs.length<=sizeLine/\Q .non (upd H l (.lst (xs++zs)))
def xh:Ik X "list.extend" vt:=by
 intro pins s σ H x vs v us Q I rx rv h;obtain⟨l,b,xs,zs,rfl,rfl,hH,hB,hz,q⟩:=h;cases rx;obtain⟨u,rfl,ru⟩:=rv.one;cases ru;obtain⟨z,a_,n,r,hl,e⟩:=I.lstM hH;obtain⟨z2,Pt,n2,r2,RW,e2⟩:=I.lstM hB;have hsz:a_.toArray.size+Pt.toArray.size<=sizeLine:=by rw[KH,KH];lia
 have VE:¬(!a_.toArray.isEmpty&&Builtin.List.listTooLong (a_.toArray.size+Pt.toArray.size))=true:=by
  rw[yA hsz,Pz];exact Lc
 refine Ot F.slot_list_extend ⟨_,e,rfl⟩ F.entry_list_extend (F.args_list_extend_2 _ _)
  (AutoSeq1.list_extend_list_list_0 l a_.toArray n b Pt.toArray n2 VE (by rw[KH];lia) (by lia)) ⟨e,e2,?_⟩
 refine⟨.non,_,I.lset (its':=a_++Pt) hH e (by simp) (r.append r2) ?_,rfl,q⟩;rw[Kj];lia
def Hl:V->List V->Hp->VK->Prop:=λx vs H Q=>∃l xs y,x= .ref l/\vs=[]/\H l=some (.lst xs)/\xs[xs.length -1]?=some y/\Q y (upd H l (.lst xs.dropLast))
def EK:Ik X "list.pop" Hl:=by
 intro pins s σ H x vs v us Q I rx rv h;obtain⟨l,xs,y,rfl,rfl,hH,hy,q⟩:=h;cases rx;have RX:=rv.zero;subst RX;obtain⟨z,a_,n,r,hl,e⟩:=I.lstM hH;obtain⟨u,hu,ru⟩:=r.get hy;have Rg:a_.toArray[a_.toArray.size -1]?=some u:=by
  show a_.toArray[a_.length -1]?=some u;rw[←Ms,←hl];exact hu
 refine Ot F.slot_list_pop ⟨_,e,rfl⟩ F.entry_list_pop (F.args_list_pop_1 _) (MeetsSeq.list_pop_last l a_.toArray n u Rg (by rw[KH];lia)) ⟨e,?_⟩;refine⟨y,_,I.lset (its':=a_.dropLast) hH e ?_ r.dropLast ?_,ru,q⟩
 .show a_.toArray.eraseIdxIfInBounds (a_.toArray.size -1)=a_.dropLast.toArray;rw[KH,List.eraseIdxIfInBounds_toArray,uq]
 .rw[List.length_dropLast];lia
def GF:R2:=λx y H Q=>∃l b xs zs,x= .ref l/\y= .ref b/\H l=some (.lst xs)/\H b=some (.lst zs)/\xs.length+zs.length<=sizeLine/\∀p,H p=none->Q (.ref p) (upd H p (.lst (xs++zs)))
def op_cat:OpR X (binaryOp .Add) GF:=by
 intro pins s σ H x y v u Q I rx ry h;obtain⟨l,b,xs,zs,rfl,rfl,hH,hB,hz,q⟩:=h;cases rx;cases ry;obtain⟨z,a_,n,r,hl,e⟩:=I.lstM hH;obtain⟨z2,Pt,n2,r2,RW,e2⟩:=I.lstM hB;refine PySem.P.add_list e e2 ?_ (by rw[KH,KH];lia);have ea:a_.toArray++Pt.toArray=(a_++Pt).toArray:=by simp
 rw[ea];exact⟨.ref _,_,I.lnew (t':=s.toks) (r.append r2) (by rw[Kj];lia),rfl,q _ I.fresh⟩
end
section
variable {prog:Program} {w:World} {A:Around} {E:Value->Shared->Prop} {s:Shared}
end
section
variable {X:Cx}
end
section
variable {κ:Type} [DecidableEq κ]
def A4 (kvs:List (κ×V))(k:κ):Option V:=(kvs.find? λkv=>decide (kv.1=k)).map (·.2)
def E9 (kvs:List (κ×V))(k:κ)(v:V):List (κ×V):=
 if(kvs.any λkv=>decide (kv.1=k))=true then kvs.map (λkv=>if kv.1=k then(kv.1,v) else kv) else kvs++[(k,v)]
def J6 {p:κ×V}{r:List (κ×V)}{k:κ}(e:p.1=k):A4 (p::r) k=some p.2:=by simp [A4,MT,e]
def K0 {p:κ×V}{r:List (κ×V)}{k:κ}(e:¬p.1=k):A4 (p::r) k=A4 r k:=by simp [A4,MT,e]
theorem R0 (k:κ):∀kvs:List (κ×V),(kvs.any λkv=>decide (kv.1=k))=(A4 kvs k).isSome
 |[]=>rfl
 |p::r=>by
  rw[Qi];by_cases e:p.1=k
  .simp only[J6 e,KA e,Bool.true_or,Option.isSome_some]
  .rw[K0 e,KQ e,Bool.false_or];exact R0 k r
theorem sx (k j:κ)(y:V):∀kvs:List (κ×V),A4 (kvs.map λkv=>if kv.1=k then(kv.1,y) else kv) j=(A4 kvs j).map λx=>if j=k then y else x
 |[]=>rfl
 |p::r=>by
  have ih:=sx k j y r;rw[Lk];by_cases h:p.1=k
  .rw[if_pos h];by_cases e:p.1=j
   .rw[J6 (p:=(p.1,y)) e,J6 e,Nw,if_pos (e.symm.trans h)]
   .rw[K0 (p:=(p.1,y)) e,K0 e,ih]
  .rw[if_neg h];by_cases e:p.1=j
   .rw[J6 (p:=p) e,J6 e,Nw,if_neg (λz=>h (e.trans z))]
   .rw[K0 (p:=p) e,K0 e,ih]
theorem nH (k j:κ)(y:V):∀kvs:List (κ×V),A4 kvs k=none->A4 (kvs++[(k,y)]) j=if j=k then some y else A4 kvs j
 |[],_=>by
  by_cases e:k=j
  .rw[if_pos e.symm];exact J6 (p:=(k,y)) e
  .rw[if_neg (λz=>e z.symm)];exact K0 (p:=(k,y)) e
 |p::r,hn=>by
  rw[MN];have hk:¬p.1=k:=λz=>by rw[J6 z] at hn;cases hn
  rw[K0 hk] at hn;have ih:=nH k j y r hn;by_cases e:p.1=j
  .rw[J6 e,J6 e,if_neg (λz=>hk (e.trans z))]
  .rw[K0 e,K0 e,ih]
def N1 (kvs:List (κ×V))(k j:κ)(y:V):A4 (E9 kvs k y) j=if j=k then some y else A4 kvs j:=by
 unfold E9;by_cases a:(kvs.any λkv=>decide (kv.1=k))=true
 .rw[if_pos a,sx];rw[R0] at a;by_cases e:j=k
  .obtain⟨x,hx⟩:=Oo.mp a;rw[if_pos e,e,hx,Nw,if_pos rfl]
  .rw[if_neg e];cases A4 kvs j with
   |none=>rfl
   |some x=>rw[Nw,if_neg e]
 .rw[if_neg a];refine nH k j y kvs ?_;rw[R0] at a;cases q:A4 kvs k with
  |none=>rfl
  |some x=>rw[q] at a;exact(a rfl).elim
def V0 (kvs:List (κ×V))(k:κ)(v:V):(E9 kvs k v).length<=kvs.length+1:=by
 unfold E9;split
 .rw[Kb];lia
 .rw[Kj,Lq,NU];lia
def Q0 {kvs:List (κ×V)}{k:κ}(v:V)(h:A4 kvs k=none):E9 kvs k v=kvs++[(k,v)]:=by
 unfold E9;rw[R0,h];exact if_neg (by decide)
def RelO.isSome_eq {o:Option V}{u:Option Value}(r:RelO o u):o.isSome=u.isSome:=by
 cases o with
 |none=>cases u with
  |none=>rfl
  |some _=>exact(show False from r).elim
 |some _=>cases u with
  |none=>exact(show False from r).elim
  |some _=>rfl
def RelO.getD {o:Option V}{u:Option Value}{d:V}{d':Value}(r:RelO o u)(rd:RelV d d'):RelV (o.getD d) (u.getD d'):=by
 cases o with
 |none=>cases u with
  |none=>exact rd
  |some _=>exact(show False from r).elim
 |some _=>cases u with
  |none=>exact(show False from r).elim
  |some _=>exact r
def KV.val {kvs:List (κ×V)}{vs:List (κ×Value)}(r:KV kvs vs)(k:κ):RelO (A4 kvs k) (valueAt vs k):=by
 unfold KV at r;induction r with
 |nil=>exact True.intro
 | @cons p q ps qs h t ih=>
  obtain⟨h1,h2⟩:=h
  by_cases e:p.1=k
  .have e':q.1=k:=h1.symm.trans e
   have b:valueAt (q::qs) k=some q.2:=by simp [valueAt,MT,e']
   rw[J6 e,b];exact h2
  .have e':¬q.1=k:=λz=>e (h1.trans z)
   have b:valueAt (q::qs) k=valueAt qs k:=by simp [valueAt,MT,e']
   rw[K0 e,b];exact ih
def KV.any {kvs:List (κ×V)}{vs:List (κ×Value)}(r:KV kvs vs)(k:κ):(kvs.any λkv=>decide (kv.1=k))=vs.any λkv=>decide (kv.1=k):=by induction r with grind
def KV.repl {kvs:List (κ×V)}{vs:List (κ×Value)}(r:KV kvs vs)(k:κ){y:V}{u:Value}(ry:RelV y u):
  KV (kvs.map λkv=>if kv.1=k then(kv.1,y) else kv) (vs.map λkv=>if kv.1=k then(kv.1,u) else kv):=by
 unfold KV at r⊢
 induction r with
 |nil=>exact .nil
 | @cons p q ps qs h t ih=>
  rw[Lk,Lk]
  refine .cons ?_ ih
  obtain⟨h1,h2⟩:=h
  by_cases e:p.1=k
  .rw[if_pos e,if_pos (h1.symm.trans e)];exact⟨h1,ry⟩
  .rw[if_neg e,if_neg (λz=>e (h1.trans z))];exact⟨h1,h2⟩
def KV.put {kvs:List (κ×V)}{vs:List (κ×Value)}(r:KV kvs vs)(k:κ){y:V}{u:Value}(ry:RelV y u):KV (E9 kvs k y) (stored vs k u):=by
 unfold E9 stored;rw[r.any k];by_cases e:(vs.any λkv=>decide (kv.1=k))=true
 .rw[if_pos e,if_pos e];exact r.repl k ry
 .rw[if_neg e,if_neg e];exact Paired.snoc r ⟨rfl,ry⟩
def KV.keys {kvs:List (κ×V)}{vs:List (κ×Value)}(r:KV kvs vs):kvs.map (·.1)=vs.map (·.1):=by induction r with grind
def KV.length {kvs:List (κ×V)}{vs:List (κ×Value)}(r:KV kvs vs):kvs.length=vs.length:=KW r
end
def gG {P:Program}{w:World}{k:j6}{u:Value}(r:RelV (kV k) u):(z7 P w).is k u=true:=by
 cases k with
 |inl i=>obtain⟨t,e⟩:=(show ∃t,u=Value.int i t from r);subst e;exact qL P w i t
 |inr x=>obtain⟨t,e⟩:=(show ∃t,u=Value.str x t from r);subst e;exact sr P w x t
theorem ow {P:Program}{w:World}:∀{ks:List j6} {us:List Value},Vals (ks.map kV) us->ItemsAre (z7 P w) ks us
 |[],_,r=>by rw[MU] at r;cases r;exact .nil
 |k::ks,_,r=>by
  rw[Lk] at r;cases r with
  |cons h t=>exact .cons (gG h) (ow t)
abbrev KT (H:Hp):List (List j6×V)->List (List j6×Addr×Value)->Prop:=Paired λp q=>p.1=q.1/\H q.2.1=some (.tup (p.1.map kV))/\RelV p.2 q.2.2
def KT.val {H:Hp}{kvs:List (List j6×V)}{xs:List (List j6×Addr×Value)}(r:KT H kvs xs)(k:List j6):RelO (A4 kvs k) ((atKey xs k).map (·.2)):=by
 induction r with
 |nil=>exact True.intro
 | @cons p q ps qs h t ih=>
  obtain⟨h1,_,h2⟩:=h
  by_cases e:p.1=k
  .have e':q.1=k:=h1.symm.trans e
   have b:atKey (q::qs) k=some q.2:=by simp [atKey,MT,e']
   rw[J6 e,b];exact h2
  .have e':¬q.1=k:=λz=>e (h1.trans z)
   have b:atKey (q::qs) k=atKey qs k:=by simp [atKey,MT,e']
   rw[K0 e,b];exact ih
def KT.repl {H:Hp}{kvs:List (List j6×V)}{xs:List (List j6×Addr×Value)}(r:KT H kvs xs)(k:List j6){y:V}{u:Value}(ry:RelV y u):
  KT H (kvs.map λkv=>if kv.1=k then(kv.1,y) else kv) (xs.map (putAt k u)):=by
 induction r with
 |nil=>exact .nil
 | @cons p q ps qs h t ih=>
  rw[Lk,Lk]
  refine .cons ?_ ih
  obtain⟨h1,h2,h3⟩:=h
  unfold putAt
  by_cases e:p.1=k
  .rw[if_pos e,if_pos (h1.symm.trans e)];exact⟨h1,h2,ry⟩
  .rw[if_neg e,if_neg (λz=>e (h1.trans z))];exact⟨h1,h2,h3⟩
def KT.put {H:Hp}{kvs:List (List j6×V)}{xs:List (List j6×Addr×Value)}(r:KT H kvs xs)(k:List j6){b:Addr}{y:V}{u:Value}(hb:H b=some (.tup (k.map kV)))(ry:RelV y u):
  KT H (E9 kvs k y) (storedH xs k b u):=by
 have e:(kvs.any λkv=>decide (kv.1=k))=(atKey xs k).isSome:=by
  rw[R0,(r.val k).isSome_eq,Ou]
 unfold E9 storedH
 rw[e]
 by_cases q:(atKey xs k).isSome=true
 .rw[if_pos q,if_pos q];exact r.repl k ry
 .rw[if_neg q,if_neg q];exact Paired.snoc r ⟨rfl,hb,ry⟩
def KT.keeps {H H':Hp}{kvs:List (List j6×V)}{xs:List (List j6×Addr×Value)}(r:KT H kvs xs)(ht:∀b ys,H b=some (.tup ys)->H' b=some (.tup ys)):KT H' kvs xs:=
 Paired.mapP r λ_ _ z=>⟨z.1,ht _ _ z.2.1,z.2.2⟩
section
variable {P:Program} {w:World} {H:Hp} {h:Heap} {a:Addr}
def CN {u:HO}(ok:HOk P w H h)(e:Rd H a u):ObjOk P w H h a u:=e.ok ok
def X3 {kvs:List (j6×V)}(ok:HOk P w H h)(e:Rd H a (.dK kvs)):kvs.length<=sizeLine/\(a==sysModules)=false/\∃vs,KV kvs vs/\h.DictOf (z7 P w) a vs:=
 show ObjOk P w H h a (.dK kvs) from CN ok e
def Cw {kvs:List (j6×V)}(ok:HOk P w H h)(e:H a=some (.dK kvs)):kvs.length<=sizeLine/\(a==sysModules)=false/\∃vs,KV kvs vs/\h.DictOf (z7 P w) a vs:=X3 ok (.inl e)
def dH {ks:List j6}(ok:HOk P w H h)(e:H a=some (.tup (ks.map kV))):(tupleKind (z7 P w)).is h ks a:=by
 obtain⟨_,a_,r,o,h1,h2,n,h3⟩:=(show ObjOk P w H h a (.tup (ks.map kV)) from ok a _ e)
 exact⟨o,a_.toArray,n,h1,h2,h3,by simpa using ow r⟩
def iX {kvs:List (List j6×V)}(ok:HOk P w H h)(e:Rd H a (.dT kvs)):kvs.length<=sizeLine/\(a==sysModules)=false/\
  ∃xs,KT H kvs xs/\h.DictOfH (tupleKind (z7 P w)) a xs:=by
 obtain⟨z,y,xs,r,o,es,ep,h1,h2,h3,h4,h5⟩:=(show ObjOk P w H h a (.dT kvs) from CN ok e)
 refine⟨z,y,xs,r,o,es,ep,h1,h2,h3,h4,λx hx=>?_,h5⟩
 have all:∀{l:List (List j6×V)} {m:List (List j6×Addr×Value)},KT H l m->∀x∈m,(tupleKind (z7 P w)).is h x.1 x.2.1:=by
  intro l m q;induction q with
  |nil=>intro x hx;exact nomatch hx
  | @cons p q ps qs hq t ih=>
   intro x hx
   rcases Lh.mp hx with e|hx
   .subst e
    exact dH ok (by rw[←hq.1];exact hq.2.1)
   .exact ih x hx
 exact all r x hx
def CU {kvs:List (List j6×V)}(ok:HOk P w H h)(e:H a=some (.dT kvs)):kvs.length<=sizeLine/\(a==sysModules)=false/\
  ∃xs,KT H kvs xs/\h.DictOfH (tupleKind (z7 P w)) a xs:=iX ok (.inl e)
end
def DGet (H:Hp)(a:Addr)(y:V)(r:Option V):Prop:=
 (∃kvs k,Rd H a (.dK kvs)/\y=kV k/\r=A4 kvs k)\/∃kvs k b,Rd H a (.dT kvs)/\y= .ref b/\H b=some (.tup (k.map kV))/\r=A4 kvs k
def DPut (H:Hp)(a:Addr)(y v:V)(H':Hp):Prop:=
 (∃kvs k,H a=some (.dK kvs)/\y=kV k/\kvs.length<sizeLine/\H'=upd H a (.dK (E9 kvs k v)))\/
 ∃kvs k b,H a=some (.dT kvs)/\y= .ref b/\H b=some (.tup (k.map kV))/\kvs.length<sizeLine/\H'=upd H a (.dT (E9 kvs k v))
def DGet.t {H:Hp}{a b:Addr}{kvs:List (List j6×V)}{k:List j6}(e:H a=some (.dT kvs))(eb:H b=some (.tup (k.map kV))):DGet H a (.ref b) (A4 kvs k):= .inr ⟨kvs,k,b,.inl e,rfl,eb,rfl⟩
def DPut.k {H:Hp}{a:Addr}{kvs:List (j6×V)}{k:j6}{v:V}(e:H a=some (.dK kvs))(hl:kvs.length<sizeLine):DPut H a (kV k) v (upd H a (.dK (E9 kvs k v))):= .inl ⟨kvs,k,e,rfl,hl,rfl⟩
section
variable {X:Cx} {pins:List (Addr×Obj)} {σ:St} {H:Hp} {s:Shared} {a:Addr} {y v:V} {u r:Value} {o:Option V} {A:Around} {E:Value->Shared->Prop}
def Inv.big (I:Inv X pins σ H s):sysModules<s.heap.objs.size:=by
 have h:mainGlobals<s.heap.objs.size:=(I.mod.glob.keeps I.bk).lt;exact Pb (by decide) h
def we {Q:Value->Shared->Prop}(hu:A.units+1<cLine)(I:Inv X pins σ H s)(g:DGet H a y (some v))(ry:RelV y u)(h:∀w' s',Inv X pins σ H s'->RelV v w'->Q w' s'):
  wpAny (model X.prog X.w) A (getItem (.ref a) u) Q E s:=by
 rcases g with⟨kvs,k,e,ey,l⟩|⟨kvs,k,b,e,ey,eb,l⟩
 .subst ey
  obtain⟨z,hd,vs,rel,dd⟩:=X3 I.hok e
  obtain⟨w',hw,RV⟩:=RelO.some_of (v:=v) (o:=valueAt vs k) (by rw[l];exact rel.val k)
  exact wpAny_getItem_of (gG ry) dd.mapOf hw (h w' _ (I.tok _) RV)
 .subst ey
  cases (show u=Value.ref b from ry)
  obtain⟨z,hd,xs,rel,dd⟩:=iX I.hok e
  obtain⟨w',hw,RV⟩:=RelO.some_of (v:=v) (o:=(atKey xs k).map (·.2)) (by rw[l];exact rel.val k)
  obtain⟨p,hp,UY⟩:=KN.mp hw
  refine wpAny_getItem_heap (Mh hu) (dH I.hok eb) dd hp ?_
  rw[UY]
  exact h w' _ (I.tok _) RV
def IK {Q:Value->Shared->Prop}(hu:A.units+1<cLine)(I:Inv X pins σ H s)(g:DGet H a y o)(ry:RelV y u)(h:∀s',Inv X pins σ H s'->Q (.bool o.isSome) s'):
  wpAny (model X.prog X.w) A (compareOp .In u (.ref a)) Q E s:=by
 rcases g with⟨kvs,k,e,ey,l⟩|⟨kvs,k,b,e,ey,eb,l⟩
 .subst ey
  obtain⟨z,hd,vs,rel,dd⟩:=X3 I.hok e
  refine wpAny_in_of (gG ry) hd dd.mapOf ?_
  rw[←(rel.val k).isSome_eq,←l]
  exact h _ (I.tok _)
 .subst ey
  cases (show u=Value.ref b from ry)
  obtain⟨z,hd,xs,rel,dd⟩:=iX I.hok e
  refine wpAny_in_heap (Mh hu) (dH I.hok eb) hd dd ?_
  have q:=(rel.val k).isSome_eq
  rw[Ou] at q
  rw[←q,←l]
  exact h _ (I.tok _)
def Cn {Q:Value->Shared->Prop}(hu:A.units+1<cLine)(I:Inv X pins σ H s)(g:DGet H a y o)(ry:RelV y u)(h:∀s',Inv X pins σ H s'->Q (.bool (!o.isSome)) s'):
  wpAny (model X.prog X.w) A (compareOp .NotIn u (.ref a)) Q E s:=by
 rcases g with⟨kvs,k,e,ey,l⟩|⟨kvs,k,b,e,ey,eb,l⟩
 .subst ey
  obtain⟨z,hd,vs,rel,dd⟩:=X3 I.hok e
  refine wpAny_notIn_of (gG ry) hd dd.mapOf ?_
  rw[←(rel.val k).isSome_eq,←l]
  exact h _ (I.tok _)
 .subst ey
  cases (show u=Value.ref b from ry)
  obtain⟨z,hd,xs,rel,dd⟩:=iX I.hok e
  refine wpAny_notIn_heap (Mh hu) (dH I.hok eb) hd dd ?_
  have q:=(rel.val k).isSome_eq
  rw[Ou] at q
  rw[←q,←l]
  exact h _ (I.tok _)
def jT {h':Heap}{t':Nat}{ob:HO}(I:Inv X pins σ H s)(mu:Gp (H a))(hs:Heap.SameBut a s.heap h')(he:∃q,h'.get? a=some q)(new:ObjOk X.prog X.w (upd H a ob) h' a ob):
  Inv X pins σ (upd H a ob) {s with heap:=h',toks:=t'}:=
 I.write (x:=a) (e:=a) mu (.inl rfl) (λb q hb z=>(hs.2 b hb).trans z) he new
def kZ {P:Program}{w:World}{H':Hp}{h':Heap}{kvs:List (j6×V)}{vs:List (j6×Value)}(z:kvs.length<=sizeLine)(hd:(a==sysModules)=false)(rel:KV kvs vs)(dd:h'.DictOf (z7 P w) a vs):
  ObjOk P w H' h' a (.dK kvs):=⟨z,hd,vs,rel,dd⟩
def xI {H':Hp}{Q:Unit->Shared->Prop}(hu:A.units+1<cLine)(I:Inv X pins σ H s)(g:DPut H a y v H')(ry:RelV y u)(rv:RelV v r)(h:∀s',Inv X pins σ H' s'->Q () s'):
  wpAny (model X.prog X.w) A (setItem (.ref a) u r) Q E s:=by
 rcases g with⟨kvs,k,e,ey,l,eH⟩|⟨kvs,k,b,e,ey,eb,l,eH⟩
 .subst ey eH
  obtain⟨z,hd,vs,rel,dd⟩:=Cw I.hok e
  have hz:vs.length<=sizeLine:=by rw[←rel.length];exact z
  have hl:(E9 kvs k v).length<=sizeLine:=by have:=V0 kvs k v;lia
  refine wpAny_setItem_pairs (hsz:=hz) (gG ry) dd λh' dd' hs=>h _ ?_
  have he:∃q,h'.get? a=some q:=let ⟨q,_,_,hq,_⟩:=dd';⟨q,hq⟩
  exact jT I (by rw[e];exact True.intro) hs he (kZ hl hd (rel.put k rv) dd')
 .subst ey eH
  cases (show u=Value.ref b from ry)
  obtain⟨z,hd,xs,rel,dd⟩:=CU I.hok e
  have hz:xs.length<=sizeLine:=by rw[←KW rel];exact z
  have hl:(E9 kvs k v).length<=sizeLine:=by have:=V0 kvs k v;lia
  refine wpAny_setItem_heap (hsz:=hz) (Mh hu) (dH I.hok eb) dd λh' dd' hs=>h _ ?_
  obtain⟨q,es,ep,hq,h2,h3,h4,_,h5⟩:=dd'
  refine jT I (by rw[e];exact True.intro) hs ⟨q,hq⟩ ⟨hl,hd,_,(rel.put k eb rv).keeps λc ys ec=>?_,q,es,ep,hq,h2,h3,h4,h5⟩
  rw[b9 (Cz ec e (λz=>nomatch z))]
  exact ec
end
section
variable {X:Cx} {pins:List (Addr×Obj)} {σ:St} {H:Hp} {s:Shared} {a:Addr} {kvs:List (j6×V)} {k:j6} {u:Value} {A:Around} {E:Value->Shared->Prop}
def FY {Q:Value->Shared->Prop}(I:Inv X pins σ H s)(e:Rd H a (.dK kvs))(h:∀t s',Inv X pins σ H s'->Q (.int kvs.length t) s'):wpAny (model X.prog X.w) A (call (.builtin "len") [.ref a]) Q E s:=by
 obtain⟨z,hd,vs,rel,dd⟩:=X3 I.hok e;refine call_len_dict hd dd (by rw[←rel.length];rw[PH] at z;lia) ?_;rw[←rel.length];exact h _ _ (I.tok _)
end
def qj {X:Cx}{pins:List (Addr×Obj)}{σ:St}{H:Hp}{s:Shared}{a:Addr}{y:V}{o:Option V}(I:Inv X pins σ H s)(g:DGet H a y o):s.TypeIs (.ref a) "dict":=by
 rcases g with⟨kvs,k,e,_,_⟩|⟨kvs,k,b,e,_,_,_⟩
 .obtain⟨_,_,vs,_,dd⟩:=X3 I.hok e;exact dd.typeIs
 .obtain⟨_,_,xs,_,dd⟩:=iX I.hok e;exact dd.typeIs
section
variable {X:Cx} {o i e value:Expr} {pos pos' z_:Pos} {td ty tv:TE}
end
def zw {P:Program}{w:World}{H:Hp}(h:Heap)(hb:sysModules<h.objs.size):ObjOk P w H (h.push {cls:= .type "dict",data:= .dict #[]}) h.objs.size (.dK []):=
 ⟨LJ _,MJ.mpr (Mc (KC hb)),[],.nil,Pd h⟩
def zh {P:Program}{w:World}{H:Hp}(h:Heap)(hb:sysModules<h.objs.size):ObjOk P w H (h.push {cls:= .type "dict",data:= .dict #[]}) h.objs.size (.dT []):=
 ⟨LJ _,MJ.mpr (Mc (KC hb)),[],.nil,_, #[],0,KD _ rfl,⟨rfl,rfl,rfl⟩,rfl,rfl,LF⟩
def yD:TE:=λ_ H Q=>∀p,H p=none->Q (.ref p) (upd H p (.dK []))
def zQ:TE:=λ_ H Q=>∀p,H p=none->Q (.ref p) (upd H p (.dT []))
section
variable {X:Cx} {pos:Pos}
def Ad:PE X (.Dict [] [] pos) yD:=λpins s σ H Q I h=>
 wpAny_Dict_empty ⟨.ref s.heap.objs.size,_,I.laid (a:=s.heap.objs.size) (o:= .dK []) (t':=s.toks) (λ_ _ q=>Kn _ q) (Ke _) (zw s.heap I.big),rfl,h _ (I.hok.fresh (Ke _))⟩
def As:PE X (.Dict [] [] pos) zQ:=λpins s σ H Q I h=>
 wpAny_Dict_empty ⟨.ref s.heap.objs.size,_,I.laid (a:=s.heap.objs.size) (o:= .dT []) (t':=s.toks) (λ_ _ q=>Kn _ q) (Ke _) (zh s.heap I.big),rfl,h _ (I.hok.fresh (Ke _))⟩
end
def yW:List (TE×TE)->St->Hp->(List (V×V)->Hp->Prop)->Prop
 |[],_,H,Q=>Q [] H
 |(tk,tv)::r,σ,H,Q=>tk σ H λx H1=>tv σ H1 λy H2=>yW r σ H2 λps H3=>Q ((x,y)::ps) H3
abbrev VV:List (V×V)->List (Value×Value)->Prop:=Paired λp q=>RelV p.1 q.1/\RelV p.2 q.2
def JF (X:Cx)(pos:Pos)(keys:List (Option Expr))(values:List Expr)(Yc:List (TE×TE)):Prop:=
 ∀(pins:List (Addr×Obj)) (s:Shared) (σ:St) (H:Hp) (Q:List (V×V)->Hp->Prop),Inv X pins σ H s->yW Yc σ H Q->
  wpAny (model X.prog X.w) X.A (evalPairs (pairTrees keys values X.env pos)) (λvs s'=>∃ps H',Inv X pins σ H' s'/\VV ps vs/\Q ps H') X.xe s
structure M1 (X:Cx) (o:Expr) (m:Str) (apos:Pos) (e:Expr) (b_:Pos):Prop where
 base:attributeBase o m X.env (eval o X.env)=eval o X.env
 few:((backTo b_ (starEach [e] X.env)).all (λx=>!x.1)&&(backToKw b_ (keywordEach [] X.env)).all (λx=>x.1.isSome)
  &&decide (([e]:List Expr).length+([]:List Keyword).length+(if([]:List Keyword).isEmpty then 0 else 1)<30))=true
 line:(apos.endLine==b_.line)=true
 trees:backTo b_ (starEach [e] X.env)=[(false,eval e X.env)]
structure M2 (X:Cx) (o:Expr) (m:Str) (apos:Pos) (e f:Expr) (b_:Pos):Prop where
 base:attributeBase o m X.env (eval o X.env)=eval o X.env
 few:((backTo b_ (starEach [e,f] X.env)).all (λx=>!x.1)&&(backToKw b_ (keywordEach [] X.env)).all (λx=>x.1.isSome)
  &&decide (([e,f]:List Expr).length+([]:List Keyword).length+(if([]:List Keyword).isEmpty then 0 else 1)<30))=true
 line:(apos.endLine==b_.line)=true
 trees:backTo b_ (starEach [e,f] X.env)=[(false,eval e X.env),(false,eval f X.env)]
def Hr (H:Hp)(a:Addr):Prop:=(∃kvs,Rd H a (.dK kvs))\/∃kvs,Rd H a (.dT kvs)
def yZ {X:Cx}{pins:List (Addr×Obj)}{σ:St}{H:Hp}{s:Shared}{a:Addr}(I:Inv X pins σ H s)(d:Hr H a):
  s.TypeIs (.ref a) "dict"/\(∀b,Value.ref a= .ref b->∃ob,s.heap.get? b=some ob/\ob.dict=none)/\(a==sysModules)=false:=by
 rcases d with⟨kvs,e⟩|⟨kvs,e⟩
 .obtain⟨_,hd,vs,_,dd⟩:=X3 I.hok e
  refine⟨dd.typeIs,λb q=>?_,hd⟩
  cases q
  obtain⟨ob,_,_,h1,h2,_⟩:=dd
  exact⟨ob,h1,h2.2.1⟩
 .obtain⟨_,hd,xs,_,dd⟩:=iX I.hok e
  refine⟨dd.typeIs,λb q=>?_,hd⟩
  cases q
  obtain⟨ob,_,_,h1,h2,_⟩:=dd
  exact⟨ob,h1,h2.2.1⟩
section
variable {X:Cx} {pins:List (Addr×Obj)} {σ:St} {H:Hp} {s:Shared} {a:Addr} {y d:V} {u r:Value} {o:Option V} {A:Around} {E:Value->Shared->Prop}
def DV {Q:Value->Shared->Prop}(hu:A.units+1<cLine)(I:Inv X pins σ H s)(g:DGet H a y o)(ry:RelV y u)(h:∀w' s',Inv X pins σ H s'->RelV (o.getD .non) w'->Q w' s'):
  wpAny (model X.prog X.w) A (call (.builtin "dict.get") [.ref a,u]) Q E s:=by
 rcases g with⟨kvs,k,e,ey,l⟩|⟨kvs,k,b,e,ey,eb,l⟩
 .subst ey
  obtain⟨z,hd,vs,rel,dd⟩:=X3 I.hok e
  refine Mf Mg dd.typeIs MO (Oz _ _) (meets_dict_get (z7 X.prog X.w) a (gG ry) hd) ⟨_,dd.mapOf,h _ _ (I.tok _) ?_⟩
  rw[l]
  exact(rel.val k).getD rfl
 .subst ey
  cases (show u=Value.ref b from ry)
  obtain⟨z,hd,xs,rel,dd⟩:=iX I.hok e
  refine Mf Mg dd.typeIs MO (Oz _ _) (meetsH_dict_get (tupleKind (z7 X.prog X.w)) a b hd) ⟨Mh hu,k,xs,dH I.hok eb,dd,h _ _ (I.tok _) ?_⟩
  rw[l]
  exact(rel.val k).getD rfl
def Fn {Q:Value->Shared->Prop}(hu:A.units+1<cLine)(I:Inv X pins σ H s)(g:DGet H a y o)(ry:RelV y u)(rd:RelV d r)(h:∀w' s',Inv X pins σ H s'->RelV (o.getD d) w'->Q w' s'):
  wpAny (model X.prog X.w) A (call (.builtin "dict.get") [.ref a,u,r]) Q E s:=by
 rcases g with⟨kvs,k,e,ey,l⟩|⟨kvs,k,b,e,ey,eb,l⟩
 .subst ey
  obtain⟨z,hd,vs,rel,dd⟩:=X3 I.hok e
  refine Mf Mg dd.typeIs MO (OA _ _ _) (meets_dict_get_default (z7 X.prog X.w) a (gG ry) hd r) ⟨_,dd.mapOf,h _ _ (I.tok _) ?_⟩
  rw[l]
  exact(rel.val k).getD rd
 .subst ey
  cases (show u=Value.ref b from ry)
  obtain⟨z,hd,xs,rel,dd⟩:=iX I.hok e
  refine Mf Mg dd.typeIs MO (OA _ _ _) (meetsH_dict_get_default (tupleKind (z7 X.prog X.w)) a b hd r) ⟨Mh hu,k,xs,dH I.hok eb,dd,h _ _ (I.tok _) ?_⟩
  rw[l]
  exact(rel.val k).getD rd
end
def uk (td ty:TE):TE:=λσ H Q=>td σ H λx H1=>∃a,x= .ref a/\Hr H1 a/\ty σ H1 λy H2=>∃o,DGet H2 a y o/\Q (o.getD .non) H2
def uw (td ty tx:TE):TE:=λσ H Q=>td σ H λx H1=>∃a,x= .ref a/\Hr H1 a/\ty σ H1 λy H2=>tx σ H2 λz H3=>∃o,DGet H3 a y o/\Q (o.getD z) H3
section
variable {X:Cx} {o e f:Expr} {apos b_:Pos} {td ty tx:TE}
def zK (hu:X.A.units+1<cLine)(ho:PE X o td)(he:PE X e ty)(m:M1 X o "get" apos e b_):PE X (.Call (.Attribute o "get" apos) [e] [] b_) (uk td ty):=by
 intro pins s σ H Q I h;refine wpAny_Call_method m.base m.few m.line Ln Mg Pe (P0 (ho pins s σ H _ I h) λu s1 ⟨x,H1,I1,rx,a,ex,d,q1⟩=>?_);subst ex;obtain rfl:u=Value.ref a:=rx;obtain⟨t1,t2,_⟩:=yZ I1 d;refine⟨t1,t2,?_⟩;rw[m.trees];refine Mb rfl (Nf (MQ (P0 (he pins s1 σ H1 _ I1 q1) λiv s2 ⟨y,H2,I2,ry,ov,g,q2⟩=>NG ?_)));exact DV hu I2 g ry λw' s3 I3 RV=>⟨_,H2,I3,RV,q2⟩
def Ay (hu:X.A.units+1<cLine)(ho:PE X o td)(he:PE X e ty)(hf:PE X f tx)(m:M2 X o "get" apos e f b_):PE X (.Call (.Attribute o "get" apos) [e,f] [] b_) (uw td ty tx):=by
 intro pins s σ H Q I h;refine wpAny_Call_method m.base m.few m.line Ln Mg Pe (P0 (ho pins s σ H _ I h) λu s1 ⟨x,H1,I1,rx,a,ex,d,q1⟩=>?_);subst ex;obtain rfl:u=Value.ref a:=rx;obtain⟨t1,t2,_⟩:=yZ I1 d;refine⟨t1,t2,?_⟩;rw[m.trees];refine Mb rfl (Nf (MQ (P0 (he pins s1 σ H1 _ I1 q1) λiv s2 ⟨y,H2,I2,ry,q2⟩=>
  MQ (P0 (hf pins s2 σ H2 _ I2 q2) λfv s3 ⟨z,H3,I3,rz,ov,g,q3⟩=>NG ?_))))
 exact Fn hu I3 g ry rz λw' s4 I4 RV=>⟨_,H3,I4,RV,q3⟩
end
section
variable {X:Cx} {pins:List (Addr×Obj)} {σ:St} {H:Hp} {s:Shared} {a:Addr} {kvs:List (j6×V)} {A:Around} {E:Value->Shared->Prop}
def Ai {Q:Value->Shared->Prop}(I:Inv X pins σ H s)(e:Rd H a (.dK kvs))(h:∀p s',H p=none->Inv X pins σ (upd H p (.dK kvs)) s'->Q (.ref p) s'):wpAny (model X.prog X.w) A (call (.type "dict") [.ref a]) Q E s:=by
 obtain⟨z,hd,vs,rel,dd⟩:=X3 I.hok e;refine kt_call_dict hd dd (by rw[←rel.length];exact z) λh' dd' hs=>?_;refine h _ _ (I.hok.fresh (Ke _)) (I.laid (a:=s.heap.objs.size) (o:= .dK kvs) (t':=s.toks) (λb q hq=>?_) (Ke _) (kZ z (MJ.mpr (Mc (KC I.big))) rel dd'));exact(hs.2 b (KC (Kv hq))).trans (Kn _ hq)
end
section
variable {X:Cx} {pins:List (Addr×Obj)} {σ:St} {H:Hp} {s:Shared} {a:Addr} {y:V} {u:Value} {A:Around} {E:Value->Shared->Prop}
end
end L2
namespace Att
open PySem PySem.W PySem.Calls PyProof.Rows
def jD {P:Params}{h:Heap}:∀(ns:List Int) (vs:List Value),WellAll P h vs (ns.map WData.int)->IntsAre vs ns:=by
 intro ns;induction ns with
 |nil=>
  intro vs w
  rw[MU] at w
  cases w
  exact .nil
 |cons n ns ih=>
  intro vs w
  rw[Lk] at w
  cases w with
  |cons a b=>
   cases a
   exact .cons _ _ (ih _ b)
def vR {l:OpenLaw}{n:Nat}(hn:l.most=some n){P:Params}{h:Heap}{args:List WData}{vals:List Value}
  (S':l.row.toRowW.claim.pre args=true) (VF:WellAll P h vals args):
  ∃a vs ns,vals=[Value.ref a]/\args=[WData.list (ns.map WData.int)]/\h.get? a=some {cls:= .type "list",data:= .seq vs.toArray}/\IntsAre vs ns/\ns.length<=n:=by
 have hsh:WShape.hasAll [] args [.list .int]=true:=(pre_splitW S').1
 have hc:l.pre.holds [] {args:=args}=true:=(pre_splitW S').2
 obtain⟨d,r,rfl,h1,h2⟩:=hasAllW_cons hsh
 obtain rfl:=hasAllW_nil h2
 obtain⟨xs,rfl,h3⟩:=hasW_list h1
 obtain⟨ns,rfl⟩:=items_int h3
 have hlen:ns.length<=n:=by
  unfold OpenLaw.pre at hc;have h4:(WTm.not (.lt (.lit (.int (n:Int))) (.len (.arg 0)))).holds [] {args:=[.list (ns.map .int)]}=true:=by
   have h4:=(holds_andW hc).1;rw[hn] at h4;exact h4
  have h5:=condW_of h4 (w_not (w_lt w_lit (w_len_list (w_arg rfl))));rw[Kb] at h5;refine Nat.le_of_not_lt λq=>?_;have q':(n:Int)<((ns.length:Nat):Int):=by lia
  first
   |(rw[KA q'] at h5;exact absurd h5 (by decide))
   |(simp at h5;lia)
 cases VF with
 |cons w1 w2=>
  cases w2
  cases w1 with
  |list ho o_=>exact⟨_,_,ns,rfl,rfl,ho,jD ns _ o_,hlen⟩
def xa (l:OpenLaw)(args:List WData):l.row.toRowW.claim.post args (.bool true) args=true:=
 postW_of (r:=l.row.toRowW) (X:=(true==true))
  (show WShape.has [] (.bool true) .bool=true by first|rfl|decide|simp [WShape.has,WShape.arms,WShape.armsAll])
  (show(WTm.eq .res (.lit (.bool true))).value [] {args:=args,res:=some (.bool true),after:=args}=some (.bool (true==true)) from w_eq_bool (w_res rfl) w_lit) rfl
def attach_call {l:OpenLaw}{n:Nat}{q:Program}{loose:List Str}{XP:(Str->Option Value)->Heap->Prop}{YP:World->Heap->Prop}{d:DefRec}
  (hn:l.most=some n) (VG:d.params.defaults=[])
  (call:∀(w:World) (s₀ s₁:Shared) (mg mb:Str->Option Value) (fa:Addr) (o:Obj) (pm cd doc:Value) (a:Addr) (vs:List Value) (ns:List Int),
   Ground q loose [] XP w s₀ mg mb s₁.heap->YP w s₁.heap->
   s₁.heap.get? fa=some o->o.data= .func (docDef d.name d.params d.body d.scope pm cd doc)->s₁.heap.CodeRec cd d.name->mg d.name=some (.ref fa)->
   s₁.heap.get? a=some {cls:= .type "list",data:= .seq vs.toArray}->IntsAre vs ns->ns.length<=n->s₁.gens= #[]->
   codeAny (model l.prog w) callerA (.call (.ref fa) ⟨[.ref a],[]⟩) (λr s'=>r= .ok (.ret (.bool true))/\OldK s₁.heap s'.heap/\s'.os=s₁.os/\AllBare s'.gens) s₁):
  WalkO q loose XP YP l.row.toRowW d [] (λf vs=>PySem.call f vs):=by
 intro w s₀ s₁ mg mb G Y fa o pm cd doc dV kV ho hd QV hD hmg hg args vals as S' hlay hrd VF hlo
 obtain rfl:dV= .none:=Dflts.none hD VG
 obtain rfl:kV= .none:=Dflts.noKw hD
 obtain⟨a,vs,ns,rfl,rfl,Uj,hints,hlen⟩:=vR hn S' VF
 refine enter_call (NK (call w s₀ s₁ mg mb fa o pm cd doc a vs ns G Y ho (fd_plain hd) QV hmg Uj hints hlen hg) λr s' hq=>?_)
 obtain⟨rfl,h2,h3,h4⟩:=hq
 exact⟨.inl ⟨.bool true,.bool true,[],rfl,λ_=>rfl,.bool true,xa l _,λ_=>⟨List.Pairwise.nil,λ_ hm=>(nomatch hm)⟩⟩,h2,h3,h4⟩
section
variable {prog:Program} {w:World} {A:Around} {E:Value->Shared->Prop} {s:Shared} {K:Frag}
end
end Att
namespace L2
open PySem PySem.Spec PyProof.Rows
theorem nG:∀{vs:List Value} {ns:List Int},IntsAre vs ns->Vals (ns.map V.int) vs
 |_,_,.nil=> .nil
 |_,_,.cons n t h=> .cons ⟨t,rfl⟩ (nG h)
def Fs (H:Hp):Prop:=∀b,H b=none\/∃o xs,H b=some (.frz o (.lst xs))
def yr {P:Program}{w:World}{K:Qc}{mg mb:Str->Option Value}{CX:qh}{k:Nat}{fa a:Addr}{fd:FuncData}{x:Str}{sp:Sp}{s₁:Shared}{vs:List Value}{ns:List Int}
  (KX:K.In s₁.heap) (hns:s₁.heap.Ns mainGlobals mg) (hb:s₁.heap.Ns builtinsNs mb) (VH:∀x:Str,x≠"__name__"->mb x=bootBuiltins x) (Yd:s₁.heap.NoLimit) (hg:s₁.gens= #[])
  (ha:s₁.heap.get? a=some {cls:= .type "list",data:= .seq vs.toArray}) (hi:IntsAre vs ns) (hl:ns.length<=sizeLine) (hr:Room k callerA)
  (F:∀base:Heap,K.In base->base.Ns mainGlobals mg->C5 P w K mg base CX k fa fd [x] sp) (VI:∀(s:Shared) (u:Value),BindsTo s fd ⟨[u],[]⟩ [(x,u)])
  (SE:∀H:Hp,Fs H->SqL K H a (ns.map V.int)->sp [.ref a] H (λv _=>v= .bl true) λ_ _ _=>False)
  (Ye:∀H e s',CX [] H s₁ (λ_ _ _=>False) e s'->False):
  codeAny (model P w) callerA (.call (.ref fa) ⟨[.ref a],[]⟩) (λr s'=>r= .ok (.ret (.bool true))/\OldK s₁.heap s'.heap/\s'.os=s₁.os/\AllBare s'.gens) s₁:=by
 have rv:=nG hi
 have Yf:=hi.length
 have core:∀H:Hp,Fs H->SqL K H a (ns.map V.int)->HOk P w H s₁.heap->(∀b,H b≠none->b=a)->(H a≠none->K.lookup a=none)->
   codeAny (model P w) callerA (.call (.ref fa) ⟨[.ref a],[]⟩) (λr s'=>r= .ok (.ret (.bool true))/\OldK s₁.heap s'.heap/\s'.os=s₁.os/\AllBare s'.gens) s₁:=by
  intro H hO hS hok hA hK
  have base_of:∀{b:Addr} {o:Obj},s₁.heap.get? b=some o->H b=none->(pC s₁.heap H).get? b=some o:=λe n=>yo e n
  have VC:∀{b:Addr} {o:Obj} {es:Array DictEntry} {ep:Nat},s₁.heap.get? b=some o->o.data= .dict es ep->H b=none:=fun{b o es ep} e d=>by
   cases q:H b with
   |none=>rfl
   |some u=>
    have e':b=a:=hA b (by rw[q];simp)
    subst e'
    rw[ha] at e;cases e
    have d':Data.seq vs.toArray _=Data.dict es ep:=d
    cases d'
  have Xd:∀{b:Addr} {m:Str->Option Value},s₁.heap.Ns b m->(pC s₁.heap H).Ns b m:=fun{b m} ⟨o,es,ep,e,d,r⟩=>⟨o,es,ep,base_of e (VC e d),d,r⟩
  have hKb:K.In (pC s₁.heap H):=λb o e=>base_of (KX b o e) (by
   cases q:H b with
   |none=>rfl
   |some u=>
    have e':b=a:=hA b (by rw[q];simp)
    subst e'
    rw[hK (by rw[q];simp)] at e;cases e)
  have hM:Mod K mg (pC s₁.heap H):=⟨hKb,Xd hns,⟨mb,Xd hb,VH⟩,let ⟨mc,h1,h2⟩:=Yd;⟨mc,Xd h1,h2⟩⟩
  have e0:BQ P w K mg (pC s₁.heap H) callerA [] s₁ H:=⟨rfl,hM,λb o e=>Bw e,Nat.le_of_eq (vU _ _),trivial,λb hb=>absurd (show b∈([]:List Addr) from hb) (by simp),hok,.of_eq hg⟩
  refine NK ((F _ hKb (Xd hns)).run callerA [] s₁ H ⟨[.ref a],[]⟩ [.ref a] [.ref a] _ _ hr e0 (VI s₁ (.ref a)) (.cons rfl .nil) (SE H hO hS)) λr s' h=>?_
  cases r with
  |error e=>exact(Ye H e s' h).elim
  |ok fl=>
   cases fl with
   |next=>exact False.elim h
   |brk=>exact False.elim h
   |cont=>exact False.elim h
   |ret u=>
    obtain⟨v,H',os,bare,un,Yg,r',q⟩:=h
    have q':v= .bl true:=q
    subst q'
    obtain rfl:u=Value.bool true:=r'
    refine⟨rfl,OldK.of_keep λb o e=>?_,os,bare⟩
    cases q:H b with
    |none=>exact un.keep b o e q (by intro z;exact absurd (show b∈([]:List Addr) from z) (by simp)) (by simp)
    |some u=>
     rcases hO b with z|⟨ob,xs,z⟩
     .rw[q] at z;cases z
     .have z2:=un.frzs b ob _ z
      obtain⟨e1,_⟩:=hok b _ z
      obtain⟨e2,_⟩:=Yg b _ z2
      rw[e] at e1;cases e1
      exact e2
 cases hk:K.lookup a with
 |some o=>
  have e:=KX a o hk
  rw[ha] at e
  cases e
  refine core (λ_=>none) (λ_=> .inl rfl) (.inr ⟨_,vs.toArray,_,hk,rfl,rfl,rfl,by rw[KH,Yf];exact hl,by simpa using rv⟩) (λb u z=>by have z':(none:Option HO)=some u:=z;cases z') (λb z=>absurd rfl z) λz=>absurd rfl z
 |none=>
  refine core (λb=>if b=a then some (.frz {cls:= .type "list",data:= .seq vs.toArray} (.lst (ns.map V.int))) else none) (λb=>?_) (.inl (.inr ⟨{cls:= .type "list",data:= .seq vs.toArray},if_pos rfl⟩)) (λb u z=>?_) (λb z=>?_) λ_=>hk
  .by_cases hb:b=a
   .exact .inr ⟨_,_,if_pos hb⟩
   .exact .inl (if_neg hb)
  .by_cases hb:b=a
   .have z':=(if_pos hb).symm.trans z
    cases z'
    subst hb
    exact⟨ha,by rw[Kb];exact hl,vs,_,rv,ha⟩
   .have z':=(if_neg hb).symm.trans z
    cases z'
  .by_cases hb:b=a
   .exact hb
   .exact absurd (if_neg hb) z
def walk_of {l:PySem.W.OpenLaw}{n k:Nat}{q:Program}{loose:List Str}{XP:(Str->Option Value)->Heap->Prop}{YP:World->Heap->Prop}{d:DefRec}{K:Params->Qc}{CX:World->qh}{sp:World->Sp}{x:Str}
  (hn:l.most=some n) (hn2:n<=sizeLine) (VG:d.params.defaults=[]) (hr:Room k callerA)
  (hY:∀(w:World) (h:Heap),YP w h->(K w.params).In h)
  (F:∀(w:World) (mg:Str->Option Value) (fa:Addr) (h:Heap),(K w.params).In h->h.Ns mainGlobals mg->mg d.name=some (.ref fa)->
   ∃fd:FuncData,(∀(s:Shared) (u:Value),BindsTo s fd ⟨[u],[]⟩ [(x,u)])/\
    ∀base:Heap,(K w.params).In base->base.Ns mainGlobals mg->C5 l.prog w (K w.params) mg base (CX w) k fa fd [x] (sp w))
  (SE:∀(w:World) (H:Hp) (a:Addr) (ns:List Int),ns.length<=n->Fs H->SqL (K w.params) H a (ns.map V.int)->sp w [.ref a] H (λv _=>v= .bl true) λ_ _ _=>False)
  (Ye:∀(w:World) (H:Hp) (s:Shared) (e:Value) (s':Shared),CX w [] H s (λ_ _ _=>False) e s'->False):
  PySem.W.WalkO q loose XP YP l.row.toRowW d [] (λf vs=>PySem.call f vs):=by
 refine Att.attach_call hn VG λw s₀ s₁ mg mb fa o pm cd doc a vs ns G Y ho hd QV hmg Uj hints hlen hg=>?_
 have KX:=hY w _ Y
 obtain⟨fd,hb,hF⟩:=F w mg fa _ KX G.T.g hmg
 exact yr KX G.T.g G.T.b G.T.builtins G.T.nolimit hg Uj hints (Kw hlen hn2) hr hF hb (λH hO hS=>SE w H a ns hlen hO hS) λH e s'=>Ye w H s₁ e s'
def aU (s:Stmt):Arguments:=match s with
 | .FunctionDef _ a _ _ _ _ _ _ _ _=>a
 |_=>{posonlyargs:=[],args:=[],vararg:=none,kwonlyargs:=[],kw_defaults:=[],kwarg:=none,defaults:=[]}
def Z0 (s:Stmt):List Stmt:=match s with
 | .FunctionDef _ _ b _ _ _ _ _ _ _=>b
 |_=>[]
def i9 (s:Stmt):Scope:=match s with
 | .FunctionDef _ _ _ _ _ _ sc _ _ _=>sc
 |_=>{kind:= .function,names:=[],isGenerator:=false,isCoroutine:=false}
abbrev F0:qh:=λ_ _ _ _ _ _=>False
abbrev E0:XK:=λ_ _ _=>False
def k8 {X:Cx}:dE F0 X E0:=λ_ _ _ _ _ _ _ h=>h.elim
structure Fun (K:Qc) (x qual:Str) (st:Stmt) (f:Addr) (fd:FuncData):Prop where
 ex:∃(oc:Value) (od:Option Addr) (kV doc pm:Value) (an:Option Addr) (c_ ct:Value) (Rb:Array (Option Value)),
  fd=PySem.W.fnOf x qual (aU st) (Z0 st) (i9 st) .none kV doc pm an c_ ct/\K.lookup f=some ⟨oc,od,.func fd,Rb⟩/\PySem.W.codeIn K c_ qual=true
 kp:PySem.W.keepIn K (.ref f)=true
section
variable {P:Program} {w:World} {K:Qc} {mg:Str->Option Value} {base:Heap}
def Fun.ok {x qual:Str}{st:Stmt}{f:Addr}{fd:FuncData}{N ps:List Str}{k:Nat}{sp:Sp}(F:Fun K x qual st f fd)(S:j7 N ps (i9 st))(len:∀vs H Q E,sp vs H Q E->vs.length=ps.length)
  (Pl:∀(c_:Value) (A:Around) (outer:List Env) (s:Shared) (H:Hp) (vs:List V) (Q:VK) (E:XK),Room k (A.deeper (envOfC qual (i9 st) s.heap.objs.size f c_))->sp vs H Q E->
   ∃t,PSs (kB F0 P w K mg base N qual (i9 st) f c_ A outer s H E).nox (Z0 st) t/\t {nx:=λ_ H'=>Q .non H',rt:=Q} (gy N vs) H):C5 P w K mg base F0 (k+1) f fd ps sp:=by
 obtain⟨oc,od,kV,doc,pm,an,c_,ct,Rb,rfl,lk,QV⟩:=F.ex
 refine CW lk QV S len λA outer s H vs Q E hr SE=>?_
 obtain⟨t,h,q⟩:=Pl c_ A outer s H vs Q E hr SE
 exact⟨t,h.nox,q⟩
def Fun.binds {x qual:Str}{st:Stmt}{f:Addr}{fd:FuncData}{ps:List Str}(F:Fun K x qual st f fd)
  (h:∀(kV doc pm:Value) (an:Option Addr) (c_ ct:Value) (us:List Value),us.length=ps.length->bindArgs (PySem.W.fnOf x qual (aU st) (Z0 st) (i9 st) .none kV doc pm an c_ ct) ⟨us,[]⟩=pure (ps.zip us)):Binds K fd ps []:=by
 obtain⟨oc,od,kV,doc,pm,an,c_,ct,Rb,rfl,lk,QV⟩:=F.ex
 exact .all (h kV doc pm an c_ ct)
def Et {x qual:Str}{st:Stmt}{f:Addr}{oc:Value}{od an:Option Addr}{Rb:Array (Option Value)}{kV doc pm c_ ct:Value}(l:K.lookup f=some ⟨oc,od,.func (PySem.W.fnOf x qual (aU st) (Z0 st) (i9 st) .none kV doc pm an c_ ct),Rb⟩)
  (c:PySem.W.codeIn K c_ qual=true) (k:PySem.W.keepIn K (.ref f)=true):Fun K x qual st f (PySem.W.fnOf x qual (aU st) (Z0 st) (i9 st) .none kV doc pm an c_ ct):=⟨⟨oc,od,kV,doc,pm,an,c_,ct,Rb,rfl,l,c⟩,k⟩
end
def Y9 {n:Nat}(h:n<=1000):n<sizeLine:=Oe h (by decide)
section
variable {X:Cx}
end
def IU {A B:Prop}(h:B):if false=true then A else B:=by
 rw[if_neg Lc];exact h
def IT {A B:Prop}(h:A):if true=true then A else B:=by
 rw[if_pos rfl];exact h
def Same (H H':Hp):Prop:=∀b o,H b=some o->H' b=some o
def Same.refl (H:Hp):Same H H:=λ_ _ h=>h
def Same.trans {H H1 H2:Hp}(a:Same H H1)(b:Same H1 H2):Same H H2:=λc o h=>b c o (a c o h)
def Same.free {H H':Hp}(e:Same H H'){l:Addr}(h:H' l=Option.none):H l=Option.none:=by
 cases q:H l with
 |none=>rfl
 |some o=>
  rw[e l o q] at h
  cases h
def Same.seq {K:Qc}{H H':Hp}{a:Addr}{xs:List V}(e:Same H H')(h:SqL K H a xs):SqL K H' a xs:=by
 rcases h with(h|⟨o,h⟩)|h
 .exact .inl (.inl (e _ _ h))
 .exact .inl (.inr ⟨o,e _ _ h⟩)
 .exact .inr h
section
variable {κ:Type} [DecidableEq κ]
def yC {kvs:List (κ×V)}{k:κ}(h:A4 kvs k=none):¬k∈kvs.map (·.1):=by
 intro m;obtain⟨p,hp,e⟩:=Kd.mp m;have q:(kvs.any λkv=>decide (kv.1=k))=true:=LQ.mpr ⟨p,hp,KA e⟩;rw[R0,h] at q;exact absurd q (by simp)
def vJ {kvs:List (κ×V)}{k:κ}{v:V}(h:A4 kvs k=some v):k∈kvs.map (·.1):=by
 have q:(kvs.any λkv=>decide (kv.1=k))=true:=by
  rw[R0,h];all_goals rfl
 obtain⟨p,hp,e⟩:=LQ.mp q;exact Kd.mpr ⟨p,hp,Ly e⟩
theorem E3:∀{l:List κ} {k:κ},l.Nodup->¬k∈l->(l++[k]).Nodup
 |[],k,_,_=>by simp
 |a::r,k,h,hk=>by
  obtain⟨h1,h2⟩:=LA.mp h;show(a::(r++[k])).Nodup;refine LA.mpr ⟨λm=>?_,E3 h2 λm=>hk (Lh.mpr (Or.inr m))⟩;rcases Kg.mp m with q|q
  .exact h1 q
  .exact hk (Lh.mpr (Or.inl (Kq.mp q).symm))
def Bb {kvs:List (κ×V)}{k:κ}(v:V)(hn:(kvs.map (·.1)).Nodup)(h:A4 kvs k=none):((E9 kvs k v).map (·.1)).Nodup:=by
 rw[Q0 v h,Ki];exact E3 hn (yC h)
end
end L2
set_option maxHeartbeats 4000000
namespace L2
open PySem PySem.Spec PyProof.Rows
def jF (scope:Scope)(env:Env):List (Str×Addr):=(scope.names.filter λx=>x.2== .free).reverse.map λx=>(x.1,(env.cells.lookup x.1).getD 0)
theorem cS {env:Env}:∀(l:List (Str×NameKind)) (cs:List (Str×Addr)),(∀x∈l,x.2= .free->∃c,env.cells.lookup x.1=some c)->
  (forIn l cs fun(x:Str×NameKind) (r:List (Str×Addr))=>if(x.2==NameKind.free)=true then(do let a←cellOf env x.1;pure (ForInStep.yield ((x.1,a)::r))) else(pure (ForInStep.yield r):Sem (ForInStep (List (Str×Addr)))))=
   pure (((l.filter λx=>x.2== .free).reverse.map λx=>(x.1,(env.cells.lookup x.1).getD 0))++cs)
 |[],cs,_=>rfl
 |(n,k)::l,cs,h=>by
  rw[Nx];by_cases hk:k= .free
  .subst hk;obtain⟨c,hc⟩:=h (n,.free) Kz rfl;simp only[OH,Oy];have Rm:env.cells.lookup n=some c:=hc;have e0:cellOf env n=pure c:=by unfold cellOf;rw[Rm]
   simp only[e0,pure_bind];rw[cS l _ λx hx=>h x (KL _ hx)];rw[Mj,if_pos (by rfl),List.reverse_cons,Ki,La];simp only[Lk,MU,Rm,Ni,MN,Pf]
  .have hb:(k==NameKind.free)=false:=by simpa using hk
   simp only[hb,Ny,Pp,pure_bind];rw[cS l cs λx hx=>h x (KL _ hx)];rw[Mj,if_neg (by simp [hb])]
def ma {scope:Scope}{env:Env}(h:∀x∈scope.names,x.2= .free->∃c,env.cells.lookup x.1=some c):closureFor scope env=pure (jF scope env):=by
 have e:=cS (env:=env) scope.names [] h;rw[Lb] at e;unfold closureFor jF;simp only[];refine Eq.trans ?_ (LK (λm=>m>>=λr=>(pure r:Sem (List (Str×Addr)))) e);rfl
theorem ak {env:Env}{x:Str}:∀(l:List (Str×NameKind)),(∀y∈l,∃c,env.cells.lookup y.1=some c)->(x∈l.map (·.1)->(l.map λy=>(y.1,(env.cells.lookup y.1).getD 0)).lookup x=env.cells.lookup x)/\(x∉l.map (·.1)->(l.map λy=>(y.1,(env.cells.lookup y.1).getD 0)).lookup x=none)
 |[],_=>⟨λh=>by simp at h,λ_=>rfl⟩
 |(n,k)::l,h=>by
  have ih:=ak (x:=x) l λy hy=>h y (KL _ hy);obtain⟨c,hc⟩:=h (n,k) Kz;have Rm:env.cells.lookup n=some c:=hc;by_cases e:x=n
  .subst e;refine⟨λ_=>?_,λz=>absurd (by simp) z⟩;simp [LS,Rm]
  .have eb:(x==n)=false:=by simpa using e
   refine⟨λhm=>?_,λhm=>?_⟩
   .simp only[Lk,LS,eb];exact ih.1 (by simpa [e] using hm)
   .simp only[Lk,LS,eb];exact ih.2 (λz=>hm (by simp [z]))
def aN {scope:Scope}{env:Env}(h:∀x∈scope.names,x.2= .free->∃c,env.cells.lookup x.1=some c){x:Str}{c:Addr}(e:(jF scope env).lookup x=some c):env.cells.lookup x=some c:=by
 have hl:∀y∈(scope.names.filter λx=>x.2== .free).reverse,∃c,env.cells.lookup y.1=some c:=λy hy=>by
  obtain⟨h1,h2⟩:=Kp.mp (OI.mp hy);exact h y h1 (by simpa using h2)
 have a:=ak (x:=x) _ hl;by_cases hm:x∈(scope.names.filter λx=>x.2== .free).reverse.map (·.1)
 .rw[←a.1 hm];exact e
 .have z:=a.2 hm;unfold jF at e;rw[z] at e;cases e
def qS {scope:Scope}{env:Env}(h:∀x∈scope.names,x.2= .free->∃c,env.cells.lookup x.1=some c){x:Str}(hx:(x,NameKind.free)∈scope.names):(jF scope env).lookup x=env.cells.lookup x:=by
 have hl:∀y∈(scope.names.filter λx=>x.2== .free).reverse,∃c,env.cells.lookup y.1=some c:=λy hy=>by
  obtain⟨h1,h2⟩:=Kp.mp (OI.mp hy);exact h y h1 (by simpa using h2)
 exact(ak (x:=x) _ hl).1 (Kd.mpr ⟨(x,.free),OI.mpr (Kp.mpr ⟨hx,rfl⟩),rfl⟩)
def pJ {scope:Scope}{env:Env}(hc:∀y∈scope.names,y.2≠ .cell){x:Str}(h:(relabel scope env).names.lookup x=some .cell\/(relabel scope env).names.lookup x=some .free):(x,NameKind.free)∈scope.names:=by
 have key:∀(l:List (Str×NameKind)),(∀y∈l,y.2≠ .cell)->∀k,(k=NameKind.cell\/k=NameKind.free)->(l.map fun(n,k)=>if(k==NameKind.free&&env.scope.kind== .function&&env.kindOf n==some .cell) then(n,NameKind.cell) else(n,k)).lookup x=some k->(x,NameKind.free)∈l:=by
  intro l;induction l with
  |nil=>intro _ k _ e;simp at e
  |cons y r ih=>
   obtain⟨n,k0⟩:=y
   intro hl k hk e
   have ih':=ih (λy hy=>hl y (KL _ hy)) k hk
   rw[Lk] at e
   have Yh:k0≠ .cell:=hl (n,k0) Kz
   dsimp only at e
   by_cases hcnd:(k0==NameKind.free&&env.scope.kind== .function&&env.kindOf n==some .cell)=true
   .rw[if_pos hcnd] at e
    cases hx:x==n with
    |true=>
     have:x=n:=by simpa using hx
     subst this
     have:k0= .free:=by
      simp only[KO,SQ] at hcnd;exact hcnd.1.1
     subst this
     exact Kz
    |false=>
     simp only[LS,hx] at e
     exact KL _ (ih' e)
   .rw[if_neg hcnd] at e
    cases hx:x==n with
    |true=>
     have:x=n:=by simpa using hx
     subst this
     simp only[LS,hx] at e
     have e':k0=k:=KG e
     subst e'
     rcases hk with z|z
     .exact absurd z Yh
     .subst z;exact Kz
    |false=>
     simp only[LS,hx] at e
     exact KL _ (ih' e)
 rcases h with h|h
 .exact key _ hc _ (.inl rfl) h
 .exact key _ hc _ (.inr rfl) h
def eo (X:Cx)(own:List Str)(js:List Nat)(scope:Scope)(C:Addr)(s:Shared)(H:Hp)(fp:List Addr):Cx:=
 {X with N:=own++js.map (λj=>X.N.getD j Str.empty),s₀:=s,H₀:=H,env:=compEnvC scope (jF scope X.env) C X.env,outer:=X.stack,stack:=X.stack,ex:=fp,fn:=λ_=>false,pn:=[],xe:=λ_ _=>False}
def AG (own:List Str)(js:List Nat)(σ:St):St:=own.map (λ_=>none)++js.map (λj=>(σ[j]?).join)
def FG (X:Cx)(own:List Str)(js:List Nat)(scope:Scope):Bool:=
 (scope.kind== .function)&&(scope.names.all λx=>x.2 != .cell)&&(scope.names.all λx=>x.2 != .local||scope.names.lookup x.1==some .local)&&
 (scope.names.all λx=>x.2 != .free||(X.env.kindOf x.1==some .cell||X.env.kindOf x.1==some .free))&&
 (js.all λj=>decide (j<X.N.length)&&scope.names.any (λy=>y.1==X.N.getD j Str.empty&&y.2== .free))&&
 (scope.names.all λx=>x.2 != .free||scope.names.lookup x.1 !=some .local)
def vC {own:List Str}{js:List Nat}{σ:St}{X:Cx}{scope:Scope}{C:Addr}{s:Shared}{H:Hp}{fp:List Addr}:(AG own js σ).length=(eo X own js scope C s H fp).N.length:=by grind [AG,eo]
section
variable {X:Cx} {pins:List (Addr×Obj)} {σ:St} {H:Hp} {s:Shared} {own:List Str} {js:List Nat} {scope:Scope} {fp:List Addr} {C D:Addr} {h1:Heap}
structure ScB (X:Cx) (own:List Str) (js:List Nat) (scope:Scope):Prop where
 kind:scope.kind= .function
 nocell:∀y∈scope.names,y.2≠ .cell
 names:∀x∈scope.names,x.2= .local->scope.names.lookup x.1=some .local
 free:∀x∈scope.names,x.2= .free->X.env.kindOf x.1=some .cell\/X.env.kindOf x.1=some .free
 js:∀j∈js,j<X.N.length/\(X.N.getD j Str.empty,NameKind.free)∈scope.names
 one:∀x,(x,NameKind.free)∈scope.names->scope.names.lookup x≠some .local
def yO (h:FG X own js scope=true):ScB X own js scope:=by
 unfold FG at h;simp only[KO,KZ,Pg,bne_iff_ne,SQ,KJ,LQ] at h;obtain⟨⟨⟨⟨⟨h1,h2⟩,h3⟩,h4⟩,h5⟩,h6⟩:=h;refine⟨h1,h2,λx hx e=>?_,λx hx e=>?_,λj hj=>?_,λx hx=>?_⟩
 .rcases h3 x hx with z|z
  .exact absurd e z
  .exact z
 .rcases h4 x hx with z|z
  .exact absurd e z
  .exact z
 .obtain⟨a,y,hy,e1,e2⟩:=h5 j hj;refine⟨a,?_⟩;obtain⟨n,k⟩:=y;simp only at e1 e2;rw[←e1,←e2];exact hy
 .rcases h6 _ hx with z|z
  .exact absurd rfl z
  .exact z
def ScB.cells (S:ScB X own js scope)(I:Inv X pins σ H s):∀x∈scope.names,x.2= .free->∃c,X.env.cells.lookup x.1=some c:=λx hx e=>I.ok.has x.1 (S.free x hx e)
def Inv.block (S:ScB X own js scope)(I:Inv X pins σ H s)(hf:∀b∈fp,fZ X pins H b)(Qm:∀b∈fp,∃o,s.heap.get? b=some o)(hC:s.heap.objs.size<=C){m:Str->Option Value}{t':Nat}(hn:h1.Ns C m)(k:∀b u,s.heap.get? b=some u->h1.get? b=some u):
  Inv (eo X own js scope C s H fp) (X.pn++pins) (AG own js σ) H {s with heap:=h1,toks:=t'}:=by
 have I_:=S.cells I
 have below:∀b o,s.heap.get? b=some o->b≠C:=λb o e=>KC (Kx (Kv e) hC)
 have stk:∀b,b≠X.env.locals->b∉X.fs->b∉bS X.stack:=λb h1 h2 z=>by
  rcases Lh.mp (I.stkSub b z) with e|e
  .exact h1 e
  .exact h2 e
 have noex:∀b o,X.base.get? b=some o->b∉fp:=λb o e z=>by
  rcases(hf b z).2.2.2.1 with q|q
  .exact I.ok.noex b o e q
  .exact absurd (Kx (Kv e) (Kw I.ok.bsz q)) (LN _)
 refine⟨⟨I.ok.mod,S.kind,I.ok.glob,I.ok.blt,hC,λx y c e1 e2=>?_,λx hx=>?_,λx c z _=>(Lc z).elim,I.ok.hd,I.ok.frames,.inl rfl,λb hb=>⟨?_,λx c e=>?_⟩,I.bs,Kw I.ok.bsz I.sz,noex,λb hb=>?_,I.stack,I.stkFree⟩,
  rfl,I.bare,Un.kept k,⟨m,hn,λi x v e1 e2 e3=>?_⟩,λx c e=>?_,?_,λx c e=>?_,λp hp=>?_,I.hok.kept k,vC⟩
 .exact I.ok.inj x y c (aN I_ e1) (aN I_ e2)
 .have hm:=pJ S.nocell (x:=x) (env:=X.env) hx
  obtain⟨c,e⟩:=I_ (x,.free) hm rfl
  exact⟨c,(qS I_ hm).trans e⟩
 .obtain⟨o,e⟩:=Qm b hb;exact below b o e
 .exact(hf b hb).2.2.2.2.1 x c (aN I_ e)
 .exact stk b (hf b hb).2.1 (hf b hb).2.2.1
 .have Uk:(own++js.map (λj=>X.N.getD j Str.empty))[i]?=some x:=e1
  unfold AG at e2
  by_cases hi:i<own.length
  .rw[Lm (by simpa using hi),Kh] at e2
   rw[Kc hi] at e2
   simp at e2
  .rw[Lx (by simpa using hi),Kh] at e2
   rw[Lx (by simpa using hi),Kh] at Uk
   have el:(own.map λ_=>(none:Option V)).length=own.length:=by simp
   rw[el] at e2
   cases hj:js[i -own.length]? with
   |none=>rw[hj] at Uk;simp at Uk
   |some j=>
    rw[hj] at Uk e2
    simp only[Nw,Option.some.injEq] at Uk e2
    have hjm:j∈js:=Kr hj
    obtain⟨n_,Ro⟩:=S.js j hjm
    have hNj:X.N[j]?=some x:=by
     rw[←Uk,KY,Kc n_];simp
    have hσ:σ[j]?=some (some v):=by
     cases q:σ[j]? with
     |none=>rw[q] at e2;simp at e2
     |some w=>rw[q] at e2;simp at e2;rw[e2]
    rw[Uk] at Ro
    obtain⟨m0,hn0,VJ⟩:=I.loc
    have hkx:X.env.kindOf x=some .cell\/X.env.kindOf x=some .free:=S.free (x,.free) Ro rfl
    obtain⟨u,r,l⟩:=VJ j x v hNj hσ (by rcases hkx with z|z;exact .inr (.inl z);exact .inr (.inr z))
    refine⟨u,r,?_⟩
    rcases l with⟨z,_⟩|⟨_,c,hc,QY⟩
    .rcases hkx with q|q
     .rw[q] at z;cases z
     .rw[q] at z;cases z
    .have Rm:(jF scope X.env).lookup x=some c:=(qS I_ Ro).trans hc
     obtain⟨oc,Ud,Ue⟩:=QY
     refine .inr ⟨?_,c,Rm,⟨oc,k _ _ Ud,Ue⟩⟩
     rcases e3 with z|z|z
     .exfalso
      have S_:(relabel scope X.env).names.lookup x=some .local:=z
      exact absurd S_ (by
       intro hh;have key:∀l:List (Str×NameKind),(∀y∈l,y.2= .local->scope.names.lookup y.1=some .local)->(l.map fun(n,k)=>if(k==NameKind.free&&X.env.scope.kind== .function&&X.env.kindOf n==some .cell) then(n,NameKind.cell) else(n,k)).lookup x=some .local->scope.names.lookup x=some .local:=by
        intro l;induction l with
        |nil=>intro _ e;simp at e
        |cons y r ih=>
         obtain⟨n,k0⟩:=y
         intro hl e
         rw[Lk] at e
         dsimp only at e
         by_cases hcnd:(k0==NameKind.free&&X.env.scope.kind== .function&&X.env.kindOf n==some .cell)=true
         .rw[if_pos hcnd] at e
          cases hx:x==n with
          |true=>simp only[LS,hx] at e;cases e
          |false=>simp only[LS,hx] at e;exact ih (λy hy=>hl y (KL _ hy)) e
         .rw[if_neg hcnd] at e
          cases hx:x==n with
          |true=>
           simp only[LS,hx] at e
           have e':k0= .local:=KG e
           have:x=n:=by simpa using hx
           subst this
           exact hl (x,k0) Kz e'
          |false=>simp only[LS,hx] at e;exact ih (λy hy=>hl y (KL _ hy)) e
       have a:=key scope.names S.names hh;exact S.one x Ro a)
     .exact .inl z
     .exact .inr z
 .obtain⟨v,o,ho,hd⟩:=I.cell x c (aN I_ e)
  exact⟨v,o,k _ _ ho,hd⟩
 .exact I.hok.fresh hC
 .exact I.freeC x c (aN I_ e)
 .obtain⟨e,n,ne,nf,d⟩:=I.pin p hp
  exact⟨k _ _ e,n,below _ _ e,stk _ ne nf,d⟩
end
def HOk.track {P:Program}{w:World}{H:Hp}{h h':Heap}{a C:Addr}{o:HO}(x:HOk P w H h)(hC:H C=none)(k:∀b,b≠C->h'.get? b=h.get? b)(hn:H a=none)(new:ObjOk P w (upd H a o) h' a o):HOk P w (upd H a o) h':=λb u e=>by
 by_cases hb:b=a
 .subst hb;rw[d6] at e;cases e;exact new
 .rw[b9 hb] at e;refine(x b u e).stay (λc v hc q=>?_) (λc q=>by rw[b9 (d9 q hn)];exact q) λc xs q=>by rw[b9 (d9 q hn)];exact q
  have hcC:c≠C:=by
   rcases hc with z|z
   .subst z;exact d9 e hC
   .exact d9 z hC
  rw[k c hcC];exact q
abbrev yB (ifs:List Expr)(env:Env):Sem Bool:=forIn ifs true λc r=>if r=true then do let ok←isTrue c env (eval c env);pure (ForInStep.yield ok) else pure (ForInStep.yield r)
def tU (X:Cx)(ifs:List Expr)(t:TT):Prop:=
 ∀(pins:List (Addr×Obj)) (s:Shared) (σ:St) (H:Hp) (Q:Bool->Hp->Prop),Inv X pins σ H s->t σ H Q->wpAny (model X.prog X.w) X.A (yB ifs X.env) (TP X pins σ Q) X.xe s
def Jc {X:Cx}:tU X [] (λ_ H Q=>Q true H):=λpins s σ H Q I h=>wpAny_tests_nil ⟨H,I,h⟩
def Iq {X:Cx}{c:Expr}{t:TT}(h:PT X c t):tU X [c] t:=λpins s σ H Q I hq=>wpAny_tests_one (h pins s σ H Q I hq)
section
variable {X:Cx} {pins:List (Addr×Obj)} {σ:St} {H:Hp} {s:Shared} {own:List Str} {js:List Nat} {scope:Scope}
variable {tg iter elt:Expr} {ifs:List Expr} {pos:Pos} {g:TG} {ti:TT} {te:TE}
structure BlockEnd (X:Cx) (pins:List (Addr×Obj)) (own:List Str) (js:List Nat) (scope:Scope) (σ:St) (H:Hp) (s:Shared) (fp:List Addr) (C D:Addr) (out:List V) (H':Hp) (s':Shared):Prop where
 inv:Inv (eo X own js scope C s H fp) (X.pn++pins) (AG own js σ) H' s'
 free:H' D=none
 obj:∃(a_:List Value) (n:Nat),Vals out a_/\s'.heap.get? D=some {cls:= .type "list",data:= .seq a_.toArray n}
def BlockEnd.out {fp:List Addr}{C D:Addr}{out:List V}{H':Hp}{s':Shared}{h':Heap}(e:BlockEnd X pins own js scope σ H s fp C D out H' s')(I:Inv X pins σ H s)(hf:∀b∈fp,fZ X pins H b)(hD:s.heap.objs.size<=D)(hC:s.heap.objs.size<=C)(Rp:D≠C)
  (hl:out.length<=sizeLine) (sb:Heap.SameBut C s'.heap h'):Inv X pins σ (upd H' D (.lst out)) {s' with heap:=h'}:=by
 obtain⟨a_,n,rv,ob⟩:=e.obj
 have J:=e.inv
 have U:Un (bS X.stack) fp H H' s.heap s'.heap:=J.base
 have same:∀b,b≠C->h'.get? b=s'.heap.get? b:=λb hb=>sb.2 b hb
 have old:∀b o,s.heap.get? b=some o->b≠C/\b≠D:=λb o q=>⟨KC (Kx (Kv q) hC),KC (Kx (Kv q) hD)⟩
 have Yi:H' C=none:=J.free
 refine I.call' (s':={s' with heap:=h'}) (ch:=fp) J.os ?_ ?_ J.bare λb hb=>?_
 .refine⟨λb o q n hb hx=>?_,λb o q n hb hx=>?_,λb o q n hx=>?_,λb o q hx=>?_,λb xs q=>?_,λb o u q=>?_,λb ps q=>?_⟩
  .show h'.get? b=_
   rw[same b (old b o q).1];exact U.keep b o q n hb hx
  .show ∃sl,h'.get? b=_
   rw[same b (old b o q).1];exact U.slot b o q n hb hx
  .rw[b9 (old b o q).2];exact U.free b o q n hx
  .show ∃o',h'.get? b=_
   rw[same b (old b o q).1];exact U.there b o q hx
  .rw[b9 (d9 (U.tups b xs q) e.free)];exact U.tups b xs q
  .rw[b9 (d9 (U.frzs b o u q) e.free)];exact U.frzs b o u q
  .obtain⟨mo,z⟩:=U.tbls b ps q
   exact⟨mo,by rw[b9 (d9 z e.free)];exact z⟩
 .refine HOk.track J.hok Yi same e.free ?_
  exact⟨hl,a_,n,rv,by rw[same D Rp];exact ob⟩
 .exact⟨(hf b hb).2.2.2.1,(hf b hb).2.1,(hf b hb).2.2.2.2.1,(hf b hb).2.2.2.2.2⟩
def nS (S:ScB X own js scope)(hc:X.calm=true){fp:List Addr}{it C D:Addr}{tn:Nat->Heap->Prop}{J:It}(T:iM X.prog X.w X.K tg J fp it tn)(I:Inv X pins σ H s)(hf:∀b∈fp,fZ X pins H b)
  (hD:s.heap.objs.size<=D) (hC:s.heap.objs.size<=C) (Rp:D≠C) (Qm:∀b∈fp,∃o,s.heap.get? b=some o)
  (hg:PG (eo X own js scope C s H fp) tg g) (hi:tU (eo X own js scope C s H fp) ifs ti) (he:PE (eo X own js scope C s H fp) elt te)
  (W:Nat->Nat->List V->Hp->Prop) {K:List V->Hp->Prop}
  (turn:∀i m out H,W i m out H->(J.stop i H/\(H D=none->out.length<=sizeLine/\K out H))\/
   (J.go i H/\∀x H',J.yld i H x H'->g x (AG own js σ) H' λσ2 H2=>σ2.drop own.length=js.map (λj=>(σ[j]?).join)/\ti σ2 H2 λb H3=>
    if b=true then te σ2 H3 λv H4=>out.length<=sizeLine/\∃m',m'<m/\W (i+1) m' (out++[v]) H4 else ∃m',m'<m/\W (i+1) m' out H3))
  {R:Result->Shared->Prop} (hR:∀out H' s',BlockEnd X pins own js scope σ H s fp C D out H' s'->out.length<=sizeLine->K out H'->R (.ok .next) s')
  {m0:Nat} {H1:Hp} {s1:Shared} (w0:W 0 m0 [] H1) (B:BlockEnd X pins own js scope σ H s fp C D [] H1 s1) (st:tn 0 s1.heap) (fr:∀b∈fp,H1 b=none):
  codeAny (model X.prog X.w) X.A (.compLoop (.ListComp elt [⟨tg,iter,ifs,0⟩] scope pos) 0 (.ref it) (.ref D) (compEnvC scope (jF scope X.env) C X.env)) R s1:=by
 have RY:∀{H':Hp},(∀b∈fp,H' b=none)->∀b∈fp,fZ (eo X own js scope C s H fp) (X.pn++pins) H' b:=λhn b hb=>by
  obtain⟨o,ho⟩:=Qm b hb;refine⟨hn b hb,KC (Kx (Kv ho) hC),?_,.inl hb,λx c e=>(hf b hb).2.2.2.2.1 x c (aN (S.cells I) e),λp hp=>(hf b hb).2.2.2.2.2 p hp⟩;intro z;rcases Lh.mp (I.stkSub b z) with e|e
  .exact(hf b hb).2.1 e
  .exact(hf b hb).2.2.1 e
 have Dfp:D∉fp:=λz=>by
  obtain⟨o,ho⟩:=Qm D z;exact absurd (Kx (Kv ho) hD) (LN _)
 have VL:∀x c,(eo X own js scope C s H fp).env.cells.lookup x=some c->c≠D:=λx c e z=>by
  obtain⟨v,o,ho,_⟩:=I.cell x c (aN (S.cells I) e);rw[z] at ho;exact absurd (Kx (Kv ho) hD) (LN _)
 have Yj:∀p∈X.pn++pins,p.1≠D:=λp hp z=>by
  have ho:=(I.pin p hp).1;rw[z] at ho;exact absurd (Kx (Kv ho) hD) (LN _)
 have Dfs:D∉(eo X own js scope C s H fp).fs:=λz=>by
  obtain⟨_,o,ho,_⟩:=I.stack.mem z;exact absurd (Kx (Kv ho) hD) (LN _)
 refine codeAny_loop rfl (λn s'=>∃i out H',BlockEnd X pins own js scope σ H s fp C D out H' s'/\tn i s'.heap/\(∀b∈fp,H' b=none)/\W i n out H') (λn s3 hI=>?_) m0 ⟨0,[],H1,B,st,fr,w0⟩
 obtain⟨i,out,H3,B3,VM,VN,w3⟩:=hI
 obtain⟨a_,nD,rv,obD⟩:=B3.obj
 have VO:∀{σ':St} {H':Hp} {s':Shared},Inv (eo X own js scope C s H fp) (X.pn++pins) σ' H' s'->H' D=none->s'.heap.get? D=some {cls:= .type "list",data:= .seq a_.toArray nD}->
   Inv (eo X own js scope C s H fp) (X.pn++pins++[(D,{cls:= .type "list",data:= .seq a_.toArray nD})]) σ' H' s':=fun{σ' H' s'} I' n' e'=>I'.pins_of λp hp=>by
  rcases Kg.mp hp with z|z
  .exact I'.pin p (by show p∈([]:List (Addr×Obj))++_;exact Kk _ z)
  .have z':p=(D,{cls:= .type "list",data:= .seq a_.toArray nD}):=by simpa using z
   subst z'
   exact⟨e',n',Rp,Dfs,λv q=>by cases q⟩
 have RZ:∀{H':Hp},(∀b∈fp,H' b=none)->∀b∈fp,fZ (eo X own js scope C s H fp) (X.pn++pins++[(D,{cls:= .type "list",data:= .seq a_.toArray nD})]) H' b:=λhn b hb=>by
  obtain⟨a1,a2,a3,a4,a5,a6⟩:=RY hn b hb;refine⟨a1,a2,a3,a4,a5,λp hp=>?_⟩;have A_:p∈X.pn++pins++[(D,{cls:= .type "list",data:= .seq a_.toArray nD})]:=hp;rcases Kg.mp A_ with z|z
  .exact a6 p (by show p∈([]:List (Addr×Obj))++_;exact z)
  .have z':p=(D,{cls:= .type "list",data:= .seq a_.toArray nD}):=by simpa using z
   subst z';rintro rfl;exact Dfp hb
 have Yk:∀{α:Type} {t:Sem α} {Q Q':α->Shared->Prop} {E:Value->Shared->Prop} {s:Shared},wpAny (model X.prog X.w) X.A t Q (λ_ _=>False) s->(∀a s,Q a s->Q' a s)->wpAny (model X.prog X.w) X.A t Q' E s:=
  λh hQ=>NR h hQ λ_ _ x=>x.elim
 have Yl:∀{pl:List (Addr×Obj)} {σ':St} {H':Hp} {s':Shared},Inv (eo X own js scope C s H fp) (X.pn++pins++[(D,{cls:= .type "list",data:= .seq a_.toArray nD})]++pl) σ' H' s'->Inv (eo X own js scope C s H fp) (X.pn++pins) σ' H' s'/\H' D=none/\s'.heap.get? D=some {cls:= .type "list",data:= .seq a_.toArray nD}:=fun{pl σ' H' s'} I'=>by
  have q:=I'.pin (D,{cls:= .type "list",data:= .seq a_.toArray nD}) (Kk _ (Kf _ (Kk _ (by simp))));exact⟨I'.unpinned.unpinned,q.2.1,q.1⟩
 show wpAny _ X.A ((compTurn (.ListComp elt [⟨tg,iter,ifs,0⟩] scope pos) 0 (.ref it) (.ref D) (compEnvC scope (jF scope X.env) C X.env)).onRaise (λx=>do noteFrame x (compEnvC scope (jF scope X.env) C X.env);theTreesLotGoes x)) _ _ s3
 refine wpAny_noted ?_
 rw[compTurn_list]
 refine Ko (Qf (Ko ?_))
 rcases turn i n out H3 w3 with⟨stop,fin⟩|⟨go,step⟩
 .refine P0 (T.done (eo X own js scope C s H fp) rfl rfl rfl hc i _ s3 _ H3 _ (VO B3.inv B3.free obD) (RZ VN) VM stop) λr s4 ⟨hr,I4⟩=>?_
  subst hr
  obtain⟨J4,n4,o4⟩:=Yl (pl:=[]) (by rw[Lb];exact I4)
  obtain⟨hl,k⟩:=fin B3.free
  exact Ky (hR out H3 s4 ⟨J4,n4,a_,nD,rv,o4⟩ hl k)
 .refine P0 (T.item (eo X own js scope C s H fp) rfl rfl rfl hc i _ s3 _ H3 _ (VO B3.inv B3.free obD) (RZ VN) VM go) λr s4 ⟨u,hr,h4⟩=>?_
  subst hr
  refine Ko (P0 h4 λ_ s5 ⟨x,H5,I5,r5,y5,st5,fr5⟩=>?_)
  have Ym:=I5.pinned (RZ fr5) (T.obj _ _ st5)
  refine Ko (Yk (hg _ s5 _ H5 x u _ Ym r5 (step x H5 y5)) λ_ s6 ⟨σ6,H6,I6,q6⟩=>?_)
  obtain⟨ed,q6⟩:=q6
  refine Ko (Yk (hi _ s6 σ6 H6 _ I6 q6) λok s7 ⟨H7,I7,q7⟩=>?_)
  have stay:∀{H':Hp} {s':Shared},Inv (eo X own js scope C s H fp) (X.pn++pins++[(D,{cls:= .type "list",data:= .seq a_.toArray nD})]++lB fp s5.heap) σ6 H' s'->tn (i+1) s'.heap/\∀b∈fp,H' b=none:=fun{H' s'} I'=>by
   refine⟨T.keep _ _ _ st5 λb hb o e=>(I'.pin (b,o) (Kk _ (Kk _ (bX hb e)))).1,λb hb=>?_⟩;obtain⟨o,e,d⟩:=T.obj _ _ st5 b hb;exact(I'.pin (b,o) (Kk _ (Kk _ (bX hb e)))).2.1
  have wk:∀{H':Hp} {s':Shared},Inv (eo X own js scope C s H fp) (X.pn++pins) σ6 H' s'->Inv (eo X own js scope C s H fp) (X.pn++pins) (AG own js σ) H' s':=fun{H' s'} I'=>by
   refine I'.weak (by rw[I'.len];exact vC) λk v e=>?_;unfold AG at e;by_cases hk:k<own.length
   .rw[Lm (by simpa using hk),Kh,Kc hk] at e;simp at e
   .rw[Lx (by simpa using hk)] at e;have el:(own.map λ_=>(none:Option V)).length=own.length:=by simp
    rw[el,←ed,Qj] at e;have ek:own.length+(k -own.length)=k:=by lia
    rw[ek] at e;exact e
  cases ok with
  |false=>
   rw[if_neg Lc] at q7
   obtain⟨m',hm,w7⟩:=q7
   obtain⟨J7,n7,o7⟩:=Yl I7
   exact Ky ⟨rfl,m',hm,i+1,out,H7,⟨wk J7,n7,a_,nD,rv,o7⟩,(stay I7).1,(stay I7).2,w7⟩
  |true=>
   rw[if_pos rfl] at q7
   refine Ko (Ko (Yk (he _ s7 σ6 H7 _ I7 q7) λy s8 ⟨v,H8,I8,r8,hl8,m',hm,w8⟩=>?_))
   obtain⟨J8,n8,o8⟩:=Yl I8
   have isl:s8.heap.IsList D a_.toArray:=⟨_,o8,rfl,nD,rfl⟩
   refine Ko (wpAny_list_append_plain (hsz:=by have:=rv.length;simp;lia) ⟨nD,o8⟩ λh' A_ Qn=>?_)
   obtain⟨nn,ob'⟩:=A_
   have Yn:h'.get? D=some {cls:= .type "list",data:= .seq (a_++[y]).toArray nn}:=by
    rw[ob',List.push_toArray]
   have keep:∀b o,b≠D->s8.heap.get? b=some o->h'.get? b=some o:=λb o hb e=>(Qn.2 b hb).trans e
   have J9:Inv (eo X own js scope C s H fp) (X.pn++pins) σ6 H8 {s8 with heap:=h'}:=J8.turned (t':=s8.toks) keep n8 Rp (.inr hD) VL (λp hp=>Yj p (by
    have A_:p∈([]:List (Addr×Obj))++(X.pn++pins):=hp;rw[Pf] at A_;exact A_))
   refine Ky (Ky ⟨rfl,m',hm,i+1,out++[v],H8,⟨wk J9,n8,a_++[y],nn,rv.append (.cons r8 .nil),Yn⟩,?_,(stay I8).2,w8⟩)
   exact T.keep _ _ _ (stay I8).1 λb hb o e=>keep b o (by rintro rfl;exact Dfp hb) e
end
def Ju (n:Nat)(PV:Nat->V->Prop):It:=⟨λi _=>i<n,λi H x H'=>H'=H/\PV i x,λi _=>n<=i⟩
def vA {M:Model}{A:Around}{E:Value->Shared->Prop}{s:Shared}{tg:Expr}{it:Addr}{u:Value}{Q:Unit->Shared->Prop}(hu:∀a,u≠ .ref a)(hQ:Q () s):wpAny M A (letOwnedTupleGo tg (.ref it) u) Q E s:=by
 unfold letOwnedTupleGo;cases tg<;>first
  |exact Ky hQ
  |(cases u<;>first
    |exact Ky hQ
    |exact absurd rfl (hu _))
def lF {P:Program}{w:World}{K:Qc}{tg:Expr}{it:Addr}{n:Nat}{Pv:Nat->Value->Prop}{PV:Nat->V->Prop}{St:Nat->Heap->Prop}
  (W:∀A:Around,A.handled=none->Walks P w A it [it] [it] n Pv St) (hv:∀i u,Pv i u->(∀a,u≠ .ref a)/\∃x,RelV x u/\PV i x)
  (ho:∀i h,St i h->∃o,h.get? it=some o/\∀v,o.data≠ .cell v)
  (hk:∀i h h',St i h->(∀o,h.get? it=some o->h'.get? it=some o)->St i h')
  (VP:∀(A:Around) (i:Nat) (s:Shared) (Q:Value->Shared->Prop) (E:Value->Shared->Prop),St i s.heap->Q (.ref it) s->wpAny (model P w) A (pyIter (.ref it)) Q E s):
  iM P w K tg (Ju n PV) [it] it (λi h=>St i h/\i<=n) where
 mem:=by simp
 obj:=λi h st b hb=>by
  have e:b=it:=by simpa using hb
  subst e;exact ho i h st.1
 keep:=λi h h' st k=>⟨hk i h h' st.1 λo e=>k it (by simp) o e,st.2⟩
 item:=by
  intro X hP hw hK hc i pins s σ H E I hf st hg;subst hP hw hK;obtain⟨f0,f1,f2,f3,f4,f5⟩:=hf it (by simp);refine(W X.A (I.ok.hd hc)).item i s _ _ hg st.1 λv h' tk hv' v_ kk=>?_;obtain⟨G_,x,rx,px⟩:=hv i v hv';have I1:Inv X pins σ H {s with heap:=h',toks:=tk}:=I.turned (λb o hb e=>kk b o (by simpa using hb) e) f0 f1 f3 f4 f5;exact⟨v,rfl,vA G_ ⟨x,H,I1,rx,⟨rfl,px⟩,⟨v_,hg⟩,λb hb=>(hf b hb).1⟩⟩
 done:=by
  intro X hP hw hK hc i pins s σ H E I hf st hg;subst hP hw hK;obtain⟨f0,f1,f2,f3,f4,f5⟩:=hf it (by simp);have e:i=n:=Nat.le_antisymm st.2 hg;subst e;exact(W X.A (I.ok.hd hc)).done s _ _ st.1 λh' tk kk=>⟨rfl,I.turned (λb o hb e=>kk b o (by simpa using hb) e) f0 f1 f3 f4 f5⟩
 self:=λA i s Q E st h=>VP A i s Q E st.1 h
def BO (c:Nat):V:= .str ⟨#[c]⟩
def CC (x:Str)(i:Nat)(v:V):Prop:=∃c,x.cps[i]?=some c/\v=BO c
def Its (x:Str):It:=Ju x.cps.size (CC x)
def yv {x:Str}{i:Nat}{u:Value}(h:SignAt x i u):(∀a,u≠ .ref a)/\∃v,RelV v u/\CC x i v:=by
 obtain⟨c,t,hc,rfl⟩:=h;exact⟨λa z=>(by cases z),BO c,⟨t,rfl⟩,c,hc,rfl⟩
def wJ {P:Program}{w:World}{K:Qc}{tg:Expr}(it:Addr)(x:Str)(t:Tok):iM P w K tg (Its x) [it] it (λi h=>h.IsStrIter it "str_ascii_iterator" x t i/\i<=x.cps.size):=
 lF (λA hh=>Walks.strAscii hh it x t) (λi u h=>yv h)
  (λi h st=>by obtain⟨o,e,c,d⟩:=st;exact⟨o,e,λv z=>by rw[d] at z;cases z⟩)
  (λi h h' st k=>let ⟨o,e,r⟩:=st;⟨o,k o e,r⟩)
  (λA i s Q E st h=>wpAny_pyIter_striter_ascii st h)
def wO {P:Program}{w:World}{K:Qc}{tg:Expr}(it:Addr)(x:Str)(t:Tok):iM P w K tg (Its x) [it] it (λi h=>h.IsStrIter it "str_iterator" x t i/\i<=x.cps.size):=
 lF (λA hh=>Walks.strWide hh it x t) (λi u h=>yv h)
  (λi h st=>by obtain⟨o,e,c,d⟩:=st;exact⟨o,e,λv z=>by rw[d] at z;cases z⟩)
  (λi h h' st k=>let ⟨o,e,r⟩:=st;⟨o,k o e,r⟩)
  (λA i s Q E st h=>wpAny_pyIter_striter_wide st h)
section
variable {X:Cx} {tg:Expr}
def rIter (K:Qc)(v:V)(H:Hp)(R:It->Hp->Prop):Prop:=
 (∃a,v= .ref a/\(∃xs,SqL K H a xs)/\R (Itl K a) H)\/(∃a,v= .ref a/\(∃xs,SqT K H a xs)/\R (Jt K a) H)\/(∃x,v= .str x/\R (Its x) H)
def yc {pins:List (Addr×Obj)}{σ:St}{H1:Hp}{s1:Shared}{x:V}{v:Value}{R:It->Hp->Prop}(I1:Inv X pins σ H1 s1)(r1:RelV x v)(q1:rIter X.K x H1 R):
  wpAny (model X.prog X.w) X.A (pyIter v) (Ij X pins σ tg R) X.xe s1:=by
 have Xe:∀b∈[s1.heap.objs.size],fZ X pins H1 b:=λb hb=>by
  have e:b=s1.heap.objs.size:=by simpa using hb
  subst e;exact I1.fpOk (Ke _) (I1.hok.fresh (Ke _))
 rcases q1 with⟨a,e,⟨xs,hq⟩,q⟩|⟨a,e,⟨xs,hq⟩,q⟩|⟨z,e,q⟩
 .subst e
  cases r1
  obtain⟨a_,rv,p,hz⟩:=I1.list hq
  refine Nb p.isList ?_
  exact⟨s1.heap.objs.size,[s1.heap.objs.size],_,_,H1,rfl,I1.kept (t':=s1.toks) λb o e=>Kn _ e,vN a _,⟨_,KD _ rfl,rfl,rfl⟩,Xe,q⟩
 .subst e
  cases r1
  obtain⟨a_,rv,p,hz⟩:=I1.tuple hq
  refine wpAny_pyIter_tuple (show s1.heap.IsTuple a a_.toArray from p) ?_
  exact⟨s1.heap.objs.size,[s1.heap.objs.size],_,_,H1,rfl,I1.kept (t':=s1.toks) λb o e=>Kn _ e,sU a _,⟨_,KD _ rfl,rfl,rfl⟩,Xe,q⟩
 .subst e
  obtain⟨t,rfl⟩:=r1
  cases ha:z.cps.all (·<128) with
  |false=>exact wpAny_pyIter_wide ha ⟨s1.heap.objs.size,[s1.heap.objs.size],_,_,H1,rfl,I1.kept (t':=s1.toks) λb o e=>Kn _ e,wO _ z t,⟨⟨_,KD _ rfl,rfl,rfl⟩,LJ _⟩,Xe,q⟩
  |true=>exact wpAny_pyIter_ascii ha ⟨s1.heap.objs.size,[s1.heap.objs.size],_,_,H1,rfl,I1.kept (t':=s1.toks) λb o e=>Kn _ e,wJ _ z t,⟨⟨_,KD _ rfl,rfl,rfl⟩,LJ _⟩,Xe,q⟩
end
section
variable {X:Cx}
theorem pN:∀{bs:List Bool} {us:List Value},Vals (bs.map V.bl) us->us=bs.map Value.bool
 |[],_,.nil=>rfl
 |b::bs,_,.cons r t=>by
  have e:_=Value.bool b:=r;rw[e,pN t];rfl
def tI (bs:List Bool):((List.range bs.length).all λi=>(bs[i]?).getD true)=bs.all id:=by
 rw[Lg,KZ,KZ];constructor
 .intro h b hb;obtain⟨i,hi,rfl⟩:=PJ hb;have:=h i (Mp.mpr hi);simpa [Kc hi] using this
 .intro h i hi;have SF:=Mp.mp hi;simpa [Kc SF] using h _ (KS SF)
def ux (bs:List Bool):((List.range bs.length).any λi=>(bs[i]?).getD true)=bs.any id:=by
 rw[Lg,LQ,LQ];constructor
 .rintro⟨i,hi,e⟩;have SF:=Mp.mp hi;simp only[Kc SF,Ni] at e;exact⟨_,KS SF,e⟩
 .rintro⟨b,hb,e⟩;obtain⟨i,hi,rfl⟩:=PJ hb;exact⟨i,Mp.mpr hi,by simp only[Kc hi,Ni];exact e⟩
def uM {s:Shared}{h':Heap}{o:Obj}(hk:∀b x,b∉[s.heap.objs.size]->(s.heap.push o).get? b=some x->h'.get? b=some x):∀b x,s.heap.get? b=some x->h'.get? b=some x:=
 λb x e=>hk b x (λhm=>by rw[Kq.mp hm] at e;exact LN _ (Kv e)) (Kn _ e)
def xm (K:Qc):List V->Hp->VK->Prop:=λxs H Q=>∃(p:Addr) (bs:List Bool),xs=[.ref p]/\SqL K H p (bs.map V.bl)/\Q (.bl (bs.all id)) H
def GC (K:Qc):List V->Hp->VK->Prop:=λxs H Q=>∃(p:Addr) (bs:List Bool),xs=[.ref p]/\SqL K H p (bs.map V.bl)/\Q (.bl (bs.any id)) H
def wB (hc:X.calm=true):CallR X (.builtin "all") (xm X.K):=by
 intro pins s σ H xs us Q I r h;obtain⟨l,bs,rfl,hx,q⟩:=h;obtain⟨u,rfl,ru⟩:=V4 r;cases ru;obtain⟨a_,rv,ht,hz⟩:=I.list hx;have e:=pN rv;subst e;have hl:=ht.isList;have n_:l<s.heap.objs.size:=ht.lt;refine call_all_walk (Nb hl ?_);refine⟨s.heap.objs.size,[s.heap.objs.size,l],[s.heap.objs.size],(bs.map Value.bool).toArray.size,_,_,λi=>(bs[i]?).getD true,rfl,Walks.list (A:=X.A.in1) (I.ok.hd hc) _ l (KC n_) (bs.map Value.bool).toArray,
  ⟨⟨_,KD _ rfl,rfl,rfl⟩,hl.push _⟩,λi v s' Q' E' hP hQ=>?_,λh' tk hk=>?_⟩
 .have R_:(bs.map Value.bool)[i]?=some v:=by simpa using hP
  rw[Kh] at R_;cases e:bs[i]? with
  |none=>rw[e] at R_;cases R_
  |some b=>
   rw[e] at R_
   cases R_
   simp only[e,Ni] at hQ
   exact Md hQ
 .have e:((List.range (bs.map Value.bool).toArray.size).all λi=>(bs[i]?).getD true)=bs.all id:=by
   rw[KH,Kb];exact tI bs
  rw[e];exact⟨.bl (bs.all id),H,I.kept (uM hk),rfl,q⟩
def vX (hc:X.calm=true):CallR X (.builtin "any") (GC X.K):=by
 intro pins s σ H xs us Q I r h;obtain⟨l,bs,rfl,hx,q⟩:=h;obtain⟨u,rfl,ru⟩:=V4 r;cases ru;obtain⟨a_,rv,ht,hz⟩:=I.list hx;have e:=pN rv;subst e;have hl:=ht.isList;have n_:l<s.heap.objs.size:=ht.lt;refine call_any_walk (Nb hl ?_);refine⟨s.heap.objs.size,[s.heap.objs.size,l],[s.heap.objs.size],(bs.map Value.bool).toArray.size,_,_,λi=>(bs[i]?).getD true,rfl,Walks.list (A:=X.A.in1) (I.ok.hd hc) _ l (KC n_) (bs.map Value.bool).toArray,
  ⟨⟨_,KD _ rfl,rfl,rfl⟩,hl.push _⟩,λi v s' Q' E' hP hQ=>?_,λh' tk hk=>?_⟩
 .have R_:(bs.map Value.bool)[i]?=some v:=by simpa using hP
  rw[Kh] at R_;cases e:bs[i]? with
  |none=>rw[e] at R_;cases R_
  |some b=>
   rw[e] at R_
   cases R_
   simp only[e,Ni] at hQ
   exact Md hQ
 .have e:((List.range (bs.map Value.bool).toArray.size).any λi=>(bs[i]?).getD true)=bs.any id:=by
   rw[KH,Kb];exact ux bs
  rw[e];exact⟨.bl (bs.any id),H,I.kept (uM hk),rfl,q⟩
def FN:V->Option Int->Option Int->Hp->VK->Prop:=λx lo hi H Q=>∃z,x= .str z/\z.length<=sizeLine/\Q (.str (Txt.slice z lo hi)) H
def Di:SlR X FN:=by
 intro pins s σ H x v vl vu lo hi sl Q I rx hs pl pu h;obtain⟨z,rfl,hz,q⟩:=h;obtain⟨t,rfl⟩:=rx;refine⟨"str",_,F.slot_str_getitem.lookup,Pq _ _ _,?_⟩;have fin:∀t' k,EP X pins σ Q (.str (Txt.slice z lo hi) t') {s with toks:=k}:=λt' k=>⟨.str _,H,I.tok _,⟨t',rfl⟩,q⟩
 cases pl with
 |none=>
  cases pu with
  |none=>exact MK (l:=none) (u:=none) (st:=none) hs rfl (NV ⟨Kw (MV z _ _) hz,fin⟩)
  |int j tj=>exact MK (l:=none) (u:=some (j,tj)) (st:=none) hs rfl (NV ⟨Kw (MV z _ _) hz,fin⟩)
 |int i ti=>
  cases pu with
  |none=>exact MK (l:=some (i,ti)) (u:=none) (st:=none) hs rfl (NV ⟨Kw (MV z _ _) hz,fin⟩)
  |int j tj=>exact MK (l:=some (i,ti)) (u:=some (j,tj)) (st:=none) hs rfl (NV ⟨Kw (MV z _ _) hz,fin⟩)
def Gu (K:Qc):V->Option Int->Option Int->Hp->VK->Prop:=λx lo hi H Q=>GR K x lo hi H Q\/Ga K x lo hi H Q\/FN x lo hi H Q
def EX:SlR X (Gu X.K):=sl_list.or (sl_tup.or Di)
def RelV.plainB {x:V}{v:Value}(r:RelV x v)(b:Bool):plainIs v (.bool b)=true/\(v==Value.bool b)=decide (x= .bl b):=by
 cases x with
 |non=>cases r;exact⟨rfl,rfl⟩
 |bl c=>cases r;exact⟨rfl,by cases b<;>cases c<;>rfl⟩
 |int _=>obtain⟨t,rfl⟩:=r;exact⟨rfl,rfl⟩
 |str _=>obtain⟨t,rfl⟩:=r;exact⟨rfl,rfl⟩
 |byt _=>obtain⟨t,rfl⟩:=r;exact⟨rfl,rfl⟩
 |flt _=>obtain⟨t,rfl⟩:=r;exact⟨rfl,rfl⟩
 |ref _=>cases r;exact⟨rfl,rfl⟩
 |ty _=>cases r;exact⟨rfl,rfl⟩
def Jl (neg:Bool):R2:=λx y H Q=>(y= .non\/∃b,y= .bl b)/\Q (.bl (if neg then !decide (x=y) else decide (x=y))) H
def Ao:OpR X (compareOp .Is) (Jl false):=by
 intro pins s σ H x y v u Q I rx ry h;obtain⟨hy,q⟩:=h;rcases hy with rfl|⟨b,rfl⟩
 .cases ry;exact is_none_gen ⟨.bl _,H,I,by rw[rx.none_iff];rfl,q⟩
 .cases ry;exact wpAny_is_plain (rx.plainB b).1 ⟨.bl _,H,I,by rw[(rx.plainB b).2];rfl,q⟩
def bM:OpR X (compareOp .IsNot) (Jl true):=by
 intro pins s σ H x y v u Q I rx ry h;obtain⟨hy,q⟩:=h;rcases hy with rfl|⟨b,rfl⟩
 .cases ry;exact isnot_none_gen ⟨.bl _,H,I,by rw[rx.none_iff];rfl,q⟩
 .cases ry;exact wpAny_isNot_plain (rx.plainB b).1 ⟨.bl _,H,I,by rw[(rx.plainB b).2];rfl,q⟩
def TyB (K:Qc)(H:Hp):V->String->Prop
 | .non,t=>t="NoneType"
 | .bl _,t=>t="bool"
 | .int _,t=>t="int"
 | .str _,t=>t="str"
 | .ref a,t=>(t="list"/\∃xs,SqL K H a xs)\/(t="tuple"/\∃xs,SqT K H a xs)\/(t="dict"/\∃kvs,Rd H a (.dK kvs))
 |_,_=>False
def pO (t T:String):Bool:=t==T||(t=="bool"&&T=="int")
def Bo (K:Qc):List V->Hp->VK->Prop:=λxs H Q=>∃x T t,xs=[x,.ty T]/\TyB K H x t/\(T="str"\/T="int"\/T="bool"\/T="list"\/T="tuple"\/T="dict")/\Q (.bl (pO t T)) H
def cj {K:Qc}{t T:String}(ht:t="NoneType"\/t="bool"\/t="int"\/t="str"\/t="list"\/t="tuple"\/t="dict")(hT:T="str"\/T="int"\/T="bool"\/T="list"\/T="tuple"\/T="dict"):
  PySem.W.kitOne K (.type t) (.type T)=some (pO t T):=by
 rcases ht with rfl|rfl|rfl|rfl|rfl|rfl|rfl<;>rcases hT with rfl|rfl|rfl|rfl|rfl|rfl<;>rfl
def call_isi:CallR X (.builtin "isinstance") (Bo X.K):=by
 intro pins s σ H xs us Q I r h;obtain⟨x,T,t,rfl,ty,hT,q⟩:=h;obtain⟨u,c,rfl,rx,rc⟩:=hJ r;cases rc;have fin:∀tk,EP X pins σ Q (.bool (pO t T)) {s with toks:=tk}:=λtk=>⟨.bl _,H,I.tok tk,rfl,q⟩
 cases x with
 |non=>cases ty;cases (show u=Value.none from rx);exact MB PySem.W.kitx_none I.kIn True.intro (cj (by simp) hT) (λz=>nomatch z) fin
 |bl y=>cases ty;cases (show u=Value.bool y from rx);exact MB PySem.W.kitx_bool I.kIn True.intro (cj (by simp) hT) (λz=>nomatch z) fin
 |int i=>cases ty;obtain⟨t,q⟩:=(show ∃t,u=Value.int i t from rx);cases q;exact MB PySem.W.kitx_int I.kIn True.intro (cj (by simp) hT) (λz=>nomatch z) fin
 |str y=>cases ty;obtain⟨t,q⟩:=(show ∃t,u=Value.str y t from rx);cases q;exact MB PySem.W.kitx_str I.kIn True.intro (cj (by simp) hT) (λz=>nomatch z) fin
 |byt _=>exact False.elim ty
 |flt _=>exact False.elim ty
 |ty _=>exact False.elim ty
 |ref a=>
  cases (show u=Value.ref a from rx)
  rcases ty with⟨rfl,ys,hy⟩|⟨rfl,ys,hy⟩|⟨rfl,kvs,hy⟩
  .obtain⟨a_,_,⟨o,n,e,c,_,_⟩,_⟩:=I.list hy
   exact MB PySem.W.kitx_list I.kIn ⟨o,e,c⟩ (cj (by simp) hT) (λz=>nomatch z) fin
  .obtain⟨a_,_,⟨o,e,c,_⟩,_⟩:=I.tuple hy
   exact MB PySem.W.kitx_tuple I.kIn ⟨o,e,c⟩ (cj (by simp) hT) (λz=>nomatch z) fin
  .obtain⟨_,_,vs,_,o,es,ep,h1,h2,_⟩:=X3 I.hok hy
   exact MB PySem.W.kitx_dict I.kIn ⟨o,h1,h2.1⟩ (cj (by simp) hT) (λz=>nomatch z) fin
end
section
variable {X:Cx}
def rl (K:Qc):R2:=λx y H Q=>Aq (λi j=> .int (i+j)) x y H Q\/(∃i j,x= .str i/\y= .str j/\i.length+j.length<=sizeLine/\Q (.str (i++j)) H)\/GF x y H Q\/CB K x y H Q
def Be:OpR X (binaryOp .Add) (rl X.K):=op_add.or (op_add_str.or (op_cat.or Bv))
def op_in_sgn:OpR X (compareOp .In) (λx y H Q=>∃c j,x=BO c/\y= .str j/\Q (.bl (decide (c∈j.cps.toList))) H):=by
 intro pins s σ H x y v u Q I rx ry h;obtain⟨c,j,rfl,rfl,q⟩:=h;refine wW pins s σ H _ _ v u Q I rx ry ⟨⟨#[c]⟩,j,rfl,rfl,?_⟩;rw[StrLaws.found_one];exact q
def op_notIn_sgn:OpR X (compareOp .NotIn) (λx y H Q=>∃c j,x=BO c/\y= .str j/\Q (.bl (!decide (c∈j.cps.toList))) H):=by
 intro pins s σ H x y v u Q I rx ry h;obtain⟨c,j,rfl,rfl,q⟩:=h;refine pR pins s σ H _ _ v u Q I rx ry ⟨⟨#[c]⟩,j,rfl,rfl,?_⟩;rw[StrLaws.found_one];exact q
def sY (hu:X.A.units+1<cLine):OpR X (compareOp .In) (λy x H Q=>∃a o,x= .ref a/\DGet H a y o/\Q (.bl o.isSome) H):=by
 intro pins s σ H y x v u Q I ry rx h;obtain⟨a,o,rfl,g,q⟩:=h;cases rx;exact IK hu I g ry λs' I'=>⟨.bl _,H,I',rfl,q⟩
def mG (hu:X.A.units+1<cLine):OpR X (compareOp .NotIn) (λy x H Q=>∃a o,x= .ref a/\DGet H a y o/\Q (.bl (!o.isSome)) H):=by
 intro pins s σ H y x v u Q I ry rx h;obtain⟨a,o,rfl,g,q⟩:=h;cases rx;exact Cn hu I g ry λs' I'=>⟨.bl _,H,I',rfl,q⟩
def wN (K:Qc):R2:=λx y H Q=>(∃c j,x=BO c/\y= .str j/\Q (.bl (decide (c∈j.cps.toList))) H)\/HY K false x y H Q\/(∃a o,y= .ref a/\DGet H a x o/\Q (.bl o.isSome) H)
def jQ (K:Qc):R2:=λx y H Q=>(∃c j,x=BO c/\y= .str j/\Q (.bl (!decide (c∈j.cps.toList))) H)\/HY K true x y H Q\/(∃a o,y= .ref a/\DGet H a x o/\Q (.bl (!o.isSome)) H)
def EM (hu:X.A.units+1<cLine):OpR X (compareOp .In) (wN X.K):=op_in_sgn.or (op_in_seq.or (sY hu))
def vZ (hu:X.A.units+1<cLine):OpR X (compareOp .NotIn) (jQ X.K):=op_notIn_sgn.or (op_notIn_seq.or (mG hu))
def FV:R2:=λx y H Q=>Aq (λi j=> .bl (decide (i<j))) x y H Q\/(∃i j,x= .str i/\y= .str j/\Q (.bl (decide (i.cps.toList<j.cps.toList))) H)
def tY:OpR X (compareOp .Lt) FV:=op_lt.or wc
def AZ (hu:X.A.units+1<cLine):IxR X (λx y H Q=>∃a v,x= .ref a/\DGet H a y (some v)/\Q v H):=by
 intro value slice pins s σ H x y v u Q I rx ry h hs;obtain⟨a,z,rfl,g,q⟩:=h;cases rx;exact tail_any (qj I g) PySem.F.slot_dict_getitem.lookup (we hu I g ry λw2 s' I' r'=>⟨z,H,I',r',q⟩) hs
def lG (K:Qc):R2:=λx y H Q=>Js K x y H Q\/(∃a v,x= .ref a/\DGet H a y (some v)/\Q v H)
def DF (hu:X.A.units+1<cLine):IxR X (lG X.K):=ix_seq.or (AZ hu)
def tP (K:Qc):List V->Hp->VK->Prop:=λxs H Q=>(∃x n,xs=[x]/\GH K x H n/\Q (.int n) H)\/(∃a kvs,xs=[V.ref a]/\Rd H a (.dK kvs)/\Q (.int kvs.length) H)
def call_lenX:CallR X (.builtin "len") (tP X.K):=by
 refine call_len.or ?_;intro pins s σ H xs us Q I r h;obtain⟨a,kvs,rfl,ha,q⟩:=h;obtain⟨u,rfl,ru⟩:=V4 r;cases ru;exact FY I ha λt s' I'=>⟨.int kvs.length,H,I',⟨t,rfl⟩,q⟩
end
def U0 (P:Program)(w:World)(K:Qc)(mg:Str->Option Value)(base:Heap)(CX:qh)(k:Nat)(x:Str)(ps:List Str)(r_:List V)(sp:Sp):Prop:=
 ∃f fd ds,C5 P w K mg base CX k f fd ps sp/\mg x=some (.ref f)/\PySem.W.keepIn K (.ref f)=true/\Binds K fd ps ds/\Vals r_ ds
section
variable {X:Cx} {CX:qh} {k:Nat} {x:Str} {ps:List Str} {r_:List V} {sp:Sp} {E:XK} {e:Expr} {es:List Expr} {t:TA} {p pos:Pos}
def zM (C:U0 X.prog X.w X.K X.mg X.base CX k x ps r_ sp)(hr:Room k X.A)(hx:dE CX X E)(ha:PA X (e::es) t)(hg:Gl X x:=by rfl)
  (w_:(x==("__debug__":Str))=false:=by decide) (he:starEach (e::es) X.env=(false,eval e X.env)::starEach es X.env:=by rfl) (Q_:(backTo pos (starEach es X.env)).any (·.1)=false:=by rfl):
  PE X (.Call (.Name x p) (e::es) [] pos) (rq sp r_ E t):=by
 obtain⟨f,fd,ds,F,hm,hk,hb,hd⟩:=C
 exact Ct F hr hg hm hk hb hd hx ha w_ he Q_
def GP (mg:Str->Option Value)(x:Str)(v:V):Prop:=∃u,mg x=some u/\RelV v u
def FD {v:V}(h:GP X.mg x v)(hg:Gl X x:=by rfl)(hd:(x==("__debug__":Str))=false:=by decide):PE X (.Name x pos) (tC v):=by
 obtain⟨u,hm,r⟩:=h;exact BZ hg hm r hd
def A3 {k:Nat}{A:Around}(r:Room k A):A.units+1<cLine:=by have:=r.un;lia
end
section
variable {K:Qc} {σ:St} {H:Hp} {Q:VK} {D:qz} {nx bk ct:St->Hp->Prop} {rt:VK}
def Gi {i:Nat}{v:V}(h:σ[i]?=some (some v))(q:Q v H):BV i σ H Q:=⟨v,h,q⟩
def JR {v:V}(q:Q v H):tC v σ H Q:=q
def Ja {r:R2}{ta tb:TE}(q:ta σ H λx H1=>tb σ H1 λy H2=>r x y H2 Q):AJ r ta tb σ H Q:=q
def Dg {t:TE}{Qb:Bool->Hp->Prop}(q:t σ H λx H'=>∃k,x= .bl k/\Qb k H'):Al t σ H Qb:=q
def Jg {b:Bool}{Qb:Bool->Prop}(q:Qb b):∃k,V.bl b= .bl k/\Qb k:=⟨b,rfl,q⟩
def Hg {b:Bool}{Qb:Bool->Prop}(q:Qb b):∃k,AA K (V.bl b) H k/\Qb k:=⟨b,rfl,q⟩
def Hc {t:TT}{Qb:Bool->Hp->Prop}(q:t σ H λc H1=>Qb (!c) H1):EC t σ H Qb:=q
def FI {t u:TT}{Qb:Bool->Hp->Prop}(q:t σ H λc H1=>if c=true then u σ H1 Qb else Qb false H1):Fp t u σ H Qb:=q
def IV {t u:TT}{Qb:Bool->Hp->Prop}(q:t σ H λc H1=>if c=true then Qb true H1 else u σ H1 Qb):IS t u σ H Qb:=q
def De {ta tb:TE}(q:ta σ H λx H1=>∃c,x= .bl c/\if c=true then tb σ H1 Q else Q (.bl false) H1):xZ ta tb σ H Q:=q
def HP {ta tb:TE}(q:ta σ H λx H1=>∃c,x= .bl c/\if c=true then Q (.bl true) H1 else tb σ H1 Q):ER ta tb σ H Q:=q
def DR {ta:TE}(q:ta σ H λx H1=>∃c,x= .bl c/\Q (.bl (!c)) H1):Af ta σ H Q:=q
def IC {t:TT}{ta tb:TE}(q:t σ H λc H1=>if c=true then ta σ H1 Q else tb σ H1 Q):Jo t ta tb σ H Q:=q
def FK {Qa:List V->Hp->Prop}(q:Qa [] H):yg σ H Qa:=q
def Ec {ta:TE}{tr:TA}{Qa:List V->Hp->Prop}(q:ta σ H λx H1=>tr σ H1 λxs H2=>Qa (x::xs) H2):uZ ta tr σ H Qa:=q
def Fb {sp:Sp}{r_:List V}{E:XK}{t:TA}(q:t σ H λvs H1=>sp (vs++r_) H1 Q E):rq sp r_ E t σ H Q:=q
def IH {r:List V->Hp->VK->Prop}{t:TA}(q:t σ H λvs H1=>r vs H1 Q):Fu r t σ H Q:=q
def IL {r:V->Option Int->Option Int->Hp->VK->Prop}{te:TE}{tl th:TO}(q:te σ H λx H1=>tl σ H1 λl H2=>th σ H2 λu H3=>r x l u H3 Q):IE r te tl th σ H Q:=q
def ze {Qo:Option Int->Hp->Prop}(q:Qo none H):oJ σ H Qo:=q
def DZ {t:TE}{Qo:Option Int->Hp->Prop}(q:t σ H λx H1=>∃i,x= .int i/\Qo (some i) H1):Ag t σ H Qo:=q
def Hz {i:Int}{Qo:Int->Prop}(q:Qo i):∃j,V.int i= .int j/\Qo j:=⟨i,rfl,q⟩
def vV {i j:Int}(q:Q (.int (i+j)) H):rl K (.int i) (.int j) H Q:= .inl ⟨i,j,rfl,rfl,q⟩
def U5 {i j:Str}(h:i.length+j.length<=sizeLine)(q:Q (.str (i++j)) H):rl K (.str i) (.str j) H Q:= .inr (.inl ⟨i,j,rfl,rfl,h,q⟩)
def Ji {g:Int->Int->V}{i j:Int}(q:Q (g i j) H):Aq g (.int i) (.int j) H Q:=⟨i,j,rfl,rfl,q⟩
def Jy {C:Int->Int->Prop}{g:Int->Int->V}{i j:Int}(h:C i j)(q:Q (g i j) H):rI C g (.int i) (.int j) H Q:=⟨i,j,rfl,rfl,h,q⟩
def An {i j:Int}(q:Q (.bl (decide (i<j))) H):FV (.int i) (.int j) H Q:= .inl ⟨i,j,rfl,rfl,q⟩
def rE {i j:Int}(q:Q (.bl (decide (i=j))) H):Ii (.int i) (.int j) H Q:=⟨rfl,by rw[jU];rw[show(i==j)=decide (i=j) from MW i j];exact q⟩
def qy {i j:Str}(q:Q (.bl (decide (i=j))) H):Ii (.str i) (.str j) H Q:=⟨rfl,by rw[oN];rw[show(i==j)=decide (i=j) from MW i j];exact q⟩
def xQ {c:Nat}{j:Str}(q:Q (.bl (decide (c∈j.cps.toList))) H):wN K (BO c) (.str j) H Q:= .inl ⟨c,j,rfl,rfl,q⟩
def dU {y:Str}(h:y.length<=sizeLine)(q:Q (.int y.length) H):tP K [.str y] H Q:= .inl ⟨.str y,y.length,rfl,⟨h,rfl⟩,q⟩
def u9 {p:Addr}{xs:List V}(h:SqL K H p xs)(q:Q (.int xs.length) H):tP K [.ref p] H Q:= .inl ⟨.ref p,xs.length,rfl,.inl ⟨xs,h,rfl⟩,q⟩
def xk {p:Addr}{xs:List V}(h:SqT K H p xs)(q:Q (.int xs.length) H):tP K [.ref p] H Q:= .inl ⟨.ref p,xs.length,rfl,.inr ⟨xs,h,rfl⟩,q⟩
def bG {p:Addr}{kvs:List (j6×V)}(h:Rd H p (.dK kvs))(q:Q (.int kvs.length) H):tP K [.ref p] H Q:= .inr ⟨p,kvs,rfl,h,q⟩
def j5 {p:Addr}{xs:List V}{i:Int}{v:V}(h:SqL K H p xs)(e:nX xs i=some v)(q:Q v H):lG K (.ref p) (.int i) H Q:= .inl (.inl ⟨p,xs,i,v,rfl,rfl,h,e,q⟩)
def A9 {p:Addr}{xs:List V}{i:Int}{v:V}(h:SqT K H p xs)(e:nX xs i=some v)(q:Q v H):lG K (.ref p) (.int i) H Q:= .inl (.inr (.inl ⟨p,xs,i,v,rfl,rfl,h,e,q⟩))
def bN {z:Str}{i:Int}{c:Nat}(hz:z.length<=sizeLine)(e:nX z.cps.toList i=some c)(q:Q (BO c) H):lG K (.str z) (.int i) H Q:= .inl (.inr (.inr ⟨z,i,c,rfl,rfl,hz,e,q⟩))
def z0 {p:Addr}{y v:V}(g:DGet H p y (some v))(q:Q v H):lG K (.ref p) y H Q:= .inr ⟨p,v,rfl,g,q⟩
def Ap {p:Addr}{xs:List V}{lo hi:Option Int}(h:SqL K H p xs)(q:∀p,H p=none->Q (.ref p) (upd H p (.lst (fJ xs lo hi)))):Gu K (.ref p) lo hi H Q:= .inl ⟨p,xs,rfl,h,q⟩
def gN {z:Str}{lo hi:Option Int}(hz:z.length<=sizeLine)(q:Q (.str (Txt.slice z lo hi)) H):Gu K (.str z) lo hi H Q:= .inr (.inr ⟨z,rfl,hz,q⟩)
def mV {l b:Addr}{xs zs:List V}(h1:H l=some (.lst xs))(h2:H b=some (.lst zs))(hz:xs.length+zs.length<=sizeLine)(q:∀p,H p=none->Q (.ref p) (upd H p (.lst (xs++zs)))):rl K (.ref l) (.ref b) H Q:= .inr (.inr (.inl ⟨l,b,xs,zs,rfl,rfl,h1,h2,hz,q⟩))
def Hj {neg:Bool}{x:V}(q:Q (.bl (if neg then !decide (x= .non) else decide (x= .non))) H):Jl neg x .non H Q:=⟨.inl rfl,q⟩
def jo {x:V}{t T:String}(ty:TyB K H x t)(hT:T="str"\/T="int"\/T="bool"\/T="list"\/T="tuple"\/T="dict")(q:Q (.bl (pO t T)) H):Bo K [x,.ty T] H Q:=⟨x,T,t,rfl,ty,hT,q⟩
def oi {p:Addr}{bs:List Bool}(h:SqL K H p (bs.map V.bl))(q:Q (.bl (bs.all id)) H):xm K [.ref p] H Q:=⟨p,bs,rfl,h,q⟩
def HJ {t:TA}(q:t σ H λxs H1=>xs.length<=sizeLine/\∀p,H1 p=none->Q (.ref p) (upd H1 p (.tup xs))):DI t σ H Q:=q
def Hw {t:TA}(q:t σ H λxs H1=>xs.length<=sizeLine/\∀p,H1 p=none->Q (.ref p) (upd H1 p (.lst xs))):EI t σ H Q:=q
def Q1 {t u:TS}(q:t ⟨u ⟨nx,rt,bk,ct⟩,rt,bk,ct⟩ σ H):jK t u ⟨nx,rt,bk,ct⟩ σ H:=q
def Ey (q:nx σ H):Ac ⟨nx,rt,bk,ct⟩ σ H:=q
def Hv {te:TE}(q:te σ H rt):xS te ⟨nx,rt,bk,ct⟩ σ H:=q
def Ez {te:TE}(q:te σ H λ_ H1=>nx σ H1):yV te ⟨nx,rt,bk,ct⟩ σ H:=q
def HI {c:TT}{t u:TS}(q:c σ H λb H1=>if b=true then t ⟨nx,rt,bk,ct⟩ σ H1 else u ⟨nx,rt,bk,ct⟩ σ H1):Fm c t u ⟨nx,rt,bk,ct⟩ σ H:=q
def Gz {te:TE}{g:TG}(q:te σ H λx H1=>g x σ H1 nx):tF te g ⟨nx,rt,bk,ct⟩ σ H:=q
def EL {i:Nat}{v:V}{Qs:St->Hp->Prop}(q:Qs (σ.set i (some v)) H):O7 i v σ H Qs:=q
end
section
variable {X:Cx} {pins:List (Addr×Obj)} {σ:St} {H:Hp} {s:Shared} {d:Addr} {kvs:List (j6×V)} {o:Obj}
abbrev C4 (d:Addr)(o:Obj)(kvs:List (j6×V))(H:Hp):Hp:=upd H d (.frz o (.dK kvs))
def Inv.freeze (I:Inv X pins σ H s)(h:H d=some (.dK kvs))(ho:s.heap.get? d=some o):Inv X pins σ (C4 d o kvs H) s:=by
 have nd:∀b u,H b=some u->u≠ .dK kvs->b≠d:=λb u e n z=>by
  subst z;rw[h] at e;exact n (KG e).symm
 have hok:HOk X.prog X.w (C4 d o kvs H) s.heap:=λb u e=>by
  have st:∀{a:Addr} {u:HO},ObjOk X.prog X.w H s.heap a u->ObjOk X.prog X.w (C4 d o kvs H) s.heap a u:=fun{a u} x=>
   x.stay (λc v _ q=>q) (λc q=>by unfold C4;rw[b9 (nd c _ q (by intro z;cases z))];exact q) λc xs q=>by unfold C4;rw[b9 (nd c _ q (by intro z;cases z))];exact q
  by_cases hb:b=d
  .subst hb;unfold C4 at e;rw[d6] at e;cases e;exact⟨ho,st (I.hok _ _ h)⟩
  .unfold C4 at e;rw[b9 hb] at e;exact st (I.hok b u e)
 have q:=I.un (H':=C4 d o kvs H) (h':=s.heap) (t':=s.toks) ⟨λb o e n hb hx=>e,λb o e n hb hx=>⟨o.slots,e⟩,λb o e n hx=>by
  unfold C4;rw[b9 (λz=>by subst z;rw[h] at n;cases n)];exact n,λb o e _=>⟨o,e⟩,λb xs e=>by unfold C4;rw[b9 (nd b _ e (by intro z;cases z))];exact e,
  λb o u e=>by unfold C4;rw[b9 (nd b _ e (by intro z;cases z))];exact e,λb ps e=>⟨#[],by unfold C4;rw[b9 (nd b _ e (by intro z;cases z))];simpa using e⟩⟩ hok
 exact q
def FX:Option HO->Option HO
 |some (.frz _ u)=>some u
 |o=>o
def thaw (d:Addr)(H:Hp):Hp:=λb=>if b=d then FX (H d) else H b
theorem Q6 {b:Addr}(h:b≠d):thaw d H b=H b:=by unfold thaw;rw[if_neg h]
theorem thaw_at {u:HO}(h:H d=some (.frz o u)):thaw d H d=some u:=by unfold thaw;rw[if_pos rfl,h];rfl
def xU {u:HO}(h:H d=some (.frz o u)):thaw d H=upd H d u:=by grind [thaw_at,d6,Q6,b9]
def vz (h:∀o u,H d≠some (.frz o u)):thaw d H=H:=by
 funext b;by_cases hb:b=d
 .subst hb;unfold thaw;rw[if_pos rfl];cases q:H b with
  |none=>rfl
  |some u=>cases u with
   |frz o u=>exact absurd q (h o u)
   |_=>rfl
 .exact Q6 hb
def Cg (X:Cx)(th:Hp->Hp):Prop:=∀(pins:List (Addr×Obj)) (σ:St) (H:Hp) (s:Shared),Inv X pins σ H s->Inv X pins σ (th H) s
def fY:Cg X id:=λ_ _ _ _ I=>I
def xG (hn:∀o u,X.H₀ d≠some (.frz o u)):Cg X (thaw d):=λpins σ H s I=>by
 by_cases hf:∃o u,H d=some (.frz o u)
 .obtain⟨o,u,h⟩:=hf;rw[xU h];have nd:∀b v,H b=some v->v≠ .frz o u->b≠d:=λb v e n z=>by
   subst z;rw[h] at e;exact n (KG e).symm
  have nn:∀b,H b=none->b≠d:=λb e z=>by subst z;rw[h] at e;cases e
  have st:∀{a:Addr} {v:HO},ObjOk X.prog X.w H s.heap a v->ObjOk X.prog X.w (upd H d u) s.heap a v:=fun{a v} x=>
   x.stay (λc v _ q=>q) (λc q=>by rw[b9 (nd c _ q (by intro z;cases z))];exact q) λc xs q=>by rw[b9 (nd c _ q (by intro z;cases z))];exact q
  refine⟨I.ok,I.os,I.bare,⟨I.base.keep,I.base.slot,λb ob e n hx=>?_,I.base.there,λb xs e=>?_,λb ob v e=>?_,λb ps e=>?_⟩,I.loc,I.cell,?_,λx c e=>?_,λp hp=>?_,λb v e=>?_,I.len⟩
  .have q:=I.base.free b ob e n hx;rw[b9 (nn b q)];exact q
  .have q:=I.base.tups b xs e;rw[b9 (nd b _ q (by intro z;cases z))];exact q
  .have q:=I.base.frzs b ob v e;rw[b9 (λz=>by subst z;exact hn ob v e)];exact q
  .obtain⟨m,q⟩:=I.base.tbls b ps e;exact⟨m,by rw[b9 (nd b _ q (by intro z;cases z))];exact q⟩
  .rw[b9 (nn _ I.free)];exact I.free
  .have q:=I.freeC x c e;rw[b9 (nn _ q)];exact q
  .obtain⟨a1,a2,a3⟩:=I.pin p hp;exact⟨a1,by rw[b9 (nn _ a2)];exact a2,a3⟩
  .by_cases hb:b=d
   .subst hb;rw[d6] at e;cases e;exact st (I.hok _ _ h).2
   .rw[b9 hb] at e;exact st (I.hok b v e)
 .rw[vz λo u e=>hf ⟨o,u,e⟩];exact I
def Same.thaw {H H':Hp}(h:H d=some (.dK kvs))(e:Same (C4 d o kvs H) H'):Same H (thaw d H'):=λb u q=>by
 by_cases hb:b=d
 .subst hb;rw[h] at q;cases q;have z:=e b _ (show C4 b o kvs H b=some _ from d6);exact thaw_at z
 .rw[Q6 hb];exact e b u (by unfold C4;rw[b9 hb];exact q)
end
abbrev qi:=St->Hp->(It->(Hp->Hp)->Hp->Prop)->Prop
def zJ (X:Cx)(tg iter:Expr)(wi:qi):Prop:=
 ∀(pins:List (Addr×Obj)) (s:Shared) (σ:St) (H:Hp) (R:It->(Hp->Hp)->Hp->Prop),Inv X pins σ H s->wi σ H R->
  wpAny (model X.prog X.w) X.A (eval iter X.env) (λv s1=>wpAny (model X.prog X.w) X.A (pyIter v) (Ij X pins σ tg λJ H'=>∃th,Cg X th/\R J th H') X.xe s1) X.xe s
def PI.two {X:Cx}{tg iter:Expr}{wi:TI}(h:PI X tg iter wi):zJ X tg iter (λσ H R=>wi σ H λJ H'=>R J id H'):=by
 intro pins s σ H R I q;refine P0 (h pins s σ H _ I q) λv s1 h1=>P0 h1 λVB s2 h2=>?_;obtain⟨it,fp,tn,J,H',e,I',T,st,f,q⟩:=h2;exact⟨it,fp,tn,J,H',e,I',T,st,f,id,fY,q⟩
def vL (J:It)(th:Hp->Hp)(g:TG)(tb:TS)(nx:St->Hp->Prop)(rt:VK)(σ:St)(H1:Hp):Prop:=∃W:Nat->Nat->St->Hp->Prop,(∃m,W 0 m σ H1)/\∀i m σ H,W i m σ H->
 (J.stop i H/\nx σ (th H))\/(J.go i H/\∃N:St->Hp->Prop,(∀σ' H',N σ' H'->∃m',m'<m/\W (i+1) m' σ' H')/\∀x H',J.yld i H x H'->g x σ H' λσ2 H2=>tb ⟨N,λv H=>rt v (th H),λσ H=>nx σ (th H),N⟩ σ2 H2)
def xN (wi:qi)(g:TG)(tb:TS):TS:=λD σ H=>wi σ H λJ th H1=>vL J th g tb D.nx D.rt σ H1
def Bh {X:Cx}{tg iter:Expr}{body:List Stmt}{wi:qi}{g:TG}{tb:TS}{pos:Pos}(hp:PassesOwn (model X.prog X.w) X.A X.env X.xe)(hc:X.calm=true)(hi:zJ X tg iter wi)(hg:PG X tg g)(hb:PSs X body tb)
  (hs:∀x,foldedSetIterable iter X.env x=pure x:=by intro _;rfl):PS X (.For tg iter body [] pos) (xN wi g tb):=by
 intro pins s σ H D I h
 refine wpAny_For (P0 (hi pins s σ H _ I h) λv s1 h1=>P0 h1 λVB s2 h2=>?_) hs
 obtain⟨it,fp,tn,J,H2,e,I2,T,N',f2,th,Rq,W,⟨m0,w0⟩,turn⟩:=h2
 subst e
 have RY:∀{H':Hp},(∀b∈fp,H' b=none)->∀b∈fp,fZ X pins H' b:=λhn b hb=>⟨hn b hb,(f2 b hb).2⟩
 refine codeAny_forLoop_any (λn s'=>∃i σ' H',Inv X pins σ' H' s'/\tn i s'.heap/\(∀b∈fp,H' b=none)/\W i n σ' H') ?_ m0 ⟨0,σ,H2,I2,N',λb hb=>(f2 b hb).1,w0⟩
 rintro n s3 ⟨i,σ3,H3,I3,VM,VN,w3⟩
 rcases turn i n σ3 H3 w3 with⟨stop,qn⟩|⟨go,N,hN,step⟩
 .refine My hp (P0 (T.done X rfl rfl rfl hc i pins s3 σ3 H3 X.xe I3 (RY VN) VM stop) λr s4 ⟨hr,I4⟩=>?_)
  subst hr
  exact Nq ⟨σ3,th H3,Rq _ _ _ _ I4,qn⟩
 .refine My hp (P0 (T.item X rfl rfl rfl hc i pins s3 σ3 H3 X.xe I3 (RY VN) VM go) λr s4 ⟨u,hr,h4⟩=>?_)
  subst hr
  refine My hp (P0 h4 λ_ s5 ⟨x,H5,I5,r5,y5,st5,fr5⟩=>?_)
  have Ym:=I5.pinned (RY fr5) (T.obj _ _ st5)
  refine My hp (P0 (hg _ s5 σ3 H5 x u _ Ym r5 (step x H5 y5)) λ_ s6 ⟨σ6,H6,I6,q6⟩=>?_)
  refine My hp (P0 (hb _ s6 σ6 H6 _ I6 q6) λf s7 q7=>?_)
  have again:∀{σ7:St} {H7:Hp},Inv X (pins++lB fp s5.heap) σ7 H7 s7->N σ7 H7->∃m,m<n/\∃i σ' H',Inv X pins σ' H' s7/\tn i s7.heap/\(∀b∈fp,H' b=none)/\W i m σ' H':=fun{σ7 H7} I7 n7=>by
   obtain⟨m',hm,w7⟩:=hN σ7 H7 n7;refine⟨m',hm,i+1,σ7,H7,I7.unpinned,T.keep _ _ _ st5 λb hb o e=>(I7.pin (b,o) (Kk _ (Kk _ (bX hb e)))).1,λb hb=>?_,w7⟩;obtain⟨o,e,d⟩:=T.obj _ _ st5 b hb;exact(I7.pin (b,o) (Kk _ (Kk _ (bX hb e)))).2.1
  cases f with
  |next=>obtain⟨σ7,H7,I7,n7⟩:=q7;exact again I7 n7
  |cont=>obtain⟨σ7,H7,I7,n7⟩:=q7;exact again I7 n7
  |brk=>obtain⟨σ7,H7,I7,q7⟩:=q7;exact⟨σ7,th H7,Rq _ _ _ _ I7.unpinned,q7⟩
  |ret v=>obtain⟨x7,σ7,H7,I7,r7,q7⟩:=q7;exact⟨x7,σ7,th H7,Rq _ _ _ _ I7.unpinned,r7,q7⟩
def zi (own:List Str)(js:List Nat)(J:It)(th:Hp->Hp)(g:TG)(ti:TT)(te:TE)(Q:VK)(σ:St)(H1:Hp):Prop:=∃W:Nat->Nat->List V->Hp->Prop,(∃m,W 0 m [] H1)/\∀i m out H,W i m out H->
 (J.stop i H/\∀D,H D=none->out.length<=sizeLine/\Q (.ref D) (th (upd H D (.lst out))))\/
 (J.go i H/\∀x H',J.yld i H x H'->g x (AG own js σ) H' λσ2 H2=>σ2.drop own.length=js.map (λj=>(σ[j]?).join)/\ti σ2 H2 λb H3=>
  if b=true then te σ2 H3 λv H4=>out.length<=sizeLine/\∃m',m'<m/\W (i+1) m' (out++[v]) H4 else ∃m',m'<m/\W (i+1) m' out H3)
def kh (own:List Str)(js:List Nat)(wi:qi)(g:TG)(ti:TT)(te:TE):TE:=λσ H Q=>wi σ H λJ th H1=>zi own js J th g ti te Q σ H1
def DU:TT:=λ_ H Q=>Q true H
def Gf {X:Cx}:tU X [] DU:=Jc
def xl {X:Cx}{own:List Str}{js:List Nat}{scope:Scope}{tg iter elt:Expr}{ifs:List Expr}{pos:Pos}{g:TG}{ti:TT}{te:TE}{wi:qi}(S:FG X own js scope=true)(hc:X.calm=true)(hit:zJ X tg iter wi)
  (hg:∀C s H fp,PG (eo X own js scope C s H fp) tg g) (hi:∀C s H fp,tU (eo X own js scope C s H fp) ifs ti) (he:∀C s H fp,PE (eo X own js scope C s H fp) elt te)
  (hs:∀x,foldedSetIterable iter X.env x=pure x:=by intro _;rfl):
  PE X (.ListComp elt [⟨tg,iter,ifs,0⟩] scope pos) (kh own js wi g ti te):=by
 have SB:=yO S
 intro pins s σ H Q I h
 rw[eval_ListComp]
 refine Ov (use:=none) rfl hs (ma (SB.cells I)) SB.kind SB.names (P0 (hit pins s σ H _ I h) λv s1 h1=>P0 h1 λVB s2 h2=>?_)
 obtain⟨it,fp,tn,J,H2,e,I2,T,N',f2,th,Rq,W,⟨m0,w0⟩,turn⟩:=h2
 subst e
 refine MA (wpAny_newFunctionEnv SB.nocell (by intro y hy;simp at hy) (λh₁ hns₁ hsb₁=>?_) SB.kind)
 dsimp only at hns₁ hsb₁⊢
 generalize Ul:s2.heap.push {cls:= .type "list",dict:=none,data:= .seq ([]:List Value).toArray}=G2 at hns₁ hsb₁⊢
 have VQ:G2.objs.size=s2.heap.objs.size+1:=by rw[←Ul,Of]
 have Rp:s2.heap.objs.size≠G2.objs.size:=by rw[VQ];exact KC (Lz _)
 have hC:s2.heap.objs.size<=G2.objs.size:=by rw[VQ];exact ML _
 have old:∀b o,s2.heap.get? b=some o->h₁.get? b=some o:=λb o e=>
  hsb₁.extBut b o (KC (Kx (Kv e) hC)) (Kn _ (Ul▸Kn _ e))
 have Qm:∀b∈fp,∃o,s2.heap.get? b=some o:=λb hb=>let ⟨o,e,_⟩:=T.obj _ _ N' b hb;⟨o,e⟩
 have t_:h₁.get? s2.heap.objs.size=some {cls:= .type "list",data:= .seq ([]:List Value).toArray}:=
  hsb₁.extBut _ _ Rp (Kn _ (Ul▸KD _ rfl))
 have loop:∀s3:Shared,s3={s2 with heap:=h₁,toks:=s2.toks+([]:List (Str×Value)).length}->
   codeAny (model X.prog X.w) X.A (.compLoop (.ListComp elt [⟨tg,iter,ifs,0⟩] scope pos) 0 (.ref it) (.ref s2.heap.objs.size) (compEnvC scope (jF scope X.env) G2.objs.size X.env))
    (compPost (model X.prog X.w) X.A X.xe none (EP X pins σ Q) (.ref s2.heap.objs.size) G2.objs.size) s3:=by
  rintro s3 rfl
  refine nS (K:=λout H'=>Q (.ref s2.heap.objs.size) (th (upd H' s2.heap.objs.size (.lst out)))) SB hc T I2 f2 (Ke _) hC Rp Qm (hg _ _ _ _) (hi _ _ _ _) (he _ _ _ _) W (λi m out H' w=>?_) (λout H' s' B hl k=>?_) w0
   ⟨Inv.block SB I2 f2 Qm hC hns₁ old,I2.hok.fresh (Ke _),[],_,.nil,t_⟩ (T.keep _ _ _ N' λb _ o e=>old b o e) (λb hb=>(f2 b hb).1)
  .rcases turn i m out H' w with⟨a,b⟩|c
   .exact .inl ⟨a,λn=>b _ n⟩
   .exact .inr c
  .obtain⟨mm,hn,_⟩:=B.inv.loc
   exact⟨mm,hn,λh' sb=>⟨.ref s2.heap.objs.size,_,Rq _ _ _ _ (B.out I2 f2 (Ke _) hC Rp hl sb),rfl,k⟩⟩
 exact codeAny_compStart_list (loop _ rfl) (T.self _ 0 _ _ _ (T.keep _ _ _ N' λb _ o e=>old b o e) (loop _ rfl))
def K8 {α β : Type} {F : α -> β -> Prop} : ∀ {l₁ : List α} {l₂ : List β} {i : Nat} {a : α}, Paired F l₁ l₂ -> l₁[i]? = some a -> ∃ b, l₂[i]? = some b /\ F a b
 := by
  intro l₁ l₂ i a hp e;induction hp generalizing i with
  | nil => cases e
  | cons r _ ih => cases i with
    | zero => cases e; exact ⟨_, rfl, r⟩
    | succ i => exact ih e
section
variable {P:Program} {w:World}
def jW {k:j6}{v:Value}(h:(z7 P w).is k v=true):RelV (kV k) v:=by
 rcases J0 (show iV k v=true from h) with⟨i,t,rfl,rfl⟩|⟨x,t,rfl,rfl⟩
 .exact⟨t,rfl⟩
 .exact⟨t,rfl⟩
def yH {k:j6}{v:Value}(h:(z7 P w).is k v=true):∀a,v≠ .ref a:=by
 rcases J0 (show iV k v=true from h) with⟨i,t,rfl,rfl⟩|⟨x,t,rfl,rfl⟩<;>exact λa z=>by cases z
structure xT (P:Program) (w:World) (d:Addr) (o:Obj) (kvs:List (j6×V)) (vs:List (j6×Value)) (ep:Nat):Prop where
 kv:KV kvs vs
 at_:∀h:Heap,h.get? d=some o->h.DictAt (z7 P w) d vs ep
 nd:(kvs.map (·.1)).Nodup
def dY {H:Hp}{h:Heap}{d:Addr}{kvs:List (j6×V)}(ok:HOk P w H h)(e:Rd H d (.dK kvs)):(d==sysModules)=false/\∃o vs ep,h.get? d=some o/\xT P w d o kvs vs ep:=by
 obtain⟨z,hd,vs,rel,o,es,ep,h1,r⟩:=X3 ok e;refine⟨hd,o,vs,ep,h1,rel,λh' e'=>⟨o,es,e',r⟩,?_⟩;rw[KV.keys rel];exact r.2.2.2.2
def Ia (d:Addr)(o:Obj)(kvs:List (j6×V))(f:j6×V->V):It:=
 ⟨λi H=>H d=some (.frz o (.dK kvs))/\i<kvs.length,λi H x H'=>H'=H/\∃kv,kvs[i]?=some kv/\x=f kv,λi H=>H d=some (.frz o (.dK kvs))/\kvs.length<=i⟩
def HE (d:Addr)(o:Obj)(kvs:List (j6×V)):It:=
 ⟨λi H=>H d=some (.frz o (.dK kvs))/\i<kvs.length,λi H x H'=>∃t kv,kvs[i]?=some kv/\H t=none/\x= .ref t/\H'=upd H t (.tup [kV kv.1,kv.2]),λi H=>H d=some (.frz o (.dK kvs))/\kvs.length<=i⟩
def xE {K:Qc}{tg:Expr}{d:Addr}{o:Obj}{kvs:List (j6×V)}{vs:List (j6×Value)}{ep:Nat}(D:xT P w d o kvs vs ep)(it:Addr):
  iM P w K tg (Ia d o kvs λkv=>kV kv.1) [it] it (λi h=>h.IsKeyIter it d i vs.length ep) where
 mem:=by simp
 obj:=λi h st b hb=>by
  have e:b=it:=by simpa using hb
  subst e;obtain⟨o,e,c,dd⟩:=st;exact⟨o,e,λv z=>by rw[dd] at z;cases z⟩
 keep:=λi h h' st k=>st.at λo e=>k it (by simp) o e
 item:=by
  intro X hP hw hK hc i pins s σ H E I hf st hg;subst hP hw hK;obtain⟨Sa,hi⟩:=hg;obtain⟨f0,f1,f2,f3,f4,f5⟩:=hf it (by simp);have dat:=D.at_ s.heap (I.hok d _ Sa).1;have hl:=KV.length D.kv;obtain⟨kv,f_⟩:∃kv,kvs[i]?=some kv:=⟨kvs[i],by simp [hi]⟩
  obtain⟨⟨k,x⟩,hx⟩:∃p,vs[i]?=some p:=⟨vs[i]'(by lia),by simp [show i<vs.length by lia]⟩
  have SH:kv.1=k:=by
   have e1:(kvs.map (·.1))[i]?=some kv.1:=by rw[Kh,f_];rfl
   rw[KV.keys D.kv,Kh,hx] at e1;exact(KG e1).symm
  refine wpAny_pyNext_dict_item st dat hx λkey h' F_ hit' Qn=>?_;have I1:Inv X pins σ H {s with heap:=h'}:=I.turned (t':=s.toks) (λb o hb e=>Qn.extBut b o hb e) f0 f1 f3 f4 f5;exact⟨key,rfl,vA (yH F_) ⟨kV kv.1,H,I1,by rw[SH];exact jW F_,⟨rfl,kv,f_,rfl⟩,hit',λb hb=>(hf b hb).1⟩⟩
 done:=by
  intro X hP hw hK hc i pins s σ H E I hf st hg;subst hP hw hK;obtain⟨Sa,hi⟩:=hg;obtain⟨f0,f1,f2,f3,f4,f5⟩:=hf it (by simp);have dat:=D.at_ s.heap (I.hok d _ Sa).1;have hl:=KV.length D.kv;exact wpAny_pyNext_dict_end (I.ok.hd hc) st dat (by simp;lia) λh' eb=>⟨rfl,I.turned (t':=s.toks) (λb o hb e=>eb b o hb e) f0 f1 f3 f4 f5⟩
 self:=λ_ _ _ _ _ st h=>wpAny_pyIter_keyiter st h
def ue {K:Qc}{elts:List Expr}{x1}{z_:Pos}{d:Addr}{o:Obj}{kvs:List (j6×V)}{vs:List (j6×Value)}{ep:Nat}(D:xT P w d o kvs vs ep)(it:Addr):
  iM P w K (.Tuple elts x1 z_) (HE d o kvs) [it] it (λi h=>∃ok ov,IsItemIter h it d i vs.length ep ok ov) where
 mem:=by simp
 obj:=λi h st b hb=>by
  have e:b=it:=by simpa using hb
  subst e;obtain⟨ok,ov,e⟩:=st;exact⟨_,e,λv z=>by
   have z':Data.fields _=Data.cell v:=z;cases z'⟩
 keep:=λi h h' st k=>let ⟨ok,ov,e⟩:=st;⟨ok,ov,k it (by simp) _ e⟩
 item:=by
  intro X hP hw hK hc i pins s σ H E I hf st hg;subst hP hw hK;obtain⟨Sa,hi⟩:=hg;obtain⟨ok,ov,st⟩:=st;obtain⟨f0,f1,f2,f3,f4,f5⟩:=hf it (by simp);have dat:=D.at_ s.heap (I.hok d _ Sa).1;have hl:=KV.length D.kv;obtain⟨kv,f_⟩:∃kv,kvs[i]?=some kv:=⟨kvs[i],by simp [hi]⟩
  obtain⟨⟨k,x⟩,hx⟩:∃p,vs[i]?=some p:=⟨vs[i]'(by lia),by simp [show i<vs.length by lia]⟩
  obtain⟨SH,rx⟩:kv.1=k/\RelV kv.2 x:=by
   have q:=K8 D.kv f_;obtain⟨p,hp,r⟩:=q;rw[hx] at hp;cases hp;exact r
  refine wpAny_pyNext_items_item st dat hx λkey h' F_ Sb htup hsz hk=>?_;have Tw:it<s.heap.objs.size:=Kv st;refine⟨.ref s.heap.objs.size,rfl,wpAny_letOwnedTupleGo_items (s:={s with heap:=h'}) Sb λPu hit'' hs''=>?_⟩;have Ta:Heap.SameBut it h' Pu:=hs'';have kp:∀b o,b≠it->s.heap.get? b=some o->Pu.get? b=some o:=λb o hb e=>Ta.extBut b o hb (hk b o hb e);have Se:Pu.get? s.heap.objs.size=some {cls:= .type "tuple",data:= .seq #[key,x]}:=Ta.extBut _ _ (OY Tw) htup;have fresh:H s.heap.objs.size=none:=I.hok.fresh (Ke _);have Yo:∀b o,s.heap.get? b=some o->b≠s.heap.objs.size:=λb o e=>KC (Kv e);have hH:∀b u,H b=some u->b≠s.heap.objs.size/\b≠it:=λb u e=>⟨d9 e fresh,d9 e f0⟩
  have hok:HOk X.prog X.w (upd H s.heap.objs.size (.tup [kV kv.1,kv.2])) Pu:=λb u e=>by
   by_cases hb:b=s.heap.objs.size
   .subst hb;rw[d6] at e;cases e;refine⟨by show 2<=sizeLine;decide,[key,x],.cons (by rw[SH];exact jW F_) (.cons rx .nil),⟨_,Se,rfl,_,rfl⟩⟩
   .rw[b9 hb] at e;refine(I.hok b u e).stay (λc v hc q=>kp c v ?_ q) (λc q=>by rw[b9 (hH c _ q).1];exact q) λc xs q=>by rw[b9 (hH c _ q).1];exact q
    rcases hc with z|z
    .rw[z];exact(hH b _ e).2
    .exact(hH c _ z).2
  have I1:Inv X pins σ (upd H s.heap.objs.size (.tup [kV kv.1,kv.2])) {s with heap:=Pu}:=by
   refine I.call' (s':={s with heap:=Pu}) (ch:=[it]) rfl ⟨λb o e n hb hx=>kp b o (by simpa using hx) e,λb o e n hb hx=>⟨o.slots,kp b o (by simpa using hx) e⟩,λb o e n hx=>by rw[b9 (Yo b o e)];exact n,
    λb o e hx=>⟨o,kp b o (by simpa using hx) e⟩,λb xs e=>by rw[b9 (hH b _ e).1];exact e,λb ob v e=>by rw[b9 (hH b _ e).1];exact e,λb ps e=>⟨#[],by rw[b9 (hH b _ e).1];simpa using e⟩⟩ hok I.bare λb hb=>?_
   have e:b=it:=by simpa using hb
   subst e;exact⟨f3,f1,f4,f5⟩
  refine⟨.ref s.heap.objs.size,_,I1,rfl,⟨_,kv,f_,fresh,rfl,rfl⟩,⟨_,_,hit''⟩,λb hb=>?_⟩;have e:b=it:=by simpa using hb
  subst e;rw[b9 (KC Tw)];exact f0
 done:=by
  intro X hP hw hK hc i pins s σ H E I hf st hg;subst hP hw hK;obtain⟨Sa,hi⟩:=hg;obtain⟨ok,ov,st⟩:=st;obtain⟨f0,f1,f2,f3,f4,f5⟩:=hf it (by simp);have dat:=D.at_ s.heap (I.hok d _ Sa).1;have hl:=KV.length D.kv;exact wpAny_pyNext_items_end (I.ok.hd hc) st dat (by simp;lia) λh' eb=>⟨rfl,I.turned (t':=s.toks) (λb o hb e=>eb b o hb e) f0 f1 f3 f4 f5⟩
 self:=λ_ _ _ _ _ st h=>by
  obtain⟨ok,ov,st⟩:=st;exact PySem.W.kcp_self st h
end
section
variable {X:Cx} {tg:Expr}
def rIterD (mk:Addr->Obj->List (j6×V)->It)(v:V)(H:Hp)(R:It->(Hp->Hp)->Hp->Prop):Prop:=
 ∃d kvs,v= .ref d/\((H d=some (.dK kvs)/\((kvs.map (·.1)).Nodup->∀o,R (mk d o kvs) (thaw d) (C4 d o kvs H)))\/(∃o,H d=some (.frz o (.dK kvs))/\((kvs.map (·.1)).Nodup->R (mk d o kvs) id H)))
def rIterD.go {mk:Addr->Obj->List (j6×V)->It}{x:V}{u:Value}{pins:List (Addr×Obj)}{σ:St}{H:Hp}{s:Shared}{R:It->(Hp->Hp)->Hp->Prop}(I:Inv X pins σ H s)(r:RelV x u)(h:rIterD mk x H R):
  ∃d kvs o vs ep th H',u= .ref d/\(d==sysModules)=false/\s.heap.get? d=some o/\xT X.prog X.w d o kvs vs ep/\Inv X pins σ H' s/\Cg X th/\R (mk d o kvs) th H':=by
 obtain⟨d,kvs,e,h⟩:=h
 subst e
 cases r
 rcases h with⟨h,q⟩|⟨o,h,q⟩
 .obtain⟨hd,o,vs,ep,ho,D⟩:=dY I.hok (.inl h)
  refine⟨d,kvs,o,vs,ep,thaw d,_,rfl,hd,ho,D,I.freeze h ho,xG λob v z=>?_,q D.nd o⟩
  have z':=I.base.frzs d ob v z
  rw[h] at z';cases z'
 .obtain⟨hd,o',vs,ep,ho,D⟩:=dY I.hok (.inr ⟨o,h⟩)
  have e:=(I.hok d _ h).1
  rw[ho] at e;cases e
  exact⟨d,kvs,_,vs,ep,id,H,rfl,hd,ho,D,I,fY,q D.nd⟩
def rIter.mono {K:Qc}{v:V}{H:Hp}{R R':It->Hp->Prop}(h:rIter K v H R)(k:∀J H,R J H->R' J H):rIter K v H R':=by
 rcases h with⟨a,e,hq,q⟩|⟨a,e,hq,q⟩|⟨x,e,q⟩
 .exact .inl ⟨a,e,hq,k _ _ q⟩
 .exact .inr (.inl ⟨a,e,hq,k _ _ q⟩)
 .exact .inr (.inr ⟨x,e,k _ _ q⟩)
abbrev Jw (d:Addr)(o:Obj)(kvs:List (j6×V)):It:=Ia d o kvs λkv=>kV kv.1
def yN (K:Qc)(v:V)(H:Hp)(R:It->(Hp->Hp)->Hp->Prop):Prop:=rIter K v H (λJ H'=>R J id H')\/rIterD Jw v H R
def Ig (K:Qc)(tl:TE):qi:=λσ H R=>tl σ H λv H1=>yN K v H1 R
def Hd {l:Expr}{tl:TE}(hl:PE X l tl):zJ X tg l (Ig X.K tl):=by
 intro pins s σ H R I h;refine P0 (hl pins s σ H _ I h) λv s1 ⟨x,H1,I1,r1,q1⟩=>?_;rcases q1 with q1|q1
 .exact yc I1 r1 (q1.mono λJ H' q=>⟨id,fY,q⟩)
 .obtain⟨d,kvs,o,vs,ep,th,H',rfl,hd,ho,D,I2,Rq,q⟩:=rIterD.go I1 r1 q1;refine wpAny_pyIter_dict hd (D.at_ _ ho) ?_;refine⟨s1.heap.objs.size,[s1.heap.objs.size],_,_,H',rfl,I2.kept (t':=s1.toks) λb o e=>Kn _ e,xE D _,⟨_,KD _ rfl,rfl,rfl⟩,λb hb=>?_,th,Rq,q⟩;have e:b=s1.heap.objs.size:=by simpa using hb
  subst e;exact I2.fpOk (Ke _) (I2.hok.fresh (Ke _))
def tS (tl:TE):qi:=λσ H R=>tl σ H λv H1=>rIterD HE v H1 R
def Ar {elts:List Expr}{x1}{z_:Pos}{o:Expr}{tl:TE}{apos b_:Pos}(ho:PE X o tl)
  (i_:attributeBase o "items" X.env (eval o X.env)=eval o X.env:=by rfl) (j_:(apos.endLine==b_.line)=true:=by rfl):
  zJ X (.Tuple elts x1 z_) (.Call (.Attribute o "items" apos) [] [] b_) (tS tl):=by
 intro pins s σ H R I h
 refine Nv i_ j_ (P0 (ho pins s σ H _ I h) λv s1 ⟨x,H1,I1,r1,q1⟩=>?_)
 obtain⟨d,kvs,ob,vs,ep,th,H',rfl,hd,Qm,D,I2,Rq,q⟩:=rIterD.go I1 r1 q1
 have Tb:=(D.at_ _ Qm).dictOf
 refine⟨"dict","dict.items",F.plainAttrs_dict,F.slot_dict_items,F.type_dict_items,Tb.typeIs,Tb.mapOf.noDict,Mb rfl (NT ?_)⟩
 refine Mf F.slot_dict_items Tb.typeIs F.entry_dict_items (F.args_dict_items_1 _) (meets_dict_items (z7 X.prog X.w) d hd) ⟨⟨vs,Tb⟩,?_⟩
 have I3:Inv X pins σ H' {s1 with heap:=s1.heap.push {cls:= .type "dict_items",data:= .fields #[.ref d]}}:=I2.kept (t':=s1.toks) λb o e=>Kn _ e
 refine wpAny_pyIter_items (s:={s1 with heap:=s1.heap.push {cls:= .type "dict_items",data:= .fields #[.ref d]}}) (knd:=z7 X.prog X.w) ⟨_,KD _ rfl,rfl,rfl⟩ (D.at_ _ (Kn _ Qm)) ?_
 generalize hG:s1.heap.push {cls:= .type "dict_items",data:= .fields #[.ref d]}=G at I3⊢
 refine⟨G.objs.size,[G.objs.size],_,_,H',rfl,I3.kept (t':=s1.toks) λb o e=>Kn _ e,ue D _,⟨.none,.none,KD _ rfl⟩,λb hb=>?_,th,Rq,q⟩
 have e:b=G.objs.size:=by simpa using hb
 subst e
 exact I3.fpOk (Ke _) (I3.hok.fresh (Ke _))
end
section
variable {J:It} {th:Hp->Hp} {n:Nat} {g:TG} {tb:TS} {nx bk ct:St->Hp->Prop} {rt:VK} {σ:St} {H:Hp} {own:List Str} {js:List Nat} {ti:TT} {te:TE} {Q:VK} {K:Qc}
def zY (Pv:Nat->St->Hp->Prop)(h0:Pv 0 σ H)(Rh:∀i σ H,i<n->Pv i σ H->J.go i H)
  (hs:∀i x σ H H',i<n->Pv i σ H->J.yld i H x H'->g x σ H' λσ2 H2=>tb ⟨Pv (i+1),λv H=>rt v (th H),λσ H=>nx σ (th H),Pv (i+1)⟩ σ2 H2)
  (hd:∀σ H,Pv n σ H->J.stop n H/\nx σ (th H)):
  vL J th g tb nx rt σ H:=by
 refine⟨λi m σ H=>m=n -i/\i<=n/\Pv i σ H,⟨n,by simp,LJ _,h0⟩,?_⟩
 rintro i m σ H ⟨rfl,hi,p⟩
 by_cases n_:i<n
 .exact .inr ⟨Rh i σ H n_ p,Pv (i+1),λσ' H' p'=>⟨n -(i+1),by lia,rfl,n_,p'⟩,λx H' y=>hs i x σ H H' n_ p y⟩
 .have e:i=n:=by lia
  subst e
  exact .inl (hd σ H p)
def z8 (Pv:Nat->List V->Hp->Prop)(h0:Pv 0 [] H)(Rh:∀i out H,i<n->Pv i out H->J.go i H)
  (hs:∀(N:List V->Hp->Prop) i x out H H',i<n->Pv i out H->J.yld i H x H'->(∀Sf H',Pv (i+1) Sf H'->N Sf H')->g x (AG own js σ) H' λσ2 H2=>σ2.drop own.length=js.map (λj=>(σ[j]?).join)/\ti σ2 H2 λb H3=>
   if b=true then te σ2 H3 λv H4=>out.length<=sizeLine/\N (out++[v]) H4 else N out H3)
  (hd:∀out H,Pv n out H->J.stop n H/\∀D,H D=none->out.length<=sizeLine/\Q (.ref D) (th (upd H D (.lst out)))):
  zi own js J th g ti te Q σ H:=by
 refine⟨λi m out H=>m=n -i/\i<=n/\Pv i out H,⟨n,by simp,LJ _,h0⟩,?_⟩
 rintro i m out H ⟨rfl,hi,p⟩
 by_cases n_:i<n
 .exact .inr ⟨Rh i out H n_ p,λx H' y=>hs (λSf H'=>∃m',m'<n -i/\m'=n -(i+1)/\i+1<=n/\Pv (i+1) Sf H') i x out H H' n_ p y λSf H' q=>⟨n -(i+1),by lia,rfl,n_,q⟩⟩
 .have e:i=n:=by lia
  subst e
  exact .inl (hd out H p)
def Hf {wi:qi}(q:wi σ H λJ th H1=>vL J th g tb nx rt σ H1):xN wi g tb ⟨nx,rt,bk,ct⟩ σ H:=q
def DA {wi:qi}(q:wi σ H λJ th H1=>zi own js J th g ti te Q σ H1):kh own js wi g ti te σ H Q:=q
def GI {Qb:Bool->Hp->Prop}(q:Qb true H):DU σ H Qb:=q
def IG {tl:TE}{R:It->(Hp->Hp)->Hp->Prop}(q:tl σ H λv H1=>yN K v H1 R):Ig K tl σ H R:=q
def zu {x:Str}{R:It->(Hp->Hp)->Hp->Prop}(q:R (Its x) id H):yN K (.str x) H R:= .inl (.inr (.inr ⟨x,rfl,q⟩))
def A8 {a:Addr}{xs:List V}{R:It->(Hp->Hp)->Hp->Prop}(h:SqL K H a xs)(q:R (Itl K a) id H):yN K (.ref a) H R:= .inl (.inl ⟨a,rfl,⟨xs,h⟩,q⟩)
def aM {d:Addr}{kvs:List (j6×V)}{R:It->(Hp->Hp)->Hp->Prop}(h:H d=some (.dK kvs))(q:(kvs.map (·.1)).Nodup->∀o,R (Jw d o kvs) (thaw d) (C4 d o kvs H)):yN K (.ref d) H R:=
 .inr ⟨d,kvs,rfl,.inl ⟨h,q⟩⟩
def Cm {tl:TE}{R:It->(Hp->Hp)->Hp->Prop}(q:tl σ H λv H1=>rIterD HE v H1 R):tS tl σ H R:=q
def K4 {d:Addr}{kvs:List (j6×V)}{R:It->(Hp->Hp)->Hp->Prop}(h:H d=some (.dK kvs))(q:(kvs.map (·.1)).Nodup->∀o,R (HE d o kvs) (thaw d) (C4 d o kvs H)):rIterD HE (.ref d) H R:=⟨d,kvs,rfl,.inl ⟨h,q⟩⟩
def Dl {ta:TA}{R:It->Hp->Prop}(q:ta σ H λvs H1=>∃j:Int,vs=[.int j]/\-(2 ^ 62)<=j/\j<2 ^ 62/\R (Ih 0 j.toNat) H1):yk ta σ H R:=q
def Q5 {i:Int}{R:Int->Prop}(h0:0<=i)(h1:i<1000000)(q:R i):∃j:Int,[V.int i]=[.int j]/\-(2 ^ 62)<=j/\j<2 ^ 62/\R j:=⟨i,rfl,by lia,by lia,q⟩
def M9 {p:Prop}[Decidable p]{A B:Prop}(h1:p->A)(h2:¬p->B):if decide p=true then A else B:=by grind
def O6 {p:Prop}[Decidable p]{A B:Prop}(h1:¬p->A)(h2:p->B):if(!decide p)=true then A else B:=by grind
def aH {b:Bool}{A B:Prop}(h1:b=true->A)(h2:b=false->B):if b=true then A else B:=by grind
def ib {b:Bool}{A B:Prop}(h1:b=false->A)(h2:b=true->B):if(!b)=true then A else B:=by grind
def FO {A B:Prop}(h:A):if(!false)=true then A else B:=by rw[if_pos (by rfl)];exact h
def Gd {A B:Prop}(h:B):if(!true)=true then A else B:=by rw[if_neg (by decide)];exact h
def Gm {t u:TS}(P:St->Hp->Prop)(h1:∀σ H,P σ H->u ⟨nx,rt,bk,ct⟩ σ H)(h2:∀nx':St->Hp->Prop,(∀σ H,P σ H->nx' σ H)->t ⟨nx',rt,bk,ct⟩ σ H):jK t u ⟨nx,rt,bk,ct⟩ σ H:=h2 _ h1
def b5 {o:HO}{p:Addr}(hp:H p=none):∃H',upd H p o=H'/\H' p=some o/\Same H H'/\∀b,b≠p->H' b=H b:=⟨_,rfl,d6,λb u e=>by rw[b9 (d9 e hp)];exact e,λb hb=>b9 hb⟩
def iF {α:Type}{xs:List α}{i:Int}(h0:0<=i)(h1:i<xs.length):∃v,nX xs i=some v/\xs[i.toNat]?=some v:=by
 obtain⟨j,rfl⟩:=Int.eq_ofNat_of_zero_le h0;have hj:j<xs.length:=by lia
 exact⟨xs[j],k7 (by simp [hj]),by simp [hj]⟩
def ie (x y:Str):(x++y).length=x.length+y.length:=by
 show(x.cps++y.cps).size=_;simp [Str.length]
def aR (c:Nat):(⟨#[c]⟩:Str).length=1:=rfl
def fK (x:Str):x.length=x.cps.toList.length:=by simp [Str.length]
def d0 {n:Nat}(h:n<=1000):n<=sizeLine:=Kw h (by decide)
def Same.rd {H H':Hp}{a:Addr}{u:HO}(s:Same H H')(h:Rd H a u):Rd H' a u:=by
 rcases h with h|⟨o,h⟩
 .exact .inl (s _ _ h)
 .exact .inr ⟨o,s _ _ h⟩
def Same.tup {H H':Hp}{a:Addr}{xs:List V}(s:Same H H')(h:SqT K H a xs):SqT K H' a xs:=by
 rcases h with h|h
 .exact .inl (s.rd h)
 .exact .inr h
def TyB.mono {H H':Hp}{v:V}{t:String}(h:TyB K H v t)(s:Same H H'):TyB K H' v t:=by
 cases v with
 |ref a=>
  rcases h with⟨e,xs,h⟩|⟨e,xs,h⟩|⟨e,kvs,h⟩
  .exact .inl ⟨e,xs,s.seq h⟩
  .exact .inr (.inl ⟨e,xs,s.tup h⟩)
  .exact .inr (.inr ⟨e,kvs,s.rd h⟩)
 |_=>exact h
def Its.lt {x:Str}{i:Nat}{H H':Hp}{v:V}(h:(Its x).yld i H v H'):H'=H/\∃c,x.cps.toList[i]?=some c/\v=BO c:=by
 obtain⟨e,c,hc,hv⟩:=h;exact⟨e,c,by simpa using hc,hv⟩
def Itl.get {a:Addr}{xs:List V}{i:Nat}{H H':Hp}{v:V}(h:(Itl K a).yld i H v H')(hx:SqL K H a xs):H'=H/\xs[i]?=some v:=⟨h.1,h.2 xs hx⟩
def K3 {α β:Type}{l:List α}{i:Nat}{a:α}(f:α->β)(h:l[i]?=some a):(l.take i).map f++[f a]=(l.take (i+1)).map f:=by
 rw[KI,h];simp
end
section
variable {X:Cx} (K:Qc) {a e:Expr} {ta te:TE} {tg:Expr} {pos:Pos}
def F8 (h:X.K=K:=by rfl):OpR X (binaryOp .Add) (rl K):=h▸Be
def kIn (hu:X.A.units+1<cLine)(h:X.K=K:=by rfl):OpR X (compareOp .In) (wN K):=h▸EM hu
def N2 (hu:X.A.units+1<cLine)(h:X.K=K:=by rfl):OpR X (compareOp .NotIn) (jQ K):=h▸vZ hu
def r6 (hu:X.A.units+1<cLine)(h:X.K=K:=by rfl):IxR X (lG K):=h▸DF hu
def Cd (h:X.K=K:=by rfl):SlR X (Gu K):=h▸EX
def xp (hc:X.calm=true)(h:X.K=K:=by rfl):CallR X (.builtin "all") (xm K):=h▸wB hc
def Ir (hc:X.calm=true)(h:X.K=K:=by rfl):CallR X (.builtin "any") (GC K):=h▸vX hc
def Fq (ta:TE):TT:=λσ H Q=>ta σ H λx H'=>∃k,AA K x H' k/\Q k H'
def Jb (ha:PE X a ta)(h:X.K=K:=by rfl)(he:∀whole,isTrue a X.env whole=(do let v←whole;standAt a.pos;holding [v] (truthy v)):=by intro _;rfl):PT X a (Fq K ta):=h▸yb ha he
def EO {σ:St}{H:Hp}{Qb:Bool->Hp->Prop}(q:ta σ H λx H'=>∃k,AA K x H' k/\Qb k H'):Fq K ta σ H Qb:=q
def JO (hl:PE X a ta)(h:X.K=K:=by rfl):zJ X tg a (Ig K ta):=h▸Hd hl
def IW {es:List Expr}{k:Nat}{t:sL}{n:Nat}(hc:X.calm=true)(hg:BP X es t)(h:X.K=K:=by rfl)
  (hn:(assignEach es X.env).length=n:=by rfl) (RU:(assignEach es X.env).findIdx? (·.1)=none:=by rfl):PG X (.Tuple es k pos) (zF K n t):=h▸Dz hc hg hn RU
end
def C6:Expr->Bool
 | .Starred _ _=>false
 |_=>true
def E2 (es:List Expr):Bool:=es.all C6
def X8 {e:Expr}{es:List Expr}{env:Env}(h:C6 e=true):starEach (e::es) env=(false,eval e env)::starEach es env:=by
 cases e<;>first|rfl|cases h
theorem cV {env:Env}{pos:Pos}:∀{es:List Expr},E2 es=true->(backTo pos (starEach es env)).any (·.1)=false
 |[],_=>rfl
 |e::es,h=>by
  have h':(C6 e&&E2 es)=true:=h;rw[KO] at h';rw[X8 h'.1];show(false||(backTo pos (starEach es env)).any (·.1))=false;rw[cV h'.2];rfl
def uE {e:Expr}{es:List Expr}{env:Env}(h:C6 e=true):assignEach (e::es) env=(false,assign e env)::assignEach es env:=by
 cases e<;>first|rfl|cases h
theorem yI {env:Env}:∀{es:List Expr},E2 es=true->(assignEach es env).length=es.length
 |[],_=>rfl
 |e::es,h=>by
  have h':(C6 e&&E2 es)=true:=h;rw[KO] at h';rw[uE h'.1,Lq,yI h'.2,Lq]
theorem zt {env:Env}:∀{es:List Expr},E2 es=true->(assignEach es env).findIdx? (·.1)=none
 |[],_=>rfl
 |e::es,h=>by
  have h':(C6 e&&E2 es)=true:=h;rw[KO] at h';rw[uE h'.1,List.findIdx?_cons];simp [zt h'.2]
section
variable {X:Cx} {K:Qc} {e:Expr} {es:List Expr} {te:TE} {t:TA} {x:Str} {p pos:Pos} {id T:String} {r:List V->Hp->VK->Prop}
def JQ (ha:PE X e te)(hr:PA X es t)(h:C6 e=true:=by rfl):PA X (e::es) (uZ te t):=Bn ha hr (X8 h)
def cB (hc:CallR X (.builtin id) r)(hm:X.mg x=none)(hv:bootBuiltins x=some (.builtin id))(ha:PA X (e::es) t)(hg:Gl X x:=by rfl)(hn:x≠"__name__":=by decide)(w_:(x==("__debug__":Str))=false:=by decide)
  (h:E2 (e::es)=true:=by rfl):PE X (.Call (.Name x p) (e::es) [] pos) (Fu r t):=by
 have h':(C6 e&&E2 es)=true:=h
 rw[KO] at h'
 exact ym hc hg hm hv ha hn w_ (X8 h'.1) (cV h'.2)
def JU (hc:CallR X (.type T) r)(hm:X.mg x=none)(hv:bootBuiltins x=some (.type T))(ha:PA X (e::es) t)(hg:Gl X x:=by rfl)(hn:x≠"__name__":=by decide)(w_:(x==("__debug__":Str))=false:=by decide)
  (h:E2 (e::es)=true:=by rfl):PE X (.Call (.Name x p) (e::es) [] pos) (Fu r t):=by
 have h':(C6 e&&E2 es)=true:=h
 rw[KO] at h'
 exact vK hc hg hm hv ha hn w_ (X8 h'.1) (cV h'.2)
def cC {CX:qh}{k:Nat}{ps:List Str}{r_:List V}{sp:Sp}{E:XK}(C:U0 X.prog X.w X.K X.mg X.base CX k x ps r_ sp)(hr:Room k X.A)(hx:dE CX X E)(ha:PA X (e::es) t)(hg:Gl X x:=by rfl)
  (w_:(x==("__debug__":Str))=false:=by decide) (h:E2 (e::es)=true:=by rfl):PE X (.Call (.Name x p) (e::es) [] pos) (rq sp r_ E t):=by
 have h':(C6 e&&E2 es)=true:=h
 rw[KO] at h'
 exact zM C hr hx ha hg w_ (X8 h'.1) (cV h'.2)
def gT {tg:Expr}{k:Nat}{u:sL}(hc:X.calm=true)(hg:BP X es u)(hK:X.K=K:=by rfl)(h:E2 es=true:=by rfl):PG X (.Tuple es k pos) (zF K es.length u):=IW K hc hg hK (yI h) (zt h)
def gC {g:TG}{u:sL}(h1:PG X e g)(h2:BP X es u)(h:C6 e=true:=by rfl):BP X (e::es) (kJ g u):=yl h1 h2 (by rw[uE h];rfl)
end
structure QE (X:Cx) (e:Expr) (t:TE):Prop where
 r:PE X e t
structure QT (X:Cx) (e:Expr) (t:TT):Prop where
 r:PT X e t
structure QW (X:Cx) (e:Expr) (t:TT):Prop where
 r:PW X e t
structure QA (X:Cx) (es:List Expr) (t:TA):Prop where
 r:PA X es t
structure QS (X:Cx) (st:Stmt) (t:TS):Prop where
 r:PS X st t
structure QSs (X:Cx) (st:List Stmt) (t:TS):Prop where
 r:PSs X st t
structure QG (X:Cx) (tg:Expr) (t:TG):Prop where
 r:PG X tg t
structure Io (X:Cx) (tg:List Expr) (t:sL):Prop where
 r:BP X tg t
structure QI (X:Cx) (tg iter:Expr) (t:qi):Prop where
 r:zJ X tg iter t
structure Il (X:Cx) (ifs:List Expr) (t:TT):Prop where
 r:tU X ifs t
structure QO (X:Cx) (e:Option Expr) (t:TO):Prop where
 r:PO X e t
structure QP (X:Cx) (pos:Pos) (keys:List (Option Expr)) (values:List Expr) (Yc:List (TE×TE)):Prop where
 r:JF X pos keys values Yc
section
variable {X:Cx} {a b c e o:Expr} {es:List Expr} {ta tb tc te to:TE} {tA SV:TT} {t:TA} {aQ:List Expr} {pos apos b_ p2:Pos} {x:Str} {p:Pos} {Tx T:String}
def gi {j}:QE X (.Constant .none j pos) (tC .non):=⟨En⟩
def xM {b:Bool}{j}:QE X (.Constant (.bool b) j pos) (tC (.bl b)):=⟨Hk⟩
def d8 {i:Int}{j}:QE X (.Constant (.int i) j pos) (tC (.int i)):=⟨DB⟩
def fE {x:Str}{j}:QE X (.Constant (.str x) j pos) (tC (.str x)):=⟨Ex⟩
def qV (i:Nat)(hN:X.N[i]?=some x:=by rfl)(hv:IY X.env.scope x:=by first|exact Or.inl rfl|exact Or.inr (Or.inl rfl)|exact Or.inr (Or.inr rfl))(hd:(x==("__debug__":Str))=false:=by decide)
  (QV:(x==("__classdict__":Str))=false:=by decide):QE X (.Name x pos) (BV i):=⟨EG hN hv hd QV⟩
def Ip {v:V}(h:GP X.mg x v)(hg:Gl X x:=by rfl)(hd:(x==("__debug__":Str))=false:=by decide):QE X (.Name x pos) (tC v):=⟨FD h hg hd⟩
def DS (n:String)(hm:X.mg x=none)(hv:bootBuiltins x=some (.type n))(hg:Gl X x:=by rfl)(hn:x≠"__name__":=by decide)(hd:(x==("__debug__":Str))=false:=by decide):QE X (.Name x pos) (tC (.ty n)):=⟨AY hg hm hv rfl hn hd⟩
def C7 {op:Operator}{r:R2}(ho:OpR X (binaryOp op) r)(ha:QE X a ta)(hb:QE X b tb):QE X (.BinOp a op b pos) (AJ r ta tb):=⟨Gq ho ha.r hb.r⟩
def Jp (ha:QE X a ta):QE X (.UnaryOp .Not a pos) (Af ta):=⟨Dx ha.r⟩
def AU {op}(h:QE X a ta):QE X (.BoolOp op [a] pos) ta:=⟨Fy h.r⟩
def Cj (ha:QE X a ta)(hb:QE X (.BoolOp .And (b::aQ) pos) tb):QE X (.BoolOp .And (a::b::aQ) pos) (xZ ta tb):=⟨DE ha.r hb.r⟩
def JE (ha:QE X a ta)(hb:QE X (.BoolOp .Or (b::aQ) pos) tb):QE X (.BoolOp .Or (a::b::aQ) pos) (ER ta tb):=⟨HV ha.r hb.r⟩
def cH {op:CmpOp}{r:R2}(ho:OpR X (compareOp op) r)(ha:QE X a ta)(hb:QE X b tb)(hm:behindInMarks op b=false):QE X (.Compare a [op] [b] pos) (AJ r ta tb):=⟨Bk ho ha.r hb.r hm⟩
def w4 {op:CmpOp}{r:R2}(ho:OpR X (compareOp op) r)(ha:QE X a ta)(hb:QE X b tb)(hm:behindInMarks op b=false):QT X (.Compare a [op] [b] pos) (Al (AJ r ta tb)):=⟨Bx ho ha.r hb.r hm⟩
def HQ (hc:QT X c tA)(ha:QE X a ta)(hb:QE X b tb):QE X (.IfExp c a b pos) (Jo tA ta tb):=⟨yY hc.r ha.r hb.r⟩
def AR:QO X none oJ:=⟨Bq⟩
def Bu (h:QE X e te):QO X (some e) (Ag te):=⟨Ck h.r⟩
def Cp {lo hi:Option Expr}{tl th:TO}{r:V->Option Int->Option Int->Hp->VK->Prop}(hr:SlR X r)(he:QE X e te)(hl:QO X lo tl)(hu:QO X hi th):QE X (.Subscript e (.Slice lo hi none p2) pos) (IE r te tl th):=⟨zD hr he.r hl.r hu.r⟩
def p0 {r:R2}(hr:IxR X r)(ha:QE X a ta)(hb:QE X b tb)(hs:vp b):QE X (.Subscript a b pos) (AJ r ta tb):=⟨HD hr ha.r hb.r hs⟩
def U1 (h:QA X es t):QE X (.List es pos) (EI t):=⟨EY h.r⟩
def M8 {x1}(h:QA X es t):QE X (.Tuple es x1 pos) (DI t):=⟨DP h.r⟩
def vd:QE X (.Dict [] [] pos) yD:=⟨Ad⟩
def j8:QA X [] yg:=⟨FA⟩
def i6 (ha:QE X e te)(hr:QA X es t)(h:C6 e=true:=by rfl):QA X (e::es) (uZ te t):=⟨JQ ha.r hr.r h⟩
def qB {r:List V->Hp->VK->Prop}(hc:CallR X (.builtin Tx) r)(hm:X.mg x=none)(hv:bootBuiltins x=some (.builtin Tx))(ha:QA X (e::es) t)(hg:Gl X x:=by rfl)(hn:x≠"__name__":=by decide)(w_:(x==("__debug__":Str))=false:=by decide)
  (h:E2 (e::es)=true:=by rfl):QE X (.Call (.Name x p) (e::es) [] pos) (Fu r t):=⟨cB hc hm hv ha.r hg hn w_ h⟩
def ip {r:List V->Hp->VK->Prop}(hc:CallR X (.type T) r)(hm:X.mg x=none)(hv:bootBuiltins x=some (.type T))(ha:QA X (e::es) t)(hg:Gl X x:=by rfl)(hn:x≠"__name__":=by decide)(w_:(x==("__debug__":Str))=false:=by decide)
  (h:E2 (e::es)=true:=by rfl):QE X (.Call (.Name x p) (e::es) [] pos) (Fu r t):=⟨JU hc hm hv ha.r hg hn w_ h⟩
def qC {CX:qh}{k:Nat}{ps:List Str}{r_:List V}{sp:Sp}{E:XK}(C:U0 X.prog X.w X.K X.mg X.base CX k x ps r_ sp)(hr:Room k X.A)(hx:dE CX X E)(ha:QA X (e::es) t)(hg:Gl X x:=by rfl)
  (w_:(x==("__debug__":Str))=false:=by decide) (h:E2 (e::es)=true:=by rfl):QE X (.Call (.Name x p) (e::es) [] pos) (rq sp r_ E t):=⟨cC C hr hx ha.r hg w_ h⟩
def qM {name:Str}{r:V->List V->Hp->VK->Prop}(pa:PlainAttrs T)(slot:Slot T name Tx)(SY:typeOf (.builtin Tx)=pure (.type "method_descriptor"))(hm:yR X Tx r)(K:Qc)(ho:QE X o to)(ha:QA X (e::es) t)(hK:X.K=K:=by rfl)
  (i_:attributeBase o name X.env (eval o X.env)=eval o X.env:=by rfl)
  (h:E2 (e::es)=true:=by rfl) (h2:decide ((e::es).length<30)=true:=by rfl) (j_:(apos.endLine==b_.line)=true:=by rfl):QE X (.Call (.Attribute o name apos) (e::es) [] b_) (Iv K T r to t):=by
 have h':(C6 e&&E2 es)=true:=h
 rw[KO] at h'
 have o_:∀{l:List Expr},E2 l=true->(backTo b_ (starEach l X.env)).all (λx=>!x.1)=true:=fun{l} hl=>by
  have q:=cV (env:=X.env) (pos:=b_) hl;rw[KZ];intro y hy;rw[QH] at q;simpa using q y hy
 subst hK
 refine⟨GB pa slot SY hm ho.r ha.r i_ ?_ j_ (X8 h'.1) (cV h'.2)⟩
 rw[o_ h]
 show(true&&true&&decide ((e::es).length+0+0<30))=true
 simpa using h2
def ET {name:Str}{r:V->List V->Hp->VK->Prop}(pa:PlainAttrs T)(slot:Slot T name Tx)(SY:typeOf (.builtin Tx)=pure (.type "method_descriptor"))(hm:yR X Tx r)(K:Qc)(ho:QE X o to)(hK:X.K=K:=by rfl)
  (i_:attributeBase o name X.env (eval o X.env)=eval o X.env:=by rfl) (j_:(apos.endLine==b_.line)=true:=by rfl):QE X (.Call (.Attribute o name apos) [] [] b_) (Dm K T r to):=⟨hK▸DN pa slot SY hm ho.r i_ j_⟩
def N5 {own:List Str}{js:List Nat}{scope:Scope}{tg iter elt:Expr}{ifs:List Expr}{g:TG}{ti:TT}{wi:qi}(S:FG X own js scope=true)(hc:X.calm=true)(hit:QI X tg iter wi)
  (hg:∀C s H fp,QG (eo X own js scope C s H fp) tg g) (hi:∀C s H fp,Il (eo X own js scope C s H fp) ifs ti) (he:∀C s H fp,QE (eo X own js scope C s H fp) elt te)
  (hs:∀x,foldedSetIterable iter X.env x=pure x:=by intro _;rfl):QE X (.ListComp elt [⟨tg,iter,ifs,0⟩] scope pos) (kh own js wi g ti te):=
 ⟨xl S hc hit.r (λC s H fp=>(hg C s H fp).r) (λC s H fp=>(hi C s H fp).r) (λC s H fp=>(he C s H fp).r) hs⟩
def cf:Il X [] DU:=⟨Gf⟩
def cZ (h:QT X c tA):Il X [c] tA:=⟨Iq h.r⟩
def bI (ha:QT X a tA):QT X (.UnaryOp .Not a pos) (EC tA):=⟨DH ha.r⟩
def U8 (K:Qc)(ha:QE X a ta)(h:X.K=K:=by rfl)(he:∀whole,isTrue a X.env whole=(do let v←whole;standAt a.pos;holding [v] (truthy v)):=by intro _;rfl):QT X a (Fq K ta):=⟨Jb K ha.r h he⟩
def sf (h:QW X a tA):QT X a tA:=⟨h.r.pt⟩
def dM (ha:QT X a tA):QW X (.BoolOp .And [a] pos) tA:=⟨Ca ha.r⟩
def ic (ha:QT X a tA):QW X (.BoolOp .Or [a] pos) tA:=⟨EV ha.r⟩
def eI (ha:QT X a tA)(hb:QW X (.BoolOp .And (b::aQ) pos) SV):QW X (.BoolOp .And (a::b::aQ) pos) (Fp tA SV):=⟨Ds ha.r hb.r⟩
def lN (ha:QT X a tA)(hb:QW X (.BoolOp .Or (b::aQ) pos) SV):QW X (.BoolOp .Or (a::b::aQ) pos) (IS tA SV):=⟨FR ha.r hb.r⟩
def F4 {i:Nat}(hN:X.N.Nodup)(hi:X.N[i]?=some x)(hx:CZ X.env.scope x)(hf:X.fn x=true\/X.env.scope.names.lookup x=some .local:=by first|exact .inl rfl|exact .inr rfl|assumption):QG X (.Name x pos) (O7 i):=⟨AV hN hi hx hf⟩
def jj:Io X [] Cu:=⟨Cb⟩
def W8 {g:TG}{u:sL}(h1:QG X e g)(h2:Io X es u)(h:C6 e=true:=by rfl):Io X (e::es) (kJ g u):=⟨gC h1.r h2.r h⟩
def ji (K:Qc){k:Nat}{u:sL}(hc:X.calm=true)(hg:Io X es u)(hK:X.K=K:=by rfl)(h:E2 es=true:=by rfl):QG X (.Tuple es k pos) (zF K es.length u):=⟨gT (tg:= .Name Str.empty pos) hc hg.r hK h⟩
def mw {i:Expr}{ti:TE}{u:sZ}(ho:QE X o to)(hi:QE X i ti)(hs:xx X u)
  (ha:∀v,assign (.Subscript o i pos) X.env v=(do
   let ov←holding [v] (eval o X.env)
   let iv←holding [v,ov] (eval i X.env)
   standAt pos
   holding [v,ov,iv] (setItem ov iv v)
   release [v,ov,iv] []):=by intro _;rfl):QG X (.Subscript o i pos) (DG to ti u):=⟨ED ho.r hi.r hs ha⟩
def P5 (K:Qc){tg:Expr}(hl:QE X a ta)(h:X.K=K:=by rfl):QI X tg a (Ig K ta):=⟨JO K hl.r h⟩
def Ha (wi:TI):qi:=λσ H R=>wi σ H λJ H'=>R J id H'
def FW {wi:TI}{σ:St}{H:Hp}{R:It->(Hp->Hp)->Hp->Prop}(q:wi σ H λJ H'=>R J id H'):Ha wi σ H R:=q
def iO {tg:Expr}(hm:X.mg "range"=none)(ha:QA X [a] t)(hg:Gl X "range":=by rfl)(h:C6 a=true:=by rfl):QI X tg (.Call (.Name "range" p) [a] [] pos) (Ha (yk t)):=⟨(vO hg hm ha.r (X8 h)).two⟩
def Z5 {elts:List Expr}{x1}{z_:Pos}(ho:QE X o to)
  (i_:attributeBase o "items" X.env (eval o X.env)=eval o X.env:=by rfl) (j_:(apos.endLine==b_.line)=true:=by rfl):QI X (.Tuple elts x1 z_) (.Call (.Attribute o "items" apos) [] [] b_) (tS to):=⟨Ar ho.r i_ j_⟩
variable {st:Stmt} {sts body orelse:List Stmt} {u u':TS} {g:TG}
def bR:QSs X [] Ac:=⟨Bm⟩
def D0 (h:QS X st u):QSs X [st] u:=⟨Cf h.r⟩
def A0 (h1:QS X st u)(h2:QSs X sts u'):QSs X (st::sts) (jK u u'):=⟨yL h1.r h2.r⟩
def u7 {i:Nat}{pos':Pos}(hN:X.N.Nodup)(hi:X.N[i]?=some x)(hx:CZ X.env.scope x)(he:QE X e te)(hs:swapsWith e (some (.Name x pos')) pos.line X.env=pure false:=by rfl)(hf:X.fn x=true\/X.env.scope.names.lookup x=some .local:=by first|exact .inl rfl|exact .inr rfl):
  QS X (.Assign [.Name x pos'] e pos) (tF te (O7 i)):=⟨Dp hN hi hx he.r hs hf⟩
def Q9 {tg:Expr}(he:QE X e te)(hg:QG X tg g)(hs:swapsWithSole [tg] e pos.line X.env=pure false:=by rfl)(hw:swappedStores [tg] e X.env=pure none:=by rfl)(h:C6 tg=true:=by rfl):QS X (.Assign [tg] e pos) (tF te g):=
 ⟨Ei he.r hg.r hs hw (by rw[uE h];rfl)⟩
def bD (hc:QT X c tA)(ht:QSs X body u)(he:QSs X orelse u'):QS X (.If c body orelse pos) (Fm tA u u'):=⟨Hn hc.r ht.r he.r⟩
def B8 (he:QE X e te):QS X (.Return (some e) pos) (xS te):=⟨EU he.r⟩
def vo (he:QE X e te)(hs:swapsWith e none pos.line X.env=pure false:=by rfl):QS X (.Expr e pos) (yV te):=⟨AM he.r hs⟩
def S8 {tg iter:Expr}{wi:qi}(hp:PassesOwn (model X.prog X.w) X.A X.env X.xe)(hc:X.calm=true)(hi:QI X tg iter wi)(hg:QG X tg g)(hb:QSs X body u)(hs:∀x,foldedSetIterable iter X.env x=pure x:=by intro _;rfl):QS X (.For tg iter body [] pos) (xN wi g u):=
 ⟨Bh hp hc hi.r hg.r hb.r hs⟩
def DC (hp:PassesOwn (model X.prog X.w) X.A X.env X.xe)(hc:QT X c tA)(hb:QSs X body u):QS X (.While c body [] pos) (yh tA u):=⟨Aa hp hc.r hb.r⟩
end
theorem aC:∀{ss:List Str} {us:List Value},Vals (ss.map V.str) us->StrsAre us ss
 |[],_,.nil=> .nil
 |x::ss,_,.cons r t=>by
  obtain⟨k,rfl⟩:=r;exact .cons x k (aC t)
theorem ay:∀{us:List Value} {ss:List Str},StrsAre us ss->Vals (ss.map V.str) us
 |_,_,.nil=> .nil
 |_,_,.cons y t r=> .cons ⟨t,rfl⟩ (ay r)
theorem ah:∀{xs:List V} {us:List Value},xs.length=us.length->(∀(i:Nat) x u,xs[i]?=some x->us[i]?=some u->RelV x u)->Vals xs us
 |[],[],_,_=> .nil
 |[],_::_,h,_=>by simp at h
 |_::_,[],h,_=>by simp at h
 |x::xs,u::us,h,k=> .cons (k 0 x u rfl rfl) (ah (by simpa using h) λi y v e1 e2=>k (i+1) y v (by simpa using e1) (by simpa using e2))
section
variable {X:Cx}
def Inv.newL {pins:List (Addr×Obj)}{σ:St}{H:Hp}{s:Shared}{h':Heap}{tk:Nat}{a:Addr}{xs:List V}{out:Array Value}{e:Nat}(I:Inv X pins σ H s)(k:∀b u,s.heap.get? b=some u->h'.get? b=some u)(ha:s.heap.objs.size<=a)
  (ho:h'.get? a=some {cls:= .type "list",data:= .seq out e}) (rv:Vals xs out.toList) (hz:xs.length<=sizeLine):Inv X pins σ (upd H a (.lst xs)) {s with heap:=h',toks:=tk}:=
 I.laid k ha ⟨hz,out.toList,e,rv,by rw[ho]⟩
def ObjOk.live {P:Program}{w:World}{H:Hp}{h:Heap}{a:Addr}{o:HO}(x:ObjOk P w H h a o):∃ob,h.get? a=some ob:=by
 cases o with
 |lst xs=>obtain⟨_,_,_,_,e⟩:=x;exact⟨_,e⟩
 |tup xs=>obtain⟨_,_,_,o,e,_⟩:=x;exact⟨_,e⟩
 |dK kvs=>obtain⟨_,_,_,_,o,_,_,e,_⟩:=x;exact⟨_,e⟩
 |dT kvs=>obtain⟨_,_,_,_,o,_,_,e,_⟩:=x;exact⟨_,e⟩
 |set S n=>obtain⟨o,_,_,_,e,_⟩:=x;exact⟨_,e⟩
 |ins C dx fs=>obtain⟨_,_,_,e,_⟩:=x;exact⟨_,e⟩
 |own y=>exact x
 |xd fs=>obtain⟨_,⟨_,_,_,e,_⟩,_⟩:=x;exact⟨_,e⟩
 |rng lo hi=>obtain⟨_,_,_,e⟩:=x;exact⟨_,e⟩
 |frz ob u=>obtain⟨e,_⟩:=x;exact⟨_,e⟩
 |tbl ps=>exact⟨_,(show h.get? a=some _ from x)⟩
 |met f y=>exact⟨_,(show h.get? a=some _ from x)⟩
 |ext φ=>obtain⟨_,e,_⟩:=x;exact e
def Inv.newN {pins:List (Addr×Obj)}{σ:St}{H:Hp}{s:Shared}{h':Heap}{tk:Nat}{a:Addr}{xs:List V}{out:Array Value}{e:Nat}(I:Inv X pins σ H s)(k:∀b u,s.heap.get? b=some u->h'.get? b=some u)(hn:s.heap.get? a=none)
  (ho:h'.get? a=some {cls:= .type "list",data:= .seq out e}) (rv:Vals xs out.toList) (hz:xs.length<=sizeLine):H a=none/\Inv X pins σ (upd H a (.lst xs)) {s with heap:=h',toks:=tk}:=by
 have hH:H a=none:=by
  cases q:H a with
  |none=>rfl
  |some u=>
   obtain⟨ob,z⟩:=(I.hok a u q).live
   rw[hn] at z;cases z
 have na:∀b o,s.heap.get? b=some o->b≠a:=λb o z w=>by rw[w,hn] at z;cases z
 have nh:∀b u,H b=some u->b≠a:=λb u z=>d9 z hH
 refine⟨hH,I.un ⟨λb o z n _ _=>k b o z,λb o z n _ _=>⟨o.slots,k b o z⟩,λb o z n _=>by rw[b9 (na b o z)];exact n,λb o z _=>⟨o,k b o z⟩,λb ys z=>by rw[b9 (nh b _ z)];exact z,
  λb ob u z=>by rw[b9 (nh b _ z)];exact z,λb ps z=>⟨#[],by rw[b9 (nh b _ z)];simpa using z⟩⟩ λb u z=>?_⟩
 by_cases hb:b=a
 .subst hb
  rw[d6] at z;cases z
  exact⟨hz,out.toList,e,rv,by rw[ho]⟩
 .rw[b9 hb] at z
  exact(I.hok b u z).stay (λc v _ y=>k c v y) (λc y=>by rw[b9 (nh c _ y)];exact y) λc ys y=>by rw[b9 (nh c _ y)];exact y
def pf (K:Qc):List V->Hp->VK->Prop:=λxs H Q=>∃(p:Addr) (ss:List Str),xs=[.ref p]/\(SqL K H p (ss.map V.str)\/∃kvs:List (j6×V),Rd H p (.dK kvs)/\kvs.map (·.1)=ss.map Sum.inr)/\ss.length<64/\
 ∀l_:List Str,l_.Perm ss->sortedS l_=true->∀l,H l=none->Q (.ref l) (upd H l (.lst (l_.map V.str)))
def nY {M:Program}{w:World}{A:Around}{E:Value->Shared->Prop}{s:Shared}{a:Addr}{vs:List Value}{ss:List Str}{n:Nat}{Q:Value->Shared->Prop}(ho:s.heap.get? a=some (seqObj "list" vs.toArray n))(hS:StrsAre vs ss)(VR:vs.length<64)
  (h:∀(out:Array Value) (l_:List Str),StrsAre out.toList l_->l_.Perm ss->sortedS l_=true->Q .none {s with heap:=sortedHeap s.heap a vs out}):
  wpAny (model M w) A (call (.builtin "list.sort") [.ref a]) Q E s:=by
 refine NP PySem.F.slot_list_sort ⟨_,ho,rfl⟩ PySem.F.entry_list_sort ?_ (PySem.F.args_list_sort_1 _)
 refine list_sort_treeK strKind_oneLt ho hS.keysOf (λv₁ v₂ aQ e=>keyKind_strs (by rw[←e];exact hS)) VR λv_ hp hs=>?_
 obtain⟨l_,h1,h2,h3⟩:=sorted_out_str hS hp hs
 exact⟨_,rfl,h _ l_ h1 h2 h3⟩
def oK (hc:X.calm=true):CallR X (.builtin "sorted") (pf X.K):=by
 intro pins s σ H xs us Q I r h;obtain⟨p,ss,rfl,hx,VR,q⟩:=h;obtain⟨u,rfl,ru⟩:=V4 r;cases ru;have hsl:(64:Nat)<=sizeLine:=by decide
 rcases hx with hx|⟨kvs,hx,hk⟩
 .obtain⟨a_,rv,ht,hz⟩:=I.list hx;have hS:=aC rv;have hl:a_.length=ss.length:=by have:=rv.length;simpa using this.symm
  refine sorted_strs ht.isList hS (by lia) λout l_ a1 a2 a3=>?_;obtain⟨e,he⟩:=sortedAll_at s.heap a_ out;have Tt:=a2.length_eq;exact⟨.ref (s.heap.objs.size+1),_,I.newL (tk:=s.toks) (λ_ _=>sortedAll_old) (ML _) he (ay a1) (by rw[Kb];lia),rfl,q l_ a2 a3 _ (I.hok.fresh (ML _))⟩
 .obtain⟨hd,o,vs,ep,ho,D⟩:=dY I.hok hx;have dat:=D.at_ _ ho;have hlen:kvs.length=ss.length:=by have:=LK List.length hk;simpa using this
  have O_:=KV.length D.kv;refine Og kind_sorted plain_sorted entry_sorted (args_sorted1 _) ?_;unfold Builtin.«sorted»;refine Ko (m:=checkCount "sorted" 1 1 _) (Ky ?_);refine Ko (PK (A:=X.A.in1) (PySem.W.kdl_dict (knd:=z7 X.prog X.w) (kvs:=vs) (ep:=ep) hd) (I.ok.hd hc) dat (by lia) λh' tk acc hkp t_=>?_);have hl:acc.toList.length=vs.length:=by rw[MH];exact t_.1
  have hS:StrsAre acc.toList ss:=by
   refine aC (ah (by rw[Kb];lia) λi x u e1 e2=>?_);obtain⟨k,y,hy,Yp⟩:=t_.2 i u (by rw[←Ms];exact e2);have e3:(kvs.map (·.1))[i]?=some k:=by rw[KV.keys D.kv,Kh,hy];rfl
   rw[hk,Kh] at e3;rw[Kh] at e1;cases e4:ss[i]? with
   |none=>rw[e4] at e1;cases e1
   |some z=>
    rw[e4] at e1 e3
    cases e1
    cases e3
    exact jW Yp
  refine Ko (wpAny_newList ?_ (by rw[hl];lia));refine Ko (LG (nY (s:={s with heap:=h'.push {cls:= .type "list",data:= .seq acc.toList.toArray},toks:=tk}) (n:=0) (KD _ rfl) hS (by lia) λout l_ a1 a2 a3=>?_));obtain⟨e,he⟩:=sortedHeap_at (h:=h'.push {cls:= .type "list",data:= .seq acc.toList.toArray}) (a:=h'.objs.size) (vs:=acc.toList) (n:=0) (out:=out) (KD _ rfl);have g_:s.heap.get? h'.objs.size=none:=by
   cases z:s.heap.get? h'.objs.size with
   |none=>rfl
   |some ob=>exact absurd (Kv (hkp _ _ z)) (LN _)
  have Tt:=a2.length_eq;obtain⟨hH,I2⟩:=I.newN (tk:=tk) (h':=sortedHeap (h'.push {cls:= .type "list",data:= .seq acc.toList.toArray}) h'.objs.size acc.toList out) (xs:=l_.map V.str) (λb u eb=>by
   have hb:=Kv (hkp b u eb);rw[sortedHeap_old (b:=b) (KC hb) (by rw[Of];exact QJ hb)];exact Kn _ (hkp b u eb)) g_ he (ay a1) (by rw[Kb];lia)
  exact Ky ⟨_,rfl,.ref h'.objs.size,_,I2,rfl,q l_ a2 a3 _ hH⟩
def CV (K:Qc):List V->Hp->VK->Prop:=λxs H Q=>(∃p ys,xs=[.ref p]/\(SqL K H p ys\/SqT K H p ys)/\∀l,H l=none->Q (.ref l) (upd H l (.lst ys)))\/
 (∃(p:Addr) (kvs:List (j6×V)),xs=[.ref p]/\Rd H p (.dK kvs)/\∀l,H l=none->Q (.ref l) (upd H l (.lst (kvs.map λkv=>kV kv.1))))
def tH (hc:X.calm=true):CallR X (.type "list") (CV X.K):=by
 refine call_list_of.or ?_;intro pins s σ H xs us Q I r h;obtain⟨p,kvs,rfl,hx,q⟩:=h;obtain⟨u,rfl,ru⟩:=V4 r;cases ru;obtain⟨hd,o,vs,ep,ho,D⟩:=dY I.hok hx;have O_:=KV.length D.kv;have hz:kvs.length<=sizeLine:=(X3 I.hok hx).1;refine PySem.W.kdl_call (PySem.W.kdl_dict (knd:=z7 X.prog X.w) (kvs:=vs) (ep:=ep) hd) (I.ok.hd hc) (D.at_ _ ho) (by lia) λh' tk acc c hkp hS t_=>?_;refine⟨.ref s.heap.objs.size,_,I.newL (tk:=tk) hkp (Ke _) hS (ah (by have:=t_.1;simp;lia) λi x u e1 e2=>?_) (by rw[Kb];exact hz),rfl,q _ (I.hok.fresh (Ke _))⟩;obtain⟨k,y,hy,Yp⟩:=t_.2 i u (by rw[←Ms];exact e2);rw[Kh] at e1;cases e4:kvs[i]? with
 |none=>rw[e4] at e1;cases e1
 |some kv=>
  rw[e4] at e1
  cases e1
  have e3:(kvs.map (·.1))[i]?=some kv.1:=by rw[Kh,e4];rfl
  rw[KV.keys D.kv,Kh,hy] at e3
  cases e3
  exact jW Yp
def CG:List V->Hp->VK->Prop:=λxs H Q=>∃(p:Addr) (kvs:List (j6×V)),xs=[.ref p]/\Rd H p (.dK kvs)/\∀l,H l=none->Q (.ref l) (upd H l (.dK kvs))
def tD:CallR X (.type "dict") CG:=by
 intro pins s σ H xs us Q I r h;obtain⟨p,kvs,rfl,hx,q⟩:=h;obtain⟨u,rfl,ru⟩:=V4 r;cases ru;exact Ai I hx λl s' hl I'=>⟨.ref l,_,I',rfl,q l hl⟩
def CT:R2:=λx y H Q=>rI CMul (λi j=> .int (i*j)) x y H Q\/(∃z n,x= .str z/\y= .int n/\z.length<=1000/\-1000<=n/\n<=1000/\Q (.str (Txt.mul z n)) H)
def O9:OpR X (binaryOp .Mult) CT:=by
 refine op_mul.or ?_;intro pins s σ H x y v u Q I rx ry h;obtain⟨z,n,rfl,rfl,h1,h2,h3,q⟩:=h;obtain⟨t,rfl⟩:=rx;obtain⟨t',rfl⟩:=ry;exact SB.mul (mulOk_of 1000 1000 h1 h3 (by lia) (by decide) (by decide)) λt2 k=>⟨.str _,H,I.tok _,⟨t2,rfl⟩,q⟩
def uI:sZ:=λo i v H Q=>CO o i v H Q\/(∃a H',o= .ref a/\DPut H a i v H'/\Q H')
def AW (hu:X.A.units+1<cLine):xx X uI:=by
 intro pins s σ H o i v ov iv u Q I ro ri rv h;rcases h with h|⟨a,H',rfl,g,q⟩
 .exact yi pins s σ H o i v ov iv u Q I ro ri rv h
 .cases ro;exact xI hu I g ri rv λs' I'=>⟨H',I',q⟩
end
section
variable {X:Cx}
def Inv.pairNew {pins:List (Addr×Obj)}{σ:St}{H:Hp}{s:Shared}{fp:List Addr}{h':Heap}{tk:Nat}{x y:V}{u v:Value}{e:Nat}(I:Inv X pins σ H s)(hf:∀b∈fp,fZ X pins H b)
  (kp:∀b o,b∉fp->s.heap.get? b=some o->h'.get? b=some o) (there:∀b∈fp,b<s.heap.objs.size) (tup:h'.get? s.heap.objs.size=some {cls:= .type "tuple",data:= .seq #[u,v] e}) (rx:RelV x u) (ry:RelV y v):
  H s.heap.objs.size=none/\Inv X pins σ (upd H s.heap.objs.size (.tup [x,y])) {s with heap:=h',toks:=tk}/\∀b∈fp,upd H s.heap.objs.size (.tup [x,y]) b=none:=by
 have fresh:H s.heap.objs.size=none:=I.hok.fresh (Ke _)
 have Yo:∀b o,s.heap.get? b=some o->b≠s.heap.objs.size:=λb o z=>KC (Kv z)
 have hH:∀b w,H b=some w->b≠s.heap.objs.size/\b∉fp:=λb w z=>⟨d9 z fresh,λm=>by rw[(hf b m).1] at z;cases z⟩
 have hok:HOk X.prog X.w (upd H s.heap.objs.size (.tup [x,y])) h':=λb w z=>by
  by_cases hb:b=s.heap.objs.size
  .subst hb;rw[d6] at z;cases z;exact⟨by show 2<=sizeLine;decide,[u,v],.cons rx (.cons ry .nil),⟨_,tup,rfl,_,rfl⟩⟩
  .rw[b9 hb] at z;refine(I.hok b w z).stay (λc ob hc q=>kp c ob ?_ q) (λc q=>by rw[b9 (hH c _ q).1];exact q) λc ys q=>by rw[b9 (hH c _ q).1];exact q
   rcases hc with m|m
   .rw[m];exact(hH b _ z).2
   .exact(hH c _ m).2
 refine⟨fresh,I.call' (s':={s with heap:=h',toks:=tk}) (ch:=fp) rfl ⟨λb o z n _ hx=>kp b o hx z,λb o z n _ hx=>⟨o.slots,kp b o hx z⟩,λb o z n _=>by rw[b9 (Yo b o z)];exact n,
  λb o z hx=>⟨o,kp b o hx z⟩,λb ys z=>by rw[b9 (hH b _ z).1];exact z,λb ob w z=>by rw[b9 (hH b _ z).1];exact z,λb ps z=>⟨#[],by rw[b9 (hH b _ z).1];simpa using z⟩⟩ hok I.bare λb hb=>?_,λb hb=>?_⟩
 .obtain⟨f0,f1,f2,f3,f4,f5⟩:=hf b hb
  exact⟨f3,f1,f4,f5⟩
 .rw[b9 (KC (there b hb))];exact(hf b hb).1
def Inv.turnedAll {pins:List (Addr×Obj)}{σ:St}{H:Hp}{s:Shared}{fp:List Addr}{h':Heap}{tk:Nat}(I:Inv X pins σ H s)(hf:∀b∈fp,fZ X pins H b)
  (kp:∀b o,b∉fp->s.heap.get? b=some o->h'.get? b=some o):Inv X pins σ H {s with heap:=h',toks:=tk}:=by
 have hH:∀b w,H b=some w->b∉fp:=λb w z m=>by rw[(hf b m).1] at z;cases z
 refine I.call' (s':={s with heap:=h',toks:=tk}) (ch:=fp) rfl ⟨λb o z n _ hx=>kp b o hx z,λb o z n _ hx=>⟨o.slots,kp b o hx z⟩,λb o z n _=>n,
  λb o z hx=>⟨o,kp b o hx z⟩,λb ys z=>z,λb ob w z=>z,λb ps z=>⟨#[],by simpa using z⟩⟩ (λb w z=>?_) I.bare λb hb=>?_
 .refine(I.hok b w z).stay (λc ob hc q=>kp c ob ?_ q) (λc q=>q) λc ys q=>q
  rcases hc with m|m
  .rw[m];exact hH b _ z
  .exact hH c _ m
 .obtain⟨f0,f1,f2,f3,f4,f5⟩:=hf b hb
  exact⟨f3,f1,f4,f5⟩
end
def IF (K:Qc)(l:Addr):It:=
 ⟨λi H=>∃xs x,SqL K H l xs/\xs[i]?=some x,λi H x H'=>∃t v,(∀xs,SqL K H l xs->xs[i]?=some v)/\H t=none/\x= .ref t/\H'=upd H t (.tup [.int i,v]),λi H=>∃xs,SqL K H l xs/\xs.length<=i⟩
def xD {P:Program}{w:World}{K:Qc}{elts:List Expr}{x1}{z_:Pos}{en it l:Addr}(G_:en≠it):iM P w K (.Tuple elts x1 z_) (IF K l) [en,it] en (λi h=>∃old,IsEnum h en it i old/\h.IsListIter it l i) where
 mem:=by simp
 obj:=λi h st b hb=>by
  obtain⟨old,h1,o,e,c,d⟩:=st;have Qz:b=en\/b=it:=by simpa using hb
  rcases Qz with rfl|rfl
  .exact⟨_,h1,λv z=>by
    have z':Data.fields _=Data.cell v:=z;cases z'⟩
  .exact⟨o,e,λv z=>by rw[d] at z;cases z⟩
 keep:=λi h h' st k=>by
  obtain⟨old,h1,h2⟩:=st;exact⟨old,k en (by simp) _ h1,h2.at λo e=>k it (by simp) o e⟩
 item:=by
  intro X hP hw hK hc i pins s σ H E I hf st hg;subst hP hw hK;obtain⟨old,Sg,N'⟩:=st;obtain⟨xs,x,hq,hx⟩:=hg;obtain⟨a_,rv,p,hz⟩:=I.list hq;obtain⟨u,hu,ru⟩:=rv.get hx;have Pw:en<s.heap.objs.size:=Kv Sg;have hit:it<s.heap.objs.size:=by obtain⟨o,e,_⟩:=N';exact Kv e
  refine wpAny_pyNext_enum_item Sg N' p.isList (x:=u) (by simpa using hu) G_ λh' Ts hit1 ht1 Yq SI=>?_;refine⟨.ref s.heap.objs.size,rfl,wpAny_letOwnedTupleGo_enum (s:={s with heap:=h',toks:=s.toks+1}) Ts λPu he'' hs''=>?_⟩;have Ta:Heap.SameBut en h' Pu:=hs'';have Se:Pu.get? s.heap.objs.size=some {cls:= .type "tuple",data:= .seq #[.int i s.toks,u]}:=Ta.extBut _ _ (OY Pw) ht1;obtain⟨fr,I1,fr2⟩:=I.pairNew (fp:=[en,it]) (h':=Pu) (tk:=s.toks+1) (x:= .int i) (y:=x) hf (λb o hb e=>by
   have Qz:b≠en/\b≠it:=by simpa using hb
   exact Ta.extBut b o Qz.1 (SI b o Qz.1 Qz.2 e)) (λb hb=>by
   have Qz:b=en\/b=it:=by simpa using hb
   rcases Qz with rfl|rfl
   .exact Pw
   .exact hit) Se ⟨_,rfl⟩ ru
  refine⟨.ref s.heap.objs.size,_,I1,rfl,⟨_,x,λys hy=>by rw[I.list_inj hy hq];exact hx,fr,rfl,rfl⟩,⟨_,he'',?_⟩,fr2⟩;exact hit1.at λo e=>Ta.extBut it o (Mc G_) e
 done:=by
  intro X hP hw hK hc i pins s σ H E I hf st hg;subst hP hw hK;obtain⟨old,Sg,N'⟩:=st;obtain⟨xs,hq,hx⟩:=hg;obtain⟨a_,rv,p,hz⟩:=I.list hq;have hl:=rv.length;exact wpAny_pyNext_enum_end (I.ok.hd hc) Sg N' p.isList (by simp;lia) λh' eb=>⟨rfl,I.turnedAll (fp:=[en,it]) (tk:=s.toks) hf λb o hb e=>eb b o (by
   have Qz:b≠en/\b≠it:=by simpa using hb
   exact Qz.2) e⟩
 self:=λ_ _ _ _ _ st h=>by
  obtain⟨old,Sg,N'⟩:=st;exact wpAny_pyIter_enum Sg h
section
variable {X:Cx} {a b:Expr} {t:TA} {p pos:Pos}
end
section
variable {X:Cx} {a b:Expr} {t:TA} {p pos:Pos}
end
section
variable {X:Cx} (K:Qc) {a b:Expr} {t:TA} {p pos:Pos}
def L7 (hc:X.calm=true)(h:X.K=K:=by rfl):CallR X (.builtin "sorted") (pf K):=h▸oK hc
end
def E1 {X:Cx}:yR X "list.append" uV:=vP
section
variable {K:Qc} {σ:St} {H:Hp} {Q:VK}
def A6 {p:Addr}{kvs:List (j6×V)}{ss:List Str}(h:Rd H p (.dK kvs))(hk:kvs.map (·.1)=ss.map Sum.inr)(VR:ss.length<64)(q:∀l_:List Str,l_.Perm ss->sortedS l_=true->∀l,H l=none->Q (.ref l) (upd H l (.lst (l_.map V.str)))):pf K [.ref p] H Q:=⟨p,ss,rfl,.inr ⟨kvs,h,hk⟩,VR,q⟩
def xy {i j:Int}(h:CMul i j)(q:Q (.int (i*j)) H):CT (.int i) (.int j) H Q:= .inl ⟨i,j,rfl,rfl,h,q⟩
def Dn {to ti:TE}{t:sZ}{v:V}{Qs:St->Hp->Prop}(q:to σ H λo H1=>ti σ H1 λi H2=>t o i v H2 λH3=>Qs σ H3):DG to ti t v σ H Qs:=q
def B5 {a:Addr}{kvs:List (j6×V)}{k:j6}{v:V}{Qh:Hp->Prop}(h:H a=some (.dK kvs))(hl:kvs.length<sizeLine)(q:Qh (upd H a (.dK (E9 kvs k v)))):uI (.ref a) (kV k) v H Qh:= .inr ⟨a,_,rfl,DPut.k h hl,q⟩
def I0 {n:Nat}{t:sL}{a:Addr}{xs:List V}{Qs:St->Hp->Prop}(h:SqT K H a xs)(hl:xs.length=n)(q:t xs σ H Qs):zF K n t (.ref a) σ H Qs:=⟨a,xs,rfl,h,hl,q⟩
def BC {t:TG}{u:sL}{v:V}{r:List V}{Qs:St->Hp->Prop}(q:t v σ H λσ' H'=>u r σ' H' Qs):kJ t u (v::r) σ H Qs:=⟨v,r,rfl,q⟩
def Fx {Qs:St->Hp->Prop}(q:Qs σ H):Cu [] σ H Qs:=⟨rfl,q⟩
def ID {T:String}{r:V->List V->Hp->VK->Prop}{to:TE}{t:TA}(q:to σ H λx H1=>Hq K T x H1/\t σ H1 λxs H2=>r x xs H2 Q):Iv K T r to t σ H Q:=q
def GV {T:String}{r:V->List V->Hp->VK->Prop}{to:TE}(q:to σ H λx H1=>Hq K T x H1/\r x [] H1 Q):Dm K T r to σ H Q:=q
def aF {p:Addr}{x:V}{o:Option V}(g:DGet H p x o)(q:Q (.bl o.isSome) H):wN K x (.ref p) H Q:= .inr (.inr ⟨p,o,rfl,g,q⟩)
def N7 {p:Addr}{x:V}{o:Option V}(g:DGet H p x o)(q:Q (.bl (!o.isSome)) H):jQ K x (.ref p) H Q:= .inr (.inr ⟨p,o,rfl,g,q⟩)
def qu {p:Addr}{x:V}{xs:List V}(h:SqL K H p xs\/SqT K H p xs)(h1:J5 x=true)(h2:xs.all J5=true)(q:Q (.bl (GG x xs)) H):wN K x (.ref p) H Q:= .inr (.inl ⟨p,xs,rfl,h,h1,h2,q⟩)
def gS {p:Addr}{xs:List V}{lo hi:Option Int}(h:SqT K H p xs)(hw:¬(HT.sIx xs.length 0 lo=0/\HT.sIx xs.length xs.length hi=xs.length))(q:∀p,H p=none->Q (.ref p) (upd H p (.tup (fJ xs lo hi)))):Gu K (.ref p) lo hi H Q:= .inr (.inl ⟨p,xs,rfl,h,hw,q⟩)
def K1 {a:Addr}{kvs:List (j6×V)}{k:j6}(e:Rd H a (.dK kvs)):DGet H a (kV k) (A4 kvs k):= .inl ⟨kvs,k,e,rfl,rfl⟩
end
open PySem.AutoSeq1 (wpAny_loadPart')
def EqP (P:Program)(w:World)(A:Around)(s:Shared)(y x:Value)(b:Bool):Prop:=∀(E:Value->Shared->Prop) (Q:Bool->Shared->Prop),Q b s->wpAny (model P w) A (eqBool y x) Q E s
def RcP (P:Program)(w:World)(A:Around)(s:Shared)(y x:Value)(b:Bool):Prop:=∀(E:Value->Shared->Prop) (Q:Value->Shared->Prop),Q (.bool b) s->wpAny (model P w) A (richCompare .Eq y x) Q E s
def EqP.of {P:Program}{w:World}{A:Around}{s:Shared}{y x:Value}{b:Bool}(h:SeqAt.EqAt A s y x b):EqP P w A s y x b:=λE Q q=>h P w E Q q
def EqP.refs {P:Program}{w:World}{A:Around}{s:Shared}{l m:Addr}{k:Bool}(G_:l≠m)(h:RcP P w A s (.ref l) (.ref m) k):EqP P w A s (.ref l) (.ref m) k:=λE Q q=>by
 unfold eqBool;refine LG (wpAny_ite_split (λz=>absurd (Value.ref.inj (eq_of_beq z)) G_) λ_=>Ko (h E _ (Md q)))
def DD {P:Program}{w:World}(l m:Addr)(xs ys:Array Value)(n1 n2:Nat)(d1 d2:Option Addr)(s1 s2:Array (Option Value))(f:Nat->Bool):
  MeetsIn P w (Builtin.«tuple.__eq__» ⟨[.ref l,.ref m],[]⟩) (λA R s=>
   s.heap.get? l=some {cls:= .type "tuple",dict:=d1,data:= .seq xs n1,slots:=s1}/\s.heap.get? m=some {cls:= .type "tuple",dict:=d2,data:= .seq ys n2,slots:=s2}/\
   (∀j (g1:j<xs.size) (g2:j<ys.size),EqP P w A.in1 s xs[j] ys[j] (f j))/\
   R (.ok (.ret (.bool ((List.range (min xs.size ys.size)).all f&&xs.size==ys.size)))) s):=
 .of_wp λA R s hyp=>by
  obtain⟨hp,gg,dr,tk,os⟩:=s;obtain⟨e1,e2,he,fin⟩:=hyp;have sub:=AutoSeq1.sub_tuple_tuple;have len:(xs.toList.zip ys.toList).length=min xs.size ys.size:=by simp
  wp_walk using wpAny_loadPart' e1,wpAny_loadPart' e2,wpAny_forIn_list _ (λmore acc st=>acc.1=none/\st=⟨hp,gg,dr,tk,os⟩/\∃i,more=(xs.toList.zip ys.toList).drop i/\
   R (.ok (.ret (.bool (((List.range (min xs.size ys.size)).drop i).all f&&xs.size==ys.size)))) ⟨hp,gg,dr,tk,os⟩) _
  case turn=>
   rintro⟨y,x⟩ more acc st ⟨ha,rfl,i,hi,hR⟩
   have lt:i<(xs.toList.zip ys.toList).length:=by
    rcases MF i (xs.toList.zip ys.toList).length with z|z
    .exact z
    .rw[OT z] at hi;cases hi
   have lm:i<min xs.size ys.size:=len▸lt
   have lx:i<xs.size:=Kx lm (Nat.min_le_left _ _)
   have ly:i<ys.size:=Kx lm (Nat.min_le_right _ _)
   rw[Me lt] at hi
   injection hi with h1 h2
   have q1:y=xs[i]:=by simpa using LK Prod.fst h1
   have q2:x=ys[i]:=by simpa using LK Prod.snd h1
   subst q1 q2
   have dr1:(List.range (min xs.size ys.size)).drop i=i::(List.range (min xs.size ys.size)).drop (i+1):=by simp [Me,lm]
   rw[dr1,Nu] at hR
   refine Ko (he i lx ly _ _ ?_)
   cases hf:f i with
   |true=>
    rw[hf] at hR
    wp_walk
    exact⟨rfl,rfl,i+1,h2,by simpa using hR⟩
   |false=>
    rw[hf] at hR
    wp_walk
    exact⟨_,rfl,by simpa using hR⟩
  case fin=>
   rintro⟨c1,c2⟩ st ⟨ha,rfl,i,hi,hR⟩
   simp only at ha
   subst ha
   have ge:min xs.size ys.size<=i:=by
    rcases MF i (xs.toList.zip ys.toList).length with z|z
    .rw[Me z] at hi;cases hi
    .exact len▸z
   rw[OT (by simpa using ge)] at hR
   wp_walk
   exact⟨_,rfl,by simpa [Builtin.Tuple.tupleCompareSizes] using hR⟩
  case h=>
   exact⟨rfl,rfl,0,rfl,by simpa using fin⟩
def RcP.tup {P:Program}{w:World}{A:Around}{s:Shared}{l m:Addr}{xs ys:Array Value}{f:Nat->Bool}(hl:s.heap.IsTuple l xs)(hm:s.heap.IsTuple m ys)(hu:A.units<cLine)
  (he:∀j (g1:j<xs.size) (g2:j<ys.size),EqP P w A.in1 s xs[j] ys[j] (f j)):RcP P w A s (.ref l) (.ref m) ((List.range (min xs.size ys.size)).all f&&xs.size==ys.size):=λE Q q=>by
 obtain⟨⟨c1,d1,a1,s1⟩,o1,k1,n1,t1⟩:=id hl
 obtain⟨⟨c2,d2,a2,s2⟩,o2,k2,n2,t2⟩:=id hm
 simp only at k1 t1 k2 t2
 subst k1 t1 k2 t2
 refine MX (op:= .Eq) ⟨_,o1,rfl⟩ ⟨_,o2,rfl⟩ Ph (Mf Ph ⟨_,o1,rfl⟩ PySem.F.entry_tuple_eq (PySem.F.args_tuple_eq_2 _ _) (DD l m xs ys n1 n2 d1 d2 s1 s2 f) ⟨o1,o2,he,?_⟩) hu
 exact⟨(λz=>nomatch z),q⟩
def V9:List V->List V->Bool
 |[],[]=>true
 |x::xs,y::ys=>ej x y&&V9 xs ys
 |_,_=>false
inductive Eq1 (K:Qc) (H:Hp):V->V->Bool->Prop
 |flat {x y:V}:J5 x=true->J5 y=true->Eq1 K H x y (ej x y)
 |tup {a b:Addr} {xs ys:List V}:SqT K H a xs->SqT K H b ys->xs.all J5=true->ys.all J5=true->Eq1 K H (.ref a) (.ref b) (V9 xs ys)
 |nt {a:Addr} {xs:List V}:SqT K H a xs->Eq1 K H .non (.ref a) false
 |tn {a:Addr} {xs:List V}:SqT K H a xs->Eq1 K H (.ref a) .non false
theorem fX:∀{x:V},J5 x=true->ej x x=true
 | .non,_=>rfl
 | .bl b,_=>by simp [ej]
 | .int i,_=>by simp [ej]
 | .str x,_=>by simp [ej]
theorem dP:∀{xs:List V},xs.all J5=true->V9 xs xs=true
 |[],_=>rfl
 |x::xs,h=>by
  rw[Nu,KO] at h;show(ej x x&&V9 xs xs)=true;rw[fX h.1,dP h.2];rfl
theorem Y8:∀(xs ys:List V),((List.range (min xs.length ys.length)).all (λj=>ej (xs.getD j .non) (ys.getD j .non))&&xs.length==ys.length)=V9 xs ys
 |[],[]=>rfl
 |[],_::_=>by simp [V9]
 |_::_,[]=>by simp [V9]
 |x::xs,y::ys=>by
  have ih:=Y8 xs ys;have e:min (x::xs).length (y::ys).length=min xs.length ys.length+1:=by simp
  rw[e,OU,Nu,Mt];show((ej x y&&(List.range (min xs.length ys.length)).all _)&&(xs.length+1==ys.length+1))=(ej x y&&V9 xs ys);rw[←ih,Bool.and_assoc];congr 1;congr 1;simp
section
variable {X:Cx} {pins:List (Addr×Obj)} {σ:St} {H:Hp} {s:Shared} {A:Around}
def Eq1.at_ {x y:V}{u v:Value}{b:Bool}(I:Inv X pins σ H s)(h:Eq1 X.K H x y b)(rx:RelV x u)(ry:RelV y v)(hu:A.units+8<cLine):SeqAt.EqAt A s u v b:=by
 cases h with
 |flat fx fy=>exact fC rx ry fx fy
 | @tup a c xs ys ha hc fx fy=>
  cases rx
  cases ry
  obtain⟨a_,r1,p1,z1⟩:=I.tuple ha
  obtain⟨its',r2,p2,z2⟩:=I.tuple hc
  by_cases hac:a=c
  .subst hac
   have e:=I.tuple_inj ha hc
   subst e
   rw[dP fx]
   exact NS _
  .have l1:=r1.length
   have l2:=r2.length
   have q:=SeqAt.RcAt.tuples (A:=A) (e:=λj=>ej (xs.getD j .non) (ys.getD j .non)) (show s.heap.IsTuple a a_.toArray from p1) (show s.heap.IsTuple c its'.toArray from p2) (by lia) λj g1 g2=>by
    have RK:j<a_.length:=by simpa using g1
    have RL:j<its'.length:=by simpa using g2
    have x1:xs[j]?=some (xs[j]'(by lia)):=by simp [show j<xs.length by lia]
    have y1:ys[j]?=some (ys[j]'(by lia)):=by simp [show j<ys.length by lia]
    obtain⟨u1,Tc,Td⟩:=r1.get x1;obtain⟨u2,Rr,Te⟩:=r2.get y1;have e1:a_.toArray[j]=u1:=by
     have:=Kc RK;rw[Tc] at this;simpa using(KG this).symm
    have e2:its'.toArray[j]=u2:=by
     have:=Kc RL;rw[Rr] at this;simpa using(KG this).symm
    rw[e1,e2];have d1:xs.getD j .non=xs[j]'(by lia):=by rw[KY,x1];rfl
    have d2:ys.getD j .non=ys[j]'(by lia):=by rw[KY,y1];rfl
    rw[d1,d2];exact fC Td Te (KZ.mp fx _ (KS _)) (KZ.mp fy _ (KS _))
   have e3:a_.toArray.size=xs.length:=by simp [l1]
   have e4:its'.toArray.size=ys.length:=by simp [l2]
   rw[e3,e4,Y8] at q
   exact .of_refs hac q
 | @nt a xs ha=>
  cases rx
  cases ry
  obtain⟨a_,r1,p1,z1⟩:=I.tuple ha
  exact SeqAt.EqAt.none_tuple (show s.heap.IsTuple a a_.toArray from p1) (by lia)
 | @tn a xs ha=>
  cases rx
  cases ry
  obtain⟨a_,r1,p1,z1⟩:=I.tuple ha
  exact SeqAt.EqAt.tuple_none (show s.heap.IsTuple a a_.toArray from p1) (by lia)
end
inductive EqH (K:Qc) (H:Hp) (kb:List (j6×V)):List (j6×V)->Bool->Prop
 |nil:EqH K H kb [] true
 |miss {k:j6} {v:V} {r:List (j6×V)}:A4 kb k=none->EqH K H kb ((k,v)::r) false
 |hit {k:j6} {v y:V} {r:List (j6×V)} {e b:Bool}:A4 kb k=some y->Eq1 K H v y e->EqH K H kb r b->EqH K H kb ((k,v)::r) (e&&b)
def EqD (K:Qc)(H:Hp)(a b:Addr)(r:Bool):Prop:=(a=b/\r=true)\/(a≠b/\∃ka kb r0,Rd H a (.dK ka)/\Rd H b (.dK kb)/\EqH K H kb ka r0/\r=(ka.length==kb.length&&r0))
section
variable {X:Cx} {pins:List (Addr×Obj)} {σ:St} {H:Hp} {s:Shared} {A:Around}
def EqH.hits {kb:List (j6×V)}{vb:List (j6×Value)}(I:Inv X pins σ H s)(hu:A.units+8<cLine)(rb:KV kb vb){ka:List (j6×V)}{r:Bool}(h:EqH X.K H kb ka r):∀{va:List (j6×Value)},KV ka va->PySem.W.KeqHits A s vb va r:=by
 induction h with
 |nil=>
  intro va t
  cases t
  exact .nil
 | @miss k v r hn=>
  intro va t
  cases t with
  | @cons _ q _ l e t=>
   obtain⟨k',u⟩:=q
   have VS:k=k':=e.1
   subst VS
   refine .miss ?_
   have z:=KV.val rb k
   rw[hn] at z
   cases e:valueAt vb k with
   |none=>rfl
   |some y=>rw[e] at z;exact False.elim z
 | @hit k v y r e b hy h1 hr ih=>
  intro va t
  cases t with
  | @cons _ q _ l e t=>
   obtain⟨k',u⟩:=q
   have VS:k=k':=e.1
   subst VS
   have z:=KV.val rb k
   rw[hy] at z
   cases e5:valueAt vb k with
   |none=>rw[e5] at z;exact False.elim z
   |some y'=>
    rw[e5] at z
    exact .hit e5 (h1.at_ I e.2 z hu) (ih t)
def EqD.at_ {a b:Addr}{r:Bool}(I:Inv X pins σ H s)(h:EqD X.K H a b r)(hu:A.units+16<cLine):EqP X.prog X.w A s (.ref a) (.ref b) r:=by
 rcases h with⟨rfl,rfl⟩|⟨G_,ka,kb,r0,h1,h2,h3,rfl⟩
 .exact .of (NS _)
 .obtain⟨z1,d1,va,ra,da⟩:=X3 I.hok h1;obtain⟨z2,d2,vb,rb,db⟩:=X3 I.hok h2;refine .refs G_ λE Q q=>?_;have l1:=KV.length ra;have l2:=KV.length rb;exact PySem.W.keq_eq (knd:=z7 X.prog X.w) d1 d2 da db (by lia) (λ_=>h3.hits (A:=A.in1) I (by show A.units+1+8<_;lia) rb ra) (by rw[←l1,←l2];exact q)
def Gn (K:Qc):R2:=λx y H Q=>∃a b p q p' q' r r',x= .ref a/\y= .ref b/\SqT K H a [.ref p,.ref q]/\SqT K H b [.ref p',.ref q']/\EqD K H p p' r/\EqD K H q q' r'/\Q (.bl (r&&r')) H
def Em (hu:X.A.units+64<cLine):OpR X (compareOp .Eq) (Gn X.K):=by
 intro pins s σ H x y v u Q I rx ry h;obtain⟨a,b,p,q,p',q',r,r',rfl,rfl,ha,hb,h1,h2,k⟩:=h;cases rx;cases ry;obtain⟨a_,v1,t1,_⟩:=I.tuple ha;obtain⟨its',v2,t2,_⟩:=I.tuple hb;obtain⟨_,_,rfl,e1,e2⟩:=hJ v1;obtain⟨_,_,rfl,e3,e4⟩:=hJ v2;cases e1;cases e2;cases e3;cases e4;refine RcP.tup (P:=X.prog) (w:=X.w) (f:=λj=>if j=0 then r else r') (show s.heap.IsTuple a _ from t1) (show s.heap.IsTuple b _ from t2) (by lia) (λj g1 g2=>?_) _ _ ⟨.bl (r&&r'),H,I,by show Value.bool _=Value.bool _;simp [MC],k⟩;have g:j<2:=by simpa using g1
 match j,g with
 |0,_=>exact h1.at_ I (by show X.A.units+1+16<_;lia)
 |1,_=>exact h2.at_ I (by show X.A.units+1+16<_;lia)
def Hu (K:Qc):R2:=λx y H Q=>∃a b xs ys,x= .ref a/\y= .ref b/\SqL K H a xs/\SqL K H b ys/\xs.all J5=true/\ys.all J5=true/\Q (.bl (V9 xs ys)) H
theorem ij:∀{xs ys:List V},xs.length≠ys.length->V9 xs ys=false
 |[],[],h=>absurd rfl h
 |[],_::_,_=>rfl
 |_::_,[],_=>rfl
 |x::xs,y::ys,h=>by
  show(ej x y&&V9 xs ys)=false;rw[ij (by simpa using h),Pz]
def Fl (hu:X.A.units+64<cLine):OpR X (compareOp .Eq) (Hu X.K):=by
 intro pins s σ H x y v u Q I rx ry h;obtain⟨a,b,xs,ys,rfl,rfl,ha,hb,fx,fy,k⟩:=h;cases rx;cases ry;obtain⟨a_,r1,p1,z1⟩:=I.list ha;obtain⟨its',r2,p2,z2⟩:=I.list hb;have l1:=r1.length;have l2:=r2.length;have e3:a_.toArray.size=xs.length:=by simp [l1]
 have e4:its'.toArray.size=ys.length:=by simp [l2]
 by_cases hl:xs.length=ys.length
 .have q:=SeqAt.RcAt.lists (A:=X.A) (e:=λj=>ej (xs.getD j .non) (ys.getD j .non)) p1.isList p2.isList (by rw[e3,e4];exact hl) (by lia) λj g1 g2=>by
   have RK:j<a_.length:=by simpa using g1
   have RL:j<its'.length:=by simpa using g2
   have x1:xs[j]?=some (xs[j]'(by lia)):=by simp [show j<xs.length by lia]
   have y1:ys[j]?=some (ys[j]'(by lia)):=by simp [show j<ys.length by lia]
   obtain⟨u1,Tc,Td⟩:=r1.get x1;obtain⟨u2,Rr,Te⟩:=r2.get y1;have e1:a_.toArray[j]=u1:=by
    have:=Kc RK;rw[Tc] at this;simpa using(KG this).symm
   have e2:its'.toArray[j]=u2:=by
    have:=Kc RL;rw[Rr] at this;simpa using(KG this).symm
   rw[e1,e2];have d1:xs.getD j .non=xs[j]'(by lia):=by rw[KY,x1];rfl
   have d2:ys.getD j .non=ys[j]'(by lia):=by rw[KY,y1];rfl
   rw[d1,d2];exact fC Td Te (KZ.mp fx _ (KS _)) (KZ.mp fy _ (KS _))
  have e5:=Y8 xs ys;rw[hl,QZ,OH,Ql] at e5;rw[e3,hl,e5] at q;exact q X.prog X.w _ _ ⟨.bl _,H,I,rfl,k⟩
 .refine Ow (A:=X.A) p1.isList p2.isList (by rw[e3,e4];simpa using hl) (by lia) X.prog X.w _ _ ⟨.bl _,H,I,?_,k⟩;rw[ij hl];rfl
def Hx (K:Qc):R2:=λx y H Q=>(∃a b xs ys,x= .ref a/\y= .ref b/\SqT K H a xs/\SqT K H b ys/\xs.all J5=true/\ys.all J5=true/\Q (.bl (V9 xs ys)) H)\/(∃a xs,x= .non/\y= .ref a/\SqT K H a xs/\Q (.bl false) H)
def Fi (hu:X.A.units+64<cLine):OpR X (compareOp .Eq) (Hx X.K):=by
 intro pins s σ H x y v u Q I rx ry h;rcases h with⟨a,b,xs,ys,rfl,rfl,ha,hb,fx,fy,k⟩|⟨a,xs,rfl,rfl,ha,k⟩
 .cases rx;cases ry;obtain⟨a_,r1,p1,z1⟩:=I.tuple ha;obtain⟨its',r2,p2,z2⟩:=I.tuple hb;have l1:=r1.length;have l2:=r2.length;have q:=SeqAt.RcAt.tuples (A:=X.A) (e:=λj=>ej (xs.getD j .non) (ys.getD j .non)) (show s.heap.IsTuple a a_.toArray from p1) (show s.heap.IsTuple b its'.toArray from p2) (by lia) λj g1 g2=>by
   have RK:j<a_.length:=by simpa using g1
   have RL:j<its'.length:=by simpa using g2
   have x1:xs[j]?=some (xs[j]'(by lia)):=by simp [show j<xs.length by lia]
   have y1:ys[j]?=some (ys[j]'(by lia)):=by simp [show j<ys.length by lia]
   obtain⟨u1,Tc,Td⟩:=r1.get x1;obtain⟨u2,Rr,Te⟩:=r2.get y1;have e1:a_.toArray[j]=u1:=by
    have:=Kc RK;rw[Tc] at this;simpa using(KG this).symm
   have e2:its'.toArray[j]=u2:=by
    have:=Kc RL;rw[Rr] at this;simpa using(KG this).symm
   rw[e1,e2];have d1:xs.getD j .non=xs[j]'(by lia):=by rw[KY,x1];rfl
   have d2:ys.getD j .non=ys[j]'(by lia):=by rw[KY,y1];rfl
   rw[d1,d2];exact fC Td Te (KZ.mp fx _ (KS _)) (KZ.mp fy _ (KS _))
  have e3:a_.toArray.size=xs.length:=by simp [l1]
  have e4:its'.toArray.size=ys.length:=by simp [l2]
  rw[e3,e4,Y8] at q;exact q X.prog X.w _ _ ⟨.bl _,H,I,rfl,k⟩
 .cases rx;cases ry;obtain⟨a_,r1,p1,z1⟩:=I.tuple ha;exact SeqAt.RcAt.none_tuple (A:=X.A) (show s.heap.IsTuple a a_.toArray from p1) (by lia) X.prog X.w _ _ ⟨.bl false,H,I,rfl,k⟩
def jZ (K:Qc):R2:=λx y H Q=>Ii x y H Q\/Hu K x y H Q\/Hx K x y H Q\/Gn K x y H Q
def JH (K:Qc){k:Nat}(hr:Room k X.A)(h:X.K=K:=by rfl):OpR X (compareOp .Eq) (jZ K):=h▸op_eq.or ((Fl hr.units).or ((Fi hr.units).or (Em hr.units)))
end
section
variable {K:Qc} {H:Hp} {Q:VK}
def yd {i j:Int}(q:Q (.bl (decide (i=j))) H):jZ K (.int i) (.int j) H Q:= .inl (rE q)
def ya {i j:Str}(q:Q (.bl (decide (i=j))) H):jZ K (.str i) (.str j) H Q:= .inl (qy q)
def qO {a b:Addr}{xs ys:List V}(ha:SqL K H a xs)(hb:SqL K H b ys)(fx:xs.all J5=true)(fy:ys.all J5=true)(q:Q (.bl (V9 xs ys)) H):jZ K (.ref a) (.ref b) H Q:= .inr (.inl ⟨a,b,xs,ys,rfl,rfl,ha,hb,fx,fy,q⟩)
def se {a b:Addr}{xs ys:List V}(ha:SqT K H a xs)(hb:SqT K H b ys)(fx:xs.all J5=true)(fy:ys.all J5=true)(q:Q (.bl (V9 xs ys)) H):jZ K (.ref a) (.ref b) H Q:= .inr (.inr (.inl (.inl ⟨a,b,xs,ys,rfl,rfl,ha,hb,fx,fy,q⟩)))
def zZ {a b p q p' q':Addr}{r r':Bool}(ha:SqT K H a [.ref p,.ref q])(hb:SqT K H b [.ref p',.ref q'])(h1:EqD K H p p' r)(h2:EqD K H q q' r')(k:Q (.bl (r&&r')) H):jZ K (.ref a) (.ref b) H Q:= .inr (.inr (.inr ⟨a,b,p,q,p',q',r,r',rfl,rfl,ha,hb,h1,h2,k⟩))
end
section
variable {K:Qc} {σ:St} {H H' H1:Hp} {Q:VK} {d:Addr} {kvs:List (j6×V)} {o:Obj}
def qX {i j:Int}(q:Q (.bl (!decide (i=j))) H):II (.int i) (.int j) H Q:=⟨rfl,by rw[jU];rw[show(i==j)=decide (i=j) from MW i j];exact q⟩
def nf:HO->Bool
 | .frz _ _=>false
 |_=>true
def Le (H H':Hp):Prop:=∀a u,nf u=true->Rd H a u->Rd H' a u
def Le.trans (a:Le H H1)(b:Le H1 H'):Le H H':=λx u n h=>b x u n (a x u n h)
def Same.le (s:Same H H'):Le H H':=λa u _ h=>s.rd h
def N9 (h:H d=some (.dK kvs)):Le H (C4 d o kvs H):=λa u n r=>by
 by_cases e:a=d
 .subst e;rcases r with r|⟨o',r⟩
  .rw[h] at r;cases r;exact .inr ⟨o,d6⟩
  .rw[h] at r;cases r
 .unfold C4 Rd;rw[b9 e];exact r
def oD:Le H (thaw d H):=λa u n r=>by
 by_cases e:a=d
 .subst e;rcases r with r|⟨o',r⟩
  .rw[vz λo v z=>by rw[r] at z;cases z;cases n];exact .inl r
  .exact .inl (thaw_at r)
 .unfold Rd;rw[Q6 e];exact r
def Le.tup {a:Addr}{xs:List V}(l:Le H H')(h:SqT K H a xs):SqT K H' a xs:=by
 rcases h with h|h
 .exact .inl (l _ _ rfl h)
 .exact .inr h
def Le.lst {a:Addr}{xs:List V}(l:Le H H')(h:SqL K H a xs):SqL K H' a xs:=by
 rcases h with h|h
 .exact .inl (l _ _ rfl h)
 .exact .inr h
def Le.dic {a:Addr}(l:Le H H')(h:Rd H a (.dK kvs)):Rd H' a (.dK kvs):=l _ _ rfl h
abbrev N3:=Str×Str×Str
structure C9 where
 pts:List (Str×Str)
 ts:List (Str×N3)
def i7 (pts:List (Str×Str)):List (j6×V):=pts.map λx=>(Sum.inr x.1,.str x.2)
def ax (t:N3):List V:=[.str t.1,.str t.2.1,.str t.2.2]
def TieAt (K:Qc)(H:Hp)(kv:j6×V)(x:Str×N3):Prop:=kv.1=Sum.inr x.1/\∃a,kv.2= .ref a/\SqT K H a (ax x.2)
def TiesIs (K:Qc)(H:Hp)(kvs:List (j6×V))(ts:List (Str×N3)):Prop:=Paired (TieAt K H) kvs ts
structure WebAt (K:Qc) (H:Hp) (a p q:Addr) (kvs:List (j6×V)) (W:C9):Prop where
 tup:SqT K H a [.ref p,.ref q]
 pts:Rd H p (.dK (i7 W.pts))
 ties:Rd H q (.dK kvs)
 ts:TiesIs K H kvs W.ts
def TieAt.mono {kv:j6×V}{x:Str×N3}(l:Le H H')(h:TieAt K H kv x):TieAt K H' kv x:=let ⟨e,a,ea,s⟩:=h;⟨e,a,ea,l.tup s⟩
def TiesIs.mono {ts:List (Str×N3)}(l:Le H H')(h:TiesIs K H kvs ts):TiesIs K H' kvs ts:=Paired.imp' (λ_ _ z=>z.mono l) h
def WebAt.mono {a p q:Addr}{W:C9}(l:Le H H')(h:WebAt K H a p q kvs W):WebAt K H' a p q kvs W:=⟨l.tup h.tup,l.dic h.pts,l.dic h.ties,h.ts.mono l⟩
def TiesIs.length {ts:List (Str×N3)}(h:TiesIs K H kvs ts):kvs.length=ts.length:=KW h
def TiesIs.keys {ts:List (Str×N3)}(h:TiesIs K H kvs ts):kvs.map (·.1)=ts.map λx=>Sum.inr x.1:=by
 unfold TiesIs at h;induction h with
 |nil=>rfl
 |cons r _ ih=>rw[Lk,Lk,ih,r.1]
def TiesIs.get {ts:List (Str×N3)}{i:Nat}{kv:j6×V}(h:TiesIs K H kvs ts)(e:kvs[i]?=some kv):∃x,ts[i]?=some x/\TieAt K H kv x:=K8 h e
theorem TiesIs.val {ts:List (Str×N3)}{n:Str}:∀{kvs:List (j6×V)} {ts:List (Str×N3)},TiesIs K H kvs ts->n∈ts.map (·.1)->∃a x,A4 kvs (Sum.inr n:j6)=some (.ref a)/\(n,x)∈ts/\SqT K H a (ax x)
 |_,_,.nil,h=>by simp at h
 |kv::r,x::ts,.cons t u,h=>by
  obtain⟨e,a,ea,s⟩:=t;by_cases hn:x.1=n
  .subst hn;refine⟨a,x.2,?_,Kz,s⟩;rw[J6 e,ea]
  .have h':n∈ts.map (·.1):=by
    rcases Lh.mp h with z|z
    .exact absurd z.symm hn
    .exact z
   obtain⟨b,y,h1,h2,h3⟩:=TiesIs.val (ts:=ts) u h';refine⟨b,y,?_,KL _ h2,h3⟩;rw[K0 (by rw[e];intro z;exact hn (LW z))];exact h1
def E6 (pts:List (Str×Str)):(i7 pts).map (·.1)=pts.map λx=>Sum.inr x.1:=by
 unfold i7;rw[Lf];rfl
def lt (a b:Str):Bool:=decide (a.cps.toList<b.cps.toList)
def yS (ss:List Str):Bool:=(ss.dropLast.zip ss.tail).all λp=>lt p.1 p.2
theorem uG:∀a b:List Nat,ltCps a b=true\/a=b\/ltCps b a=true
 |[],[]=> .inr (.inl rfl)
 |[],_::_=> .inl rfl
 |_::_,[]=> .inr (.inr rfl)
 |x::r,y::t=>by
  rcases QM x y with h|h|h
  .exact .inl (by simp [ltCps,h])
  .subst h;rcases uG r t with z|z|z
   .exact .inl (by simp [ltCps,z])
   .exact .inr (.inl (by rw[z]))
   .exact .inr (.inr (by simp [ltCps,z]))
  .exact .inr (.inr (by simp [ltCps,h]))
def GS {a b:Str}(h:ltCps b.cps.toList a.cps.toList=false)(G_:a≠b):lt a b=true:=by
 unfold lt;rw[←ltCps_eq];rcases uG a.cps.toList b.cps.toList with z|z|z
 .exact z
 .exfalso;apply G_;obtain⟨⟨l⟩⟩:=a;obtain⟨⟨m⟩⟩:=b;have z':l=m:=z;rw[z']
 .rw[z] at h;cases h
def mK (x y:Str)(r:List Str):yS (x::y::r)=(lt x y&&yS (y::r)):=by
 unfold yS;simp [List.dropLast]
theorem jO:∀{ss:List Str},sortedS ss=true->ss.Nodup->yS ss=true
 |[],_,_=>rfl
 |[_],_,_=>rfl
 |x::y::r,h,n=>by
  have h':(!ltCps y.cps.toList x.cps.toList&&risingS y r)=true:=h;rw[KO] at h';have n':=LA.mp n;rw[mK,GS (by simpa using h'.1) (λz=>n'.1 (by rw[z];exact Kz)),jO (ss:=y::r) h'.2 n'.2];rfl
end
def Inv.off {X:Cx}{pins:List (Addr×Obj)}{σ:St}{H:Hp}{s:Shared}{C:Addr}{h':Heap}(I:Inv X pins σ H s)(hH:H C=none)(h0:X.s₀.heap.objs.size<=C)(h1:C≠X.env.locals)(h2:∀x c,X.env.cells.lookup x=some c->c≠C)(h3:∀p∈X.pn++pins,p.1≠C)(sb:Heap.SameBut C s.heap h'):Inv X pins σ H {s with heap:=h'}:=by
 refine I.call' (s':={s with heap:=h'}) (ch:=[C]) rfl ?_ ?_ I.bare λb hb=>?_
 .have same:∀b,b∉[C]->h'.get? b=s.heap.get? b:=λb hb=>sb.2 b λz=>hb (by rw[z];exact Kz);refine⟨λb o q n hb hx=>?_,λb o q n hb hx=>?_,λb o q n hx=>n,λb o q hx=>?_,λb xs q=>q,λb o u q=>q,λb ps q=>⟨#[],by rw[Array.append_empty];exact q⟩⟩
  .show h'.get? b=_;rw[same b hx];exact q
  .exact⟨o.slots,(same b hx).trans q⟩
  .exact⟨o,(same b hx).trans q⟩
 .refine λb ob e=>(I.hok b ob e).stay (λc w' hc q=>(sb.2 c ?_).trans q) (λ_ q=>q) λ_ _ q=>q;rintro rfl;rcases hc with rfl|hc
  .rw[hH] at e;cases e
  .rw[hH] at hc;cases hc
 .rw[Kq.mp hb];exact⟨.inr h0,h1,h2,h3⟩
def ua {X:Cx}{own:List Str}{js:List Nat}{scope:Scope}{tg iter elt:Expr}{ifs:List Expr}{pos Sh py:Pos}{g:TG}{ti:TT}{te:TE}{wi:qi}{i:Nat}{y:Str}(hN:X.N.Nodup)(hy:X.N[i]?=some y)(hl:CZ X.env.scope y)(S:FG X own js scope=true)(hc:X.calm=true)(hit:zJ X tg iter wi)
  (hg:∀C s H fp,PG (eo X own js scope C s H fp) tg g) (hi:∀C s H fp,tU (eo X own js scope C s H fp) ifs ti) (he:∀C s H fp,PE (eo X own js scope C s H fp) elt te)
  (Yr:swapsWith (.ListComp elt [⟨tg,iter,ifs,0⟩] scope pos) (some (.Name y py)) Sh.line X.env=pure true)
  (hf:X.fn y=true\/X.env.scope.names.lookup y=some .local)
  (hs:∀x,foldedSetIterable iter X.env x=pure x):
  PS X (.Assign [.Name y py] (.ListComp elt [⟨tg,iter,ifs,0⟩] scope pos) Sh) (tF (kh own js wi g ti te) (O7 i)):=by
 have SB:=yO S
 intro pins s σ H D I h
 rw[exec_Assign_Name_used _ _ _ _ Yr]
 refine Ko (Qf (Ko ?_))
 show wpAny _ X.A (do let _←comprehension (.ListComp elt [⟨tg,iter,ifs,0⟩] scope pos) scope X.env _ (newList []) false (eval iter X.env) (some (assign (.Name y py) X.env))) _ _ s
 refine Ko (NR (Ov (use:=some (assign (.Name y py) X.env)) (Q:=λ_ s'=>SP X pins D .next s') rfl hs (ma (SB.cells I)) SB.kind SB.names (P0 (hit pins s σ H _ I h) λv s1 h1=>P0 h1 λVB s2 h2=>?_)) (λ_ s' hq=>Ky (Ky hq)) λ_ _ e=>e)
 obtain⟨it,fp,tn,J,H2,e,I2,T,N',f2,th,Rq,W,⟨m0,w0⟩,turn⟩:=h2
 subst e
 refine MA (wpAny_newFunctionEnv SB.nocell (by intro y hy;simp at hy) (λh₁ hns₁ hsb₁=>?_) SB.kind)
 dsimp only at hns₁ hsb₁⊢
 generalize Ul:s2.heap.push {cls:= .type "list",dict:=none,data:= .seq ([]:List Value).toArray}=G2 at hns₁ hsb₁⊢
 have VQ:G2.objs.size=s2.heap.objs.size+1:=by rw[←Ul,Of]
 have Rp:s2.heap.objs.size≠G2.objs.size:=by rw[VQ];exact KC (Lz _)
 have hC:s2.heap.objs.size<=G2.objs.size:=by rw[VQ];exact ML _
 have old:∀b o,s2.heap.get? b=some o->h₁.get? b=some o:=λb o e=>
  hsb₁.extBut b o (KC (Kx (Kv e) hC)) (Kn _ (Ul▸Kn _ e))
 have off:∀b o,s2.heap.get? b=some o->b≠G2.objs.size:=λb o e=>KC (Kx (Kv e) hC)
 have Qm:∀b∈fp,∃o,s2.heap.get? b=some o:=λb hb=>let ⟨o,e,_⟩:=T.obj _ _ N' b hb;⟨o,e⟩
 have t_:h₁.get? s2.heap.objs.size=some {cls:= .type "list",data:= .seq ([]:List Value).toArray}:=
  hsb₁.extBut _ _ Rp (Kn _ (Ul▸KD _ rfl))
 have loop:∀s3:Shared,s3={s2 with heap:=h₁,toks:=s2.toks+([]:List (Str×Value)).length}->
   codeAny (model X.prog X.w) X.A (.compLoop (.ListComp elt [⟨tg,iter,ifs,0⟩] scope pos) 0 (.ref it) (.ref s2.heap.objs.size) (compEnvC scope (jF scope X.env) G2.objs.size X.env))
    (compPost (model X.prog X.w) X.A X.xe (some (assign (.Name y py) X.env)) (λ_ s'=>SP X pins D .next s') (.ref s2.heap.objs.size) G2.objs.size) s3:=by
  rintro s3 rfl
  refine nS (K:=λout H'=>O7 i (.ref s2.heap.objs.size) σ (th (upd H' s2.heap.objs.size (.lst out))) D.nx) SB hc T I2 f2 (Ke _) hC Rp Qm (hg _ _ _ _) (hi _ _ _ _) (he _ _ _ _) W (λi m out H' w=>?_) (λout H' s' B Tt k=>?_) w0
   ⟨Inv.block SB I2 f2 Qm hC hns₁ old,I2.hok.fresh (Ke _),[],_,.nil,t_⟩ (T.keep _ _ _ N' λb _ o e=>old b o e) (λb hb=>(f2 b hb).1)
  .rcases turn i m out H' w with⟨a,b⟩|c
   .exact .inl ⟨a,λn=>b _ n⟩
   .exact .inr c
  .obtain⟨mm,hn,_⟩:=B.inv.loc
   have Yi:H' G2.objs.size=none:=B.inv.free
   have IJ:=B.out I2 f2 (Ke _) hC Rp Tt (h':=s'.heap) (Heap.SameBut.refl _ _)
   show wpAny _ X.A (assign (.Name y py) X.env (.ref s2.heap.objs.size)) _ _ s'
   refine wpAny_assign_Name (mL IJ hN hy hl (v:= .ref s2.heap.objs.size) rfl (λXb I'' hx=>?_) hf)
   obtain⟨a,sa,ha⟩:=hx
   have haC:G2.objs.size≠a:=by
    rcases ha with rfl|ha
    .exact Mc (KC (Kx I2.lt hC))
    .obtain⟨_,o,ho,_⟩:=I2.cell _ _ ha;exact Mc (off _ _ ho)
   refine⟨mm,hn.sameBut sa haC,λh' sb=>⟨_,_,Rq _ _ _ _ (I''.off (by rw[b9 (Mc Rp)];exact Yi) (Kw I2.sz hC) (Mc (KC (Kx I2.lt hC))) (λx c e=>?_) (λp hp=>off _ _ (I2.pin p hp).1) sb),k⟩⟩
   obtain⟨_,o,ho,_⟩:=I2.cell _ _ e
   exact off _ _ ho
 exact codeAny_compStart_list (loop _ rfl) (T.self _ 0 _ _ _ (T.keep _ _ _ N' λb _ o e=>old b o e) (loop _ rfl))
def Q8 {X:Cx}{own:List Str}{js:List Nat}{scope:Scope}{tg iter elt:Expr}{ifs:List Expr}{pos Sh py:Pos}{g:TG}{ti:TT}{te:TE}{wi:qi}{i:Nat}{y:Str}(hN:X.N.Nodup)(hy:X.N[i]?=some y)(hl:CZ X.env.scope y)(S:FG X own js scope=true)(hc:X.calm=true)(hit:QI X tg iter wi)
  (hg:∀C s H fp,QG (eo X own js scope C s H fp) tg g) (hi:∀C s H fp,Il (eo X own js scope C s H fp) ifs ti) (he:∀C s H fp,QE (eo X own js scope C s H fp) elt te)
  (Yr:swapsWith (.ListComp elt [⟨tg,iter,ifs,0⟩] scope pos) (some (.Name y py)) Sh.line X.env=pure true:=by rfl)
  (hf:X.fn y=true\/X.env.scope.names.lookup y=some .local:=by first|exact .inl rfl|exact .inr rfl)
  (hs:∀x,foldedSetIterable iter X.env x=pure x:=by intro _;rfl):QS X (.Assign [.Name y py] (.ListComp elt [⟨tg,iter,ifs,0⟩] scope pos) Sh) (tF (kh own js wi g ti te) (O7 i)):=
 ⟨ua hN hy hl S hc hit.r (λC s H fp=>(hg C s H fp).r) (λC s H fp=>(hi C s H fp).r) (λC s H fp=>(he C s H fp).r) Yr hf hs⟩
open PySem.AutoSeq1 (wpAny_loadPart')
def NcP (P:Program)(w:World)(A:Around)(s:Shared)(y x:Value)(b:Bool):Prop:=∀(E:Value->Shared->Prop) (Q:Value->Shared->Prop),Q (.bool b) s->wpAny (model P w) A (richCompare .NotEq y x) Q E s
section
variable {X:Cx} {pins:List (Addr×Obj)} {σ:St} {H:Hp} {s:Shared} {A:Around}
def FP (K:Qc):R2:=λ_ _ _ _=>False
def Dq (hu:X.A.units+64<cLine):OpR X (compareOp .NotEq) (FP X.K):=by
 intro pins s σ H x y v u Q I rx ry h;exact h.elim
def Ho (K:Qc):R2:=λx y H Q=>∃a b xs ys,x= .ref a/\y= .ref b/\SqL K H a xs/\SqL K H b ys/\xs.all J5=true/\ys.all J5=true/\Q (.bl (!V9 xs ys)) H
def DO (hu:X.A.units+64<cLine):OpR X (compareOp .NotEq) (Ho X.K):=by
 intro pins s σ H x y v u Q I rx ry h;obtain⟨a,b,xs,ys,rfl,rfl,ha,hb,fx,fy,k⟩:=h;cases rx;cases ry;obtain⟨a_,r1,p1,z1⟩:=I.list ha;obtain⟨its',r2,p2,z2⟩:=I.list hb;have l1:=r1.length;have l2:=r2.length;have e3:a_.toArray.size=xs.length:=by simp [l1]
 have e4:its'.toArray.size=ys.length:=by simp [l2]
 by_cases hl:xs.length=ys.length
 .have q:=SeqAt.RcNeAt.lists (A:=X.A) (e:=λj=>ej (xs.getD j .non) (ys.getD j .non)) p1.isList p2.isList (by rw[e3,e4];exact hl) (by lia) λj g1 g2=>by
   have RK:j<a_.length:=by simpa using g1
   have RL:j<its'.length:=by simpa using g2
   have x1:xs[j]?=some (xs[j]'(by lia)):=by simp [show j<xs.length by lia]
   have y1:ys[j]?=some (ys[j]'(by lia)):=by simp [show j<ys.length by lia]
   obtain⟨u1,Tc,Td⟩:=r1.get x1;obtain⟨u2,Rr,Te⟩:=r2.get y1;have e1:a_.toArray[j]=u1:=by
    have:=Kc RK;rw[Tc] at this;simpa using(KG this).symm
   have e2:its'.toArray[j]=u2:=by
    have:=Kc RL;rw[Rr] at this;simpa using(KG this).symm
   rw[e1,e2];have d1:xs.getD j .non=xs[j]'(by lia):=by rw[KY,x1];rfl
   have d2:ys.getD j .non=ys[j]'(by lia):=by rw[KY,y1];rfl
   rw[d1,d2];exact fC Td Te (KZ.mp fx _ (KS _)) (KZ.mp fy _ (KS _))
  have e5:=Y8 xs ys;rw[hl,QZ,OH,Ql] at e5;rw[e3,hl,e5] at q;exact q X.prog X.w _ _ ⟨.bl _,H,I,rfl,k⟩
 .refine SeqAt.RcNeAt.lists_lengths (A:=X.A) p1.isList p2.isList (by rw[e3,e4];simpa using hl) (by lia) X.prog X.w _ _ ⟨.bl _,H,I,?_,k⟩;rw[ij hl];rfl
def GN (K:Qc):R2:=λ_ _ _ _=>False
def Fe (hu:X.A.units+64<cLine):OpR X (compareOp .NotEq) (GN X.K):=by
 intro pins s σ H x y v u Q I rx ry h;exact h.elim
def CD (K:Qc):R2:=λ_ _ _ _=>False
def CA (K:Qc):R2:=λ_ _ _ _=>False
def Cs (hu:X.A.units+64<cLine):OpR X (compareOp .Eq) (CD X.K):=by
 intro pins s σ H x y v u Q I rx ry h;exact h.elim
def Bl (hu:X.A.units+64<cLine):OpR X (compareOp .NotEq) (CA X.K):=by
 intro pins s σ H x y v u Q I rx ry h;exact h.elim
def Ep (K:Qc):R2:=λx y H Q=>jZ K x y H Q\/CD K x y H Q
def IP (K:Qc){k:Nat}(hr:Room k X.A)(h:X.K=K:=by rfl):OpR X (compareOp .Eq) (Ep K):=(JH K hr h).or (h▸Cs hr.units)
def uo (K:Qc):R2:=λx y H Q=>II x y H Q\/Ho K x y H Q\/GN K x y H Q\/FP K x y H Q\/CA K x y H Q
def JA (K:Qc){k:Nat}(hr:Room k X.A)(h:X.K=K:=by rfl):OpR X (compareOp .NotEq) (uo K):=h▸op_ne.or ((DO hr.units).or ((Fe hr.units).or ((Dq hr.units).or (Bl hr.units))))
end
section
variable {K:Qc} {H:Hp} {Q:VK}
def Iy {x y:V}(q:jZ K x y H Q):Ep K x y H Q:= .inl q
def rO {i j:Int}(q:Q (.bl (!decide (i=j))) H):uo K (.int i) (.int j) H Q:= .inl (qX q)
def uR {i j:Bool}(q:Q (.bl (!decide (i=j))) H):uo K (.bl i) (.bl j) H Q:= .inl ⟨rfl,by rw[uj];rw[show(i==j)=decide (i=j) from MW i j];exact q⟩
def il {a b:Addr}{xs ys:List V}(ha:SqL K H a xs)(hb:SqL K H b ys)(fx:xs.all J5=true)(fy:ys.all J5=true)(q:Q (.bl (!V9 xs ys)) H):uo K (.ref a) (.ref b) H Q:= .inr (.inl ⟨a,b,xs,ys,rfl,rfl,ha,hb,fx,fy,q⟩)
def pH {j:Str}(q:Q (.bl false) H):jZ K .non (.str j) H Q:= .inl ⟨rfl,by rw[show decide (V.non=V.str j)=false by simp];exact q⟩
def oQ {a:Addr}{xs:List V}(ha:SqT K H a xs)(q:Q (.bl false) H):jZ K .non (.ref a) H Q:= .inr (.inr (.inl (.inr ⟨a,xs,rfl,rfl,ha,q⟩)))
end
section
variable {X:Cx} {o e f:Expr} {apos b_:Pos} {td ty tx:TE} {name:Str}
def Gx (hb:attributeBase o name X.env (eval o X.env)=eval o X.env)(hl:(apos.endLine==b_.line)=true)(h:C6 e=true):M1 X o name apos e b_:=by
 have z:starEach [e] X.env=[(false,eval e X.env)]:=X8 (es:=[]) h;have z2:backTo b_ (starEach [e] X.env)=[(false,eval e X.env)]:=by rw[z];rfl
 exact⟨hb,by rw[z2];rfl,hl,z2⟩
def Gv (hb:attributeBase o name X.env (eval o X.env)=eval o X.env)(hl:(apos.endLine==b_.line)=true)(h:C6 e=true)(h':C6 f=true):M2 X o name apos e f b_:=by
 have z:starEach [e,f] X.env=[(false,eval e X.env),(false,eval f X.env)]:=by rw[X8 (es:=[f]) h,X8 (es:=[]) h'];rfl
 have z2:backTo b_ (starEach [e,f] X.env)=[(false,eval e X.env),(false,eval f X.env)]:=by rw[z];rfl
 exact⟨hb,by rw[z2];rfl,hl,z2⟩
def vc (hu:X.A.units+1<cLine)(ho:QE X o td)(he:QE X e ty)(hb:attributeBase o "get" X.env (eval o X.env)=eval o X.env:=by rfl)(hl:(apos.endLine==b_.line)=true:=by rfl)(h:C6 e=true:=by rfl):
  QE X (.Call (.Attribute o "get" apos) [e] [] b_) (uk td ty):=⟨zK hu ho.r he.r (Gx hb hl h)⟩
def Gj (hu:X.A.units+1<cLine)(ho:QE X o td)(he:QE X e ty)(hf:QE X f tx)(hb:attributeBase o "get" X.env (eval o X.env)=eval o X.env:=by rfl)(hl:(apos.endLine==b_.line)=true:=by rfl)(h:C6 e=true:=by rfl)(h':C6 f=true:=by rfl):
  QE X (.Call (.Attribute o "get" apos) [e,f] [] b_) (uw td ty tx):=⟨Ay hu ho.r he.r hf.r (Gv hb hl h h')⟩
end
section
variable {σ:St} {H:Hp} {Q:VK} {td ty tx:TE}
def HG (q:td σ H λx H1=>∃a,x= .ref a/\Hr H1 a/\ty σ H1 λy H2=>∃o,DGet H2 a y o/\Q (o.getD .non) H2):uk td ty σ H Q:=q
end
open Sem (wp)
section
variable {prog:Program} {w:World} {KT:Type} [DecidableEq KT] {knd:KeyKind prog w KT} {A:Around} {E:Value->Shared->Prop} {s:Shared}
end
section
variable {prog:Program} {w:World} {KT:Type} [DecidableEq KT] {knd:KeyKind prog w KT} {A:Around} {E:Value->Shared->Prop} {s:Shared}
open PySem.AutoSeq1 (wpAny_loadPart')
end
section
variable {X:Cx} {a:Expr} {t:TA} {p pos:Pos}
def tK (K:Qc)(ta:TA):qi:=λσ H R=>ta σ H λvs H1=>∃v,vs=[v]/\((∃l xs,v= .ref l/\SqL K H1 l xs/\R (IF K l) id H1)\/False)
def Az {elts:List Expr}{x1}{z_:Pos}(hg:Gl X "enumerate")(hm:X.mg "enumerate"=none)(ha:PA X [a] t)(hs:starEach [a] X.env=[(false,eval a X.env)]):zJ X (.Tuple elts x1 z_) (.Call (.Name "enumerate" p) [a] [] pos) (tK X.K t):=by
 intro pins s σ H R I h;refine Call_ (de I hg hm Boot.«enumerate» (LP (P0 (ha pos pins s σ H _ I h) λus s1 ⟨vs,H1,I1,r1,q1⟩=>?_) hs rfl));obtain⟨v,e,q⟩:=q1;subst e;obtain⟨u,rfl,ru⟩:=V4 r1;rcases q with⟨l,xs,rfl,hq,q⟩|q
 .cases ru;obtain⟨a_,rv,pl,hz⟩:=I1.list hq;refine call_enumerate_list pl.isList λh' he hit hsz hk=>?_;have I2:Inv X pins σ H1 {s1 with heap:=h'}:=I1.kept (t':=s1.toks) hk;refine wpAny_pyIter_enum (s:={s1 with heap:=h'}) he ?_;refine⟨s1.heap.objs.size+1,[s1.heap.objs.size+1,s1.heap.objs.size],_,_,H1,rfl,I2,xD (l:=l) (Nat.succ_ne_self _),⟨_,he,hit⟩,λb hb=>?_,id,fY,q⟩;have Qz:b=s1.heap.objs.size+1\/b=s1.heap.objs.size:=by simpa using hb
  rcases Qz with rfl|rfl
  .exact I1.fpOk (ML _) (I1.hok.fresh (ML _))
  .exact I1.fpOk (Ke _) (I1.hok.fresh (Ke _))
 .exact q.elim
def bK (K:Qc){elts:List Expr}{x1}{z_:Pos}(hm:X.mg "enumerate"=none)(ha:QA X [a] t)(hg:Gl X "enumerate":=by rfl)(h:C6 a=true:=by rfl)(hK:X.K=K:=by rfl):QI X (.Tuple elts x1 z_) (.Call (.Name "enumerate" p) [a] [] pos) (tK K t):=
 ⟨hK▸Az hg hm ha.r (X8 h)⟩
end
section
variable {K:Qc} {σ:St} {H:Hp} {ta:TA} {R:It->(Hp->Hp)->Hp->Prop}
def BB (q:ta σ H λvs H1=>∃v,vs=[v]/\((∃l xs,v= .ref l/\SqL K H1 l xs/\R (IF K l) id H1)\/False)):tK K ta σ H R:=q
end
open Sem (wp)
def pP:typeLookup (.type "list") "keys"=pure none:=by rw[Pj,NL];kernel_rfl
section
variable {prog:Program} {w:World} {A:Around} {E:Value->Shared->Prop} {s:Shared}
def wV {a:Addr}{o:Obj}{xs:Array Value}{k:Nat}{Q:Option Value->Shared->Prop}
  (hx:s.heap.get? a=some o) (hc:o.cls= .type "list") (OR:o.data= .seq xs k) (hd:o.dict=none) (hA:A.handled=none)
  (h:∀h' tk,(∀b ob,s.heap.get? b=some ob->h'.get? b=some ob)->Q none {s with heap:=h',toks:=tk}):
  wpAny (model prog w) A (getAttr? (.ref a) "keys") Q E s:=by
 obtain⟨c,dct,dat,sl⟩:=o
 simp only at hc OR hd
 subst hc OR hd
 obtain⟨hp,g,d,tk,os⟩:=s
 have hT:∀tk',(⟨hp,g,d,tk',os⟩:Shared).TypeIs (.ref a) "list":=λ_=>⟨_,hx,rfl⟩
 have f1:=sub_AttributeError
 have f3:=Np.lookup
 have f4:=Np.bind (.ref a)
 have f5:=am_list_getattr_none
 unfold getAttr? getAttrBy? getAttrBy
 repeat(any_goals (first|assumption|exact hT _|((with_reducible show wpAny _ _ (call (Value.builtin "list.__getattribute__") _ _) _ _ _);refine Ot Np (hT _) am_entry_list_getattribute (F.args_list_getattribute_2 _ _) (meets_getattribute_miss_list a xs k sl "keys" _ pP (by decide+kernel) (by decide+kernel)) ⟨hx,hA,λh' tk' e h_=>?_⟩)|wp_step))
 obtain⟨t',u',he⟩:=h_.there
 show wpAny _ _ (getattributeRaised _ _ _ _ _ _ _) _ _ _
 unfold getattributeRaised
 repeat(any_goals (first|assumption|wp_step))
 exact h _ _ h_.keeps
end
def V8:entryFor table "dict.update.loop"=some Builtin.«dict.update.loop»:=entryFor_of_tree (by kernel_rfl)
def J1:plainId "dict.update.loop"=true:=by decide+kernel
section
variable {prog:Program} {w:World} {KT:Type} [DecidableEq KT] {knd:KeyKind prog w KT} {A:Around} {E:Value->Shared->Prop}
def PairAt (knd:KeyKind prog w KT)(h:Heap)(d it:Addr)(u:Value)(kv:KT×Value):Prop:=∃t key,u= .ref t/\h.IsTuple t #[key,kv.2]/\knd.is kv.1 key=true/\t≠d/\t≠it
def PairAt.keep {h h':Heap}{d it:Addr}{u:Value}{kv:KT×Value}(p:PairAt knd h d it u kv)(k:∀b o,b≠d->b≠it->h.get? b=some o->h'.get? b=some o):PairAt knd h' d it u kv:=by
 obtain⟨t,key,e,⟨o,ho,r⟩,hk,h1,h2⟩:=p;exact⟨t,key,e,⟨o,k t o h1 h2 ho,r⟩,hk,h1,h2⟩
def xC {d it l:Addr}{items:List Value}{res:Value}(hh:A.handled=none)(Um:d≠it)(Ys:l≠it)(Yt:l≠d):
  ∀(more:List (KT×Value)) (i:Nat) (s:Shared) (kvs:List (KT×Value)) (R:Result->Shared->Prop),
   s.heap.IsListIter it l i->s.heap.IsList l items.toArray->Paired (PairAt knd s.heap d it) (items.drop i) more->s.heap.DictOf knd d kvs->kvs.length+more.length<=sizeLine->
   (∀h' tk,(∀b o,b≠d->b≠it->s.heap.get? b=some o->h'.get? b=some o)->h'.DictOf knd d (more.foldl (λa x=>stored a x.1 x.2) kvs)->R (.ok (.ret res)) {s with heap:=h',toks:=tk})->
   codeAny (model prog w) A (.builtin "dict.update.loop" ⟨[.ref d,.ref it,rawInt (i:Int),res],[]⟩) R s:=by
 intro more
 induction more with
 |nil=>
  intro i s kvs R hit hl hp hd hz hR
  have hx:items.toArray[i]?=none:=by
   have hn:items.drop i=[]:=by cases A_:items.drop i with
    |nil=>rfl
    |cons x r=>rw[A_] at hp;cases hp
   have:=NQ.mp hn;simp;lia
  refine LY V8 ?_
  rw[LM J1 _]
  show wpAny _ A.in1 (pyNext (.ref it)>>=_) _ _ s
  refine Ko (NJ (A:=A.in1) hh hit hl hx λh' eb=>?_)
  show wpAny _ A.in1 (Builtin.Dict.addKeywords d []>>=_) _ _ _
  refine Ko (Ky (Ky ?_))
  exact hR h' s.toks (λb o h1 h2 e=>eb b o h2 e) (hd.extBut eb Um)
 |cons kv more ih=>
  intro i s kvs R hit hl hp hd hz hR
  obtain⟨x,hx,Yu,Pa⟩:∃x,items.toArray[i]?=some x/\PairAt knd s.heap d it x kv/\Paired (PairAt knd s.heap d it) (items.drop (i+1)) more:=by
   cases A_:items.drop i with
   |nil=>rw[A_] at hp;cases hp
   |cons x r=>
    rw[A_] at hp
    cases hp with
    |cons h1 h2=>
     refine⟨x,?_,h1,?_⟩
     .have z:=LK List.head? A_
      simpa using z
     .have z:=LK List.tail A_
      rw[PC] at z
      rw[z];exact h2
  obtain⟨t,key,rfl,⟨ot,VT,hct,nt,hdt⟩,F_,h1,h2⟩:=Yu
  refine LY V8 ?_
  rw[LM J1 _]
  show wpAny _ A.in1 (pyNext (.ref it)>>=_) _ _ s
  refine Ko (ND hit hl hx λh' hit' Qn=>?_)
  have VU:h'.get? t=some ot:=Qn.extBut _ _ h2 VT
  refine Ko (LG (Ko (wpAny_tryCatch ?_)))
  unfold Builtin.Dict.pairItems
  refine Ko (Od (s:={s with heap:=h'}) ⟨_,VU,hct⟩ ?_)
  rw[if_pos (by decide)]
  refine Ko (Oh (s:={s with heap:=h'}) VU hdt ?_)
  refine Ky ?_
  show wpAny _ A.in1 (holding [key,kv.2] (dictSet d key kv.2)) _ _ _
  refine LG (wpAny_dictSet_pairs (s:={s with heap:=h'}) (kvs:=kvs) F_ (hd.extBut Qn.extBut Um) (λPu dd hs''=>?_) (by simp only[Lq] at hz;lia))
  have kp:∀b o,b≠d->b≠it->s.heap.get? b=some o->Pu.get? b=some o:=λb o hb1 QB e=>hs''.extBut b o hb1 (Qn.extBut b o QB e)
  refine Ky ⟨MM J1 _,?_⟩
  refine ih (i+1) _ (stored kvs kv.1 kv.2) R ?_ ?_ (Paired.imp' (λ_ _ z=>z.keep kp) Pa) dd ?_ (λh3 tk k3 d3=>hR h3 tk (λb o e1 e2 e=>k3 b o e1 e2 (kp b o e1 e2 e)) d3)
  .exact hit'.at λo e=>hs''.extBut it o (Mc Um) e
  .obtain⟨ol,y_,r⟩:=hl
   exact⟨ol,kp l ol Yt Ys y_,r⟩
  .have z:=stored_length_le kvs kv.1 kv.2
   simp only[Lq] at hz
   lia
def jB {l:Addr}{items:List Value}{o:Obj}{n:Nat}{more:List (KT×Value)}{s:Shared}{Q:Value->Shared->Prop}(hh:A.handled=none)(ho:s.heap.get? l=some o)(hc:o.cls= .type "list")(OR:o.data= .seq items.toArray n)(VW:o.dict=none)(hz:more.length<=sizeLine)
  (hp:Paired (λu kv=>∃t key,u= .ref t/\s.heap.IsTuple t #[key,kv.2]/\knd.is kv.1 key=true) items more)
  (h:∀h' tk,h'.DictOf knd s.heap.objs.size (more.foldl (λa x=>stored a x.1 x.2) [])->(∀b o,s.heap.get? b=some o->h'.get? b=some o)->Q (.ref s.heap.objs.size) {s with heap:=h',toks:=tk}):
  wpAny (model prog w) A (call (.type "dict") [.ref l]) Q E s:=by
 refine callType_codes (Q₁:=λobj s₁=>obj= .ref s.heap.objs.size/\s₁={s with heap:=s.heap.push {cls:= .type "dict",data:= .dict #[]}}) F.kt_called_dict (F.kt_typeCall_dict_1 _) F.entry_dict_init (kt_code_dict_new _ ⟨rfl,rfl⟩) ?_
 rintro obj s₁ ⟨rfl,rfl⟩
 have J':(s.heap.push {cls:= .type "dict",data:= .dict #[]}).DictOf knd s.heap.objs.size []:=Pd s.heap
 have VJ:l≠s.heap.objs.size:=KC (Kv ho)
 refine⟨J'.typeIs,F.args_dict_init_2 _ _,?_⟩
 unfold Builtin.«dict.__init__»
 refine Ko ?_
 unfold Builtin.Dict.selfAndRest
 refine Ko (NM J'.typeIs ?_)
 show wpAny _ _ (pure (s.heap.objs.size,[Value.ref l])) _ _ _
 refine Ky ?_
 show wpAny _ _ (Builtin.Dict.updateFrom "dict.__init__" s.heap.objs.size (.ref l) [] .none) _ _ _
 unfold Builtin.Dict.updateFrom
 have Rt:(s.heap.push {cls:= .type "dict",data:= .dict #[]}).get? l=some o:=Kn _ ho
 refine Ko (Od (s:={s with heap:=s.heap.push {cls:= .type "dict",data:= .dict #[]}}) ⟨_,Rt,hc⟩ ?_)
 rw[if_pos (by decide)]
 refine Ko (wV (s:={s with heap:=s.heap.push {cls:= .type "dict",data:= .dict #[]}}) Rt hc OR VW hh λh2 Xf k2=>?_)
 rw[if_pos (show((none:Option Value).isNone)=true from rfl)]
 have Rc:h2.get? l=some o:=k2 l o Rt
 have hd2:h2.DictOf knd s.heap.objs.size []:=let ⟨od,es,ep,e,r⟩:=J';⟨od,es,ep,k2 _ _ e,r⟩
 have n_:s.heap.objs.size<h2.objs.size:=by obtain⟨od,es,ep,e,r⟩:=hd2;exact Kv e
 have up:∀b ob,s.heap.get? b=some ob->(h2.push {cls:= .type "list_iterator",data:= .fields #[.ref l,.int 0 0]}).get? b=some ob:=λb ob e=>Kn _ (k2 b ob (Kn _ e))
 refine Ko (QR (Ko (Nb (l:=l) (items:=items.toArray) ⟨o,Rc,hc,n,OR⟩ ?_)))
 refine Ky ⟨MM J1 _,?_⟩
 refine xC (knd:=knd) (l:=l) (items:=items) (A:=A.in1) hh (KC n_) (KC (Kv Rc)) VJ more 0 _ [] _ ⟨_,KD _ rfl,rfl,rfl⟩ ⟨o,Kn _ Rc,hc,n,OR⟩ ?_ (hd2.push _) (by simpa using hz) λh3 tk k3 d3=>⟨rfl,h h3 tk d3 λb ob e=>k3 b ob (KC (Kv e)) (KC (Pb (Kv e) n_)) (up b ob e)⟩
 rw[Oi]
 refine Paired.imp' (λu kv z=>?_) hp
 obtain⟨t,key,rfl,⟨ot,VT,r⟩,hk⟩:=z
 exact⟨t,key,rfl,⟨ot,up t ot VT,r⟩,hk,KC (Kv VT),KC (Pb (Kv VT) n_)⟩
end
section
variable {X:Cx}
def PrV (K:Qc)(H:Hp)(x:V)(kv:j6×V):Prop:=∃t,x= .ref t/\SqT K H t [kV kv.1,kv.2]
def bQ (kvs:List (j6×V)):List (j6×V):=kvs.foldl (λa x=>E9 a x.1 x.2) []
theorem KV.puts:∀{ps:List (j6×V)} {qs:List (j6×Value)} {a:List (j6×V)} {b:List (j6×Value)},KV ps qs->KV a b->KV (ps.foldl (λa x=>E9 a x.1 x.2) a) (qs.foldl (λa x=>stored a x.1 x.2) b)
 |_,_,_,_,.nil,h=>h
 |_::_,_::_,a,b,.cons r t,h=>by
  obtain⟨e,rv⟩:=r;rw[MY,MY];refine KV.puts t ?_;rw[←e];exact KV.put h _ rv
theorem cQ:∀(ps:List (j6×V)) (a:List (j6×V)),(ps.foldl (λa x=>E9 a x.1 x.2) a).length<=a.length+ps.length
 |[],a=>Ke _
 |p::r,a=>by
  rw[MY,Lq];have z:=cQ r (E9 a p.1 p.2);have z2:=V0 a p.1 p.2;lia
def Du {pins : List (Addr × Obj)} {σ : L2.St} {H : Hp} {s : Shared} (I : Inv X pins σ H s) : ∀ {xs : List V} {kvs : List (j6 × V)} {us : List Value}, Paired (PrV X.K H) xs kvs -> Vals xs us -> ∃ more : List (j6 × Value), KV kvs more /\ Paired (λu kv => ∃ t key, u = Value.ref t /\ s.heap.IsTuple t #[key, kv.2] /\ (z7 X.prog X.w).is kv.1 key = true) us more
 := by
  intro xs kvs us hp hv;induction hp generalizing us with
  | nil => cases hv; exact ⟨[], .nil, .nil⟩
  | @cons x kv l m r t ih => cases hv with
    | cons r' t' =>
      obtain ⟨tt, rfl, sq⟩ := r
      cases r'
      obtain ⟨a_, v1, t1, _⟩ := I.tuple sq
      obtain ⟨key, v, rfl, rk, rv⟩ := hJ v1
      obtain ⟨more, h1, h2⟩ := ih t'
      exact ⟨(kv.1, v) :: more, .cons ⟨rfl, rv⟩ h1, .cons ⟨tt, key, rfl, t1, gG rk⟩ h2⟩
def AE (K:Qc):List V->Hp->VK->Prop:=λxs H Q=>∃(p:Addr) (ys:List V) (kvs:List (j6×V)),xs=[.ref p]/\SqL K H p ys/\Paired (PrV K H) ys kvs/\kvs.length<=sizeLine/\∀l,H l=none->Q (.ref l) (upd H l (.dK (bQ kvs)))
def sJ (hc:X.calm=true):CallR X (.type "dict") (AE X.K):=by
 intro pins s σ H xs us Q I r h;obtain⟨p,ys,kvs,rfl,hq,hp,hz,q⟩:=h;obtain⟨u,rfl,ru⟩:=V4 r;cases ru;obtain⟨a_,rv,pl,_⟩:=I.list hq;obtain⟨more,kv,pr⟩:=Du I hp rv;obtain⟨o,n,e,c,hd,dt⟩:=pl;have hl:more.length=kvs.length:=(KV.length kv).symm;refine jB (knd:=z7 X.prog X.w) (I.ok.hd hc) e c dt hd (by lia) pr λh' tk dd k=>?_;refine⟨.ref s.heap.objs.size,_,?_,rfl,q _ (I.hok.fresh (Ke _))⟩;refine I.laid (a:=s.heap.objs.size) (o:= .dK (bQ kvs)) (t':=tk) k (Ke _) (kZ ?_ (MJ.mpr (Mc (KC I.big))) (KV.puts kv .nil) dd);have z:=cQ kvs [];unfold bQ;simp only[NU] at z;lia
def oH (K:Qc):List V->Hp->VK->Prop:=λxs H Q=>CG xs H Q\/AE K xs H Q
def Z7 (K:Qc)(hc:X.calm=true)(h:X.K=K:=by rfl):CallR X (.type "dict") (oH K):=by
 subst h;intro pins s σ H xs us Q I r h;rcases h with h|h
 .exact tD pins s σ H xs us Q I r h
 .exact sJ hc pins s σ H xs us Q I r h
end
section
variable {K:Qc} {H:Hp} {Q:VK}
def K6 {p:Addr}{kvs:List (j6×V)}(h:Rd H p (.dK kvs))(q:∀l,H l=none->Q (.ref l) (upd H l (.dK kvs))):oH K [.ref p] H Q:= .inl ⟨p,kvs,rfl,h,q⟩
def X9 {p:Addr}{xs:List V}{kvs:List (j6×V)}(h:SqL K H p xs)(hp:Paired (PrV K H) xs kvs)(hz:kvs.length<=sizeLine)(q:∀l,H l=none->Q (.ref l) (upd H l (.dK (bQ kvs)))):oH K [.ref p] H Q:= .inr ⟨p,xs,kvs,rfl,h,hp,hz,q⟩
end
section
variable {X:Cx}
end
def ObjOk.there {P:Program}{w:World}{H:Hp}{h:Heap}{a:Addr}{o:HO}(x:ObjOk P w H h a o):∃u,h.get? a=some u:=by
 induction o with
 |lst xs=>obtain⟨_,_,_,_,e⟩:=x;exact⟨_,e⟩
 |tup xs=>obtain⟨_,_,_,o,e,_⟩:=x;exact⟨_,e⟩
 |dK kvs=>obtain⟨_,_,_,_,o,_,_,e,_⟩:=x;exact⟨_,e⟩
 |dT kvs=>obtain⟨_,_,_,_,o,_,_,e,_⟩:=x;exact⟨_,e⟩
 |set S n=>obtain⟨o,_,_,_,e,_⟩:=x;exact⟨_,e⟩
 |ins C dx fs=>obtain⟨_,_,_,e,_⟩:=x;exact⟨_,e⟩
 |own y=>exact x
 |xd fs=>obtain⟨_,⟨_,_,_,e,_⟩,_⟩:=x;exact⟨_,e⟩
 |rng lo hi=>obtain⟨_,_,_,e⟩:=x;exact⟨_,e⟩
 |frz ob u=>obtain⟨e,_⟩:=x;exact⟨_,e⟩
 |tbl ps=>exact⟨_,show h.get? a=some _ from x⟩
 |met f y=>exact⟨_,show h.get? a=some _ from x⟩
 |ext φ=>obtain⟨_,e,_⟩:=x;exact e
structure Fly (P:Program) (w:World) (outer:List Env) (H:Hp) (s:Shared) (a C:Addr) (a0:Value) (B:Heap) (H':Hp) (s':Shared):Prop where
 fl:Heap.FlyingW B outer a (.ref C) a0 s'.heap
 os:s'.os=s.os
 bare:AllBare s'.gens
 un:Un (bS outer) [] H H' s.heap s'.heap
 hok:HOk P w H' s'.heap
 kp:∀b o,s.heap.get? b=some o->H b=none->b∉bS outer->B.get? b=some o
 th:∀b o,s.heap.get? b=some o->b∉bS outer->∃o',B.get? b=some o'
 tr:∀b o,H' b=some o->∃u,B.get? b=some u
 nw:H' a=none
def mJ (P:Program)(w:World):qh:=λouter H s E e s'=>∃(a C:Addr) (a0:Value) (B:Heap) (H':Hp),e= .ref a/\Fly P w outer H s a C a0 B H' s'/\E (.ref C) (some a) H'
def um {P:Program}{w:World}{H:Hp}{B h h':Heap}(ok:HOk P w H h)(tr:∀b o,H b=some o->∃u,B.get? b=some u)(k1:B.StaysIn h)(k2:B.StaysIn h'):HOk P w H h':=λa o e=>
 (ok a o e).stay (λb u hb q=>by
  have hH:∃o',H b=some o':=by
   rcases hb with rfl|hb
   .exact⟨_,e⟩
   .exact⟨_,hb⟩
  obtain⟨o',SS⟩:=hH;obtain⟨u',Xg⟩:=tr b o' SS;have z:=k1 b u' Xg;rw[q] at z;cases z;exact k2 b _ Xg) (λ_ z=>z) λ_ _ z=>z
section
variable {X:Cx} {pins:List (Addr×Obj)} {σ:St} {H:Hp} {s s':Shared}
def Q2 {base h:Heap}{l:List Env}(F:h.FunFrames base l){b:Addr}{o:Obj}(hb:b∈bS l)(e:h.get? b=some o):∀vs,o.data≠ .fields vs:=by
 obtain⟨_,o',h1,h2⟩:=F.mem hb;rw[e] at h1;cases h1;exact h2
def Fly.land {a C:Addr}{a0:Value}{B:Heap}{H':Hp}{h':Heap}(I:Inv X pins σ H s)(F:Fly X.prog X.w X.stack H s a C a0 B H' s')(k:B.StaysIn h')(sl:s'.heap.UpToSlots h')(t':Nat):
  Inv X pins σ H' {s' with heap:=h',toks:=t'}:=by
 have fr:=F.fl.2.2.1
 have u:Un (bS X.stack) [] H H' s.heap h':=by
  refine⟨λb o e n hb _=>k b o (F.kp b o e n hb),λb o e n hb _=>?_,F.un.free,λb o e _=>?_,F.un.tups,F.un.frzs,F.un.tbls⟩
  .obtain⟨s1,e1⟩:=F.un.slot b o e n hb (by simp);obtain⟨s2,e2⟩:=sl b _ e1 (Q2 fr hb e1);exact⟨s2,e2⟩
  .by_cases hb:b∈bS X.stack
   .obtain⟨o',e1⟩:=F.un.there b o e (by simp);obtain⟨s2,e2⟩:=sl b _ e1 (Q2 fr hb e1);exact⟨_,e2⟩
   .obtain⟨o',e1⟩:=F.th b o e hb;exact⟨o',k b o' e1⟩
 have hok:=um F.hok F.tr F.fl.1 k
 exact I.call' (s':={s' with heap:=h',toks:=t'}) (ch:=[]) F.os u hok F.bare (λb z=>absurd z (by simp))
end
section
variable {P:Program} {w:World} {K:Qc} {mg:Str->Option Value} {base:Heap} {N:List Str} {qual:Str} {scope:Scope} {f:Addr} {cd:Value} {A:Around} {outer:List Env} {s0:Shared} {H0:Hp} {E:XK}
def gh {b:Addr}(hb:b∈bS outer):b∈bS (envOfC qual scope s0.heap.objs.size f cd::outer):=by grind [bS]
def jN {b:Addr}{o:Obj}(e:s0.heap.get? b=some o)(hb:b∉bS outer):b∉bS (envOfC qual scope s0.heap.objs.size f cd::outer):=λz=>by
 unfold bS at z hb;rw[Nl] at z;have hl:=Kv e;rcases Lh.mp z with z|z
 .rw[z] at hl;exact absurd hl (LN _)
 .exact hb z
def pW {pins:List (Addr×Obj)}{σ:St}{H:Hp}{s:Shared}{h1:Heap}{e C:Addr}{vs:List Value}(I:Inv (kB (mJ P w) P w K mg base N qual scope f cd A outer s0 H0 E) pins σ H s)
  (hx:Heap.MadeExcOf s.heap h1 e (.ref C) vs) (q:E (.ref C) (some e) H):(kB (mJ P w) P w K mg base N qual scope f cd A outer s0 H0 E).xe (.ref e) {s with heap:=h1}:=by
 have RU:∀env∈(envOfC qual scope s0.heap.objs.size f cd::outer),∀b,env.frame=some b->b∈bS (envOfC qual scope s0.heap.objs.size f cd::outer):=λenv he b hb=>Nr.mpr ⟨env,he,hb⟩
 have fr:s.heap.FunFrames base (envOfC qual scope s0.heap.objs.size f cd::outer):=I.stack
 have tr:∀b o,H b=some o->∃u,(PySem.W.hideAll s.heap (bS (envOfC qual scope s0.heap.objs.size f cd::outer))).get? b=some u:=λb o z=>by
  obtain⟨u,hu⟩:=(I.hok b o z).there;refine⟨u,Nk _ hu λhb=>?_⟩;have:=I.stkFree b hb;rw[z] at this;cases this
 have nw:H e=none:=by
  cases z:H e with
  |none=>rfl
  |some o=>
   obtain⟨u,hu⟩:=(I.hok e o z).there
   rw[hx.new] at hu;cases hu
 have K':Un (bS outer) [] H0 H s0.heap s.heap:=I.base
 refine wpAny_leaves_madeW (base:=PySem.W.hideAll s.heap (bS (envOfC qual scope s0.heap.objs.size f cd::outer))) I.ok.frames rfl (λb o z=>Oc _ z) (PySem.W.funFrames_hide fr RU) hx λh' t x1 x2 x3 x4=>?_
 have kp:∀b o,s0.heap.get? b=some o->H0 b=none->b∉bS outer->(PySem.W.hideAll s.heap (bS (envOfC qual scope s0.heap.objs.size f cd::outer))).get? b=some o:=λb o z n hb=>
  Nk _ (K'.keep b o z n hb (by simp)) (jN z hb)
 have th:∀b o,s0.heap.get? b=some o->b∉bS outer->∃o',(PySem.W.hideAll s.heap (bS (envOfC qual scope s0.heap.objs.size f cd::outer))).get? b=some o':=λb o z hb=>by
  obtain⟨o',z'⟩:=K'.there b o z (by simp);exact⟨o',Nk _ z' (jN z hb)⟩
 have hk:=x1.1
 refine⟨e,C,_,_,H,rfl,⟨x1,I.os,I.bare,⟨λb o z n hb _=>hk b o (kp b o z n hb),λb o z n hb _=>?_,λb o z n _=>K'.free b o z n (by simp),λb o z _=>?_,K'.tups,K'.frzs,K'.tbls⟩,?_,kp,th,tr,nw⟩,q⟩
 .obtain⟨s1,e1⟩:=K'.slot b o z n hb (by simp)
  have nf:=Q2 fr (gh hb) e1
  obtain⟨s2,e2⟩:=x4 b _ (hx.keeps _ _ e1) nf
  exact⟨s2,e2⟩
 .by_cases hb:b∈bS outer
  .obtain⟨o',e1⟩:=K'.there b o z (by simp)
   obtain⟨s2,e2⟩:=x4 b _ (hx.keeps _ _ e1) (Q2 fr (gh hb) e1)
   exact⟨_,e2⟩
  .obtain⟨o',e1⟩:=th b o z hb
   exact⟨o',hk b o' e1⟩
 .exact um I.hok tr (λb o z=>Oc _ z) hk
def rM:dE (mJ P w) (kB (mJ P w) P w K mg base N qual scope f cd A outer s0 H0 E) E:=by
 intro pins σ H s e s' I h;obtain⟨a,C,a0,B,H',rfl,F,q⟩:=h;have fr:=F.fl.2.2.1;have K':Un (bS outer) [] H0 H s0.heap s.heap:=I.base;refine wpAny_leaves_onW I.ok.frames rfl F.fl λh' x1 x2=>?_;have hk:=x1.1;have kp:∀b o,s0.heap.get? b=some o->H0 b=none->b∉bS outer->B.get? b=some o:=λb o z n hb=>
  F.kp b o (K'.keep b o z n hb (by simp)) (K'.free b o z n (by simp)) (jN z hb)
 have th:∀b o,s0.heap.get? b=some o->b∉bS outer->∃o',B.get? b=some o':=λb o z hb=>by
  obtain⟨o',z'⟩:=K'.there b o z (by simp);exact F.th b o' z' (jN z hb)
 have ub:Un (bS (envOfC qual scope s0.heap.objs.size f cd::outer)) [] H H' s.heap s'.heap:=F.un;refine⟨a,C,a0,B,H',rfl,⟨x1,F.os.trans I.os,F.bare,⟨λb o z n hb _=>hk b o (kp b o z n hb),λb o z n hb _=>?_,λb o z n _=>?_,λb o z _=>?_,λb xs z=>ub.tups b xs (K'.tups b xs z),λb o u z=>ub.frzs b o u (K'.frzs b o u z),λb ps z=>?_⟩,um F.hok F.tr F.fl.1 hk,kp,th,F.tr,F.nw⟩,q⟩
 .obtain⟨s1,e1⟩:=K'.slot b o z n hb (by simp);obtain⟨s2,e2⟩:=ub.slot b _ e1 (K'.free b o z n (by simp)) (gh hb) (by simp);obtain⟨s3,e3⟩:=x2 b _ e2 (Q2 fr (gh hb) e2);exact⟨s3,e3⟩
 .obtain⟨o',e1⟩:=K'.there b o z (by simp);exact ub.free b o' e1 (K'.free b o z n (by simp)) (by simp)
 .by_cases hb:b∈bS outer
  .obtain⟨o',e1⟩:=K'.there b o z (by simp);obtain⟨o2,e2⟩:=ub.there b o' e1 (by simp);obtain⟨s3,e3⟩:=x2 b _ e2 (Q2 fr (gh hb) e2);exact⟨_,e3⟩
  .obtain⟨o',e1⟩:=th b o z hb;exact⟨o',hk b o' e1⟩
 .obtain⟨m1,e1⟩:=K'.tbls b ps z;obtain⟨m2,e2⟩:=ub.tbls b _ e1;exact⟨m1++m2,by rw[e2,Qe]⟩
end
def FH:List Value:=[.type "ValueError",.type "Exception",.type "BaseException",.type "object"]
structure ExC (K:Qc) (mg:Str->Option Value) (x:Str) (C:Addr):Prop where
 bound:mg x=some (.ref C)
 exc:PySem.W.excIn K C FH "ValueError.__new__"=true
def ExC.own {K:Qc}{mg:Str->Option Value}{x:Str}{C:Addr}{h:Heap}(O:ExC K mg x C)(X:K.In h):OwnCls x C FH "ValueError.__new__" mg h:=by
 have q:=O.exc;refine⟨O.bound,?_⟩;unfold PySem.W.excIn at q;split at q
 .rename_i g1 g2 g3 lk
  split at q
  .rename_i c2 l2 i0 i1 i2 i3 nn i5 em es
   simp only[KO,SQ,Lw] at q;obtain⟨⟨⟨⟨⟨ea,eb⟩,q1⟩,q2⟩,q3⟩,q4⟩:=q;subst ea;subst eb;obtain⟨y1,y2,y3,y4,y5,y6,y7,y8,y9,y10,y11⟩:=g2;dsimp only at em q1 q3 q4;subst em q1;have e3:g3= #[i0,i1,i2,i3,some (.builtin "ValueError.__new__"),i5]:=by
    cases g3 with
    |mk l=>
     have VA:l=[i0,i1,i2,i3,some (.builtin "ValueError.__new__"),i5]:=es
     rw[VA]
   subst e3;exact⟨l2,y4,y1,y5,y2,y6,y7,y8,y9,y10,g1,i0,i1,i2,i3,i5,h.nsMap y4,X _ _ lk,Heap.Ns.of_isNs (PySem.W.isNs_of_in X q3),PySem.W.nsMap_none_of_in X q3 q4,PySem.W.tail_of_in X q2⟩
  .cases q
 .cases q
def tf (X:Cx)(E:XK):Prop:=∀(pins:List (Addr×Obj)) (σ:St) (H:Hp) (s:Shared) (h1:Heap) (e C:Addr) (vs:List Value),Inv X pins σ H s->Heap.MadeExcOf s.heap h1 e (.ref C) vs->E (.ref C) (some e) H->X.xe (.ref e) {s with heap:=h1}
def jL {P:Program}{w:World}{K:Qc}{mg:Str->Option Value}{base:Heap}{N:List Str}{qual:Str}{scope:Scope}{f:Addr}{cd:Value}{A:Around}{outer:List Env}{s0:Shared}{H0:Hp}{E:XK}:
  tf (kB (mJ P w) P w K mg base N qual scope f cd A outer s0 H0 E) E:=λ_ _ _ _ _ _ _ _ I hx q=>pW I hx q
def tp (C:Addr)(E:XK)(ta:TA):TS:=λ_ σ H=>ta σ H λvs H1=>vs.length<=sizeLine/\∀e,H1 e=none->E (.ref C) (some e) H1
section
variable {X:Cx} {E:XK} {x:Str} {C:Addr} {np b_ pos:Pos} {e:Expr} {es:List Expr} {ta:TA}
def yf (R:tf X E)(O:ExC X.K X.mg x C)(hc:X.calm=true)(ha:PA X (e::es) ta)(hg:Gl X x:=by rfl)(w_:(x==("__debug__":Str))=false:=by decide)(h:E2 (e::es)=true:=by rfl):
  PS X (.Raise (some (.Call (.Name x np) (e::es) [] b_)) none pos) (tp C E ta):=by
 intro pins s σ H D I hw
 have h':(C6 e&&E2 es)=true:=h
 rw[KO] at h'
 have h1:starEach (e::es) X.env=(false,eval e X.env)::starEach es X.env:=X8 h'.1
 have h2:(backTo b_ (starEach es X.env)).any (·.1)=false:=cV h'.2
 obtain⟨tl,y0,y1,y2,y3,y4,y5,y6,y7,y8,y9,u0,u1,u2,u3,u5,mN,hC,hN,QC,T⟩:=(O.own I.ok.mod.kin).obj
 refine wpAny_Raise_call_subT (k5:=u5) (k3:=u3) (k2:=u2) (k1:=u1) (k0:=u0) (dd:=y9) (col:=y8) (ab:=y7) (sub:=y6) (sn:=y5) (hdct:=y4) (bs:=y3) (q:=y2) (nm:=y1) (N:=y0) (C:=C) (bm:=tl) (mN:=mN) PySem.F.excBase_ValueError (T.hasType (by decide)) (I.ok.hd hc) ?_ QC (hU I hg O.bound ⟨rfl,?_⟩ w_)
 .rw[h1]
  show(false||(backTo b_ (starEach es X.env)).any (·.1))=false
  rw[h2];rfl
 .have hw':=ha b_ pins s σ H _ I hw
  rw[h1] at hw'⊢
  refine Nf (P0 hw' λus s1 ⟨vs,H1,I1,r,q1,q2⟩=>?_)
  refine⟨rfl,by rw[←r.length];exact q1,I1.bk _ _ hC,hN.keeps I1.bk,T.keeps I1.bk,λh2 e2 hm=>?_⟩
  have nw:H1 e2=none:=by
   cases z:H1 e2 with
   |none=>rfl
   |some o=>
    obtain⟨u,hu⟩:=(I1.hok e2 o z).there
    rw[hm.new] at hu;cases hu
  exact R pins σ H1 s1 h2 e2 C us I1 hm (q2 e2 nw)
def qa (R:tf X E)(O:ExC X.K X.mg x C)(hc:X.calm=true)(ha:QA X (e::es) ta)(hg:Gl X x:=by rfl)(w_:(x==("__debug__":Str))=false:=by decide)(h:E2 (e::es)=true:=by rfl):
  QS X (.Raise (some (.Call (.Name x np) (e::es) [] b_)) none pos) (tp C E ta):=⟨yf R O hc ha.r hg w_ h⟩
def Jr (te:TE)(c:Str):TE:=λσ H Q=>te σ H λv H1=>∃y:Str,v= .str y/\y.length+c.length<=1000/\∀z:Str,Q (.str z) H1
def JG {te:TE}{c:Str}{p1 p2:Pos}{j}(he:QE X e te):QE X (.JoinedStr [.FormattedValue e (-1) none p1,.Constant (.str c) j p2] pos) (Jr te c):=⟨by
 intro pins s σ H Q I h;refine JoinedStr_many (joinParts_cons (FormattedValue_plain (P0 (he.r pins s σ H _ I h) λu s1 ⟨v,H1,I1,r,y,ev,hl,q⟩=>?_)));subst ev;obtain⟨t,rfl⟩:=(show ∃t,u=Value.str y t from r)
 refine formatField_str (λt' tk=>?_) (d0 (by lia));refine⟨d0 (by rw[Qp];show 0+_<=1000;lia),joinParts_cons ?_⟩;have hc:=(fE (X:=X) (x:=c) (j:=j) (pos:=p2)).r pins {s1 with toks:=tk} σ H1 (λv H2=>v= .str c/\H2=H1) (I1.tok tk) ⟨rfl,rfl⟩;refine P0 hc λu2 s2 ⟨v2,H2,I2,r2,e2,e3⟩=>?_;subst e2 e3;obtain⟨t2,rfl⟩:=(show ∃t,u2=Value.str c t from r2)
 have hz:(Str.empty++y++c).length<=sizeLine:=d0 (by rw[Qp,Qp];show 0+_+_<=1000;lia);refine⟨hz,joinParts_nil ⟨.str (Str.empty++y++c),H2,I2.tok _,⟨_,rfl⟩,q _⟩ hz⟩⟩
end
def Fun.okE {P:Program}{w:World}{K:Qc}{mg:Str->Option Value}{base:Heap}{x qual:Str}{st:Stmt}{f:Addr}{fd:FuncData}{N ps:List Str}{k:Nat}{sp:Sp}(F:Fun K x qual st f fd)(S:j7 N ps (i9 st))(len:∀vs H Q E,sp vs H Q E->vs.length=ps.length)
  (Pl:∀(c_:Value) (A:Around) (outer:List Env) (s:Shared) (H:Hp) (vs:List V) (Q:VK) (E:XK),Room k (A.deeper (envOfC qual (i9 st) s.heap.objs.size f c_))->sp vs H Q E->
   ∃t,PSs (kB (mJ P w) P w K mg base N qual (i9 st) f c_ A outer s H E) (Z0 st) t/\t {nx:=λ_ H'=>Q .non H',rt:=Q} (gy N vs) H):C5 P w K mg base (mJ P w) (k+1) f fd ps sp:=by
 obtain⟨oc,od,kV,doc,pm,an,c_,ct,Rb,rfl,lk,QV⟩:=F.ex
 exact CW lk QV S len λA outer s H vs Q E hr SE=>Pl c_ A outer s H vs Q E hr SE
abbrev Cx.pinned (X:Cx)(pins:List (Addr×Obj)):Cx:={X with pn:=X.pn++pins}
def JY (X:Cx)(pins:List (Addr×Obj))(Es:St->XK):Value->Shared->Prop:=λe s'=>∃(k_:List (Addr×Obj)) (σ:St) (H:Hp) (s:Shared),Inv (X.pinned pins) k_ σ H s/\mJ X.prog X.w X.stack H s (Es σ) e s'
abbrev Cx.tried (X:Cx)(pins:List (Addr×Obj))(Es:St->XK):Cx:={X with pn:=X.pn++pins,xe:=JY X pins Es}
abbrev Cx.suite (X:Cx)(e:Addr):Cx:={X with A:=X.A.mark (some (.ref e)),calm:=false,xe:=λ_ _=>False}
section
variable {X:Cx} {pins k_:List (Addr×Obj)} {Es:St->XK} {σ:St} {H:Hp} {s:Shared} {e:Addr}
def Inv.toTried (I:Inv X pins σ H s):Inv (X.tried pins Es) [] σ H s:=
 ⟨⟨I.ok.mod,I.ok.kind,I.ok.glob,I.ok.blt,I.ok.above,I.ok.inj,I.ok.has,I.ok.cab,I.ok.hd,I.ok.frames,I.ok.stk,I.ok.exf,I.ok.bs,I.ok.bsz,I.ok.noex,I.ok.exfs,I.ok.funs,I.ok.frf⟩,
  I.os,I.bare,I.base,I.loc,I.cell,I.free,I.freeC,λp hp=>I.pin p (by simpa using hp),I.hok,I.len⟩
def Inv.ofTried (I:Inv (X.tried pins Es) k_ σ H s):Inv X pins σ H s:=
 ⟨⟨I.ok.mod,I.ok.kind,I.ok.glob,I.ok.blt,I.ok.above,I.ok.inj,I.ok.has,I.ok.cab,I.ok.hd,I.ok.frames,I.ok.stk,I.ok.exf,I.ok.bs,I.ok.bsz,I.ok.noex,I.ok.exfs,I.ok.funs,I.ok.frf⟩,
  I.os,I.bare,I.base,I.loc,I.cell,I.free,I.freeC,λp hp=>I.pin p (Kf _ hp),I.hok,I.len⟩
def Inv.ofPinned (I:Inv (X.pinned pins) k_ σ H s):Inv X pins σ H s:=
 ⟨⟨I.ok.mod,I.ok.kind,I.ok.glob,I.ok.blt,I.ok.above,I.ok.inj,I.ok.has,I.ok.cab,I.ok.hd,I.ok.frames,I.ok.stk,I.ok.exf,I.ok.bs,I.ok.bsz,I.ok.noex,I.ok.exfs,I.ok.funs,I.ok.frf⟩,
  I.os,I.bare,I.base,I.loc,I.cell,I.free,I.freeC,λp hp=>I.pin p (Kf _ hp),I.hok,I.len⟩
def Inv.triedPinned (I:Inv (X.tried pins Es) k_ σ H s):Inv (X.pinned pins) k_ σ H s:=
 ⟨⟨I.ok.mod,I.ok.kind,I.ok.glob,I.ok.blt,I.ok.above,I.ok.inj,I.ok.has,I.ok.cab,I.ok.hd,I.ok.frames,I.ok.stk,I.ok.exf,I.ok.bs,I.ok.bsz,I.ok.noex,I.ok.exfs,I.ok.funs,I.ok.frf⟩,
  I.os,I.bare,I.base,I.loc,I.cell,I.free,I.freeC,I.pin,I.hok,I.len⟩
def qZ (A:Around)(h:Option Value):(A.mark h).frames=A.frames:=rfl
def Inv.toSuite (I:Inv X pins σ H s):Inv (X.suite e) pins σ H s:=
 ⟨⟨I.ok.mod,I.ok.kind,I.ok.glob,I.ok.blt,I.ok.above,I.ok.inj,I.ok.has,I.ok.cab,(λz=>nomatch z),(qZ _ _).trans I.ok.frames,I.ok.stk,I.ok.exf,I.ok.bs,I.ok.bsz,I.ok.noex,I.ok.exfs,I.ok.funs,I.ok.frf⟩,
  I.os,I.bare,I.base,I.loc,I.cell,I.free,I.freeC,I.pin,I.hok,I.len⟩
def Inv.ofSuite (ok:X.Ok)(I:Inv (X.suite e) pins σ H s):Inv X pins σ H s:=
 ⟨ok,I.os,I.bare,I.base,I.loc,I.cell,I.free,I.freeC,I.pin,I.hok,I.len⟩
def cE (a C:Addr)(h:Heap):Prop:=∃o vs,h.get? a=some o/\o.cls= .ref C/\o.data= .fields vs
def Av {P:Program}{w:World}{H:Hp}{h:Heap}{a C:Addr}(x:cE a C h):ObjOk P w H h a (.ext (cE a C)):=by grind [cE,ObjOk]
def Inv.track {a C:Addr}(I:Inv X pins σ H s)(hn:H a=none)(x:cE a C s.heap)(h0:X.s₀.heap.get? a=none)(hp:∀p∈X.pn++pins,p.1≠a):Inv X pins σ (upd H a (.ext (cE a C))) s:=by
 obtain⟨o,vs,e,c,d⟩:=id x;have ne0:∀b ob,X.s₀.heap.get? b=some ob->b≠a:=λb ob z q=>by rw[q,h0] at z;cases z
 refine⟨I.ok,I.os,I.bare,⟨I.base.keep,I.base.slot,λb ob z n hx=>?_,I.base.there,λb xs z=>?_,λb ob u z=>?_,λb ps z=>?_⟩,I.loc,I.cell,?_,λy c' z=>?_,λp hq=>?_,λb u z=>?_,I.len⟩
 .rw[b9 (ne0 b ob z)];exact I.base.free b ob z n hx
 .have z':=I.base.tups b xs z;rw[b9 λq=>by rw[q,hn] at z';cases z'];exact z'
 .have z':=I.base.frzs b ob u z;rw[b9 λq=>by rw[q,hn] at z';cases z'];exact z'
 .obtain⟨more,z'⟩:=I.base.tbls b ps z;exact⟨more,by rw[b9 λq=>by rw[q,hn] at z';cases z'];exact z'⟩
 .obtain⟨m,⟨oL,es,ep,hL,dL,_⟩,_⟩:=I.loc;rw[b9 λq=>?_]
  .exact I.free
  .rw[q,e] at hL;cases hL;rw[d] at dL;cases dL
 .obtain⟨v,oc,Ud,hod⟩:=I.cell y c' z;rw[b9 λq=>?_]
  .exact I.freeC y c' z
  .rw[q,e] at Ud;cases Ud;rw[d] at hod;cases hod
 .obtain⟨p1,p2,p3,p4,p5⟩:=I.pin p hq;exact⟨p1,by rw[b9 (hp p hq)];exact p2,p3,p4,p5⟩
 .by_cases q:b=a
  .subst q;rw[d6] at z;cases z;exact Av x
  .rw[b9 q] at z;refine(I.hok b u z).stay (λ_ _ _ q=>q) (λb' q'=>?_) λb' xs q'=>?_
   .rw[b9 λk=>by rw[k,hn] at q';cases q'];exact q'
   .rw[b9 λk=>by rw[k,hn] at q';cases q'];exact q'
end
def yQ (sp:Sp)(r_:List V)(Es:St->XK)(t:TA):TE:=λσ H Q=>t σ H λvs H1=>sp (vs++r_) H1 Q (Es σ)
section
variable {X:Cx} {pins:List (Addr×Obj)} {Es:St->XK} {k:Nat} {ps:List Str} {r_:List V} {sp:Sp} {x:Str} {p pos:Pos} {e:Expr} {es:List Expr} {t:TA}
def JC (C:U0 X.prog X.w X.K X.mg X.base (mJ X.prog X.w) k x ps r_ sp)(hr:Room k X.A)(ha:QA (X.tried pins Es) (e::es) t)(hg:Gl X x:=by rfl)
  (w_:(x==("__debug__":Str))=false:=by decide) (h:E2 (e::es)=true:=by rfl):QE (X.tried pins Es) (.Call (.Name x p) (e::es) [] pos) (yQ sp r_ Es t):=⟨by
 have h':(C6 e&&E2 es)=true:=h
 rw[KO] at h'
 obtain⟨f,fd,ds,F,hm,hk,hb,hd⟩:=C
 intro k_ s σ H Q I hw
 refine Mq (hU I hg hm ?_ w_)
 refine Qg (h₀:=X.base) I.ok.mod.kin hk (P0 (ha.r pos k_ s σ H _ I hw) λus s1 ⟨vs,H1,I1,r,q⟩=>⟨I1.kIn,?_⟩) (X8 h'.1) (cV h'.2)
 have r2:Vals (vs++r_) (us++ds):=r.append hd
 have hl:(us++ds).length=ps.length:=by rw[←r2.length];exact F.len _ _ _ _ q
 refine wpAny_call (NK (F.run X.A X.stack s1 H1 ⟨us,[]⟩ (us++ds) (vs++r_) Q (Es σ) hr I1.env0 (hb s1 us I1.kIn hl) r2 q) λr s' hq=>?_)
 cases r with
 |error e=>exact⟨k_,σ,H1,s1,I1.triedPinned,hq⟩
 |ok fl=>
  cases fl with
  |ret u=>exact I1.after hq
  |next=>exact False.elim hq
  |brk=>exact False.elim hq
  |cont=>exact False.elim hq⟩
end
def sD {M:Model}{A:Around}{E:Value->Shared->Prop}{K:Qc}{s:Shared}{a C T:Addr}{b:Bool}{Q:Bool->Shared->Prop}(X:K.In s.heap)(x:cE a C s.heap)(hm:PySem.W.typeIn K (.ref T)=some (.type "type"))
  (he:PySem.W.subIn K (.ref T) (.type "BaseException")=some true) (hc:(PySem.W.clsIn K T).isSome=true) (hs:PySem.W.subIn K (.ref C) (.ref T)=some b) (q:Q b s):wpAny M A (excMatches (.ref a) (.ref T)) Q E s:=by
 obtain⟨oe,vs,ex,ec,ed⟩:=x
 have L1:PySem.W.Looks M s.heap (isInstance (.ref T) (.type "tuple")) false:=(PySem.W.looks_typeIn X hm).andThen (PySem.W.Looks.of_pure tc_notTuple)
 have L2:PySem.W.Looks M s.heap (isType (.ref T)) true:=by
  unfold PySem.W.clsIn at hc;split at hc
  .rename_i lk
   intro A' Q' E' s' k q';unfold isType loadHead;exact Ko (wpAny_loadPart (k _ _ (X _ _ lk)) (Ky q'))
  .cases hc
 have L3:=PQ (M:=M) X he
 have L4:PySem.W.Looks M s.heap (typeOf (.ref a)) (.ref C):=by
  have z:PySem.W.Looks M s.heap (typeOf (.ref a)) oe.cls:=(PySem.W.Looks.ld ex).andThen .now;rw[ec] at z;exact z
 have L5:=PQ (M:=M) X hs
 unfold excMatches
 refine Ko (L1.here ?_)
 simp only[Ny,Pp]
 have LX:PySem.W.Looks M s.heap (isExcClass (.ref T)) true:=by
  unfold isExcClass;exact L2.andThen (by simpa using L3)
 refine Ko (Ky ?_)
 refine Ko ?_
 rw[Nx]
 refine Ko (Ko (LX.here ?_))
 simp only[Bool.not_true,Ny,Pp]
 refine Ky ?_
 simp only[Oj]
 refine Ky ?_
 refine Ko (L4.here ?_)
 refine Ko ?_
 rw[Nx]
 refine Ko (Ko (L5.here ?_))
 cases b with
 |true=>
  simp only[Oy]
  exact Ky (Ky (Ky q))
 |false=>
  simp only[Ny,Pp]
  refine Ky ?_
  simp only[Oj]
  exact Ky (Ky q)
structure IX (K:Qc) (mg:Str->Option Value) (x:Str) (T:Addr):Prop where
 bound:mg x=some (.ref T)
 ty:PySem.W.typeIn K (.ref T)=some (.type "type")
 exc:PySem.W.subIn K (.ref T) (.type "BaseException")=some true
 cls:(PySem.W.clsIn K T).isSome=true
section
variable {X:Cx} {x n:Str} {T:Addr} {np QD pos:Pos} {i:Nat} {b₀:Stmt} {body suite:List Stmt} {tb:(St->XK)->TS} {ts:TS}
end
end L2
namespace L2
open PySem PySem.Spec PyProof.Rows PySem.W
section
variable {X:Cx}
end
def cA (K:Frag)(x:Str):Addr:=match nsIn K mainGlobals x with
 |some (some (.ref C))=>C
 |_=>0
def zf {P:Program}{w:World}{X:Cx}:dE (mJ P w) X E0:=λ_ _ _ _ _ _ _ ⟨_,_,_,_,_,_,_,z⟩=>z.elim
section
variable {K:Frag} {σ:St} {H:Hp} {Q:VK} {D:qz}
def Bz {C:Addr}{E:XK}{ta:TA}(q:ta σ H λvs H1=>vs.length<=sizeLine/\∀e,H1 e=none->E (.ref C) (some e) H1):tp C E ta D σ H:=q
def Jd {te:TE}{c:Str}(q:te σ H λv H1=>∃y:Str,v= .str y/\y.length+c.length<=1000/\∀z:Str,Q (.str z) H1):Jr te c σ H Q:=q
def BH {sp:Sp}{r_:List V}{Es:St->XK}{t:TA}(q:t σ H λvs H1=>sp (vs++r_) H1 Q (Es σ)):yQ sp r_ Es t σ H Q:=q
end
section
variable {X:Cx}
def Hh (K:Frag):R2:=λ_ _ _ _=>False
def ES (hu:X.A.units+64<cLine):OpR X (compareOp .NotEq) (Hh X.K):=by
 intro pins s σ H x y v u Q I rx ry h;exact h.elim
def yu (K:Frag):R2:=λx y H Q=>uo K x y H Q\/Hh K x y H Q
def Jm (K:Frag){k:Nat}(hr:Room k X.A)(h:X.K=K:=by rfl):OpR X (compareOp .NotEq) (yu K):=(JA K hr h).or (h▸ES hr.units)
end
section
variable {K:Frag} {H:Hp} {Q:VK}
def IM {x y:V}(q:uo K x y H Q):yu K x y H Q:= .inl q
def zV {i j:Int}(q:Q (.bl (!decide (i=j))) H):yu K (.int i) (.int j) H Q:= .inl (rO q)
def BL {i j:Bool}(q:Q (.bl (!decide (i=j))) H):yu K (.bl i) (.bl j) H Q:= .inl (uR q)
end
def R8 (ka kb:List (j6×V)):List (j6×V):=kb.foldl (λa x=>E9 a x.1 x.2) ka
theorem mQ:∀{kb ka:List (j6×V)},(R8 ka kb).length<=ka.length+kb.length
 |[],ka=>Ke _
 |p::r,ka=>by
  show(R8 (E9 ka p.1 p.2) r).length<=_;have z:=mQ (kb:=r) (ka:=E9 ka p.1 p.2);have z2:=V0 ka p.1 p.2;rw[Lq];lia
section
variable {X:Cx}
def BN:V->List V->Hp->VK->Prop:=λx vs H Q=>∃a b ka kb,x= .ref a/\vs=[.ref b]/\H a=some (.dK ka)/\Rd H b (.dK kb)/\a≠b/\ka.length+kb.length<=1000/\Q .non (upd H a (.dK (R8 ka kb)))
def R7:yR X "dict.update" BN:=by
 intro pins s σ H x vs v us Q I rx rv h;obtain⟨a,b,ka,kb,rfl,rfl,hA,hB,G_,hl,q⟩:=h;cases rx;obtain⟨u,rfl,ru⟩:=V4 rv;cases ru;obtain⟨z,hd,va,ra,da⟩:=Cw I.hok hA;obtain⟨z2,hd2,vb,rb,db⟩:=X3 I.hok hB;have lz:ka.length+kb.length<=sizeLine:=d0 hl;refine Mf Mi da.typeIs PySem.F.entry_dict_update (PySem.F.args_dict_update_2 _ _) (meets_dict_update (z7 X.prog X.w) a b G_ hd2) ⟨va,vb,da,db,by rw[←ra.length,←rb.length];exact lz,λh' dd' _ hs=>?_⟩;have he:∃q,h'.get? a=some q:=let ⟨q,_,_,hq,_⟩:=dd';⟨q,hq⟩
 have RW:=mQ (kb:=kb) (ka:=ka);refine⟨.non,_,jT (t':=s.toks) I (by rw[hA];exact True.intro) hs he (kZ (kvs:=R8 ka kb) (Kw RW lz) hd (KV.puts rb ra) dd'),rfl,q⟩
end
section
open PySem.Builtin PySem.Builtin.Str
def rW (x:Str)(l u:Option Int):(Txt.slice x l u).length<=(strSliceIndices l u 1 x.length).length:=by
 unfold Txt.slice;split
 .next h=>
  have h':(strSliceIndices l u 1 x.length).length=x.length:=by simpa using h
  lia
 .show(List.filterMap _ (strSliceIndices l u 1 x.length)).toArray.size<=_;rw[KH];exact List.length_filterMap_le _ _
def qr (x:Str)(i:Int)(h0:0<=i)(h1:i<=x.length):(Txt.slice x none (some i)).length<=i.toNat:=by
 refine Kw (rW x none (some i)) ?_;unfold strSliceIndices sliceRange;simp only[show(1:Int)>0 by decide,Oy,Kb,LU];repeat(first|split|lia)
def kX (x:Str)(i:Int)(h0:0<=i)(h1:i<=x.length):(Txt.slice x (some i) none).length<=x.length -i.toNat:=by
 refine Kw (rW x (some i) none) ?_;unfold strSliceIndices sliceRange;simp only[show(1:Int)>0 by decide,Oy,Kb,LU];repeat(first|split|lia)
end
def cG (σ:List Str)(x:Str):List Str:=if x∈σ then σ else σ++[x]
def iN (ss:List Str):List Str:=ss.foldl cG []
def uJ (σ:List Str)(x:Str):(cG σ x).length<=σ.length+1:=by
 unfold cG;split
 .lia
 .rw[Kj];simp
def zU {σ:List Str}{x y:Str}:y∈cG σ x↔y∈σ\/y=x:=by grind [cG]
theorem kC:∀(ss σ:List Str),(ss.foldl cG σ).length<=σ.length+ss.length
 |[],σ=>Ke _
 |x::r,σ=>by
  have z:=kC r (cG σ x);have z2:=uJ σ x;rw[MY,Lq];lia
theorem mO:∀(ss σ:List Str),σ.Nodup->((ss.foldl cG σ).length=σ.length+ss.length↔(σ++ss).Nodup)
 |[],σ,nd=>by simp [nd]
 |x::r,σ,nd=>by
  rw[MY,Lq];by_cases h:x∈σ
  .have e:cG σ x=σ:=by unfold cG;rw[if_pos h]
   rw[e];have z:=kC r σ;constructor
   .intro q;lia
   .intro q;exact absurd rfl ((Ks.mp q).2.2 x h x (by simp))
  .have e:cG σ x=σ++[x]:=by unfold cG;rw[if_neg h]
   have nd':(σ++[x]).Nodup:=Ks.mpr ⟨nd,by simp,λa ha b hb e=>h (by
    have hbx:b=x:=by simpa using hb
    rw[←hbx,←e];exact ha)⟩
   have z:=mO r (σ++[x]) nd';rw[e];rw[Kj,Ku] at z;rw[La] at z;show _↔(σ++([x]++r)).Nodup;rw[←z];lia
def qt (ss:List Str):(iN ss).length=ss.length↔ss.Nodup:=by
 have z:=mO ss [] LF;simpa [iN] using z
section
variable {prog:Program} {w:World} {A:Around} {E:Value->Shared->Prop}
def StrsAre:List Value->List Str->Prop:=Paired λu x=>∃t,u= .str x t
def xY {d it l:Addr}{items:List Value}(hh:A.handled=none)(Um:d≠it)(Ys:l≠it)(Yt:l≠d):
  ∀(more:List Str) (i:Nat) (s:Shared) (σ:List Str) (R:Result->Shared->Prop),
   s.heap.IsListIter it l i->s.heap.IsList l items.toArray->StrsAre (items.drop i) more->s.heap.SetOf (strKind prog w) d (λk=>decide (k∈σ)) σ.length->σ.length+more.length<2000->
   (∀h' tk,(∀b o,b≠d->b≠it->s.heap.get? b=some o->h'.get? b=some o)->h'.SetOf (strKind prog w) d (λk=>decide (k∈more.foldl cG σ)) (more.foldl cG σ).length->R (.ok (.ret .none)) {s with heap:=h',toks:=tk})->
   codeAny (model prog w) A (.builtin "set.update.loop" ⟨[.ref d,.ref it],[]⟩) R s:=by
 intro more
 induction more with
 |nil=>
  intro i s σ R hit hl hp hd hz hR
  have hx:items.toArray[i]?=none:=by
   have hn:items.drop i=[]:=by cases A_:items.drop i with
    |nil=>rfl
    |cons x r=>rw[A_] at hp;cases hp
   have:=NQ.mp hn;simp;lia
  refine LY F.entry_set_update_loop ?_
  rw[LM Nz _]
  show wpAny _ A.in1 (pyNext (.ref it)>>=_) _ _ s
  refine Ko (NJ (A:=A.in1) hh hit hl hx λh' eb=>?_)
  show wpAny _ A.in1 (ret Value.none) _ _ _
  refine Ky (hR h' s.toks (λb o h1 h2 e=>eb b o h2 e) ?_)
  obtain⟨o,es,ep,t,ho,r⟩:=hd
  exact⟨o,es,ep,t,eb d o Um ho,r⟩
 |cons x more ih=>
  intro i s σ R hit hl hp hd hz hR
  obtain⟨u,hx,⟨t,rfl⟩,Pa⟩:∃u,items.toArray[i]?=some u/\(∃t,u=Value.str x t)/\StrsAre (items.drop (i+1)) more:=by
   cases A_:items.drop i with
   |nil=>rw[A_] at hp;cases hp
   |cons u r=>
    rw[A_] at hp
    cases hp with
    |cons h1 h2=>
     refine⟨u,?_,h1,?_⟩
     .have z:=LK List.head? A_
      simpa using z
     .have z:=LK List.tail A_
      rw[PC] at z
      rw[z];exact h2
  simp only[Lq] at hz
  refine LY F.entry_set_update_loop ?_
  rw[LM Nz _]
  show wpAny _ A.in1 (pyNext (.ref it)>>=_) _ _ s
  refine Ko (ND hit hl hx λh' hit' Qn=>?_)
  have Vy:h'.SetOf (strKind prog w) d (λk=>decide (k∈σ)) σ.length:=by
   obtain⟨o,es,ep,tb,ho,r⟩:=hd;exact⟨o,es,ep,tb,Qn.extBut d o Um ho,r⟩
  refine Ko (LG ?_)
  unfold setAdd
  refine LG (Ko ((strKind prog w).pyHash (k:=x) (strKind_is _ _ _ _) ?_))
  refine wpAny_setAddHashed_of (knd:=strKind prog w) (s:={s with heap:=h',toks:=s.toks+1}) (strKind_is _ _ _ _) rfl Vy (by unfold scanBound;lia) λPu hs'' Yv=>?_
  have hS3:Pu.SetOf (strKind prog w) d (λk=>decide (k∈cG σ x)) (cG σ x).length:=by
   refine SetOf_congr Yv (λk=>?_) ?_
   .rw[Lg];simp [zU]
   .unfold cG;by_cases h:x∈σ
    .rw[if_pos (by simpa using h),if_pos h]
    .rw[if_neg (by simpa using h),if_neg h,Kj];rfl
  have kp:∀b o,b≠d->b≠it->s.heap.get? b=some o->Pu.get? b=some o:=λb o hb1 QB e=>(hs''.2 b hb1).trans (Qn.extBut b o QB e)
  have hle:=uJ σ x
  refine Ky ⟨MM Nz _,?_⟩
  refine ih (i+1) _ (cG σ x) R ?_ ?_ Pa hS3 (by lia) (λh3 tk k3 d3=>hR h3 tk (λb o e1 e2 e=>k3 b o e1 e2 (kp b o e1 e2 e)) d3)
  .exact hit'.at λo e=>(hs''.2 it (Mc Um)).trans e
  .obtain⟨ol,y_,r⟩:=hl
   exact⟨ol,kp l ol Yt Ys y_,r⟩
end
section
variable {prog:Program} {w:World} {A:Around} {E:Value->Shared->Prop}
set_option maxHeartbeats 3200000 in
def mI {l:Addr}{items:List Value}{o:Obj}{n:Nat}{ss:List Str}{s:Shared}{Q:Value->Shared->Prop}(hh:A.handled=none)(ho:s.heap.get? l=some o)(hc:o.cls= .type "list")(OR:o.data= .seq items.toArray n)(hz:ss.length<1000)(hp:StrsAre items ss)
  (h:∀h' tk,h'.SetOf (strKind prog w) s.heap.objs.size (λk=>decide (k∈iN ss)) (iN ss).length->(∀b o,s.heap.get? b=some o->h'.get? b=some o)->Q (.ref s.heap.objs.size) {s with heap:=h',toks:=tk}):
  wpAny (model prog w) A (call (.type "set") [.ref l]) Q E s:=by
 obtain⟨c1,c2,c3⟩:=MZ.mro
 have c4:=MZ.made;have c5:=MZ.sub;have c6:=MZ.notType;have c7:=MZ.canCreate;have c8:=F.typeCall_set_1 (.ref l)
 refine wpAny_call (codeAny_of_tree (show wpAny _ _ (callAny (.type "set") _) _ _ _ from Ky ⟨Code.quiet_builtin _ (by decide+kernel),LY F.entry_type_call ?_⟩))
 rw[Around.under_plain (weight_type_call_type "set" [Value.ref l] []) rfl]
 repeat(any_goals first|assumption|wp_step)
 refine NK (code_set_new_1 (E:=E) (.ref l) (Q₁:=λob st=>∃led:Bool,ob= .ref s.heap.objs.size/\st={s with heap:=s.heap.push {cls:= .type "set",dict:=none,data:= .set #[] 0 (.fresh 0 0 led)}}) λled=>⟨led,rfl,rfl⟩) λr1 Sg hr1=>?_
 match r1,hr1 with
 | .error _,hr1=>exact hr1
 | .ok .next,hr1=>exact hr1.elim
 | .ok .brk,hr1=>exact hr1.elim
 | .ok .cont,hr1=>exact hr1.elim
 | .ok (.ret ob),hr1=>
  obtain⟨led,rfl,rfl⟩:=hr1
  have Xh:(s.heap.push {cls:= .type "set",dict:=none,data:= .set #[] 0 (.fresh 0 0 led)}).get? s.heap.objs.size=some {cls:= .type "set",dict:=none,data:= .set #[] 0 (.fresh 0 0 led)}:=KD _ rfl
  have Rt:(s.heap.push {cls:= .type "set",dict:=none,data:= .set #[] 0 (.fresh 0 0 led)}).get? l=some o:=Kn _ ho
  have VJ:l≠s.heap.objs.size:=KC (Kv ho)
  generalize hP:s.heap.push {cls:= .type "set",dict:=none,data:= .set #[] 0 (.fresh 0 0 led)}=Pa at Xh Rt
  have c9:Shared.TypeIs {s with heap:=Pa} (.ref s.heap.objs.size) "set":=⟨_,Xh,rfl⟩
  have c10:=MZ.init.lookup;have c11:=MZ.init.bind (.ref s.heap.objs.size)
  repeat(any_goals first|assumption|wp_step)
  refine NK (codeAny_call_builtin (R:=wants (λr st=>r= .none/\∃h2 Xf,st={s with heap:=h2,toks:=Xf}/\h2.SetOf (strKind prog w) s.heap.objs.size (λk=>decide (k∈iN ss)) (iN ss).length/\(∀b o,s.heap.get? b=some o->h2.get? b=some o)) E) MZ.init.plain F.entry_set_init (check_set_init_1 c9 ?_)) λr2 N' hr2=>?_
  .obtain⟨k1,k2,k3,k4⟩:=o
   dsimp only at hc OR
   subst hc OR
   have d1:=F.sub_list_set;have d2:=F.sub_list_frozenset;have d3:(Value.type "list"==Value.type "dict")=false:=by decide
   have Si:Pa.IsList l items.toArray:=⟨_,Rt,rfl,n,rfl⟩
   unfold Builtin.«set.__init__» noKeywords Builtin.Frozenset.updateFrom
   generalize hPI:pyIter=PI
   wp_walk
   subst hPI
   refine Nb Si (Ko (wpAny_runValue ?_))
   have hsz:s.heap.objs.size<Pa.objs.size:=Kv Xh
   refine xY (l:=l) (items:=items) (A:=A.in1.in1) (by simpa using hh) (KC hsz) (KC (Kv Rt)) VJ ss 0 _ [] _ ⟨_,KD _ rfl,rfl,rfl⟩ (Si.push _) (by rw[Oi];exact hp) ?_ (by simpa using(show ss.length<2000 by lia)) λh3 tk3 UZ d3'=>?_
   .have hg:(Pa.push {cls:= .type "list_iterator",data:= .fields #[.ref l,.int 0 0]}).get? s.heap.objs.size=some {cls:= .type "set",dict:=none,data:= .set #[] 0 (.fresh 0 0 led)}:=Kn _ Xh
    exact SetOf_congr ((setObjOf_fresh (knd:=strKind prog w) led).setOf hg (by unfold scanBound;lia)) (λ_=>by simp) rfl
   .show wpAny _ _ _ _ _ _
    refine Ky (show wpAny _ _ (ret Value.none) _ _ _ from Ky ⟨rfl,h3,tk3,rfl,d3',λb ob e=>?_⟩)
    have e1:Pa.get? b=some ob:=by rw[←hP];exact Kn _ e
    exact UZ b ob (KC (Kv e)) (KC (Kv e1)) (Kn _ e1)
  .match r2,hr2 with
   | .error _,hr2=>exact hr2
   | .ok .next,hr2=>exact hr2.elim
   | .ok .brk,hr2=>exact hr2.elim
   | .ok .cont,hr2=>exact hr2.elim
   | .ok (.ret r),hr2=>
    obtain⟨rfl,h2,Xf,rfl,Yv,Tf⟩:=hr2
    repeat(any_goals first|assumption|wp_step)
    exact h _ _ Yv Tf
end
def dF (a:Addr)(n:Nat)(h:Heap):Prop:=∃o es ep t,h.get? a=some o/\o.ExactSet/\o.data= .set es ep t/\t.fits es.size=true/\es.size=n
def vW {P:Program}{w:World}{H:Hp}{h:Heap}{a:Addr}{n:Nat}(x:dF a n h):ObjOk P w H h a (.ext (dF a n)):=by grind [dF,ObjOk]
theorem oj:∀{ss:List Str} {us:List Value},Vals (ss.map V.str) us->StrsAre us ss
 |[],_,.nil=> .nil
 |x::r,_,.cons h t=> .cons h (oj t)
section
variable {X:Cx}
def CI (K:Qc):List V->Hp->VK->Prop:=λxs H Q=>∃(p:Addr) (ss:List Str),xs=[.ref p]/\SqL K H p (ss.map V.str)/\ss.length<1000/\∀l,H l=none->Q (.ref l) (upd H l (.ext (dF l (iN ss).length)))
def xn (hc:X.calm=true):CallR X (.type "set") (CI X.K):=by
 intro pins s σ H xs us Q I r h;obtain⟨p,ss,rfl,hq,hz,q⟩:=h;obtain⟨u,rfl,ru⟩:=V4 r;cases ru;obtain⟨a_,rv,⟨o,n,e,c,hd,dt⟩,_⟩:=I.list hq;refine mI (I.ok.hd hc) e c dt hz (oj rv) λh' tk hS k=>?_;refine⟨.ref s.heap.objs.size,_,?_,rfl,q _ (I.hok.fresh (Ke _))⟩;obtain⟨o',es,ep,t,h1,h2,h3,_,_,_,h7,h8⟩:=hS;exact I.laid (a:=s.heap.objs.size) (t':=tk) k (Ke _) (vW ⟨o',es,ep,t,h1,h2,h3,h7,h8⟩)
def CY (K:Qc):List V->Hp->VK->Prop:=λxs H Q=>tP K xs H Q\/∃p n,xs=[V.ref p]/\H p=some (.ext (dF p n))/\n<=1000/\Q (.int n) H
def call_lenS:CallR X (.builtin "len") (CY X.K):=by
 refine call_lenX.or ?_;intro pins s σ H xs us Q I r h;obtain⟨p,n,rfl,hp,hn,q⟩:=h;obtain⟨u,rfl,ru⟩:=V4 r;cases ru;obtain⟨o,es,ep,t,h1,h2,h3,h4,h5⟩:=(I.hok p _ hp).1;exact call_len_set h1 h2 h3 h4 (by lia) ⟨.int n,H,I.tok _,⟨_,by rw[h5]⟩,q⟩
def GZ (K:Qc)(hc:X.calm=true)(h:X.K=K:=by rfl):CallR X (.type "set") (CI K):=h▸xn hc
end
open PySem.AutoSeq1 (wpAny_loadPart')
open PySem.MeetsSeq PySem.MeetsSeq2 PySem.MeetsSeq3
def wI:plainId "list.__eq__.loop"=true:=plain_eq_loop
section
variable {P:Program} {w:World}
def Ah (l m:Addr)(xs ys:Array Value)(n1 n2:Nat)(d1 d2:Option Addr)(s1 s2:Array (Option Value))(hz:xs.size=ys.size)(f:Nat->Bool)(md:Int)(U':md=2\/md=3):∀(k i:Nat),xs.size -i=k->
  MeetsIn P w (Builtin.«list.__eq__.loop» ⟨[.ref l,.ref m,rawInt i,rawInt md],[]⟩) (λA R s=>
   s.heap.get? l=some {cls:= .type "list",dict:=d1,data:= .seq xs n1,slots:=s1}/\s.heap.get? m=some {cls:= .type "list",dict:=d2,data:= .seq ys n2,slots:=s2}/\
   (∀j (g1:j<xs.size) (g2:j<ys.size),EqP P w A.in1 s xs[j] ys[j] (f j))/\
   R (.ok (.ret (.bool (if md=2 then((List.range xs.size).drop i).all f else !((List.range xs.size).drop i).all f)))) s):=by
 intro k
 induction k with
 |zero=>
  intro i hk
  intro A R s hyp
  obtain⟨hp,gg,dr,tk,os⟩:=s
  obtain⟨e1,e2,he,fin⟩:=hyp
  have x1:xs[((i:Nat):Int).toNat]?=none:=by simpa using NN hk
  have x2:ys[((i:Nat):Int).toNat]?=none:=by simpa [←hz] using NN hk
  have x3:(List.range xs.size).drop i=[]:=by simpa using NN hk
  rw[x3] at fin
  rcases U' with rfl|rfl
  .wp_walk using wpAny_loadPart' e1,wpAny_loadPart' e2
   rw[x1,x2]
   wp_walk using wpAny_loadPart' e1,wpAny_loadPart' e2
   show R (.ok (.ret (.bool (xs.size==ys.size)))) _
   rw[hz];simpa using fin
  .wp_walk using wpAny_loadPart' e1,wpAny_loadPart' e2
   rw[x1,x2]
   wp_walk using wpAny_loadPart' e1,wpAny_loadPart' e2
   show R (.ok (.ret (.bool (xs.size !=ys.size)))) _
   rw[hz];simpa using fin
 |succ k ih=>
  intro i hk
  intro A R s hyp
  have ih:=ih (i+1) (by rw[Nat.sub_add_eq,hk];rfl)
  obtain⟨hp,gg,dr,tk,os⟩:=s
  obtain⟨e1,e2,he,fin⟩:=hyp
  have l1:i<xs.size:=Nat.sub_pos_iff_lt.mp (hk▸Nat.succ_pos k)
  have l2:i<ys.size:=hz▸l1
  have x1:xs[((i:Nat):Int).toNat]?=some xs[i]:=by simp [l1]
  have x2:ys[((i:Nat):Int).toNat]?=some ys[i]:=by simp [l2]
  have x3:(List.range xs.size).drop i=i::(List.range xs.size).drop (i+1):=by simp [Me,l1]
  have x4:((i:Int)+1)=((i+1:Nat):Int):=by push_cast;rfl
  rw[x3,Nu] at fin
  rcases U' with rfl|rfl
  .wp_walk using wpAny_loadPart' e1,wpAny_loadPart' e2
   rw[x1,x2]
   refine Ko (he i l1 l2 _ _ ?_)
   cases hf:f i with
   |true=>
    rw[hf] at fin
    wp_walk
    rw[x4]
    refine⟨MM wI _,LY entry_eq_loop ?_⟩
    rw[LM wI _]
    exact ih A R _ ⟨e1,e2,he,by simpa using fin⟩
   |false=>
    rw[hf] at fin
    wp_walk using wpAny_loadPart' e1,wpAny_loadPart' e2
    rw[x1,x2]
    wp_walk
    simpa using fin
  .wp_walk using wpAny_loadPart' e1,wpAny_loadPart' e2
   rw[x1,x2]
   refine Ko (he i l1 l2 _ _ ?_)
   cases hf:f i with
   |true=>
    rw[hf] at fin
    wp_walk
    rw[x4]
    refine⟨MM wI _,LY entry_eq_loop ?_⟩
    rw[LM wI _]
    exact ih A R _ ⟨e1,e2,he,by simpa using fin⟩
   |false=>
    rw[hf] at fin
    wp_walk using wpAny_loadPart' e1,wpAny_loadPart' e2
    rw[x1,x2]
    wp_walk
    simpa using fin
def Fd (l m:Addr)(xs ys:Array Value)(n1 n2:Nat)(d1 d2:Option Addr)(s1 s2:Array (Option Value))(hz:xs.size=ys.size)(f:Nat->Bool):
  MeetsIn P w (Builtin.«list.__ne__» ⟨[.ref l,.ref m],[]⟩) (λA R s=>
   s.heap.get? l=some {cls:= .type "list",dict:=d1,data:= .seq xs n1,slots:=s1}/\s.heap.get? m=some {cls:= .type "list",dict:=d2,data:= .seq ys n2,slots:=s2}/\
   (∀j (g1:j<xs.size) (g2:j<ys.size),EqP P w A.in1 s xs[j] ys[j] (f j))/\R (.ok (.ret (.bool (!(List.range xs.size).all f)))) s):=by
 intro A R s hyp
 obtain⟨hp,gg,dr,tk,os⟩:=s
 obtain⟨e1,e2,he,fin⟩:=hyp
 have q1:=AutoSeq1.sub_list_list;have q2:¬(xs.size !=ys.size)=true:=by simp [hz]
 wp_walk using wpAny_loadPart' e1,wpAny_loadPart' e2
 refine⟨MM wI _,LY entry_eq_loop ?_⟩
 rw[LM wI _]
 exact Ah l m xs ys n1 n2 d1 d2 s1 s2 hz f 3 (.inr rfl) _ 0 rfl A R _ ⟨e1,e2,he,by simpa using fin⟩
def NcP.lst {A:Around}{s:Shared}{l m:Addr}{xs ys:Array Value}{f:Nat->Bool}(hl:s.heap.IsList l xs)(hm:s.heap.IsList m ys)(hz:xs.size=ys.size)(hu:A.units<cLine)
  (he:∀j (g1:j<xs.size) (g2:j<ys.size),EqP P w A.in1 s xs[j] ys[j] (f j)):NcP P w A s (.ref l) (.ref m) (!(List.range xs.size).all f):=λE Q q=>by
 obtain⟨⟨c1,d1,a1,s1⟩,o1,k1,n1,t1⟩:=id hl
 obtain⟨⟨c2,d2,a2,s2⟩,o2,k2,n2,t2⟩:=id hm
 simp only at k1 t1 k2 t2
 subst k1 t1 k2 t2
 refine MX (op:= .NotEq) ⟨_,o1,rfl⟩ ⟨_,o2,rfl⟩ Ng (Mf Ng ⟨_,o1,rfl⟩ Pk (OW _ _) (Fd l m xs ys n1 n2 d1 d2 s1 s2 hz f) ⟨o1,o2,he,?_⟩) hu
 exact⟨(λz=>nomatch z),q⟩
end
section
variable {X:Cx} {pins:List (Addr×Obj)} {σ:St} {H:Hp} {s:Shared}
end
section
variable {X:Cx}
def FZ (K:Qc):R2:=λ_ _ _ _=>False
def HS (K:Qc):R2:=λ_ _ _ _=>False
def FC (hu:X.A.units+64<cLine):OpR X (compareOp .Eq) (FZ X.K):=by
 intro pins s σ H x y v u Q I rx ry h;exact h.elim
def Ef (hu:X.A.units+64<cLine):OpR X (compareOp .NotEq) (HS X.K):=by
 intro pins s σ H x y v u Q I rx ry h;exact h.elim
def nV (K:Qc):R2:=λx y H Q=>yu K x y H Q\/HS K x y H Q
def dz (K:Qc){k:Nat}(hr:Room k X.A)(h:X.K=K:=by rfl):OpR X (compareOp .NotEq) (nV K):=(Jm K hr h).or (h▸Ef hr.units)
def jx (K:Qc):R2:=λx y H Q=>Ep K x y H Q\/FZ K x y H Q
def av (K:Qc){k:Nat}(hr:Room k X.A)(h:X.K=K:=by rfl):OpR X (compareOp .Eq) (jx K):=(IP K hr h).or (h▸FC hr.units)
end
def gZ (v d:Addr)(h:Heap):Prop:=h.IsValuesView v d
def BI {P:Program}{w:World}{H:Hp}{h:Heap}{v d:Addr}(x:gZ v d h):ObjOk P w H h v (.ext (gZ v d)):=by
 obtain⟨o,e,r⟩:=x;exact⟨⟨o,e,r⟩,⟨o,e⟩,λh1 h2 ⟨o',e',r'⟩ k=>⟨o',k _ e',r'⟩⟩
section
variable {X:Cx}
def Cq:V->List V->Hp->VK->Prop:=λx vs H Q=>∃d kvs,x= .ref d/\vs=[]/\Rd H d (.dK kvs)/\∀v,H v=none->Q (.ref v) (upd H v (.ext (gZ v d)))
def K9:yR X "dict.values" Cq:=by
 intro pins s σ H x vs v us Q I rx rv h;obtain⟨d,kvs,rfl,rfl,hd,q⟩:=h;cases rx;have RX:=rv.zero;subst RX;obtain⟨z,hs,ws,rel,dd⟩:=X3 I.hok hd;refine Mf LO dd.typeIs PySem.F.entry_dict_values (PySem.F.args_dict_values_1 _) (meets_dict_values (z7 X.prog X.w) d hs) ⟨⟨ws,dd⟩,?_⟩;refine⟨.ref s.heap.objs.size,_,?_,rfl,q _ (I.hok.fresh (Ke _))⟩;exact I.laid (a:=s.heap.objs.size) (t':=s.toks) (λb u e=>Kn _ e) (Ke _) (BI ⟨_,KD _ rfl,rfl,rfl⟩)
def uz (K:Qc):List V->Hp->VK->Prop:=λxs H Q=>CV K xs H Q\/∃(v d:Addr) (kvs:List (j6×V)),xs=[.ref v]/\H v=some (.ext (gZ v d))/\Rd H d (.dK kvs)/\∀l,H l=none->Q (.ref l) (upd H l (.lst (kvs.map (·.2))))
def uh (hc:X.calm=true):CallR X (.type "list") (uz X.K):=by
 refine(tH hc).or ?_;intro pins s σ H xs us Q I r h;obtain⟨v,d,kvs,rfl,hv,hx,q⟩:=h;obtain⟨u,rfl,ru⟩:=V4 r;cases ru;have Yw:gZ v d s.heap:=(I.hok v _ hv).1;obtain⟨hd,o,vs,ep,ho,D⟩:=dY I.hok hx;have O_:=KV.length D.kv;have hz:kvs.length<=sizeLine:=(X3 I.hok hx).1;refine PySem.W.kdl_call (Qr (knd:=z7 X.prog X.w) (kvs:=vs) (ep:=ep)) (I.ok.hd hc) ⟨Yw,D.at_ _ ho⟩ (by lia) λh' tk acc c hkp hS t_=>?_;refine⟨.ref s.heap.objs.size,_,I.newL (tk:=tk) hkp (Ke _) hS (ah (by have:=t_.1;simp;lia) λi x u e1 e2=>?_) (by rw[Kb];exact hz),rfl,q _ (I.hok.fresh (Ke _))⟩;obtain⟨k,hy⟩:=t_.2 i u (by rw[←Ms];exact e2);rw[Kh] at e1;obtain⟨kv,e4,rfl⟩:=KN.mp e1;obtain⟨q1,SJ,q2,q3⟩:=K8 (show Paired _ kvs vs from D.kv) e4;rw[hy] at SJ;cases SJ;exact q3
def ml (K:Qc)(hc:X.calm=true)(h:X.K=K:=by rfl):CallR X (.type "list") (uz K):=h▸uh hc
end
section
variable {K:Qc} {H:Hp} {Q:VK}
def Z8 {v d:Addr}{kvs:List (j6×V)}(hv:H v=some (.ext (gZ v d)))(hd:Rd H d (.dK kvs))(q:∀l,H l=none->Q (.ref l) (upd H l (.lst (kvs.map (·.2))))):uz K [.ref v] H Q:= .inr ⟨v,d,kvs,rfl,hv,hd,q⟩
end
section
variable {prog:Program} {w:World} {A:Around} {E:Value->Shared->Prop}
end
section
variable {X:Cx}
end
section
variable {prog:Program} {w:World} {A:Around} {E:Value->Shared->Prop} {s:Shared}
end
section
variable {X:Cx}
def zd (P:Program)(w:World):sZ:=λo i v H Q=>uI o i v H Q\/False
def yU (hu:X.A.units+1<cLine):xx X (zd X.prog X.w):=by
 intro pins s σ H o i v ov iv u Q I ro ri rv h;exact AW hu pins s σ H o i v ov iv u Q I ro ri rv (h.resolve_right id)
def rh (K:Qc)(P:Program)(w:World):List V->Hp->VK->Prop:=λxs H Q=>CY K xs H Q\/False
def wH:CallR X (.builtin "len") (rh X.K X.prog X.w):=by
 refine call_lenS.or ?_;intro pins s σ H xs us Q I r h;exact h.elim
def Gb (K:Qc)(h:X.K=K:=by rfl):CallR X (.builtin "len") (rh K X.prog X.w):=h▸wH
def vw (K:Qc)(P:Program)(w:World):List V->Hp->VK->Prop:=λxs H Q=>Bo K xs H Q\/False
def wz:CallR X (.builtin "isinstance") (vw X.K X.prog X.w):=by
 refine call_isi.or ?_;intro pins s σ H xs us Q I r h;exact h.elim
def GJ (K:Qc)(h:X.K=K:=by rfl):CallR X (.builtin "isinstance") (vw K X.prog X.w):=h▸wz
end
section
variable {K:Qc} {P:Program} {w:World} {H:Hp} {Q:VK}
def F2 {xs:List V}(h:tP K xs H Q):rh K P w xs H Q:= .inl (.inl h)
def nJ {p:Addr}{n:Nat}(h:H p=some (.ext (dF p n)))(hn:n<=1000)(q:Q (.int n) H):rh K P w [.ref p] H Q:= .inl (.inr ⟨p,n,rfl,h,hn,q⟩)
def iY {xs:List V}(h:Bo K xs H Q):vw K P w xs H Q:= .inl h
def P9 {o i v:V}{Qh:Hp->Prop}(h:uI o i v H Qh):zd P w o i v H Qh:= .inl h
def oF {x y:V}(h:jZ K x y H Q):jx K x y H Q:= .inl (Iy h)
def zm {i j:Int}(q:Q (.bl (decide (i=j))) H):jx K (.int i) (.int j) H Q:=oF (yd q)
def mf {i j:Str}(q:Q (.bl (decide (i=j))) H):jx K (.str i) (.str j) H Q:=oF (ya q)
def AS {x y:V}(h:uo K x y H Q):nV K x y H Q:= .inl (IM h)
def rP {i j:Int}(q:Q (.bl (!decide (i=j))) H):nV K (.int i) (.int j) H Q:= .inl (zV q)
def Ba {i j:Bool}(q:Q (.bl (!decide (i=j))) H):nV K (.bl i) (.bl j) H Q:= .inl (BL q)
end
def kT {X:Cx}(K:Qc)(P:Program)(w:World)(h:X.K=K:=by rfl)(hp:X.prog=P:=by rfl)(hw:X.w=w:=by rfl):CallR X (.builtin "isinstance") (vw K P w):=by subst hp hw;exact GJ K h
def E8 {X:Cx}(K:Qc)(P:Program)(w:World)(h:X.K=K:=by rfl)(hp:X.prog=P:=by rfl)(hw:X.w=w:=by rfl):CallR X (.builtin "len") (rh K P w):=by subst hp hw;exact Gb K h
def B7 {X:Cx}(P:Program)(w:World)(hu:X.A.units+1<cLine)(hp:X.prog=P:=by rfl)(hw:X.w=w:=by rfl):xx X (zd P w):=by subst hp hw;exact yU hu
section
variable {X:Cx} {a b:Expr} {ta:TA} {x y:Str} {pos:Pos}
end
section
variable {σ:St} {H:Hp} {nx:St->Hp->Prop} {rt:VK} {bk ct:St->Hp->Prop} {ta:TA}
end
section
variable {P:Program} {w:World}
def xc {K:Qc}{tg:Expr}{d:Addr}{o:Obj}{kvs:List (j6×V)}{vs:List (j6×Value)}{ep:Nat}(D:xT P w d o kvs vs ep)(it:Addr):
  iM P w K tg (Ia d o kvs λkv=>kv.2) [it] it (λi h=>h.IsValIter it d i vs.length ep) where
 mem:=by simp
 obj:=λi h st b hb=>by
  have e:b=it:=by simpa using hb
  subst e;obtain⟨o,e,c,dd⟩:=st;exact⟨o,e,λv z=>by rw[dd] at z;cases z⟩
 keep:=λi h h' st k=>let ⟨o,e,r⟩:=st;⟨o,k it (by simp) o e,r⟩
 item:=by
  intro X hP hw hK hc i pins s σ H E I hf st hg;subst hP hw hK;obtain⟨Sa,hi⟩:=hg;obtain⟨f0,f1,f2,f3,f4,f5⟩:=hf it (by simp);have dat:=D.at_ s.heap (I.hok d _ Sa).1;have hl:=KV.length D.kv;obtain⟨kv,f_⟩:∃kv,kvs[i]?=some kv:=⟨kvs[i],by simp [hi]⟩
  obtain⟨⟨k,x⟩,hx⟩:∃p,vs[i]?=some p:=⟨vs[i]'(by lia),by simp [show i<vs.length by lia]⟩
  obtain⟨SH,rx⟩:kv.1=k/\RelV kv.2 x:=by
   have q:=K8 D.kv f_;obtain⟨p,hp,r⟩:=q;rw[hx] at hp;cases hp;exact r
  refine wpAny_pyNext_values_item st dat hx λh' v_ Qn=>?_;have I1:Inv X pins σ H {s with heap:=h'}:=I.turned (t':=s.toks) (λb o hb e=>Qn.extBut b o hb e) f0 f1 f3 f4 f5;obtain⟨oo,e,c,dd⟩:=id v_;exact⟨x,rfl,rH (s:={s with heap:=h'}) e c dd (by decide) ⟨kv.2,H,I1,rx,⟨rfl,kv,f_,rfl⟩,v_,λb hb=>(hf b hb).1⟩⟩
 done:=by
  intro X hP hw hK hc i pins s σ H E I hf st hg;subst hP hw hK;obtain⟨Sa,hi⟩:=hg;obtain⟨f0,f1,f2,f3,f4,f5⟩:=hf it (by simp);have dat:=D.at_ s.heap (I.hok d _ Sa).1;have hl:=KV.length D.kv;exact wpAny_pyNext_values_end (I.ok.hd hc) st dat (by simp;lia) λh' eb=>⟨rfl,I.turned (t':=s.toks) (λb o hb e=>eb b o hb e) f0 f1 f3 f4 f5⟩
 self:=λ_ _ _ _ _ st h=>wpAny_pyIter_valiter st h
end
section
variable {X:Cx} {tg:Expr}
abbrev Jv (d:Addr)(o:Obj)(kvs:List (j6×V)):It:=Ia d o kvs λkv=>kv.2
def oZ (tl:TE):qi:=λσ H R=>tl σ H λv H1=>rIterD Jv v H1 R
def vQ {o:Expr}{tl:TE}{apos b_:Pos}(ho:PE X o tl)
  (i_:attributeBase o "values" X.env (eval o X.env)=eval o X.env:=by rfl) (j_:(apos.endLine==b_.line)=true:=by rfl):
  zJ X tg (.Call (.Attribute o "values" apos) [] [] b_) (oZ tl):=by
 intro pins s σ H R I h
 refine Nv i_ j_ (P0 (ho pins s σ H _ I h) λv s1 ⟨x,H1,I1,r1,q1⟩=>?_)
 obtain⟨d,kvs,ob,vs,ep,th,H',rfl,hd,Qm,D,I2,Rq,q⟩:=rIterD.go I1 r1 q1
 have Tb:=(D.at_ _ Qm).dictOf
 refine⟨"dict","dict.values",F.plainAttrs_dict,F.slot_dict_values,F.type_dict_values,Tb.typeIs,Tb.mapOf.noDict,Mb rfl (NT ?_)⟩
 refine Mf F.slot_dict_values Tb.typeIs F.entry_dict_values (F.args_dict_values_1 _) (meets_dict_values (z7 X.prog X.w) d hd) ⟨⟨vs,Tb⟩,?_⟩
 have I3:Inv X pins σ H' {s1 with heap:=s1.heap.push {cls:= .type "dict_values",data:= .fields #[.ref d]}}:=I2.kept (t':=s1.toks) λb o e=>Kn _ e
 refine wpAny_pyIter_values (s:={s1 with heap:=s1.heap.push {cls:= .type "dict_values",data:= .fields #[.ref d]}}) (knd:=z7 X.prog X.w) ⟨_,KD _ rfl,rfl,rfl⟩ (D.at_ _ (Kn _ Qm)) ?_
 generalize hG:s1.heap.push {cls:= .type "dict_values",data:= .fields #[.ref d]}=G at I3⊢
 refine⟨G.objs.size,[G.objs.size],_,_,H',rfl,I3.kept (t':=s1.toks) λb o e=>Kn _ e,xc D _,⟨_,KD _ rfl,rfl,rfl⟩,λb hb=>?_,th,Rq,q⟩
 have e:b=G.objs.size:=by simpa using hb
 subst e
 exact I3.fpOk (Ke _) (I3.hok.fresh (Ke _))
def zT {tg o:Expr}{to:TE}{apos b_:Pos}(ho:QE X o to)
  (i_:attributeBase o "values" X.env (eval o X.env)=eval o X.env:=by rfl) (j_:(apos.endLine==b_.line)=true:=by rfl):QI X tg (.Call (.Attribute o "values" apos) [] [] b_) (oZ to):=⟨vQ ho.r i_ j_⟩
def wF {tl:TE}{σ:St}{H:Hp}{R:It->(Hp->Hp)->Hp->Prop}(q:tl σ H λv H1=>rIterD Jv v H1 R):oZ tl σ H R:=q
end
section
variable {J:It} {th:Hp->Hp} {n:Nat} {g:TG} {tb:TS} {nx:L2.St->Hp->Prop} {rt:VK} {σ:L2.St} {H:Hp}
def Eu (Pv:Nat->L2.St->Hp->Prop)(h0:Pv 0 σ H)(Rh:∀i σ H,i<n->Pv i σ H->J.go i H)
  (hs:∀(bk:L2.St->Hp->Prop) i x σ H H',i<n->Pv i σ H->J.yld i H x H'->g x σ H' λσ2 H2=>tb ⟨Pv (i+1),λv H=>rt v (th H),bk,Pv (i+1)⟩ σ2 H2)
  (hd:∀σ H,Pv n σ H->J.stop n H/\nx σ (th H)):vL J th g tb nx rt σ H:=zY Pv h0 Rh (hs λσ H=>nx σ (th H)) hd
end
section
variable {prog:Program} {w:World} {A:Around} {E:Value->Shared->Prop} {s:Shared}
end
theorem jc {α β:Type}{F:α->β->Prop}:∀{l:List α} {m:List β} {b:β},Paired F l m->b∈m->∃a∈l,F a b
 |_,_,_,.cons r t,h=>by
  rcases Lh.mp h with e|e
  .exact⟨_,Kz,e▸r⟩
  .obtain⟨a,h1,h2⟩:=jc t e;exact⟨a,KL _ h1,h2⟩
section
variable {X:Cx}
end
section
variable {K:Qc} {P:Program} {w:World} {H:Hp} {Q:VK} {σ:L2.St}
end
def EE:Value->V
 | .none=> .non
 | .bool b=> .bl b
 | .int i _=> .int i
 | .str x _=> .str x
 | .bytes b _=> .byt b
 | .float b _=> .flt b
 | .ref a=> .ref a
 | .type n=> .ty n
 |_=> .non
def yT {v:V}{u:Value}(r:RelV v u):EE u=v:=by grind [cases V,RelV,EE]
theorem GX {f:V->Bool}:∀{xs:List V} {us:List Value},Vals xs us->us.countP (f∘EE)=xs.countP f
 |_,_,.nil=>rfl
 |_,_,.cons r t=>by rw[OJ,OJ,GX t,Function.comp,yT r]
section
variable {X:Cx}
end
def yG (K:Qc)(a:Addr)(xs:List V):It:=
 ⟨λi H=>SqL K H a xs/\i<xs.length,λi H x H'=>H'=H/\xs[xs.length -1 -i]?=some x,λi _=>i=xs.length⟩
def xX {P:Program}{w:World}{K:Qc}{tg:Expr}(a it:Addr)(xs:List V):iM P w K tg (yG K a xs) [it] it (λi h=>h.IsRevIter it a ((xs.length:Int) -1 -(i:Int))) where
 mem:=by simp
 obj:=λi h st b hb=>by
  have e:b=it:=by simpa using hb
  subst e;obtain⟨o,e,c,d⟩:=st;exact⟨o,e,λv z=>by rw[d] at z;cases z⟩
 keep:=λi h h' st k=>st.at λo e=>k it (by simp) o e
 item:=by
  intro X hP hw hK hc i pins s σ H E I hf st hg;subst hP hw hK;obtain⟨hq,hi⟩:=hg;obtain⟨a_,rv,p,hz⟩:=I.list hq;have hj:xs.length -1 -i<xs.length:=Oe (Nat.sub_le _ _) (Nat.sub_one_lt_of_lt hi);obtain⟨u,hu,ru⟩:=rv.get (Kc hj);obtain⟨f0,f1,f2,f3,f4,f5⟩:=hf it (by simp);have Sg:s.heap.IsRevIter it a ((xs.length -1 -i:Nat):Int):=by
   have e:((xs.length -1 -i:Nat):Int)=(xs.length:Int) -1 -(i:Int):=by lia
   rw[e];exact st
  refine wpAny_pyNext_rev_item Sg p.isList (x:=u) (by simpa using hu) λh' v_ sb=>?_;have I1:Inv X pins σ H {s with heap:=h'}:=I.turned (t':=s.toks) (λb o hb e=>(sb.2 b hb).trans e) f0 f1 f3 f4 f5;obtain⟨o,e,c,d⟩:=id v_;have N':h'.IsRevIter it a ((xs.length:Int) -1 -((i+1:Nat):Int)):=by
   have e:(xs.length:Int) -1 -((i+1:Nat):Int)=((xs.length -1 -i:Nat):Int) -1:=by lia
   rw[e];exact v_
  exact⟨u,rfl,rH (s:={s with heap:=h'}) e c d (by decide) ⟨_,H,I1,ru,⟨rfl,Kc hj⟩,N',λb hb=>(hf b hb).1⟩⟩
 done:=by
  intro X hP hw hK hc i pins s σ H E I hf st hg;subst hP hw hK;have hg':i=xs.length:=hg;obtain⟨f0,f1,f2,f3,f4,f5⟩:=hf it (by simp);have Sg:s.heap.IsRevIter it a (-1):=by
   have e:(-1:Int)=(xs.length:Int) -1 -(i:Int):=by lia
   rw[e];exact st
  exact wpAny_pyNext_rev_end (I.ok.hd hc) Sg λh' eb=>⟨rfl,I.turned (t':=s.toks) (λb o hb e=>eb b o hb e) f0 f1 f3 f4 f5⟩
 self:=λ_ _ _ _ _ st h=>wpAny_pyIter_revIter st h
section
variable {X:Cx} {a:Expr} {t:TA} {p pos:Pos} {tg:Expr}
def Eg (K:Qc)(ta:TA):qi:=λσ H R=>ta σ H λvs H1=>∃l xs,vs=[.ref l]/\SqL K H1 l xs/\R (yG K l xs) id H1
def Ed (hg:Gl X "reversed")(hm:X.mg "reversed"=none)(ha:PA X [a] t)(hs:starEach [a] X.env=[(false,eval a X.env)]):zJ X tg (.Call (.Name "reversed" p) [a] [] pos) (Eg X.K t):=by
 intro pins s σ H R I h;refine Call_ (de I hg hm Boot.«reversed» (LP (P0 (ha pos pins s σ H _ I h) λus s1 ⟨vs,H1,I1,r1,q1⟩=>?_) hs rfl));obtain⟨l,xs,e,hq,q⟩:=q1;subst e;obtain⟨u,rfl,ru⟩:=V4 r1;cases ru;obtain⟨a_,rv,pl,hz⟩:=I1.list hq;have hl:=rv.length;refine call_reversed_list pl.isList ?_;have I2:Inv X pins σ H1 {s1 with heap:=s1.heap.push (revObj l ((a_.toArray.size:Int) -1))}:=I1.kept (t':=s1.toks) λb o e=>Kn _ e;have st:(s1.heap.push (revObj l ((a_.toArray.size:Int) -1))).IsRevIter s1.heap.objs.size l ((xs.length:Int) -1 -((0:Nat):Int)):=by
  refine⟨_,KD _ rfl,rfl,?_⟩;show Data.fields #[.ref l,rawInt ((a_.toArray.size:Int) -1)]=_;rw[show(a_.toArray.size:Int) -1=(xs.length:Int) -1 -((0:Nat):Int) by rw[KH];lia]
 refine wpAny_pyIter_revIter (s:={s1 with heap:=s1.heap.push (revObj l ((a_.toArray.size:Int) -1))}) st ?_;refine⟨s1.heap.objs.size,[s1.heap.objs.size],_,_,H1,rfl,I2,xX l _ xs,st,λb hb=>?_,id,fY,q⟩;have e:b=s1.heap.objs.size:=by simpa using hb
 subst e;exact I1.fpOk (Ke _) (I1.hok.fresh (Ke _))
def rQ (K:Qc)(hm:X.mg "reversed"=none)(ha:QA X [a] t)(hg:Gl X "reversed":=by rfl)(h:C6 a=true:=by rfl)(hK:X.K=K:=by rfl):QI X tg (.Call (.Name "reversed" p) [a] [] pos) (Eg K t):=
 ⟨hK▸Ed hg hm ha.r (X8 h)⟩
end
section
variable {K:Qc} {σ:L2.St} {H:Hp} {ta:TA} {R:It->(Hp->Hp)->Hp->Prop}
def FL (q:ta σ H λvs H1=>∃l xs,vs=[V.ref l]/\SqL K H1 l xs/\R (yG K l xs) id H1):Eg K ta σ H R:=q
end
abbrev om (h:Heap)(z TI TO:Addr)(f0:Value)(b:Bool):Prop:=h.get? z=some {cls:= .type "zip",dict:=none,data:= .fields #[f0,.bool b,.bool false,.ref TI,.ref TO],slots:= #[]}
section
variable {prog:Program} {w:World} {A:Around} {E:Value->Shared->Prop} {s:Shared}
def sh {z TI TO T:Addr}{b:Bool}{ot:Obj}{Q:Bool->Shared->Prop}(hz:om s.heap z TI TO (rawInt T) b)(hT:s.heap.get? T=some ot)
  (hQ:∀h',om h' z TI TO (rawInt T) true->Heap.SameBut z s.heap h'->Q false {s with heap:=h'}):wpAny (model prog w) A (Builtin.SmallTypes.ownedTupleIsFree (.ref z)) Q E s:=by
 unfold Builtin.SmallTypes.ownedTupleIsFree
 refine Ko (MS hz rfl (x:=rawInt T) rfl ?_)
 refine Ko (PySem.W.kdx_alive (show s.heap.get? ((T:Int).toNat)=some ot by rw[Qx];exact hT) ?_)
 rw[if_neg (by simp)]
 refine Ko (MS hz rfl (x:= .bool b) rfl ?_)
 cases b with
 |true=>
  rw[if_neg (by decide)]
  exact Ky (hQ s.heap hz (Heap.SameBut.refl _ _))
 |false=>
  rw[if_pos (by decide)]
  exact Ko (wpAny_setField_rec hz (by simp) λh' g' s'=>Ky (hQ h' g' s'))
def wR {z TI TO T i1 i2 l1 l2:Addr}{k1 k2:Nat}{b:Bool}{ot:Obj}{xs ys:Array Value}{x y:Value}{Q:Option Value->Shared->Prop}(D:ZipApart z TI TO i1 i2 l1 l2)
  (hz:om s.heap z TI TO (rawInt T) b) (Yx:s.heap.get? T=some ot) (U_:IsPair s.heap TI (.ref i1) (.ref i2))
  (h1:s.heap.IsListIter i1 l1 k1) (h2:s.heap.IsListIter i2 l2 k2) (Si:s.heap.IsList l1 xs) (RW:s.heap.IsList l2 ys) (hx:xs[k1]?=some x) (hy:ys[k2]?=some y)
  (hQ:∀h',om h' z TI TO (rawInt T) true->h'.IsListIter i1 l1 (k1+1)->h'.IsListIter i2 l2 (k2+1)->IsPair h' s.heap.objs.size x y->
   (∀c o,c≠z->c≠i1->c≠i2->s.heap.get? c=some o->h'.get? c=some o)->Q (some (.ref s.heap.objs.size)) {s with heap:=h'}):wpAny (model prog w) A (pyNext (.ref z)) Q E s:=by
 have hT:s.TypeIs (.ref z) "zip":=⟨_,hz,rfl⟩
 unfold pyNext
 refine Ko (wpAny_attempt (Nt (name:=Str.ofString "__next__") hT NW (NP NW hT F.entry_zip_next ?_ (F.args_zip_next_1 _))))
 show wpAny (model prog w) _ (field (.ref z) 2>>=_) _ _ _
 refine Ko (MS hz rfl (x:= .bool false) rfl ?_)
 show wpAny (model prog w) _ (field (.ref z) 3>>=_) _ _ _
 refine Ko (MS hz rfl (x:= .ref TI) rfl (Ko (Oh U_ rfl ?_)))
 show wpAny (model prog w) _ (Builtin.SmallTypes.ownedTupleIsFree (.ref z)>>=_) _ _ _
 refine Ko (sh hz Yx λk1' g1 s1=>?_)
 rw[if_neg (by decide)]
 dsimp only
 refine Ko ?_
 rw[←Qu]
 simp only[Nx,Oj]
 refine Ko (Ko (LG ?_))
 show wpAny (model prog w) _ (Builtin.SmallTypes.nextOf (.ref i1)>>=_) _ _ _
 refine Ko (NF (h1.extBut s1.extBut D.i1z) (Si.extBut s1.extBut D.l1z) hx λk2' g2 s2=>Ky (Ky ?_))
 refine Ko (Ko (LG ?_))
 show wpAny (model prog w) _ (Builtin.SmallTypes.nextOf (.ref i2)>>=_) _ _ _
 refine Ko (NF ((h2.extBut s1.extBut D.i2z).extBut s2.extBut D.i12.symm) ((RW.extBut s1.extBut D.l2z).extBut s2.extBut D.l2i1) hy λUZ g3 s3=>Ky (Ky (Ky ?_)))
 have sz:UZ.objs.size=s.heap.objs.size:=by rw[s3.1,s2.1,s1.1]
 have up:∀c o,c≠z->c≠i1->c≠i2->s.heap.get? c=some o->UZ.get? c=some o:=λc o c1 c2 c3 e=>s3.extBut _ _ c3 (s2.extBut _ _ c2 (s1.extBut _ _ c1 e))
 refine Ko (wpAny_newTuple (Ky ⟨_,rfl,?_⟩) (by show 2<=sizeLine;decide))
 refine Ky ?_
 show Q (some (.ref UZ.objs.size)) _
 rw[sz]
 refine hQ _ (Kn _ (s3.extBut _ _ D.i2z.symm (s2.extBut _ _ D.i1z.symm g1))) ((g2.extBut s3.extBut D.i12).at λo e=>Kn _ e) (g3.at λo e=>Kn _ e) ?_ λc o c1 c2 c3 e=>Kn _ (up c o c1 c2 c3 e)
 rw[←sz]
 exact KD _ rfl
def zq {z TI TO T i1 i2 l1 l2:Addr}{k1 k2:Nat}{b:Bool}{ot:Obj}{xs ys:Array Value}{Q:Option Value->Shared->Prop}(hh:A.handled=none)(D:ZipApart z TI TO i1 i2 l1 l2)
  (hz:om s.heap z TI TO (rawInt T) b) (Yx:s.heap.get? T=some ot) (U_:IsPair s.heap TI (.ref i1) (.ref i2))
  (h1:s.heap.IsListIter i1 l1 k1) (h2:s.heap.IsListIter i2 l2 k2) (Si:s.heap.IsList l1 xs) (RW:s.heap.IsList l2 ys) (Ru:xs[k1]?=none\/ys[k2]?=none)
  (hQ:∀h',(∀c o,c≠z->c≠i1->c≠i2->s.heap.get? c=some o->h'.get? c=some o)->Q none {s with heap:=h'}):wpAny (model prog w) A (pyNext (.ref z)) Q E s:=by
 have hT:s.TypeIs (.ref z) "zip":=⟨_,hz,rfl⟩
 unfold pyNext
 refine Ko (wpAny_attempt (Nt (name:=Str.ofString "__next__") hT NW (NP NW hT F.entry_zip_next ?_ (F.args_zip_next_1 _))))
 show wpAny (model prog w) _ (field (.ref z) 2>>=_) _ _ _
 refine Ko (MS hz rfl (x:= .bool false) rfl ?_)
 show wpAny (model prog w) _ (field (.ref z) 3>>=_) _ _ _
 refine Ko (MS hz rfl (x:= .ref TI) rfl (Ko (Oh U_ rfl ?_)))
 show wpAny (model prog w) _ (Builtin.SmallTypes.ownedTupleIsFree (.ref z)>>=_) _ _ _
 refine Ko (sh hz Yx λk1' g1 s1=>?_)
 rw[if_neg (by decide)]
 dsimp only
 refine Ko ?_
 rw[←Qu]
 simp only[Nx,Oj]
 refine Ko (Ko (LG ?_))
 show wpAny (model prog w) _ (Builtin.SmallTypes.nextOf (.ref i1)>>=_) _ _ _
 cases hx:xs[k1]? with
 |none=>
  refine Ko (wpAny_nextOf_list_end hh (h1.extBut s1.extBut D.i1z) (Si.extBut s1.extBut D.l1z) hx λk2' e s2 he=>?_)
  obtain⟨oe,Yy,Yz⟩:=he
  exact Ko (wpAny_isInstance (T:="StopIteration") (b:=true) ⟨oe,Yy,Yz⟩ isSubtype_stop (Ky (hQ _ λc o c1 c2 c3 x=>s2 _ _ c2 (s1.extBut _ _ c1 x))))
 |some x=>
  have hy:ys[k2]?=none:=by
   rcases Ru with h|h
   .rw[hx] at h;cases h
   .exact h
  refine Ko (NF (h1.extBut s1.extBut D.i1z) (Si.extBut s1.extBut D.l1z) hx λk2' g2 s2=>Ky (Ky ?_))
  refine Ko (Ko (LG ?_))
  show wpAny (model prog w) _ (Builtin.SmallTypes.nextOf (.ref i2)>>=_) _ _ _
  refine Ko (wpAny_nextOf_list_end hh ((h2.extBut s1.extBut D.i2z).extBut s2.extBut D.i12.symm) ((RW.extBut s1.extBut D.l2z).extBut s2.extBut D.l2i1) hy λUZ e s3 he=>?_)
  obtain⟨oe,Yy,Yz⟩:=he
  exact Ko (wpAny_isInstance (T:="StopIteration") (b:=true) ⟨oe,Yy,Yz⟩ isSubtype_stop (Ky (hQ _ λc o c1 c2 c3 x=>s3 _ _ c3 (s2.extBut _ _ c2 (s1.extBut _ _ c1 x)))))
end
def si:typeLookup (.type "zip") "keys"=pure none:=by rw[Pj,NL];kernel_rfl
def xf:typeLookup (.type "zip") "__getattr__"=pure none:=by rw[Pj,NL];kernel_rfl
section
variable {prog:Program} {w:World} {A:Around} {E:Value->Shared->Prop} {s:Shared}
def xP (a:Addr)(fs:Array Value)(u:Tok):Meets (Builtin.«object.__getattribute__» ⟨[.ref a,.str "keys" u],[]⟩) (λA R s=>s.heap.get? a=some {cls:= .type "zip",dict:=none,data:= .fields fs,slots:= #[]}/\raisesAttr (.ref a) "keys" A R s):=
 Meets.of_wp λprog w A R s hs=>by
  obtain⟨hp,g,d,tk,os⟩:=s;obtain⟨hx,hs⟩:=hs;have hT:(⟨hp,g,d,tk,os⟩:Shared).TypeIs (.ref a) "zip":=⟨_,hx,rfl⟩
  have hmiss:=si;unfold Builtin.«object.__getattribute__»;repeat(any_goals (first|assumption|wp_step))
  exact wpAny_raiseAttrError hs.1 hs.2 (attrMsg_fits (by decide+kernel) (by decide+kernel))
def ud:entryFor table "zip.__getattribute__"=some Builtin.«object.__getattribute__»:=entryFor_alias (id':="object.__getattribute__") (by kernel_rfl) (by decide+kernel) (by decide+kernel) (by kernel_rfl)
def qI {a:Addr}{fs:Array Value}{Q:Option Value->Shared->Prop}(hx:s.heap.get? a=some {cls:= .type "zip",dict:=none,data:= .fields fs,slots:= #[]})(hA:A.handled=none)
  (h:∀h' tk,(∀b ob,s.heap.get? b=some ob->h'.get? b=some ob)->Q none {s with heap:=h',toks:=tk}):wpAny (model prog w) A (getAttr? (.ref a) "keys") Q E s:=by
 obtain⟨hp,g,d,tk,os⟩:=s
 have hT:∀tk',(⟨hp,g,d,tk',os⟩:Shared).TypeIs (.ref a) "zip":=λ_=>⟨_,hx,rfl⟩
 have f1:=sub_AttributeError
 have f3:=NA.lookup
 have f4:=NA.bind (.ref a)
 have f5:=xf
 unfold getAttr? getAttrBy? getAttrBy
 repeat(any_goals (first|assumption|exact hT _|((with_reducible show wpAny _ _ (call (Value.builtin "zip.__getattribute__") _ _) _ _ _);refine Ot NA (hT _) ud (F.args_zip_getattribute_2 _ _) (xP a fs _) ⟨hx,hA,λh' tk' e h_=>?_⟩)|wp_step))
 obtain⟨t',u',he⟩:=h_.there
 show wpAny _ _ (getattributeRaised _ _ _ _ _ _ _) _ _ _
 unfold getattributeRaised
 repeat(any_goals (first|assumption|wp_step))
 exact h _ _ h_.keeps
end
section
variable {prog:Program} {w:World} {A:Around} {E:Value->Shared->Prop} {s:Shared}
structure ZipSt (h:Heap) (d z TI TO i1 i2 l1 l2:Addr) (k:Nat) (xs ys:Array Value):Prop where
 ti:IsPair h TI (.ref i1) (.ref i2)
 a1:h.IsListIter i1 l1 k
 a2:h.IsListIter i2 l2 k
 b1:h.IsList l1 xs
 b2:h.IsList l2 ys
 st:(∃a b,IsZip h z TI TO .none/\IsPair h TO a b)\/∃(T:Addr) (b:Bool) (ot:Obj),om h z TI TO (rawInt T) b/\h.get? T=some ot/\T≠z/\T≠i1/\T≠i2/\T≠d
structure oS (d z TI TO i1 i2 l1 l2:Addr):Prop where
 z:z≠d
 TI:TI≠d
 TO:TO≠d
 i1:i1≠d
 i2:i2≠d
 l1:l1≠d
 l2:l2≠d
def ZipSt.keep {h h':Heap}{d z TI TO i1 i2 l1 l2:Addr}{k:Nat}{xs ys:Array Value}(Z:ZipSt h d z TI TO i1 i2 l1 l2 k xs ys)(O:oS d z TI TO i1 i2 l1 l2)(kp:∀c o,c≠d->h.get? c=some o->h'.get? c=some o):ZipSt h' d z TI TO i1 i2 l1 l2 k xs ys:=by
 refine⟨kp _ _ O.TI Z.ti,Z.a1.at λo e=>kp _ o O.i1 e,Z.a2.at λo e=>kp _ o O.i2 e,?_,?_,?_⟩
 .obtain⟨o,ho,r⟩:=Z.b1;exact⟨o,kp _ _ O.l1 ho,r⟩
 .obtain⟨o,ho,r⟩:=Z.b2;exact⟨o,kp _ _ O.l2 ho,r⟩
 .rcases Z.st with⟨a,b,h1,h2⟩|⟨T,b,ot,h1,h2,h3⟩
  .exact .inl ⟨a,b,kp _ _ O.z h1,kp _ _ O.TO h2⟩
  .exact .inr ⟨T,b,ot,kp _ _ O.z h1,kp _ _ h3.2.2.2 h2,h3⟩
def vT {d z TI TO i1 i2 l1 l2:Addr}{k:Nat}{xs ys:Array Value}{x y:Value}{od:Obj}{Q:Option Value->Shared->Prop}(D:ZipApart z TI TO i1 i2 l1 l2)(O:oS d z TI TO i1 i2 l1 l2)(hd:s.heap.get? d=some od)
  (Z:ZipSt s.heap d z TI TO i1 i2 l1 l2 k xs ys) (hx:xs[k]?=some x) (hy:ys[k]?=some y)
  (hQ:∀h',ZipSt h' d z TI TO i1 i2 l1 l2 (k+1) xs ys->IsPair h' s.heap.objs.size x y->(∀c o,c≠z->c≠TO->c≠i1->c≠i2->s.heap.get? c=some o->h'.get? c=some o)->Q (some (.ref s.heap.objs.size)) {s with heap:=h'}):
  wpAny (model prog w) A (pyNext (.ref z)) Q E s:=by
 have lt:∀{c:Addr} {o:Obj},s.heap.get? c=some o->s.heap.objs.size≠c:=fun{c o} e=>OY (Kv e)
 rcases Z.st with⟨a,b,h1,h2⟩|⟨T,b,ot,h1,h2,h3,h4,h5,h6⟩
 .refine wpAny_pyNext_zip_item D h1 Z.ti h2 Z.a1 Z.a2 Z.b1 Z.b2 hx hy λh' q1 q2 q3 q4 q5 q6 q7=>hQ h' ⟨q7 _ _ D.TIz D.TITO D.TIi1 D.TIi2 Z.ti,q3,q4,?_,?_,?_⟩ q5 q7
  .obtain⟨o,ho,r⟩:=Z.b1;exact⟨o,q7 _ _ D.l1z D.l1TO D.l1i1 D.l1i2 ho,r⟩
  .obtain⟨o,ho,r⟩:=Z.b2;exact⟨o,q7 _ _ D.l2z D.l2TO D.l2i1 D.l2i2 ho,r⟩
  .obtain⟨o1,e1,_⟩:=Z.a1
   obtain⟨o2,e2,_⟩:=Z.a2
   exact .inr ⟨_,false,_,q1,q5,lt h1,lt e1,lt e2,lt hd⟩
 .refine wR D h1 h2 Z.ti Z.a1 Z.a2 Z.b1 Z.b2 hx hy λh' q1 q3 q4 q5 q7=>hQ h' ⟨q7 _ _ D.TIz D.TIi1 D.TIi2 Z.ti,q3,q4,?_,?_,.inr ⟨T,true,ot,q1,q7 _ _ h3 h4 h5 h2,h3,h4,h5,h6⟩⟩ q5 λc o c1 _ c3 c4 e=>q7 c o c1 c3 c4 e
  .obtain⟨o,ho,r⟩:=Z.b1;exact⟨o,q7 _ _ D.l1z D.l1i1 D.l1i2 ho,r⟩
  .obtain⟨o,ho,r⟩:=Z.b2;exact⟨o,q7 _ _ D.l2z D.l2i1 D.l2i2 ho,r⟩
def yx {d z TI TO i1 i2 l1 l2:Addr}{k:Nat}{xs ys:Array Value}{Q:Option Value->Shared->Prop}(hh:A.handled=none)(D:ZipApart z TI TO i1 i2 l1 l2)
  (Z:ZipSt s.heap d z TI TO i1 i2 l1 l2 k xs ys) (Ru:xs[k]?=none\/ys[k]?=none)
  (hQ:∀h',(∀c o,c≠z->c≠TO->c≠i1->c≠i2->s.heap.get? c=some o->h'.get? c=some o)->Q none {s with heap:=h'}):wpAny (model prog w) A (pyNext (.ref z)) Q E s:=by
 rcases Z.st with⟨a,b,h1,h2⟩|⟨T,b,ot,h1,h2,h3,h4,h5,h6⟩
 .exact wpAny_pyNext_zip_end hh D h1 Z.ti h2 Z.a1 Z.a2 Z.b1 Z.b2 Ru hQ
 .exact zq hh D h1 h2 Z.ti Z.a1 Z.a2 Z.b1 Z.b2 Ru λh' q=>hQ h' λc o c1 _ c3 c4 e=>q c o c1 c3 c4 e
end
section
variable {prog:Program} {w:World} {KT:Type} [DecidableEq KT] {knd:KeyKind prog w KT} {A:Around} {E:Value->Shared->Prop}
def lL (knd:KeyKind prog w KT)(u:Value×Value)(kv:KT×Value):Prop:=knd.is kv.1 u.1=true/\u.2=kv.2
def uf {d z TI TO i1 i2 l1 l2:Addr}{xs ys:List Value}{res:Value}(hh:A.handled=none)(D:ZipApart z TI TO i1 i2 l1 l2)(O:oS d z TI TO i1 i2 l1 l2):
  ∀(more:List (KT×Value)) (i:Nat) (s:Shared) (kvs:List (KT×Value)) (R:Result->Shared->Prop),
   ZipSt s.heap d z TI TO i1 i2 l1 l2 i xs.toArray ys.toArray->Paired (lL knd) ((xs.zip ys).drop i) more->s.heap.DictOf knd d kvs->kvs.length+more.length<=sizeLine->
   (∀h' tk,(∀b o,b≠d->b≠z->b≠TO->b≠i1->b≠i2->s.heap.get? b=some o->h'.get? b=some o)->h'.DictOf knd d (more.foldl (λa x=>stored a x.1 x.2) kvs)->R (.ok (.ret res)) {s with heap:=h',toks:=tk})->
   codeAny (model prog w) A (.builtin "dict.update.loop" ⟨[.ref d,.ref z,rawInt (i:Int),res],[]⟩) R s:=by
 intro more
 induction more with
 |nil=>
  intro i s kvs R Z hp hd hz hR
  have Ru:xs.toArray[i]?=none\/ys.toArray[i]?=none:=by
   have hn:(xs.zip ys).drop i=[]:=by cases A_:(xs.zip ys).drop i with
    |nil=>rfl
    |cons x r=>rw[A_] at hp;cases hp
   have hl:=NQ.mp hn;rw[Na] at hl;by_cases h:xs.length<=i
   .exact .inl (by simp;lia)
   .exact .inr (by simp;lia)
  refine LY V8 ?_
  rw[LM J1 _]
  show wpAny _ A.in1 (pyNext (.ref z)>>=_) _ _ s
  refine Ko (yx (A:=A.in1) hh D Z Ru λh' kp=>?_)
  show wpAny _ A.in1 (Builtin.Dict.addKeywords d []>>=_) _ _ _
  refine Ko (Ky (Ky ?_))
  refine hR h' s.toks (λb o _ h1 h2 h3 h4 e=>kp b o h1 h2 h3 h4 e) ?_
  obtain⟨od,es,ep,e,r⟩:=hd
  exact⟨od,es,ep,kp d od (Mc O.z) (Mc O.TO) (Mc O.i1) (Mc O.i2) e,r⟩
 |cons kv more ih=>
  intro i s kvs R Z hp hd hz hR
  obtain⟨x,y,hx,hy,hk,Pa⟩:∃x y,xs.toArray[i]?=some x/\ys.toArray[i]?=some y/\lL knd (x,y) kv/\Paired (lL knd) ((xs.zip ys).drop (i+1)) more:=by
   cases A_:(xs.zip ys).drop i with
   |nil=>rw[A_] at hp;cases hp
   |cons u r=>
    rw[A_] at hp
    cases hp with
    |cons h1 h2=>
     have z1:(xs.zip ys)[i]?=some u:=by
      have z:=LK List.head? A_;simpa using z
     obtain⟨q1,q2⟩:=Ol.mp z1
     refine⟨u.1,u.2,by simpa using q1,by simpa using q2,h1,?_⟩
     have z:=LK List.tail A_
     rw[PC] at z
     rw[z];exact h2
  obtain⟨F_,hv⟩:=hk
  obtain⟨od,es,ep,eod,rod⟩:=id hd
  refine LY V8 ?_
  rw[LM J1 _]
  show wpAny _ A.in1 (pyNext (.ref z)>>=_) _ _ s
  refine Ko (vT D O eod Z hx hy λh' Z' hT kp=>?_)
  refine Ko (LG (Ko (wpAny_tryCatch ?_)))
  unfold Builtin.Dict.pairItems
  refine Ko (Od (s:={s with heap:=h'}) ⟨_,hT,rfl⟩ ?_)
  rw[if_pos (by decide)]
  refine Ko (Oh (s:={s with heap:=h'}) hT rfl ?_)
  refine Ky ?_
  show wpAny _ A.in1 (holding [x,y] (dictSet d x y)) _ _ _
  have Vy:h'.DictOf knd d kvs:=⟨od,es,ep,kp d od (Mc O.z) (Mc O.TO) (Mc O.i1) (Mc O.i2) eod,rod⟩
  refine LG (wpAny_dictSet_pairs (s:={s with heap:=h'}) (kvs:=kvs) F_ Vy (λPu dd hs''=>?_) (by simp only[Lq] at hz;lia))
  have kp2:∀b o,b≠d->b≠z->b≠TO->b≠i1->b≠i2->s.heap.get? b=some o->Pu.get? b=some o:=λb o h0 h1 h2 h3 h4 e=>hs''.extBut b o h0 (kp b o h1 h2 h3 h4 e)
  refine Ky ⟨MM J1 _,?_⟩
  have ey:y=kv.2:=hv
  rw[ey] at dd
  refine ih (i+1) _ (stored kvs kv.1 kv.2) R (Z'.keep O λc o hc e=>hs''.extBut c o hc e) Pa dd ?_ (λh3 tk k3 d3=>hR h3 tk (λb o h0 h1 h2 h3 h4 e=>k3 b o h0 h1 h2 h3 h4 (kp2 b o h0 h1 h2 h3 h4 e)) d3)
  have z:=stored_length_le kvs kv.1 kv.2
  simp only[Lq] at hz
  lia
end
section
variable {prog:Program} {w:World} {KT:Type} [DecidableEq KT] {knd:KeyKind prog w KT} {A:Around} {E:Value->Shared->Prop}
def my {z TI TO i1 i2 l1 l2:Addr}{xs ys:List Value}{more:List (KT×Value)}{a b:Value}{s:Shared}{Q:Value->Shared->Prop}(hh:A.handled=none)(D:ZipApart z TI TO i1 i2 l1 l2)
  (hz:IsZip s.heap z TI TO .none) (U_:IsPair s.heap TI (.ref i1) (.ref i2)) (hTO:IsPair s.heap TO a b) (h1:s.heap.IsListIter i1 l1 0) (h2:s.heap.IsListIter i2 l2 0) (Si:s.heap.IsList l1 xs.toArray) (RW:s.heap.IsList l2 ys.toArray)
  (hlen:more.length<=sizeLine) (hp:Paired (lL knd) (xs.zip ys) more)
  (h:∀h' tk,h'.DictOf knd s.heap.objs.size (more.foldl (λa x=>stored a x.1 x.2) [])->(∀b o,b≠z->b≠TO->b≠i1->b≠i2->s.heap.get? b=some o->h'.get? b=some o)->Q (.ref s.heap.objs.size) {s with heap:=h',toks:=tk}):
  wpAny (model prog w) A (call (.type "dict") [.ref z]) Q E s:=by
 refine callType_codes (Q₁:=λobj s₁=>obj= .ref s.heap.objs.size/\s₁={s with heap:=s.heap.push {cls:= .type "dict",data:= .dict #[]}}) F.kt_called_dict (F.kt_typeCall_dict_1 _) F.entry_dict_init (kt_code_dict_new _ ⟨rfl,rfl⟩) ?_
 rintro obj s₁ ⟨rfl,rfl⟩
 have J':(s.heap.push {cls:= .type "dict",data:= .dict #[]}).DictOf knd s.heap.objs.size []:=Pd s.heap
 have ne:∀{c:Addr} {o:Obj},s.heap.get? c=some o->c≠s.heap.objs.size:=fun{c o} e=>KC (Kv e)
 obtain⟨o1,e1,r1⟩:=id h1
 obtain⟨o2,e2,r2⟩:=id h2
 obtain⟨o3,e3,r3⟩:=id Si
 obtain⟨o4,e4,r4⟩:=id RW
 have O:oS s.heap.objs.size z TI TO i1 i2 l1 l2:=⟨ne hz,ne U_,ne hTO,ne e1,ne e2,ne e3,ne e4⟩
 refine⟨J'.typeIs,F.args_dict_init_2 _ _,?_⟩
 unfold Builtin.«dict.__init__»
 refine Ko ?_
 unfold Builtin.Dict.selfAndRest
 refine Ko (NM J'.typeIs ?_)
 show wpAny _ _ (pure (s.heap.objs.size,[Value.ref z])) _ _ _
 refine Ky ?_
 show wpAny _ _ (Builtin.Dict.updateFrom "dict.__init__" s.heap.objs.size (.ref z) [] .none) _ _ _
 unfold Builtin.Dict.updateFrom
 have Yq:(s.heap.push {cls:= .type "dict",data:= .dict #[]}).get? z=some _:=Kn _ hz
 refine Ko (Od (s:={s with heap:=s.heap.push {cls:= .type "dict",data:= .dict #[]}}) ⟨_,Yq,rfl⟩ ?_)
 rw[if_pos (by decide)]
 refine Ko (qI (s:={s with heap:=s.heap.push {cls:= .type "dict",data:= .dict #[]}}) Yq hh λh2 Xf k2=>?_)
 rw[if_pos (show((none:Option Value).isNone)=true from rfl)]
 have up:∀b ob,s.heap.get? b=some ob->h2.get? b=some ob:=λb ob e=>k2 b ob (Kn _ e)
 have hd2:h2.DictOf knd s.heap.objs.size []:=let ⟨od,es,ep,e,r⟩:=J';⟨od,es,ep,k2 _ _ e,r⟩
 refine Ko (QR (Ko (wpAny_pyIter_zip (f0:= .none) (up _ _ hz) ?_)))
 refine Ky ⟨MM J1 _,?_⟩
 refine uf (knd:=knd) (xs:=xs) (ys:=ys) (A:=A.in1) hh D O more 0 _ [] _ ⟨up _ _ U_,⟨o1,up _ _ e1,r1⟩,⟨o2,up _ _ e2,r2⟩,⟨o3,up _ _ e3,r3⟩,⟨o4,up _ _ e4,r4⟩,.inl ⟨a,b,up _ _ hz,up _ _ hTO⟩⟩ (by rw[Oi];exact hp) hd2 (by simpa using hlen) λh3 tk k3 d3=>⟨rfl,h h3 tk d3 λb ob c1 c2 c3 c4 e=>k3 b ob (ne e) c1 c2 c3 c4 (up b ob e)⟩
end
section
variable {X:Cx} {a b:Expr} {t:TA} {p pos p2 Rv:Pos}
def Jn (K:Qc)(t:TA):TE:=λσ H Q=>t σ H λvs H1=>∃(l m:Addr) (ks:List j6) (ys:List V),vs=[.ref l,.ref m]/\SqL K H1 l (ks.map kV)/\SqL K H1 m ys/\∀d,H1 d=none->Q (.ref d) (upd H1 d (.dK (bQ (ks.zip ys))))
def wX {P : Program} {w : World} : ∀ {ks : List j6} {ys : List V} {us vs : List Value}, Vals (ks.map kV) us -> Vals ys vs -> ∃ more, Paired (lL (z7 P w)) (us.zip vs) more /\ KV (ks.zip ys) more
 := by
  intro ks ys us vs hu hv;induction ks generalizing ys us vs with
  | nil => cases hu; exact ⟨[], .nil, .nil⟩
  | cons k ks ih => cases hu with
    | cons r t => cases hv with
      | nil => exact ⟨[], .nil, .nil⟩
      | cons r' t' =>
        obtain ⟨more, h1, h2⟩ := ih t t'
        exact ⟨(k, _) :: more, .cons ⟨gG r, rfl⟩ h1, .cons ⟨rfl, r'⟩ h2⟩
def Hs (YA:Gl X "dict")(U':X.mg "dict"=none)(YB:Gl X "zip")(YC:X.mg "zip"=none)(hc:X.calm=true)(ha:PA X [a,b] t)(hs:starEach [a,b] X.env=[(false,eval a X.env),(false,eval b X.env)])(Ta:starEach [b] X.env=[(false,eval b X.env)])
  (hs3:starEach [Expr.Call (.Name "zip" p2) [a,b] [] Rv] X.env=[(false,eval (Expr.Call (.Name "zip" p2) [a,b] [] Rv) X.env)]):PE X (.Call (.Name "dict" p) [.Call (.Name "zip" p2) [a,b] [] Rv] [] pos) (Jn X.K t):=by
 intro pins s σ H Q I h
 refine Mq (de I YA U' Boot.«dict» (LP ?_ hs3 rfl) (by decide) (by decide))
 rw[hs3]
 show wpAny _ _ (spliced [(false,eval (Expr.Call (.Name "zip" p2) [a,b] [] Rv) X.env)]) _ _ s
 refine MQ ?_
 refine Mq (de I YB YC Boot.«zip» (LP (P0 (ha Rv pins s σ H _ I h) λus s1 ⟨vs,H1,I1,r1,q1⟩=>?_) (by rw[hs,Ta]) (by rw[Ta];rfl)) (by decide) (by decide))
 obtain⟨l,m,ks,ys,e,hq,hq',q⟩:=q1
 subst e
 obtain⟨u,v,rfl,ru,rv⟩:=hJ r1
 cases ru
 cases rv
 obtain⟨a_,rv,pl,hz⟩:=I1.list hq
 obtain⟨its',rv',YE,Tg⟩:=I1.list hq'
 obtain⟨more,g1,g2⟩:=wX (P:=X.prog) (w:=X.w) rv rv'
 refine call_zip_2 pl.isList YE.isList λh' z1 z2 z3 z4 z5 hsz hk=>?_
 refine NG ?_
 have ll:(l:Nat)<(s1.heap.objs.size:Nat):=by obtain⟨o,e,_⟩:=pl.isList;exact Kv e
 have lm:(m:Nat)<(s1.heap.objs.size:Nat):=by obtain⟨o,e,_⟩:=YE.isList;exact Kv e
 have D:ZipApart (s1.heap.objs.size+4) (s1.heap.objs.size+2) (s1.heap.objs.size+3) s1.heap.objs.size (s1.heap.objs.size+1) l m:=by
  constructor<;>first|exact KC (Kx ll (by lia))|exact KC (Kx lm (by lia))|(intro z;have z':(_:Nat)=(_:Nat):=z;lia)
 have Xi:more.length<=sizeLine:=by
  have e1:=KV.length g2;rw[Na] at e1;lia
 refine my (knd:=z7 X.prog X.w) (s:={s1 with heap:=h'}) (I.ok.hd hc) D z1 z2 z3 z4 z5 ?_ ?_ Xi g1 λh3 tk d3 k3=>?_
 .obtain⟨o,e,r⟩:=pl.isList;exact⟨o,hk _ _ e,r⟩
 .obtain⟨o,e,r⟩:=YE.isList;exact⟨o,hk _ _ e,r⟩
 have VW:s1.heap.objs.size<=h'.objs.size:=by rw[hsz];lia
 refine⟨.ref h'.objs.size,_,I1.laid (a:=h'.objs.size) (t':=tk) (λb o e=>?_) VW (kZ (kvs:=bQ (ks.zip ys)) ?_ ?_ (KV.puts g2 .nil) d3),rfl,q _ (I1.hok.fresh VW)⟩
 .have hb:(b:Nat)<(s1.heap.objs.size:Nat):=Kv e
  exact k3 b o (KC (Kx hb (by lia))) (KC (Kx hb (by lia))) (KC (Kx hb (by lia))) (KC (Kx hb (by lia))) (hk _ _ e)
 .have z:=cQ (ks.zip ys) []
  unfold bQ
  have e1:=KV.length g2
  simp only[NU] at z
  lia
 .exact MJ.mpr (Mc (KC (Kx I1.big VW)))
def Jx (K:Qc)(U':X.mg "dict"=none)(YC:X.mg "zip"=none)(hc:X.calm=true)(ha:QA X [a,b] t)(YA:Gl X "dict":=by rfl)(YB:Gl X "zip":=by rfl)(h:C6 a=true:=by rfl)(h':C6 b=true:=by rfl)(hK:X.K=K:=by rfl):
  QE X (.Call (.Name "dict" p) [.Call (.Name "zip" p2) [a,b] [] Rv] [] pos) (Jn K t):=⟨hK▸Hs YA U' YB YC hc ha.r (by rw[X8 h,X8 h'];rfl) (X8 h') (X8 rfl)⟩
def Iz {K:Qc}{σ:L2.St}{H:Hp}{Q:VK}{t:TA}(q:t σ H λvs H1=>∃(l m:Addr) (ks:List j6) (ys:List V),vs=[.ref l,.ref m]/\SqL K H1 l (ks.map kV)/\SqL K H1 m ys/\∀d,H1 d=none->Q (.ref d) (upd H1 d (.dK (bQ (ks.zip ys))))):Jn K t σ H Q:=q
end
open PySem.AutoSeq1 (wpAny_loadPart')
open PySem.MeetsSeq PySem.MeetsSeq2 PySem.MeetsSeq3
def EqL (K:Qc)(H:Hp)(x y:V)(b:Bool):Prop:=∃(a c:Addr) (xs ys:List V),x= .ref a/\y= .ref c/\SqL K H a xs/\SqL K H c ys/\xs.all J5=true/\ys.all J5=true/\b=V9 xs ys
section
variable {X:Cx} {pins:List (Addr×Obj)} {σ:St} {H:Hp} {s:Shared} {A:Around}
def EqL.at_ {x y:V}{u v:Value}{b:Bool}(I:Inv X pins σ H s)(h:EqL X.K H x y b)(rx:RelV x u)(ry:RelV y v)(hu:A.units+8<cLine):SeqAt.EqAt A s u v b:=by
 obtain⟨a,c,xs,ys,rfl,rfl,ha,hc,fx,fy,rfl⟩:=h;cases rx;cases ry;obtain⟨a_,r1,p1,z1⟩:=I.list ha;obtain⟨its',r2,p2,z2⟩:=I.list hc;by_cases hac:a=c
 .subst hac;have e:=I.list_inj ha hc;subst e;rw[dP fx];exact NS _
 .have l1:=r1.length;have l2:=r2.length;by_cases hl:xs.length=ys.length
  .have q:=SeqAt.RcAt.lists (A:=A) (e:=λj=>ej (xs.getD j .non) (ys.getD j .non)) p1.isList p2.isList (by simp;lia) (by lia) λj g1 g2=>by
    have RK:j<a_.length:=by simpa using g1
    have RL:j<its'.length:=by simpa using g2
    have x1:xs[j]?=some (xs[j]'(by lia)):=by simp [show j<xs.length by lia]
    have y1:ys[j]?=some (ys[j]'(by lia)):=by simp [show j<ys.length by lia]
    obtain⟨u1,Tc,Td⟩:=r1.get x1;obtain⟨u2,Rr,Te⟩:=r2.get y1;have e1:a_.toArray[j]=u1:=by
     have:=Kc RK;rw[Tc] at this;simpa using(KG this).symm
    have e2:its'.toArray[j]=u2:=by
     have:=Kc RL;rw[Rr] at this;simpa using(KG this).symm
    rw[e1,e2];have d1:xs.getD j .non=xs[j]'(by lia):=by rw[KY,x1];rfl
    have d2:ys.getD j .non=ys[j]'(by lia):=by rw[KY,y1];rfl
    rw[d1,d2];exact fC Td Te (KZ.mp fx _ (KS _)) (KZ.mp fy _ (KS _))
   have e3:a_.toArray.size=min xs.length ys.length:=by simp;lia
   have z:=Y8 xs ys;rw[show(xs.length==ys.length)=true by simpa using hl,Ql] at z;rw[e3,z] at q;exact .of_refs hac q
  .rw[ij hl];exact .of_refs hac (Ow p1.isList p2.isList (by simp;lia) (by lia))
end
section
variable {X:Cx}
def uU (K:Qc):V->List V->Hp->VK->Prop:=λx vs H Q=>∃(l:Addr) (xs:List V) (y:V) (f:V->Bool),x= .ref l/\vs=[y]/\H l=some (.lst xs)/\(∀z∈xs,EqL K H z y (f z))/\Q (.int (xs.countP f:Nat)) H
def jC {k:Nat}(hr:Room k X.A):yR X "list.count" (uU X.K):=by
 intro pins s σ H x vs v us Q I rx rv h;obtain⟨l,xs,y,f,rfl,rfl,hl,he,q⟩:=h;cases rx;obtain⟨u,rfl,ru⟩:=V4 rv;obtain⟨hz,a_,n,r,hle,e⟩:=I.lstM hl;refine Ot F.slot_list_count ⟨_,e,rfl⟩ F.entry_list_count (F.args_list_count_2 _ _) (SeqAt.list_countAt l a_.toArray n _ _ u (f∘EE)) ⟨e,λw hw=>?_,?_⟩
 .obtain⟨z,Tg,rz⟩:=jc r (show w∈a_ by simpa using hw);have g:=EqL.at_ (A:=X.A.in1) I (he z Tg) rz ru (by have:=hr.un;show X.A.units+1+8<cLine;lia);rw[show(f∘EE) w=f z by show f (EE w)=f z;rw[yT rz]];exact g
 .refine⟨.int (xs.countP f:Nat),H,I.tok _,⟨s.toks,?_⟩,q⟩;show Value.int (a_.countP (f∘EE):Nat) _=_;rw[GX r]
def jI {X:Cx}{k:Nat}(K:Qc)(hr:Room k X.A)(h:X.K=K:=by rfl):yR X "list.count" (uU K):=h▸jC hr
def pF {X:Cx}:yR X "list.pop" Hl:=EK
def Jj {pos:Pos}:QE X (.Dict [] [] pos) zQ:=⟨As⟩
end
section
variable {P:Program} {w:World}
end
section
variable {X:Cx}
end
section
variable {K:Qc} {H:Hp} {Q:VK} {x y:V}
end
end L2
namespace PySem
section
variable {prog:Program} {w:World} {K:Type} [DecidableEq K] {A:Around} {E:Value->Shared->Prop} {s:Shared}
def aP {knd:HeapKind prog w K}{d a:Addr}{xs:List (K×Addr×Value)}{k:K}{v:Value}{Q:Value->Shared->Prop}(hu:knd.room A)(F_:knd.is s.heap k a)(hm:s.heap.DictOfH knd d xs)
  (Uo:∀p,atKey xs k=some p->Q p.2 {s with toks:=s.toks+knd.draws k})
  (hQ:atKey xs k=none->∀h',h'.DictOfH knd d (storedH xs k a v)->Heap.SameBut d s.heap h'->Q v {s with heap:=h',toks:=s.toks+knd.draws k})
  (hsz:xs.length<=sizeLine):
  wpAny (model prog w) A (dictSetDefault d (.ref a) v) Q E s:=by
 obtain⟨o,es,ep,ho,hc,hd,he,his,hn⟩:=hm
 unfold dictSetDefault
 try with_reducible refine LG ?_
 refine Ko (knd.pyHash hu F_ ?_)
 refine Ko (wpAny_dictFind_heap (s:={s with toks:=s.toks+knd.draws k}) hu F_ ho hd he his hn ?_ ?_)
 .intro g_
  have Up:k∉xs.map (·.1):=not_mem_keys_of_get g_
  refine Ko (QR (Ko (wpAny_updateDictKeys (hz:=by have e:=size_of_entries he;lia) (s:={s with toks:=s.toks+knd.draws k}) ho hd (Ky (hQ (NH g_) _ ⟨_,_,ep+1,Heap.get?_update_self _ ho (Obj.isFreed_of_dict (Obj.data_mapDictKeys hd _)),
   hc.mapDictKeys _,Obj.data_mapDictKeys hd _,?_,?_,?_⟩ (NX ..))))))
  .rw[storedH_new (NH g_)]
   simp [he,entryOfKey]
  .rw[storedH_new (NH g_)]
   intro x hx
   rcases Kg.mp hx with hx|hx
   .exact knd.keeps (his x hx) ho hd (NX ..)
   .simp only[Kq] at hx
    subst hx
    exact knd.keeps F_ ho hd (NX ..)
  .rw[storedH_new (NH g_)]
   rw[Ki,Ks]
   refine⟨hn,by simp,?_⟩
   intro x hx y hy
   simp only[Lk,MU,Kq] at hy
   subst hy
   exact λe=>Up (e▸hx)
 .intro j p hj
  refine Ko (wpAny_dictEntries (s:={s with toks:=s.toks+knd.draws k}) ho hd ?_)
  rw[entry_at he j,hj]
  exact Ko (QR (Ky (Uo _ (atKey_of_get hn hj))))
def cc (knd:HeapKind prog w K)(d a:Addr)(hd:(d==sysModules)=false)(dflt:Value):
  MeetsIn prog w (Builtin.«dict.setdefault» ⟨[.ref d,.ref a,dflt],[]⟩) (λA R s=>knd.room A.in1/\∃k xs,knd.is s.heap k a/\s.heap.DictOfH knd d xs/\xs.length<=sizeLine/\
   (∀p,atKey xs k=some p->R (.ok (.ret p.2)) {s with toks:=s.toks+knd.draws k})/\
   (atKey xs k=none->∀h',h'.DictOfH knd d (storedH xs k a dflt)->Heap.SameBut d s.heap h'->R (.ok (.ret dflt)) {s with heap:=h',toks:=s.toks+knd.draws k})):=
 .of_wp λA R s ⟨hu,k,xs,hk,hm,hz,h1,h2⟩=>by
  unfold Builtin.«dict.setdefault»;refine Ko ?_;unfold Builtin.Dict.keyAndDefault;refine Ko (NM hm.typeIs ?_);show wpAny _ _ (pure (d,Value.ref a,some dflt)) _ _ s;refine Ky ?_;show wpAny _ _ (if(d==sysModules)=true then _ else(dictSetDefault d (.ref a) dflt>>=_)) _ _ s;rw[if_neg (by rw[hd];exact Lc)];exact Ko (aP hu hk hm (λp hp=>Ky ⟨_,rfl,h1 p hp⟩) (λhn h' TC Qn=>Ky ⟨dflt,rfl,h2 hn h' TC Qn⟩) hz)
end
end PySem
namespace L2
open PySem PySem.Spec PyProof.Rows
section
variable {X:Cx}
def Bd:V->List V->Hp->VK->Prop:=λx vs H Q=>∃(d t:Addr) (kvs:List (List j6×V)) (k:List j6) (v:V),x= .ref d/\vs=[.ref t,v]/\H d=some (.dT kvs)/\H t=some (.tup (k.map kV))/\kvs.length<sizeLine/\
 (match A4 kvs k with|some u=>Q u H|none=>Q v (upd H d (.dT (E9 kvs k v))))
def ei {k:Nat}(hr:Room k X.A):yR X "dict.setdefault" Bd:=by
 intro pins s σ H x vs v us Q I rx rv h;obtain⟨d,t,kvs,k',y,rfl,rfl,e,et,hl,q⟩:=h;cases rx;obtain⟨u1,u2,rfl,r1,r2⟩:=hJ rv;cases r1;obtain⟨z,hd,xs,rel,dd⟩:=CU I.hok e;have hz:xs.length<=sizeLine:=by rw[←KW rel];exact z
 have Tt:(E9 kvs k' y).length<=sizeLine:=by have:=V0 kvs k' y;lia
 refine Mf F.slot_dict_setdefault dd.typeIs F.entry_dict_setdefault (F.args_dict_setdefault_3 _ _ _) (cc (tupleKind (z7 X.prog X.w)) d t hd u2) ⟨Mh (by have:=hr.un;lia),k',xs,dH I.hok et,dd,hz,λp hp=>?_,λhn h' dd' hs=>?_⟩
 .have hw:(atKey xs k').map (·.2)=some p.2:=by rw[hp];rfl
  have ro:=rel.val k';rw[hw] at ro;cases hv:A4 kvs k' with
  |none=>rw[hv] at ro;cases ro
  |some w'=>
   rw[hv] at ro q
   exact⟨w',H,I.tok _,ro,q⟩
 .have ro:=rel.val k';rw[hn] at ro;cases hv:A4 kvs k' with
  |some w'=>rw[hv] at ro;cases ro
  |none=>
   rw[hv] at q
   refine⟨y,_,?_,r2,q⟩
   obtain⟨o',es,ep,hq,h2,h3,h4,_,h5⟩:=dd'
   refine jT I (by rw[e];exact True.intro) hs ⟨o',hq⟩ ⟨Tt,hd,_,(rel.put k' et r2).keeps λc ys ec=>?_,o',es,ep,hq,h2,h3,h4,h5⟩
   rw[b9 (Cz ec e (λz=>nomatch z))]
   exact ec
end
section
variable {X:Cx}
def yX (K:Qc):List V->Hp->VK->Prop:=λxs H Q=>∃(t:Addr) (a b:Str),xs=[.ref t]/\SqT K H t [.str a,.str b]/\Q (.str (if a.cps.toList<b.cps.toList then b else a)) H
def vM (hc:X.calm=true):CallR X (.builtin "max") (yX X.K):=by
 intro pins s σ H xs us Q I r h;obtain⟨t,a,b,rfl,ht,q⟩:=h;obtain⟨u,rfl,ru⟩:=V4 r;cases ru;obtain⟨a_,rv,p,hz⟩:=I.tuple ht;obtain⟨_,_,rfl,⟨t1,rfl⟩,⟨t2,rfl⟩⟩:=hJ rv;refine call_max_walk (wpAny_pyIter_tuple (show s.heap.IsTuple t #[Value.str a t1,Value.str b t2] from p) ?_);have n_:t<s.heap.objs.size:=by
  obtain⟨o,e,_⟩:=(show s.heap.IsTuple t #[Value.str a t1,Value.str b t2] from p)
  exact Kv e
 have kp:∀c o,s.heap.get? c=some o->(s.heap.push {cls:= .type "tuple_iterator",data:= .fields #[.ref t,.int 0 0]}).get? c=some o:=λc o e=>Kn _ e;refine⟨s.heap.objs.size,[s.heap.objs.size,t],[s.heap.objs.size],2,_,_,λi j=>decide ((if j=0 then a else b).cps.toList<(if i=0 then a else b).cps.toList),rfl,Walks.tuple (A:=X.A.in1) (show X.A.in1.handled=none from I.ok.hd hc) s.heap.objs.size t (KC n_) #[Value.str a t1,Value.str b t2],⟨⟨_,KD _ rfl,rfl,rfl⟩,let ⟨o,e,r⟩:=p;⟨o,kp _ _ e,r⟩⟩,λc Rm=>?_,by decide,?_,?_⟩
 .show c<(s.heap.push _).objs.size;rcases Lh.mp Rm with rfl|Rm
  .simp [Heap.push]
  .rw[Kq.mp Rm];have z:s.heap.objs.size<(s.heap.push {cls:= .type "tuple_iterator",data:= .fields #[.ref t,.int 0 0]}).objs.size:=by simp [Heap.push]
   exact Pb n_ z
 .intro i j vi vj s' Q' E' hi hj hQ;have key:∀(i:Nat) (v:Value),(#[Value.str a t1,Value.str b t2]:Array Value)[i]?=some v->∃tk,v= .str (if i=0 then a else b) tk:=λi v h=>by
   match i,h with
   |0,h=>exact⟨t1,by simpa using h.symm⟩
   |1,h=>exact⟨t2,by simpa using h.symm⟩
   |n+2,h=>simp at h
  obtain⟨k1,rfl⟩:=key i vi hi;obtain⟨k2,rfl⟩:=key j vj hj;exact richCompare_gives (op:= .Gt) (Pq _ _ _) (Pq _ _ _) F.slot_str_gt F.entry_str_gt (F.args_str_gt_2 _ _) (gives_str_gt _ _ _ _) (λe=>nomatch e) hQ
 .intro v h' tk hv hk;have I2:Inv X pins σ H {s with heap:=h',toks:=tk}:=I.kept λc o e=>hk c o (λz=>by rw[Kq.mp z] at e;exact absurd (Kv e) (LN _)) (kp c o e);refine⟨_,H,I2,?_,q⟩;by_cases hl:a.cps.toList<b.cps.toList
  .have e:argBest (λi j=>decide ((if j=0 then a else b).cps.toList<(if i=0 then a else b).cps.toList)) (2 -1)=1:=by show(if decide (a.cps.toList<b.cps.toList)=true then 1 else 0)=1;rw[if_pos (KA hl)]
   rw[e] at hv;rw[if_pos hl];exact⟨t2,by simpa using hv.symm⟩
  .have e:argBest (λi j=>decide ((if j=0 then a else b).cps.toList<(if i=0 then a else b).cps.toList)) (2 -1)=0:=by show(if decide (a.cps.toList<b.cps.toList)=true then 1 else 0)=0;rw[if_neg (by rw[KQ hl];decide)]
   rw[e] at hv;rw[if_neg hl];exact⟨t1,by simpa using hv.symm⟩
def Hy (K:Qc)(hc:X.calm=true)(h:X.K=K:=by rfl):CallR X (.builtin "max") (yX K):=h▸vM hc
end
def Ek {K:Qc}{H:Hp}{Q:VK}{t:Addr}{a b:Str}(h:SqT K H t [.str a,.str b])(q:Q (.str (if a.cps.toList<b.cps.toList then b else a)) H):yX K [.ref t] H Q:=⟨t,a,b,rfl,h,q⟩
structure JM (K:Qc) (x qual:Str) (st:Stmt) (T:Addr) (f:Addr) (fd:FuncData):Prop where
 ex:∃(oc:Value) (od:Option Addr) (kV doc pm:Value) (an:Option Addr) (c_ ct:Value) (Rb:Array (Option Value)),
  fd=PySem.W.fnOf x qual (aU st) (Z0 st) (i9 st) (.ref T) kV doc pm an c_ ct/\K.lookup f=some ⟨oc,od,.func fd,Rb⟩/\PySem.W.codeIn K c_ qual=true
 kp:PySem.W.keepIn K (.ref f)=true
section
variable {P:Program} {w:World} {K:Qc} {mg:Str->Option Value} {base:Heap}
end
open PySem.AutoSeq1 (wpAny_loadPart')
open PySem.MeetsSeq PySem.MeetsSeq2 PySem.MeetsSeq3
section
variable {P:Program} {w:World}
end
section
variable {X:Cx}
end
section
variable {α β:Type}
end
def JS (rk:Value->Int)(p:Keyed):Keyed:=(.int (rk p.1) 0,p.2)
def kA (rk:Value->Int)(st:SortSt)(i:Nat):Int:=K ((arrOf st).map (JS rk)) i
structure TB (kd:SortKind) (base:Array Keyed) (st:SortSt):Prop where
 pm:(arrOf st).Perm base
 kd:kindOf st=kd
 fl:failedOf st=none
 pe:pendingOf st= #[]
section
variable {prog:Program} {w:World} {A:Around} {E:Value->Shared->Prop} {s:Shared} {rk:Value->Int} {kd:SortKind} {base:Array Keyed} {st:SortSt}
def JV (rk:Value->Int)(st:SortSt)(n:Nat):Prop:=∀i j,i<=j->j<n->kA rk st i<=kA rk st j
end
section
variable {prog:Program} {w:World} {A:Around} {E:Value->Shared->Prop} {s:Shared} {rk:Value->Int} {kd:SortKind} {base:Array Keyed} {st:SortSt}
structure TD (rk:Value->Int) (base:Array Keyed) (st:SortSt):Prop where
 pm:(arrOf st).Perm base
 fl:failedOf st=none
 pe:pendingOf st= #[(0,base.size,0)]
 up:JV rk st base.size
end
def Jq:V->List Nat
 | .str a=>a.cps.toList
 | .bl b=>[b.toNat]
 |_=>[]
abbrev Jk (xs:List V):List (List Nat):=xs.map Jq
section
variable {P:Program} {w:World} {A:Around} {E:Value->Shared->Prop} {s:Shared}
end
abbrev JL:=List (List Nat)
section
variable {P:Program} {w:World} {A:Around} {E:Value->Shared->Prop} {s:Shared}
structure JN (h:Heap) (kf:Value->JL) (v:Value):Prop where
 at_:∃(a:Addr) (us:List Value) (xs:List V) (x:Str) (r:List V),v= .ref a/\h.IsTuple a us.toArray/\Vals xs us/\xs= .str x::r/\kf v=Jk xs
end
section
variable {P:Program} {w:World} {A:Around} {E:Value->Shared->Prop} {s:Shared}
end
section
variable {X:Cx}
end
section
variable {X:Cx} {pins:List (Addr×Obj)} {σ:St} {H:Hp} {s:Shared}
end
section
variable {X:Cx}
def Cy (K:Qc):R2:=λ_ _ _ _=>False
def Bp (hu:X.A.units+64<cLine):OpR X (compareOp .Eq) (Cy X.K):=by
 intro pins s σ H x y v u Q I rx ry h;exact h.elim
def CJ (K:Qc):R2:=λx y H Q=>jx K x y H Q\/Cy K x y H Q
def GK (K:Qc){k:Nat}(hr:Room k X.A)(h:X.K=K:=by rfl):OpR X (compareOp .Eq) (CJ K):=(av K hr h).or (h▸Bp hr.units)
def EqA (K:Qc)(H:Hp)(x y:V)(b:Bool):Prop:=(∃a c,x= .str a/\y= .str c/\b=decide (a=c))\/False
def Gg {K:Qc}{H:Hp}{Q:VK}{x y:V}{b:Bool}(h:EqA K H x y b)(q:Q (.bl b) H):CJ K x y H Q:=by
 rcases h with⟨a,c,rfl,rfl,rfl⟩|h
 .exact .inl (mf q)
 .exact h.elim
def EqA.mono {K:Qc}{H H':Hp}{x y:V}{b:Bool}(l:Le H H')(h:EqA K H x y b):EqA K H' x y b:=h
end
open PySem.AutoSeq1 (wpAny_loadPart')
open PySem.MeetsSeq PySem.MeetsSeq2 PySem.MeetsSeq3
section
variable {P:Program} {w:World}
def Er (l m:Addr)(xs ys:Array Value)(n1 n2:Nat)(d1 d2:Option Addr)(s1 s2:Array (Option Value))(hz:xs.size≠ys.size):
  MeetsIn P w (Builtin.«list.__ne__» ⟨[.ref l,.ref m],[]⟩) (λA R s=>
   s.heap.get? l=some {cls:= .type "list",dict:=d1,data:= .seq xs n1,slots:=s1}/\s.heap.get? m=some {cls:= .type "list",dict:=d2,data:= .seq ys n2,slots:=s2}/\
   R (.ok (.ret (.bool true))) s):=by
 intro A R s hyp
 obtain⟨hp,gg,dr,tk,os⟩:=s
 obtain⟨e1,e2,fin⟩:=hyp
 have q1:=AutoSeq1.sub_list_list;have q2:(xs.size !=ys.size)=true:=by simp [hz]
 wp_walk using wpAny_loadPart' e1,wpAny_loadPart' e2
 exact fin
end
section
variable {X:Cx}
def HL (K:Qc):R2:=λx y H Q=>∃(p q:Addr) (xs:List V),x= .ref p/\y= .ref q/\SqL K H p xs/\SqL K H q []/\Q (.bl (!xs.isEmpty)) H
def Ea (hu:X.A.units+64<cLine):OpR X (compareOp .NotEq) (HL X.K):=by
 intro pins s σ H x y v u Q I rx ry h;obtain⟨p,q,xs,rfl,rfl,hp,hq,k⟩:=h;cases rx;cases ry;obtain⟨us,r1,p1,z1⟩:=I.list hp;obtain⟨vs,r2,p2,z2⟩:=I.list hq;have le1:=r1.length;have Va:=r2.length;obtain rfl:vs=[]:=Ml (by simpa using Va.symm);cases xs with
 |nil=>
  obtain rfl:us=[]:=Ml (by simpa using le1.symm)
  have q:=NcP.lst (P:=X.prog) (w:=X.w) (A:=X.A) (f:=λ_=>true) p1.isList p2.isList rfl (by lia) (λj g1 _=>absurd g1 (by simp))
  exact q _ _ ⟨.bl _,H,I,rfl,k⟩
 |cons x r=>
  obtain⟨⟨c1,d1,a1,s1⟩,o1,k1,n1,w1⟩:=id p1.isList
  obtain⟨⟨c2,d2,a2,s2⟩,o2,k2,n2,w2⟩:=id p2.isList
  simp only at k1 w1 k2 w2
  subst k1 w1 k2 w2
  show wpAny _ X.A (richCompare .NotEq (.ref p) (.ref q)) _ _ s
  refine MX (op:= .NotEq) ⟨_,o1,rfl⟩ ⟨_,o2,rfl⟩ Ng (Mf Ng ⟨_,o1,rfl⟩ Pk (OW _ _) (Er p q us.toArray #[] n1 n2 d1 d2 s1 s2 (by simp;intro z;rw[z] at le1;simp at le1)) ⟨o1,o2,?_⟩) (by lia)
  exact⟨(λz=>nomatch z),⟨.bl _,H,I,rfl,k⟩⟩
def Iw (K:Qc){k:Nat}(hr:Room k X.A)(h:X.K=K:=by rfl):OpR X (compareOp .NotEq) (HL K):=h▸Ea hr.units
def jG {X:Cx}:Ik X "list.extend" vt:=xh
end
structure FnIn (K:Qc) (n:Str) (st:Stmt) (f:Addr):Prop where
 a:PySem.W.nsIn K mainGlobals n=some (some (.ref f))
 F:∃fd,Fun K n n st f fd
def FnIn.mk' {K:Qc}{n:Str}{st:Stmt}{f:Addr}{oc:Value}{od an:Option Addr}{Rb:Array (Option Value)}{kV doc pm c_ ct:Value}(a:PySem.W.nsIn K mainGlobals n=some (some (.ref f)))(l:K.lookup f=some ⟨oc,od,.func (PySem.W.fnOf n n (aU st) (Z0 st) (i9 st) .none kV doc pm an c_ ct),Rb⟩)
  (c:PySem.W.codeIn K c_ n=true) (k:PySem.W.keepIn K (.ref f)=true):FnIn K n st f:=⟨a,_,Et l c k⟩
def u6 {P:Program}{w:World}{K:Qc}{mg:Str->Option Value}{base h:Heap}{CX:qh}{k:Nat}{n:Str}{st:Stmt}{ps:List Str}{sp:Sp}{f:Addr}(X:K.In h)(G:h.Ns mainGlobals mg)(a:FnIn K n st f)(ok:∀{f fd},Fun K n n st f fd->C5 P w K mg base CX k f fd ps sp)
  (b:∀(kV doc pm:Value) (an:Option Addr) (c_ ct:Value) (us:List Value),us.length=ps.length->bindArgs (PySem.W.fnOf n n (aU st) (Z0 st) (i9 st) .none kV doc pm an c_ ct) ⟨us,[]⟩=pure (ps.zip us)):U0 P w K mg base CX k n ps [] sp:=by
 obtain⟨fd,F⟩:=a.F
 exact⟨f,_,[],ok F,Mo X G a.a,F.kp,F.binds b,.nil⟩
def Fw {P:Program}{w:World}{K:Qc}{mg:Str->Option Value}{h:Heap}{CX:qh}{k:Nat}{st:Stmt}{p:Str}{sp:Sp}{f fa:Addr}(X:K.In h)(G:h.Ns mainGlobals mg)(YF:mg "law"=some (.ref fa))(a:FnIn K "law" st f)(ok:∀{base f fd},Fun K "law" "law" st f fd->C5 P w K mg base CX k f fd [p] sp)
  (b:∀(kV doc pm:Value) (an:Option Addr) (c_ ct:Value) (s:Shared) (v:Value),BindsTo s (PySem.W.fnOf "law" "law" (aU st) (Z0 st) (i9 st) .none kV doc pm an c_ ct) ⟨[v],[]⟩ [(p,v)]):
  ∃fd:FuncData,(∀(s:Shared) (v:Value),BindsTo s fd ⟨[v],[]⟩ [(p,v)])/\∀base:Heap,K.In base->base.Ns mainGlobals mg->C5 P w K mg base CX k fa fd [p] sp:=by
 obtain⟨fd,F⟩:=a.F
 have e:=YF.symm.trans (Mo X G a.a)
 cases e
 obtain⟨oc,od,kV,doc,pm,an,c_,ct,Rb,rfl,lk,QV⟩:=id F.ex
 exact⟨_,λs v=>b _ _ _ _ _ _ s v,λbase _ _=>ok F⟩
section
variable {fd:FuncData} {ps:List Str} {us:List Value}
def uc {us:List Value}{n:Nat}(h:us.length=n+1):∃a r,us=a::r/\r.length=n:=by
 cases us with
 |nil=>cases h
 |cons a r=>exact⟨a,r,rfl,Nat.succ.inj h⟩
def JT (h:us.length=1)(g:∀a:Value,bindArgs fd ⟨[a],[]⟩=pure (ps.zip [a])):bindArgs fd ⟨us,[]⟩=pure (ps.zip us):=by
 obtain⟨a,us,rfl,h1⟩:=uc h;cases us with
 |nil=>exact g a
 |cons _ _=>cases h1
def JK (h:us.length=2)(g:∀a b:Value,bindArgs fd ⟨[a,b],[]⟩=pure (ps.zip [a,b])):bindArgs fd ⟨us,[]⟩=pure (ps.zip us):=by
 obtain⟨a,us,rfl,h1⟩:=uc h;obtain⟨b,us,rfl,h2⟩:=uc h1;cases us with
 |nil=>exact g a b
 |cons _ _=>cases h2
def JJ (h:us.length=3)(g:∀a b c:Value,bindArgs fd ⟨[a,b,c],[]⟩=pure (ps.zip [a,b,c])):bindArgs fd ⟨us,[]⟩=pure (ps.zip us):=by
 obtain⟨a,us,rfl,h1⟩:=uc h;obtain⟨b,us,rfl,h2⟩:=uc h1;obtain⟨c,us,rfl,h3⟩:=uc h2;cases us with
 |nil=>exact g a b c
 |cons _ _=>cases h3
def JZ (h:us.length=4)(g:∀a b c d:Value,bindArgs fd ⟨[a,b,c,d],[]⟩=pure (ps.zip [a,b,c,d])):bindArgs fd ⟨us,[]⟩=pure (ps.zip us):=by
 obtain⟨a,us,rfl,h1⟩:=uc h;obtain⟨b,us,rfl,h2⟩:=uc h1;obtain⟨c,us,rfl,h3⟩:=uc h2;obtain⟨d,us,rfl,h4⟩:=uc h3;cases us with
 |nil=>exact g a b c d
 |cons _ _=>cases h4
def JW (h:us.length=5)(g:∀a b c d e:Value,bindArgs fd ⟨[a,b,c,d,e],[]⟩=pure (ps.zip [a,b,c,d,e])):bindArgs fd ⟨us,[]⟩=pure (ps.zip us):=by
 obtain⟨a,us,rfl,h1⟩:=uc h;obtain⟨b,us,rfl,h2⟩:=uc h1;obtain⟨c,us,rfl,h3⟩:=uc h2;obtain⟨d,us,rfl,h4⟩:=uc h3;obtain⟨e,us,rfl,h5⟩:=uc h4;cases us with
 |nil=>exact g a b c d e
 |cons _ _=>cases h5
def JD (h:us.length=6)(g:∀a b c d e f:Value,bindArgs fd ⟨[a,b,c,d,e,f],[]⟩=pure (ps.zip [a,b,c,d,e,f])):bindArgs fd ⟨us,[]⟩=pure (ps.zip us):=by
 obtain⟨a,us,rfl,h1⟩:=uc h;obtain⟨b,us,rfl,h2⟩:=uc h1;obtain⟨c,us,rfl,h3⟩:=uc h2;obtain⟨d,us,rfl,h4⟩:=uc h3;obtain⟨e,us,rfl,h5⟩:=uc h4;obtain⟨f,us,rfl,h6⟩:=uc h5;cases us with
 |nil=>exact g a b c d e f
 |cons _ _=>cases h6
end
def Ic (a u:St->Hp->Prop):Prop:=∀σ H,u σ H->a σ H
def Hm {t u:TS}{nx:St->Hp->Prop}{rt:V->Hp->Prop}{bk ct:St->Hp->Prop}{σ:St}{H:Hp}(h:∀a:St->Hp->Prop,Ic a (u ⟨nx,rt,bk,ct⟩)->t ⟨a,rt,bk,ct⟩ σ H):jK t u ⟨nx,rt,bk,ct⟩ σ H:=h _ λ_ _ z=>z
def hZ {a u:St->Hp->Prop}{σ:St}{H:Hp}(h:Ic a u)(q:u σ H):a σ H:=h σ H q
section
variable {J:It} {th:Hp->Hp} {g:V->St->Hp->(St->Hp->Prop)->Prop} {tb:TS} {nx:St->Hp->Prop} {rt:V->Hp->Prop} {σ:St} {H:Hp} {n:Nat}
def O0 (Pv:Nat->St->Hp->Prop)(h0:Pv 0 σ H)(Rh:∀i σ H,i<n->Pv i σ H->J.go i H)
  (hs:∀i x σ H H',i<n->Pv i σ H->J.yld i H x H'->∀a:St->Hp->Prop,Ic a (Pv (i+1))->g x σ H' λσ2 H2=>tb ⟨a,λv H=>rt v (th H),λσ H=>nx σ (th H),a⟩ σ2 H2)
  (hd:∀σ H,Pv n σ H->J.stop n H/\nx σ (th H)):vL J th g tb nx rt σ H:=zY Pv h0 Rh (λi x σ H H' a b c=>hs i x σ H H' a b c _ λ_ _ z=>z) hd
def R4 (Pv:Nat->St->Hp->Prop)(h0:Pv 0 σ H)(Rh:∀i σ H,i<n->Pv i σ H->J.go i H)
  (hs:∀(bk:St->Hp->Prop) i x σ H H',i<n->Pv i σ H->J.yld i H x H'->∀a:St->Hp->Prop,Ic a (Pv (i+1))->g x σ H' λσ2 H2=>tb ⟨a,λv H=>rt v (th H),bk,a⟩ σ2 H2)
  (hd:∀σ H,Pv n σ H->J.stop n H/\nx σ (th H)):vL J th g tb nx rt σ H:=Eu Pv h0 Rh (λk i x σ H H' a b c=>hs k i x σ H H' a b c _ λ_ _ z=>z) hd
end
def zS (K:Qc)(T:Addr)(tb:(St->XK)->TS)(ts:TS):TS:=λD σ H=>
 tb (λσ' c oa H'=>∃C a,c= .ref C/\oa=some a/\PySem.W.subIn K (.ref C) (.ref T)=some true/\ts D σ' (upd H' a (.ext (cE a C)))) D σ H
def DQ {K:Qc}{T:Addr}{tb:(St->XK)->TS}{ts:TS}{D:qz}{σ:St}{H:Hp}(q:tb (λσ' c oa H'=>∃C a,c= .ref C/\oa=some a/\PySem.W.subIn K (.ref C) (.ref T)=some true/\ts D σ' (upd H' a (.ext (cE a C)))) D σ H):zS K T tb ts D σ H:=q
section
variable {X:Cx} {x:Str} {T:Addr} {np QD pos:Pos} {b₀:Stmt} {body suite:List Stmt} {tb:(St->XK)->TS} {ts:TS}
def AO (O:IX X.K X.mg x T)(hb:∀pins Es,PSs (X.tried pins Es) body (tb Es))(hs:∀e,PSs (X.suite e) (b₀::suite) ts)
  (RU:X.stack=X.env::X.outer) (Px:X.env.frame=some X.env.locals) (hex:X.ex=[]) (hg:Gl X x:=by rfl) (w_:(x==("__debug__":Str))=false:=by decide):
  PS X (.Try body [.ExceptHandler (some (.Name x np)) none (b₀::suite) QD] [] [] pos) (zS X.K T tb ts):=by
 intro pins s σ H D I hw
 refine wpAny_Try_except (NR (hb pins _ [] s σ H D I.toTried hw) (λf s1 q=>?_) λe s1 q=>?_)
 .cases f with
  |next=>obtain⟨σ',H',I',q'⟩:=q;exact Nq ⟨σ',H',I'.ofTried,q'⟩
  |brk=>obtain⟨σ',H',I',q'⟩:=q;exact⟨σ',H',I'.ofTried,q'⟩
  |cont=>obtain⟨σ',H',I',q'⟩:=q;exact⟨σ',H',I'.ofTried,q'⟩
  |ret u=>obtain⟨v,σ',H',I',r',q'⟩:=q;exact⟨v,σ',H',I'.ofTried,r',q'⟩
 .obtain⟨k_,σ',H1,s2,I2',a,C',a0,B,H',rfl,F,C,a',ec,ea,Uq,YG⟩:=q
  cases ec
  cases ea
  have I2:=I2'.ofPinned
  have x_:=F.fl
  rw[RU] at x_
  refine wpAny_looks_onW (by rw[I.ok.frames,RU]) Px x_ λh4 held4 sm4=>?_
  refine wpAny_landsW held4 λh5 Sj sm5=>?_
  have I5:Inv X pins σ' H' {s1 with heap:=h5}:=F.land I2 Sj.1 (sm4.trans sm5) s1.toks
  have YH:cE a C' h5:=by
   obtain⟨oe,vs,z1,z2,z3,_⟩:=Sj.first;exact⟨oe,vs,z1,z2,z3⟩
  refine wpAny_handleBy_cons (codeAny_handlers_test ?_) (by intro q;cases q)
  refine hU (X:=X.suite a) (I5.toSuite (e:=a)) hg O.bound ?_ w_
  refine sD I5.kIn YH O.ty O.exc O.cls Uq ?_
  refine codeAny_handlers_suite ?_
  refine lands_againW Sj λh6 hfl6 sm6=>?_
  have I6:Inv X pins σ' H' {s1 with heap:=h6}:=F.land I2 hfl6.1 ((sm4.trans sm5).trans sm6) s1.toks
  have Vb:cE a C' h6:=by
   obtain⟨oe,vs,z1,z2,z3,_⟩:=hfl6.first;exact⟨oe,vs,z1,z2,z3⟩
  have nB:B.get? a=none:=hfl6.2.1
  have nfr:a∉bS X.stack:=λhb=>by
   obtain⟨oe,vs,z1,z2,z3⟩:=Vb;rw[RU] at hb;exact Q2 hfl6.2.2.1 hb z1 vs z3
  have n2:s2.heap.get? a=none:=by
   cases z:s2.heap.get? a with
   |none=>rfl
   |some o=>
    obtain⟨o',z'⟩:=F.th a o z nfr
    rw[nB] at z';cases z'
  have n0:X.s₀.heap.get? a=none:=by
   cases z:X.s₀.heap.get? a with
   |none=>rfl
   |some o=>
    obtain⟨o',z'⟩:=I2.base.there a o z (by rw[hex];simp)
    rw[n2] at z';cases z'
  have I7:=(I6.track F.nw Vb n0 λp hp q=>by
   have z:=(I2.pin p hp).1;rw[q,n2] at z;cases z).toSuite (e:=a)
  refine NR (hs a pins _ _ _ _ I7 YG) (λf s9 q=>?_) λ_ _ z=>z.elim
  cases f with
  |next=>obtain⟨σ9,H9,I9,q9⟩:=q;exact⟨_,_,I9.ofSuite I.ok,q9⟩
  |brk=>obtain⟨σ9,H9,I9,q9⟩:=q;exact⟨_,_,I9.ofSuite I.ok,q9⟩
  |cont=>obtain⟨σ9,H9,I9,q9⟩:=q;exact⟨_,_,I9.ofSuite I.ok,q9⟩
  |ret u=>obtain⟨v9,σ9,H9,I9,r9,q9⟩:=q;exact⟨_,_,_,I9.ofSuite I.ok,r9,q9⟩
def GW (O:IX X.K X.mg x T)(hb:∀pins Es,QSs (X.tried pins Es) body (tb Es))(hs:∀e,QSs (X.suite e) (b₀::suite) ts)
  (RU:X.stack=X.env::X.outer:=by rfl) (Px:X.env.frame=some X.env.locals:=by rfl) (hex:X.ex=[]:=by rfl) (hg:Gl X x:=by rfl) (w_:(x==("__debug__":Str))=false:=by decide):
  QS X (.Try body [.ExceptHandler (some (.Name x np)) none (b₀::suite) QD] [] [] pos) (zS X.K T tb ts):=⟨AO O (λp E=>(hb p E).r) (λe=>(hs e).r) RU Px hex hg w_⟩
end
section
variable {X:Cx} {e:Expr} {te:TE} {pos p2 p3 p4:Pos} {j:Nat}
end
section
variable {X:Cx} {pins:List (Addr×Obj)} {σ:St} {H:Hp} {s:Shared} {h':Heap}
end
section
variable {X:Cx}
end
section
variable {K:Qc} {H:Hp} {Q:VK}
end
section
variable {X:Cx}
def qw (K:Qc):List V->Hp->VK->Prop:=λxs H Q=>∃(v d:Addr) (kvs:List (j6×V)) (ss:List Str),xs=[.ref v]/\H v=some (.ext (gZ v d))/\Rd H d (.dK kvs)/\kvs.map (·.2)=ss.map V.str/\ss.length<64/\
 ∀l_:List Str,l_.Perm ss->∀l,H l=none->Q (.ref l) (upd H l (.lst (l_.map V.str)))
def pL (hc:X.calm=true):CallR X (.builtin "sorted") (qw X.K):=by
 intro pins s σ H xs us Q I r h;obtain⟨v,d,kvs,ss,rfl,hv,hx,hk,VR,q⟩:=h;obtain⟨u,rfl,ru⟩:=V4 r;cases ru;have hsl:(64:Nat)<=sizeLine:=by decide
 have Yw:gZ v d s.heap:=(I.hok v _ hv).1;obtain⟨hd,o,vs,ep,ho,D⟩:=dY I.hok hx;have hlen:kvs.length=ss.length:=by have:=LK List.length hk;simpa using this
 have O_:=KV.length D.kv;refine Og kind_sorted plain_sorted entry_sorted (args_sorted1 _) ?_;unfold Builtin.«sorted»;refine Ko (m:=checkCount "sorted" 1 1 _) (Ky ?_);refine Ko (PK (A:=X.A.in1) (Qr (knd:=z7 X.prog X.w) (kvs:=vs) (ep:=ep)) (I.ok.hd hc) ⟨Yw,D.at_ _ ho⟩ (by lia) λh' tk acc hkp t_=>?_);have hl:acc.toList.length=vs.length:=by rw[MH];exact t_.1
 have hV:Vals (ss.map V.str) acc.toList:=ah (by rw[Kb];lia) λi x u e1 e2=>by
  obtain⟨k,hy⟩:=t_.2 i u (by rw[←Ms];exact e2);rw[←hk,Kh] at e1;obtain⟨kv,e4,rfl⟩:=KN.mp e1;obtain⟨q1,SJ,q2,q3⟩:=K8 (show Paired _ kvs vs from D.kv) e4;rw[hy] at SJ;cases SJ;exact q3
 have hS:=aC hV;refine Ko (wpAny_newList ?_ (by rw[hl];lia));refine Ko (LG (nY (s:={s with heap:=h'.push {cls:= .type "list",data:= .seq acc.toList.toArray},toks:=tk}) (n:=0) (KD _ rfl) hS (by lia) λout l_ a1 a2 a3=>?_));obtain⟨e,he⟩:=sortedHeap_at (h:=h'.push {cls:= .type "list",data:= .seq acc.toList.toArray}) (a:=h'.objs.size) (vs:=acc.toList) (n:=0) (out:=out) (KD _ rfl);have g_:s.heap.get? h'.objs.size=none:=by
  cases z:s.heap.get? h'.objs.size with
  |none=>rfl
  |some ob=>exact absurd (Kv (hkp _ _ z)) (LN _)
 have Tt:=a2.length_eq;obtain⟨hH,I2⟩:=I.newN (tk:=tk) (h':=sortedHeap (h'.push {cls:= .type "list",data:= .seq acc.toList.toArray}) h'.objs.size acc.toList out) (xs:=l_.map V.str) (λb u eb=>by
  have hb:=Kv (hkp b u eb);rw[sortedHeap_old (b:=b) (KC hb) (by rw[Of];exact QJ hb)];exact Kn _ (hkp b u eb)) g_ he (ay a1) (by rw[Kb];lia)
 exact Ky ⟨_,rfl,.ref h'.objs.size,_,I2,rfl,q l_ a2 _ hH⟩
def xO (K:Qc)(hc:X.calm=true)(h:X.K=K:=by rfl):CallR X (.builtin "sorted") (qw K):=h▸pL hc
end
end L2
set_option maxHeartbeats 1000000
namespace K34
open PySem PySem.Spec PyProof.Rows L2
def V6 (i:Nat):Stmt:=PySem.Challenge.pw_gluework_k34_whole_apart.main.body.getD i (.Pass ⟨0,0,0,0⟩)
abbrev bW:Stmt:=V6 10
local macro_rules|`(tactic|walk_at "g")=>`(tactic|exact⟨rfl,rfl,rfl,by decide+kernel,rfl,by decide+kernel,by decide+kernel⟩)
def sc_is_text_of:j7 ["thing","signs","most"] ["thing","signs","most"] (i9 bW):=by walk_at "g"
abbrev iA:Stmt:=V6 11
def sc_is_name:j7 ["thing"] ["thing"] (i9 iA):=by walk_at "g"
abbrev eT:Stmt:=V6 12
def sc_in_order:j7 ["named"] ["named"] (i9 eT):=by walk_at "g"
abbrev lR:Stmt:=V6 13
def sc_copied:j7 ["web"] ["web"] (i9 lR):=by walk_at "g"
abbrev ku:Stmt:=V6 14
def sc_things:j7 ["web"] ["web"] (i9 ku):=by walk_at "g"
abbrev iB:Stmt:=V6 15
def sc_without:j7 ["web","names","points","ties","name"] ["web","names"] (i9 iB):=by walk_at "g"
abbrev kH:Stmt:=V6 16
def sc_united:j7 ["web","more","points","ties"] ["web","more"] (i9 kH):=by walk_at "g"
abbrev bB:Stmt:=V6 17
def sc_tie_renamed:j7 ["tie","names"] ["tie","names"] (i9 bB):=by walk_at "g"
abbrev iu:Stmt:=V6 18
def sc_renamed:j7 ["web","names","points","ties"] ["web","names"] (i9 iu):=by walk_at "g"
abbrev fF:Stmt:=V6 20
def sc_is_match:j7 ["piece","web","match","names"] ["piece","web","match"] (i9 fF):=by walk_at "g"
abbrev tJ:Stmt:=V6 21
def sc_line:j7 ["piece","match"] ["piece","match"] (i9 tJ):=by walk_at "g"
abbrev bE:Stmt:=V6 22
def sc_first_match:j7 ["piece","web","fixed"] ["piece","web","fixed"] (i9 bE):=by walk_at "g"
abbrev bj:Stmt:=V6 23
def sc_first_found:j7 ["piece","web","piece_looks","web_looks","fixed","told"] ["piece","web","piece_looks","web_looks","fixed"] (i9 bj):=by walk_at "g"
abbrev oX:Stmt:=V6 24
def sc_found:j7 ["piece","web","piece_looks","web_looks","fixed","most","told","choices","places","names"] ["piece","web","piece_looks","web_looks","fixed","most"] (i9 oX):=by walk_at "g"
abbrev kY:Stmt:=V6 25
def sc_may_be:j7 ["name","image","fixed"] ["name","image","fixed"] (i9 kY):=by walk_at "g"
abbrev au:Stmt:=V6 26
def sc_point_choices:j7 ["piece_looks","web_looks","fixed","choices","name","look","alike"] ["piece_looks","web_looks","fixed"] (i9 au):=by walk_at "g"
abbrev bZ:Stmt:=V6 27
def sc_tie_places:j7 ["piece","web","fixed","places","name","tie","there","image","other"] ["piece","web","fixed"] (i9 bZ):=by walk_at "g"
abbrev kK:Stmt:=V6 28
def sc_enough:j7 ["lists"] ["lists"] (i9 kK):=by walk_at "g"
abbrev pU:Stmt:=V6 29
def sc_lines:j7 ["piece","choices","places","most","names","told","waiting","begun","image"] ["piece","choices","places","most"] (i9 pU):=by walk_at "g"
abbrev kG:Stmt:=V6 30
def sc_images:j7 ["piece","choices","places","begun","names","name","put","unlike"] ["piece","choices","places","begun"] (i9 kG):=by walk_at "g"
abbrev bC:Stmt:=V6 31
def sc_tie_choices:j7 ["piece","places","put","name","ends"] ["piece","places","put","name"] (i9 bC):=by walk_at "g"
abbrev fc:Stmt:=V6 32
def sc_has_room:j7 ["piece","places","put","name","image","longer","due"] ["piece","places","put","name","image"] (i9 fc):=by walk_at "g"
abbrev sW:Stmt:=V6 34
def sc_both:j7 ["web","other"] ["web","other"] (i9 sW):=by walk_at "g"
abbrev qe:Stmt:=V6 35
def sc_alone:j7 ["web","other"] ["web","other"] (i9 qe):=by walk_at "g"
abbrev uA:Stmt:=V6 36
def sc_kept:j7 ["rule"] ["rule"] (i9 uA):=by walk_at "g"
abbrev pv:Stmt:=V6 37
def sc_taken:j7 ["rule"] ["rule"] (i9 pv):=by walk_at "g"
abbrev fL:Stmt:=V6 38
def sc_fresh_of:j7 ["rule"] ["rule"] (i9 fL):=by walk_at "g"
abbrev kP:Stmt:=V6 40
def sc_picked:j7 ["put","names"] ["put","names"] (i9 kP):=by walk_at "g"
abbrev lM:Stmt:=V6 41
def sc_barred:j7 ["web","rule","match","number","bar","told"] ["web","rule","match"] (i9 lM):=by walk_at "g"
abbrev dm:Stmt:=V6 42
def sc_taken_out:j7 ["step"] ["step"] (i9 dm):=by walk_at "g"
abbrev bc:Stmt:=V6 43
def sc_names_serve:j7 ["web","rule","fresh","names"] ["web","rule","fresh"] (i9 bc):=by walk_at "g"
abbrev ir:Stmt:=V6 44
def sc_rest_of:j7 ["web","step","rule","rest"] ["web","step"] (i9 ir):=by walk_at "g"
abbrev tq:Stmt:=V6 45
def sc_done:j7 ["web","step","rule","rest"] ["web","step"] (i9 tq):=by walk_at "g"
abbrev kW:Stmt:=V6 46
def sc_behind:j7 ["step","rule","put"] ["step"] (i9 kW):=by walk_at "g"
abbrev ke:Stmt:=V6 48
def sc_common:j7 ["one","other","images"] ["one","other"] (i9 ke):=by walk_at "g"
abbrev pY:Stmt:=V6 49
def sc_clash:j7 ["web","one","other","behind_one","behind_other","names","out","gone"] ["web","one","other"] (i9 pY):=by walk_at "g"
abbrev aJ:Stmt:=V6 51
def sc__law_cell_at:j7 ["_law_script","_law_k"] ["_law_script","_law_k"] (i9 aJ):=by walk_at "g"
abbrev cv:Stmt:=V6 52
def sc__law_mixed:j7 ["_law_cell","_law_k","_law_number"] ["_law_cell","_law_k"] (i9 cv):=by walk_at "g"
abbrev bo:Stmt:=V6 53
def sc__law_stream:j7 ["_law_cell","_law_many","_law_number","_law_found","_law_k"] ["_law_cell","_law_many"] (i9 bo):=by walk_at "g"
abbrev dB:Stmt:=V6 54
def sc__law_name:j7 ["_law_number","_law_k","_law_letters","_law_base","_law_j","_law_at","_law_tag"] ["_law_number","_law_k"] (i9 dB):=by walk_at "g"
abbrev cy:Stmt:=V6 55
def sc__law_words:j7 ["_law_number","_law_many","_law_letters","_law_base","_law_j","_law_at"] ["_law_number","_law_many"] (i9 cy):=by walk_at "g"
abbrev fh:Stmt:=V6 56
def sc__law_web:j7 ["_law_script","_law_number","_law_kinds","_law_points","_law_ties","_law_k","_law_x","_law_names","_law_ends"] ["_law_script","_law_number","_law_kinds"] (i9 fh):=by walk_at "g"
abbrev bu:Stmt:=V6 57
def sc__law_picked:j7 ["_law_web_here","_law_xs","_law_names","_law_points","_law_j","_law_ties","_law_k","_law_name_here","_law_tie"] ["_law_web_here","_law_xs"] (i9 bu):=by walk_at "g"
abbrev fi:Stmt:=V6 58
def sc__law_out:j7 ["_law_web_here","_law_points","_law_ties","_law_xs","_law_out_here","_law_k","_law_name_here","_law_loose"] ["_law_web_here","_law_points","_law_ties","_law_xs"] (i9 fi):=by walk_at "g"
abbrev dJ:Stmt:=V6 59
def sc__law_rule:j7 ["_law_web_here","_law_xs","_law_words_here","_law_kinds","_law_points","_law_ties","_law_out_here","_law_word_of","_law_left","_law_right","_law_k","_law_name_here","_law_kind","_law_begin","_law_end","_law_ends","_law_match","_law_word"] ["_law_web_here","_law_xs","_law_words_here","_law_kinds"] (i9 dJ):=by walk_at "g"
abbrev cN:Stmt:=V6 60
def sc__law_step:j7 ["_law_web_here","_law_xs","_law_words_here","_law_kinds","_law_names","_law_rule_here","_law_match","_law_fresh","_law_word"] ["_law_web_here","_law_xs","_law_words_here","_law_kinds","_law_names"] (i9 cN):=by walk_at "g"
abbrev dG:Stmt:=V6 61
def sc__law_done:j7 ["_law_web_here","_law_step_here","_law_rule_here","_law_match","_law_fresh","_law_out_here","_law_points","_law_name_here","_law_ties","_law_names","_law_word","_law_kind","_law_begin","_law_end"] ["_law_web_here","_law_step_here"] (i9 dG):=by walk_at "g"
abbrev cM:Stmt:=V6 62
def sc__law_copy:j7 ["_law_step_here","_law_rule_here","_law_match","_law_fresh","_law_pieces"] ["_law_step_here"] (i9 cM):=by walk_at "g"
abbrev cU:Stmt:=V6 63
def sc__law_same:j7 ["_law_found","_law_web_here"] ["_law_found","_law_web_here"] (i9 cU):=by walk_at "g"
abbrev fj:Stmt:=V6 64
def sc__law_bar:j7 ["_law_left","_law_xs","_law_words_here","_law_kinds","_law_k","_law_x","_law_bar_here","_law_j","_law_ends","_law_y"] ["_law_left","_law_xs","_law_words_here","_law_kinds","_law_k"] (i9 fj):=by walk_at "g"
abbrev cW:Stmt:=V6 65
def sc__law_more:j7 ["_law_found","_law_word","_law_names","_law_more_here","_law_match","_law_name_here","_law_longer"] ["_law_found","_law_word","_law_names"] (i9 cW):=by walk_at "g"
abbrev fH:Stmt:=V6 66
def sc__law_all:j7 ["_law_bar_here","_law_web_here","_law_match","_law_found","_law_word","_law_kind","_law_begin","_law_end","_law_more_here","_law_one","_law_names"] ["_law_bar_here","_law_web_here","_law_match"] (i9 fH):=by walk_at "g"
abbrev fq:Stmt:=V6 67
def sc__law_met:j7 ["_law_web_here","_law_bar_here","_law_match"] ["_law_web_here","_law_bar_here","_law_match"] (i9 fq):=by walk_at "g"
abbrev df:Stmt:=V6 68
def sc__law_bars:j7 ["_law_left","_law_xs","_law_words_here","_law_kinds"] ["_law_left","_law_xs","_law_words_here","_law_kinds"] (i9 df):=by walk_at "g"
abbrev bU:Stmt:=V6 69
def sc__law_drawn:j7 ["_law_web_here","_law_cell","_law_first","_law_kinds","_law_at","_law_xs","_law_words_here","_law_names","_law_rule_here","_law_match","_law_fresh","_law_bars_here"] ["_law_web_here","_law_cell","_law_first","_law_kinds","_law_at"] (i9 bU):=by walk_at "g"
abbrev eX:Stmt:=V6 70
def sc__law_set:j7 ["_law_script","_law_first","_law_second","_law_kinds"] ["_law_script"] (i9 eX):=by walk_at "g"
abbrev fD:Stmt:=V6 71
def sc__law_two:j7 ["_law_script","_law_web_here","_law_first","_law_kinds","_law_k","_law_cells","_law_x","_law_at","_law_one","_law_other"] ["_law_script","_law_web_here","_law_first","_law_kinds","_law_k"] (i9 fD):=by walk_at "g"
abbrev dh:Stmt:=V6 72
def sc__law_both:j7 ["_law_web_here","_law_one","_law_other","_law_then","_law_found"] ["_law_web_here","_law_one","_law_other"] (i9 dh):=by walk_at "g"
abbrev yj:Stmt:=V6 73
def sc_law:j7 ["_law_script","_law_first","_law_kinds","_law_web_here","_law_k","_law_one","_law_other","_law_found","_law_ways","_law_due"] ["_law_script"] (i9 yj):=by walk_at "g"
abbrev cz:Str:="abcdefghijklmnopqrstuvwxyz"
abbrev gY:Str:="abcdefghijklmnopqrstuvwxyz0123456789."
structure Txt (K:Qc) (mg:Str->Option Value):Prop where
 r_Barred:ExC K mg "Barred" (cA K "Barred")
 r_Loose:ExC K mg "Loose" (cA K "Loose")
 r_NoMatch:ExC K mg "NoMatch" (cA K "NoMatch")
 r_NoNames:ExC K mg "NoNames" (cA K "NoNames")
 t_GlueError:IX K mg "GlueError" (cA K "GlueError")
 s_Barred_GlueError:PySem.W.subIn K (.ref (cA K "Barred")) (.ref (cA K "GlueError"))=some true
 s_Loose_GlueError:PySem.W.subIn K (.ref (cA K "Loose")) (.ref (cA K "GlueError"))=some true
 s_NoMatch_GlueError:PySem.W.subIn K (.ref (cA K "NoMatch")) (.ref (cA K "GlueError"))=some true
 s_NoNames_GlueError:PySem.W.subIn K (.ref (cA K "NoNames")) (.ref (cA K "GlueError"))=some true
 b_all:mg "all"=none
 b_any:mg "any"=none
 b_dict:mg "dict"=none
 b_enumerate:mg "enumerate"=none
 b_int:mg "int"=none
 b_isinstance:mg "isinstance"=none
 b_len:mg "len"=none
 b_list:mg "list"=none
 b_max:mg "max"=none
 b_min:mg "min"=none
 b_range:mg "range"=none
 b_reversed:mg "reversed"=none
 b_set:mg "set"=none
 b_sorted:mg "sorted"=none
 b_str:mg "str"=none
 b_tuple:mg "tuple"=none
 b_zip:mg "zip"=none
 c_MOST_NAME_SIGNS:GP mg "MOST_NAME_SIGNS" (.int 24)
 c_NAME_SIGNS:GP mg "NAME_SIGNS" (.str gY)
 c_SMALL_LETTERS:GP mg "SMALL_LETTERS" (.str cz)
abbrev kSL:Str:="abcdefghijklmnopqrstuvwxyz"
abbrev kNS:Str:="abcdefghijklmnopqrstuvwxyz0123456789."
def rg (x signs:Str):Bool:=x.cps.toList.all λc=>decide (c∈signs.cps.toList)
def U7 (x signs:Str)(most:Int):Bool:=decide (1<=(x.length:Int))&&decide ((x.length:Int)<=most)&&rg x signs
def Im (x signs:Str):Bool:=decide (x.cps.toList.headD 0∈signs.cps.toList)
def X6 (x:Str):Bool:=U7 x kNS 24&&Im x kSL
def K7 (x:Str):Bool:=U7 x kSL 8
def He (K:Qc)(H:Hp)(v:V):Prop:=∃t,TyB K H v t/\t≠"str"
def CH (K:Qc)(f:Str->Bool)(v:V)(H:Hp)(Q:VK):Prop:=
 (∃x,v= .str x/\x.length<=1000/\∀H',Same H H'->Q (.bl (f x)) H')\/(He K H v/\∀H',Same H H'->Q (.bl false) H')
def eJ (K:Qc):Sp:=λvs H Q _=>∃v signs most,vs=[v,.str signs,.int most]/\CH K (λx=>U7 x signs most) v H Q
def mh (K:Qc):Sp:=λvs H Q _=>∃v,vs=[v]/\CH K X6 v H Q
def eD (K:Qc):Sp:=λvs H Q _=>∃c k:Int,vs=[.int c,.int k]/\0<=k/\k<=1000/\∀m:Int,0<=m->Q (.int m) H
def Gr (H:Hp)(Q:VK)(P:List Str->Prop):Prop:=∀(p:Addr) (H':Hp) (ss:List Str),H p=none->Same H H'->H' p=some (.lst (ss.map V.str))->P ss->Q (.ref p) H'
def b7 (W:C9):List Str:=W.pts.map (·.1)++W.ts.map (·.1)
structure WebIs (n:Nat) (K:Qc) (H:Hp) (a p q:Addr) (kvs:List (j6×V)) (W:C9):Prop where
 at_:WebAt K H a p q kvs W
 hp:H p=some (.dK (i7 W.pts))
 hq:H q=some (.dK kvs)
 ne:p≠q
 nd:(b7 W).Nodup
 len:(b7 W).length<=n
 ends:∀x∈W.ts,x.2.2.1∈W.pts.map (·.1)/\x.2.2.2∈W.pts.map (·.1)
 nl:∀x∈b7 W,x.length<=100
def WebIs.same {n:Nat}{K:Qc}{H H':Hp}{a p q:Addr}{kvs:List (j6×V)}{W:C9}(h:WebIs n K H a p q kvs W)(s:Same H H'):WebIs n K H' a p q kvs W:=⟨h.at_.mono s.le,s _ _ h.hp,s _ _ h.hq,h.ne,h.nd,h.len,h.ends,h.nl⟩
set_option hygiene false
def zzW(c:Char):StateT (List (List Char)) Lean.MacroM String:=do match (←get) with
 |l::r=>set ((l.dropWhile (·≠c)).tail::r);return String.ofList (l.takeWhile (·≠c))
 |_=>throw .unsupportedSyntax
def zzO(a:StateT (List (List Char)) Lean.MacroM Lean.Term):StateT (List (List Char)) Lean.MacroM Lean.Term:=do match (←get) with
 |('$'::l)::r=>set r;let b←a;modify (l::·);return b
 |_=>a
def zzT:Nat→StateT (List (List Char)) Lean.MacroM Lean.Term
|0=>throw .unsupportedSyntax
|n+1=>do
 let x:=do match (←get) with
  |(c::l)::r=>set (l::r);return c
  |_=>throw .unsupportedSyntax
 let g:=zzT n
 let d:=zzO do return Lean.quote ((←x).toNat-48)
 let s:=zzO do let a:Array Lean.Term:=(((←zzW ';').splitOn ",").map fun z=>⟨Lean.Syntax.mkStrLit z⟩).toArray;`([$a,*])
 let j:=zzO do let a:Array Lean.Term:=((←zzW ';').toList.map fun z=>Lean.quote (z.toNat-48)).toArray;`([$a,*])
 let f:=fun (k:Char) (m:String)=>do return Lean.Syntax.mkApp (Lean.mkIdent m.toName) (←(Array.range (k.toNat-48)).mapM fun _=>g)
 let q:=fun (m:String) (v:Lean.Term)=>(⟨Lean.mkNode `Lean.Parser.Term.namedArgument #[Lean.mkAtom "(",Lean.mkIdent m.toName,Lean.mkAtom ":=",v,Lean.mkAtom ")"]⟩:Lean.Term)
 match (←x) with
 |'\''=>f (←x) (←zzW ' ')
 |'$'=>do match (←get) with
  |s::r=>set r;let b←g;modify (s::·);return b
  |_=>throw .unsupportedSyntax
 |'!'=>do match (←x) with
  |'a'=>`(λ_ _=>rfl)
  |'b'=>`(by walk_at "l")
  |'c'=>`(by kernel_rfl)
  |'d'=>`(by rfl)
  |'e'=>`(by decide)
  |'f'=>`(_)
  |'g'=>`(λ_ _ _ _=>$(←g))
  |'h'=>`(show List.Nodup ($(←s) :List Str) by decide+kernel)
  |'i'=>return q "i" (←d)
  |'j'=>return q "j" (←d)
  |'n'=>d
  |'o'=>return q "own" (←s)
  |'s'=>return q "js" (←j)
  |_=>return ⟨Lean.Syntax.mkStrLit (←zzW ';')⟩
 |c=>do
  let b:=c='~'
  let c←if b then x else pure c
  for e in (if b then "00Boot.«all»
10T.b_all
2='2xp &O
30K9
40LV
50LO
60T.b_dict
70bM
8='3bK &'0T.b_enumerate $
90Boot.«list»
a0T.b_list
b='2ml &O
c='5u7 !i$9O!b$
d0C8
e0hr
f0Boot.«int»
g0T.b_int
h0dS
i0F7
j='4qa '0jL $$$
k='3vc '0hu $$
l0Boot.«dict»
m=!qdict;
n0R7
o0ME
p0Mi
q0rM
r0Boot.«min»
s0T.b_min
t0Boot.«str»
u=!qstr;
v0Boot.«max»
w='5Jx $$'0T.b_zip $$
x0Boot.«set»
y='4Gj '0hu $$$
z='3rQ $'0T.b_reversed $
A=!qtuple;" else "0='1qV !n$
1='4p0 '2r6 &'0hu '1qV !n$2!a
20d8
3=s$'0j8 
4=b'5u7 !i$9O!b$$
5='4qC $'1hr.mono !e'0k8 $
6=s'1qV !n$'0j8 
7=s'1qV !n$$
8=e'1B8 $
90hN
a4w4
b2A0
c='2W8 '4F4 !i$$O!b$
d='4p0 '2r6 &'0hu '1qV !n$$!a
e1D0
f={'1F8 &$$
g=s$s$'0j8 
h='4F4 !i$$O!b
i=s'1qV !n$s'1qV !n$'0j8 
j='1A1 !f
k=!h$
l={'0A7 $$
m1M8
n='3bD $$'0bR 
o=!d
p=C'3E8 &'0P '0w '0T.b_len '0Boot.«len» $
q='4p0 '2r6 &'0hu $$!a
r='2P5 &$
s2i6
t='5S8 $O$$$
u0KU
v=!g$
w='8N5 !o$!s$!cO$!g$!g$!g$
x='3ji &O$
y0jj
z={'0D4 $$
A='2Q9 $'3mw $$'3B7 '0P '0w '0hu 
B='2N2 &'0hu 
C4qB
D0cf
E4cH
F='2kIn &'0hu 
G=C$'0T.b_sorted '0Boot.«sorted» $
H=U'0j8 
I1sf
J='2L7 &O
K='4ip '2Z7 &O~6~l$
L1cZ
M='7qM $$$$&$$
N='2av &~e
O0rfl
P0vd
Q1vo
R={'0O9 $$
S0fE
T='1bI '2U8 &$
U1U1
V='2iO '0T.b_range $
W0xM
X0Lu
Y0gi
Z2lN
#='4ip $$$s$'0j8 
%0Ln
&0K
(='2dz &~e
)2eI
*=b'<Q8 !i$9O!b!o$!s$!cO$$$$$
+1Z5
,=b'2Q9 $$$
-1ic
.='4Cp '1Cd &$$$
/0AR
:1Bu
;0E1
<0LD
=0LC
>0C0
?1dM
@3DS
[0Boot.«isinstance»
]0T.b_isinstance
^='3kT &'0P '0w 
_='6ET $$$$&$
`='2U8 &$
{3C7
|='4qC $'1hr.mono !e$$").splitOn "\n" do
   if let a::k::m:=e.toList then
    if a=c then
     if k.isDigit then return (←f k (String.ofList m))
     modify (m::·);let b←g;modify List.tail;return b
  throw .unsupportedSyntax
local macro_rules|`(tactic|walk_at $s:str)=>do
 match s.getString.toList with
 |'@'::l=>let (c,l)←(zzW ' ').run [l];let (x,_)←(zzT 999).run l;let c:=Lean.mkIdent (c++".nd").toName;`(tactic|(have hN:=$c;have hu:=A3 hr;refine ⟨_,QSs.r $x,?_⟩))
 |'#'::l=>let c:=Lean.mkIdent (String.ofList l).toName;`(tactic|refine F.ok $c (λvs H Q E h=>?_) (λc_ A outer s H vs Q E hr h=>?_))
 |_=>throw .unsupportedSyntax
set_option hygiene true
local macro_rules| `(tactic|walk_at "b")=> `(tactic|(intro _ _ _ _ _ _ us hl;first|exact bn0 hl rfl|exact JT hl λ_=>rfl|exact JK hl λ_ _=>rfl|exact JJ hl λ_ _ _=>rfl|exact JZ hl λ_ _ _ _=>rfl|exact JW hl λ_ _ _ _ _=>rfl|exact JD hl λ_ _ _ _ _ _=>rfl))
local macro_rules|`(tactic|walk_at "q")=>do let a:Array (Lean.TSyntax `Lean.Parser.Tactic.tacticSeq)←(("r_par Bz Jd BH Gz EL JR Ja HI Hv Ez Ey Hf DA IG Cm wF FL Iz Dl FW GI Dg Jg Hg Hc FI IV De HP DR IC FK Ec Fb IH IL ze DZ Hz r_chain vV Ji An r_lt_str rE r_eq_bl qy xQ r_notIn_sgn r_is zm w_eq_bl mf qX rP Ba w_ne_str rO uR n_ne_str HG BB Dn r_enum r_zip BC Fx ID GV r_un r_neg Hj zu HJ Hw IT IU FO Gd".splitOn " ").toArray).mapM fun n=>`(Lean.Parser.Tactic.tacticSeq|refine $(Lean.mkIdent n.toName) ?_);`(tactic|with_reducible first $[|$a]*)
local macro_rules| `(tactic|walk_at "E")=> `(tactic|first
 |walk_at "q"
 |((with_reducible refine' Gi ?h ?_);(case h=>rfl))
 |with_reducible refine EO _ ?_
 |((with_reducible refine' xy ?c ?_);(case c=>(unfold CMul;lia)))
 |((with_reducible refine' Jy ?c ?_);(case c=>(first|lia|lia|(dsimp only<;>lia)|(unfold CMul;lia)|(unfold Gk;lia)|(unfold Iu;decide)|exact Int.pow_pos (by decide))))
 |with_reducible refine hZ (by assumption) ?_)
local macro_rules| `(tactic|walk_at "X")=> `(tactic|try with_reducible refine hZ (by assumption) ?_)
local macro_rules| `(tactic|walk_at "S")=> `(tactic|with_reducible refine Hm λ_ _=>?_)
local macro_rules| `(tactic|walk_at "R")=> `(tactic|first|walk_at "S"|with_reducible refine r_try ?_|walk_at "E")
local macro_rules| `(tactic|symm)=> `(tactic|repeat walk_at "R")
local macro_rules| `(tactic|rfl')=> `(tactic|repeat walk_at "E")
local macro_rules| `(tactic|walk_at "l")=> `(tactic|first|exact Or.inl rfl|exact Or.inr rfl)
section
variable {P:Program} {w:World} {K:Qc} {mg:Str->Option Value} {base:Heap}
def ck (i:Int):Nat:=("abcdefghijklmnopqrstuvwxyz":Str).cps.toList.getD i.toNat 0
def sO (i:Int)(h0:0<=i)(h1:i<26):nX ("abcdefghijklmnopqrstuvwxyz":Str).cps.toList i=some (ck i):=by
 have hl:("abcdefghijklmnopqrstuvwxyz":Str).cps.toList.length=26:=by decide+kernel
 obtain⟨v,hv,N_⟩:=iF (xs:=("abcdefghijklmnopqrstuvwxyz":Str).cps.toList) h0 (by rw[hl];exact h1);rw[hv];unfold ck;rw[KY,N_];rfl
def qQ:∀i j:Nat,i<26->j<26->ck i=ck j->i=j:=by
 have h:∀i,i<26->∀j,j<26->ck (i:Nat)=ck (j:Nat)->i=j:=by decide+kernel
 exact λi j hi hj=>h i hi j hj
def Bf {x y:Str}{c d:Nat}(h:x++(⟨#[c]⟩:Str)++y=x++(⟨#[d]⟩:Str)++y):c=d:=by
 have h':(x.cps++ #[c]++y.cps)=(x.cps++ #[d]++y.cps):=LK Str.cps h;have h2:=LK Array.toList h';simpa using h2
theorem lZ {f:Nat->Str}:∀{n:Nat},(∀i j,i<n->j<n->f i=f j->i=j)->((List.range n).map f).Nodup
 |0,_=>LF
 |n+1,h=>by
  rw[MC,Ki];refine E3 (lZ λi j hi hj=>h i j (by lia) (by lia)) λm=>?_;obtain⟨i,hi,e⟩:=Kd.mp m;have SF:=Mp.mp hi;have z:=h i n (by lia) (by lia) e;lia
def sg {σ:L2.St}{f:(Nat->Option V)->L2.St}(h:σ=f λk=>σ.getD k none):∃u,σ=f u:=⟨_,h⟩
def u4 {H:Hp}{Q:VK}{p:Addr}{x:V}{xs:List V}(h:SqT K H p (x::xs))(q:Q x H):lG K (.ref p) (.int 0) H Q:=A9 h (k7 (j:=0) rfl) q
def j9 {H:Hp}{Q:VK}{p:Addr}{x y:V}{xs:List V}(h:SqT K H p (x::y::xs))(q:Q y H):lG K (.ref p) (.int 1) H Q:=A9 h (k7 (j:=1) rfl) q
def cw {H:Hp}{Q:VK}{p:Addr}{x y z:V}{xs:List V}(h:SqT K H p (x::y::z::xs))(q:Q z H):lG K (.ref p) (.int 2) H Q:=A9 h (k7 (j:=2) rfl) q
def md (x:Int){n:Int}(h:0<n):x % n=((x % n).toNat:Int):=(Int.toNat_of_nonneg (Ls x (Int.ne_of_gt h))).symm
def iH:("abcdefghijklmnopqrstuvwxyz":Str).length<=sizeLine:=by decide+kernel
def P8 (ss:List Str):(ss.map V.str).all J5=true:=by
 rw[Mt,KZ];intro _ _;rfl
def qP {F:j6×V->Prop}{kvs:List (j6×V)}{k:j6}{v:V}(h:∀kv∈kvs,F kv)(h':F (k,v)):∀kv∈E9 kvs k v,F kv:=by
 intro kv f_;unfold E9 at f_;split at f_
 .obtain⟨x,hx,e⟩:=Kd.mp f_;split at e
  .next e'=>rw[←e,e'];exact h'
  .rw[←e];exact h x hx
 .rcases Kg.mp f_ with z|z
  .exact h kv z
  .rw[Kq.mp z];exact h'
def Fh {kvs:List (j6×V)}{k:j6}{v:V}(h:(kvs.map (·.1)).Nodup):((E9 kvs k v).map (·.1)).Nodup:=by
 cases e:A4 kvs k with
 |none=>exact Bb v h e
 |some x=>
  unfold E9
  rw[if_pos (by rw[R0,e];rfl),Lf]
  have e2:((λkv:j6×V=>kv.1)∘λkv=>if kv.1=k then(kv.1,v) else kv)=λkv=>kv.1:=by
   funext kv;show(if kv.1=k then(kv.1,v) else kv).1=kv.1;split<;>rfl
  rw[e2];exact h
def gF {K:Qc}{H:Hp}{d:Addr}{k1 k2 kv:_}{x:Str×N3}(h:H d=some (.dK k1))(t:TieAt K H kv x):TieAt K (upd H d (.dK k2)) kv x:=by
 obtain⟨e,a,ea,s⟩:=t;refine⟨e,a,ea,?_⟩;rcases s with s|s
 .refine .inl ?_;by_cases z:a=d
  .subst z;rcases s with s|⟨_,s⟩<;>(rw[h] at s;cases s)
  .unfold Rd;rw[b9 z];exact s
 .exact .inr s
def E7 {H H1:Hp}{d:Addr}{o:HO}(s:Same H H1)(h:H d=none):Same H (upd H1 d o):=λb u e=>by
 rw[b9 (d9 e h)];exact s _ _ e
def L8 {ss:List Str}{i:Int}(h0:0<=i)(h1:i<ss.length):∃x,nX (ss.map V.str) i=some (.str x)/\x∈ss:=by
 obtain⟨v,hv,N_⟩:=iF (xs:=ss.map V.str) h0 (by rw[Kb];exact h1);rw[Kh] at N_;obtain⟨x,hx,e⟩:=KN.mp N_;exact⟨x,by rw[hv,e],Kr hx⟩
def B6 {α:Type}(l:List (Str×α)):(l.map (·.1)).map (Sum.inr:Str->j6)=l.map λx=>Sum.inr x.1:=by rw[Lf];rfl
def Z4 {l:List Str}{n:Str}(h:(Sum.inr n:j6)∈l.map (Sum.inr:Str->j6)):n∈l:=by
 obtain⟨x,hx,e⟩:=Kd.mp h;rw[←LW e];exact hx
def N8 {kvs:List (j6×V)}{k:j6}(h:k∉kvs.map (·.1)):A4 kvs k=none:=by
 cases e:A4 kvs k with
 |none=>rfl
 |some v=>exact absurd (vJ e) h
def DL {a:List (Str×Str)}{b:List (Str×N3)}{n:Str}{t:N3}(h:(a.map (·.1)++b.map (·.1)).Nodup)(f:n∉a.map (·.1)++b.map (·.1)):(a.map (·.1)++(b++[(n,t)]).map (·.1)).Nodup:=by
 rw[Ki,←La];exact E3 h f
def AD {a:List (Str×Str)}{b:List (Str×N3)}{n s:Str}(h:(a.map (·.1)++b.map (·.1)).Nodup)(f:n∉a.map (·.1)++b.map (·.1)):((a++[(n,s)]).map (·.1)++b.map (·.1)).Nodup:=by
 have z:=E3 h f;refine(List.Perm.nodup_iff ?_).mpr z;rw[Ki,La,La];exact List.Perm.append_left _ Pm
def Br {a:List (Str×Str)}{b:List (Str×N3)}{n:Str}{t:N3}{l:List Str}(h:∀x∈a.map (·.1)++b.map (·.1),x∈l)(f:n∈l):∀x∈a.map (·.1)++(b++[(n,t)]).map (·.1),x∈l:=by
 intro x hx;rw[Ki,←La] at hx;rcases Kg.mp hx with h'|h'
 .exact h x h'
 .have:x=n:=by simpa using h'
  rw[this];exact f
def uS {a:List (Str×Str)}{b:List (Str×N3)}{n s:Str}{l:List Str}(h:∀x∈a.map (·.1)++b.map (·.1),x∈l)(f:n∈l):∀x∈(a++[(n,s)]).map (·.1)++b.map (·.1),x∈l:=by
 intro x hx;rw[Ki,La] at hx;rcases Kg.mp hx with h'|h'
 .exact h x (Kf _ h')
 .rcases Kg.mp h' with h2|h2
  .have:x=n:=by simpa using h2
   rw[this];exact f
  .exact h x (Kk _ h2)
def B9 {α β : Type} {F : α -> β -> Prop} : ∀ {l : List α} {m : List β} {a : α} {b : β}, Paired F l m -> F a b -> Paired F (l ++ [a]) (m ++ [b])
 := by
  intro l m a b hp h;induction hp with
  | nil => exact .cons h .nil
  | cons r _ ih => exact .cons r ih
def bV : ∀ {kvs : List (j6 × V)} {kv : j6 × V}, (kvs.map (·.1)).Nodup -> kv ∈ kvs -> A4 kvs kv.1 = some kv.2
 := by
  intro kvs kv nd h;induction kvs with
  | nil => cases h
  | cons p r ih =>
    have nd' := LA.mp (show (p.1 :: r.map (·.1)).Nodup from nd)
    rcases Lh.mp h with z | z
    . rw [z]; exact J6 rfl
    . rw [K0 λe => nd'.1 (by rw [e]; exact Kd.mpr ⟨kv, z, rfl⟩)]
      exact ih nd'.2 z
def EB {kvs:List (j6×V)}{ss:List Str}(hk:kvs.map (·.1)=ss.map Sum.inr)(nd:(kvs.map (·.1)).Nodup):kvs=ss.map λs=>(Sum.inr s,(A4 kvs (Sum.inr s:j6)).getD .non):=by
 have h1:kvs=kvs.map λkv=>(kv.1,(A4 kvs kv.1).getD .non):=by
  have:∀kv∈kvs,kv=(kv.1,(A4 kvs kv.1).getD .non):=λkv h=>by rw[bV nd h];rfl
  exact(NO kvs).symm.trans (LB this)
 have h2:(kvs.map λkv=>(kv.1,(A4 kvs kv.1).getD V.non))=(kvs.map (·.1)).map λk=>(k,(A4 kvs k).getD .non):=by rw[Lf];rfl
 rw[hk,Lf] at h2;exact h1.trans h2
theorem mq:∀{r a:List (j6×V)},((a++r).map (·.1)).Nodup->r.foldl (λa x=>E9 a x.1 x.2) a=a++r
 |[],a,_=>by simp
 |p::r,a,nd=>by
  rw[MY];have nd':((a++[p]++r).map (·.1)).Nodup:=by rw[La];exact nd
  have hf:p.1∉a.map (·.1):=λm=>by
   rw[Ki] at nd;exact(Ks.mp nd).2.2 p.1 m p.1 (by simp) rfl
  rw[Q0 p.2 (N8 hf),mq (r:=r) (a:=a++[(p.1,p.2)]) nd',La];rfl
def aK {kvs:List (j6×V)}(nd:(kvs.map (·.1)).Nodup):bQ kvs=kvs:=by
 unfold bQ;rw[mq (by simpa using nd)];rfl
def PrV.mono {K:Qc}{H H':Hp}{x:V}{kv:j6×V}(l:Le H H')(h:PrV K H x kv):PrV K H' x kv:=let ⟨t,e,s⟩:=h;⟨t,e,l.tup s⟩
def aV {α β:Type}{F:α->β->Prop}{l2 m:List α}(h:l2.Perm m):∀{r:List β},Paired F m r->∃r',Paired F l2 r'/\r'.Perm r:=by
 induction h with
 |nil=>intro r p;cases p;exact⟨[],.nil,.nil⟩
 |cons x _ ih=>
  intro r p
  cases p with
  |cons a b=>
   obtain⟨r',h1,h2⟩:=ih b
   exact⟨_::r',.cons a h1,h2.cons _⟩
 |swap x y l=>
  intro r p
  cases p with
  |cons a b=>
   cases b with
   |cons c d=>exact⟨_::_::_,.cons c (.cons a d),.swap _ _ _⟩
 |trans _ _ ih1 ih2=>
  intro r p
  obtain⟨r',h1,h2⟩:=ih2 p
  obtain⟨r'',h3,h4⟩:=ih1 h1
  exact⟨r'',h3,h4.trans h2⟩
theorem cx:∀pts:List (Str×Str),Paired (fun(kv:j6×V) (x:Str×Str)=>kv=(Sum.inr x.1,.str x.2)) (i7 pts) pts
 |[]=> .nil
 |x::r=> .cons rfl (cx r)
theorem eW:∀{kvs:List (j6×V)} {pts:List (Str×Str)},Paired (fun(kv:j6×V) (x:Str×Str)=>kv=(Sum.inr x.1,.str x.2)) kvs pts->kvs=i7 pts
 |_,_,.nil=>rfl
 |_,_,.cons e t=>by rw[e,eW t];rfl
def zo {kvs:List (j6×V)}{pts:List (Str×Str)}(h:kvs.Perm (i7 pts)):∃PN,kvs=i7 PN/\PN.Perm pts:=by
 obtain⟨r,h1,h2⟩:=aV h (cx pts);exact⟨r,eW h1,h2⟩
def k9 (pts:List (Str×Str)):(i7 pts).length=pts.length:=by unfold i7;rw[Kb]
def az {pts:List (Str×Str)}{i:Nat}{kv:j6×V}(h:(i7 pts)[i]?=some kv):∃x,pts[i]?=some x/\kv=(Sum.inr x.1,.str x.2):=by
 unfold i7 at h;rw[Kh] at h;obtain⟨x,hx,e⟩:=KN.mp h;exact⟨x,hx,e.symm⟩
def O4 {D d:Addr}{kvs:List (j6×V)}{o:Obj}{u:HO}{H H1:Hp}(h:H d=some (.dK kvs))(s:Same (C4 d o kvs H) H1)(hD:H1 D=none):Same H (thaw d (upd H1 D u)):=
 Same.thaw h λb v z=>by rw[b9 (d9 (s _ _ z) hD)];exact s _ _ z
def aj {D d:Addr}{kvs:List (j6×V)}{o:Obj}{u:HO}{H H1:Hp}(s:Same (C4 d o kvs H) H1)(hD:H1 D=none):(thaw d (upd H1 D u)) D=some u:=by
 have hDq:D≠d:=λz=>by rw[z,s _ _ d6] at hD;cases hD
 rw[Q6 hDq,d6]
def pj {D d:Addr}{u:HO}{H1:Hp}(hD:H1 D=none):Le H1 (thaw d (upd H1 D u)):=by
 have s:Same H1 (upd H1 D u):=λb v z=>by rw[b9 (d9 z hD)];exact z
 exact s.le.trans oD
def aB {pts:List (Str×Str)}(h:(pts.map (·.1)).Nodup):((i7 pts).map (·.1)).Nodup:=by
 rw[E6,←B6];refine Nc _ ?_ h;exact λa b h z=>h (LW z)
theorem A5 {α:Type}:∀{l:List (Str×α)} {n:Str} {x y:α},(l.map (·.1)).Nodup->(n,x)∈l->(n,y)∈l->x=y
 |p::r,n,x,y,nd,hx,hy=>by
  have nd':=LA.mp (show(p.1::r.map (·.1)).Nodup from nd);rcases Lh.mp hx with zx|zx
  .rcases Lh.mp hy with zy|zy
   .have:=zx.trans zy.symm;exact(Mm this).2
   .exact absurd (Kd.mpr ⟨(n,y),zy,by rw[←zx]⟩) nd'.1
  .rcases Lh.mp hy with zy|zy
   .exact absurd (Kd.mpr ⟨(n,x),zx,by rw[←zy]⟩) nd'.1
   .exact A5 nd'.2 zx zy
def dQ {K:Qc}{H:Hp}{kvs:List (j6×V)}{ts:List (Str×N3)}{n:Str}{t:N3}(w:TiesIs K H kvs ts)(nd:(ts.map (·.1)).Nodup)(h:(n,t)∈ts):∃a,A4 kvs (Sum.inr n:j6)=some (.ref a)/\SqT K H a (ax t):=by
 obtain⟨a,x,h1,h2,h3⟩:=TiesIs.val (ts:=ts) w (Kd.mpr ⟨(n,t),h,rfl⟩);rw[A5 nd h h2];exact⟨a,h1,h3⟩
def L9 {pts:List (Str×Str)}{n k:Str}(nd:(pts.map (·.1)).Nodup)(h:(n,k)∈pts):A4 (i7 pts) (Sum.inr n:j6)=some (.str k):=
 bV (kv:=(Sum.inr n,.str k)) (aB nd) (Kd.mpr ⟨(n,k),h,rfl⟩)
theorem kx {n:Str}:∀{gs:List Str},GG (.str n) (gs.map V.str)=decide (n∈gs)
 |[]=>rfl
 |g::r=>by
  show(ej (.str g) (.str n)||GG (.str n) (r.map V.str))=_;rw[kx (gs:=r),show ej (.str g) (.str n)=decide (g=n) by unfold ej;rw[Lg];simp];rw[Lg];simp;constructor
  .rintro(h|h)
   .exact .inl h.symm
   .exact .inr h
  .rintro(h|h)
   .exact .inl h.symm
   .exact .inr h
def J2 {K:Qc}{H:Hp}{Q:VK}{l:Addr}{gs:List Str}{n:Str}(h:SqL K H l (gs.map V.str))(q:Q (.bl (!decide (n∈gs))) H):jQ K (.str n) (.ref l) H Q:=
 .inr (.inl ⟨l,_,rfl,.inl h,rfl,P8 _,by rw[if_pos rfl,kx];exact q⟩)
def aS {K:Qc}{H:Hp}{Q:VK}{l:Addr}{gs:List Str}{n:Str}(h:SqL K H l (gs.map V.str))(q:Q (.bl (decide (n∈gs))) H):wN K (.str n) (.ref l) H Q:=
 qu (.inl h) rfl (P8 _) (by rw[kx];exact q)
def fU (gs:List Str):j6->Bool
 | .inr n=>decide (n∈gs)
 |_=>false
theorem Z2 {α β:Type}{F:α->β->Prop}{f:α->Bool}{g:β->Bool}(h:∀a b,F a b->f a=g b):∀{l:List α} {m:List β},Paired F l m->Paired F (l.filter f) (m.filter g)
 |_,_,.nil=> .nil
 |a::l,b::m,.cons r t=>by
  have z:=Z2 h t;have e:=h a b r;cases hb:g b with
  |true=>rw[KR (by rw[e,hb]),KR hb];exact .cons r z
  |false=>rw[Ld (by rw[e,hb];simp),Ld (by rw[hb];simp)];exact z
def N4 {α β:Type}{f:α->β}{p:α->Bool}{l:List α}(h:(l.map f).Nodup):((l.filter p).map f).Nodup:=h.sublist ((Ll).map f)
def ni {ka kb:List (j6×V)}(nd:((ka++kb).map (·.1)).Nodup):R8 ka kb=ka++kb:=mq nd
def lH {α β : Type} {F : α -> β -> Prop} : ∀ {l1 l2 : List α} {m1 m2 : List β}, Paired F l1 m1 -> Paired F l2 m2 -> Paired F (l1 ++ l2) (m1 ++ m2)
 := by
  intro l1 l2 m1 m2 hp h;induction hp with
  | nil => exact h
  | cons r _ ih => exact .cons r ih
def uD {K:Qc}{H:Hp}{kvs:List (j6×V)}{ts:List (Str×N3)}(w:TiesIs K H kvs ts)(h:(ts.map (·.1)).Nodup):(kvs.map (·.1)).Nodup:=by
 rw[w.keys,←B6];refine Nc _ ?_ h;exact λa b h z=>h (LW z)
def K2 {K:Qc}{H:Hp}{d:Addr}{k1 k2:List (j6×V)}{kvs:List (j6×V)}{ts:List (Str×N3)}(h:H d=some (.dK k1))(w:TiesIs K H kvs ts):TiesIs K (upd H d (.dK k2)) kvs ts:=Paired.imp' (λ_ _ z=>gF h z) w
def Eh {α:Type}{l m:List (Str×α)}(h1:(l.map (·.1)).Nodup)(h2:(m.map (·.1)).Nodup)(h:∀n∈m.map (·.1),n∉l.map (·.1)):((l++m).map (·.1)).Nodup:=by
 rw[Ki];exact Ks.mpr ⟨h1,h2,λa ha b hb e=>h b hb (e▸ha)⟩
def M4 {pts:List (Str×Str)}{n:Str}:(A4 (i7 pts) (Sum.inr n:j6)).isSome=decide (n∈pts.map (·.1)):=by
 rw[←R0,Lg,LQ,KJ];constructor
 .rintro⟨kv,f_,e⟩;obtain⟨x,hx,rfl⟩:=Kd.mp f_;exact Kd.mpr ⟨x,hx,LW (Ly e)⟩
 .intro m;obtain⟨x,hx,rfl⟩:=Kd.mp m;exact⟨_,Kd.mpr ⟨x,hx,rfl⟩,KA rfl⟩
def Y6 {K:Qc}{H:Hp}{kvs:List (j6×V)}{ts:List (Str×N3)}{n:Str}(w:TiesIs K H kvs ts):(A4 kvs (Sum.inr n:j6)).isSome=decide (n∈ts.map (·.1)):=by
 by_cases hn:n∈ts.map (·.1)
 .obtain⟨a,x,h1,_⟩:=TiesIs.val (ts:=ts) w hn;rw[h1,KA hn];rfl
 .cases e:A4 kvs (Sum.inr n:j6) with
  |none=>simp [hn]
  |some v=>
   have z:=vJ e
   rw[w.keys,←B6] at z
   exact absurd (Z4 z) hn
theorem tW {K:Qc}{H:Hp}{kb:List (j6×V)}:∀{ka:List (j6×V)},(∀kv∈ka,∃y,A4 kb kv.1=some y/\Eq1 K H kv.2 y true)->EqH K H kb ka true
 |[],_=> .nil
 |kv::r,h=>by
  obtain⟨y,h1,h2⟩:=h kv Kz;exact EqH.hit (e:=true) (b:=true) h1 h2 (tW λx hx=>h x (KL _ hx))
def AQ {K:Qc}{H:Hp}(s:Str):Eq1 K H (.str s) (.str s) true:=by
 have z:=Eq1.flat (K:=K) (H:=H) (x:= .str s) (y:= .str s) rfl rfl;rw[fX rfl] at z;exact z
def zj {K:Qc}{H:Hp}{a b:Addr}{t:N3}(h:SqT K H a (ax t))(h':SqT K H b (ax t)):Eq1 K H (.ref a) (.ref b) true:=by
 have z:=Eq1.tup h h' rfl rfl;rw[dP rfl] at z;exact z
def BX {K:Qc}{H:Hp}{p p':Addr}{pts PN:List (Str×Str)}(G_:p≠p')(h1:Rd H p (.dK (i7 pts)))(h2:Rd H p' (.dK (i7 PN)))(pm:pts.Perm PN)(nd:(PN.map (·.1)).Nodup):EqD K H p p' true:=
 .inr ⟨G_,_,_,true,h1,h2,tW λkv f_=>by
  obtain⟨x,hx,rfl⟩:=Kd.mp f_;exact⟨_,L9 nd (pm.mem_iff.mp hx),AQ _⟩,by rw[k9,k9,pm.length_eq];simp⟩
def zH {K:Qc}{H:Hp}{q q':Addr}{kvs d_:List (j6×V)}{ts VX:List (Str×N3)}(G_:q≠q')(h1:Rd H q (.dK kvs))(h2:Rd H q' (.dK d_))(w:TiesIs K H kvs ts)(w':TiesIs K H d_ VX)(pm:ts.Perm VX)(nd:(VX.map (·.1)).Nodup):EqD K H q q' true:=
 .inr ⟨G_,_,_,true,h1,h2,tW λkv f_=>by
  obtain⟨i,hi⟩:=LZ f_;obtain⟨x,hx,ex,b,eb,sb⟩:=w.get hi;obtain⟨c,e1,e2⟩:=dQ w' nd (pm.mem_iff.mp (Kr hx));refine⟨.ref c,by rw[ex];exact e1,?_⟩;rw[eb];exact zj sb e2,by rw[w.length,w'.length,pm.length_eq];simp⟩
def R5 {K:Qc}{H:Hp}{a d:Addr}{k1:List (j6×V)}{u:HO}{xs:List V}(h:H d=some (.dK k1))(s:SqT K H a xs):SqT K (upd H d u) a xs:=by
 rcases s with s|s
 .refine .inl ?_;by_cases z:a=d
  .subst z;rcases s with s|⟨_,s⟩<;>(rw[h] at s;cases s)
  .unfold Rd;rw[b9 z];exact s
 .exact .inr s
def oP : ∀ {kvs : List (j6 × V)} {k : j6} {v : V}, A4 kvs k = some v -> (k, v) ∈ kvs
 := by
  intro kvs k v h;induction kvs with
  | nil => cases h
  | cons p r ih =>
    by_cases e : p.1 = k
    . rw [J6 e] at h
      rw [← e, ← KG h]; exact Kz
    . rw [K0 e] at h
      exact KL _ (ih h)
def qK (a b:N3):V9 (ax a) (ax b)=decide (a=b):=by
 obtain⟨a1,a2,a3⟩:=a;obtain⟨b1,b2,b3⟩:=b;show(a1==b1&&(a2==b2&&(a3==b3&&true)))=_;rw[Lg];simp
def ia (a:N3):(ax a).all J5=true:=rfl
def gz {pts:List (Str×Str)}{n:Str}{v:V}(h:A4 (i7 pts) (Sum.inr n:j6)=some v):∃k,v= .str k/\(n,k)∈pts:=by
 obtain⟨x,hx,e⟩:=Kd.mp (oP h);obtain⟨x1,x2⟩:=x;have e1:=(Mm e).1;have e2:=(Mm e).2;exact⟨x2,e2.symm,by rw[←LW e1];exact hx⟩
def HU {H:Hp}{Q:VK}{pts:List (Str×Str)}{m k:Str}(nd:(pts.map (·.1)).Nodup)(q:Q (.bl (decide ((m,k)∈pts))) H):jx K ((A4 (i7 pts) (Sum.inr m:j6)).getD .non) (.str k) H Q:=by
 cases e:A4 (i7 pts) (Sum.inr m:j6) with
 |none=>
  refine oF (pH ?_)
  rw[KQ (λz=>by rw[L9 nd z] at e;cases e)] at q;exact q
 |some v=>
  obtain⟨k2,rfl,hk⟩:=gz e
  refine mf ?_
  have:decide (k2=k)=decide ((m,k)∈pts):=by
   rw[Lg,KJ,KJ];exact⟨λz=>z▸hk,λz=>A5 nd hk z⟩
  rw[this];exact q
def DY {H:Hp}{Q:VK}{kvs:List (j6×V)}{ts:List (Str×N3)}{m:Str}{y:N3}{l:Addr}(w:TiesIs K H kvs ts)(nd:(ts.map (·.1)).Nodup)(hl:SqT K H l (ax y))(q:Q (.bl (decide ((m,y)∈ts))) H):jx K ((A4 kvs (Sum.inr m:j6)).getD .non) (.ref l) H Q:=by
 by_cases hm:m∈ts.map (·.1)
 .obtain⟨a,x,h1,h2,h3⟩:=TiesIs.val (ts:=ts) w hm;rw[h1];refine oF (se h3 hl (ia _) (ia _) ?_);rw[qK];have:decide (x=y)=decide ((m,y)∈ts):=by
   rw[Lg,KJ,KJ];exact⟨λz=>z▸h2,λz=>A5 nd h2 z⟩
  rw[this];exact q
 .have e:A4 kvs (Sum.inr m:j6)=none:=by
   have z:=Y6 (n:=m) w;rw[KQ hm] at z;cases e:A4 kvs (Sum.inr m:j6) with
   |none=>rfl
   |some v=>rw[e] at z;cases z
  rw[e];refine oF (oQ hl ?_);rw[KQ (λz=>hm (Kd.mpr ⟨_,z,rfl⟩))] at q;exact q
def E5 {W:C9}(h:(b7 W).Nodup):(W.pts.map (·.1)).Nodup:=(Ks.mp h).1
def O8 {W:C9}(h:(b7 W).Nodup):(W.ts.map (·.1)).Nodup:=(Ks.mp h).2.1
def El {t:String}(h:t≠"str"):pO t "str"=false:=by
 unfold pO;have e1:(t=="str")=false:=by simpa using h
 rw[e1];simp
abbrev gk:=λP w K mg base=>U0 P w K mg base F0 1 "is_text_of" ["thing","signs","most"] [] (eJ K)
def mz {f fd}(T:Txt K mg)(F:Fun K "is_text_of" "is_text_of" bW f fd):C5 P w K mg base F0 1 f fd ["thing","signs","most"] (eJ K):=by
 walk_at "#sc_is_text_of"
 .obtain⟨v,signs,most,rfl,_⟩:=h;rfl
 .obtain⟨v,signs,most,rfl,h⟩:=h;walk_at "@sc_is_text_of bnIZTC^][703@~u'0T.b_str ~tZa'0tY p602j-a'0yP p6002j8W8C~2~1~03wsign;1;r00h0ksign,signs;DEF0001o"
  rcases h with⟨x,rfl,hx,k⟩|⟨⟨t,ty,ht⟩,k⟩
  .symm;refine iY (jo (t:="str") rfl (by simp) ?_);symm;rw[if_neg (by decide)];symm;refine F2 (dU (d0 hx) ?_);symm;refine M9 (λh1=>?_) (λh1=>?_)
   .symm;have e:U7 x signs most=false:=by
     unfold U7;rw[KQ (by lia)];rfl
    rw[←e];exact k H (Same.refl H)
   .symm;refine F2 (dU (d0 hx) ?_);symm;refine M9 (λh2=>?_) (λh2=>?_)
    .symm;have e:U7 x signs most=false:=by
      unfold U7;rw[KQ (show ¬((x.length:Int)<=most) by lia)];simp
     rw[←e];exact k H (Same.refl H)
    .symm;refine z8 (n:=x.cps.size) (λi out H'=>H'=H/\out=(x.cps.toList.take i).map λc=>V.bl (decide (c∈signs.cps.toList))) ⟨rfl,rfl⟩ (λi out H' hi _=>by exact hi) ?_ ?_
     .rintro N i v out H1 H2 hi ⟨rfl,rfl⟩ y hN;obtain⟨rfl,c,hc,rfl⟩:=Its.lt y;symm;refine⟨rfl,?_⟩;symm;refine⟨d0 (by rw[Kb,Kt,←fK];lia),hN _ _ ⟨rfl,?_⟩⟩;exact K3 (λc=>V.bl (decide (c∈signs.cps.toList))) hc
     .rintro out H1 ⟨rfl,rfl⟩;refine⟨Ke _,λD hD=>⟨d0 (by rw[Kb,Kt,←fK];lia),?_⟩⟩;symm;refine oi (bs:=x.cps.toList.map λc=>decide (c∈signs.cps.toList)) (SqL.of ?_) ?_
      .show upd H1 D _ D=_;rw[d6,Kl (by simp),Lf];rfl
      .have e:U7 x signs most=(x.cps.toList.map λc=>decide (c∈signs.cps.toList)).all id:=by
        unfold U7 rg;rw[KA (show 1<=(x.length:Int) by lia),KA (show(x.length:Int)<=most by lia),Mt];rfl
       rw[←e];exact k _ λb o q=>by
        show upd H1 D _ b=_;rw[b9 (d9 q hD)];exact q
  .symm;refine iY (jo ty (by simp) ?_);rw[El ht];symm;exact k H (Same.refl H)
def zP {x:Str}(h:1<=(x.length:Int)):nX x.cps.toList 0=some (x.cps.toList.headD 0):=by
 refine k7 (j:=0) ?_;have hl:=fK x;cases e:x.cps.toList with
 |nil=>rw[e] at hl;simp at hl;lia
 |cons c r=>rfl
abbrev nC:=λP w K mg base=>U0 P w K mg base F0 2 "is_name" ["thing"] [] (mh K)
def sV {f fd}(T:Txt K mg)(cu:gk P w K mg base)(F:Fun K "is_name" "is_name" iA f fd):C5 P w K mg base F0 2 f fd ["thing"] (mh K):=by
 walk_at "#sc_is_name"
 .obtain⟨v,rfl,_⟩:=h;rfl
 .obtain⟨v,rfl,h⟩:=h;walk_at "@sc_is_name 8'2Cj 5'0cu 70g'1Ip '0T.c_NAME_SIGNS '1Ip '0T.c_MOST_NAME_SIGNS '1AU EF10'1Ip '0T.c_SMALL_LETTERS o";symm;refine⟨v,_,_,rfl,?_⟩;rcases h with⟨x,rfl,hx,k⟩|⟨no,k⟩
  .refine .inl ⟨x,rfl,hx,λH' sm=>?_⟩;symm;refine aH (λe=>?_) (λe=>?_)
   .symm;have h1:1<=(x.length:Int):=by
     unfold U7 at e;simp only[KO,KJ] at e;exact e.1.1
    refine bN (d0 hx) (zP h1) ?_;symm;have e2:X6 x=Im x kSL:=by
     unfold X6;rw[show U7 x kNS 24=true from e,Nd]
    have q:=k H' sm;rw[e2] at q;exact q
   .have e2:X6 x=false:=by
     unfold X6;rw[show U7 x kNS 24=false from e,Bool.false_and]
    have q:=k H' sm;rw[e2] at q;exact q
  .refine .inr ⟨no,λH' sm=>?_⟩;symm;exact k H' sm--SPLIT
def IQ (a b:Str):Prop:=a.cps.toList<b.cps.toList
theorem gL:∀{ss:List Str},yS ss=true->ss.Pairwise IQ
 |[],_=> .nil
 |[_],_=>List.pairwise_singleton _ _
 |x::y::r,h=>by
  rw[mK,KO] at h;have ih:=gL h.2;have hxy:x.cps.toList<y.cps.toList:=Ly h.1;refine NB.mpr ⟨λz hz=>?_,ih⟩;rcases Lh.mp hz with e|e
  .rw[e];exact hxy
  .exact List.lt_trans hxy ((NB.mp ih).1 z e)
theorem sv:∀{a b:List Str},a.Pairwise IQ->b.Pairwise IQ->a.Perm b->a=b
 |[],b,_,_,p=>(List.Perm.nil_eq p)
 |x::r,[],_,_,p=>(List.Perm.eq_nil p)
 |x::r,y::t,h1,h2,p=>by
  have Qq:=NB.mp h1;have TF:=NB.mp h2;have e:x=y:=Mu λne=>by
   have m1:x∈y::t:=p.mem_iff.mp Kz;have m2:y∈x::r:=p.mem_iff.mpr Kz;rcases Lh.mp m1 with z|z
   .exact ne z
   .rcases Lh.mp m2 with z'|z'
    .exact ne z'.symm
    .have q1:y.cps.toList<x.cps.toList:=TF.1 x z;have q2:x.cps.toList<y.cps.toList:=Qq.1 y z';exact OC q1 q2
  subst e;rw[sv Qq.2 TF.2 (List.Perm.cons_inv p)]
def N6 {a b:List Str}(h1:sortedS a=true)(h2:sortedS b=true)(nd:a.Nodup)(p:a.Perm b):a=b:=
 sv (gL (jO h1 nd)) (gL (jO h2 (p.nodup_iff.mp nd))) p
structure Ordr (W:C9) (s1 s2:List Str):Prop where
 p1:s1.Perm (W.pts.map (·.1))
 p2:s2.Perm (W.ts.map (·.1))
 o1:sortedS s1=true
 o2:sortedS s2=true
def Ordr.mem {W:C9}{s1 s2:List Str}(h:Ordr W s1 s2){n:Str}:n∈s1++s2↔n∈b7 W:=by
 unfold b7;rw[Kg,Kg,h.p1.mem_iff,h.p2.mem_iff]
def Ordr.perm {W:C9}{s1 s2:List Str}(h:Ordr W s1 s2):(s1++s2).Perm (b7 W):=h.p1.append h.p2
def Ordr.len {W:C9}{s1 s2:List Str}(h:Ordr W s1 s2):(s1++s2).length=(b7 W).length:=h.perm.length_eq
def j4 (kvm:List (j6×V))(n:Str):Str:=match A4 kvm (Sum.inr n:j6) with
 |some (.str s)=>s
 |_=>""
def gu {kvm:List (j6×V)}{n s:Str}(h:A4 kvm (Sum.inr n:j6)=some (.str s)):j4 kvm n=s:=by unfold j4;rw[h]
def TxtAt (kvm:List (j6×V))(n:Str):Prop:=∃s,A4 kvm (Sum.inr n:j6)=some (.str s)
def TxtAt.at_ {kvm:List (j6×V)}{n:Str}(h:TxtAt kvm n):A4 kvm (Sum.inr n:j6)=some (.str (j4 kvm n)):=by
 obtain⟨s,hs⟩:=h;rw[gu hs];exact hs
def wK {H:Hp}{Q:VK}{d:Addr}{kvm:List (j6×V)}{n:Str}(hD:Rd H d (.dK kvm))(h:TxtAt kvm n)(q:Q (.str (j4 kvm n)) H):lG K (.ref d) (.str n) H Q:=
 z0 (by have z:=K1 (k:=Sum.inr n) hD;rw[h.at_] at z;exact z) q
def nz (K:Qc):Sp:=λvs H Q _=>∃(a p q:Addr) (kvs:List (j6×V)) (W:C9),vs=[.ref a]/\WebAt K H a p q kvs W/\(b7 W).length<=60/\∀(l:Addr) (H':Hp) (s1 s2:List Str),H l=none->Same H H'->H' l=some (.lst ((s1++s2).map V.str))->Ordr W s1 s2->Q (.ref l) H'
def C3 (W:C9):(b7 W).length=W.pts.length+W.ts.length:=by unfold b7;rw[Kj,Kb,Kb]
abbrev V5:=λP w K mg base=>U0 P w K mg base F0 1 "things" ["web"] [] (nz K)
def wU {f fd}(T:Txt K mg)(F:Fun K "things" "things" ku f fd):C5 P w K mg base F0 1 f fd ["web"] (nz K):=by
 walk_at "#sc_things"
 .obtain⟨a,p,q,kvs,W,rfl,_⟩:=h;rfl
 .obtain⟨a,p,q,kvs,W,rfl,hW,h1,k⟩:=h;rw[C3] at h1;walk_at "@sc_things 8fGJ310GJ310";symm;refine u4 hW.tup ?_;symm;refine A6 (ss:=W.pts.map (·.1)) hW.pts (by rw[E6,B6]) (by rw[Kb];lia) (λs1 a1 a2 l1 n1=>?_);obtain⟨H1,e1,f1,m1,_⟩:=b5 (o:= .lst _) n1;rw[e1];have W1:=hW.mono m1.le;symm;refine j9 W1.tup ?_;symm;refine A6 (ss:=W.ts.map (·.1)) W1.ties (by rw[W1.ts.keys,B6]) (by rw[Kb];lia) (λs2 b1 b2 l2 n2=>?_);obtain⟨H2,e2,f2,m2,_⟩:=b5 (o:= .lst _) n2;rw[e2];have g1:=a1.length_eq;have g2:=b1.length_eq;rw[Kb] at g1 g2;refine mV (m2 _ _ f1) f2 (d0 (by rw[Kb,Kb];lia)) (λl3 n3=>?_);obtain⟨H3,e3,f3,m3,_⟩:=b5 (o:= .lst _) n3;rw[e3];refine k l3 H3 s1 s2 (m1.free (m2.free n3)) (m1.trans (m2.trans m3)) ?_ ⟨a1,b1,a2,b2⟩;rw[f3,Ki]
def ju (K:Qc):Sp:=λvs H Q _=>∃(d:Addr) (kvs:List (j6×V)) (ss:List Str),vs=[.ref d]/\Rd H d (.dK kvs)/\kvs.map (·.1)=ss.map Sum.inr/\ss.Nodup/\ss.length<=60/\∀(l:Addr) (H':Hp) (d_:List (j6×V)),H l=none->Same H H'->H' l=some (.dK d_)->d_.Perm kvs->Q (.ref l) H'
def NewP (K:Qc)(H:Hp)(Q:VK)(W:C9):Prop:=∀(a p q:Addr) (kvs:List (j6×V)) (W':C9) (H':Hp),Same H H'->WebAt K H' a p q kvs W'->H' p=some (.dK (i7 W'.pts))->H' q=some (.dK kvs)->p≠q->H p=none->H q=none->W'.pts.Perm W.pts->W'.ts.Perm W.ts->Q (.ref a) H'
def ny (K:Qc):Sp:=λvs H Q _=>∃(a p q:Addr) (kvs:List (j6×V)) (W:C9),vs=[.ref a]/\WebAt K H a p q kvs W/\(W.pts.map (·.1)).Nodup/\(W.ts.map (·.1)).Nodup/\W.pts.length<=60/\W.ts.length<=60/\NewP K H Q W
abbrev kM:=λP w K mg base=>U0 P w K mg base F0 1 "in_order" ["named"] [] (ju K)
def qR {f fd}(T:Txt K mg)(F:Fun K "in_order" "in_order" eT f fd):C5 P w K mg base F0 1 f fd ["named"] (ju K):=by
 walk_at "#sc_in_order"
 .obtain⟨d,kvs,ss,rfl,_⟩:=h;rfl
 .obtain⟨d,kvs,ss,rfl,hd,hk,SK,hl,k⟩:=h;have nd:(kvs.map (·.1)).Nodup:=by
   rw[hk];refine Nc _ ?_ SK;exact λa b h z=>h (LW z)
  walk_at "@sc_in_order 8K3wname;0;rGJ60h0kname,named;Dm703d100";symm;refine A6 (ss:=ss) hd hk (by lia) (λs1 a1 a2 l1 n1=>?_);obtain⟨H1,e1,f1,m1,_⟩:=b5 (o:= .lst _) n1;rw[e1];have hd1:=m1.rd hd;have Si:=a1.length_eq;refine A8 (SqL.of f1) ?_;refine z8 (n:=s1.length) (λi out H'=>Same H1 H'/\Paired (PrV K H') out ((s1.take i).map λs=>(Sum.inr s,(A4 kvs (Sum.inr s:j6)).getD .non))) ⟨Same.refl _,.nil⟩ (λi out H' hi hp=>⟨_,.str (s1[i]),SqL.of (hp.1 _ _ f1),by rw[Kh,Kc hi];rfl⟩) ?_ ?_
  .rintro N i v out H2 H3 hi ⟨s2,pr⟩ y hN';obtain⟨rfl,hx⟩:=Itl.get y (SqL.of (s2 _ _ f1));rw[Kh] at hx;obtain⟨x,h_,rfl⟩:=KN.mp hx;have Ur:(Sum.inr x:j6)∈kvs.map (·.1):=by
    rw[hk];exact Kd.mpr ⟨x,a1.mem_iff.mp (Kr h_),rfl⟩
   obtain⟨kv,f_,ekv⟩:=Kd.mp Ur;have ev:=bV nd f_;rw[ekv] at ev;have e7:s1.take (i+1)=s1.take i++[x]:=by rw[KI,h_];rfl
   symm;refine⟨rfl,?_⟩;symm;refine z0 (v:=kv.2) (by have z':=K1 (k:=Sum.inr x) (s2.rd hd1);rw[ev] at z';exact z') ?_;symm;refine⟨d0 (by simp),λt nt=>?_⟩;obtain⟨H4,e4,f4,m4,_⟩:=b5 (o:= .tup _) nt;rw[e4];have y_:=KW pr;rw[Kb,Kt] at y_;refine⟨d0 (by lia),hN' _ _ ⟨s2.trans m4,?_⟩⟩;rw[e7,Ki];refine B9 (Paired.imp' (λ_ _ z=>PrV.mono m4.le z) pr) ⟨t,rfl,?_⟩;show SqT K _ t [V.str x,(A4 kvs (Sum.inr x:j6)).getD V.non];rw[ev];exact SqT.of f4
  .rintro out H2 ⟨s2,pr⟩;have y_:=KW pr;rw[Kb,Kt] at y_;refine⟨⟨_,SqL.of (s2 _ _ f1),by rw[Kb];exact Ke _⟩,λD hD=>⟨d0 (by lia),?_⟩⟩;obtain⟨H5,e5,f5,m5,_⟩:=b5 (o:= .lst out) hD;show yg _ (upd _ D _) _;rw[e5];symm;rw[Kl (Ke _)] at pr;refine X9 (SqL.of f5) (Paired.imp' (λ_ _ z=>PrV.mono m5.le z) pr) (d0 (by rw[Kb];lia)) (λl nl=>?_);obtain⟨H6,e6,f6,m6,_⟩:=b5 (o:= .dK _) nl;rw[e6];have mA:=m1.trans (s2.trans (m5.trans m6));have TJ:(s1.map λs=>((Sum.inr s:j6),(A4 kvs (Sum.inr s:j6)).getD V.non)).Perm kvs:=by
    refine List.Perm.trans (a1.map _) ?_;rw[←EB hk nd]
   rw[aK ((TJ.map _).nodup_iff.mpr nd)] at f6;exact k l H6 _ ((m1.trans (s2.trans m5)).free nl) mA f6 TJ
abbrev fR:=λP w K mg base=>U0 P w K mg base F0 2 "copied" ["web"] [] (ny K)
def wM {f fd}(T:Txt K mg)(bY:kM P w K mg base)(F:Fun K "copied" "copied" lR f fd):C5 P w K mg base F0 2 f fd ["web"] (ny K):=by
 walk_at "#sc_copied"
 .obtain⟨a,p,q,kvs,W,rfl,_⟩:=h;rfl
 .obtain⟨a,p,q,kvs,W,rfl,hW,d1,d2,l1,l2,k⟩:=h;walk_at "@sc_copied 8mg5'0bY 3105'0bY 310";symm;refine u4 hW.tup ?_;symm;refine⟨p,i7 W.pts,W.pts.map (·.1),rfl,hW.pts,by rw[E6,B6],d1,by rw[Kb];exact l1,λp' H1 kp np' m1 f1 pm1=>?_⟩;have W1:=hW.mono m1.le;symm;refine j9 W1.tup ?_;symm;refine⟨q,kvs,W.ts.map (·.1),rfl,W1.ties,by rw[W1.ts.keys,B6],d2,by rw[Kb];exact l2,λq' H2 kq nq' m2 f2 pm2=>?_⟩;symm;refine⟨d0 (by simp),λl9 n9=>?_⟩;obtain⟨H9,e9,f9,m9,_⟩:=b5 (o:= .tup _) n9;rw[e9];obtain⟨PN,rfl,pp⟩:=zo pm1;have W2:=hW.mono (m1.trans (m2.trans m9)).le;obtain⟨VX,w',pt⟩:=aV pm2 W2.ts;have g1:=m9 _ _ (m2 _ _ f1);have g2:=m9 _ _ f2;exact k l9 p' q' kq ⟨PN,VX⟩ H9 (m1.trans (m2.trans m9)) ⟨SqT.of f9,.inl g1,.inl g2,w'⟩ g1 g2 (d9 f1 nq') np' (m1.free nq') pp pt
structure lj (W:C9):Prop where
 nm:∀x∈b7 W,X6 x=true
 kd:∀x∈W.pts,K7 x.2=true
 tk:∀x∈W.ts,K7 x.2.1=true
def dW {x s:Str}{m:Int}(h:U7 x s m=true):(x.length:Int)<=m:=by
 unfold U7 at h;simp only[KO,KJ] at h;exact h.1.2
def zO {x:Str}(h:X6 x=true):x.length<=1000:=by
 unfold X6 at h;have:=dW (KO _ _▸h).1;lia
def Ee:pO "dict" "dict"=true:=rfl--SPLIT
structure oR (m:Nat) (W:C9):Prop where
 good:lj W
 kds:∀n∈b7 W,K7 n=true
 l1:W.pts.length<=m
 l2:W.ts.length<=m
def uO (K:Qc):Sp:=λvs H Q _=>∃(a p q a' p' q':Addr) (kvs d_:List (j6×V)) (W O:C9),vs=[.ref a,.ref a']/\WebIs 24 K H a p q kvs W/\WebIs 24 K H a' p' q' d_ O/\∀(l:Addr) (H':Hp) (s1 s2:List Str),H l=none->Same H H'->Ordr W s1 s2->H' l=some (.lst (((s1++s2).filter λn=>decide (n∈b7 O)).map V.str))->Q (.ref l) H'
def sk (K:Qc):Sp:=λvs H Q _=>∃(a p q a' p' q':Addr) (kvs d_:List (j6×V)) (W O:C9),vs=[.ref a,.ref a']/\WebIs 24 K H a p q kvs W/\WebIs 24 K H a' p' q' d_ O/\∀(l:Addr) (H':Hp) (s1 s2:List Str),H l=none->Same H H'->Ordr W s1 s2->H' l=some (.lst (((s1++s2).filter λn=>!decide (n∈b7 O)).map V.str))->Q (.ref l) H'
def Cr (n:Nat):(List.replicate n true).all id=true:=by rw[KZ];intro b hb;exact(List.mem_replicate.mp hb).2--SPLIT
abbrev yt:=λP w K mg base=>U0 P w K mg base F0 2 "both" ["web","other"] [] (uO K)
def Ce {f fd}(T:Txt K mg)(C0:V5 P w K mg base)(F:Fun K "both" "both" sW f fd):C5 P w K mg base F0 2 f fd ["web","other"] (uO K):=by
 walk_at "#sc_both"
 .obtain⟨a,p,q,a',p',q',kvs,d_,W,O,rfl,_⟩:=h;rfl
 .obtain⟨a,p,q,a',p',q',kvs,d_,W,O,rfl,hW,hO,k⟩:=h;have YI:=hW.len;walk_at "@sc_both 8wname;1;r5>60h0kname,other;LIZaF0011o-aF0011o00";symm;refine⟨a,p,q,kvs,W,rfl,hW.at_,by lia,λl1 H1 s1 s2 n1 m1 f1 or=>?_⟩;have hlen:=or.len;refine A8 (SqL.of f1) ?_;refine z8 (n:=(s1++s2).length) (λi out H'=>Same H1 H'/\out=(((s1++s2).take i).filter λn=>decide (n∈b7 O)).map V.str) ⟨Same.refl _,rfl⟩ (λi out H' hi hp=>⟨_,.str ((s1++s2)[i]),SqL.of (hp.1 _ _ f1),by rw[Kh,Kc hi];rfl⟩) ?_ ?_
  .rintro N i v out H3' H3 hi ⟨s3,rfl⟩ y hN';obtain⟨rfl,hx⟩:=Itl.get y (SqL.of (s3 _ _ f1));rw[Kh,Kc hi] at hx;cases hx;have O3:=hO.at_.mono (m1.trans s3).le;have e7:(s1++s2).take (i+1)=(s1++s2).take i++[(s1++s2)[i]]:=by rw[KI,Kc hi];rfl
   have x_:=Km (λn=>decide (n∈b7 O)) ((s1++s2).take i);rw[Kt] at x_;have yes:(decide ((s1++s2)[i]∈b7 O))=true->((((s1++s2).take i).filter λn=>decide (n∈b7 O)).map V.str).length<=sizeLine/\N ((((s1++s2).take i).filter λn=>decide (n∈b7 O)).map V.str++[V.str (s1++s2)[i]]) H3:=λhb=>by
    refine⟨d0 (by rw[Kb];lia),hN' _ _ ⟨s3,?_⟩⟩;rw[e7,KP,KR (p:=λn=>decide (n∈b7 O)) hb,Lp,Ki];rfl
   have no:(decide ((s1++s2)[i]∈b7 O))=false->N ((((s1++s2).take i).filter λn=>decide (n∈b7 O)).map V.str) H3:=λhb=>by
    refine hN' _ _ ⟨s3,?_⟩;rw[e7,KP,Ld (p:=λn=>decide (n∈b7 O)) (by rw[hb];simp),Lp,Lb]
   symm;refine⟨rfl,?_⟩;symm;refine u4 O3.tup ?_;refine aF (K1 (k:=Sum.inr (s1++s2)[i]) O3.pts) ?_;rw[M4];symm;refine M9 (λb1=>?_) (λb1=>?_)
   .symm;refine yes (by rw[KA (show(s1++s2)[i]∈b7 O from Kf _ b1)])
   .symm;refine j9 O3.tup ?_;refine aF (K1 (k:=Sum.inr (s1++s2)[i]) O3.ties) ?_;rw[Y6 O3.ts];symm;refine M9 (λb2=>?_) (λb2=>?_)
    .symm;refine yes (by rw[KA (show(s1++s2)[i]∈b7 O from Kk _ b2)])
    .exact no (by rw[KQ (show(s1++s2)[i]∉b7 O from λz=>(Kg.mp z).elim b1 b2)])
  .rintro out H3 ⟨s3,rfl⟩;have x_:=Km (λn=>decide (n∈b7 O)) ((s1++s2).take (s1++s2).length);rw[Kt] at x_;refine⟨⟨_,SqL.of (s3 _ _ f1),by rw[Kb];exact Ke _⟩,λD hD=>⟨d0 (by rw[Kb];lia),?_⟩⟩;rw[Kl (Ke _)];obtain⟨H4,e4,f4,m4,_⟩:=b5 (H:=H3) (o:= .lst (((s1++s2).filter λn=>decide (n∈b7 O)).map V.str)) hD;refine k D _ s1 s2 ((m1.trans s3).free hD) ?_ or ?_
   .show Same _ (upd _ D _);rw[e4];exact m1.trans (s3.trans m4)
   .show upd _ D _ D=_;rw[d6]
abbrev oB:=λP w K mg base=>U0 P w K mg base F0 2 "alone" ["web","other"] [] (sk K)
def zN {f fd}(T:Txt K mg)(C0:V5 P w K mg base)(F:Fun K "alone" "alone" qe f fd):C5 P w K mg base F0 2 f fd ["web","other"] (sk K):=by
 walk_at "#sc_alone"
 .obtain⟨a,p,q,a',p',q',kvs,d_,W,O,rfl,_⟩:=h;rfl
 .obtain⟨a,p,q,a',p',q',kvs,d_,W,O,rfl,hW,hO,k⟩:=h;have YI:=hW.len;walk_at "@sc_alone 8wname;1;r5>60h0kname,other;LI)aB0011o?aB0011o00";symm;refine⟨a,p,q,kvs,W,rfl,hW.at_,by lia,λl1 H1 s1 s2 n1 m1 f1 or=>?_⟩;have hlen:=or.len;refine A8 (SqL.of f1) ?_;refine z8 (n:=(s1++s2).length) (λi out H'=>Same H1 H'/\out=(((s1++s2).take i).filter λn=>!decide (n∈b7 O)).map V.str) ⟨Same.refl _,rfl⟩ (λi out H' hi hp=>⟨_,.str ((s1++s2)[i]),SqL.of (hp.1 _ _ f1),by rw[Kh,Kc hi];rfl⟩) ?_ ?_
  .rintro N i v out H3' H3 hi ⟨s3,rfl⟩ y hN';obtain⟨rfl,hx⟩:=Itl.get y (SqL.of (s3 _ _ f1));rw[Kh,Kc hi] at hx;cases hx;have O3:=hO.at_.mono (m1.trans s3).le;have e7:(s1++s2).take (i+1)=(s1++s2).take i++[(s1++s2)[i]]:=by rw[KI,Kc hi];rfl
   have x_:=Km (λn=>!decide (n∈b7 O)) ((s1++s2).take i);rw[Kt] at x_;have yes:(!decide ((s1++s2)[i]∈b7 O))=true->((((s1++s2).take i).filter λn=>!decide (n∈b7 O)).map V.str).length<=sizeLine/\N ((((s1++s2).take i).filter λn=>!decide (n∈b7 O)).map V.str++[V.str (s1++s2)[i]]) H3:=λhb=>by
    refine⟨d0 (by rw[Kb];lia),hN' _ _ ⟨s3,?_⟩⟩;rw[e7,KP,KR (p:=λn=>!decide (n∈b7 O)) hb,Lp,Ki];rfl
   have no:(!decide ((s1++s2)[i]∈b7 O))=false->N ((((s1++s2).take i).filter λn=>!decide (n∈b7 O)).map V.str) H3:=λhb=>by
    refine hN' _ _ ⟨s3,?_⟩;rw[e7,KP,Ld (p:=λn=>!decide (n∈b7 O)) (by rw[hb];simp),Lp,Lb]
   symm;refine⟨rfl,?_⟩;symm;refine u4 O3.tup ?_;refine N7 (K1 (k:=Sum.inr (s1++s2)[i]) O3.pts) ?_;rw[M4];symm;refine O6 (λb1=>?_) (λb1=>?_)
   .symm;refine j9 O3.tup ?_;refine N7 (K1 (k:=Sum.inr (s1++s2)[i]) O3.ties) ?_;rw[Y6 O3.ts];symm;refine O6 (λb2=>?_) (λb2=>?_)
    .symm;refine yes (by rw[KQ (show(s1++s2)[i]∉b7 O from λz=>(Kg.mp z).elim b1 b2)];rfl)
    .exact no (by rw[KA (show(s1++s2)[i]∈b7 O from Kk _ b2)];rfl)
   .exact no (by rw[KA (show(s1++s2)[i]∈b7 O from Kf _ b1)];rfl)
  .rintro out H3 ⟨s3,rfl⟩;have x_:=Km (λn=>!decide (n∈b7 O)) ((s1++s2).take (s1++s2).length);rw[Kt] at x_;refine⟨⟨_,SqL.of (s3 _ _ f1),by rw[Kb];exact Ke _⟩,λD hD=>⟨d0 (by rw[Kb];lia),?_⟩⟩;rw[Kl (Ke _)];obtain⟨H4,e4,f4,m4,_⟩:=b5 (H:=H3) (o:= .lst (((s1++s2).filter λn=>!decide (n∈b7 O)).map V.str)) hD;refine k D _ s1 s2 ((m1.trans s3).free hD) ?_ or ?_
   .show Same _ (upd _ D _);rw[e4];exact m1.trans (s3.trans m4)
   .show upd _ D _ D=_;rw[d6]
structure Sd where
 a:Addr
 p:Addr
 q:Addr
 kvs:List (j6×V)
 W:C9
def SdIs (K:Qc)(H:Hp)(s:Sd):Prop:=WebIs 24 K H s.a s.p s.q s.kvs s.W
def SdIs.same {H H':Hp}{s:Sd}(h:SdIs K H s)(m:Same H H'):SdIs K H' s:=WebIs.same h m
structure RuleIs (K:Qc) (H:Hp) (r bl:Addr) (L R:Sd) (bs:List Sd):Prop where
 tup:SqT K H r [.ref L.a,.ref R.a,.ref bl]
 l:SdIs K H L
 r:SdIs K H R
 bl:SqL K H bl (bs.map λs=>V.ref s.a)
 bars:∀b∈bs,SdIs K H b
def RuleIs.same {H H':Hp}{r bl:Addr}{L R:Sd}{bs:List Sd}(h:RuleIs K H r bl L R bs)(m:Same H H'):RuleIs K H' r bl L R bs:=⟨m.tup h.tup,h.l.same m,h.r.same m,m.seq h.bl,λb hb=>(h.bars b hb).same m⟩
structure Gs (n:Str) (L R:C9):Prop where
 p:∀k,(n,k)∈L.pts↔(n,k)∈R.pts
 t:∀t,(n,t)∈L.ts↔(n,t)∈R.ts
structure fg (L R:C9) (bs:List Sd):Prop where
 l:oR 4 L
 r:oR 4 R
 ag:∀n∈b7 L,n∈b7 R->Gs n L R
 len:bs.length<=3
 bars:∀b∈bs,oR 6 b.W/\(∀x∈L.pts,x∈b.W.pts)/\∀x∈L.ts,x∈b.W.ts
def ve (K:Qc):Sp:=λvs H Q _=>∃(r bl:Addr) (L R:Sd) (bs:List Sd),vs=[.ref r]/\RuleIs K H r bl L R bs/\∀(l:Addr) (H':Hp) (s1 s2:List Str),H l=none->Same H H'->Ordr L.W s1 s2->H' l=some (.lst (((s1++s2).filter λn=>decide (n∈b7 R.W)).map V.str))->Q (.ref l) H'
def rp (K:Qc):Sp:=λvs H Q _=>∃(r bl:Addr) (L R:Sd) (bs:List Sd),vs=[.ref r]/\RuleIs K H r bl L R bs/\∀(l:Addr) (H':Hp) (s1 s2:List Str),H l=none->Same H H'->Ordr L.W s1 s2->H' l=some (.lst (((s1++s2).filter λn=>!decide (n∈b7 R.W)).map V.str))->Q (.ref l) H'
def iZ (K:Qc):Sp:=λvs H Q _=>∃(r bl:Addr) (L R:Sd) (bs:List Sd),vs=[.ref r]/\RuleIs K H r bl L R bs/\∀(l:Addr) (H':Hp) (s1 s2:List Str),H l=none->Same H H'->Ordr R.W s1 s2->H' l=some (.lst (((s1++s2).filter λn=>!decide (n∈b7 L.W)).map V.str))->Q (.ref l) H'
abbrev yE:=λP w K mg base=>U0 P w K mg base F0 3 "kept" ["rule"] [] (ve K)
def Bj {f fd}(T:Txt K mg)(tu:yt P w K mg base)(F:Fun K "kept" "kept" uA f fd):C5 P w K mg base F0 3 f fd ["rule"] (ve K):=by
 walk_at "#sc_kept"
 .obtain⟨r,bl,L,R,bs,rfl,_⟩:=h;rfl
 .obtain⟨r,bl,L,R,bs,rfl,hr',k⟩:=h;walk_at "@sc_kept 85'0tu g1010";symm;refine u4 hr'.tup ?_;symm;refine j9 hr'.tup ?_;symm;exact⟨_,_,_,_,_,_,_,_,_,_,rfl,hr'.l,hr'.r,λl H' s1 s2 n m o f=>k l H' s1 s2 n m o f⟩
abbrev vG:=λP w K mg base=>U0 P w K mg base F0 3 "taken" ["rule"] [] (rp K)
def yy {f fd}(T:Txt K mg)(dZ:oB P w K mg base)(F:Fun K "taken" "taken" pv f fd):C5 P w K mg base F0 3 f fd ["rule"] (rp K):=by
 walk_at "#sc_taken"
 .obtain⟨r,bl,L,R,bs,rfl,_⟩:=h;rfl
 .obtain⟨r,bl,L,R,bs,rfl,hr',k⟩:=h;walk_at "@sc_taken 85'0dZ g1010";symm;refine u4 hr'.tup ?_;symm;refine j9 hr'.tup ?_;symm;exact⟨_,_,_,_,_,_,_,_,_,_,rfl,hr'.l,hr'.r,λl H' s1 s2 n m o f=>k l H' s1 s2 n m o f⟩
abbrev ff:=λP w K mg base=>U0 P w K mg base F0 3 "fresh_of" ["rule"] [] (iZ K)
def qN {f fd}(T:Txt K mg)(dZ:oB P w K mg base)(F:Fun K "fresh_of" "fresh_of" fL f fd):C5 P w K mg base F0 3 f fd ["rule"] (iZ K):=by
 walk_at "#sc_fresh_of"
 .obtain⟨r,bl,L,R,bs,rfl,_⟩:=h;rfl
 .obtain⟨r,bl,L,R,bs,rfl,hr',k⟩:=h;walk_at "@sc_fresh_of 85'0dZ g1010";symm;refine j9 hr'.tup ?_;symm;refine u4 hr'.tup ?_;symm;exact⟨_,_,_,_,_,_,_,_,_,_,rfl,hr'.r,hr'.l,λl H' s1 s2 n m o f=>k l H' s1 s2 n m o f⟩
def cI (K:Qc):Sp:=λvs H Q _=>∃(t d:Addr) (x:N3) (kvm:List (j6×V)),vs=[.ref t,.ref d]/\SqT K H t (ax x)/\Rd H d (.dK kvm)/\TxtAt kvm x.2.1/\TxtAt kvm x.2.2/\∀(l:Addr) (H':Hp),H l=none->Same H H'->H' l=some (.tup (ax (x.1,j4 kvm x.2.1,j4 kvm x.2.2)))->Q (.ref l) H'
structure FitP (P W:C9) (kvm:List (j6×V)):Prop where
 len:kvm.length=(b7 P).length
 txt:∀n∈b7 P,TxtAt kvm n
 nd:((b7 P).map (j4 kvm)).Nodup
 pts:∀x∈P.pts,(j4 kvm x.1,x.2)∈W.pts
 ts:∀x∈P.ts,(j4 kvm x.1,(x.2.1,j4 kvm x.2.2.1,j4 kvm x.2.2.2))∈W.ts
def Bt {pts:List (Str×Str)}{n s:Str}(h:n∉pts.map (·.1)):E9 (i7 pts) (Sum.inr n:j6) (.str s)=i7 (pts++[(n,s)]):=by
 rw[Q0 _ (N8 (by rw[E6,←B6];exact λm=>h (Z4 m)))];unfold i7;rw[Ki];rfl
def J3 {ms:List (Str×Str)}{n m:Str}(nd:(ms.map (·.1)).Nodup)(h:(n,m)∈ms):j4 (i7 ms) n=m:=gu (L9 nd h)
abbrev Z3:=λP w K mg base=>U0 P w K mg base F0 1 "tie_renamed" ["tie","names"] [] (cI K)
def lK {f fd}(T:Txt K mg)(F:Fun K "tie_renamed" "tie_renamed" bB f fd):C5 P w K mg base F0 1 f fd ["tie","names"] (cI K):=by
 walk_at "#sc_tie_renamed"
 .obtain⟨t,d,x,kvm,rfl,_⟩:=h;rfl
 .obtain⟨t,d,⟨x1,x2,x3⟩,kvm,rfl,hT,hD,k1,k2,k⟩:=h;walk_at "@sc_tie_renamed 8ms10gd110d110";symm;refine u4 hT ?_;symm;refine j9 hT ?_;refine wK hD k1 ?_;symm;refine cw hT ?_;refine wK hD k2 ?_;symm;refine⟨d0 (by simp),λl9 n9=>?_⟩;obtain⟨H9,e9,f9,m9,_⟩:=b5 (o:= .tup _) n9;rw[e9];exact k l9 H9 n9 m9 f9
def mC (x:Str):List Str->List Str
 |[]=>[x]
 |y::r=>if ltCps y.cps.toList x.cps.toList=true then y::mC x r else x::y::r
def ur:List Str->List Str
 |[]=>[]
 |x::r=>mC x (ur r)
theorem nQ (x:Str):∀l,(mC x l).Perm (x::l)
 |[]=> .refl _
 |y::r=>by
  unfold mC;split
  .exact((nQ x r).cons y).trans (.swap _ _ _)
  .exact .refl _
theorem iJ:∀l,(ur l).Perm l
 |[]=> .refl _
 |x::r=>(nQ x _).trans ((iJ r).cons x)
def sj {a b:Str}(h:ltCps a.cps.toList b.cps.toList=true):ltCps b.cps.toList a.cps.toList=false:=by
 rw[ltCps_eq] at h⊢;exact KQ (OC (Ly h))
theorem qW {x:Str}:∀{l:List Str} {p:Str},risingS p l=true->ltCps x.cps.toList p.cps.toList=false->risingS p (mC x l)=true
 |[],p,_,h=>by unfold mC;unfold risingS;rw[h];rfl
 |y::r,p,h1,h=>by
  have Qq:(!ltCps y.cps.toList p.cps.toList&&risingS y r)=true:=h1;rw[KO] at Qq;unfold mC;split
  .next e=>
   show(!ltCps y.cps.toList p.cps.toList&&risingS y (mC x r))=true;rw[Qq.1,qW Qq.2 (sj e)];rfl
  .next e=>
   show(!ltCps x.cps.toList p.cps.toList&&(!ltCps y.cps.toList x.cps.toList&&risingS y r))=true;rw[h,Qq.2];simpa using e
theorem oU:∀l,sortedS (ur l)=true
 |[]=>rfl
 |x::r=>by
  have ih:=oU r;show sortedS (mC x (ur r))=true;cases e:ur r with
  |nil=>rfl
  |cons y t=>
   rw[e] at ih
   unfold mC
   split
   .next z=>exact qW ih (sj z)
   .next z=>
    show(!ltCps y.cps.toList x.cps.toList&&risingS y t)=true
    rw[show risingS y t=true from ih];simpa using z
def N0 (ts:List (Str×N3))(n:Str):N3:=match ts.find? (λx=>decide (x.1=n)) with
 |some x=>x.2
 |none=>("","","")
theorem iI:∀{ts:List (Str×N3)} {n:Str} {t:N3},(ts.map (·.1)).Nodup->(n,t)∈ts->N0 ts n=t
 |[],_,_,_,h=>nomatch h
 |x::r,n,t,nd,h=>by
  unfold N0;have nd':=LA.mp (show(x.1::r.map (·.1)).Nodup from nd);by_cases e:x.1=n
  .rw[List.find?_cons_of_pos (by simpa using e)];rcases Lh.mp h with z|z
   .rw[←z]
   .exact absurd (Kd.mpr ⟨_,z,rfl⟩) (e▸nd'.1)
  .rw[List.find?_cons_of_neg (by simpa using e)];rcases Lh.mp h with z|z
   .exact absurd (by rw[←z]) e
   .exact iI nd'.2 z
def dy {ts:List (Str×N3)}{n:Str}(h:n∈ts.map (·.1)):(n,N0 ts n)∈ts:=by
 unfold N0;cases e:ts.find? (λx=>decide (x.1=n)) with
 |none=>
  obtain⟨x,hx,z⟩:=Kd.mp h
  exact absurd (List.find?_eq_none.mp e x hx) (by simpa using z)
 |some x=>
  have z:x.1=n:=by simpa using List.find?_some e
  rw[←z];exact List.mem_of_find?_eq_some e
def X1 (fx:List (Str×Str))(n im:Str):Bool:=if n∈fx.map (·.1) then decide (im=j4 (i7 fx) n) else !decide (im∈fx.map (·.2))
def tT (L:Str->Str->Bool)(gp:List Str)(fx:List (Str×Str))(n:Str):List Str:=(gp.filter (L n)).filter (X1 fx n)
def vf (W:C9)(gt:List Str)(fx:List (Str×Str))(n:Str)(t:N3):List Str:=gt.filter λim=>decide (N0 W.ts im=t)&&X1 fx n im
def gv (nm b:List Str)(x:Str):Str:=j4 (i7 (nm.zip b)) x
def wg (W:C9)(gt:List Str)(fx:List (Str×Str))(nm b:List Str)(x:Str×N3):List Str:=vf W gt fx x.1 (x.2.1,gv nm b x.2.2.1,gv nm b x.2.2.2)
def BK (a b:Str):Str:=if a.cps.toList<b.cps.toList then b else a
def dv (ts:List (Str×N3))(n:Str):List (Str×N3):=ts.filter λx=>decide (BK x.2.2.1 x.2.2.2=n)
def yJ (ls:List (List Str)):Bool:=ls.all λd=>decide (ls.count d<=d.length)
def aL (L:Str->Str->Bool)(Pc W:C9)(gp gt:List Str)(fx:List (Str×Str))(nm b:List Str):List Str:=match nm[b.length]? with
 |none=>[]
 |some n=>if n∈Pc.ts.map (·.1) then(wg W gt fx nm b (n,N0 Pc.ts n)).filter (λx=>!decide (x∈b))
  else((tT L gp fx n).filter (λx=>!decide (x∈b))).filter λim=>yJ ((dv Pc.ts n).map (wg W gt fx nm (b++[im])))
def iD (img:List Str->List Str):Nat->List Str->List (List Str)
 |0,b=>[b]
 |k+1,b=>(img b).flatMap λx=>iD img k (b++[x])
def cX:List (List Str)->List Str->List (List Str)
 |[],b=>[b]
 |c::r,b=>c.flatMap λx=>cX r (b++[x])
def Ie (img:List Str->List Str)(j:Nat)(row:List Str):Prop:=∀(i:Nat) (x:Str),j<=i->row[i]?=some x->x∈img (row.take i)
theorem gf:∀{bs:List (List Str)} {b row:List Str},row∈cX bs b->∃t,row=b++t/\t.length=bs.length/\∀(i:Nat) (x:Str) (c:List Str),t[i]?=some x->bs[i]?=some c->x∈c
 |[],b,row,h=>by
  rw[Kq.mp h];exact⟨[],by simp,rfl,λi x c hx _=>by simp at hx⟩
 |c::r,b,row,h=>by
  obtain⟨x,hx,h'⟩:=Nj.mp h;obtain⟨t,e,hl,hm⟩:=gf h';refine⟨x::t,by rw[e];simp,by simp [hl],λi y d hy hd=>?_⟩;cases i with
  |zero=>cases hy;cases hd;exact hx
  |succ i=>exact hm i y d hy hd
theorem vB:∀{bs:List (List Str)} {b t:List Str},t.length=bs.length->(∀(i:Nat) (x:Str) (c:List Str),t[i]?=some x->bs[i]?=some c->x∈c)->b++t∈cX bs b
 |[],b,[],_,_=>by simp [cX]
 |c::r,b,x::t,hl,hm=>by
  refine Nj.mpr ⟨x,hm 0 x c rfl rfl,?_⟩;have z:=vB (bs:=r) (b:=b++[x]) (t:=t) (by simpa using hl) λi y d hy hd=>hm (i+1) y d hy hd;simpa using z
theorem dC {α β:Type}(p:α->Bool)(F:α->List β):∀l:List α,(l.filter p).flatMap F=l.flatMap λx=>if p x=true then F x else []
 |[]=>rfl
 |a::l=>by
  cases e:p a with
  |true=>rw[KR e,MD,MD,if_pos e,dC p F l]
  |false=>rw[Ld (by rw[e];decide),MD,if_neg (by rw[e];decide),dC p F l];rfl
theorem fb {α β:Type}{F G:α->List β}:∀{l:List α},(∀x∈l,F x=G x)->l.flatMap F=l.flatMap G
 |[],_=>rfl
 |a::l,h=>by rw[MD,MD,h a Kz,fb λx hx=>h x (KL _ hx)]
theorem Z1 {α:Type}{p q:α->Bool}:∀{l:List α},(∀x∈l,p x=q x)->l.filter p=l.filter q
 |[],_=>rfl
 |a::l,h=>by
  have z:=Z1 (l:=l) λx hx=>h x (KL _ hx);rw[Mj,Mj,h a Kz,z]
open Classical in
theorem yz {img:List Str->List Str}:∀{bs:List (List Str)} {b:List Str},(∀(j:Nat) (c:List Str),bs[j]?=some c->∀b':List Str,b'.length=b.length+j->img b'=c.filter λx=>decide (x∈img b'))->
  iD img bs.length b=(cX bs b).filter λrow=>decide (Ie img b.length row)
 |[],b,_=>by
  show [b]=[b].filter _;rw[KR (by
   refine KA λi x hi hx=>?_;rw[LH hi] at hx;cases hx)];rfl
 |c::r,b,h=>by
  show(img b).flatMap (λx=>iD img r.length (b++[x]))=(c.flatMap λx=>cX r (b++[x])).filter _;have h0:=h 0 c rfl b (by lia);have hF:∀x,iD img r.length (b++[x])=(cX r (b++[x])).filter λrow=>decide (Ie img (b++[x]).length row):=λx=>
   yz λj d hd b' hb=>h (j+1) d hd b' (by rw[hb,Kj,Ku];lia)
  rw[List.filter_flatMap,h0,dC];refine fb λx hx=>?_;rw[hF x];by_cases m_:x∈img b
  .rw[if_pos (KA m_)];refine Z1 λrow QF=>?_;obtain⟨t,e,_⟩:=gf QF;rw[Lg,KJ,KJ];constructor
   .intro ok i y hi hy;by_cases z:i=b.length
    .have e1:row[i]?=some x:=by rw[e,z];simp
     rw[e1] at hy;cases hy;have e2:row.take i=b:=by rw[e,z];simp
     rw[e2];exact m_
    .exact ok i y (by rw[Kj,Ku];lia) hy
   .intro ok i y hi hy;exact ok i y (by rw[Kj,Ku] at hi;lia) hy
  .rw[if_neg (by rw[KQ m_];decide)];refine(OX.mpr λrow QF=>?_).symm;obtain⟨t,e,_⟩:=gf QF;intro ok;have z:=Ly ok b.length x (Ke _) (by rw[e];simp);rw[show row.take b.length=b by rw[e];simp] at z;exact m_ z
def qG {c:List Str}{p:Str->Bool}:c.filter p=c.filter λx=>decide (x∈c.filter p):=Z1 λx hx=>by
 rw[Lg,KJ,Kp];exact⟨λh=>⟨hx,h⟩,λh=>h.2⟩
theorem uX:∀(nm b:List Str),((nm.zip b).map (·.1)).Sublist nm
 |[],_=> .slnil
 |_::_,[]=>List.nil_sublist _
 |n::nm,x::b=>(uX nm b).cons_cons n
def lq {nm:List Str}(b:List Str)(nd:nm.Nodup):((nm.zip b).map (·.1)).Nodup:=nd.sublist (uX nm b)
def jS {nm b:List Str}{i:Nat}{n x:Str}(h1:nm[i]?=some n)(h2:b[i]?=some x):(n,x)∈nm.zip b:=by
 have z:(nm.zip b)[i]?=some (n,x):=by rw[Ol];exact⟨h1,h2⟩
 exact Kr z
def nN {nm b:List Str}{i:Nat}{n x:Str}(nd:nm.Nodup)(h1:nm[i]?=some n)(h2:b[i]?=some x):gv nm b n=x:=J3 (lq b nd) (jS h1 h2)
def ui {nm row:List Str}(nd:nm.Nodup)(hl:row.length=nm.length):nm.map (gv nm row)=row:=by
 refine List.ext_getElem? λi=>?_;rw[Kh];by_cases hi:i<nm.length
 .rw[Kc hi,Kc (show i<row.length by lia)];exact LK some (nN nd (Kc hi) (Kc (by lia)))
 .rw[LH (by lia),LH (by lia)];rfl
theorem aE:∀{l m:List Str},l.Nodup->(∀x∈l,x∈m)->l.length<=m.length
 |[],m,_,_=>LJ _
 |x::r,m,nd,h=>by
  have nd':=LA.mp nd;have hx:=h x Kz;have z:=aE (l:=r) (m:=m.erase x) nd'.2 λy hy=>(List.mem_erase_of_ne (λe:y=x=>nd'.1 (by rw[←e];exact hy))).mpr (h y (KL _ hy));rw[List.length_erase_of_mem hx] at z;have:0<m.length:=List.length_pos_of_mem hx;rw[Lq];lia
theorem nZ {α:Type}(f:α->List Str)(d:List Str):∀ts:List α,(ts.map f).count d=(ts.filter λt=>decide (f t=d)).length
 |[]=>rfl
 |t::r=>by
  rw[Lk,List.count_cons,nZ f d r,Mj];by_cases e:f t=d
  .rw[if_pos (by simpa using e),if_pos (by simpa using e)];rfl
  .rw[if_neg (by simpa using e),if_neg (by simpa using e)];rfl
def CK {α:Type}{ts:List α}{f:α->List Str}{r:α->Str}(hm:∀t∈ts,r t∈f t)(nd:(ts.map r).Nodup):yJ (ts.map f)=true:=by
 unfold yJ;rw[KZ];intro d hd;rw[KJ,nZ];have z:((ts.filter λt=>decide (f t=d)).map r).length<=d.length:=by
  refine aE (nd.sublist (Ll.map r)) λx hx=>?_;obtain⟨t,ht,rfl⟩:=Kd.mp hx;rw[Kp] at ht;rw[←Ly ht.2];exact hm t ht.1
 rw[Kb] at z;exact z
def la (fx:List (Str×Str))(nm row:List Str):Prop:=∀x∈fx,gv nm row x.1=x.2
structure SrchP (L:Str->Str->Bool) (Pc W:C9) (s1 s2 gp gt:List Str) (fx:List (Str×Str)):Prop where
 o:Ordr Pc s1 s2
 o':Ordr W gp gt
 nd:(b7 Pc).Nodup
 nd':(b7 W).Nodup
 ends:∀x∈Pc.ts,x.2.2.1∈Pc.pts.map (·.1)/\x.2.2.2∈Pc.pts.map (·.1)
 fnd:(fx.map (·.1)).Nodup
 fin:∀x∈fx,x.1∈b7 Pc
 ls:∀n x,n∈Pc.pts.map (·.1)->x∈W.pts.map (·.1)->L n x=true->j4 (i7 W.pts) x=j4 (i7 Pc.pts) n
 lc:∀row,FitP Pc W (i7 ((s1++s2).zip row))->∀x∈Pc.pts,L x.1 (gv (s1++s2) row x.1)=true
section
variable {L:Str->Str->Bool} {Pc W:C9} {s1 s2 gp gt:List Str} {fx:List (Str×Str)}
def jH (s1 s2 gp gt:List Str):List (List Str):=List.replicate s1.length gp++List.replicate s2.length gt
def gX:(jH s1 s2 gp gt).length=(s1++s2).length:=by unfold jH;simp
def SrchP.nn (S:SrchP L Pc W s1 s2 gp gt fx):(s1++s2).Nodup:=S.o.perm.nodup_iff.mpr S.nd
def SrchP.is1 (S:SrchP L Pc W s1 s2 gp gt fx){i:Nat}{n:Str}(h:(s1++s2)[i]?=some n):(n∉Pc.ts.map (·.1)/\i<s1.length)\/(n∈Pc.ts.map (·.1)/\s1.length<=i):=by
 by_cases hi:i<s1.length
 .refine .inl ⟨λz=>?_,hi⟩;rw[Lm hi] at h;have m1:n∈s1:=Kr h;exact(Ks.mp S.nn).2.2 n m1 n (S.o.p2.mem_iff.mpr z) rfl
 .rw[Lx (by lia)] at h;exact .inr ⟨S.o.p2.mem_iff.mp (Kr h),by lia⟩
def BG {L c:List Str}{p:Str->Bool}(e:L=c.filter p):L=c.filter λx=>decide (x∈L):=by subst e;exact qG
def yq (S:SrchP L Pc W s1 s2 gp gt fx){j:Nat}{c b:List Str}(h:(jH s1 s2 gp gt)[j]?=some c)(hb:b.length=j):aL L Pc W gp gt fx (s1++s2) b=c.filter λx=>decide (x∈aL L Pc W gp gt fx (s1++s2) b):=by
 have hj:j<(s1++s2).length:=by
  rw[←gX (gp:=gp) (gt:=gt)];rcases MF j (jH s1 s2 gp gt).length with z|z
  .exact z
  .rw[LH z] at h;cases h
 have hn:(s1++s2)[b.length]?=some ((s1++s2)[j]):=by rw[hb];exact Kc hj
 have hc:c=if j<s1.length then gp else gt:=by
  unfold jH at h;by_cases z:j<s1.length
  .rw[Lm (by simpa using z),Mn,if_pos z] at h;rw[if_pos z];exact(KG h).symm
  .rw[Lx (by simpa using z),Mr,Mn,if_pos (by rw[Kj] at hj;lia)] at h;rw[if_neg z];exact(KG h).symm
 obtain⟨p,e⟩:∃p,aL L Pc W gp gt fx (s1++s2) b=c.filter p:=by
  unfold aL;rw[hn];dsimp only;rcases S.is1 (i:=j) (Kc hj) with⟨h1,h2⟩|⟨h1,h2⟩
  .rw[if_neg h1,hc,if_pos h2];unfold tT;rw[MR,MR,MR];exact⟨_,rfl⟩
  .rw[if_pos h1,hc,if_neg (by lia)];unfold wg vf;rw[MR];exact⟨_,rfl⟩
 exact BG e
def fu {n:Str}{l:List Str}(h:n∈l):∃i:Nat,l[i]?=some n:=LZ h
def SrchP.pt_idx (S:SrchP L Pc W s1 s2 gp gt fx){n:Str}(h:n∈Pc.pts.map (·.1)):∃i:Nat,i<s1.length/\(s1++s2)[i]?=some n:=by
 obtain⟨i,hi⟩:=fu (S.o.p1.mem_iff.mpr h);have hl:i<s1.length:=by
  rcases MF i s1.length with z|z
  .exact z
  .rw[LH z] at hi;cases hi
 exact⟨i,hl,by rw[Lm hl];exact hi⟩
def jM {nm row:List Str}{i j:Nat}{n:Str}(nd:nm.Nodup)(hl:row.length=nm.length)(h:nm[i]?=some n)(YJ:i<j):gv nm (row.take j) n=gv nm row n:=by
 have hi:i<nm.length:=by
  rcases MF i nm.length with z|z
  .exact z
  .rw[LH z] at h;cases h
 have h2:row[i]?=some row[i]:=Kc (by lia);rw[nN nd h h2,nN nd h (b:=row.take j) (x:=row[i]) (by rw[NC,if_pos YJ];exact h2)]
def Fz {n x:Str}{nm row:List Str}(fnd:(fx.map (·.1)).Nodup)(d:la fx nm row)(inj:∀y∈fx,gv nm row y.1=gv nm row n->y.1=n)(e:gv nm row n=x):X1 fx n x=true:=by
 unfold X1;split
 .next h=>
  obtain⟨y,hy,rfl⟩:=Kd.mp h;rw[J3 fnd (show(y.1,y.2)∈fx from hy),←e];exact KA (d y hy)
 .next h=>
  have z:x∉fx.map (·.2):=λz=>by
   obtain⟨y,hy,ey⟩:=Kd.mp z;have z1:=d y hy;rw[ey,←e] at z1;exact h (by rw[←inj y hy z1];exact Kd.mpr ⟨y,hy,rfl⟩)
  simpa using z
def FT {pts:List (Str×Str)}{g:List Str}{x kd:Str}(nd:(pts.map (·.1)).Nodup)(p:g.Perm (pts.map (·.1)))(h:x∈g)(hk:j4 (i7 pts) x=kd):(x,kd)∈pts:=by
 obtain⟨y,hy,rfl⟩:=Kd.mp (p.mem_iff.mp h);rw[J3 nd (show(y.1,y.2)∈pts from hy)] at hk;rw[←hk];exact hy
def zz {Q:C9}{kvm:List (j6×V)}{x y:Str}(nd:((b7 Q).map (j4 kvm)).Nodup)(hx:x∈b7 Q)(hy:y∈b7 Q)(e:j4 kvm x=j4 kvm y):x=y:=by
 obtain⟨i,hi⟩:=fu hx;obtain⟨j,hj⟩:=fu hy;have e1:((b7 Q).map (j4 kvm))[i]?=some (j4 kvm x):=by rw[Kh,hi];rfl
 have e2:((b7 Q).map (j4 kvm))[j]?=some (j4 kvm x):=by rw[Kh,hj,e];rfl
 have li:i<((b7 Q).map (j4 kvm)).length:=by
  rcases MF i ((b7 Q).map (j4 kvm)).length with z|z
  .exact z
  .rw[LH z] at e1;cases e1
 have z:=(QX li nd).mp (e1.trans e2.symm);rw[z,hj] at hi;exact(KG hi).symm
def jV (S:SrchP L Pc W s1 s2 gp gt fx){i:Nat}{e:Str}(hi:i<s1.length)(he:e∈Pc.pts.map (·.1))(hle:¬(s1[i].cps.toList<e.cps.toList)):∃j:Nat,j<=i/\(s1++s2)[j]?=some e:=by
 obtain⟨j,hj,YK⟩:=S.pt_idx he;refine⟨j,?_,YK⟩;rcases MF i j with z|z
 .exfalso;have nd1:s1.Nodup:=(Ks.mp S.nn).1;have pw:=gL (jO S.o.o1 nd1);have w:=Nh.mp pw i j hi hj z;rw[Lm hj,Kc hj] at YK;rw[KG YK] at w;exact hle w
 .exact z
end
section
variable {L:Str->Str->Bool} {Pc W:C9} {s1 s2 gp gt:List Str} {fx:List (Str×Str)}
def Ew {j:Nat}{c:List Str}(h:(jH s1 s2 gp gt)[j]?=some c):(j<s1.length/\c=gp)\/(s1.length<=j/\c=gt):=by
 unfold jH at h;by_cases z:j<s1.length
 .rw[Lm (by simpa using z),Mn,if_pos z] at h;exact .inl ⟨z,(KG h).symm⟩
 .rw[Lx (by simpa using z),Mr,Mn] at h;split at h
  .exact .inr ⟨by lia,(KG h).symm⟩
  .cases h
def bJ {α:Type}{l:List α}{i:Nat}{x:α}(h:l[i]?=some x):i<l.length:=by
 rcases MF i l.length with z|z
 .exact z
 .rw[LH z] at h;cases h
def mem_ch {n x:Str}:x∈tT L gp fx n↔x∈gp/\L n x=true/\X1 fx n x=true:=by
 unfold tT;rw[Kp,Kp,and_assoc]
def mem_pl {n x:Str}{t:N3}:x∈vf W gt fx n t↔x∈gt/\N0 W.ts x=t/\X1 fx n x=true:=by
 unfold vf;rw[Kp,KO,KJ]
def Dw (S:SrchP L Pc W s1 s2 gp gt fx){row:List Str}(hl:row.length=(s1++s2).length)(ok:Ie (aL L Pc W gp gt fx (s1++s2)) 0 row):FitP Pc W (i7 ((s1++s2).zip row))/\la fx (s1++s2) row:=by
 have nn:=S.nn;have key:∀(i:Nat) (n x:Str),(s1++s2)[i]?=some n->row[i]?=some x->x∉row.take i/\X1 fx n x=true/\(n∉Pc.ts.map (·.1)->(x,j4 (i7 Pc.pts) n)∈W.pts)/\(n∈Pc.ts.map (·.1)->(x,((N0 Pc.ts n).1,gv (s1++s2) row (N0 Pc.ts n).2.1,gv (s1++s2) row (N0 Pc.ts n).2.2))∈W.ts):=by
  intro i n x hn hx;have Xj:=bJ hn;have h0:=ok i x (LJ _) hx;have n_:(row.take i).length=i:=by rw[Kt];lia
  unfold aL at h0;rw[n_,hn] at h0;dsimp only at h0;rcases S.is1 hn with⟨h1,h2⟩|⟨h1,h2⟩
  .rw[if_neg h1,Kp,Kp,mem_ch] at h0;refine⟨by simpa using h0.1.2,h0.1.1.2.2,λ_=>FT (E5 S.nd') S.o'.p1 h0.1.1.1 (S.ls n x ((Kg.mp (S.o.mem.mp (Kr hn))).resolve_right h1) (S.o'.p1.mem_iff.mp h0.1.1.1) h0.1.1.2.1),λz=>absurd z h1⟩
  .rw[if_pos h1,Kp] at h0;have hm:=mem_pl.mp (show x∈vf W gt fx n _ from h0.1);refine⟨by simpa using h0.2,hm.2.2,λz=>absurd h1 z,λ_=>?_⟩;have m_:=dy h1;have he:=S.ends _ m_;obtain⟨j1,hj1,SI⟩:=S.pt_idx he.1;obtain⟨j2,hj2,Tf⟩:=S.pt_idx he.2;have e1:=jM (j:=i) nn hl SI (by lia);have e2:=jM (j:=i) nn hl Tf (by lia);have z:=dy (S.o'.p2.mem_iff.mp hm.1);rw[hm.2.1] at z;dsimp only at z e1 e2;rw[e1,e2] at z;exact z
 have YL:row.Nodup:=by
  refine Nh.mpr λi j hi hj YJ e=>?_;have z:=(key j ((s1++s2)[j]'(by lia)) row[j] (Kc (by lia)) (Kc hj)).1;refine z (Kr (i:=i) ?_);rw[NC,if_pos YJ,Kc hi,e]
 have Xk:∀n∈s1++s2,∃(i:Nat) (x:Str),(s1++s2)[i]?=some n/\row[i]?=some x/\gv (s1++s2) row n=x:=λn hn=>by
  obtain⟨i,hi⟩:=fu hn;have Xj:=bJ hi;exact⟨i,row[i],hi,Kc (by lia),nN nn hi (Kc (by lia))⟩
 refine⟨⟨?_,λn hn=>?_,?_,λx hx=>?_,λx hx=>?_⟩,λx hx=>?_⟩
 .rw[k9,Na,←S.o.len];lia
 .obtain⟨i,x,h1,h2,_⟩:=Xk n (S.o.mem.mpr hn);exact⟨x,L9 (lq row nn) (jS h1 h2)⟩
 .have e:=ui nn hl;exact((S.o.perm.map (gv (s1++s2) row)).nodup_iff).mp (by rw[e];exact YL)
 .have hm:x.1∈b7 Pc:=Kf _ (Kd.mpr ⟨x,hx,rfl⟩);obtain⟨i,y,h1,h2,h3⟩:=Xk x.1 (S.o.mem.mpr hm);have g_:x.1∉Pc.ts.map (·.1):=λz=>(Ks.mp S.nd).2.2 x.1 (Kd.mpr ⟨x,hx,rfl⟩) x.1 z rfl;have z:=(key i x.1 y h1 h2).2.2.1 g_;rw[J3 (E5 S.nd) (show(x.1,x.2)∈Pc.pts from hx)] at z;rw[show j4 (i7 ((s1++s2).zip row)) x.1=y from h3];exact z
 .have hm:x.1∈Pc.ts.map (·.1):=Kd.mpr ⟨x,hx,rfl⟩;obtain⟨i,y,h1,h2,h3⟩:=Xk x.1 (S.o.mem.mpr (Kk _ hm));have z:=(key i x.1 y h1 h2).2.2.2 hm;rw[iI (O8 S.nd) (show(x.1,x.2)∈Pc.ts from hx)] at z;rw[show j4 (i7 ((s1++s2).zip row)) x.1=y from h3];exact z
 .obtain⟨i,y,h1,h2,h3⟩:=Xk x.1 (S.o.mem.mpr (S.fin x hx));have z:=(key i x.1 y h1 h2).2.1;unfold X1 at z;rw[if_pos (Kd.mpr ⟨x,hx,rfl⟩),J3 S.fnd (show(x.1,x.2)∈fx from hx)] at z;rw[h3];exact Ly z
def vk (S:SrchP L Pc W s1 s2 gp gt fx){row:List Str}(f:FitP Pc W (i7 ((s1++s2).zip row)))(d:la fx (s1++s2) row){n:Str}(hn:n∈b7 Pc):X1 fx n (gv (s1++s2) row n)=true:=
 Fz S.fnd d (λy hy e=>zz f.nd (S.fin y hy) hn e) rfl
def yK (S:SrchP L Pc W s1 s2 gp gt fx){row:List Str}(f:FitP Pc W (i7 ((s1++s2).zip row)))(d:la fx (s1++s2) row){x:Str×Str}(hx:x∈Pc.pts):gv (s1++s2) row x.1∈tT L gp fx x.1:=by
 have z:=f.pts x hx;exact mem_ch.mpr ⟨S.o'.p1.mem_iff.mpr (Kd.mpr ⟨_,z,rfl⟩),S.lc row f x hx,vk S f d (Kf _ (Kd.mpr ⟨x,hx,rfl⟩))⟩
def yM (S:SrchP L Pc W s1 s2 gp gt fx){row:List Str}(f:FitP Pc W (i7 ((s1++s2).zip row)))(d:la fx (s1++s2) row){x:Str×N3}(hx:x∈Pc.ts):gv (s1++s2) row x.1∈wg W gt fx (s1++s2) row x:=by
 have z:=f.ts x hx;exact mem_pl.mpr ⟨S.o'.p2.mem_iff.mpr (Kd.mpr ⟨_,z,rfl⟩),iI (O8 S.nd') z,vk S f d (Kk _ (Kd.mpr ⟨x,hx,rfl⟩))⟩
def EF (S:SrchP L Pc W s1 s2 gp gt fx){row:List Str}(f:FitP Pc W (i7 ((s1++s2).zip row)))(d:la fx (s1++s2) row):yJ (Pc.pts.map λx=>tT L gp fx x.1)=true:=by
 refine CK (r:=λx=>gv (s1++s2) row x.1) (λx hx=>yK S f d hx) ?_;have z:=f.nd;unfold b7 at z;rw[Ki,Lf] at z;exact(Ks.mp z).1
def uT (S:SrchP L Pc W s1 s2 gp gt fx){row:List Str}(hl:row.length=(s1++s2).length){i:Nat}{x:Str×N3}(h1:∃j:Nat,j<i/\(s1++s2)[j]?=some x.2.2.1)(h2:∃j:Nat,j<i/\(s1++s2)[j]?=some x.2.2.2):wg W gt fx (s1++s2) (row.take i) x=wg W gt fx (s1++s2) row x:=by
 obtain⟨j1,a1,b1⟩:=h1;obtain⟨j2,a2,b2⟩:=h2;unfold wg;rw[jM S.nn hl b1 a1,jM S.nn hl b2 a2]
def Dh (S:SrchP L Pc W s1 s2 gp gt fx){row:List Str}(hl:row.length=(s1++s2).length)(f:FitP Pc W (i7 ((s1++s2).zip row)))(d:la fx (s1++s2) row):Ie (aL L Pc W gp gt fx (s1++s2)) 0 row:=by
 have nn:=S.nn;have e:=ui nn hl;have YL:row.Nodup:=by
  rw[←e];exact((S.o.perm.map (gv (s1++s2) row)).nodup_iff).mpr f.nd
 intro i x _ hx;have Xj:=bJ hx;have hn:(s1++s2)[i]?=some ((s1++s2)[i]'(by lia)):=Kc (by lia);generalize (s1++s2)[i]'(by lia)=n at hn;have hg:gv (s1++s2) row n=x:=nN nn hn hx;have n_:(row.take i).length=i:=by rw[Kt];lia
 have QC:x∉row.take i:=λz=>by
  obtain⟨j,hj⟩:=fu z;rw[NC] at hj;split at hj
  .next hji=>
   have z2:=(QX (bJ hj) YL).mp (hj.trans hx.symm);lia
  .cases hj
 unfold aL;rw[n_,hn];dsimp only;rcases S.is1 hn with⟨h1,h2⟩|⟨h1,h2⟩
 .rw[if_neg h1];have hm:n∈Pc.pts.map (·.1):=by
   rcases Kg.mp (S.o.mem.mp (Kr hn)) with z|z
   .exact z
   .exact absurd z h1
  obtain⟨y,hy,ey⟩:=Kd.mp hm;have hc:=yK S f d hy;rw[ey,hg] at hc;refine Kp.mpr ⟨Kp.mpr ⟨hc,by simpa using QC⟩,?_⟩;have et:row.take i++[x]=row.take (i+1):=by rw[KI,hx];rfl
  rw[et];have Us:s1[i]=n:=by
   rw[Lm h2,Kc h2] at hn;exact KG hn
  refine CK (r:=λt=>gv (s1++s2) row t.1) (λt ht=>?_) ?_
  .unfold dv at ht;rw[Kp,KJ] at ht;have he:=S.ends t ht.1;have m1:¬(s1[i].cps.toList<t.2.2.1.cps.toList):=by
    rw[Us,←ht.2];unfold BK;split
    .next z=>exact OC z
    .exact Om _
   have m2:¬(s1[i].cps.toList<t.2.2.2.cps.toList):=by
    rw[Us,←ht.2];unfold BK;split
    .exact Om _
    .next z=>exact z
   obtain⟨j1,a1,b1⟩:=jV S h2 he.1 m1;obtain⟨j2,a2,b2⟩:=jV S h2 he.2 m2;rw[uT S hl ⟨j1,by lia,b1⟩ ⟨j2,by lia,b2⟩];exact yM S f d ht.1
  .have z:=f.nd;unfold b7 at z;rw[Ki,Lf,Lf] at z;exact((Ks.mp z).2.1).sublist (Ll.map _)
 .rw[if_pos h1];have m_:=dy h1;have he:=S.ends _ m_;obtain⟨j1,hj1,SI⟩:=S.pt_idx he.1;obtain⟨j2,hj2,Tf⟩:=S.pt_idx he.2;have hp:=yM S f d m_;rw[←uT S hl (i:=i) ⟨j1,by lia,SI⟩ ⟨j2,by lia,Tf⟩] at hp;refine Kp.mpr ⟨?_,by simpa using QC⟩;have hg':gv (s1++s2) row (n,N0 Pc.ts n).1=x:=hg;rw[hg'] at hp;exact hp
open Classical in
noncomputable def jv (Pc W:C9)(s1 s2 gp gt:List Str)(fx:List (Str×Str)):List (List Str):=(cX (jH s1 s2 gp gt) []).filter λrow=>decide (FitP Pc W (i7 ((s1++s2).zip row))/\la fx (s1++s2) row)
def qp {row:List Str}(h:row∈cX (jH s1 s2 gp gt) []):row.length=(s1++s2).length:=by
 obtain⟨t,e,hl,_⟩:=gf h;rw[e,Pf,hl,gX]
open Classical in
def Ax (S:SrchP L Pc W s1 s2 gp gt fx):iD (aL L Pc W gp gt fx (s1++s2)) (s1++s2).length []=jv Pc W s1 s2 gp gt fx:=by
 rw[←gX (gp:=gp) (gt:=gt),yz λj c hc b' hb=>yq S hc (by rw[hb];simp)];unfold jv;refine Z1 λrow QF=>?_;have hl:=qp QF;rw[Lg,KJ,KJ];exact⟨λok=>Dw S hl ok,λh=>Dh S hl h.1 h.2⟩
open Classical in
def wm (S:SrchP L Pc W s1 s2 gp gt fx)(h:yJ (Pc.pts.map λx=>tT L gp fx x.1)=false):jv Pc W s1 s2 gp gt fx=[]:=by
 unfold jv;refine OX.mpr λrow _ z=>?_;have z:=Ly z;rw[EF S z.1 z.2] at h;cases h
end
def ng (K:Qc):Sp:=λvs H Q _=>∃(d:Addr) (n im:Str) (fx:List (Str×Str)),vs=[.str n,.str im,.ref d]/\H d=some (.dK (i7 fx))/\∀H',Same H H'->Q (.bl (X1 fx n im)) H'
def qU {pts:List (Str×Str)}{n:Str}(h:n∈pts.map (·.1)):A4 (i7 pts) (Sum.inr n:j6)=some (.str (j4 (i7 pts) n)):=by
 cases e:A4 (i7 pts) (Sum.inr n:j6) with
 |none=>have z:=M4 (pts:=pts) (n:=n);rw[e,KA h] at z;cases z
 |some v=>
  obtain⟨k',rfl,_⟩:=gz e
  rw[gu e]
def yF {pts:List (Str×Str)}:(i7 pts).map (·.2)=(pts.map (·.2)).map V.str:=by unfold i7;rw[Lf,Lf];rfl
abbrev lD:=λP w K mg base=>U0 P w K mg base F0 1 "may_be" ["name","image","fixed"] [] (ng K)
def xg {f fd}(T:Txt K mg)(F:Fun K "may_be" "may_be" kY f fd):C5 P w K mg base F0 1 f fd ["name","image","fixed"] (ng K):=by
 walk_at "#sc_may_be"
 .obtain⟨d,n,im,fx,rfl,_⟩:=h;rfl
 .obtain⟨d,n,im,fx,rfl,hd,k⟩:=h;walk_at "@sc_may_be bnaF0002o8EN01d200j8EB01#~b~a~9_%~5~4~302o"
  symm;refine aF (K1 (k:=Sum.inr n) (.inl hd)) ?_;rw[M4];symm;refine M9 (λh1=>?_) (λh1=>?_)
  .symm;refine z0 (v:= .str (j4 (i7 fx) n)) (by have z:=K1 (k:=Sum.inr n) (.inl hd);rw[qU h1] at z;exact z) ?_;symm;have e:X1 fx n im=decide (im=j4 (i7 fx) n):=by unfold X1;rw[if_pos h1]
   rw[←e];exact k H (Same.refl H)
  .symm;refine⟨.inr (.inr (.inl ⟨rfl,.inl ⟨_,hd⟩⟩)),?_⟩;symm;refine⟨d,_,rfl,rfl,.inl hd,λv1 n1=>?_⟩;obtain⟨H1,e1,f1,m1,_⟩:=b5 (o:= .ext (gZ v1 d)) n1;rw[e1];symm;refine Z8 f1 (.inl (m1 _ _ hd)) (λl2 n2=>?_);obtain⟨H2,e2,f2,m2,_⟩:=b5 (o:= .lst _) n2;rw[e2];refine J2 (gs:=fx.map (·.2)) (SqL.of (by rw[f2,yF])) ?_;have e:X1 fx n im=!decide (im∈fx.map (·.2)):=by unfold X1;rw[if_neg h1]
   rw[←e];exact k H2 (m1.trans m2)
def LstAt (H:Hp)(v:V)(l:List Str):Prop:=∃a,v= .ref a/\H a=some (.lst (l.map V.str))
def LstAt.same {H H':Hp}{v:V}{l:List Str}(h:LstAt H v l)(s:Same H H'):LstAt H' v l:=let ⟨a,e,z⟩:=h;⟨a,e,s _ _ z⟩
def ChAt (H:Hp)(F:Str×Str->List Str)(kvs:List (j6×V))(pts:List (Str×Str)):Prop:=Paired (λkv x=>kv.1=Sum.inr x.1/\LstAt H kv.2 (F x)) kvs pts
def ChAt.same {H H':Hp}{F:Str×Str->List Str}{kvs:List (j6×V)}{pts:List (Str×Str)}(h:ChAt H F kvs pts)(s:Same H H'):ChAt H' F kvs pts:=Paired.imp' (λ_ _ z=>⟨z.1,z.2.same s⟩) h
theorem ChAt.keys {H:Hp}{F:Str×Str->List Str}:∀{kvs:List (j6×V)} {pts:List (Str×Str)},ChAt H F kvs pts->kvs.map (·.1)=(pts.map (·.1)).map Sum.inr
 |_,_,.nil=>rfl
 |_,_,.cons a t=>by rw[Lk,a.1,ChAt.keys t];rfl
def wq {p:Str->Bool}{s:List Str}{i:Nat}{x:Str}(h:s[i]?=some x)(hp:p x=true):(s.take (i+1)).filter p=(s.take i).filter p++[x]:=by
 rw[KI,h,KP];show _++List.filter p [x]=_;rw[KR hp];rfl
def tV {p:Str->Bool}{s:List Str}{i:Nat}{x:Str}(h:s[i]?=some x)(hp:p x=false):(s.take (i+1)).filter p=(s.take i).filter p:=by
 rw[KI,h,KP];show _++List.filter p [x]=_;rw[Ld (by rw[hp];decide)];simp
def iw {p:Str->Bool}{s:List Str}{i:Nat}:((s.take i).filter p).length<=s.length:=Kw (Km _ _) (by rw[Kt];lia)
def eR {p b:Addr}{o:Obj}{kvs:List (j6×V)}{H:Hp}(h:b≠p):C4 p o kvs H b=H b:=b9 h
def EZ {p:Addr}{o:Obj}{kvs:List (j6×V)}{H:Hp}:C4 p o kvs H p=some (.frz o (.dK kvs)):=d6
def rT {p:Addr}{o:Obj}{kvs:List (j6×V)}{H H1:Hp}(s:Same H H1):Same (C4 p o kvs H) (C4 p o kvs H1):=λb u hb=>by
 by_cases z:b=p
 .rw[z,EZ] at hb⊢;exact hb
 .rw[eR z] at hb⊢;exact s _ _ hb
def Cv {kvs:List (j6×V)}{pp:List (Str×Str)}{i:Nat}{kv:j6×V}(h:kvs.map (·.1)=(pp.map (·.1)).map Sum.inr)(e:kvs[i]?=some kv):∃x,pp[i]?=some x/\kv.1=Sum.inr x.1:=by
 have z:(kvs.map (·.1))[i]?=some kv.1:=by rw[Kh,e];rfl
 rw[h,Kh,Kh] at z;cases e2:pp[i]? with
 |none=>rw[e2] at z;cases z
 |some x=>rw[e2] at z;exact⟨x,rfl,(KG z).symm⟩
def By {kvs:List (j6×V)}{k:j6}(h:k∈kvs.map (·.1)):∃u,A4 kvs k=some u:=by
 induction kvs with
 |nil=>cases h
 |cons p r ih=>
  by_cases e:p.1=k
  .exact⟨p.2,J6 e⟩
  .rw[K0 e]
   exact ih ((Lh.mp h).resolve_left λz=>e z.symm)
def bO (K:Qc):Sp:=λvs H Q _=>∃(p g d:Addr) (e_ F':List (j6×V)) (pp gg fx:List (Str×Str)) (L:Str->Str->Bool) (gp:List Str),vs=[.ref p,.ref g,.ref d]/\H p=some (.dK e_)/\e_.map (·.1)=(pp.map (·.1)).map Sum.inr/\(pp.map (·.1)).Nodup/\pp.length<=30/\Rd H g (.dK F')/\F'.map (·.1)=(gg.map (·.1)).map Sum.inr/\(gg.map (·.1)).Nodup/\gg.length<=30/\gp.Perm (gg.map (·.1))/\sortedS gp=true/\
 (∀(n:Str) (v:V) (m:Str) (u:V),(Sum.inr n,v)∈e_->A4 F' (Sum.inr m:j6)=some u->EqA K H u v (L n m))/\H d=some (.dK (i7 fx))/\d≠p/\
 ∀(c:Addr) (H':Hp) (kvs:List (j6×V)),H c=none->Same H H'->H' c=some (.dK kvs)->ChAt H' (λx=>tT L gp fx x.1) kvs pp->Q (.ref c) H'
abbrev cF:=λP w K mg base=>U0 P w K mg base F0 2 "point_choices" ["piece_looks","web_looks","fixed"] [] (bO K)
def iG {f fd}(T:Txt K mg)(bH:lD P w K mg base)(F:Fun K "point_choices" "point_choices" au f fd):C5 P w K mg base F0 2 f fd ["piece_looks","web_looks","fixed"] (bO K):=by
 walk_at "#sc_point_choices"
 .obtain⟨p,g,d,e_,F',pp,gg,fx,L,gp,rfl,_⟩:=h;rfl
 .obtain⟨p,g,d,e_,F',pp,gg,fx,L,gp,rfl,hp,hkp,npp,lpp,hg,hkg,ngg,lgg,pgp,ogp,hEq,hd,Ut,k⟩:=h;have lkp:e_.length=pp.length:=by have z:=LK List.length hkp;rwa [Kb,Kb,Kb] at z
  have ngp:gp.Nodup:=pgp.nodup_iff.mpr ngg;have YM:gp.length<=30:=by rw[pgp.length_eq,Kb];exact lgg
  walk_at "@sc_point_choices 43Pbtu+00xc49c59y*6image;51;rGJ61vh0kimage,look,web_looks;vLa'2GK &~ed20001jv00eAwimage;42;r06h0kimage,name,fixed;L`5'0bH 71i02000304803"
  symm;intro c nc;obtain⟨H1,e1,f1,m1,_⟩:=b5 (o:= .dK []) nc;rw[e1];symm;have Pa:=m1 _ _ hp;have YN:c≠p:=(d9 hp nc).symm;refine K4 Pa (λUu o1=>?_);refine R4 (n:=e_.length) (λi σ H'=>∃(kvs:List (j6×V)) (v1 v2 v3:Option V),σ=[some (.ref p),some (.ref g),some (.ref d),some (.ref c),v1,v2,v3]/\Same (C4 p o1 e_ H) H'/\H' c=some (.dK kvs)/\ChAt H' (λx=>tT L gp fx x.1) kvs (pp.take i)) ⟨[],none,none,none,rfl,?_,?_,.nil⟩ (λi σ H' hi hp=>?_) ?_ ?_
  .exact rT m1
  .rw[eR YN];exact f1
  .obtain⟨_,_,_,_,_,s,_⟩:=hp;exact⟨s _ _ d6,hi⟩
  .rintro bk i v σ H2' H2 hi ⟨kvs,v1,v2,v3,rfl,s2,RJ,ch2⟩ ⟨t,kv,f_,nt,rfl,rfl⟩ _ _;obtain⟨x,hx,ex⟩:=Cv hkp f_;obtain⟨kk,look⟩:=kv;have O':kk=Sum.inr x.1:=ex;subst O';have Qt:=Kr f_;obtain⟨H3,e3,f3,m3,_⟩:=b5 (o:= .tup _) nt;rw[e3];have s3:=s2.trans m3;have hg3:Rd H3 g (.dK F'):=((N9 hp).trans s3.le) _ _ rfl hg;have YO:H3 d=some (.dK (i7 fx)):=s3 _ _ (by rw[eR Ut];exact hd);refine I0 (SqT.of f3) rfl ?_;symm;refine A6 (ss:=gg.map (·.1)) hg3 hkg (by rw[Kb];lia) (λg1 a1 a2 l4 n4=>?_);have eg:g1=gp:=N6 a2 ogp (a1.nodup_iff.mpr ngg) (a1.trans pgp.symm);subst eg;obtain⟨H4,e4,f4,m4,_⟩:=b5 (o:= .lst _) n4;rw[e4];refine A8 (SqL.of f4) ?_;refine z8 (n:=g1.length) (λi out H'=>H'=H4/\out=((g1.take i).filter λim=>L x.1 im).map V.str) ⟨rfl,rfl⟩ (λi out H' hi hp=>⟨g1.map V.str,.str (g1[i]),SqL.of (by rw[hp.1];exact f4),by rw[Kh,Kc hi];rfl⟩) ?_ ?_
   .rintro N j v out H5 H5' hj ⟨rfl,rfl⟩ y hN';obtain⟨rfl,hy⟩:=Itl.get y (SqL.of f4);rw[Kh] at hy;obtain⟨im,Sk,rfl⟩:=KN.mp hy;have m_:im∈gg.map (·.1):=a1.mem_iff.mp (Kr Sk);symm;refine⟨rfl,?_⟩;symm;obtain⟨u,hu⟩:=By (kvs:=F') (k:=Sum.inr im) (by rw[hkg];exact Kd.mpr ⟨im,m_,rfl⟩);refine z0 (v:=u) (by have z:=K1 (k:=Sum.inr im) (m4.rd hg3);rw[hu] at z;exact z) ?_;symm;refine Gg (((hEq x.1 look im u Qt hu).mono (N9 hp)).mono (s3.trans m4).le) ?_;symm;refine aH (λh1=>?_) (λh1=>?_)
    .symm;refine⟨d0 (by rw[Kb];have:=iw (p:=λim=>L x.1 im) (s:=g1) (i:=j);lia),hN' _ _ ⟨rfl,?_⟩⟩;rw[wq Sk h1,Ki];rfl
    .exact hN' _ _ ⟨rfl,by rw[tV Sk h1]⟩
   .rintro out H5 ⟨rfl,rfl⟩;refine⟨⟨_,SqL.of f4,by rw[Kb];exact Ke _⟩,λD hD=>⟨d0 (by rw[Kb];have:=iw (p:=λim=>L x.1 im) (s:=g1) (i:=g1.length);lia),?_⟩⟩;rw[Kl (Ke _)];obtain⟨H6,e6,f6,m6,_⟩:=b5 (H:=H5) (o:= .lst ((g1.filter λim=>L x.1 im).map V.str)) hD;generalize YQ:(g1.filter λim=>L x.1 im)=al at e6 f6⊢;have o_:al.length<=30:=by rw[←YQ];exact Kw (Km _ _) YM
    change O7 _ _ _ (upd H5 D _) _;rw[e6];symm;refine A8 (SqL.of f6) ?_;refine z8 (n:=al.length) (λi out H'=>Same H6 H'/\out=((al.take i).filter (X1 fx x.1)).map V.str) ⟨Same.refl _,rfl⟩ (λi out H' hi hp=>⟨_,.str (al[i]),SqL.of (hp.1 _ _ f6),by rw[Kh,Kc hi];rfl⟩) ?_ ?_
    .rintro N j v out H7 H7' hj ⟨s7,rfl⟩ y hN';obtain⟨rfl,hy⟩:=Itl.get y (SqL.of (s7 _ _ f6));rw[Kh] at hy;obtain⟨im,Sk,rfl⟩:=KN.mp hy;symm;refine⟨rfl,?_⟩;symm;refine⟨d,x.1,im,fx,rfl,s7 _ _ (m6 _ _ (m4 _ _ YO)),λH8 m8=>?_⟩;symm;refine aH (λh1=>?_) (λh1=>?_)
     .symm;refine⟨d0 (by rw[Kb];have:=iw (p:=X1 fx x.1) (s:=al) (i:=j);lia),hN' _ _ ⟨s7.trans m8,?_⟩⟩;rw[wq Sk h1,Ki];rfl
     .exact hN' _ _ ⟨s7.trans m8,by rw[tV Sk h1]⟩
    .rintro out H7 ⟨s7,rfl⟩;refine⟨⟨_,SqL.of (s7 _ _ f6),by rw[Kb];exact Ke _⟩,λD2 hD2=>⟨d0 (by rw[Kb];have:=iw (p:=X1 fx x.1) (s:=al) (i:=al.length);lia),?_⟩⟩;rw[Kl (Ke _)];obtain⟨H8,e8,f8,m8,_⟩:=b5 (H:=H7) (o:= .lst ((al.filter (X1 fx x.1)).map V.str)) hD2;have YR:=m4.trans (m6.trans (s7.trans m8));change BV _ _ (upd H7 D2 _) _;rw[e8];have hc8:H8 c=some (.dK kvs):=YR _ _ (m3 _ _ RJ);have YS:=KW ch2;rw[Kt] at YS;symm;refine P9 (B5 (k:=Sum.inr x.1) hc8 (d0 (by lia)) ?_);have fr:x.1∉(pp.take i).map (·.1):=λz=>by
      have e7:pp.take (i+1)=pp.take i++[x]:=by rw[KI,hx];rfl
      have w:((pp.take (i+1)).map (·.1)).Nodup:=npp.sublist ((Lv _ _).map _);rw[e7,Ki] at w;exact(Ks.mp w).2.2 x.1 z x.1 (by simp) rfl
     have ek:E9 kvs (Sum.inr x.1:j6) (.ref D2)=kvs++[(Sum.inr x.1,.ref D2)]:=Q0 _ (N8 (by rw[ch2.keys];exact λm=>fr (Z4 m)));have YT:(C4 p o1 e_ H) c=none:=by rw[eR YN];exact nc
     have cUp:∀{v:V} {l:List Str},LstAt H8 v l->LstAt (upd H8 c (.dK (kvs++[(Sum.inr x.1,V.ref D2)]))) v l:=fun{v l} ⟨a,ea,z⟩=>⟨a,ea,by rw[b9 (λq=>by rw[q,hc8] at z;cases z)];exact z⟩
     walk_at "X";refine⟨kvs++[(Sum.inr x.1,.ref D2)],_,_,_,rfl,E7 (s3.trans YR) YT,by rw[d6,ek],?_⟩;rw[ek,show pp.take (i+1)=pp.take i++[x] by rw[KI,hx];rfl];refine B9 (Paired.imp' (λ_ _ z=>⟨z.1,cUp (z.2.same (m3.trans YR))⟩) ch2) ⟨rfl,cUp ⟨D2,rfl,?_⟩⟩;rw[f8];show _=some (HO.lst ((tT L g1 fx x.1).map V.str));unfold tT;rw[show(List.filter (L x.1) g1)=al from YQ]
  .rintro σ H2 ⟨kvs,v1,v2,v3,rfl,s2,RJ,ch2⟩;refine⟨⟨s2 _ _ d6,Ke _⟩,?_⟩;symm;have YU:thaw p H2 c=some (.dK kvs):=by rw[Q6 YN];exact RJ
   rw[Kl (by rw[lkp];exact Ke _)] at ch2;refine k c _ kvs nc (Same.thaw hp s2) YU (Paired.imp' (λkv x z=>⟨z.1,?_⟩) ch2);obtain⟨a,ea,za⟩:=z.2;have hap:a≠p:=λq=>by rw[q,s2 _ _ d6] at za;cases za
   exact⟨a,ea,by rw[Q6 hap];exact za⟩
abbrev k2 (a b:Str):List j6:=[Sum.inr a,Sum.inr b]
structure TH (HB H:Hp) (t:Addr) (kvs:List (List j6×V)) (F:Str->Str->List Str):Prop where
 at_:H t=some (.dT kvs)
 no:∀a b,A4 kvs (k2 a b)=none->F a b=[]
 so:∀a b v,A4 kvs (k2 a b)=some v->∃l,v= .ref l/\H l=some (.lst ((F a b).map V.str))/\HB l=none
 inj:∀a b a' b' v,A4 kvs (k2 a b)=some v->A4 kvs (k2 a' b')=some v->a=a'/\b=b'
def TH.same {HB H H2:Hp}{t:Addr}{kvs:List (List j6×V)}{F:Str->Str->List Str}(h:TH HB H t kvs F)(s:Same H H2):TH HB H2 t kvs F:=
 ⟨s _ _ h.at_,h.no,λa b v e=>let ⟨l,q,z,f⟩:=h.so a b v e;⟨l,q,s _ _ z,f⟩,h.inj⟩
def TH.ext {HB H:Hp}{t:Addr}{kvs:List (List j6×V)}{F G:Str->Str->List Str}(h:TH HB H t kvs F)(e:∀a b,G a b=F a b):TH HB H t kvs G:=by
 have:G=F:=funext λa=>funext λb=>e a b;rw[this];exact h
def TH.hit {HB H:Hp}{t l:Addr}{kvs:List (List j6×V)}{F G:Str->Str->List Str}{a' b' im:Str}(h:TH HB H t kvs F)(hv:A4 kvs (k2 a' b')=some (.ref l))(h1:G a' b'=F a' b'++[im])(h2:∀a b,¬(a=a'/\b=b')->G a b=F a b):
  TH HB (upd H l (.lst ((F a' b').map V.str++[.str im]))) t kvs G:=by
 obtain⟨l',e',z',f'⟩:=h.so _ _ _ hv
 cases e'
 have Vc:t≠l:=λq=>by rw[←q,h.at_] at z';cases z'
 refine⟨by rw[b9 Vc];exact h.at_,λa b e=>?_,λa b v e=>?_,h.inj⟩
 .by_cases q:a=a'/\b=b'
  .rw[q.1,q.2,hv] at e;cases e
  .rw[h2 a b q];exact h.no a b e
 .by_cases q:a=a'/\b=b'
  .obtain⟨rfl,rfl⟩:=q
   rw[hv] at e
   cases e
   exact⟨l,rfl,by rw[d6,h1,Ki];rfl,f'⟩
  .obtain⟨l2,e2,z2,f2⟩:=h.so a b v e
   refine⟨l2,e2,?_,f2⟩
   have:l2≠l:=λw=>q (by
    rw[e2,w] at e;exact h.inj a b a' b' _ e hv)
   rw[b9 this,h2 a b q];exact z2
def TH.miss {HB H:Hp}{t l:Addr}{kvs:List (List j6×V)}{F G:Str->Str->List Str}{a' b' im:Str}(h:TH HB H t kvs F)(hv:A4 kvs (k2 a' b')=none)(hl:HB l=none)(g_:∀a b,A4 kvs (k2 a b)≠some (.ref l))(n_:l≠t)(h1:G a' b'=F a' b'++[im])(h2:∀a b,¬(a=a'/\b=b')->G a b=F a b):
  TH HB (upd (upd H t (.dT (E9 kvs (k2 a' b') (.ref l)))) l (.lst ([]++[.str im]))) t (E9 kvs (k2 a' b') (.ref l)) G:=by
 have hk:∀{a b:Str},¬(a=a'/\b=b')->k2 a b≠k2 a' b':=fun{a b} q w=>by
  have w1:=List.cons.inj w;have w2:=List.cons.inj w1.2;exact q ⟨LW w1.1,LW w2.1⟩
 refine⟨by rw[b9 n_.symm,d6],λa b e=>?_,λa b v e=>?_,λa b c d v e e'=>?_⟩
 .by_cases q:a=a'/\b=b'
  .rw[N1,if_pos (by rw[q.1,q.2])] at e;cases e
  .rw[N1,if_neg (hk q)] at e
   rw[h2 a b q];exact h.no a b e
 .by_cases q:a=a'/\b=b'
  .obtain⟨rfl,rfl⟩:=q
   rw[N1,if_pos rfl] at e
   cases e
   exact⟨l,rfl,by rw[d6,h1,h.no _ _ hv];rfl,hl⟩
  .rw[N1,if_neg (hk q)] at e
   obtain⟨l2,e2,z2,f2⟩:=h.so a b v e
   have w1:l2≠l:=λw=>g_ a b (by rw[e,e2,w])
   have w2:l2≠t:=λw=>by rw[w,h.at_] at z2;cases z2
   exact⟨l2,e2,by rw[b9 w1,b9 w2,h2 a b q];exact z2,f2⟩
 .by_cases q:a=a'/\b=b'
  .by_cases q':c=a'/\d=b'
   .exact⟨q.1.trans q'.1.symm,q.2.trans q'.2.symm⟩
   .rw[N1,if_pos (by rw[q.1,q.2])] at e
    rw[N1,if_neg (hk q')] at e'
    cases e
    exact absurd e' (g_ c d)
  .by_cases q':c=a'/\d=b'
   .rw[N1,if_pos (by rw[q'.1,q'.2])] at e'
    rw[N1,if_neg (hk q)] at e
    cases e'
    exact absurd e (g_ a b)
   .rw[N1,if_neg (hk q)] at e
    rw[N1,if_neg (hk q')] at e'
    exact h.inj a b c d v e e'
def PlAt (H:Hp)(v:V)(F:Str->Str->List Str):Prop:=∃(t:Addr) (kvs:List (List j6×V)),v= .ref t/\H t=some (.dT kvs)/\(∀a b,A4 kvs (k2 a b)=none->F a b=[])/\∀a b v,A4 kvs (k2 a b)=some v->LstAt H v (F a b)
def PlAt.same {H H':Hp}{v:V}{F:Str->Str->List Str}(h:PlAt H v F)(s:Same H H'):PlAt H' v F:=
 let ⟨t,kvs,e,a,n,z⟩:=h;⟨t,kvs,e,s _ _ a,n,λx y v q=>(z x y v q).same s⟩
def PlsAt (H:Hp)(F:Str×N3->Str->Str->List Str)(kvs:List (j6×V))(ts:List (Str×N3)):Prop:=Paired (λkv x=>kv.1=Sum.inr x.1/\PlAt H kv.2 (F x)) kvs ts
theorem PlsAt.keys {H:Hp}{F:Str×N3->Str->Str->List Str}:∀{kvs:List (j6×V)} {ts:List (Str×N3)},PlsAt H F kvs ts->kvs.map (·.1)=(ts.map (·.1)).map Sum.inr
 |_,_,.nil=>rfl
 |_,_,.cons a t=>by rw[Lk,a.1,PlsAt.keys t];rfl
def PlsAt.same {H H':Hp}{F:Str×N3->Str->Str->List Str}{kvs:List (j6×V)}{ts:List (Str×N3)}(h:PlsAt H F kvs ts)(s:Same H H'):PlsAt H' F kvs ts:=Paired.imp' (λ_ _ z=>⟨z.1,z.2.same s⟩) h
theorem thaw_at {q a:Addr}{H:Hp}{o:Obj}{w u:HO}(hq:H q=some (.frz o w))(ha:H a=some u)(hu:∀o' w',u≠ .frz o' w'):thaw q H a=some u:=by
 have:a≠q:=λz=>by rw[z,hq] at ha;cases ha;exact hu _ _ rfl
 rw[Q6 this];exact ha
def LstAt.thaw {q:Addr}{H:Hp}{o:Obj}{w:HO}{v:V}{l:List Str}(hq:H q=some (.frz o w))(h:LstAt H v l):LstAt (thaw q H) v l:=let ⟨a,e,z⟩:=h;⟨a,e,thaw_at hq z (λ_ _ z=>nomatch z)⟩
def PlAt.thaw {q:Addr}{H:Hp}{o:Obj}{w:HO}{v:V}{F:Str->Str->List Str}(hq:H q=some (.frz o w))(h:PlAt H v F):PlAt (thaw q H) v F:=
 let ⟨t,kvs,e,a,n,z⟩:=h;⟨t,kvs,e,thaw_at hq a (λ_ _ z=>nomatch z),n,λx y v q=>(z x y v q).thaw hq⟩
def eK (K:Qc):Sp:=λvs H Q _=>∃(a p q a' p' q' d:Addr) (kvs d_:List (j6×V)) (Pc W:C9) (fx:List (Str×Str)) (gt:List Str),vs=[.ref a,.ref a',.ref d]/\WebAt K H a p q kvs Pc/\H q=some (.dK kvs)/\(Pc.ts.map (·.1)).Nodup/\Pc.ts.length<=30/\WebAt K H a' p' q' d_ W/\(W.ts.map (·.1)).Nodup/\W.ts.length<=30/\gt.Perm (W.ts.map (·.1))/\sortedS gt=true/\H d=some (.dK (i7 fx))/\d≠q/\
 ∀(c:Addr) (H':Hp) (e_:List (j6×V)),H c=none->Same H H'->H' c=some (.dK e_)->PlsAt H' (λx a b=>vf W gt fx x.1 (x.2.1,a,b)) e_ Pc.ts->Q (.ref c) H'
abbrev gr:=λP w K mg base=>U0 P w K mg base F0 2 "tie_places" ["piece","web","fixed"] [] (eK K)
def mF {f fd}(T:Txt K mg)(bH:lD P w K mg base)(F:Fun K "tie_places" "tie_places" bZ f fd):C5 P w K mg base F0 2 f fd ["piece","web","fixed"] (eK K):=by
 walk_at "#sc_tie_places"
 .obtain⟨a,p,q,a',p',q',d,kvs,d_,Pc,W,fx,gt,rfl,_⟩:=h;rfl
 .obtain⟨a,p,q,a',p',q',d,kvs,d_,Pc,W,fx,gt,rfl,hP,hq,SX,lP,hW,Vd,lW,pgt,ogt,hd,Uv,k⟩:=h;have lgt:gt.length<=30:=by rw[pgt.length_eq,Kb];exact lW
  have Qv:=hP.ts.length;walk_at "@sc_tie_places 43Pbtu+10xc49c59y46'0Jj bturGJ311h7948q1107enI)aN1815j?`5'0bH 74i72eQMX=<;M%'0PySem.F.slot_dict_setdefault '0PySem.F.type_dict_setdefault '1ei ~e06g.08:2/H67eA060304803"
  symm;intro c nc;obtain⟨H1,e1,f1,m1,_⟩:=b5 (o:= .dK []) nc;rw[e1];have hcq:c≠q:=(d9 hq nc).symm;symm;refine j9 (m1.tup hP.tup) ?_;refine K4 (m1 _ _ hq) (λSl o1=>?_);refine R4 (n:=kvs.length) (λi σ H'=>∃(e_:List (j6×V)) (v1 v2 v3 v4 v5:Option V),σ=[some (.ref a),some (.ref a'),some (.ref d),some (.ref c),v1,v2,v3,v4,v5]/\Same (C4 q o1 kvs H) H'/\H' c=some (.dK e_)/\PlsAt H' (λx a b=>vf W gt fx x.1 (x.2.1,a,b)) e_ (Pc.ts.take i)) ⟨[],none,none,none,none,none,rfl,rT m1,by rw[eR hcq];exact f1,.nil⟩ (λi σ H' hi hp=>?_) ?_ ?_
  .obtain⟨_,_,_,_,_,_,_,s,_⟩:=hp;exact⟨s _ _ d6,hi⟩
  .rintro bk i v σ H2' H2 hi ⟨e_,v1,v2,v3,v4,v5,rfl,s2,RJ,Uw⟩ ⟨t,kv,f_,nt,rfl,rfl⟩ _ _;obtain⟨H3,e3,f3,m3,_⟩:=b5 (o:= .tup _) nt;rw[e3];have s3:=s2.trans m3;have Ux:=(N9 (o:=o1) hq).trans s3.le;have P3:=hP.mono Ux;have W3:=hW.mono Ux;have YO:H3 d=some (.dK (i7 fx)):=s3 _ _ (by rw[eR Uv];exact hd);obtain⟨x,hx,ex,tb,eb,sb⟩:=P3.ts.get f_;obtain⟨kk,Rw⟩:=kv;have O':kk=Sum.inr x.1:=ex;have Rx:Rw= .ref tb:=eb;subst O' Rx;refine I0 (SqT.of f3) rfl ?_;symm;intro th nth;obtain⟨H4,e4,f4,m4,_⟩:=b5 (o:= .dT []) nth;rw[e4];symm;refine j9 (m4.tup W3.tup) ?_;symm;refine A6 (ss:=W.ts.map (·.1)) (m4.rd W3.ties) (by rw[W3.ts.keys,B6]) (by rw[Kb];lia) (λg1 a1 a2 l5 n5=>?_);have eg:g1=gt:=N6 a2 ogt (a1.nodup_iff.mpr Vd) (a1.trans pgt.symm);subst eg;obtain⟨H5,e5,f5,m5,_⟩:=b5 (o:= .lst _) n5;rw[e5];refine A8 (SqL.of f5) ?_;have hl5:H3 l5=none:=m4.free n5;refine R4 (n:=g1.length) (λj σ H'=>∃(kt:List (List j6×V)) (w1 w2:Option V),σ=[some (.ref a),some (.ref a'),some (.ref d),some (.ref c),some (.str x.1),some (.ref tb),some (.ref th),w1,w2]/\Same H3 H'/\H' l5=some (.lst (g1.map V.str))/\kt.length<=j/\(∀A B,A4 kt (k2 A B)≠some (.ref l5))/\TH H3 H' th kt λA B=>(g1.take j).filter λim=>decide (N0 W.ts im=(x.2.1,A,B))&&X1 fx x.1 im) ⟨[],v4,v5,rfl,m4.trans m5,f5,Ke _,(λ_ _ z=>nomatch z),⟨m5 _ _ f4,(λ_ _ _=>rfl),(λ_ _ _ z=>nomatch z),λ_ _ _ _ _ z _=>nomatch z⟩⟩ (λj σ H' hj hp=>?_) ?_ ?_
   .obtain⟨_,_,_,_,_,z,_⟩:=hp;walk_at "X";exact⟨g1.map V.str,.str (g1[j]),SqL.of z,by rw[Kh,Kc hj];rfl⟩
   .rintro bk2 j v σ H6' H6 hj ⟨kt,w1,w2,rfl,s6,Uy,lk6,nl6,th6⟩ y _ _;obtain⟨rfl,hy⟩:=Itl.get y (SqL.of Uy);rw[Kh] at hy;obtain⟨im,Sk,rfl⟩:=KN.mp hy;have m_:im∈W.ts.map (·.1):=a1.mem_iff.mp (Kr Sk);have W6:=W3.mono s6.le;obtain⟨aa,hv,hT⟩:=dQ W6.ts Vd (dy m_);generalize YV:N0 W.ts im=to at hT;obtain⟨t1,t2,t3⟩:=to;symm;refine j9 W6.tup ?_;symm;refine z0 (v:= .ref aa) (by have z:=K1 (k:=Sum.inr im) W6.ties;rw[hv] at z;exact z) ?_;symm;refine u4 hT ?_;symm;refine u4 (s6.tup sb) ?_;symm;have stay:(∀A B,(decide (N0 W.ts im=(x.2.1,A,B))&&X1 fx x.1 im)=false)->∀H7,Same H6 H7->∃(kt:List (List j6×V)) (w1 w2:Option V),[some (.ref a),some (.ref a'),some (.ref d),some (.ref c),some (.str x.1),some (.ref tb),some (.ref th),some (.str im),some (.ref aa)]=[some (.ref a),some (.ref a'),some (.ref d),some (.ref c),some (.str x.1),some (.ref tb),some (.ref th),w1,w2]/\Same H3 H7/\H7 l5=some (.lst (g1.map V.str))/\kt.length<=j+1/\(∀A B,A4 kt (k2 A B)≠some (.ref l5))/\TH H3 H7 th kt λA B=>(g1.take (j+1)).filter λim=>decide (N0 W.ts im=(x.2.1,A,B))&&X1 fx x.1 im:=λhf H7 m7=>
     ⟨kt,_,_,rfl,s6.trans m7,m7 _ _ Uy,by lia,nl6,(th6.same m7).ext λA B=>tV Sk (hf A B)⟩
    refine M9 (λh1=>?_) (λh1=>?_)
    .symm;refine⟨d,x.1,im,fx,rfl,s6 _ _ YO,λH7 m7=>?_⟩;symm;refine aH (λh2=>?_) (λh2=>?_)
     .symm;have YW:=th6.same m7;refine⟨.inr (.inr (.inl ⟨rfl,.inr ⟨_,YW.at_⟩⟩)),?_⟩;symm;refine gS (m7.tup hT) (by rintro⟨z,_⟩;exact absurd (show(1:Nat)=0 from z) (by decide)) (λl8 n8=>?_);obtain⟨H8,e8,f8,m8,_⟩:=b5 (o:= .tup [.str t2,.str t3]) n8;rw[show fJ (ax (t1,t2,t3)) (some 1) none=[V.str t2,.str t3] from rfl,e8];symm;refine⟨d0 (by simp),λl9 n9=>?_⟩;obtain⟨H9,e9,f9,m9,o9⟩:=b5 (o:= .lst []) n9;rw[e9];have Ve:=YW.same (m8.trans m9);have s39:=s6.trans (m7.trans (m8.trans m9));have hl9:H3 l9=none:=(s6.trans (m7.trans m8)).free n9;have Th:=(m7.trans (m8.trans m9)) _ _ Uy;have RK:((g1.take (j+1)).filter λim=>decide (N0 W.ts im=(x.2.1,t2,t3))&&X1 fx x.1 im)=((g1.take j).filter λim=>decide (N0 W.ts im=(x.2.1,t2,t3))&&X1 fx x.1 im)++[im]:=wq Sk (by rw[YV,h2,KA (by rw[show t1=x.2.1 from h1])];rfl);have RL:∀A B,¬(A=t2/\B=t3)->((g1.take (j+1)).filter λim=>decide (N0 W.ts im=(x.2.1,A,B))&&X1 fx x.1 im)=((g1.take j).filter λim=>decide (N0 W.ts im=(x.2.1,A,B))&&X1 fx x.1 im):=λA B g_=>tV Sk (by
       rw[YV,KQ (λz=>g_ ?_)];rfl;have z2:=(Mm z).2;walk_at "X";exact⟨(Mm z2).1.symm,(Mm z2).2.symm⟩)
      refine⟨th,l8,kt,k2 t2 t3,.ref l9,rfl,rfl,Ve.at_,m9 _ _ f8,d0 (by lia),?_⟩;cases hvk:A4 kt (k2 t2 t3) with
      |some v=>
       obtain⟨l,rfl,hl,YX⟩:=Ve.so _ _ _ hvk
       refine⟨.inl ⟨rfl,_,SqL.of hl⟩,?_⟩
       symm
       refine⟨l,_,.str im,rfl,rfl,hl,d0 (by rw[Kb];have:=iw (p:=λim=>decide (N0 W.ts im=(x.2.1,t2,t3))&&X1 fx x.1 im) (s:=g1) (i:=j);lia),?_⟩
       have VY:l5≠l:=λz=>nl6 t2 t3 (by rw[hvk,z])
       walk_at "X"
       exact⟨kt,_,_,rfl,E7 s39 YX,by rw[b9 VY];exact Th,by lia,nl6,Ve.hit hvk RK RL⟩
      |none=>
       have n_:l9≠th:=λz=>by rw[z,Ve.at_] at f9;cases f9
       have g_:∀A B,A4 kt (k2 A B)≠some (.ref l9):=λA B z=>by
        obtain⟨l,e,hl,_⟩:=(YW.same m8).so _ _ _ z;cases e;rw[n9] at hl;cases hl
       have h59:l5≠l9:=λz=>by
        have:=(m7.trans m8) _ _ Uy;rw[z,n9] at this;cases this
       have h5t:l5≠th:=λz=>by rw[z,Ve.at_] at Th;cases Th
       refine⟨.inl ⟨rfl,[],SqL.of (by rw[b9 n_];exact f9)⟩,?_⟩
       symm
       refine⟨l9,[],.str im,rfl,rfl,by rw[b9 n_];exact f9,d0 (by simp),?_⟩
       have YY:H3 th=none:=nth
       walk_at "X"
       refine⟨E9 kt (k2 t2 t3) (.ref l9),_,_,rfl,E7 (E7 s39 YY) hl9,by rw[b9 h59,b9 h5t];exact Th,?_,λA B z=>?_,Ve.miss hvk hl9 g_ n_ RK RL⟩
       .have:=V0 kt (k2 t2 t3) (.ref l9);lia
       .rw[N1] at z
        split at z
        .cases z;exact h59 rfl
        .exact nl6 A B z
     .symm;exact stay (λA B=>by rw[h2,Pz]) H7 m7
    .symm;exact stay (λA B=>by rw[YV,KQ (λz=>h1 (Mm z).1)];rfl) H6 (Same.refl _)
   .rintro σ H6 ⟨kt,w1,w2,rfl,s6,Uy,lk6,nl6,th6⟩;refine⟨⟨_,SqL.of Uy,by rw[Kb];exact Ke _⟩,?_⟩;rw[Kl (Ke _)] at th6;have YZ:H6 c=some (.dK e_):=s6 _ _ (m3 _ _ RJ);have YS:=KW Uw;rw[Kt] at YS;symm;refine P9 (B5 (k:=Sum.inr x.1) YZ (d0 (by lia)) ?_);have e7:Pc.ts.take (i+1)=Pc.ts.take i++[x]:=by rw[KI,hx];rfl
    have fr:x.1∉(Pc.ts.take i).map (·.1):=λz=>by
     have w:((Pc.ts.take (i+1)).map (·.1)).Nodup:=SX.sublist ((Lv _ _).map _);rw[e7,Ki] at w;exact(Ks.mp w).2.2 x.1 z x.1 (by simp) rfl
    have ek:E9 e_ (Sum.inr x.1:j6) (.ref th)=e_++[(Sum.inr x.1,.ref th)]:=Q0 _ (N8 (by rw[Uw.keys];exact λm=>fr (Z4 m)));have YT:(C4 q o1 kvs H) c=none:=by rw[eR hcq];exact nc
    have cL:∀{v:V} {l:List Str},LstAt H6 v l->LstAt (upd H6 c (.dK (e_++[(Sum.inr x.1,V.ref th)]))) v l:=fun{v l} ⟨a,ea,z⟩=>⟨a,ea,by rw[b9 (λq=>by rw[q,YZ] at z;cases z)];exact z⟩
    have cP:∀{v:V} {F:Str->Str->List Str},PlAt H6 v F->PlAt (upd H6 c (.dK (e_++[(Sum.inr x.1,V.ref th)]))) v F:=fun{v F} ⟨t,kk,e,z,n,so⟩=>⟨t,kk,e,by rw[b9 (λq=>by rw[q,YZ] at z;cases z)];exact z,n,λA B v e=>cL (so A B v e)⟩
    walk_at "X";refine⟨e_++[(Sum.inr x.1,.ref th)],_,_,_,_,_,rfl,E7 (s3.trans s6) YT,by rw[d6,ek],?_⟩;rw[ek,e7];refine B9 (Paired.imp' (λ_ _ z=>⟨z.1,cP (z.2.same (m3.trans s6))⟩) Uw) ⟨rfl,cP ⟨th,kt,rfl,th6.at_,th6.no,λA B v e=>?_⟩⟩;obtain⟨l,e1,e2,_⟩:=th6.so A B v e;walk_at "X";exact⟨l,e1,e2⟩
  .rintro σ H2 ⟨e_,v1,v2,v3,v4,v5,rfl,s2,RJ,Uw⟩;refine⟨⟨s2 _ _ d6,Ke _⟩,?_⟩;symm;have Vf:H2 q=some (.frz o1 (.dK kvs)):=s2 _ _ d6;rw[Kl (by lia)] at Uw;exact k c _ e_ nc (Same.thaw hq s2) (thaw_at Vf RJ (λ_ _ z=>nomatch z)) (Paired.imp' (λkv x z=>⟨z.1,z.2.thaw Vf⟩) Uw)
def K5 (fx:List (Str×Str))(n:Str):Bool:=!decide (n∈fx.map (·.1))
def EN {td ty tx:TE}{σ:L2.St}{H:Hp}{Q:VK}(q:td σ H λx H1=>∃a,x= .ref a/\Hr H1 a/\ty σ H1 λy H2=>tx σ H2 λz H3=>∃o,DGet H3 a y o/\Q (o.getD z) H3):uw td ty tx σ H Q:=q
abbrev LsAt (H:Hp)(xs:List V)(ls:List (List Str)):Prop:=Paired (LstAt H) xs ls
def LsAt.same {H H':Hp}{xs:List V}{ls:List (List Str)}(h:LsAt H xs ls)(s:Same H H'):LsAt H' xs ls:=Paired.imp' (λ_ _ z=>z.same s) h
theorem iq:∀l d:List Str,V9 (l.map V.str) (d.map V.str)=decide (l=d)
 |[],[]=>rfl
 |[],_::_=>by simp [V9]
 |_::_,[]=>by simp [V9]
 |x::l,y::d=>by
  show(ej (.str x) (.str y)&&V9 (l.map V.str) (d.map V.str))=_;rw[iq l d,Lg];simp [ej]
def uH (H:Hp):V->List V
 | .ref a=>match H a with
  |some (.lst xs)=>xs
  |_=>[]
 |_=>[]
def rV {H:Hp}{v:V}{l:List Str}(h:LstAt H v l):uH H v=l.map V.str:=by
 obtain⟨a,rfl,z⟩:=h;show(match H a with|some (.lst xs)=>xs|_=>[])=_;rw[z]
theorem rD {H:Hp}{d:List Str}:∀{xs:List V} {ls:List (List Str)},LsAt H xs ls->xs.countP (λz=>V9 (uH H z) (d.map V.str))=ls.count d
 |_,_,.nil=>rfl
 |_,l::_,.cons a t=>by
  rw[OJ,List.count_cons,rD t,rV a,iq];by_cases e:l=d
  .rw[if_pos (KA e),if_pos (by simpa using e)]
  .rw[if_neg (by rw[KQ e];decide),if_neg (by simpa using e)]
def ox (K:Qc):Sp:=λvs H Q _=>∃(l:Addr) (xs:List V) (ls:List (List Str)),vs=[.ref l]/\H l=some (.lst xs)/\LsAt H xs ls/\ls.length<=60/\∀H',Same H H'->Q (.bl (yJ ls)) H'
abbrev lI:=λP w K mg base=>U0 P w K mg base F0 1 "enough" ["lists"] [] (ox K)
def xb {f fd}(T:Txt K mg)(F:Fun K "enough" "enough" kK f fd):C5 P w K mg base F0 1 f fd ["lists"] (ox K):=by
 walk_at "#sc_enough"
 .obtain⟨l,xs,ls,rfl,_⟩:=h;rfl
 .obtain⟨l,xs,ls,rfl,hl,hx,hn,k⟩:=h;have p_:=KW hx;walk_at "@sc_enough 8C~2~1~03wdrawn;0;r00h0kdrawn,lists;DE'0GA MX'0PySem.F.slot_list_count '0PySem.F.type_list_count '2jI &~e0160p60j";symm;refine A8 (SqL.of hl) ?_;refine z8 (n:=xs.length) (λi out H'=>H'=H/\out=(ls.take i).map λd=>V.bl (decide (ls.count d<=d.length))) ⟨rfl,rfl⟩ (λi out H' hi hp=>⟨xs,xs[i],SqL.of (by rw[hp.1];exact hl),Kc hi⟩) ?_ ?_
  .rintro N i v out H1' H1 hi ⟨rfl,rfl⟩ y hN';obtain⟨rfl,hy⟩:=Itl.get y (SqL.of hl);obtain⟨d,hd,a,rfl,hda⟩:=K8 hx hy;symm;refine⟨rfl,?_⟩;symm;refine⟨.inl ⟨rfl,_,SqL.of hl⟩,?_⟩;symm;refine⟨l,xs,.ref a,λz=>V9 (uH H1 z) (d.map V.str),rfl,rfl,hl,λz hz=>?_,?_⟩
   .obtain⟨j,hj⟩:=LZ hz;obtain⟨e,he,b,rfl,hb⟩:=K8 hx hj;exact⟨b,a,_,_,rfl,rfl,SqL.of hb,SqL.of hda,P8 _,P8 _,by show V9 (uH H1 (V.ref b)) _=_;rw[rV ⟨b,rfl,hb⟩]⟩
   .rw[rD hx];symm;refine F2 (u9 (SqL.of hda) ?_);rw[Kb];symm;refine⟨d0 (by rw[Kb,Kt];lia),hN' _ _ ⟨rfl,?_⟩⟩;have e:decide ((ls.count d:Int)<=(d.length:Int))=decide (ls.count d<=d.length):=by rw[Lg];simp
    rw[e];exact K3 (λd=>V.bl (decide (ls.count d<=d.length))) hd
  .rintro out H1 ⟨rfl,rfl⟩;refine⟨⟨_,SqL.of hl,Ke _⟩,λD hD=>⟨d0 (by rw[Kb,Kt];lia),?_⟩⟩;rw[Kl (by lia)];obtain⟨H2,e2,f2,m2,_⟩:=b5 (H:=H1) (o:= .lst (ls.map λd=>V.bl (decide (ls.count d<=d.length)))) hD;symm;change xm K _ (upd H1 D _) _;rw[e2];refine oi (bs:=ls.map λd=>decide (ls.count d<=d.length)) (SqL.of (by rw[f2,Lf];rfl)) ?_;have e:(ls.map λd=>decide (ls.count d<=d.length)).all id=yJ ls:=by unfold yJ;rw[Mt];rfl
   rw[e];exact k H2 m2
structure Sx (K:Qc) (H:Hp) (a p q c pl:Addr) (kvs B_ e_:List (j6×V)) (L:Str->Str->Bool) (Pc W:C9) (s1 s2 gp gt:List Str) (fx:List (Str×Str)):Prop where
 S:SrchP L Pc W s1 s2 gp gt fx
 at_:WebAt K H a p q kvs Pc
 hq:H q=some (.dK kvs)
 l1:(b7 Pc).length<=30
 l2:(b7 W).length<=30
 big:((b7 Pc).length+1)*(max W.pts.length W.ts.length+1) ^ ((b7 Pc).filter (K5 fx)).length<=1000000
 hc:H c=some (.dK B_)
 ch:ChAt H (λx=>tT L gp fx x.1) B_ Pc.pts
 hl:H pl=some (.dK e_)
 pls:PlsAt H (λx a b=>vf W gt fx x.1 (x.2.1,a,b)) e_ Pc.ts
def Sx.same {H H':Hp}{a p q c pl:Addr}{kvs B_ e_:List (j6×V)}{L:Str->Str->Bool}{Pc W:C9}{s1 s2 gp gt:List Str}{fx:List (Str×Str)}(h:Sx K H a p q c pl kvs B_ e_ L Pc W s1 s2 gp gt fx)(s:Same H H'):Sx K H' a p q c pl kvs B_ e_ L Pc W s1 s2 gp gt fx:=
 ⟨h.S,h.at_.mono s.le,s _ _ h.hq,h.l1,h.l2,h.big,s _ _ h.hc,h.ch.same s,s _ _ h.hl,h.pls.same s⟩
def rB {α : Type} {R : V -> Str × α -> Prop} : ∀ {kvs : List (j6 × V)} {ts : List (Str × α)} {x : Str × α}, Paired (λkv x => kv.1 = Sum.inr x.1 /\ R kv.2 x) kvs ts -> (ts.map (·.1)).Nodup -> x ∈ ts -> ∃ v, A4 kvs (Sum.inr x.1 : j6) = some v /\ R v x
 := by
  intro kvs ts x hp nd hx;induction hp with
  | nil => cases hx
  | @cons kv y r ts a t ih =>
    have nd' := LA.mp (show (y.1 :: ts.map (·.1)).Nodup from nd)
    rcases Lh.mp hx with z | z
    . subst z
      exact ⟨kv.2, J6 a.1, a.2⟩
    . obtain ⟨v, h1, h2⟩ := ih nd'.2 z
      refine ⟨v, ?_, h2⟩
      rw [K0 (by rw [a.1]; exact λe => nd'.1 (Kd.mpr ⟨x, z, (LW e).symm⟩))]; exact h1
def dI (K:Qc):Sp:=λvs H Q _=>∃(a p q c pl d:Addr) (kvs B_ e_ kvm:List (j6×V)) (L:Str->Str->Bool) (Pc W:C9) (s1 s2 gp gt:List Str) (fx:List (Str×Str)) (x:Str×N3),vs=[.ref a,.ref pl,.ref d,.str x.1]/\Sx K H a p q c pl kvs B_ e_ L Pc W s1 s2 gp gt fx/\x∈Pc.ts/\Rd H d (.dK kvm)/\TxtAt kvm x.2.2.1/\TxtAt kvm x.2.2.2/\
 ∀(v:V) (H':Hp),Same H H'->LstAt H' v (vf W gt fx x.1 (x.2.1,j4 kvm x.2.2.1,j4 kvm x.2.2.2))->Q v H'
abbrev bz:=λP w K mg base=>U0 P w K mg base F0 2 "tie_choices" ["piece","places","put","name"] [] (dI K)
def mj {f fd}(T:Txt K mg)(F5:Z3 P w K mg base)(F:Fun K "tie_choices" "tie_choices" bC f fd):C5 P w K mg base F0 2 f fd ["piece","places","put","name"] (dI K):=by
 walk_at "#sc_tie_choices"
 .obtain⟨a,p,q,c,pl,d,kvs,B_,e_,kvm,L,Pc,W,s1,s2,gp,gt,fx,x,rfl,_⟩:=h;rfl
 .obtain⟨a,p,q,c,pl,d,kvs,B_,e_,kvm,L,Pc,W,s1,s2,gp,gt,fx,x,rfl,X0,hx,hd,t1,t2,k⟩:=h;obtain⟨aa,hv,hT⟩:=dQ X0.at_.ts (O8 X0.S.nd) (show(x.1,x.2)∈Pc.ts from hx);walk_at "@sc_tie_choices 44.5'0F5 sq100362:2/8~yd10304H"
  symm;refine j9 X0.at_.tup ?_;symm;refine z0 (v:= .ref aa) (by have z:=K1 (k:=Sum.inr x.1) X0.at_.ties;rw[hv] at z;exact z) ?_;symm;refine⟨aa,d,x.2,kvm,rfl,hT,hd,t1,t2,λl1 H1 n1 m1 f1=>?_⟩;symm;refine gS (SqT.of f1) (by rintro⟨z,_⟩;exact absurd (show(1:Nat)=0 from z) (by decide)) (λl2 n2=>?_);obtain⟨H2,e2,f2,m2,_⟩:=b5 (o:= .tup [.str (j4 kvm x.2.2.1),.str (j4 kvm x.2.2.2)]) n2;rw[show fJ (ax (x.2.1,j4 kvm x.2.2.1,j4 kvm x.2.2.2)) (some 1) none=[V.str (j4 kvm x.2.2.1),.str (j4 kvm x.2.2.2)] from rfl,e2];have X2:=X0.same (m1.trans m2);obtain⟨v,N_,t,kt,rfl,ht,g_,hso⟩:=rB (R:=λv (x:Str×N3)=>PlAt H2 v λa b=>vf W gt fx x.1 (x.2.1,a,b)) (show Paired _ _ _ from X2.pls) (O8 X0.S.nd) hx;symm;refine EN ?_;symm;refine z0 (v:= .ref t) (by have z:=K1 (k:=Sum.inr x.1) (.inl X2.hl);rw[N_] at z;exact z) ?_;refine⟨t,rfl,.inr ⟨_,.inl ht⟩,?_⟩;symm;refine⟨d0 (by simp),λl3 n3=>?_⟩;obtain⟨H3,e3,f3,m3,_⟩:=b5 (o:= .lst []) n3;rw[e3];refine⟨_,DGet.t (k:=k2 (j4 kvm x.2.2.1) (j4 kvm x.2.2.2)) (m3 _ _ ht) (m3 _ _ f2),?_⟩;have C_:=m1.trans (m2.trans m3);cases hvk:A4 kt (k2 (j4 kvm x.2.2.1) (j4 kvm x.2.2.2)) with
  |none=>exact k _ H3 C_ ⟨l3,rfl,by rw[f3];have z:=g_ _ _ hvk;dsimp only at z;rw[z];rfl⟩
  |some v=>exact k _ H3 C_ ((hso _ _ _ hvk).same m3)
theorem gR:∀{nm b:List Str} {n x:Str},nm[b.length]?=some n->nm.zip (b++[x])=nm.zip b++[(n,x)]
 |[],b,n,x,h=>by simp at h
 |m::nm,[],n,x,h=>by
  have e:m=n:=by simpa using h
  subst e;simp
 |m::nm,y::b,n,x,h=>by
  have z:=gR (nm:=nm) (b:=b) (n:=n) (x:=x) (by simpa using h);show(m,y)::nm.zip (b++[x])=(m,y)::nm.zip b++[(n,x)];rw[z];rfl
def vy (nm:List Str):nm.map V.str=(nm.map (Sum.inr:Str->j6)).map kV:=by rw[Lf];rfl
def qH {nm b:List Str}(nd:nm.Nodup):bQ ((nm.map (Sum.inr:Str->j6)).zip (b.map V.str))=i7 (nm.zip b):=by
 have e:(nm.map (Sum.inr:Str->j6)).zip (b.map V.str)=i7 (nm.zip b):=by rw[List.zip_map];rfl
 rw[e,aK];rw[E6,←B6];exact Nc _ (λa b h z=>h (LW z)) (lq b nd)
def pQ {mm:List (Str×Str)}{n:Str}(h:n∈mm.map (·.1)):TxtAt (i7 mm) n:=⟨_,qU h⟩
def pB {nm b:List Str}{i:Nat}{n:Str}(h:nm[i]?=some n)(hi:i<b.length):n∈(nm.zip b).map (·.1):=Kd.mpr ⟨(n,b[i]),jS h (Kc hi),rfl⟩
def xi {nm b:List Str}{n:Str}(nd:nm.Nodup)(h:nm[b.length]?=some n):n∉(nm.zip b).map (·.1):=λz=>by
 have w:=lq (b++[n]) nd;rw[gR h,Ki] at w;exact(Ks.mp w).2.2 n z n (by simp) rfl
def jy (K:Qc):Sp:=λvs H Q _=>∃(a p q c pl d:Addr) (kvs B_ e_:List (j6×V)) (L:Str->Str->Bool) (Pc W:C9) (s1 s2 gp gt:List Str) (fx mm:List (Str×Str)) (n im:Str),vs=[.ref a,.ref pl,.ref d,.str n,.str im]/\Sx K H a p q c pl kvs B_ e_ L Pc W s1 s2 gp gt fx/\H d=some (.dK (i7 mm))/\mm.length<=60/\n∉mm.map (·.1)/\
 (∀x∈dv Pc.ts n,x.2.2.1∈(mm++[(n,im)]).map (·.1)/\x.2.2.2∈(mm++[(n,im)]).map (·.1))/\
 ∀H',Same H H'->Q (.bl (yJ ((dv Pc.ts n).map λx=>vf W gt fx x.1 (x.2.1,j4 (i7 (mm++[(n,im)])) x.2.2.1,j4 (i7 (mm++[(n,im)])) x.2.2.2)))) H'
def jd {α:Type}{p:α->Bool}{s:List α}{i:Nat}{x:α}(h:s[i]?=some x)(hp:p x=true):(s.take (i+1)).filter p=(s.take i).filter p++[x]:=by
 rw[KI,h,KP];show _++List.filter p [x]=_;rw[KR hp];rfl
def jb {α:Type}{p:α->Bool}{s:List α}{i:Nat}{x:α}(h:s[i]?=some x)(hp:p x=false):(s.take (i+1)).filter p=(s.take i).filter p:=by
 rw[KI,h,KP];show _++List.filter p [x]=_;rw[Ld (by rw[hp];decide)];simp
def CL {α:Type}{p:α->Bool}{s:List α}{i:Nat}:((s.take i).filter p).length<=s.length:=Kw (Km _ _) (by rw[Kt];lia)
abbrev ky:=λP w K mg base=>U0 P w K mg base F0 3 "has_room" ["piece","places","put","name","image"] [] (jy K)
def qx {f fd}(T:Txt K mg)(bL:lI P w K mg base)(O5:bz P w K mg base)(F:Fun K "has_room" "has_room" fc f fd):C5 P w K mg base F0 3 f fd ["piece","places","put","name","image"] (jy K):=by
 walk_at "#sc_has_room"
 .obtain⟨a,p,q,c,pl,d,kvs,B_,e_,L,Pc,W,s1,s2,gp,gt,fx,mm,n,im,rfl,_⟩:=h;rfl
 .obtain⟨a,p,q,c,pl,d,kvs,B_,e_,L,Pc,W,s1,s2,gp,gt,fx,mm,n,im,rfl,X0,hd,lm,nn,he,k⟩:=h;have Qv:=X0.at_.ts.length;have l1:=X0.l1;rw[C3] at l1;walk_at "@sc_has_room 45K62bA040503*6tie,told;3;+10vxc0ktie,told,name;c1ktie,told,name;yvLaNC'2Hy &O'0T.b_max ~v3.01:2/02jv0085'0bL 3wtie;015;r06h0ktie,piece,places,longer;D5'0O5 7172i30"
  symm;refine K6 (.inl hd) (λl1 n1=>?_);obtain⟨H1,e1,f1,m1,_⟩:=b5 (o:= .dK (i7 mm)) n1;rw[e1];symm;refine P9 (B5 (k:=Sum.inr n) f1 (d0 (by rw[k9];lia)) ?_);rw[Bt nn];have f2:(upd H1 l1 (.dK (i7 (mm++[(n,im)])))) l1=some (.dK (i7 (mm++[(n,im)]))):=d6;have m2:Same H (upd H1 l1 (.dK (i7 (mm++[(n,im)])))):=E7 m1 n1;generalize upd H1 l1 (.dK (i7 (mm++[(n,im)])))=H2 at f2 m2⊢;have X2:=X0.same m2;symm;refine j9 X2.at_.tup ?_;refine K4 X2.hq (λSl o3=>?_);refine z8 (n:=kvs.length) (λi out H'=>Same (C4 q o3 kvs H2) H'/\out=((Pc.ts.take i).filter λx=>decide (BK x.2.2.1 x.2.2.2=n)).map λx=>V.str x.1) ⟨Same.refl _,rfl⟩ (λi out H' hi hp=>⟨hp.1 _ _ d6,hi⟩) ?_ ?_
  .rintro N i v out H3' H3 hi ⟨s3,rfl⟩ ⟨t,kv,f_,nt,rfl,rfl⟩ hN';obtain⟨H4,e4,f4,m4,_⟩:=b5 (o:= .tup _) nt;rw[e4];have Ti:=(N9 (o:=o3) X2.hq).trans (s3.trans m4).le;have P4:=X2.at_.mono Ti;obtain⟨x,hx,ex,tb,eb,sb⟩:=P4.ts.get f_;obtain⟨kk,Rw⟩:=kv;have O':kk=Sum.inr x.1:=ex;have Rx:Rw= .ref tb:=eb;subst O' Rx;refine I0 (SqT.of f4) rfl ?_;symm;refine⟨rfl,?_⟩;symm;refine gS sb (by rintro⟨z,_⟩;exact absurd (show(1:Nat)=0 from z) (by decide)) (λl5 n5=>?_);obtain⟨H5,e5,f5,m5,_⟩:=b5 (o:= .tup [.str x.2.2.1,.str x.2.2.2]) n5;rw[show fJ (ax x.2) (some 1) none=[V.str x.2.2.1,.str x.2.2.2] from rfl,e5];symm;refine Ek (SqT.of f5) ?_;symm;rw[show(if x.2.2.1.cps.toList<x.2.2.2.cps.toList then x.2.2.2 else x.2.2.1)=BK x.2.2.1 x.2.2.2 from rfl];refine M9 (λh1=>?_) (λh1=>?_)
   .symm;refine⟨d0 (by rw[Kb];have:=CL (p:=λx:Str×N3=>decide (BK x.2.2.1 x.2.2.2=n)) (s:=Pc.ts) (i:=i);lia),hN' _ _ ⟨s3.trans (m4.trans m5),?_⟩⟩;rw[jd hx (KA h1),Ki];rfl
   .exact hN' _ _ ⟨s3.trans (m4.trans m5),by rw[jb hx (KQ h1)]⟩
  .rintro out H3 ⟨s3,rfl⟩;refine⟨⟨s3 _ _ d6,Ke _⟩,λD hD=>⟨d0 (by rw[Kb];have:=CL (p:=λx:Str×N3=>decide (BK x.2.2.1 x.2.2.2=n)) (s:=Pc.ts) (i:=kvs.length);lia),?_⟩⟩;rw[Kl (by lia)];change O7 _ _ _ (thaw q (upd H3 D (.lst ((dv Pc.ts n).map λx=>V.str x.1)))) _;have sM:=O4 X2.hq s3 hD (u:= .lst ((dv Pc.ts n).map λx=>V.str x.1));have fM:=aj s3 hD (u:= .lst ((dv Pc.ts n).map λx=>V.str x.1));generalize thaw q (upd H3 D (.lst ((dv Pc.ts n).map λx=>V.str x.1)))=HM at sM fM⊢;have XM:=X2.same sM;have VZ:∀x∈dv Pc.ts n,x∈Pc.ts:=λx hx=>(Kp.mp hx).1;have SM:(dv Pc.ts n).length<=30:=Kw (Km _ _) (by lia);generalize dv Pc.ts n=due at fM VZ SM he k;symm;refine A8 (SqL.of fM) ?_;refine z8 (n:=due.length) (λi out H'=>Same HM H'/\LsAt H' out ((due.take i).map λx=>vf W gt fx x.1 (x.2.1,j4 (i7 (mm++[(n,im)])) x.2.2.1,j4 (i7 (mm++[(n,im)])) x.2.2.2))) ⟨Same.refl _,.nil⟩ (λi out H' hi hp=>⟨_,.str (due[i]).1,SqL.of (hp.1 _ _ fM),by rw[Kh,Kc hi];rfl⟩) ?_ ?_
   .rintro N i v out H4' H4 hi ⟨s4,ls⟩ y hN';obtain⟨rfl,hy⟩:=Itl.get y (SqL.of (s4 _ _ fM));rw[Kh] at hy;obtain⟨x,hx,rfl⟩:=KN.mp hy;have D_:=Kr hx;symm;refine⟨rfl,?_⟩;symm;refine⟨a,p,q,c,pl,l1,kvs,B_,e_,_,L,Pc,W,s1,s2,gp,gt,fx,x,rfl,XM.same s4,VZ x D_,.inl (s4 _ _ (sM _ _ f2)),pQ (he x D_).1,pQ (he x D_).2,λv H5 m5 hv=>?_⟩;have VY:=KW ls;rw[Kb,Kt] at VY;refine⟨d0 (by lia),hN' _ _ ⟨s4.trans m5,?_⟩⟩;rw[show due.take (i+1)=due.take i++[x] by rw[KI,hx];rfl,Ki];exact B9 (LsAt.same ls m5) hv
   .rintro out H4 ⟨s4,ls⟩;have VY:=KW ls;rw[Kb,Kt] at VY;refine⟨⟨_,SqL.of (s4 _ _ fM),by rw[Kb];exact Ke _⟩,λD2 hD2=>⟨d0 (by lia),?_⟩⟩;rw[Kl (Ke _)] at ls;obtain⟨H5,e5,f5,m5,_⟩:=b5 (H:=H4) (o:= .lst out) hD2;change yg _ (upd H4 D2 _) _;rw[e5];symm;exact⟨D2,out,_,rfl,f5,LsAt.same ls m5,by rw[Kb];lia,λH6 m6=>k H6 (m2.trans (sM.trans (s4.trans (m5.trans m6))))⟩
def mZ (K:Qc):Sp:=λvs H Q _=>∃(a p q c pl bl:Addr) (kvs B_ e_:List (j6×V)) (L:Str->Str->Bool) (Pc W:C9) (s1 s2 gp gt:List Str) (fx:List (Str×Str)) (b:List Str),vs=[.ref a,.ref c,.ref pl,.ref bl]/\Sx K H a p q c pl kvs B_ e_ L Pc W s1 s2 gp gt fx/\H bl=some (.lst (b.map V.str))/\b.length<(s1++s2).length/\Gr H Q λss=>ss=aL L Pc W gp gt fx (s1++s2) b
abbrev qv:=λP w K mg base=>U0 P w K mg base F0 4 "images" ["piece","choices","places","begun"] [] (mZ K)
def xJ {f fd}(T:Txt K mg)(C0:V5 P w K mg base)(O5:bz P w K mg base)(eV:ky P w K mg base)(F:Fun K "images" "images" kG f fd):C5 P w K mg base F0 4 f fd ["piece","choices","places","begun"] (mZ K):=by
 walk_at "#sc_images"
 .obtain⟨a,p,q,c,pl,bl,kvs,B_,e_,L,Pc,W,s1,s2,gp,gt,fx,b,rfl,_⟩:=h;rfl
 .obtain⟨a,p,q,c,pl,bl,kvs,B_,e_,L,Pc,W,s1,s2,gp,gt,fx,b,rfl,X0,hb,YX,k⟩:=h;have S:=X0.S;have nn:=S.nn;have Vg:=S.o.len;have l1:=X0.l1;have l2:=X0.l2;have lgt:gt.length<=30:=by rw[S.o'.p2.length_eq,Kb];rw[C3] at l2;lia
  have YM:gp.length<=30:=by rw[S.o'.p1.length_eq,Kb];rw[C3] at l2;lia
  obtain⟨n,hn⟩:∃n,(s1++s2)[b.length]?=some n:=⟨_,Kc YX⟩
  walk_at "@sc_images 445>6045d4p6346~w&~6Oi43bnaF0510o8wimage;3;r5'0O5 7072i65h0kimage,begun;LaB0001o00*7image;3;rd105vh0kimage,begun;vLaB0001ov008wimage;0265;r07h0kimage,piece,places,put,name;L`5'0eV 717273i4000"
  symm;refine⟨a,p,q,kvs,Pc,rfl,X0.at_,by lia,λln H1 r1 r2 n1 m1 f1 or=>?_⟩;have V':r1=s1:=N6 or.o1 S.o.o1 (or.p1.nodup_iff.mpr (E5 S.nd)) (or.p1.trans S.o.p1.symm);have V_:r2=s2:=N6 or.o2 S.o.o2 (or.p2.nodup_iff.mpr (O8 S.nd)) (or.p2.trans S.o.p2.symm);subst V' V_;symm;refine F2 (u9 (SqL.of (m1 _ _ hb)) ?_);rw[Kb];refine j5 (SqL.of f1) (i:=(b.length:Int)) (v:= .str n) (k7 (j:=b.length) (by rw[Kh,hn];rfl)) ?_;symm;refine⟨ln,bl,(r1++r2).map Sum.inr,b.map V.str,rfl,by rw[←vy];exact SqL.of f1,SqL.of (m1 _ _ hb),λd nd=>?_⟩;rw[qH nn];obtain⟨H2,e2,f2,m2,_⟩:=b5 (o:= .dK (i7 ((r1++r2).zip b))) nd;rw[e2];have H_:=m1.trans m2;have X2:=X0.same H_;have QB:=H_ _ _ hb;symm;refine j9 X2.at_.tup ?_;symm;refine aF (K1 (k:=Sum.inr n) X2.at_.ties) ?_;rw[Y6 X2.at_.ts];symm;have Ry:∀(p:Str->Bool) (l:List Str),l.length<=30->∀i,((l.take i).filter p).length<=1000:=λp l hl i=>Kw iw (by lia);refine M9 (λh1=>?_) (λh1=>?_)
  .have hle:r1.length<=b.length:=by
    rcases S.is1 hn with⟨z,_⟩|⟨_,z⟩
    .exact absurd h1 z
    .exact z
   have m_:=dy h1;have he:=S.ends _ m_;obtain⟨j1,hj1,SI⟩:=S.pt_idx he.1;obtain⟨j2,hj2,Tf⟩:=S.pt_idx he.2;symm;refine⟨a,p,q,c,pl,d,kvs,B_,e_,_,L,Pc,W,r1,r2,gp,gt,fx,(n,N0 Pc.ts n),rfl,X2,m_,.inl f2,pQ (pB SI (by lia)),pQ (pB Tf (by lia)),λv H3 m3 hv=>?_⟩;obtain⟨lv,rfl,O_⟩:=hv;have etc:vf W gt fx n ((N0 Pc.ts n).1,j4 (i7 ((r1++r2).zip b)) (N0 Pc.ts n).2.1,j4 (i7 ((r1++r2).zip b)) (N0 Pc.ts n).2.2)=wg W gt fx (r1++r2) b (n,N0 Pc.ts n):=rfl;dsimp only at O_;rw[etc] at O_;have I_:(wg W gt fx (r1++r2) b (n,N0 Pc.ts n)).length<=30:=Kw (Km _ _) lgt;generalize Y_:wg W gt fx (r1++r2) b (n,N0 Pc.ts n)=tc at O_ I_;refine A8 (SqL.of O_) ?_;refine z8 (n:=tc.length) (λi out H'=>Same H3 H'/\out=((tc.take i).filter λx=>!decide (x∈b)).map V.str) ⟨Same.refl _,rfl⟩ (λi out H' hi hp=>⟨_,.str (tc[i]),SqL.of (hp.1 _ _ O_),by rw[Kh,Kc hi];rfl⟩) ?_ ?_
   .rintro N i v out H4' H4 hi ⟨s4,rfl⟩ y hN';obtain⟨rfl,hy⟩:=Itl.get y (SqL.of (s4 _ _ O_));rw[Kh] at hy;obtain⟨x,hx,rfl⟩:=KN.mp hy;symm;refine⟨rfl,?_⟩;symm;refine J2 (gs:=b) (SqL.of (s4 _ _ (m3 _ _ QB))) ?_;symm;refine aH (λh2=>?_) (λh2=>?_)
    .symm;refine⟨d0 (by rw[Kb];exact Ry _ _ I_ _),hN' _ _ ⟨s4,?_⟩⟩;rw[wq hx h2,Ki];rfl
    .exact hN' _ _ ⟨s4,by rw[tV hx h2]⟩
   .rintro out H4 ⟨s4,rfl⟩;refine⟨⟨_,SqL.of (s4 _ _ O_),by rw[Kb];exact Ke _⟩,λD hD=>⟨d0 (by rw[Kb];exact Ry _ _ I_ _),?_⟩⟩;rw[Kl (Ke _)];obtain⟨H5,e5,f5,m5,_⟩:=b5 (H:=H4) (o:= .lst ((tc.filter λx=>!decide (x∈b)).map V.str)) hD;show Q _ (upd H4 D _);rw[e5];refine k D H5 _ (H_.free (m3.free (s4.free hD))) (H_.trans (m3.trans (s4.trans m5))) f5 ?_;unfold aL;rw[hn];dsimp only;rw[if_pos h1,Y_]
  .have n_:b.length<r1.length:=by
    rcases S.is1 hn with⟨_,z⟩|⟨z,_⟩
    .exact z
    .exact absurd z h1
   have hm:n∈Pc.pts.map (·.1):=by
    rcases Kg.mp (S.o.mem.mp (Kr hn)) with z|z
    .exact z
    .exact absurd z h1
   obtain⟨y,hy,ey⟩:=Kd.mp hm;obtain⟨v,hv,lv,rfl,O_⟩:=rB (R:=λv (x:Str×Str)=>LstAt H2 v (tT L gp fx x.1)) (show Paired _ _ _ from X2.ch) (E5 S.nd) hy;rw[ey] at hv O_;have I_:(tT L gp fx n).length<=30:=Kw (Km _ _) (Kw (Km _ _) YM);generalize Y_:tT L gp fx n=tc at O_ I_;symm;refine z0 (v:= .ref lv) (by have z:=K1 (k:=Sum.inr n) (.inl X2.hc);rw[hv] at z;exact z) ?_;refine A8 (SqL.of O_) ?_;refine z8 (n:=tc.length) (λi out H'=>Same H2 H'/\out=((tc.take i).filter λx=>!decide (x∈b)).map V.str) ⟨Same.refl _,rfl⟩ (λi out H' hi hp=>⟨_,.str (tc[i]),SqL.of (hp.1 _ _ O_),by rw[Kh,Kc hi];rfl⟩) ?_ ?_
   .rintro N i v out H4' H4 hi ⟨s4,rfl⟩ y hN';obtain⟨rfl,hy⟩:=Itl.get y (SqL.of (s4 _ _ O_));rw[Kh] at hy;obtain⟨x,hx,rfl⟩:=KN.mp hy;symm;refine⟨rfl,?_⟩;symm;refine J2 (gs:=b) (SqL.of (s4 _ _ QB)) ?_;symm;refine aH (λh2=>?_) (λh2=>?_)
    .symm;refine⟨d0 (by rw[Kb];exact Ry _ _ I_ _),hN' _ _ ⟨s4,?_⟩⟩;rw[wq hx h2,Ki];rfl
    .exact hN' _ _ ⟨s4,by rw[tV hx h2]⟩
   .rintro out H4 ⟨s4,rfl⟩;refine⟨⟨_,SqL.of (s4 _ _ O_),by rw[Kb];exact Ke _⟩,λD hD=>⟨d0 (by rw[Kb];exact Ry _ _ I_ _),?_⟩⟩;rw[Kl (Ke _)];obtain⟨H5,e5,f5,m5,_⟩:=b5 (H:=H4) (o:= .lst ((tc.filter λx=>!decide (x∈b)).map V.str)) hD;have TM:(tc.filter λx=>!decide (x∈b)).length<=30:=Kw (Km _ _) I_;generalize hun:(tc.filter λx=>!decide (x∈b))=un at e5 f5 TM⊢;change O7 _ _ _ (upd H4 D _) _;rw[e5];have Rz:=s4.trans m5;have X5:=X2.same Rz;symm;refine A8 (SqL.of f5) ?_;refine z8 (n:=un.length) (λi out H'=>Same H5 H'/\out=((un.take i).filter λim=>yJ ((dv Pc.ts n).map (wg W gt fx (r1++r2) (b++[im])))).map V.str) ⟨Same.refl _,rfl⟩ (λi out H' hi hp=>⟨_,.str (un[i]),SqL.of (hp.1 _ _ f5),by rw[Kh,Kc hi];rfl⟩) ?_ ?_
    .rintro N i v out H6' H6 hi ⟨s6,rfl⟩ y hN';obtain⟨rfl,hy⟩:=Itl.get y (SqL.of (s6 _ _ f5));rw[Kh] at hy;obtain⟨x,hx,rfl⟩:=KN.mp hy;symm;refine⟨rfl,?_⟩;symm;have Us:r1[b.length]=n:=by
      rw[Lm n_,Kc n_] at hn;exact KG hn
     have ends:∀t∈dv Pc.ts n,t.2.2.1∈((r1++r2).zip b++[(n,x)]).map (·.1)/\t.2.2.2∈((r1++r2).zip b++[(n,x)]).map (·.1):=λt ht=>by
      unfold dv at ht;rw[Kp,KJ] at ht;have he:=S.ends t ht.1;rw[←gR hn];have q1:¬(r1[b.length].cps.toList<t.2.2.1.cps.toList):=by
       rw[Us,←ht.2];unfold BK;split
       .next z=>exact OC z
       .exact Om _
      have q2:¬(r1[b.length].cps.toList<t.2.2.2.cps.toList):=by
       rw[Us,←ht.2];unfold BK;split
       .exact Om _
       .next z=>exact z
      obtain⟨j1,a1,b1⟩:=jV S n_ he.1 q1;obtain⟨j2,a2,b2⟩:=jV S n_ he.2 q2;exact⟨pB b1 (by rw[Kj,Ku];lia),pB b2 (by rw[Kj,Ku];lia)⟩
     refine⟨a,p,q,c,pl,d,kvs,B_,e_,L,Pc,W,r1,r2,gp,gt,fx,(r1++r2).zip b,n,x,rfl,X5.same s6,s6 _ _ (Rz _ _ f2),by rw[Na];lia,xi nn hn,ends,λH7 m7=>?_⟩;have een:((dv Pc.ts n).map λt=>vf W gt fx t.1 (t.2.1,j4 (i7 ((r1++r2).zip b++[(n,x)])) t.2.2.1,j4 (i7 ((r1++r2).zip b++[(n,x)])) t.2.2.2))=(dv Pc.ts n).map (wg W gt fx (r1++r2) (b++[x])):=by
      rw[←gR hn];rfl
     rw[een];symm;refine aH (λh2=>?_) (λh2=>?_)
     .symm;refine⟨d0 (by rw[Kb];exact Ry _ _ TM _),hN' _ _ ⟨s6.trans m7,?_⟩⟩;rw[wq hx h2,Ki];rfl
     .exact hN' _ _ ⟨s6.trans m7,by rw[tV hx h2]⟩
    .rintro out H6 ⟨s6,rfl⟩;refine⟨⟨_,SqL.of (s6 _ _ f5),by rw[Kb];exact Ke _⟩,λD2 hD2=>⟨d0 (by rw[Kb];exact Ry _ _ TM _),?_⟩⟩;rw[Kl (Ke _)];obtain⟨H7,e7,f7,m7,_⟩:=b5 (H:=H6) (o:= .lst ((un.filter λim=>yJ ((dv Pc.ts n).map (wg W gt fx (r1++r2) (b++[im])))).map V.str)) hD2;show Q _ (upd H6 D2 _);rw[e7];refine k D2 H7 _ (H_.free (Rz.free (s6.free hD2))) (H_.trans (Rz.trans (s6.trans m7))) f7 ?_;unfold aL;rw[hn];dsimp only;rw[if_neg h1,Y_,hun]
def ndL (img:List Str->List Str):Nat->List Str->Nat
 |0,_=>1
 |k+1,b=>1+((img b).map λx=>ndL img k (b++[x])).sum
theorem pV {α:Type}{f:α->Nat}{B:Nat}:∀{l:List α},(∀x∈l,f x<=B)->(l.map f).sum<=l.length*B
 |[],_=>by simp
 |x::l,h=>by
  have z:=pV (l:=l) λy hy=>h y (KL _ hy);have z1:=h x Kz;rw[Lk,OD,Lq,PU];lia
def Dk {img:List Str->List Str}{k:Nat}{b:List Str}:1<=ndL img k b:=by
 cases k with
 |zero=>exact Ke _
 |succ k=>show 1<=1+_;lia
theorem vq {α:Type}{f:α->Nat}:∀{l:List α},(∀x∈l,1<=f x)->l.length<=(l.map f).sum
 |[],_=>Ke _
 |x::l,h=>by
  have z:=vq (l:=l) λy hy=>h y (KL _ hy);have z1:=h x Kz;rw[Lk,OD,Lq];lia
def uW {L:Str->Str->Bool}{Pc W:C9}{s1 s2 gp gt:List Str}{fx:List (Str×Str)}(S:SrchP L Pc W s1 s2 gp gt fx)(b:List Str):(aL L Pc W gp gt fx (s1++s2) b).length<=max W.pts.length W.ts.length:=by
 have h1:=S.o'.p1.length_eq;have h2:=S.o'.p2.length_eq;rw[Kb] at h1 h2;unfold aL;split
 .simp
 .split
  .exact Kw (Km _ _) (Kw (Km _ _) (by lia))
  .exact Kw (Km _ _) (Kw (Km _ _) (Kw (Km _ _) (Kw (Km _ _) (by lia))))
theorem vn {c:Str}:∀{l:List Str},l.Nodup->(∀x∈l,x=c)->l.length<=1
 |[],_,_=>LJ _
 |[_],_,_=>Ke _
 |x::y::l,nd,h=>by
  have e1:=h x (by simp);have e2:=h y (by simp);rw[e1,e2] at nd;exact absurd Kz (LA.mp nd).1
def AL {L:Str->Str->Bool}{Pc W:C9}{s1 s2 gp gt:List Str}{fx:List (Str×Str)}(S:SrchP L Pc W s1 s2 gp gt fx){b:List Str}{n:Str}(hn:(s1++s2)[b.length]?=some n)(hf:n∈fx.map (·.1)):(aL L Pc W gp gt fx (s1++s2) b).length<=1:=by
 have Uu:gp.Nodup:=S.o'.p1.nodup_iff.mpr (E5 S.nd');have ndt:gt.Nodup:=S.o'.p2.nodup_iff.mpr (O8 S.nd');have hm:∀im,X1 fx n im=true->im=j4 (i7 fx) n:=λim h=>by
  unfold X1 at h;rw[if_pos hf] at h;exact Ly h
 unfold aL;rw[hn];show(if _ then _ else _:List Str).length<=1;split
 .refine vn (c:=j4 (i7 fx) n) ((ndt.sublist Ll).sublist Ll) λx hx=>?_;have z:=(Kp.mp (Kp.mp hx).1).2;exact hm x (Bool.and_eq_true_iff.mp z).2
 .refine vn (c:=j4 (i7 fx) n) ((((Uu.sublist Ll).sublist Ll).sublist Ll).sublist Ll) λx hx=>?_;exact hm x (Kp.mp (Kp.mp (Kp.mp hx).1).1).2
theorem zX {L:Str->Str->Bool}{Pc W:C9}{s1 s2 gp gt:List Str}{fx:List (Str×Str)}(S:SrchP L Pc W s1 s2 gp gt fx):∀(k:Nat) (b:List Str),b.length+k=(s1++s2).length->ndL (aL L Pc W gp gt fx (s1++s2)) k b<=(k+1)*(max W.pts.length W.ts.length+1) ^ (((s1++s2).drop b.length).filter (K5 fx)).length
 |0,b,_=>by
  show 1<=_;rw[Nat.zero_add,PX];exact Nat.one_le_pow _ _ (by lia)
 |k+1,b,hk=>by
  obtain⟨n,hn⟩:∃n,(s1++s2)[b.length]?=some n:=⟨_,Kc (by lia)⟩
  have hd:(s1++s2).drop b.length=n::(s1++s2).drop (b.length+1):=by
   rw[Me (by lia)];rw[Kc (by lia)] at hn;rw[KG hn]
  have hM:=uW S b;generalize hMM:max W.pts.length W.ts.length=M at*;have ih:∀x∈aL L Pc W gp gt fx (s1++s2) b,ndL (aL L Pc W gp gt fx (s1++s2)) k (b++[x])<=(k+1)*(M+1) ^ (((s1++s2).drop (b.length+1)).filter (K5 fx)).length:=λx _=>by
   have z:=zX S k (b++[x]) (by rw[Kj,Ku];lia);rw[Kj,Ku,hMM] at z;exact z
  have z:=pV (f:=λx=>ndL (aL L Pc W gp gt fx (s1++s2)) k (b++[x])) ih;have z2:1<=(M+1) ^ (((s1++s2).drop (b.length+1)).filter (K5 fx)).length:=Nat.one_le_pow _ _ (by lia);show 1+_<=(k+1+1)*_;rw[hd,Mj];generalize hc:(((s1++s2).drop (b.length+1)).filter (K5 fx)).length=c at*;by_cases hf:n∈fx.map (·.1)
  .have h1:=AL S hn hf;rw[if_neg (by unfold K5;simp [hf]),hc];have z3:(aL L Pc W gp gt fx (s1++s2) b).length*((k+1)*(M+1) ^ c)<=1*((k+1)*(M+1) ^ c):=Mv _ h1;rw[PU (k+1) 1];lia
  .rw[if_pos (by unfold K5;simp [hf]),Lq,hc,Ra];have z3:(aL L Pc W gp gt fx (s1++s2) b).length*((k+1)*(M+1) ^ c)<=M*((k+1)*(M+1) ^ c):=Mv _ hM;have e1:(k+1+1)*((M+1) ^ c*(M+1))=M*((k+1)*(M+1) ^ c)+((k+1)*(M+1) ^ c+((M+1) ^ c*(M+1))):=by
    rw[PU (k+1) 1,PX,←Nat.mul_assoc (k+1),Nat.mul_add ((k+1)*(M+1) ^ c) M 1,Nat.mul_one,Nat.mul_comm ((k+1)*(M+1) ^ c) M];lia
   rw[e1];have z4:1<=(k+1)*(M+1) ^ c:=Nat.mul_pos (by lia) z2;lia
def AF (mo:Option Nat)(rows:List (List Str)):List (List Str):=match mo with
 |none=>rows
 |some k=>rows.take k
def JB (mo:Option Nat)(n:Int):Bool:=match mo with
 |none=>true
 |some k=>!decide (n=(k:Int))
def Fc (mv:V)(mo:Option Nat):Prop:=(mv= .non/\mo=none)\/(mv= .int 1/\mo=some 1)
def LoAt (H:Hp)(t w:Addr)(xs:List V)(ls:List (List Str)):Prop:=Paired (λv l=>∃a,v=V.ref a/\a≠t/\a≠w/\H a=some (.lst (l.map V.str))) xs ls
def LoAt.same {H H':Hp}{t w:Addr}{xs:List V}{ls:List (List Str)}(h:LoAt H t w xs ls)(s:Same H H'):LoAt H' t w xs ls:=Paired.imp' (λ_ _ ⟨a,e,n,m,z⟩=>⟨a,e,n,m,s _ _ z⟩) h
def LoAt.upT {H:Hp}{t w:Addr}{xs:List V}{ls:List (List Str)}{u:HO}(h:LoAt H t w xs ls):LoAt (upd H t u) t w xs ls:=Paired.imp' (λ_ _ ⟨a,e,n,m,z⟩=>⟨a,e,n,m,by rw[b9 n];exact z⟩) h
def LoAt.upW {H:Hp}{t w:Addr}{xs:List V}{ls:List (List Str)}{u:HO}(h:LoAt H t w xs ls):LoAt (upd H w u) t w xs ls:=Paired.imp' (λ_ _ ⟨a,e,n,m,z⟩=>⟨a,e,n,m,by rw[b9 m];exact z⟩) h
def oY {α β : Type} {F : α -> β -> Prop} : ∀ {xs : List α} {ls : List β}, Paired F xs ls -> xs ≠ [] -> ∃ Xl x Xm l, xs = Xl ++ [x] /\ ls = Xm ++ [l] /\ Paired F Xl Xm /\ F x l
 := by
  intro xs ls hp G_;induction hp with
  | nil => exact absurd rfl G_
  | @cons x l xs ls a t ih =>
    cases t with
    | nil => exact ⟨[], x, [], l, rfl, rfl, .nil, a⟩
    | cons b t' =>
      obtain ⟨Xl, x', Xm, l', e1, e2, h1, h2⟩ := ih (by simp)
      exact ⟨x :: Xl, x', l :: Xm, l', by rw [e1]; rfl, by rw [e2]; rfl, .cons a h1, h2⟩
structure LI (mo:Option Nat) (K:Qc) (img:List Str->List Str) (n:Nat) (H0 H':Hp) (tl wl:Addr) (xt xw:List V) (rows bs:List (List Str)) (m:Nat):Prop where
 s:Same H0 H'
 ht:H' tl=some (.lst xt)
 hw:H' wl=some (.lst xw)
 lt:LoAt H' tl wl xt rows
 lw:LoAt H' tl wl xw bs
 bl:∀b∈bs,b.length<=n
 sum:m=(bs.map λb=>ndL img (n -b.length) b).sum
 all:rows++bs.reverse.flatMap (λb=>iD img (n -b.length) b)=iD img n []
 big:rows.length+m<=1000000
 le1:mo=some 1->rows.length<=1
def rN (K:Qc):Sp:=λvs H Q _=>∃(a p q c pl:Addr) (kvs B_ e_:List (j6×V)) (L:Str->Str->Bool) (Pc W:C9) (s1 s2 gp gt:List Str) (fx:List (Str×Str)) (mv:V) (mo:Option Nat),vs=[.ref a,.ref c,.ref pl,mv]/\Fc mv mo/\Sx K H a p q c pl kvs B_ e_ L Pc W s1 s2 gp gt fx/\
 ∀(l:Addr) (H':Hp) (xs:List V),H l=none->Same H H'->H' l=some (.lst xs)->LsAt H' xs (AF mo (jv Pc W s1 s2 gp gt fx))->(jv Pc W s1 s2 gp gt fx).length<=1000000->Q (.ref l) H'
def iK {n:Nat}(h:n<=2000000):n<sizeLine:=Oe h (by decide)
def qg {H:Hp}{Q:VK}{i:Int}(q:Q (.bl true) H):nV K (.int i) .non H Q:= .inl (.inl (.inl ⟨rfl,by simpa using q⟩))
def wC {H:Hp}{Q:VK}{i:Int}{mv:V}{mo:Option Nat}(h:Fc mv mo)(q:Q (.bl (JB mo i)) H):nV K (.int i) mv H Q:=by
 rcases h with⟨rfl,rfl⟩|⟨rfl,rfl⟩
 .exact qg q
 .exact rP q
theorem vI {img:List Str->List Str}:∀{k:Nat} {b:List Str},(iD img k b).length<=ndL img k b
 |0,_=>Ke _
 |k+1,b=>by
  show((img b).flatMap λx=>iD img k (b++[x])).length<=1+((img b).map λx=>ndL img k (b++[x])).sum;rw[NY];have z:((img b).map λx=>(iD img k (b++[x])).length).sum<=((img b).map λx=>ndL img k (b++[x])).sum:=by
   generalize img b=l;induction l with
   |nil=>exact Ke _
   |cons x l ih=>
    rw[Lk,Lk,OD,OD]
    exact Nat.add_le_add vI ih
  lia
abbrev uP:=λP w K mg base=>U0 P w K mg base F0 5 "lines" ["piece","choices","places","most"] [] (rN K)
def yn {f fd}(T:Txt K mg)(C0:V5 P w K mg base)(ki:qv P w K mg base)(F:Fun K "lines" "lines" pU f fd):C5 P w K mg base F0 5 f fd ["piece","choices","places","most"] (rN K):=by
 walk_at "#sc_lines"
 .obtain⟨a,p,q,c,pl,kvs,B_,e_,Lr,Pc,W,s1,s2,gp,gt,fx,mv,mo,rfl,_⟩:=h;rfl
 .obtain⟨a,p,q,c,pl,kvs,B_,e_,Lr,Pc,W,s1,s2,gp,gt,fx,mv,mo,rfl,Vh,X0,k⟩:=h;have S:=X0.S;have Vg:=S.o.len;have l1:=X0.l1;have l2:=X0.l2;have l2':=l2;rw[C3] at l2';have Uz:=Ax S;have hM:=uW S;have Za:=zX S (s1++s2).length [] (by simp);have RA:=X0.big;rw[←Vg,←(S.o.perm.filter (K5 fx)).length_eq] at RA;rw[show([]:List Str).length=0 from rfl,Oi] at Za;walk_at "@sc_lines 445>6045H46U3Hb'3DC uI)`06?a(p6503j47_X'0PySem.F.slot_list_pop '0PySem.F.type_list_pop '0pF 06e'3bD aNp67p64jeQMX=<;0567etu~z&35'0ki 7071i27h89eQMX=<;063f07U68805"
  symm;refine⟨a,p,q,kvs,Pc,rfl,X0.at_,by lia,λln H1 r1 r2 n1 m1 f1 or=>?_⟩;have V':r1=s1:=N6 or.o1 S.o.o1 (or.p1.nodup_iff.mpr (E5 S.nd)) (or.p1.trans S.o.p1.symm);have V_:r2=s2:=N6 or.o2 S.o.o2 (or.p2.nodup_iff.mpr (O8 S.nd)) (or.p2.trans S.o.p2.symm);subst V' V_;symm;refine⟨d0 (by simp),λtl ntl=>?_⟩;obtain⟨H2,e2,f2,m2,_⟩:=b5 (o:= .lst []) ntl;rw[e2];symm;refine⟨d0 (by simp),λl3 n3=>?_⟩;obtain⟨H3,e3,f3,m3,_⟩:=b5 (o:= .lst []) n3;rw[e3];symm;refine⟨d0 (by simp),λwl nwl=>?_⟩;obtain⟨H4,e4,f4,m4,_⟩:=b5 (o:= .lst [.ref l3]) nwl;rw[e4];symm;have Xn:=m4 _ _ (m3 _ _ f2);have f3':=m4 _ _ f3;have h3t:l3≠tl:=(d9 f2 n3).symm;have h3w:l3≠wl:=d9 f3 nwl;have Zb:tl≠wl:=d9 (m3 _ _ f2) nwl;have Vi:=m2.trans (m3.trans m4);have Wa:H1 wl=none:=m2.free (m3.free nwl);generalize hN:(r1++r2).length=n at*;generalize Zc:aL Lr Pc W gp gt fx (r1++r2)=img at*;refine⟨λm σ H'=>∃(xt xw:List V) (rows bs:List (List Str)) (v1 v2:Option V),σ=[some (.ref a),some (.ref c),some (.ref pl),some mv,some (.ref ln),some (.ref tl),some (.ref wl),v1,v2]/\LI mo K img n H1 H' tl wl xt xw rows bs m,⟨_,[],[.ref l3],[],[[]],none,none,rfl,⟨Vi,Xn,f4,.nil,.cons ⟨l3,rfl,h3t,h3w,f3'⟩ .nil,(λb hb=>by rw[Kq.mp hb];exact LJ _),rfl,by simp,?_,λ_=>LJ _⟩⟩,?_⟩
  .show 0+(ndL img n []+0)<=1000000;lia
  rintro m σ H5 ⟨xt,xw,rows,bs,v1,v2,rfl,L⟩;have RM:bs.length<=m:=by rw[L.sum];exact vq λ_ _=>Dk
  have VF:=KW L.lw;have Vc:=KW L.lt;have hb5:=L.big;symm;refine⟨!xw.isEmpty,.inl ⟨_,SqL.of L.hw,rfl⟩,?_⟩;cases TN:xw.isEmpty with
  |true=>
   symm
   have s_:xw=[]:=by simpa using TN
   have K':bs=[]:=by
    have:bs.length=0:=by rw[←VF,s_];rfl
    exact Ml this
   have ha:=L.all
   rw[K'] at ha
   simp only[List.reverse_nil,List.flatMap_nil,Lb] at ha
   rw[Uz] at ha
   have hle:=L.le1
   refine k tl H5 xt (m1.free ntl) (m1.trans L.s) L.ht ?_ ?_
   .rw[←ha]
    have e:AF mo rows=rows:=by
     rcases Vh with⟨_,rfl⟩|⟨_,rfl⟩
     .rfl
     .exact Kl (hle rfl)
    rw[e]
    exact Paired.imp' (λ_ _ ⟨a,e,_,_,z⟩=>⟨a,e,z⟩) L.lt
   .rw[←ha];lia
  |false=>
   have Zd:xw≠[]:=by
    intro z;rw[z] at TN;cases TN
   symm
   refine F2 (u9 (SqL.of L.ht) ?_)
   symm
   refine wC Vh ?_
   symm
   refine aH (λRh=>?_) (λRh=>?_)
   case refine_2=>
    symm
    have o_:=L.all
    rw[Uz] at o_
    have h1:mo=some 1/\rows.length=1:=by
     rcases Vh with⟨_,rfl⟩|⟨_,rfl⟩
     .cases Rh
     .refine⟨rfl,?_⟩;have z:(!decide ((xt.length:Int)=((1:Nat):Int)))=false:=Rh;simp at z;lia
    have hel:=vI (img:=img) (k:=n) (b:=[])
    rw[Uz] at hel
    refine k tl H5 xt (m1.free ntl) (m1.trans L.s) L.ht ?_ (by lia)
    rw[h1.1,←o_]
    show LsAt H5 xt (List.take 1 _)
    rw[List.take_append_of_le_length (by lia),Kl (by lia)]
    exact Paired.imp' (λ_ _ ⟨a,e,_,_,z⟩=>⟨a,e,z⟩) L.lt
   have Ze:mo=some 1->rows.length=0:=λe=>by
    have z:=L.le1 e;subst e;have z2:(!decide ((xt.length:Int)=((1:Nat):Int)))=true:=Rh;simp at z2;lia
   refine⟨λσ' H'=>∃m',m'<m/\∃(xt xw:List V) (rows bs:List (List Str)) (v1 v2:Option V),σ'=[some (.ref a),some (.ref c),some (.ref pl),some mv,some (.ref ln),some (.ref tl),some (.ref wl),v1,v2]/\LI mo K img n H1 H' tl wl xt xw rows bs m',λσ' H' z=>z,?_⟩
   obtain⟨RB,xv,L_,b,exw,Vj,lw',a5,rfl,hat,Zf,hb⟩:=oY L.lw Zd
   have hmb:b∈bs:=by rw[Vj];simp
   have hbn:=L.bl b hmb
   have RC:=L.sum
   rw[Vj,Ki,List.sum_append] at RC
   have Us:([b].map λb=>ndL img (n -b.length) b).sum=ndL img (n -b.length) b:=by simp
   rw[Us] at RC
   have o_:=L.all
   rw[Vj,PY,List.reverse_singleton,List.singleton_append,MD] at o_
   have hb'l:L_.length<=m:=by rw[Vj,Kj] at RM;lia
   have hxw':=KW lw'
   symm
   refine⟨.inl ⟨rfl,_,SqL.of L.hw⟩,?_⟩
   symm
   refine⟨wl,xw,.ref a5,rfl,rfl,L.hw,by rw[exw];simp,?_⟩
   rw[show xw.dropLast=RB by rw[exw];simp]
   have s6:Same H1 (upd H5 wl (.lst RB)):=E7 L.s Wa
   have f6:(upd H5 wl (.lst RB)) wl=some (.lst RB):=d6
   have t6:(upd H5 wl (.lst RB)) tl=some (.lst xt):=by rw[b9 Zb];exact L.ht
   have b6:(upd H5 wl (.lst RB)) a5=some (.lst (b.map V.str)):=by rw[b9 Zf];exact hb
   have Zg:LoAt (upd H5 wl (.lst RB)) tl wl xt rows:=L.lt.upW
   have Zh:LoAt (upd H5 wl (.lst RB)) tl wl RB L_:=LoAt.upW (show LoAt H5 tl wl RB L_ from lw')
   generalize upd H5 wl (.lst RB)=H6 at s6 f6 t6 b6 Zg Zh⊢
   symm
   refine F2 (u9 (SqL.of b6) ?_)
   rw[Kb]
   symm
   refine F2 (u9 (SqL.of (s6 _ _ f1)) ?_)
   rw[Kb,hN]
   symm
   refine M9 (λh1=>?_) (λh1=>?_)
   .have Qq:b.length=n:=by lia
    symm
    refine⟨.inl ⟨rfl,_,SqL.of t6⟩,?_⟩
    symm
    refine⟨tl,xt,.ref a5,rfl,rfl,t6,iK (by lia),?_⟩
    rw[Qq,Nat.sub_self] at RC o_
    have e1:ndL img 0 b=1:=rfl
    have e2:iD img 0 b=[b]:=rfl
    rw[e1] at RC
    rw[e2] at o_
    have Zi:H1 tl=none:=ntl
    refine⟨m -1,by lia,xt++[.ref a5],RB,rows++[b],L_,_,_,rfl,⟨E7 s6 Zi,d6,by rw[b9 Zb.symm];exact f6,B9 Zg.upT ⟨a5,rfl,hat,Zf,by rw[b9 hat];exact b6⟩,Zh.upT,λb' Qz=>L.bl b' (by rw[Vj];exact Kf _ Qz),by lia,by rw[La];exact o_,by rw[Kj,Ku];lia,λe=>by rw[Kj,Ku,Ze e];exact Ke _⟩⟩
   .have Qq:b.length<n:=by lia
    obtain⟨kk,SH⟩:∃kk,n -b.length=kk+1:=⟨n -b.length -1,by lia⟩
    symm
    refine⟨a,p,q,c,pl,a5,kvs,B_,e_,Lr,Pc,W,r1,r2,gp,gt,fx,b,rfl,X0.same (m1.trans s6),b6,by lia,λli H7 ss n7 m7 f7 hss=>?_⟩
    rw[Zc] at hss
    subst hss
    symm
    refine⟨li,_,rfl,SqL.of f7,?_⟩
    have Xj:=hM b
    have hlit:li≠tl:=(d9 t6 n7).symm
    have Zj:li≠wl:=(d9 f6 n7).symm
    refine R4 (n:=(img b).length) (λi σ H'=>∃(UA:List V) (v2:Option V),σ=[some (.ref a),some (.ref c),some (.ref pl),some mv,some (.ref ln),some (.ref tl),some (.ref wl),some (.ref a5),v2]/\Same H1 H'/\H' li=some (.lst ((img b).map V.str))/\H' tl=some (.lst xt)/\H' wl=some (.lst UA)/\H' a5=some (.lst (b.map V.str))/\LoAt H' tl wl xt rows/\LoAt H' tl wl UA (L_++((img b).reverse.take i).map λx=>b++[x])) ⟨RB,v2,rfl,s6.trans m7,f7,m7 _ _ t6,m7 _ _ f6,m7 _ _ b6,Zg.same m7,by simpa using Zh.same m7⟩ (λi σ H' hi hp=>?_) ?_ ?_
    .obtain⟨_,_,_,_,z,_⟩:=hp
     exact⟨SqL.of z,by rw[Kb];exact hi⟩
    .rintro bk i v σ H8' H8 hi ⟨UA,v2',rfl,s8,g8,t8,w8,b8,lt8,lw8⟩ ⟨rfl,hv⟩ _ _
     rw[Kb] at hv
     have Zk:(img b).reverse[i]?=(img b)[(img b).length -1 -i]?:=List.getElem?_reverse hi
     rw[Kh,←Zk] at hv
     obtain⟨x,hx,rfl⟩:=KN.mp hv
     have hl8:=KW lw8
     rw[Kj,Kb,Kt] at hl8
     symm
     refine⟨.inl ⟨rfl,_,SqL.of w8⟩,?_⟩
     symm
     refine⟨d0 (by simp),λl9 n9=>?_⟩
     obtain⟨H9,e9,f9,m9,_⟩:=b5 (o:= .lst [.str x]) n9
     rw[e9]
     refine mV (m9 _ _ b8) f9 (Nn (d0 (by rw[Kb];simp;lia))) (λTj n10=>?_)
     obtain⟨Ri,RN,Sm,QK,_⟩:=b5 (o:= .lst (b.map V.str++[.str x])) n10
     rw[RN]
     have QL:=m9.trans QK
     have Zl:Tj≠tl:=(d9 (m9 _ _ t8) n10).symm
     have Wc:Tj≠wl:=(d9 (m9 _ _ w8) n10).symm
     symm
     refine⟨wl,UA,.ref Tj,rfl,rfl,QL _ _ w8,iK (by lia),?_⟩
     walk_at "X"
     refine⟨UA++[.ref Tj],_,rfl,E7 (s8.trans QL) Wa,by rw[b9 Zj];exact QL _ _ g8,by rw[b9 Zb];exact QL _ _ t8,d6,by rw[b9 Zf];exact QL _ _ b8,(lt8.same QL).upW,?_⟩
     rw[KI,hx,Ki,←La]
     refine B9 (lw8.same QL).upW ⟨Tj,rfl,Zl,Wc,?_⟩
     rw[b9 Wc,Sm,Ki];rfl
    .rintro σ H8 ⟨UA,v2',rfl,s8,g8,t8,w8,b8,lt8,lw8⟩
     rw[Kl (by rw[List.length_reverse];exact Ke _)] at lw8
     refine⟨by show(img b).length=((img b).map V.str).length;rw[Kb],?_⟩
     rw[SH] at RC o_
     have e1:ndL img (kk+1) b=1+((img b).map λx=>ndL img kk (b++[x])).sum:=rfl
     have e2:iD img (kk+1) b=(img b).flatMap λx=>iD img kk (b++[x]):=rfl
     rw[e1] at RC
     rw[e2] at o_
     have ek:∀x:Str,n -(b++[x]).length=kk:=λx=>by rw[Kj,Ku];lia
     have eS:(((img b).reverse.map λx=>b++[x]).map λb=>ndL img (n -b.length) b).sum=((img b).map λx=>ndL img kk (b++[x])).sum:=by
      rw[Lf,List.map_reverse,List.sum_reverse];exact LK List.sum (LB λx _=>by show ndL img (n -(b++[x]).length) (b++[x])=_;rw[ek x])
     refine⟨m -1,by lia,xt,UA,rows,L_++(img b).reverse.map λx=>b++[x],_,_,rfl,⟨s8,t8,w8,lt8,lw8,λb' Qz=>?_,?_,?_,by lia,L.le1⟩⟩
     .rcases Kg.mp Qz with z|z
      .exact L.bl b' (by rw[Vj];exact Kf _ z)
      .obtain⟨x,_,rfl⟩:=Kd.mp z
       rw[Kj,Ku];lia
     .rw[Ki,List.sum_append,eS];lia
     .rw[PY,←List.map_reverse,List.reverse_reverse,NZ,List.flatMap_map]
      rw[←o_]
      congr 1
      congr 1
      exact fb λx _=>by rw[ek x]
def rm (W:C9):List Str:=ur (W.pts.map (·.1))
def rJ (W:C9):List Str:=ur (W.ts.map (·.1))
def bF (W:C9):List Str:=rm W++rJ W
noncomputable def E4 (Pc W:C9)(fx:List (Str×Str)):List (List Str):=jv Pc W (rm Pc) (rJ Pc) (rm W) (rJ W) fx
def Z6 (W:C9):Ordr W (rm W) (rJ W):=⟨iJ _,iJ _,oU _,oU _⟩
def DcAt (H:Hp)(nm:List Str)(xs:List V)(rows:List (List Str)):Prop:=Paired (λv row=>∃d,v=V.ref d/\H d=some (.dK (i7 (nm.zip row)))) xs rows
def DcAt.same {H H':Hp}{nm:List Str}{xs:List V}{rows:List (List Str)}(h:DcAt H nm xs rows)(s:Same H H'):DcAt H' nm xs rows:=Paired.imp' (λ_ _ ⟨d,e,z⟩=>⟨d,e,s _ _ z⟩) h
def HH (H:Hp)(p q:Addr)(fv:V)(fx:List (Str×Str)):Prop:=(fv= .non/\fx=[])\/∃d,fv= .ref d/\H d=some (.dK (i7 fx))/\d≠p/\d≠q
structure Mx (K:Qc) (H:Hp) (a p q a' p' q':Addr) (kvs d_:List (j6×V)) (Pc W:C9) (fx:List (Str×Str)):Prop where
 P:WebIs 30 K H a p q kvs Pc
 G:WebIs 30 K H a' p' q' d_ W
 big:((b7 Pc).length+1)*(max W.pts.length W.ts.length+1) ^ ((b7 Pc).filter (K5 fx)).length<=1000000
 fnd:(fx.map (·.1)).Nodup
 fin:∀x∈fx,x.1∈b7 Pc
structure LkP (K:Qc) (H:Hp) (pl wl:Addr) (e_ F':List (j6×V)) (L:Str->Str->Bool) (Pc W:C9):Prop where
 hp:H pl=some (.dK e_)
 kp:e_.map (·.1)=(Pc.pts.map (·.1)).map Sum.inr
 hg:Rd H wl (.dK F')
 kg:F'.map (·.1)=(W.pts.map (·.1)).map Sum.inr
 eq:∀(n:Str) (v:V) (m:Str) (u:V),(Sum.inr n,v)∈e_->A4 F' (Sum.inr m:j6)=some u->EqA K H u v (L n m)
 ls:∀n x,n∈Pc.pts.map (·.1)->x∈W.pts.map (·.1)->L n x=true->j4 (i7 W.pts) x=j4 (i7 Pc.pts) n
 lc:∀row,FitP Pc W (i7 ((bF Pc).zip row))->∀x∈Pc.pts,L x.1 (gv (bF Pc) row x.1)=true
def LkP.same {H H':Hp}{pl wl:Addr}{e_ F':List (j6×V)}{L:Str->Str->Bool}{Pc W:C9}(h:LkP K H pl wl e_ F' L Pc W)(s:Same H H'):LkP K H' pl wl e_ F' L Pc W:=⟨s _ _ h.hp,h.kp,s.rd h.hg,h.kg,λn v m u a b=>(h.eq n v m u a b).mono s.le,h.ls,h.lc⟩
def IB (H:Hp)(Q:VK)(mo:Option Nat)(Pc W:C9)(fx:List (Str×Str)):Prop:=∀(l:Addr) (H':Hp) (xs:List V),H l=none->Same H H'->H' l=some (.lst xs)->DcAt H' (bF Pc) xs (AF mo (E4 Pc W fx))->(E4 Pc W fx).length<=1000000->(∀x∈xs,∃d,x=V.ref d/\H d=none)->Q (.ref l) H'
def rX (K:Qc):Sp:=λvs H Q _=>∃(a p q a' p' q' pl wl:Addr) (kvs d_ e_ F':List (j6×V)) (L:Str->Str->Bool) (Pc W:C9) (fx:List (Str×Str)) (fv mv:V) (mo:Option Nat),vs=[.ref a,.ref a',.ref pl,.ref wl,fv,mv]/\Mx K H a p q a' p' q' kvs d_ Pc W fx/\LkP K H pl wl e_ F' L Pc W/\Fc mv mo/\HH H pl q fv fx/\IB H Q mo Pc W fx
def BM {H:Hp}{a p q a' p' q' pl wl:Addr}{kvs d_ e_ F':List (j6×V)}{L:Str->Str->Bool}{Pc W:C9}{fx:List (Str×Str)}(h:Mx K H a p q a' p' q' kvs d_ Pc W fx)(l:LkP K H pl wl e_ F' L Pc W):SrchP L Pc W (rm Pc) (rJ Pc) (rm W) (rJ W) fx:=
 ⟨Z6 _,Z6 _,h.P.nd,h.G.nd,h.P.ends,h.fnd,h.fin,l.ls,l.lc⟩
theorem CP {H:Hp}{F:Str×Str->List Str}:∀{kvs:List (j6×V)} {pts:List (Str×Str)},ChAt H F kvs pts->LsAt H (kvs.map (·.2)) (pts.map F)
 |_,_,.nil=> .nil
 |_,_,.cons a t=> .cons a.2 (CP t)
def Mx.same {H0 H1:Hp}{a p q a' p' q':Addr}{kvs d_:List (j6×V)}{Pc W:C9}{fx:List (Str×Str)}(h:Mx K H0 a p q a' p' q' kvs d_ Pc W fx)(s:Same H0 H1):Mx K H1 a p q a' p' q' kvs d_ Pc W fx:=⟨h.P.same s,h.G.same s,h.big,h.fnd,h.fin⟩
def CM {mo:Option Nat}{rows:List (List Str)}:(AF mo rows).length<=rows.length:=by
 cases mo with
 |none=>exact Ke _
 |some k=>exact List.length_take_le' _ _
def HW (Pc W:C9)(n m:Str):Bool:=decide (j4 (i7 W.pts) m=j4 (i7 Pc.pts) n)
def Bs {H:Hp}{a p q a' p' q':Addr}{kvs d_:List (j6×V)}{Pc W:C9}{fx:List (Str×Str)}(M:Mx K H a p q a' p' q' kvs d_ Pc W fx):LkP K H p p' (i7 Pc.pts) (i7 W.pts) (HW Pc W) Pc W:=by
 refine⟨M.P.hp,by rw[E6,B6],M.G.at_.pts,by rw[E6,B6],λn v m u h1 h2=>?_,λn x _ _ h=>Ly h,λrow f x hx=>?_⟩
 .obtain⟨y,hy,e⟩:=Kd.mp h1;have e1:y.1=n:=LW (Mm e).1;have e2:V.str y.2=v:=(Mm e).2;obtain⟨k',rfl,hk'⟩:=gz h2;refine .inl ⟨k',y.2,rfl,e2.symm,?_⟩;unfold HW;rw[gu h2,←e1,J3 (E5 M.P.nd) (show(y.1,y.2)∈Pc.pts from hy)]
 .have z:=f.pts x hx;refine KA ?_;rw[J3 (E5 M.P.nd) (show(x.1,x.2)∈Pc.pts from hx)];exact J3 (E5 M.G.nd) z
abbrev vg:=λP w K mg base=>U0 P w K mg base F0 6 "found" ["piece","web","piece_looks","web_looks","fixed","most"] [] (rX K)
def Am {f fd}(T:Txt K mg)(ao:cF P w K mg base)(bL:lI P w K mg base)(cg:gr P w K mg base)(C0:V5 P w K mg base)(oW:uP P w K mg base)(F:Fun K "found" "found" oX f fd):C5 P w K mg base F0 6 f fd ["piece","web","piece_looks","web_looks","fixed","most"] (rX K):=by
 walk_at "#sc_found"
 .obtain⟨a,p,q,a',p',q',pl,wl,kvs,d_,e_,F',L,Pc,W,fx,fv,mv,mo,rfl,_⟩:=h;rfl
 .obtain⟨a,p,q,a',p',q',pl,wl,kvs,d_,e_,F',L,Pc,W,fx,fv,mv,mo,rfl,M0,L0,Vh,hf,k⟩:=h;have S:=BM M0 L0;have lP:=M0.P.len;have lW:=M0.G.len;have lP2:=lP;have lW2:=lW;rw[C3] at lP2 lW2;walk_at "@sc_found 46'3HQ a'0Ao 04YjP04475'0ao 72i36bnT5'0bL 3#~b~a~9_%~5~4~3078H485'0cg 70i16495>608wrow;9;r5'0oW 7077i85h0krow,names;D~w&~6Oi10"
  refine Gm (λσ H'=>∃d,σ=[some (.ref a),some (.ref a'),some (.ref pl),some (.ref wl),some fv,some mv,some (.ref d),none,none,none]/\Same H H'/\H' d=some (.dK (i7 fx))/\d≠pl/\d≠q) ?_ ?_
  .rintro σ H1 ⟨d,rfl,m1,hd,Ut,Uv⟩;have M1:=M0.same m1;have L1:=L0.same m1;symm;refine⟨pl,wl,d,e_,F',Pc.pts,W.pts,fx,L,rm W,rfl,L1.hp,L1.kp,E5 M1.P.nd,by lia,L1.hg,L1.kg,E5 M1.G.nd,by lia,(Z6 W).p1,(Z6 W).o1,L1.eq,hd,Ut,λc H2 B_ nc m2 hc ch=>?_⟩;have M2:=M1.same m2;symm;refine⟨.inr (.inr (.inl ⟨rfl,.inl ⟨_,hc⟩⟩)),?_⟩;symm;refine⟨c,_,rfl,rfl,.inl hc,λv3 n3=>?_⟩;obtain⟨H3,e3,f3,m3,_⟩:=b5 (o:= .ext (gZ v3 c)) n3;rw[e3];symm;refine Z8 f3 (.inl (m3 _ _ hc)) (λl4 n4=>?_);obtain⟨H4,e4,f4,m4,_⟩:=b5 (o:= .lst _) n4;rw[e4];symm;have We:=m3.trans m4;refine⟨l4,_,_,rfl,f4,LsAt.same (CP ch) We,by rw[Kb];lia,λH5 m5=>?_⟩;have Rz:=We.trans m5;have M5:=M2.same Rz;symm;refine ib (λh1=>?_) (λh1=>?_)
   .symm;refine⟨d0 (by simp),λl6 n6=>?_⟩;obtain⟨H6,e6,f6,m6,_⟩:=b5 (o:= .lst []) n6;rw[e6];have e0:E4 Pc W fx=[]:=wm S h1;refine k l6 H6 [] (m1.free (m2.free (Rz.free n6))) (m1.trans (m2.trans (Rz.trans m6))) f6 (by rw[e0];rcases Vh with⟨_,rfl⟩|⟨_,rfl⟩<;>exact .nil) (by rw[e0];exact LJ _) (λ_ h=>nomatch h)
   .symm;refine⟨a,p,q,a',p',q',d,kvs,d_,Pc,W,fx,rJ W,rfl,M5.P.at_,M5.P.hq,O8 M5.P.nd,by lia,M5.G.at_,O8 M5.G.nd,by lia,(Z6 W).p2,(Z6 W).o2,Rz _ _ (m2 _ _ hd),Uv,λps H6 kvq nps m6 hps pls=>?_⟩;have M6:=M5.same m6;have m26:=Rz.trans m6;symm;refine⟨a,p,q,kvs,Pc,rfl,M6.P.at_,by lia,λln H7 r1 r2 n7 m7 f7 or=>?_⟩;have V':r1=rm Pc:=N6 or.o1 (Z6 Pc).o1 (or.p1.nodup_iff.mpr (E5 S.nd)) (or.p1.trans (Z6 Pc).p1.symm);have V_:r2=rJ Pc:=N6 or.o2 (Z6 Pc).o2 (or.p2.nodup_iff.mpr (O8 S.nd)) (or.p2.trans (Z6 Pc).p2.symm);subst V' V_;have M7:=M6.same m7;have Wf:=m26.trans m7;symm;refine⟨a,p,q,c,ps,kvs,B_,kvq,L,Pc,W,rm Pc,rJ Pc,rm W,rJ W,fx,mv,mo,rfl,Vh,⟨S,M7.P.at_,M7.P.hq,by lia,by lia,M0.big,Wf _ _ hc,ch.same Wf,m7 _ _ hps,pls.same m7⟩,λlr H8 xs n8 m8 f8 ls RA=>?_⟩;have hrl:=KW ls;refine A8 (SqL.of f8) ?_;refine z8 (n:=xs.length) (λi out H'=>Same H8 H'/\DcAt H' (bF Pc) out ((AF mo (E4 Pc W fx)).take i)/\∀x∈out,∃d,x=V.ref d/\H d=none) ⟨Same.refl _,.nil,λ_ h=>nomatch h⟩ (λi out H' hi hp=>⟨xs,xs[i],SqL.of (hp.1 _ _ f8),Kc hi⟩) ?_ ?_
    .rintro N i v out H9' H9 hi ⟨s9,dc,Px⟩ y hN';obtain⟨rfl,hy⟩:=Itl.get y (SqL.of (s9 _ _ f8));obtain⟨row,QF,ar,rfl,har⟩:=K8 ls hy;have SM:=KW dc;rw[Kt] at SM;symm;refine⟨rfl,?_⟩;symm;refine⟨ln,ar,(bF Pc).map Sum.inr,row.map V.str,rfl,by rw[←vy];exact SqL.of (s9 _ _ (m8 _ _ f7)),SqL.of (s9 _ _ har),λd2 RD=>?_⟩;rw[qH (nm:=bF Pc) S.nn];obtain⟨Ri,RN,Sm,QK,_⟩:=b5 (o:= .dK (i7 ((bF Pc).zip row))) RD;change _/\N _ (upd H9 d2 (.dK (i7 ((bF Pc).zip row))));rw[RN];have Wg:(E4 Pc W fx).length<=1000000:=RA;have Vc:(AF mo (E4 Pc W fx)).length<=(E4 Pc W fx).length:=CM;refine⟨Nn (iK (by lia)),hN' _ _ ⟨s9.trans QK,?_,λx hx=>?_⟩⟩
     .rw[show(AF mo (E4 Pc W fx)).take (i+1)=(AF mo (E4 Pc W fx)).take i++[row] by rw[KI,show(AF mo (E4 Pc W fx))[i]?=some row from QF];rfl];exact B9 (DcAt.same dc QK) ⟨d2,rfl,Sm⟩
     .rcases Kg.mp hx with z|z
      .exact Px x z
      .exact⟨d2,Kq.mp z,m1.free (m2.free (Wf.free (m8.free (s9.free RD))))⟩
    .rintro out H9 ⟨s9,dc,Px⟩;have SM:=KW dc;rw[Kt] at SM;have Wg:(E4 Pc W fx).length<=1000000:=RA;have Vc:(AF mo (E4 Pc W fx)).length<=(E4 Pc W fx).length:=CM;refine⟨⟨_,SqL.of (s9 _ _ f8),Ke _⟩,λD hD=>⟨Nn (iK (by lia)),?_⟩⟩;rw[Kl (by rw[hrl];exact Ke _)] at dc;obtain⟨Ri,RN,Sm,QK,_⟩:=b5 (H:=H9) (o:= .lst out) hD;show Q _ (upd H9 D _);rw[RN];exact k D Ri out (m1.free (m2.free (Wf.free (m8.free (s9.free hD))))) (m1.trans (m2.trans (Wf.trans (m8.trans (s9.trans QK))))) Sm (dc.same QK) RA Px
  .intro nx hnx;symm;rcases hf with⟨rfl,rfl⟩|⟨d,rfl,hd,Ut,Uv⟩
   .rw[if_pos (by simp)];symm;intro d nd;obtain⟨H1,e1,f1,m1,_⟩:=b5 (o:= .dK []) nd;rw[e1];symm;exact hnx _ _ ⟨d,rfl,m1,f1,(d9 L0.hp nd).symm,(d9 M0.P.hq nd).symm⟩
   .rw[if_neg (by simp)];symm;exact hnx _ _ ⟨d,rfl,Same.refl _,hd,Ut,Uv⟩
def CS (H:Hp)(nm:List Str)(v:V)(rows:List (List Str)):Prop:=(rows=[]/\v= .non)\/∃(row:List Str) (r:List (List Str)) (d:Addr),rows=row::r/\v= .ref d/\H d=some (.dK (i7 (nm.zip row)))
def dN (K:Qc):Sp:=λvs H Q _=>∃(a p q a' p' q' pl wl:Addr) (kvs d_ e_ F':List (j6×V)) (L:Str->Str->Bool) (Pc W:C9) (fx:List (Str×Str)) (fv:V),vs=[.ref a,.ref a',.ref pl,.ref wl,fv]/\Mx K H a p q a' p' q' kvs d_ Pc W fx/\LkP K H pl wl e_ F' L Pc W/\HH H pl q fv fx/\∀(v:V) (H':Hp),Same H H'->CS H' (bF Pc) v (E4 Pc W fx)->(∀d,v= .ref d->H d=none)->Q v H'
abbrev eN:=λP w K mg base=>U0 P w K mg base F0 7 "first_found" ["piece","web","piece_looks","web_looks","fixed"] [] (dN K)
def mi {f fd}(T:Txt K mg)(pd:vg P w K mg base)(F:Fun K "first_found" "first_found" bj f fd):C5 P w K mg base F0 7 f fd ["piece","web","piece_looks","web_looks","fixed"] (dN K):=by
 walk_at "#sc_first_found"
 .obtain⟨a,p,q,a',p',q',pl,wl,kvs,d_,e_,F',L,Pc,W,fx,fv,rfl,_⟩:=h;rfl
 .obtain⟨a,p,q,a',p',q',pl,wl,kvs,d_,e_,F',L,Pc,W,fx,fv,rfl,M0,L0,hf,k⟩:=h;walk_at "@sc_first_found 455'0pd 7071727374328'3HQ `0515Y"
  symm;refine⟨a,p,q,a',p',q',pl,wl,kvs,d_,e_,F',L,Pc,W,fx,fv,.int 1,some 1,rfl,M0,L0,.inr ⟨rfl,rfl⟩,hf,λl H1 xs nl m1 f1 dc _ Px=>?_⟩;have Xo:DcAt H1 (bF Pc) xs ((E4 Pc W fx).take 1):=dc;have p_:=KW Xo;symm;refine⟨!xs.isEmpty,.inl ⟨_,SqL.of f1,rfl⟩,?_⟩;cases hr:E4 Pc W fx with
  |nil=>
   rw[hr] at Xo p_
   have s_:xs=[]:=Ml (by simpa using p_)
   subst s_
   rw[if_neg (by decide)]
   symm
   exact k .non H1 m1 (.inl ⟨hr,rfl⟩) λ_ z=>nomatch z
  |cons row r=>
   rw[hr] at Xo p_
   obtain⟨x,rfl⟩:∃x,xs=[x]:=by
    match xs,p_ with
    |[x],_=>exact⟨x,rfl⟩
   obtain⟨Zm,Wh,d,rfl,hd⟩:=K8 (i:=0) Xo rfl
   have er:row=Zm:=KG Wh
   subst er
   rw[if_pos (by rfl)]
   symm
   refine j5 (SqL.of f1) (k7 (j:=0) rfl) ?_
   symm
   exact k (.ref d) H1 m1 (.inr ⟨row,r,d,hr,rfl,hd⟩) λd' e=>by
    obtain⟨d2,e2,z⟩:=Px (.ref d) (by simp);have e3:d=d2:=by injection e2
    have e4:d=d':=by injection e
    rw[←e4,e3];exact z
def dw (K:Qc):Sp:=λvs H Q _=>∃(a p q a' p' q' d:Addr) (kvs d_:List (j6×V)) (Pc W:C9) (fx:List (Str×Str)),vs=[.ref a,.ref a',.ref d]/\Mx K H a p q a' p' q' kvs d_ Pc W fx/\H d=some (.dK (i7 fx))/\d≠p/\d≠q/\∀(v:V) (H':Hp),Same H H'->CS H' (bF Pc) v (E4 Pc W fx)->(∀d,v= .ref d->H d=none)->Q v H'
abbrev eE:=λP w K mg base=>U0 P w K mg base F0 8 "first_match" ["piece","web","fixed"] [] (dw K)
def lC {f fd}(T:Txt K mg)(br:eN P w K mg base)(F:Fun K "first_match" "first_match" bE f fd):C5 P w K mg base F0 8 f fd ["piece","web","fixed"] (dw K):=by
 walk_at "#sc_first_match"
 .obtain⟨a,p,q,a',p',q',d,kvs,d_,Pc,W,fx,rfl,_⟩:=h;rfl
 .obtain⟨a,p,q,a',p',q',d,kvs,d_,Pc,W,fx,rfl,M0,hd,n1,n2,k⟩:=h;walk_at "@sc_first_match 85'0br 7071s10s1162";symm;refine u4 M0.P.at_.tup ?_;symm;refine u4 M0.G.at_.tup ?_;symm;exact⟨a,p,q,a',p',q',p,p',kvs,d_,_,_,_,Pc,W,fx,.ref d,rfl,M0,Bs M0,.inr ⟨d,rfl,hd,n1,n2⟩,k⟩
def O1 {t u:TS}{nx:L2.St->Hp->Prop}{rt:V->Hp->Prop}{bk ct:L2.St->Hp->Prop}{σ:L2.St}{H:Hp}(h:∀nx':L2.St->Hp->Prop,(∀σ H,u ⟨nx,rt,bk,ct⟩ σ H->nx' σ H)->t ⟨nx',rt,bk,ct⟩ σ H):jK t u ⟨nx,rt,bk,ct⟩ σ H:=h _ λ_ _ z=>z
def WebIs.up {n m:Nat}{H:Hp}{a p q:Addr}{kvs:List (j6×V)}{W:C9}(h:WebIs n K H a p q kvs W)(l:n<=m):WebIs m K H a p q kvs W:=⟨h.at_,h.hp,h.hq,h.ne,h.nd,Kw h.len l,h.ends,h.nl⟩
structure HF (B W:C9) (fx:List (Str×Str)):Prop where
 big:((b7 B).length+1)*(max W.pts.length W.ts.length+1) ^ ((b7 B).filter (K5 fx)).length<=1000000
 fnd:(fx.map (·.1)).Nodup
 fin:∀x∈fx,x.1∈b7 B
def FQ (H H':Hp)(v:V)(bs:List Sd)(W:C9)(fx:List (Str×Str)):Prop:=
 ((∀b∈bs,E4 b.W W fx=[])/\v= .non)\/∃(i:Nat) (b:Sd) (row:List Str) (r:List (List Str)) (t d:Addr),bs[i]?=some b/\(∀b'∈bs.take i,E4 b'.W W fx=[])/\E4 b.W W fx=row::r/\v= .ref t/\H' t=some (.tup [.int (i:Int),.ref d])/\H' d=some (.dK (i7 ((bF b.W).zip row)))/\H d=none
def oh (K:Qc):Sp:=λvs H Q _=>∃(S L R:Sd) (r bl m:Addr) (bs:List Sd) (fx:List (Str×Str)),vs=[.ref S.a,.ref r,.ref m]/\SdIs K H S/\RuleIs K H r bl L R bs/\bs.length<=10/\H m=some (.dK (i7 fx))/\(∀b∈bs,m≠b.p/\m≠b.q/\HF b.W S.W fx)/\∀(v:V) (H':Hp),Same H H'->FQ H H' v bs S.W fx->Q v H'
abbrev kU:=λP w K mg base=>U0 P w K mg base F0 9 "barred" ["web","rule","match"] [] (oh K)
def wj {f fd}(T:Txt K mg)(bw:eE P w K mg base)(F:Fun K "barred" "barred" lM f fd):C5 P w K mg base F0 9 f fd ["web","rule","match"] (oh K):=by
 walk_at "#sc_barred"
 .obtain⟨S,L,R,r,bl,m,bs,fx,rfl,_⟩:=h;rfl
 .obtain⟨S,L,R,r,bl,m,bs,fx,rfl,hS,hR,RM,hm,hb,k⟩:=h;walk_at "@sc_barred btu~8311xc39c49y455'0bw 74i02ena~705Yj8mi358Y"
  refine O1 λXp hx=>?_;rfl';refine cw hR.tup ?_;refine⟨_,rfl,.inl ⟨bl,_,rfl,hR.bl,?_⟩⟩;refine R4 (n:=bs.length) (λi σ H'=>Same H H'/\(∃v3 v4 v5,σ=[some (.ref S.a),some (.ref r),some (.ref m),v3,v4,v5])/\∀b∈bs.take i,E4 b.W S.W fx=[]) ⟨Same.refl _,⟨_,_,_,rfl⟩,λb h=>by simp at h⟩ (λi σ H' hi hp=>⟨_,.ref (bs[i]).a,hp.1.seq hR.bl,by rw[Kh,Kc hi];rfl⟩) ?_ ?_
  .rintro bk i v σ H1 H1' hi ⟨s1,⟨v3,v4,v5,rfl⟩,g_⟩ ⟨t,x,Rj,nt,rfl,rfl⟩ _ _;have h_:=Rj _ (s1.seq hR.bl);rw[Kh,Kc hi] at h_;cases h_;have Wi:=KS hi;obtain⟨n1,n2,B⟩:=hb _ Wi;obtain⟨H2,e2,f2,m2,_⟩:=b5 (o:= .tup _) nt;rw[e2];have s2:=s1.trans m2;have R2:=hR.same s2;refine I0 (SqT.of f2) rfl ?_;rfl';refine O1 λZn hx2=>?_;rfl';refine⟨_,_,_,_,_,_,m,_,_,_,_,fx,rfl,⟨WebIs.up (R2.bars _ Wi) (by lia),WebIs.up (hS.same s2) (by lia),B.big,B.fnd,B.fin⟩,s2 _ _ hm,n1,n2,λv' H3 m3 fst nw=>?_⟩;refine hx2 [some (.ref S.a),some (.ref r),some (.ref m),some (.int (i:Int)),some (.ref (bs[i]).a),some v'] _ ?_;rcases fst with⟨e,rfl⟩|⟨row,rr,d,e,rfl,hd⟩
   .rfl';rw[if_neg (by simp)];rfl';refine⟨s2.trans m3,⟨_,_,_,rfl⟩,λb h=>?_⟩;rw[KI,Kc hi] at h;rcases Kg.mp h with z|z
    .exact g_ b z
    .rw[show b=bs[i] by simpa using z];exact e
   .rfl';rw[if_pos (by simp)];rfl';refine⟨d0 (by simp),λt4 n4=>?_⟩;obtain⟨H4,e4,f4,m4,_⟩:=b5 (o:= .tup [.int (i:Int),.ref d]) n4;rw[e4];exact k _ _ (s2.trans (m3.trans m4)) (.inr ⟨i,_,row,rr,t4,d,Kc hi,g_,e,rfl,f4,m4 _ _ hd,s2.free (nw d rfl)⟩)
  rintro σ H1 ⟨s1,⟨v3,v4,v5,rfl⟩,g_⟩;refine⟨⟨_,s1.seq hR.bl,by rw[Kb];exact Ke _⟩,?_⟩;rw[Kl (Ke _)] at g_;refine hx [some (.ref S.a),some (.ref r),some (.ref m),v3,v4,v5] H1 ?_;rfl';exact k _ _ s1 (.inl ⟨g_,rfl⟩)
def dX {x:Str}{l u:Option Int}{c:Nat}(h:c∈(Txt.slice x l u).cps.toList):c∈x.cps.toList:=by
 unfold Txt.slice at h;split at h
 .exact h
 .simp only[Nr] at h;obtain⟨i,_,hi⟩:=h;exact Array.mem_toList_iff.mpr (Array.mem_of_getElem? hi)
def qc (i:Int)(h0:0<=i)(h1:i<26):ck i∈kSL.cps.toList:=by
 have hl:kSL.cps.toList.length=26:=by decide+kernel
 unfold ck;rw[KY,Kc (show i.toNat<kSL.cps.toList.length by lia)];exact KS _
def nF (b:Str)(at_ c:Int)(k:Nat):Str:=Txt.slice b none (some at_)++(⟨#[ck ((c+(0+(k:Int))) % 26)]⟩:Str)++Txt.slice b (some at_) none
def BS (b:Str)(at_ c:Int)(n:Nat)(hn:n<=26):((List.range n).map (nF b at_ c)).Nodup:=lZ λi j hi hj e=>by
 have z:=Bf e;have e1:(c+(0+(i:Int))) % 26=(((c+(0+(i:Int))) % 26).toNat:Int):=md _ (by decide);have e2:(c+(0+(j:Int))) % 26=(((c+(0+(j:Int))) % 26).toNat:Int):=md _ (by decide);rw[e1,e2] at z;have z2:=qQ _ _ (by lia) (by lia) z;lia
def xB {b:Str}{at_ c:Int}{k:Nat}(h:∀x∈b.cps.toList,x∈kSL.cps.toList)(hb:b.length<=7)(h0:0<=at_)(h1:at_<=b.length):K7 (nF b at_ c k)=true:=by
 have g1:=qr b at_ h0 h1;have g2:=kX b at_ h0 h1;have hl:(nF b at_ c k).length=(Txt.slice b none (some at_)).length+1+(Txt.slice b (some at_) none).length:=by
  unfold nF;rw[ie,ie,aR]
 unfold K7 U7;rw[hl,KA (by lia),KA (by lia),Nd,Nd];unfold rg;rw[KZ];intro x hx;refine KA ?_;have h_:x∈((Txt.slice b none (some at_)).cps++ #[ck ((c+(0+(k:Int))) % 26)]++(Txt.slice b (some at_) none).cps).toList:=hx;simp only[PZ,Kg] at h_;rcases h_ with(z|z)|z
 .exact h x (dX z)
 .have:x=ck ((c+(0+(k:Int))) % 26):=by simpa using z
  rw[this];exact qc _ (by lia) (by lia)
 .exact h x (dX z)
def cD (K:Qc):Sp:=λvs H Q _=>∃(a:Addr) (ns:List Int) (k:Int),vs=[.ref a,.int k]/\SqL K H a (ns.map V.int)/\ns.length<=63/\0<=k/\∀m:Int,Q (.int m) H
def dk (K:Qc):Sp:=λvs H Q _=>∃c:Int,vs=[.int c,.int 16]/\∀(p:Addr) (H':Hp) (xs:List Int),H p=none->Same H H'->H' p=some (.lst (xs.map V.int))->xs.length=16->(∀x∈xs,0<=x)->Q (.ref p) H'
def eC (K:Qc):Sp:=λvs H Q _=>∃c n:Int,vs=[.int c,.int n]/\0<=n/\n<=26/\Gr H Q λss=>ss.length=n.toNat/\ss.Nodup/\∀s∈ss,K7 s=true
abbrev aD:=λP w K mg base=>U0 P w K mg base F0 1 "_law_mixed" ["_law_cell","_law_k"] [] (eD K)
def mH {f fd}(T:Txt K mg)(F:Fun K "_law_mixed" "_law_mixed" cv f fd):C5 P w K mg base F0 1 f fd ["_law_cell","_law_k"] (eD K):=by
 walk_at "#sc__law_mixed"
 .obtain⟨c,k,rfl,_⟩:=h;rfl
 .obtain⟨c,k,rfl,h0,h1,q⟩:=h;walk_at "@sc__law_mixed 42lfl002R2f012242lffR0202R201228lR02022"
  symm;exact q _ (by lia)
abbrev V7:=λP w K mg base=>U0 P w K mg base F0 1 "_law_cell_at" ["_law_script","_law_k"] [] (cD K)
def jJ {f fd}(T:Txt K mg)(F:Fun K "_law_cell_at" "_law_cell_at" aJ f fd):C5 P w K mg base F0 1 f fd ["_law_script","_law_k"] (cD K):=by
 walk_at "#sc__law_cell_at"
 .obtain⟨a,ns,k',rfl,_⟩:=h;rfl
 .obtain⟨a,ns,k',rfl,hA,hl,h0,k⟩:=h;walk_at "@sc__law_cell_at bna'0tY 01p60j8d00182"
  symm;refine F2 (u9 hA ?_);rw[Kb];symm;refine M9 (λh1=>?_) (λh1=>?_)
  .symm;obtain⟨v,hv,N_⟩:=iF (xs:=ns.map V.int) h0 (by rw[Kb];exact h1);rw[Kh] at N_;obtain⟨x,hx,rfl⟩:=KN.mp N_;exact j5 hA hv (k _)
  .symm;exact k 0
abbrev eu:=λP w K mg base=>U0 P w K mg base F0 1 "_law_stream" ["_law_cell","_law_many"] [] (dk K)
def kS {f fd}(T:Txt K mg)(F:Fun K "_law_stream" "_law_stream" bo f fd):C5 P w K mg base F0 1 f fd ["_law_cell","_law_many"] (dk K):=by
 walk_at "#sc__law_stream"
 .obtain⟨c,rfl,_⟩:=h;rfl
 .obtain⟨c,rfl,k⟩:=h;walk_at "@sc__law_stream 42fl002243HbtuV61h4942lffR0202R20422eQMX=<;033lR02022803"
  symm;refine⟨d0 (by simp),λlo no=>?_⟩;obtain⟨H1,e1,f1,m1,_⟩:=b5 (o:= .lst _) no;rw[e1];symm;refine Q5 (by lia) (by lia) ?_;refine O0 (n:=16) (λi σ H'=>(∃(m:Int) (v:Option V),σ=[some (.int c),some (.int 16),some (.int m),some (.ref lo),v]/\0<=m/\m<=2200000000)/\Same H H'/\∃xs:List Int,H' lo=some (.lst (xs.map V.int))/\xs.length=i/\∀x∈xs,0<=x)
   ⟨⟨_,_,rfl,by lia,by lia⟩,m1,[],f1,rfl,λ_ h=>nomatch h⟩ (λi σ H' hi _=>by exact hi) ?_ ?_
  .rintro i v σ H2' H2 hi ⟨⟨m,v',rfl,h0,h1⟩,s2,xs,g2,hl,hx⟩ ⟨rfl,rfl⟩ _ _;symm;have b0:0<=(m*m+69621*(0+(i:Int))+11) % 2147483647:=by lia
   have b1:(m*m+69621*(0+(i:Int))+11) % 2147483647<2147483647:=by lia
   generalize (m*m+69621*(0+(i:Int))+11) % 2147483647=m' at b0 b1⊢;refine⟨.inl ⟨rfl,_,SqL.of g2⟩,?_⟩;symm;refine⟨lo,_,_,rfl,rfl,g2,Y9 (by rw[Kb];lia),?_⟩;walk_at "X";refine⟨⟨m',_,rfl,b0,by lia⟩,E7 s2 no,xs++[m'*m' % 2147483587],?_,by rw[Kj,hl];rfl,λx h_=>?_⟩
   .rw[d6,Ki];rfl
   .rcases Kg.mp h_ with z|z
    .exact hx x z
    .rw[Kq.mp z];lia
  .rintro σ H2 ⟨⟨m,v',rfl,h0,h1⟩,s2,xs,g2,hl,hx⟩;refine⟨Ke _,?_⟩;symm;exact k lo H2 xs no s2 g2 hl hx
abbrev cm:=λP w K mg base=>U0 P w K mg base F0 1 "_law_words" ["_law_number","_law_many"] [] (eC K)
def mD {f fd}(T:Txt K mg)(F:Fun K "_law_words" "_law_words" cy f fd):C5 P w K mg base F0 1 f fd ["_law_number","_law_many"] (eC K):=by
 walk_at "#sc__law_words"
 .obtain⟨c,n,rfl,_⟩:=h;rfl
 .obtain⟨c,n,rfl,h0,h1,k⟩:=h;walk_at "@sc__law_words 42S43SbtuV3qUs2s2s2g22l002h49e~c3f03d2lz00f042245lz002fp6328w_law_k;3250;V61h0k_law_k,_law_base,_law_letters,_law_at,_law_number;Dff.01/:03d2lf04002.01:03/"
  symm;refine⟨d0 (by simp),λl1 n1=>?_⟩;obtain⟨H1,e1,f1,m1,_⟩:=b5 (o:= .lst ([0,0,2,5,7].map V.int)) n1;rw[show([V.int 0,V.int 0,V.int 2,V.int 5,V.int 7]:List V)=[0,0,2,5,7].map V.int from rfl,e1];symm;obtain⟨v,hv,N_⟩:=iF (xs:=([0,0,2,5,7]:List Int).map V.int) (i:=c % 5) (by lia) (by show _<((5:Nat):Int);lia);rw[Kh] at N_;obtain⟨z,hz,rfl⟩:=KN.mp N_;have Tg:0<=z/\z<=7:=by
   have hm:=Kr hz;simp only[Lh,OK,or_false] at hm;lia
  refine j5 (SqL.of f1) hv ?_;refine Q5 (by lia) (by lia) ?_;refine O0 (n:=z.toNat) (λi σ H'=>H'=H1/\∃(b:Str) (v:Option V),σ=[some (.int c),some (.int n),some (.str kSL),some (.str b),v,none]/\b.length=i/\∀x∈b.cps.toList,x∈kSL.cps.toList) ⟨rfl,_,none,rfl,rfl,λx hx=>by cases hx⟩ (λi σ H' hi _=>by exact hi) ?_ ?_
  .rintro i v σ H2' H2 hi ⟨rfl,b,v',rfl,hb,hbi⟩ ⟨rfl,rfl⟩ _ _;symm;refine bN iH (sO (c/(0+(i:Int)+3) % 26) (by lia) (by lia)) ?_;refine U5 (j:=⟨#[ck (c/(0+(i:Int)+3) % 26)]⟩) (d0 (by rw[aR];lia)) ?_;symm;refine⟨rfl,_,_,rfl,by rw[ie,aR];lia,λx hx=>?_⟩;have h_:x∈(b.cps++ #[ck (c/(0+(i:Int)+3) % 26)]).toList:=hx;simp only[PZ,Kg] at h_;rcases h_ with z|z
   .exact hbi x z
   .have:x=ck (c/(0+(i:Int)+3) % 26):=by simpa using z
    rw[this];exact qc _ (by lia) (by lia)
  .rintro σ H2 ⟨rfl,b,v',rfl,hb,hbi⟩;refine⟨Ke _,?_⟩;symm;refine F2 (dU (d0 (by lia)) ?_);symm;have q0:0<=c/5 % ((b.length:Int)+1):=Ls _ (by lia);have q1:c/5 % ((b.length:Int)+1)<(b.length:Int)+1:=Lj _ (by lia);generalize c/5 % ((b.length:Int)+1)=at_ at q0 q1⊢;refine Q5 h0 (by lia) ?_;refine z8 (n:=n.toNat) (λi out H'=>H'=H2/\out=(List.range i).map λk=>V.str (nF b at_ c k)) ⟨rfl,rfl⟩ (λi out H' hi _=>by exact hi) ?_ ?_
   .rintro N i v out H3' H3 hi ⟨rfl,rfl⟩ ⟨rfl,rfl⟩ hN';symm;refine⟨rfl,?_⟩;symm;refine gN (d0 (by lia)) ?_;symm;have hc3:=sO ((c+(0+(i:Int))) % 26) (by lia) (by lia);refine bN iH hc3 ?_;have g1:=MV b Option.none (some at_);have g2:=MV b (some at_) Option.none;refine U5 (j:=⟨#[ck ((c+(0+(i:Int))) % 26)]⟩) (d0 (by rw[aR];lia)) ?_;symm;refine gN (d0 (by lia)) ?_;refine U5 (d0 (by rw[ie,aR];lia)) ?_;refine⟨d0 (by rw[Kb,LU];lia),hN' _ _ ⟨rfl,?_⟩⟩;rw[MC,Ki];rfl
   .rintro out H3 ⟨rfl,rfl⟩;refine⟨Ke _,λD hD=>⟨d0 (by rw[Kb,LU];lia),?_⟩⟩;obtain⟨H5,e5,f5,m5,_⟩:=b5 (o:= .lst _) hD;refine k D _ ((List.range n.toNat).map (nF b at_ c)) (m1.free hD) ?_ ?_ ⟨by rw[Kb,LU],BS _ _ _ _ (by lia),λs hs=>?_⟩
    .show Same _ (upd _ D _);rw[e5];exact m1.trans m5
    .show upd _ D _ D=_;rw[d6,Lf];rfl
    .obtain⟨i,_,rfl⟩:=Kd.mp hs;exact xB hbi (by lia) q0 (by lia)
section
open PySem.Builtin PySem.Builtin.Str
theorem vm (l:List Nat):∀n,(List.range n).filterMap (λk=>l[k]?)=l.take n
 |0=>by simp
 |n+1=>by
  rw[MC,List.filterMap_append,vm l n,KI];congr 1
def GD (n:Nat)(i:Int)(h0:0<=i)(h1:i<=n):strSliceIndices none (some i) 1 n=List.range i.toNat:=by
 unfold strSliceIndices sliceRange;simp only[show(1:Int)>0 by decide,Oy];rw[if_neg (show ¬i<0 by lia),show max 0 (min i (n:Int))=i by lia];have e:(if(0:Int)<i then(i -0+1 -1)/1 else 0)=i:=by split<;>lia
 rw[e];refine(LB λk _=>?_).trans (List.map_id _);show(0+1*(k:Int)).toNat=k;lia
def tm (x:Str)(i:Int)(h0:0<=i)(h1:i<=x.length):(Txt.slice x none (some i)).cps.toList=x.cps.toList.take i.toNat:=by
 unfold Txt.slice;rw[GD x.length i h0 h1];split
 .next h=>
  have h':i.toNat=x.length:=by simpa using h
  have hl:x.cps.toList.length=x.length:=by show _=x.cps.size;simp
  rw[Kl (by lia)]
 .have e:(λk:Nat=>x.cps[k]?)=λk=>x.cps.toList[k]?:=by funext k;simp
  show(List.filterMap (λk=>x.cps[k]?) (List.range i.toNat)).toArray.toList=_;rw[e,vm]
end
def pG (l:List Nat):Str:=⟨l.toArray⟩
def wY (l:List Nat)(c:Nat):pG l++(⟨#[c]⟩:Str)=pG (l++[c]):=by
 unfold pG;show(⟨l.toArray++ #[c]⟩:Str)=_;congr 1;simp
def ik (l:List Nat):(pG l).length=l.length:=by
 show l.toArray.size=_;simp
def eh (s:Str)(i:Int):Nat:=s.cps.toList.getD i.toNat 0
def zW (s:Str)(i:Int)(h0:0<=i)(h1:i<s.cps.toList.length):nX s.cps.toList i=some (eh s i):=by
 obtain⟨v,hv,N_⟩:=iF (xs:=s.cps.toList) h0 h1;rw[hv];unfold eh;rw[KY,N_];rfl
abbrev kSM:Str:=kSL++("0123456789.":Str)
def zE (c:Int):Int:=([0,0,3,9,22]:List Int).getD (c % 5).toNat 0
def aO (j:Nat):Int:=if 0<j then 37 else 26
def jA (c:Int)(i:Nat):List Nat:=(List.range i).map λj:Nat=>eh kSM (c/((j:Int)+3) % aO j)
def O2 (c:Int):Str:=pG (jA c (zE c).toNat)
def Dt (c:Int)(k:Nat):Str:=(⟨#[ck ((c+(k:Int)) % 26)]⟩:Str)++(⟨#[eh "0123456789." ((k:Int) % 11)]⟩:Str)
def cJ (c:Int)(k:Nat):Str:=Txt.slice (O2 c) none (some (c/5 % (((O2 c).length:Int)+1)))++Dt c k++Txt.slice (O2 c) (some (c/5 % (((O2 c).length:Int)+1))) none
def vY (c:Int)(i:Nat):jA c (i+1)=jA c i++[eh kSM (c/((i:Int)+3) % aO i)]:=by
 unfold jA;rw[MC,Ki];rfl
def gM (c:Int)(i:Nat):(jA c i).length=i:=by unfold jA;rw[Kb,LU]
def zp (c:Int):0<=zE c/\zE c<=22:=by
 unfold zE;generalize (c % 5).toNat=k;rcases k with _|_|_|_|_|k<;>first|decide|exact⟨Int.le_refl 0,(by decide:(0:Int)<=22)⟩
def fP (K:Qc):Sp:=λvs H Q _=>∃(c:Int) (k:Nat),vs=[.int c,.int k]/\k<=300/\∀H',Same H H'->Q (.str (cJ c k)) H'
abbrev dg:=λP w K mg base=>U0 P w K mg base F0 1 "_law_name" ["_law_number","_law_k"] [] (fP K)
def pX {f fd}(T:Txt K mg)(F:Fun K "_law_name" "_law_name" dB f fd):C5 P w K mg base F0 1 f fd ["_law_number","_law_k"] (fP K):=by
 walk_at "#sc__law_name"
 .obtain⟨c,k',rfl,_⟩:=h;rfl
 .obtain⟨c,k',rfl,hk,k⟩:=h;walk_at "@sc__law_name 42S43SbtuV3qUs2s2s2g22l002h49e~c3f03qf02Slz00f042qUg22#~h~g~fE'0yP 042j45lz002fp63246fd2lf00012qSl0128ff.03/:0506.03:05/"
  symm;refine⟨d0 (by simp),λl1 n1=>?_⟩;obtain⟨H1,e1,f1,m1,_⟩:=b5 (o:= .lst (([0,0,3,9,22]:List Int).map V.int)) n1;rw[show([V.int 0,V.int 0,V.int 3,V.int 9,V.int 22]:List V)=([0,0,3,9,22]:List Int).map V.int from rfl,e1];symm;obtain⟨v,hv,N_⟩:=iF (xs:=([0,0,3,9,22]:List Int).map V.int) (i:=c % 5) (by lia) (by show _<((5:Nat):Int);lia);rw[Kh] at N_;obtain⟨z,hz,rfl⟩:=KN.mp N_;have ez:zE c=z:=by unfold zE;rw[KY,hz];rfl
  have Tg:=zp c;rw[ez] at Tg;refine j5 (SqL.of f1) hv ?_;refine Q5 (by lia) (by lia) ?_;refine O0 (n:=z.toNat) (λi σ H'=>Same H H'/\∃(v:Option V),σ=[some (.int c),some (.int k'),some (.str kSL),some (.str (pG (jA c i))),v,none,none]) ⟨m1,none,rfl⟩ (λi σ H' hi _=>by exact hi) ?_ ?_
  .rintro i v σ H2' H2 hi ⟨s2,v',rfl⟩ ⟨rfl,rfl⟩ _ _;have RM:=ik (jA c i);rw[gM] at RM;symm;refine U5 (by decide+kernel) ?_;symm;refine⟨d0 (by simp),λl3 n3=>?_⟩;obtain⟨H3,e3,f3,m3,_⟩:=b5 (o:= .lst [.int 26,.int 37]) n3;rw[e3];symm;refine .inr ⟨_,rfl,?_⟩;have hmod:aO i=26\/aO i=37:=by unfold aO;split<;>simp
   have hix:nX [V.int 26,V.int 37] (if decide (0<0+(i:Int))=true then(1:Int) else 0)=some (.int (aO i)):=by
    unfold aO;by_cases h:0<i
    .rw[if_pos (KA (by lia)),if_pos h];rfl
    .rw[if_neg (by rw[KQ (by lia)];simp),if_neg h];rfl
   refine j5 (SqL.of f3) hix ?_;have hmp:0<aO i:=by lia
   refine Jy hmp ?_;have q0:0<=c/(0+(i:Int)+3) % aO i:=Ls _ (by lia);have q1:c/(0+(i:Int)+3) % aO i<aO i:=Lj _ hmp;have Tn:kSM.cps.toList.length=37:=by decide+kernel
   refine bN (by decide+kernel) (zW kSM _ q0 (by rw[Tn];lia)) ?_;refine U5 (j:=⟨#[eh kSM (c/(0+(i:Int)+3) % aO i)]⟩) (d0 (by rw[aR];lia)) ?_;symm;refine⟨s2.trans m3,some (.int (0+(i:Int))),?_⟩;rw[vY,←wY,Pn (i:Int)];rfl
  .rintro σ H2 ⟨s2,v',rfl⟩;refine⟨Ke _,?_⟩;have eb:pG (jA c z.toNat)=O2 c:=by unfold O2;rw[ez]
   rw[eb];have RM:(O2 c).length<=22:=by rw[←eb,ik,gM];lia
   symm;refine F2 (dU (d0 (by lia)) ?_);symm;refine bN iH (sO ((c+(k':Int)) % 26) (by lia) (by lia)) ?_;symm;have SM:("0123456789.":Str).cps.toList.length=11:=by decide+kernel
   refine bN (by decide+kernel) (zW "0123456789." ((k':Int) % 11) (by lia) (by rw[SM];lia)) ?_;refine U5 (i:=⟨#[ck ((c+(k':Int)) % 26)]⟩) (j:=⟨#[eh "0123456789." ((k':Int) % 11)]⟩) (d0 (by rw[aR,aR];lia)) ?_;symm;have g1:=MV (O2 c) Option.none (some (c/5 % (((O2 c).length:Int)+1)));have g2:=MV (O2 c) (some (c/5 % (((O2 c).length:Int)+1))) Option.none;have gt:(Dt c k').length=2:=rfl;refine gN (d0 (by lia)) ?_;symm;refine U5 (j:=Dt c k') (d0 (by lia)) ?_;symm;refine gN (d0 (by lia)) ?_;refine U5 (d0 (by rw[ie];lia)) ?_;exact k _ s2
def rG (c:Int)(k:Nat):(cJ c k).cps.toList=(Txt.slice (O2 c) none (some (c/5 % (((O2 c).length:Int)+1)))).cps.toList++[ck ((c+(k:Int)) % 26),eh "0123456789." ((k:Int) % 11)]++(Txt.slice (O2 c) (some (c/5 % (((O2 c).length:Int)+1))) none).cps.toList:=by
 show((Txt.slice (O2 c) none (some (c/5 % (((O2 c).length:Int)+1)))).cps++(#[ck ((c+(k:Int)) % 26)]++ #[eh "0123456789." ((k:Int) % 11)])++(Txt.slice (O2 c) (some (c/5 % (((O2 c).length:Int)+1))) none).cps).toList=_;simp
def wx:∀i j:Nat,i<11->j<11->eh "0123456789." i=eh "0123456789." j->i=j:=by
 have h:∀i,i<11->∀j,j<11->eh "0123456789." (i:Nat)=eh "0123456789." (j:Nat)->i=j:=by decide+kernel
 exact λi j hi hj=>h i hi j hj
def pq {c:Int}{i j:Nat}(hi:i<286)(hj:j<286)(h:cJ c i=cJ c j):i=j:=by
 have z:=LK (λs:Str=>s.cps.toList) h;simp only[rG,La,List.append_cancel_left_eq,MN,List.cons.injEq] at z;have z1:=z.1;have e1:(c+(i:Int)) % 26=(((c+(i:Int)) % 26).toNat:Int):=md _ (by decide);have e2:(c+(j:Int)) % 26=(((c+(j:Int)) % 26).toNat:Int):=md _ (by decide);rw[e1,e2] at z1;have z2:=qQ _ _ (by lia) (by lia) z1;have z3:=z.2.1;have e3:(i:Int) % 11=(((i:Int) % 11).toNat:Int):=md _ (by decide);have e4:(j:Int) % 11=(((j:Int) % 11).toNat:Int):=md _ (by decide);rw[e3,e4] at z3;have z4:=wx _ _ (by lia) (by lia) z3;lia
def zv (s:Str)(i:Int)(h0:0<=i)(h1:i<s.cps.toList.length):eh s i∈s.cps.toList:=by
 unfold eh;rw[KY,Kc (show i.toNat<s.cps.toList.length by lia)];exact KS _
def FU:kSM.cps.toList=kNS.cps.toList:=by decide+kernel
def CF:∀x∈kSL.cps.toList,x∈kNS.cps.toList:=by decide+kernel
def GY:∀x∈("0123456789.":Str).cps.toList,x∈kNS.cps.toList:=by decide+kernel
def Bg:∀i:Nat,i<26->eh kSM (i:Nat)∈kSL.cps.toList:=by decide+kernel
def xW {c:Int}{x:Nat}(h:x∈(O2 c).cps.toList):x∈kNS.cps.toList:=by
 have h':x∈jA c (zE c).toNat:=by simpa [O2,pG] using h
 obtain⟨j,_,rfl⟩:=Kd.mp h';rw[←FU];have hl:kSM.cps.toList.length=37:=by decide+kernel
 have hm:aO j=26\/aO j=37:=by unfold aO;split<;>simp
 have q0:0<=c/((j:Int)+3) % aO j:=Ls _ (by lia);have q1:c/((j:Int)+3) % aO j<aO j:=Lj _ (by lia);exact zv _ _ q0 (by rw[hl];lia)
def BR (c:Int):(O2 c).length<=22:=by
 have:=zp c;unfold O2;rw[ik,gM];lia
def rS (c:Int)(k:Nat):X6 (cJ c k)=true:=by
 have hb:=BR c;have q0:0<=c/5 % (((O2 c).length:Int)+1):=Ls _ (by lia);have q1:c/5 % (((O2 c).length:Int)+1)<((O2 c).length:Int)+1:=Lj _ (by lia);have Rk:=rG c k;have g1:=qr (O2 c) _ q0 (by lia);have g2:=kX (O2 c) _ q0 (by lia);have Ug:=tm (O2 c) _ q0 (by lia);generalize c/5 % (((O2 c).length:Int)+1)=at_ at q0 q1 Rk g1 g2 Ug;have hl:(cJ c k).length=(cJ c k).cps.toList.length:=fK _;have e1:=fK (Txt.slice (O2 c) none (some at_));have e2:=fK (Txt.slice (O2 c) (some at_) none);have hlen:(cJ c k).length=(Txt.slice (O2 c) none (some at_)).length+2+(Txt.slice (O2 c) (some at_) none).length:=by
  rw[hl,Rk,Kj,Kj,e1,e2];rfl
 have dl:("0123456789.":Str).cps.toList.length=11:=by decide+kernel
 unfold X6;rw[KO];constructor
 .unfold U7;rw[hlen,KA (by lia),KA (by lia),Nd,Nd];unfold rg;rw[KZ,Rk];intro x hx;refine KA ?_;rcases Kg.mp hx with z|z
  .rcases Kg.mp z with z|z
   .exact xW (dX z)
   .simp only[Lh,OK,or_false] at z;rcases z with rfl|rfl
    .exact CF _ (qc _ (by lia) (by lia))
    .exact GY _ (zv _ _ (by lia) (by rw[dl];lia))
  .exact xW (dX z)
 .unfold Im;refine KA ?_;rw[Rk,Ug];by_cases h0:at_=0
  .rw[h0];exact qc _ (by lia) (by lia)
  .have RE:(O2 c).cps.toList=jA c (zE c).toNat:=by simp [O2,pG]
   have RM:(O2 c).length=(zE c).toNat:=by unfold O2;rw[ik,gM]
   obtain⟨m,hm⟩:∃m,(zE c).toNat=m+1:=⟨(zE c).toNat -1,by lia⟩
   obtain⟨t,ht⟩:∃t,at_.toNat=t+1:=⟨at_.toNat -1,by lia⟩
   rw[RE,hm,ht];unfold jA;rw[OU,Lk,List.take_succ_cons,MN,MN,List.headD_cons];have q2:(c/(((0:Nat):Int)+3) % aO 0)=(((c/(((0:Nat):Int)+3) % aO 0).toNat:Nat):Int):=by
    have:aO 0=26:=rfl;rw[this];lia
   rw[q2];exact Bg _ (by have:aO 0=26:=rfl;rw[this];lia)
def jq (K:Qc):Sp:=λvs H Q _=>∃(a b:Addr) (c:Int) (ns:List Int) (ks:List Str),vs=[.ref a,.int c,.ref b]/\SqL K H a (ns.map V.int)/\ns.length<=63/\SqL K H b (ks.map V.str)/\0<ks.length/\ks.length<=3/\(∀s∈ks,K7 s=true)/\∀(a p q:Addr) (kvs:List (j6×V)) (W:C9) (H':Hp),Same H H'->WebIs 24 K H' a p q kvs W->lj W->((W.pts.length+W.ts.length:Nat):Int)<=3+c/7 % 10->(∀x∈b7 W,∃j,j<13/\x=cJ c j)->Q (.ref a) H'
abbrev kI:=λP w K mg base=>U0 P w K mg base F0 2 "_law_web" ["_law_script","_law_number","_law_kinds"] [] (jq K)
def su {f fd}(T:Txt K mg)(F7:aD P w K mg base)(C8:V7 P w K mg base)(Q3:dg P w K mg base)(F:Fun K "_law_web" "_law_web" fh f fd):C5 P w K mg base F0 2 f fd ["_law_script","_law_number","_law_kinds"] (jq K):=by
 walk_at "#sc__law_web"
 .obtain⟨a,b,c,ns,ks,rfl,_⟩:=h;rfl
 .obtain⟨a,b,c,ns,ks,rfl,hA,hl,hC,Yh,hk3,SH,k⟩:=h;walk_at "@sc__law_web 43P44PbtuV3f2lz0122h59465~is5~d703f2056547GJ63e'3bD IZaN07Hj-aNl0622jeAd2lz062p62035'0Q3 i1548mgd7lz062p67d7lz062p67eAfm3d2lz062p6208045'0Q3 i158mi34"
  symm;intro p np;obtain⟨H1,e1,f1,m1,o1⟩:=b5 (o:= .dK []) np;rw[e1];symm;intro q nq;obtain⟨H2,e2,f2,m2,o2⟩:=b5 (o:= .dK []) nq;rw[e2];have Xq:p≠q:=λz=>by rw[←z,f1] at nq;cases nq
  have nq0:H q=none:=m1.free nq;symm;refine Q5 (by lia) (by lia) ?_;refine O0 (n:=(3+c/7 % 10).toNat) (λi σ H'=>∃(pts:List (Str×Str)) (kvs:List (j6×V)) (ts:List (Str×N3)) (v1 v2 v3 v4:Option V),σ=[some (.ref a),some (.int c),some (.ref b),some (.ref p),some (.ref q),v1,v2,v3,v4]/\Same H H'/\H' p=some (.dK (i7 pts))/\H' q=some (.dK kvs)/\TiesIs K H' kvs ts/\(pts.map (·.1)++ts.map (·.1)).Nodup/\(∀x∈pts.map (·.1)++ts.map (·.1),x∈(List.range i).map (cJ c))/\pts.length+ts.length=i/\(∀x∈ts,x.2.2.1∈pts.map (·.1)/\x.2.2.2∈pts.map (·.1))/\(∀x∈pts,K7 x.2=true)/\∀x∈ts,K7 x.2.1=true)
   ⟨[],[],[],_,_,_,_,rfl,m1.trans m2,m2 _ _ f1,f2,.nil,LF,(λ_ h=>nomatch h),rfl,(λ_ h=>nomatch h),(λ_ h=>nomatch h),λ_ h=>nomatch h⟩ (λi σ H' hi _=>by exact hi) ?_ ?_
  .rintro i v σ H3' H3 hi ⟨pts,kvs,ts,v1,v2,v3,v4,rfl,s3,g3,t3,w3,d1,d2,l1,l2,k1,k2⟩ ⟨rfl,rfl⟩ _ _;replace hi:i<=12:=by lia
   have e7:(List.range (i+1)).map (cJ c)=(List.range i).map (cJ c)++[cJ c i]:=by rw[MC,Ki];rfl
   have Zo:cJ c i∉(List.range i).map (cJ c):=λm=>by
    obtain⟨j,hj,e⟩:=Kd.mp m;have Wj:=Mp.mp hj;have:=pq (by lia) (by lia) e;lia
   have fresh:cJ c i∉pts.map (·.1)++ts.map (·.1):=λm=>Zo (d2 _ m);have UB:∀x∈pts.map (·.1)++ts.map (·.1),x∈(List.range (i+1)).map (cJ c):=λx hx=>by rw[e7];exact Kf _ (d2 x hx)
   have here:cJ c i∈(List.range (i+1)).map (cJ c):=by rw[e7];simp
   symm;refine⟨a,ns,_,rfl,s3.seq hA,hl,by lia,λm=>?_⟩;symm;refine⟨_,_,rfl,by lia,by lia,λx s_=>?_⟩;symm;refine A6 (ss:=pts.map (·.1)) (.inl g3) (by rw[E6,B6]) (by rw[Kb];lia) (λs1 a1 a2 l5 n5=>?_);obtain⟨H5,e5,f5,m5,_⟩:=b5 (o:= .lst _) n5;rw[e5];have Sn:=a1.length_eq;rw[Kb] at Sn;symm;refine⟨d0 (by simp),λl6 n6=>?_⟩;obtain⟨H6,e6,f6,m6,_⟩:=b5 (o:= .lst _) n6;rw[e6];have h6:=m6 _ _ f5;have s6:=s3.trans (m5.trans m6);have g6:=m6 _ _ (m5 _ _ g3);have t6:=m6 _ _ (m5 _ _ t3);have w6:=w3.mono (m5.trans m6).le;refine oF (qO (SqL.of h6) (SqL.of f6) (P8 _) rfl ?_);symm;refine aH (λhz=>?_) (λhz=>?_)
   .symm;refine F2 (u9 (s6.seq hC) ?_);rw[Kb];symm;obtain⟨kd,J_,So⟩:=L8 (ss:=ks) (i:=x/3 % (ks.length:Int)) (Ls _ (by lia)) (Lj _ (by lia));refine j5 (s6.seq hC) J_ ?_;symm;refine⟨c,i,by rw[Pn];rfl,by lia,λH7 m7=>?_⟩;have s7:=s6.trans m7;have g7:=m7 _ _ g6;have t7:=m7 _ _ t6;have w7:=w6.mono m7.le;refine P9 (B5 (k:=Sum.inr (cJ c i)) g7 (d0 (by unfold i7;rw[Kb];lia)) ?_);have ep:E9 (i7 pts) (Sum.inr (cJ c i):j6) (.str kd)=i7 (pts++[(cJ c i,kd)]):=by
     rw[Q0 _ (N8 (by rw[E6,←B6];exact λm=>fresh (Kf _ (Z4 m))))];unfold i7;rw[Ki];rfl
    walk_at "X";refine⟨pts++[(cJ c i,kd)],kvs,ts,_,_,_,_,rfl,E7 s7 np,by rw[d6,ep],by rw[b9 (Mc Xq)];exact t7,Paired.imp' (λ_ _ z=>gF g7 z) w7,AD d1 fresh,uS UB here,?_,?_,?_,λy hy=>k2 y hy⟩
    .rw[Kj,Ku];lia
    .intro x hx;rw[Ki];walk_at "X";exact⟨Kf _ (l2 x hx).1,Kf _ (l2 x hx).2⟩
    .intro y hy;rcases Kg.mp hy with h'|h'
     .exact k1 y h'
     .rw[Kq.mp h'];exact SH _ So
   .symm;refine M9 (λh3=>?_) (λh3=>?_)
    .symm;refine F2 (u9 (s6.seq hC) ?_);rw[Kb];symm;obtain⟨kd,J_,So⟩:=L8 (ss:=ks) (i:=x/3 % (ks.length:Int)) (Ls _ (by lia)) (Lj _ (by lia));refine j5 (s6.seq hC) J_ ?_;symm;refine⟨c,i,by rw[Pn];rfl,by lia,λH7 m7=>?_⟩;have s7:=s6.trans m7;have g7:=m7 _ _ g6;have t7:=m7 _ _ t6;have w7:=w6.mono m7.le;refine P9 (B5 (k:=Sum.inr (cJ c i)) g7 (d0 (by unfold i7;rw[Kb];lia)) ?_);have ep:E9 (i7 pts) (Sum.inr (cJ c i):j6) (.str kd)=i7 (pts++[(cJ c i,kd)]):=by
      rw[Q0 _ (N8 (by rw[E6,←B6];exact λm=>fresh (Kf _ (Z4 m))))];unfold i7;rw[Ki];rfl
     walk_at "X";refine⟨pts++[(cJ c i,kd)],kvs,ts,_,_,_,_,rfl,E7 s7 np,by rw[d6,ep],by rw[b9 (Mc Xq)];exact t7,Paired.imp' (λ_ _ z=>gF g7 z) w7,AD d1 fresh,uS UB here,?_,?_,?_,λy hy=>k2 y hy⟩
     .rw[Kj,Ku];lia
     .intro x hx;rw[Ki];walk_at "X";exact⟨Kf _ (l2 x hx).1,Kf _ (l2 x hx).2⟩
     .intro y hy;rcases Kg.mp hy with h'|h'
      .exact k1 y h'
      .rw[Kq.mp h'];exact SH _ So
    .have QD:0<pts.length:=by
      cases pts with
      |nil=>exact absurd hz (by rw[List.Perm.eq_nil a1];decide)
      |cons _ _=>simp
     symm;refine F2 (u9 (SqL.of h6) ?_);rw[Kb,Sn];symm;obtain⟨o1,Rt,Xr⟩:=L8 (ss:=s1) (i:=x/9 % (pts.length:Int)) (Ls _ (by lia)) (by rw[Sn];exact Lj _ (by lia));refine j5 (SqL.of h6) Rt ?_;symm;refine F2 (u9 (SqL.of h6) ?_);rw[Kb,Sn];symm;obtain⟨o2,Rc,Zp⟩:=L8 (ss:=s1) (i:=x/101 % (pts.length:Int)) (Ls _ (by lia)) (by rw[Sn];exact Lj _ (by lia));refine j5 (SqL.of h6) Rc ?_;symm;refine⟨d0 (by simp),λl8 n8=>?_⟩;obtain⟨H8,e8,f8,m8,_⟩:=b5 (o:= .tup _) n8;rw[e8];have s8:=s6.trans m8;symm;refine F2 (u9 (s8.seq hC) ?_);rw[Kb];symm;obtain⟨kd,J_,So⟩:=L8 (ss:=ks) (i:=x/3 % (ks.length:Int)) (Ls _ (by lia)) (Lj _ (by lia));refine j5 (s8.seq hC) J_ ?_;symm;refine⟨d0 (by simp),λl9 n9=>?_⟩;obtain⟨H9,e9,f9,m9,_⟩:=b5 (o:= .tup _) n9;rw[e9];symm;refine .inr (.inr (.inr ⟨l9,l8,_,_,rfl,rfl,SqT.of f9,SqT.of (m9 _ _ f8),by simp,d0 (by simp),(λz=>by cases z),λ_ Tj n10=>?_⟩));obtain⟨Ri,RN,Sm,QK,_⟩:=b5 (o:= .tup (ax (kd,o1,o2))) n10;rw[show([V.str kd]++[V.str o1,V.str o2]:List V)=ax (kd,o1,o2) from rfl,RN];symm;refine⟨c,i,by rw[Pn];rfl,by lia,λTQ Sq=>?_⟩;have M:=m8.trans (m9.trans (QK.trans Sq));have TU:=s6.trans M;have g11:=M _ _ g6;have Zq:=M _ _ t6;have Zr:=w6.mono M.le;refine P9 (B5 (k:=Sum.inr (cJ c i)) Zq (d0 (by have z:=Zr.length;lia)) ?_);have ek:E9 kvs (Sum.inr (cJ c i):j6) (.ref Tj)=kvs++[(Sum.inr (cJ c i),.ref Tj)]:=Q0 _ (N8 (by rw[Zr.keys,←B6];exact λm=>fresh (Kk _ (Z4 m))));walk_at "X";refine⟨pts,_,ts++[(cJ c i,(kd,o1,o2))],_,_,_,_,rfl,E7 TU nq0,by rw[b9 Xq];exact g11,d6,?_,DL d1 fresh,Br UB here,?_,?_,k1,?_⟩
     .rw[ek];exact B9 (Paired.imp' (λ_ _ z=>gF Zq z) Zr) (gF Zq ⟨rfl,Tj,rfl,SqT.of (Sq _ _ Sm)⟩)
     .rw[Kj,Ku];lia
     .intro x hx;rcases Kg.mp hx with h'|h'
      .exact l2 x h'
      .rw[Kq.mp h'];exact⟨a1.mem_iff.mp Xr,a1.mem_iff.mp Zp⟩
     .intro y hy;rcases Kg.mp hy with h'|h'
      .exact k2 y h'
      .rw[Kq.mp h'];exact SH _ So
  .rintro σ H3 ⟨pts,kvs,ts,v1,v2,v3,v4,rfl,s3,g3,t3,w3,d1,d2,l1,l2,k1,k2⟩;refine⟨Ke _,?_⟩;symm;refine⟨d0 (by simp),λl9 n9=>?_⟩;obtain⟨H9,e9,f9,m9,_⟩:=b5 (H:=H3) (o:= .tup [.ref p,.ref q]) n9;change Q _ (upd H3 l9 _);rw[e9];have hgn:∀x∈pts.map (·.1)++ts.map (·.1),X6 x=true:=λx hx=>by
    obtain⟨j,_,rfl⟩:=Kd.mp (d2 x hx);exact rS c j
   have Vg:∀x∈pts.map (·.1)++ts.map (·.1),x.length<=100:=λx hx=>by
    have z:=hgn x hx;unfold X6 at z;have:=dW (KO _ _▸z).1;lia
   exact k l9 p q kvs ⟨pts,ts⟩ H9 (s3.trans m9) ⟨⟨SqT.of f9,.inl (m9 _ _ g3),.inl (m9 _ _ t3),w3.mono m9.le⟩,m9 _ _ g3,m9 _ _ t3,Xq,d1,by show(pts.map (·.1)++ts.map (·.1)).length<=24;rw[Kj,Kb,Kb];lia,l2,Vg⟩ ⟨hgn,k1,k2⟩ (by show((pts.length+ts.length:Nat):Int)<=3+c/7 % 10;lia) (λx hx=>by
    obtain⟨j,hj,rfl⟩:=Kd.mp (d2 x hx);have:=Mp.mp hj;exact⟨j,by lia,rfl⟩)
def iW (K:Qc):Sp:=λvs H Q _=>∃(a:Addr) (ns:List Int),vs=[.ref a]/\SqL K H a (ns.map V.int)/\ns.length<=63/\∀(t lk b p q:Addr) (kvs:List (j6×V)) (W:C9) (c:Int) (ks:List Str) (H':Hp),Same H H'->H' t=some (.tup [.int c,.ref lk,.ref b])->H' lk=some (.lst (ks.map V.str))->0<ks.length->ks.length<=3->(∀s∈ks,K7 s=true)->0<=c->WebIs 24 K H' b p q kvs W->lj W->W.pts.length+W.ts.length<=8->(∀x∈b7 W,∃j,j<13/\x=cJ c j)->Q (.ref t) H'
abbrev kD:=λP w K mg base=>U0 P w K mg base F0 3 "_law_set" ["_law_script"] [] (iW K)
def rL {f fd}(T:Txt K mg)(F7:aD P w K mg base)(C8:V7 P w K mg base)(Q7:cm P w K mg base)(fG:kI P w K mg base)(F:Fun K "_law_set" "_law_set" eX f fd):C5 P w K mg base F0 3 f fd ["_law_script"] (iW K):=by
 walk_at "#sc__law_set"
 .obtain⟨a,ns,rfl,_⟩:=h;rfl
 .obtain⟨a,ns,rfl,hA,hl,k⟩:=h;walk_at "@sc__law_set 415~ig5~d7032241fRz0122l012425~ig5~d70322435'0Q7 gz022f2l0228m717335'0fG 70i13"
  symm;refine⟨a,ns,0,rfl,hA,hl,by lia,λc0=>?_⟩;symm;refine⟨c0,20,rfl,by lia,by lia,λm9 hm9=>?_⟩;symm;obtain⟨m0,e0,hm0,hm7⟩:∃m0,m9/70*70+m9 % 42=m0/\0<=m0/\m0/7 % 10<=5:=⟨_,rfl,by lia,by lia⟩
  rw[e0];symm;refine⟨a,ns,1,rfl,hA,hl,by lia,λc1=>?_⟩;symm;refine⟨c1,21,rfl,by lia,by lia,λm1 Xr=>?_⟩;symm;refine⟨_,_,rfl,by lia,by lia,λlk H1 ks n1 s1 f1 ⟨h1,h2,h3⟩=>?_⟩;symm;refine⟨a,lk,m0,ns,ks,rfl,s1.seq hA,hl,SqL.of f1,by lia,by lia,h3,λb p q kvs W H2 s2 hW hG hz Qw=>?_⟩;symm;refine⟨d0 (by simp),λt nt=>?_⟩;obtain⟨H3,e3,f3,s3,_⟩:=b5 (o:= .tup _) nt;rw[e3];exact k t lk b p q kvs W m0 ks H3 (s1.trans (s2.trans s3)) f3 (s3 _ _ (s2 _ _ f1)) (by lia) (by lia) h3 hm0 (hW.same s3) hG (by lia) Qw
structure Gw (W:C9) (ps ts:List Str):Prop where
 n1:ps.Nodup
 n2:ts.Nodup
 l1:ps.length<=4
 l2:ts.length<=4
 p:∀n∈ps,n∈W.pts.map (·.1)
 t:∀n∈ts,∃x,(n,x)∈W.ts/\x.2.1∈ps/\x.2.2∈ps
def dA (K:Qc):Sp:=λvs H Q _=>∃(S:Sd) (lx:Addr) (xs:List Int),vs=[.ref S.a,.ref lx]/\SdIs K H S/\SqL K H lx (xs.map V.int)/\xs.length=16/\(∀x∈xs,0<=x)/\∀(t lp lt:Addr) (ps ts:List Str) (H':Hp),Same H H'->H' t=some (.tup [.ref lp,.ref lt])->H' lp=some (.lst (ps.map V.str))->H' lt=some (.lst (ts.map V.str))->Gw S.W ps ts->Q (.ref t) H'
def aI {xs:List Int}(hl:xs.length=16)(h0:∀x∈xs,0<=x)(i:Nat)(hi:i<16):∃x,nX (xs.map V.int) (i:Int)=some (.int x)/\0<=x:=
 ⟨xs[i]'(by lia),k7 (j:=i) (by rw[Kh,Kc (by lia)];rfl),h0 _ (KS _)⟩
abbrev eG:=λP w K mg base=>U0 P w K mg base F0 1 "_law_picked" ["_law_web_here","_law_xs"] [] (dA K)
def kO {f fd}(T:Txt K mg)(F:Fun K "_law_picked" "_law_picked" bu f fd):C5 P w K mg base F0 1 f fd ["_law_web_here","_law_xs"] (dA K):=by
 walk_at "#sc__law_picked"
 .obtain⟨S,lx,xs,rfl,_⟩:=h;rfl
 .obtain⟨S,lx,xs,rfl,hS,hX,p_,s_,k⟩:=h;have Tn:=hS.len;rw[C3] at Tn;walk_at "@sc__law_picked 42GJ31043HbtuV3Rl112#~h~g~fE(02Hjh49enaBd2ld1f204p6203oeQMX=<;033d2ld1f204p6245Hbtu~83GJ310xc69c79y48q1007enI)aF1803o)aF1803o)a'0tY p652j?a'0yP lz11f06222jeQMX=<;05678mi35"
  refine Q1 ?_;rfl';refine u4 hS.at_.tup ?_;rfl';refine A6 (ss:=S.W.pts.map (·.1)) hS.at_.pts (by rw[E6,B6]) (by rw[Kb];lia) (λs1 a1 a2 l1 n1=>?_);obtain⟨H1,e1,f1,m1,_⟩:=b5 (o:= .lst _) n1;rw[e1];have g1:=a1.length_eq;rw[Kb] at g1;rfl';refine Q1 ?_;rfl';refine⟨d0 (by simp),λlp np=>?_⟩;obtain⟨H2,e2,f2,m2,_⟩:=b5 (o:= .lst []) np;rw[e2];rfl';refine Q1 ?_;rfl';obtain⟨x0,hx,h_⟩:=aI p_ s_ 0 (by lia);refine j5 ((m1.trans m2).seq hX) hx ?_;rfl';refine⟨d0 (by simp),λl3 n3=>?_⟩;obtain⟨H3,e3,f3,m3,_⟩:=b5 (o:= .lst []) n3;rw[e3];refine AS (il (SqL.of (m3 _ _ (m2 _ _ f1))) (SqL.of f3) (P8 _) rfl ?_);refine .inr ⟨_,rfl,?_⟩;have Wk:V9 (s1.map V.str) []=decide (s1=[]):=by cases s1<;>rfl
  rw[Wk];generalize hn:(if(!decide (s1=[]))=true then(1:Int) else 0)=n;have OS:(n=0\/n=1)/\(n=1->0<s1.length):=by
   subst hn;cases s1 with
   |nil=>simp
   |cons _ _=>simp
  have Yu:lp≠l1:=d9 f1 np|>.symm;rfl';have hmul:0<=x0 % 5*n/\x0 % 5*n<=4/\(0<x0 % 5*n->n=1):=by
   rcases OS.1 with rfl|rfl<;>lia
  generalize x0 % 5*n=cnt at hmul⊢;refine Q5 (by lia) (by lia) ?_;have M3:=m1.trans (m2.trans m3);refine O0 (n:=cnt.toNat) (λi σ H'=>Same H H'/\H' l1=some (.lst (s1.map V.str))/\(∃v4,σ=[some (.ref S.a),some (.ref lx),some (.ref l1),some (.ref lp),v4,none,none,none,none])/\∃ps:List Str,H' lp=some (.lst (ps.map V.str))/\ps.Nodup/\ps.length<=i/\∀n∈ps,n∈s1)
   ⟨M3,m3 _ _ (m2 _ _ f1),⟨_,rfl⟩,[],m3 _ _ f2,LF,Ke _,λ_ h=>nomatch h⟩ (λi σ H' hi _=>by exact hi) ?_ ?_
  .rintro i v σ H4' H4 hi ⟨s4,h4,⟨v4,rfl⟩,ps,g4,nd4,hl4,in4⟩ ⟨rfl,rfl⟩ _ _;have QD:0<s1.length:=OS.2 (hmul.2.2 (by lia));obtain⟨xj,Zs,hxj'⟩:=aI p_ s_ (1+i) (by lia);have TN:((1+i:Nat):Int)=1+(0+(i:Int)):=by lia
   rw[TN] at Zs;obtain⟨nm,Qw,Zt⟩:=L8 (ss:=s1) (i:=xj % (s1.length:Int)) (Ls _ (by lia)) (Lj _ (by lia));rfl';refine j5 (s4.seq hX) Zs ?_;rfl';refine F2 (u9 (SqL.of h4) ?_);rw[Kb];rfl';refine j5 (SqL.of h4) Qw ?_;rfl';refine J2 (SqL.of g4) ?_;rfl';refine O6 (λhb=>?_) (λhb=>?_)
   .rfl';refine⟨.inl ⟨rfl,_,SqL.of g4⟩,?_⟩;rfl';refine j5 (s4.seq hX) Zs ?_;rfl';refine F2 (u9 (SqL.of h4) ?_);rw[Kb];rfl';refine j5 (SqL.of h4) Qw ?_;rfl';refine⟨lp,_,_,rfl,rfl,g4,Y9 (by rw[Kb];lia),?_⟩;walk_at "X";refine⟨E7 s4 (m1.free np),by rw[b9 Yu.symm];exact h4,⟨_,rfl⟩,ps++[nm],?_,E3 nd4 hb,by rw[Kj,Ku];lia,λn hn=>?_⟩
    .rw[d6,Ki];rfl
    .rcases Kg.mp hn with z|z
     .exact in4 n z
     .rw[Kq.mp z];exact Zt
   .rfl';walk_at "X";exact⟨s4,h4,⟨_,rfl⟩,ps,g4,nd4,by lia,in4⟩
  .rintro σ H4 ⟨s4,h4,⟨v4,rfl⟩,ps,g4,nd4,hl4,in4⟩;refine⟨Ke _,?_⟩;have S4:=hS.same s4;refine Q1 ?_;rfl';refine⟨d0 (by simp),λlt nt=>?_⟩;obtain⟨H5,e5,f5,m5,_⟩:=b5 (H:=H4) (o:= .lst []) nt;change O7 _ _ _ (upd H4 lt _) _;rw[e5];rfl';refine Q1 ?_;rfl';have S5:=S4.same m5;refine j9 S5.at_.tup ?_;rfl';refine A6 (ss:=S.W.ts.map (·.1)) S5.at_.ties (by rw[S5.at_.ts.keys,B6]) (by rw[Kb];lia) (λs2 b1 b2 l6 n6=>?_);obtain⟨H6,e6,f6,m6,_⟩:=b5 (o:= .lst _) n6;rw[e6];have g2:=b1.length_eq;rw[Kb] at g2;have RD:s2.Nodup:=b1.nodup_iff.mpr (O8 hS.nd);have Zu:lt≠l6:=d9 f5 n6;have hlpt:lp≠lt:=d9 g4 nt;rfl';refine⟨_,rfl,.inl ⟨l6,_,rfl,SqL.of f6,?_⟩⟩;have M6:=m5.trans m6;refine O0 (n:=s2.length) (λi σ H'=>Same H4 H'/\H' l6=some (.lst (s2.map V.str))/\(∃v4 v6 v7 v8,σ=[some (.ref S.a),some (.ref lx),some (.ref l1),some (.ref lp),v4,some (.ref lt),v6,v7,v8])/\∃ts:List Str,H' lt=some (.lst (ts.map V.str))/\ts.Nodup/\ts.length<=4/\(∀n∈ts,n∈s2.take i)/\∀n∈ts,∃x,(n,x)∈S.W.ts/\x.2.1∈ps/\x.2.2∈ps)
    ⟨M6,f6,⟨_,_,_,_,rfl⟩,[],m6 _ _ f5,LF,LJ _,(λ_ h=>nomatch h),λ_ h=>nomatch h⟩ (λi σ H' hi hp=>⟨_,.str (s2[i]),SqL.of hp.2.1,by rw[Kh,Kc hi];rfl⟩) ?_ ?_
   .rintro i v σ H7 H8 hi ⟨s7,h7,⟨v4,v6,v7,v8,rfl⟩,ts,g7,nd7,hl7,in7,ok7⟩ ⟨t,x,hx,nt',rfl,rfl⟩ _ _;have h_:=hx _ (SqL.of h7);rw[Kh,Kc hi] at h_;cases h_;obtain⟨H9,e9,f9,m9,_⟩:=b5 (o:= .tup _) nt';rw[e9];have e7:s2.take (i+1)=s2.take i++[s2[i]]:=by rw[KI,Kc hi];rfl
    have Zo:s2[i]∉ts:=λm=>by
     have z:(s2.take (i+1)).Nodup:=RD.sublist (Lv _ _);rw[e7] at z;exact(Ks.mp z).2.2 _ (in7 _ m) _ (by simp) rfl
    have m_:s2[i]∈S.W.ts.map (·.1):=b1.mem_iff.mp (KS hi);have s9:=s7.trans m9;have S9:=S4.same s9;have p9:=s9 _ _ g4;have g9:=m9 _ _ g7;have h9:=m9 _ _ h7;obtain⟨aa,⟨y1,y2,y3⟩,q1,q2,q3⟩:=TiesIs.val (ts:=S.W.ts) S9.at_.ts m_;refine I0 (SqT.of f9) rfl ?_;symm;refine j9 S9.at_.tup ?_;symm;refine z0 (v:= .ref aa) (by have z:=K1 (k:=Sum.inr s2[i]) S9.at_.ties;rw[q1] at z;exact z) ?_;have stay:Same H4 H9/\H9 l6=some (.lst (s2.map V.str))/\(∃v4' v6 v7 v8,[some (V.ref S.a),some (.ref lx),some (.ref l1),some (.ref lp),v4,some (.ref lt),some (.int (i:Int)),some (.str s2[i]),some (.ref aa)]=[some (.ref S.a),some (.ref lx),some (.ref l1),some (.ref lp),v4',some (.ref lt),v6,v7,v8])/\∃ts:List Str,H9 lt=some (.lst (ts.map V.str))/\ts.Nodup/\ts.length<=4/\(∀n∈ts,n∈s2.take (i+1))/\∀n∈ts,∃x,(n,x)∈S.W.ts/\x.2.1∈ps/\x.2.2∈ps:=
     ⟨s9,h9,⟨_,_,_,_,rfl⟩,ts,g9,nd7,hl7,λn hn=>by rw[e7];exact Kf _ (in7 n hn),ok7⟩
    symm;refine j9 q3 ?_;symm;refine aS (SqL.of p9) ?_;symm;refine M9 (λc1=>?_) (λc1=>?_)
    .symm;refine cw q3 ?_;symm;refine aS (SqL.of p9) ?_;symm;refine M9 (λc2=>?_) (λc2=>?_)
     .symm;refine F2 (u9 (SqL.of g9) ?_);rw[Kb];symm;refine M9 (λc3=>?_) (λc3=>?_)
      .obtain⟨x5,YH,hx5'⟩:=aI p_ s_ 5 (by lia);symm;refine j5 ((s4.trans s9).seq hX) YH ?_;symm;refine M9 (λc4=>?_) (λc4=>?_)
       .symm;refine⟨.inl ⟨rfl,_,SqL.of g9⟩,?_⟩;symm;refine⟨lt,_,_,rfl,rfl,g9,Y9 (by rw[Kb];lia),?_⟩;walk_at "X";refine⟨E7 s9 nt,by rw[b9 Zu.symm];exact h9,⟨_,_,_,_,rfl⟩,ts++[s2[i]],?_,E3 nd7 Zo,by rw[Kj,Ku];lia,λn hn=>?_,λn hn=>?_⟩
        .rw[d6,Ki];rfl
        .rw[e7];rcases Kg.mp hn with z|z
         .exact Kf _ (in7 n z)
         .exact Kk _ z
        .rcases Kg.mp hn with z|z
         .exact ok7 n z
         .rw[Kq.mp z];exact⟨_,q2,c1,c2⟩
       .symm;exact stay
      .symm;exact stay
     .symm;exact stay
    .symm;exact stay
   .rintro σ H7 ⟨s7,h7,⟨v4,v6,v7,v8,rfl⟩,ts,g7,nd7,hl7,in7,ok7⟩;refine⟨⟨_,SqL.of h7,by rw[Kb];exact Ke _⟩,?_⟩;symm;refine⟨d0 (by simp),λt nt'=>?_⟩;obtain⟨H9,e9,f9,m9,_⟩:=b5 (H:=H7) (o:= .tup [.ref lp,.ref lt]) nt';change Q _ (upd H7 t _);rw[e9];exact k t lp lt ps ts H9 (s4.trans (s7.trans m9)) f9 (m9 _ _ (s7 _ _ g4)) (m9 _ _ g7) ⟨nd4,nd7,by lia,hl7,λn hn=>a1.mem_iff.mp (in4 n hn),ok7⟩
structure GQ (W:C9) (ps ts os:List Str):Prop where
 sub:∀n∈os,n∈ps++ts
 len:os.length<=8
 ok:∀n∈ts,n∉os->∀x,(n,x)∈W.ts->x.2.1∉os/\x.2.2∉os
 lo:∀n x,(n,x)∈W.ts->(x.2.1∈os\/x.2.2∈os)->n∈os
def jk (K:Qc):Sp:=λvs H Q _=>∃(S:Sd) (lp lt lx:Addr) (ps ts:List Str) (xs:List Int),vs=[.ref S.a,.ref lp,.ref lt,.ref lx]/\SdIs K H S/\SqL K H lp (ps.map V.str)/\SqL K H lt (ts.map V.str)/\Gw S.W ps ts/\SqL K H lx (xs.map V.int)/\xs.length=16/\(∀x∈xs,0<=x)/\∀(l:Addr) (os:List Str) (H':Hp),H l=none->Same H H'->H' l=some (.lst (os.map V.str))->GQ S.W ps ts os->Q (.ref l) H'
abbrev lJ:=λP w K mg base=>U0 P w K mg base F0 1 "_law_out" ["_law_web_here","_law_points","_law_ties","_law_xs"] [] (jk K)
def qo {f fd}(T:Txt K mg)(F:Fun K "_law_out" "_law_out" fi f fd):C5 P w K mg base F0 1 f fd ["_law_web_here","_law_points","_law_ties","_law_xs"] (jk K):=by
 walk_at "#sc__law_out"
 .obtain⟨S,lp,lt,lx,ps,ts,xs,rfl,_⟩:=h;rfl
 .obtain⟨S,lp,lt,lx,ps,ts,xs,rfl,hS,hP,hT,pk,hX,p_,s_,k⟩:=h;have Tn:=hS.len;rw[C3] at Tn;have Qv:=hS.at_.ts.length;have pl1:=pk.l1;have Uw:=pk.l2;walk_at "@sc__law_out 44Hbtu~861xc59c69y*7_law_tie;620;r10vh0k_law_tie,_law_name_here,_law_ties,_law_web_here;vLI)aF01.q1300:2/o?aB0002ov00enI)aN{'0Ae {'0zb 130522j?aN07HjeQMX=<;0466btu~862xc59c69yenIZaFqq1006204oZaFqq1006204o-aN{'0Ae {'0zb 130522jeQMX=<;0466804"
  refine Q1 ?_;rfl';refine⟨d0 (by simp),λlo no=>?_⟩;obtain⟨H1,e1,f1,m1,_⟩:=b5 (o:= .lst []) no;rw[e1];rfl';refine Q1 ?_;rfl';refine⟨_,rfl,.inl ⟨lp,_,rfl,m1.seq hP,?_⟩⟩;refine O0 (n:=ps.length) (λi σ H'=>Same H H'/\(∃v5 v6 v7,σ=[some (.ref S.a),some (.ref lp),some (.ref lt),some (.ref lx),some (.ref lo),v5,v6,v7])/\∃os:List Str,H' lo=some (.lst (os.map V.str))/\os.length<=i/\(∀n∈os,n∈ps)/\∀n∈os,∀y∈S.W.ts,(n=y.2.2.1\/n=y.2.2.2)->y.1∈ts)
   ⟨m1,⟨_,_,_,rfl⟩,[],f1,Ke _,(λ_ h=>nomatch h),λ_ h=>nomatch h⟩ (λi σ H' hi hp=>⟨_,.str (ps[i]),hp.1.seq hP,by rw[Kh,Kc hi];rfl⟩) ?_ ?_
  .rintro i v σ H2 H2' hi ⟨s2,⟨v5,v6,v7,rfl⟩,os,g2,RW,in2,lo2⟩ ⟨t,x,hx,nt,rfl,rfl⟩ _ _;have h_:=hx _ (s2.seq hP);rw[Kh,Kc hi] at h_;cases h_;obtain⟨H3,e3,f3,m3,_⟩:=b5 (o:= .tup _) nt;rw[e3];have s3:=s2.trans m3;have S3:=hS.same s3;refine I0 (SqT.of f3) rfl ?_;symm;refine j9 S3.at_.tup ?_;refine aM S3.hq (λSl o4=>?_);refine z8 (n:=S.kvs.length) (λj out H'=>Same (C4 S.q o4 S.kvs H3) H'/\∃ls:List Str,out=ls.map V.str/\ls.length<=j/\∀y∈S.W.ts.take j,(ps[i]=y.2.2.1\/ps[i]=y.2.2.2)->y.1∉ts->y.1∈ls) ⟨Same.refl _,[],rfl,Ke _,λ_ h=>by simp at h⟩ (λj out H' hj hp=>⟨hp.1 _ _ d6,hj⟩) ?_ ?_
   .rintro N j v out H5' H5 hj ⟨s5,ls,rfl,hls,loo⟩ ⟨rfl,kv,f_,rfl⟩ hN';have Wl:=(N9 (o:=o4) S3.hq).trans s5.le;have S5:=S3.at_.mono Wl;obtain⟨x,hx,ex,bb,eb,sb⟩:=S5.ts.get f_;have Qt:=Kr f_;obtain⟨kk,Rw⟩:=kv;have O':kk=Sum.inr x.1:=ex;have Rx:Rw= .ref bb:=eb;subst O' Rx;obtain⟨x0,x1,x2,x3⟩:=x;have e9:S.W.ts.take (j+1)=S.W.ts.take j++[(x0,x1,x2,x3)]:=by rw[KI,hx];rfl
    have no:∀{HZ:Hp},((ps[i]=x2\/ps[i]=x3)->x0∉ts->False)->Same H5 HZ->N (ls.map V.str) HZ:=λhf sz=>hN' _ _ ⟨s5.trans sz,ls,rfl,by lia,λy hy h1 h2=>by
     rw[e9] at hy;rcases Kg.mp hy with z|z
     .exact loo y z h1 h2
     .have ez:=Kq.mp z;subst ez;exact(hf h1 h2).elim⟩
    symm;refine⟨rfl,?_⟩;symm;refine j9 S5.tup ?_;symm;refine z0 (v:= .ref bb) (by have z:=K1 (k:=Sum.inr x0) S5.ties;rw[bV (kv:=(Sum.inr x0,.ref bb)) Sl Qt] at z;exact z) ?_;symm;refine gS sb (by rintro⟨z,_⟩;exact absurd (show(1:Nat)=0 from z) (by decide)) (λl6 n6=>?_);obtain⟨H6,e6,f6,m6,_⟩:=b5 (o:= .tup [.str x2,.str x3]) n6;rw[show fJ (ax (x1,x2,x3)) (some 1) none=[V.str x2,.str x3] from rfl,e6];refine qu (.inr (SqT.of f6)) rfl rfl ?_;symm;refine aH (λb1=>?_) (λb1=>?_)
    .symm;refine J2 ((((Same.le s3).trans Wl).trans m6.le).lst hT) ?_;symm;refine O6 (λb2=>?_) (λb2=>?_)
     .symm;refine⟨d0 (by rw[Kb];lia),hN' _ _ ⟨s5.trans m6,ls++[x0],by rw[Ki];rfl,by rw[Kj,Ku];lia,λy hy h1 h2=>by
       rw[e9] at hy;rcases Kg.mp hy with z|z
       .exact Kf _ (loo y z h1 h2)
       .have ez:=Kq.mp z;subst ez;exact Kk _ Kz⟩⟩
     .exact no (λ_ h=>h b2) m6
    .refine no (λh _=>?_) m6;have Vk:(ej (.str x2) (.str ps[i])||(ej (.str x3) (.str ps[i])||false))=false:=b1;rcases h with h|h
     .rw[h] at Vk;rw[fX rfl] at Vk;cases Vk
     .rw[h] at Vk;rw[show ej (.str x3) (.str x3)=true from fX rfl] at Vk;simp at Vk
   .rintro out H5 ⟨s5,ls,rfl,hls,loo⟩;rw[Qv,Kl (Ke _)] at loo;refine⟨⟨s5 _ _ d6,Ke _⟩,λD hD=>⟨d0 (by rw[Kb];lia),?_⟩⟩;have sM:=O4 S3.hq s5 hD (u:= .lst (ls.map V.str));have fM:=aj s5 hD (u:= .lst (ls.map V.str));generalize thaw S.q (upd H5 D (.lst (ls.map V.str)))=HM at sM fM⊢;have s6:=s3.trans sM;have g6:=sM _ _ (m3 _ _ g2);have stay:∀{HZ:Hp} {v:Option V},Same HM HZ->Same H HZ/\(∃v5 v6 v7,[some (V.ref S.a),some (.ref lp),some (.ref lt),some (.ref lx),some (.ref lo),some (.int (i:Int)),some (.str ps[i]),v]=[some (.ref S.a),some (.ref lp),some (.ref lt),some (.ref lx),some (.ref lo),v5,v6,v7])/\∃os:List Str,HZ lo=some (.lst (os.map V.str))/\os.length<=i+1/\(∀n∈os,n∈ps)/\∀n∈os,∀y∈S.W.ts,(n=y.2.2.1\/n=y.2.2.2)->y.1∈ts:=λsz=>⟨s6.trans sz,⟨_,_,_,rfl⟩,os,sz _ _ g6,by lia,in2,lo2⟩
    obtain⟨x6,Vb,Zv⟩:=aI p_ s_ 6 (by lia);symm;refine j5 (s6.seq hX) Vb ?_;symm;refine M9 (λc1=>?_) (λc1=>?_)
    .symm;refine⟨d0 (by simp),λl8 n8=>?_⟩;obtain⟨H8,e8,f8,m8,_⟩:=b5 (o:= .lst []) n8;rw[e8];refine oF (qO (SqL.of (m8 _ _ fM)) (SqL.of f8) (P8 _) rfl ?_);symm;refine aH (λc2=>?_) (λc2=>?_)
     .have g8:=m8 _ _ g6;symm;refine⟨.inl ⟨rfl,_,SqL.of g8⟩,?_⟩;symm;refine⟨lo,_,_,rfl,rfl,g8,Y9 (by rw[Kb];lia),?_⟩;walk_at "X";refine⟨E7 (s6.trans m8) no,⟨_,_,_,rfl⟩,os++[ps[i]],by rw[d6,Ki];rfl,by rw[Kj,Ku];lia,λn hn=>?_,λn hn y hy he=>?_⟩
      .rcases Kg.mp hn with z|z
       .exact in2 n z
       .rw[Kq.mp z];exact KS hi
      .rcases Kg.mp hn with z|z
       .exact lo2 n z y hy he
       .rw[Kq.mp z] at he;have Zw:ls=[]:=by
         cases ls with
         |nil=>rfl
         |cons _ _=>exact absurd c2 (by simp [V9])
        refine Mu λg_=>?_;have:=loo y hy he g_;rw[Zw] at this;cases this
     .symm;exact stay m8
    .symm;exact stay (Same.refl _)
  .rintro σ H2 ⟨s2,⟨v5,v6,v7,rfl⟩,os,g2,RW,in2,lo2⟩;refine⟨⟨_,s2.seq hP,by rw[Kb];exact Ke _⟩,?_⟩;refine Q1 ?_;rfl';refine⟨_,rfl,.inl ⟨lt,_,rfl,s2.seq hT,?_⟩⟩;refine O0 (n:=ts.length) (λi σ H'=>Same H H'/\(∃v5 v6 v7,σ=[some (.ref S.a),some (.ref lp),some (.ref lt),some (.ref lx),some (.ref lo),v5,v6,v7])/\∃os:List Str,H' lo=some (.lst (os.map V.str))/\os.length<=ps.length+i/\(∀n∈os,n∈ps++ts)/\(∀n∈ts.take i,n∉os->∀x,(n,x)∈S.W.ts->x.2.1∉os/\x.2.2∉os)/\∀n∈os,n∈S.W.pts.map (·.1)->∀y∈S.W.ts,(n=y.2.2.1\/n=y.2.2.2)->y.1∈ts)
    ⟨s2,⟨_,_,_,rfl⟩,os,g2,by lia,λn hn=>Kf _ (in2 n hn),(λ_ h=>by simp at h),λn hn _=>lo2 n hn⟩ (λi σ H' hi hp=>⟨_,.str (ts[i]),hp.1.seq hT,by rw[Kh,Kc hi];rfl⟩) ?_ ?_
   .rintro i v σ H3 H3' hi ⟨s3,⟨v5,v6,v7,rfl⟩,os,g3',hl3,in3,ok3,lo3⟩ ⟨t,x,hx,nt,rfl,rfl⟩ _ _;have h_:=hx _ (s3.seq hT);rw[Kh,Kc hi] at h_;cases h_;obtain⟨H4,e4,f4,m4,_⟩:=b5 (o:= .tup _) nt;rw[e4];have s4:=s3.trans m4;have S4:=hS.same s4;have g3:=m4 _ _ g3';have Qw:=pk.t _ (KS hi);have m_:ts[i]∈S.W.ts.map (·.1):=by
     obtain⟨x,hx,_⟩:=Qw;exact Kd.mpr ⟨_,hx,rfl⟩
    obtain⟨aa,⟨y1,y2,y3⟩,q1,q2,q3⟩:=TiesIs.val (ts:=S.W.ts) S4.at_.ts m_;have ix:∀{Q:VK},Q (.ref aa) H4->lG K (.ref S.q) (.str ts[i]) H4 Q:=λz=>z0 (v:= .ref aa) (by have z:=K1 (k:=Sum.inr ts[i]) S4.at_.ties;rw[q1] at z;exact z) z;have e7:ts.take (i+1)=ts.take i++[ts[i]]:=by rw[KI,Kc hi];rfl
    have Zx:∀m∈S.W.pts.map (·.1),m≠ts[i]:=λm hm e=>(Ks.mp hS.nd).2.2 m hm ts[i] m_ e;have fin:Same H (upd H4 lo (.lst (os.map V.str++[V.str ts[i]])))/\(∃v5 v6 v7',[some (V.ref S.a),some (.ref lp),some (.ref lt),some (.ref lx),some (.ref lo),some (.int (i:Int)),some (.str ts[i]),v7]=[some (.ref S.a),some (.ref lp),some (.ref lt),some (.ref lx),some (.ref lo),v5,v6,v7'])/\∃SW:List Str,(upd H4 lo (.lst (os.map V.str++[V.str ts[i]]))) lo=some (.lst (SW.map V.str))/\SW.length<=ps.length+(i+1)/\(∀n∈SW,n∈ps++ts)/\(∀n∈ts.take (i+1),n∉SW->∀x,(n,x)∈S.W.ts->x.2.1∉SW/\x.2.2∉SW)/\∀n∈SW,n∈S.W.pts.map (·.1)->∀y∈S.W.ts,(n=y.2.2.1\/n=y.2.2.2)->y.1∈ts:=by
     refine⟨E7 s4 no,⟨_,_,_,rfl⟩,os++[ts[i]],by rw[d6,Ki];rfl,by rw[Kj,Ku];lia,λn hn=>?_,λn hn g_ x hx=>?_,λn hn hp y hy he=>?_⟩
     .rcases Kg.mp hn with z|z
      .exact in3 n z
      .rw[Kq.mp z];exact Kk _ (KS hi)
     .rw[e7] at hn;rcases Kg.mp hn with z|z
      .have h':=ok3 n z (λm=>g_ (Kf _ m)) x hx;have he:=hS.ends (n,x) hx;walk_at "X";exact⟨λm=>(Kg.mp m).elim h'.1 (λm=>Zx _ he.1 (Kq.mp m)),λm=>(Kg.mp m).elim h'.2 (λm=>Zx _ he.2 (Kq.mp m))⟩
      .exact absurd (Kk _ z) g_
     .rcases Kg.mp hn with z|z
      .exact lo3 n z hp y hy he
      .exact absurd (Kq.mp z) (Zx n hp)
    refine I0 (SqT.of f4) rfl ?_;symm;refine j9 S4.at_.tup ?_;symm;refine ix ?_;refine j9 q3 ?_;symm;refine aS (SqL.of g3) ?_;symm;refine M9 (λc1=>?_) (λc1=>?_)
    .symm;refine⟨.inl ⟨rfl,_,SqL.of g3⟩,?_⟩;symm;refine⟨lo,_,_,rfl,rfl,g3,Y9 (by rw[Kb];lia),?_⟩;walk_at "X";exact fin
    symm;refine j9 S4.at_.tup ?_;symm;refine ix ?_;refine cw q3 ?_;symm;refine aS (SqL.of g3) ?_;symm;refine M9 (λc2=>?_) (λc2=>?_)
    .symm;refine⟨.inl ⟨rfl,_,SqL.of g3⟩,?_⟩;symm;refine⟨lo,_,_,rfl,rfl,g3,Y9 (by rw[Kb];lia),?_⟩;walk_at "X";exact fin
    symm;obtain⟨x7,Xs,hx7'⟩:=aI p_ s_ 7 (by lia);refine j5 (s4.seq hX) Xs ?_;symm;refine M9 (λc3=>?_) (λc3=>?_)
    .symm;refine⟨.inl ⟨rfl,_,SqL.of g3⟩,?_⟩;symm;refine⟨lo,_,_,rfl,rfl,g3,Y9 (by rw[Kb];lia),?_⟩;walk_at "X";exact fin
    symm;refine⟨s4,⟨_,_,_,rfl⟩,os,g3,by lia,in3,λn hn g_ x hx=>?_,lo3⟩;rw[e7] at hn;rcases Kg.mp hn with z|z
    .exact ok3 n z g_ x hx
    .have hnn:n=ts[i]:=Kq.mp z;subst hnn;have:x=(y1,y2,y3):=A5 (O8 hS.nd) hx q2;subst this;walk_at "X";exact⟨c1,c2⟩
   .rintro σ H3 ⟨s3,⟨v5,v6,v7,rfl⟩,os,g3,hl3,in3,ok3,lo3⟩;refine⟨⟨_,s3.seq hT,by rw[Kb];exact Ke _⟩,?_⟩;rw[Kl (Ke _)] at ok3;symm;exact k lo os H3 no s3 g3 ⟨in3,by lia,ok3,λn x hx he=>Mu λg_=>by
     have Pw:=hS.ends (n,x) hx;have YG:n∈ts:=by
      rcases he with he|he
      .exact lo3 _ he Pw.1 (n,x) hx (.inl rfl)
      .exact lo3 _ he Pw.2 (n,x) hx (.inr rfl)
     have z:=ok3 n YG g_ x hx;exact he.elim z.1 z.2⟩
def Wd (ws:List Str)(lo hi:Nat)(n:Str):Prop:=∃j,lo<=j/\j<hi/\ws[j]?=some n
def Ak {ws:List Str}(nd:ws.Nodup){i j:Nat}{n:Str}(h1:ws[i]?=some n)(h2:ws[j]?=some n):i=j:=by
 obtain⟨hi,e1⟩:=LL.mp h1;obtain⟨hj,e2⟩:=LL.mp h2;have z:=Nh.mp nd;rcases QM i j with h|h|h
 .exact absurd (e1.trans e2.symm) (z i j hi hj h)
 .exact h
 .exact absurd (e2.trans e1.symm) (z j i hj hi h)
def Wd.no {ws:List Str}{a b c d:Nat}{n:Str}(nd:ws.Nodup)(h1:Wd ws a b n)(h2:Wd ws c d n)(h:b<=c\/d<=a):False:=by
 obtain⟨i,i1,i2,i3⟩:=h1;obtain⟨j,j1,j2,j3⟩:=h2;have:=Ak nd i3 j3;lia
def Wd.up {ws:List Str}{a b c d:Nat}{n:Str}(h:Wd ws a b n)(h1:c<=a)(h2:b<=d):Wd ws c d n:=by
 obtain⟨i,i1,i2,i3⟩:=h;exact⟨i,by lia,by lia,i3⟩
def Wd.in_ {ws:List Str}{a b:Nat}{n:Str}(h:Wd ws a b n):n∈ws:=by
 obtain⟨i,_,_,h⟩:=h;exact Kr h
structure LR (ws:List Str) (i1 i2 i3 i4:Nat) (PL:List (Str×Str)) (TL:List (Str×N3)) (PR:List (Str×Str)) (TR:List (Str×N3)):Prop where
 pl:∀x∈PL,Wd ws 0 i1 x.1/\K7 x.2=true
 tl:∀x∈TL,Wd ws 4 (4+i2) x.1/\K7 x.2.1=true/\x.2.2.1∈PL.map (·.1)/\x.2.2.2∈PL.map (·.1)
 ndl:(PL.map (·.1)).Nodup
 ndt:(TL.map (·.1)).Nodup
 ll:PL.length<=i1
 lt:TL.length<=i2
 pr:∀x∈PR,(x∈PL\/Wd ws 8 (8+i3) x.1)/\K7 x.2=true
 tr:∀x∈TR,(x∈TL\/Wd ws 10 (10+i4) x.1)/\K7 x.2.1=true/\x.2.2.1∈PR.map (·.1)/\x.2.2.2∈PR.map (·.1)
 ndr:(PR.map (·.1)).Nodup
 ndu:(TR.map (·.1)).Nodup
 lr:PR.length<=i1+i3
 lu:TR.length<=i2+i4
def LR.new:LR ws 0 0 0 0 [] [] [] []:=
 ⟨(λ_ h=>nomatch h),(λ_ h=>nomatch h),LF,LF,Ke _,Ke _,(λ_ h=>nomatch h),(λ_ h=>nomatch h),LF,LF,Ke _,Ke _⟩
def B4 {α:Type}(l:List (Str×α))(x:Str×α):(l++[x]).map (·.1)=l.map (·.1)++[x.1]:=by rw[Ki];rfl
def LR.f1 {ws:List Str}{i:Nat}{PL PR:List (Str×Str)}{n:Str}(h:LR ws i 0 0 0 PL [] PR [])(nd:ws.Nodup)(hn:ws[i]?=some n):n∉PL.map (·.1)/\n∉PR.map (·.1):=by
 have a:n∉PL.map (·.1):=λz=>by
  obtain⟨x,hx,rfl⟩:=Kd.mp z;exact Wd.no nd (h.pl x hx).1 ⟨i,Ke _,Lz _,hn⟩ (.inl (Ke _))
 refine⟨a,λz=>?_⟩;obtain⟨x,hx,rfl⟩:=Kd.mp z;rcases(h.pr x hx).1 with z|z
 .exact a (Kd.mpr ⟨x,z,rfl⟩)
 .obtain⟨j,j1,j2,_⟩:=z;lia
def LR.s1 {ws:List Str}{i:Nat}{PL PR:List (Str×Str)}{n kd:Str}(h:LR ws i 0 0 0 PL [] PR [])(nd:ws.Nodup)(hn:ws[i]?=some n)(hk:K7 kd=true)(b:Bool):LR ws (i+1) 0 0 0 (PL++[(n,kd)]) [] (if b then PR++[(n,kd)] else PR) []:=by
 obtain⟨f1,f2⟩:=h.f1 nd hn;refine⟨λx hx=>?_,(λ_ h=>nomatch h),?_,LF,?_,Ke _,λx hx=>?_,(λ_ h=>nomatch h),?_,LF,?_,Ke _⟩
 .rcases Kg.mp hx with z|z
  .exact⟨(h.pl x z).1.up (Ke _) (ML _),(h.pl x z).2⟩
  .rw[Kq.mp z];exact⟨⟨i,LJ _,Lz _,hn⟩,hk⟩
 .rw[B4];exact E3 h.ndl f1
 .rw[Kj,Ku];have:=h.ll;lia
 .have old:∀x∈PR,(x∈PL++[(n,kd)]\/Wd ws 8 (8+0) x.1)/\K7 x.2=true:=λx hx=>⟨(h.pr x hx).1.elim (λz=> .inl (Kf _ z)) .inr,(h.pr x hx).2⟩
  cases b with
  |false=>exact old x hx
  |true=>
   rcases Kg.mp (show x∈PR++[(n,kd)] from hx) with z|z
   .exact old x z
   .rw[Kq.mp z];exact⟨.inl (Kk _ Kz),hk⟩
 .cases b with
  |false=>exact h.ndr
  |true=>show((PR++[(n,kd)]).map (·.1)).Nodup;rw[B4];exact E3 h.ndr f2
 .cases b with
  |false=>show PR.length<=_;have:=h.lr;lia
  |true=>show(PR++[(n,kd)]).length<=_;rw[Kj,Ku];have:=h.lr;lia
def LR.f2 {ws:List Str}{i1 i:Nat}{PL PR:List (Str×Str)}{TL TR:List (Str×N3)}{n:Str}(h:LR ws i1 i 0 0 PL TL PR TR)(nd:ws.Nodup)(hn:ws[4+i]?=some n):n∉TL.map (·.1)/\n∉TR.map (·.1):=by
 have a:n∉TL.map (·.1):=λz=>by
  obtain⟨x,hx,rfl⟩:=Kd.mp z;exact Wd.no nd (h.tl x hx).1 ⟨4+i,Ke _,Lz _,hn⟩ (.inl (Ke _))
 refine⟨a,λz=>?_⟩;obtain⟨x,hx,rfl⟩:=Kd.mp z;rcases(h.tr x hx).1 with z|z
 .exact a (Kd.mpr ⟨x,z,rfl⟩)
 .obtain⟨j,j1,j2,_⟩:=z;lia
def LR.s2 {ws:List Str}{i1 i:Nat}{PL PR:List (Str×Str)}{TL TR:List (Str×N3)}{n kd o1 o2:Str}(h:LR ws i1 i 0 0 PL TL PR TR)(nd:ws.Nodup)(hn:ws[4+i]?=some n)(hk:K7 kd=true)(h1:o1∈PL.map (·.1))(h2:o2∈PL.map (·.1))(b:Bool)(hb:b=true->o1∈PR.map (·.1)/\o2∈PR.map (·.1)):
  LR ws i1 (i+1) 0 0 PL (TL++[(n,(kd,o1,o2))]) PR (if b then TR++[(n,(kd,o1,o2))] else TR):=by
 obtain⟨f1,f2⟩:=h.f2 nd hn
 refine⟨h.pl,λx hx=>?_,h.ndl,?_,h.ll,?_,h.pr,λx hx=>?_,h.ndr,?_,h.lr,?_⟩
 .rcases Kg.mp hx with z|z
  .exact⟨(h.tl x z).1.up (Ke _) (ML _),(h.tl x z).2⟩
  .rw[Kq.mp z];exact⟨⟨4+i,OL _ _,Lz _,hn⟩,hk,h1,h2⟩
 .rw[B4];exact E3 h.ndt f1
 .rw[Kj,Ku];have:=h.lt;lia
 .have old:∀x∈TR,(x∈TL++[(n,(kd,o1,o2))]\/Wd ws 10 (10+0) x.1)/\K7 x.2.1=true/\x.2.2.1∈PR.map (·.1)/\x.2.2.2∈PR.map (·.1):=λx hx=>⟨(h.tr x hx).1.elim (λz=> .inl (Kf _ z)) .inr,(h.tr x hx).2⟩
  cases b with
  |false=>exact old x hx
  |true=>
   rcases Kg.mp (show x∈TR++[(n,(kd,o1,o2))] from hx) with z|z
   .exact old x z
   .rw[Kq.mp z];exact⟨.inl (Kk _ Kz),hk,hb rfl⟩
 .cases b with
  |false=>exact h.ndu
  |true=>show((TR++[(n,(kd,o1,o2))]).map (·.1)).Nodup;rw[B4];exact E3 h.ndu f2
 .cases b with
  |false=>show TR.length<=_;have:=h.lu;lia
  |true=>show(TR++[(n,(kd,o1,o2))]).length<=_;rw[Kj,Ku];have:=h.lu;lia
def LR.f3 {ws:List Str}{i1 i2 i:Nat}{PL PR:List (Str×Str)}{TL TR:List (Str×N3)}{n:Str}(h:LR ws i1 i2 i 0 PL TL PR TR)(nd:ws.Nodup)(h4:i1<=4)(hn:ws[8+i]?=some n):n∉PR.map (·.1):=λz=>by
 obtain⟨x,hx,rfl⟩:=Kd.mp z;have w:Wd ws (8+i) (8+i+1) x.1:=⟨8+i,Ke _,Lz _,hn⟩
 rcases(h.pr x hx).1 with z|z
 .exact Wd.no nd (h.pl x z).1 w (.inl (by lia))
 .exact Wd.no nd z w (.inl (Ke _))
def LR.s3 {ws:List Str}{i1 i2 i:Nat}{PL PR:List (Str×Str)}{TL TR:List (Str×N3)}{n kd:Str}(h:LR ws i1 i2 i 0 PL TL PR TR)(nd:ws.Nodup)(h4:i1<=4)(hn:ws[8+i]?=some n)(hk:K7 kd=true):LR ws i1 i2 (i+1) 0 PL TL (PR++[(n,kd)]) TR:=by
 refine⟨h.pl,h.tl,h.ndl,h.ndt,h.ll,h.lt,λx hx=>?_,λx hx=>?_,?_,h.ndu,?_,h.lu⟩
 .rcases Kg.mp hx with z|z
  .exact⟨(h.pr x z).1.imp id λw=>w.up (Ke _) (ML _),(h.pr x z).2⟩
  .rw[Kq.mp z];exact⟨.inr ⟨8+i,OL _ _,Lz _,hn⟩,hk⟩
 .have z:=h.tr x hx;refine⟨z.1,z.2.1,?_,?_⟩<;>rw[B4]
  .exact Kf _ z.2.2.1
  .exact Kf _ z.2.2.2
 .rw[B4];exact E3 h.ndr (h.f3 nd h4 hn)
 .rw[Kj,Ku];have:=h.lr;lia
def LR.f4 {ws:List Str}{i1 i2 i3 i:Nat}{PL PR:List (Str×Str)}{TL TR:List (Str×N3)}{n:Str}(h:LR ws i1 i2 i3 i PL TL PR TR)(nd:ws.Nodup)(h4:i2<=4)(hn:ws[10+i]?=some n):n∉TR.map (·.1):=λz=>by
 obtain⟨x,hx,rfl⟩:=Kd.mp z;have w:Wd ws (10+i) (10+i+1) x.1:=⟨10+i,Ke _,Lz _,hn⟩
 rcases(h.tr x hx).1 with z|z
 .exact Wd.no nd (h.tl x z).1 w (.inl (by lia))
 .exact Wd.no nd z w (.inl (Ke _))
def LR.s4 {ws:List Str}{i1 i2 i3 i:Nat}{PL PR:List (Str×Str)}{TL TR:List (Str×N3)}{n kd o1 o2:Str}(h:LR ws i1 i2 i3 i PL TL PR TR)(nd:ws.Nodup)(h4:i2<=4)(hn:ws[10+i]?=some n)(hk:K7 kd=true)(h1:o1∈PR.map (·.1))(h2:o2∈PR.map (·.1)):LR ws i1 i2 i3 (i+1) PL TL PR (TR++[(n,(kd,o1,o2))]):=by
 refine⟨h.pl,h.tl,h.ndl,h.ndt,h.ll,h.lt,h.pr,λx hx=>?_,h.ndr,?_,h.lr,?_⟩
 .rcases Kg.mp hx with z|z
  .exact⟨(h.tr x z).1.imp id λw=>w.up (Ke _) (ML _),(h.tr x z).2⟩
  .rw[Kq.mp z];exact⟨.inr ⟨10+i,OL _ _,Lz _,hn⟩,hk,h1,h2⟩
 .rw[B4];exact E3 h.ndu (h.f4 nd h4 hn)
 .rw[Kj,Ku];have:=h.lu;lia
def mS {x:Str}(h:K7 x=true):x.length<=8:=by
 have:=dW (show U7 x kSL 8=true from h);lia
def xH {x:Str}(h:K7 x=true):X6 x=true:=by
 have h':U7 x kSL 8=true:=h;unfold U7 at h';simp only[KO,KJ] at h';unfold X6;rw[KO];have ha:∀c∈x.cps.toList,c∈kSL.cps.toList:=λc hc=>Ly (KZ.mp (show rg x kSL=true from h'.2) c hc);constructor
 .unfold U7;rw[KA h'.1.1,KA (show(x.length:Int)<=24 by lia),Nd,Nd];exact KZ.mpr λc hc=>KA (CF _ (ha c hc))
 .unfold Im;refine KA (ha _ ?_);have hl:=fK x;cases e:x.cps.toList with
  |nil=>rw[e] at hl;simp at hl;lia
  |cons c r=>exact Kz
def rF {W:C9}{m:Nat}(h1:∀n∈b7 W,K7 n=true)(h2:∀x∈W.pts,K7 x.2=true)(h3:∀x∈W.ts,K7 x.2.1=true)(l1:W.pts.length<=m)(l2:W.ts.length<=m):oR m W:=
 ⟨⟨λn hn=>xH (h1 n hn),h2,h3⟩,h1,l1,l2⟩
def LR.nmL {ws:List Str}{i1 i2 i3 i4:Nat}{PL PR:List (Str×Str)}{TL TR:List (Str×N3)}(h:LR ws i1 i2 i3 i4 PL TL PR TR)(h1:i1<=4)(h2:i2<=4):∀n∈b7 ⟨PL,TL⟩,Wd ws 0 8 n:=λn hn=>by
 rcases Kg.mp (show n∈PL.map (·.1)++TL.map (·.1) from hn) with z|z
 .obtain⟨x,hx,rfl⟩:=Kd.mp z;exact(h.pl x hx).1.up (LJ _) (by lia)
 .obtain⟨x,hx,rfl⟩:=Kd.mp z;exact(h.tl x hx).1.up (LJ _) (by lia)
def LR.nmP {ws:List Str}{i1 i2 i3 i4:Nat}{PL PR:List (Str×Str)}{TL TR:List (Str×N3)}(h:LR ws i1 i2 i3 i4 PL TL PR TR)(h1:i1<=4)(h3:i3<=2){n:Str}(hn:n∈PR.map (·.1)):Wd ws 0 4 n\/Wd ws 8 10 n:=by
 obtain⟨x,hx,rfl⟩:=Kd.mp hn;rcases(h.pr x hx).1 with z|z
 .exact .inl ((h.pl x z).1.up (LJ _) (by lia))
 .exact .inr (z.up (by lia) (by lia))
def LR.nmT {ws:List Str}{i1 i2 i3 i4:Nat}{PL PR:List (Str×Str)}{TL TR:List (Str×N3)}(h:LR ws i1 i2 i3 i4 PL TL PR TR)(h2:i2<=4)(h4:i4<=2){n:Str}(hn:n∈TR.map (·.1)):Wd ws 4 8 n\/Wd ws 10 12 n:=by
 obtain⟨x,hx,rfl⟩:=Kd.mp hn;rcases(h.tr x hx).1 with z|z
 .exact .inl ((h.tl x z).1.up (by lia) (by lia))
 .exact .inr (z.up (by lia) (by lia))
def LR.ndL {ws:List Str}{i1 i2 i3 i4:Nat}{PL PR:List (Str×Str)}{TL TR:List (Str×N3)}(h:LR ws i1 i2 i3 i4 PL TL PR TR)(nd:ws.Nodup)(h1:i1<=4):(b7 ⟨PL,TL⟩).Nodup:=
 Ks.mpr ⟨h.ndl,h.ndt,λa ha b hb e=>by
  subst e;obtain⟨x,hx,rfl⟩:=Kd.mp ha;obtain⟨y,hy,ey⟩:=Kd.mp hb;have Sr:y.1=x.1:=ey;have w:=(h.tl y hy).1;rw[Sr] at w;exact Wd.no nd (h.pl x hx).1 w (.inl h1)⟩
def LR.ndR {ws:List Str}{i1 i2 i3 i4:Nat}{PL PR:List (Str×Str)}{TL TR:List (Str×N3)}(h:LR ws i1 i2 i3 i4 PL TL PR TR)(nd:ws.Nodup)(h1:i1<=4)(h2:i2<=4)(h3:i3<=2)(h4:i4<=2):(b7 ⟨PR,TR⟩).Nodup:=
 Ks.mpr ⟨h.ndr,h.ndu,λa ha b hb e=>by
  subst e;rcases h.nmP h1 h3 ha with z|z<;>rcases h.nmT h2 h4 hb with w|w<;>exact Wd.no nd z w (by lia)⟩
def LR.rule {ws:List Str}{i1 i2 i3 i4:Nat}{PL PR:List (Str×Str)}{TL TR:List (Str×N3)}(h:LR ws i1 i2 i3 i4 PL TL PR TR)(nd:ws.Nodup)(hk:∀s∈ws,K7 s=true)(h1:i1<=4)(h2:i2<=4)(h3:i3<=2)(h4:i4<=2)(l1:PR.length<=4)(l2:TR.length<=4):fg ⟨PL,TL⟩ ⟨PR,TR⟩ []:=by
 have Q_:PL.length<=4:=by have:=h.ll;lia
 have Vc:TL.length<=4:=by have:=h.lt;lia
 refine⟨rF (λn hn=>hk n (h.nmL h1 h2 n hn).in_) (λx hx=>(h.pl x hx).2) (λx hx=>(h.tl x hx).2.1) Q_ Vc,rF (λn hn=>hk n ?_) (λx hx=>(h.pr x hx).2) (λx hx=>(h.tr x hx).2.1) l1 l2,λn hL hR=>?_,LJ _,λ_ h=>nomatch h⟩
 .rcases Kg.mp (show n∈PR.map (·.1)++TR.map (·.1) from hn) with z|z
  .exact(h.nmP h1 h3 z).elim (λw=>w.in_) λw=>w.in_
  .exact(h.nmT h2 h4 z).elim (λw=>w.in_) λw=>w.in_
 .rcases Kg.mp (show n∈PL.map (·.1)++TL.map (·.1) from hL) with zL|zL
  .have wL:Wd ws 0 4 n:=by
    obtain⟨x,hx,rfl⟩:=Kd.mp zL;exact(h.pl x hx).1.up (LJ _) (by lia)
   have nTL:∀t,(n,t)∉TL:=λt z=>Wd.no nd wL (h.tl _ z).1 (.inl (Ke _));have nTR:n∉TR.map (·.1):=λz=>by rcases h.nmT h2 h4 z with w|w<;>exact Wd.no nd wL w (by lia)
   have zR:n∈PR.map (·.1):=by
    rcases Kg.mp (show n∈PR.map (·.1)++TR.map (·.1) from hR) with z|z
    .exact z
    .exact absurd z nTR
   have sub:∀k,(n,k)∈PR->(n,k)∈PL:=λk z=>by
    rcases(h.pr _ z).1 with w|w
    .exact w
    .exact(Wd.no nd wL w (.inl (by lia))).elim
   obtain⟨⟨n',k'⟩,hx,e⟩:=Kd.mp zR;have e':n'=n:=e;subst e';exact⟨λk=>⟨λz=>by rw[A5 h.ndl z (sub k' hx)];exact hx,sub k⟩,λt=>⟨λz=>(nTL t z).elim,λz=>(nTR (Kd.mpr ⟨_,z,rfl⟩)).elim⟩⟩
  .have wL:Wd ws 4 8 n:=by
    obtain⟨x,hx,rfl⟩:=Kd.mp zL;exact(h.tl x hx).1.up (Ke _) (by lia)
   have nPL:∀t,(n,t)∉PL:=λt z=>Wd.no nd wL (h.pl _ z).1 (.inr h1);have nPR:n∉PR.map (·.1):=λz=>by rcases h.nmP h1 h3 z with w|w<;>exact Wd.no nd wL w (by lia)
   have zR:n∈TR.map (·.1):=by
    rcases Kg.mp (show n∈PR.map (·.1)++TR.map (·.1) from hR) with z|z
    .exact absurd z nPR
    .exact z
   have sub:∀k,(n,k)∈TR->(n,k)∈TL:=λk z=>by
    rcases(h.tr _ z).1 with w|w
    .exact w
    .exact(Wd.no nd wL w (.inl (by lia))).elim
   obtain⟨⟨n',k'⟩,hx,e⟩:=Kd.mp zR;have e':n'=n:=e;subst e';exact⟨λt=>⟨λz=>(nPL t z).elim,λz=>(nPR (Kd.mpr ⟨_,z,rfl⟩)).elim⟩,λk=>⟨λz=>by rw[A5 h.ndt z (sub k' hx)];exact hx,sub k⟩⟩
structure NE (B:Hp) (wd d1 d2 d3 d4:Addr):Prop where
 b0:B wd=none
 b1:B d1=none
 b2:B d2=none
 b3:B d3=none
 b4:B d4=none
 n01:wd≠d1
 n02:wd≠d2
 n03:wd≠d3
 n04:wd≠d4
 n12:d1≠d2
 n13:d1≠d3
 n14:d1≠d4
 n23:d2≠d3
 n24:d2≠d4
 n34:d3≠d4
structure RS (K:Qc) (B H:Hp) (wd d1 d2 d3 d4 a1 a2:Addr) (kw kL kR:List (j6×V)) (PL PR:List (Str×Str)) (TL TR:List (Str×N3)):Prop where
 sm:Same B H
 t1:SqT K H a1 [.ref d1,.ref d2]
 t2:SqT K H a2 [.ref d3,.ref d4]
 w:H wd=some (.dK kw)
 h1:H d1=some (.dK (i7 PL))
 h2:H d2=some (.dK kL)
 h3:H d3=some (.dK (i7 PR))
 h4:H d4=some (.dK kR)
 tl:TiesIs K H kL TL
 tr:TiesIs K H kR TR
section
variable {B H H':Hp} {wd d1 d2 d3 d4 a1 a2 l:Addr} {kw kL kR kw':List (j6×V)} {PL PR:List (Str×Str)} {TL TR:List (Str×N3)} {n kd o1 o2:Str}
def RS.mono (r:RS K B H wd d1 d2 d3 d4 a1 a2 kw kL kR PL PR TL TR)(s:Same H H'):RS K B H' wd d1 d2 d3 d4 a1 a2 kw kL kR PL PR TL TR:=
 ⟨r.sm.trans s,s.tup r.t1,s.tup r.t2,s _ _ r.w,s _ _ r.h1,s _ _ r.h2,s _ _ r.h3,s _ _ r.h4,r.tl.mono s.le,r.tr.mono s.le⟩
def RS.setW (e:NE B wd d1 d2 d3 d4)(r:RS K B H wd d1 d2 d3 d4 a1 a2 kw kL kR PL PR TL TR):RS K B (upd H wd (.dK kw')) wd d1 d2 d3 d4 a1 a2 kw' kL kR PL PR TL TR:=
 ⟨E7 r.sm e.b0,R5 r.w r.t1,R5 r.w r.t2,d6,by rw[b9 e.n01.symm];exact r.h1,by rw[b9 e.n02.symm];exact r.h2,by rw[b9 e.n03.symm];exact r.h3,by rw[b9 e.n04.symm];exact r.h4,K2 r.w r.tl,K2 r.w r.tr⟩
def aq (h:n∉PL.map (·.1)):E9 (i7 PL) (Sum.inr n:j6) (.str kd)=i7 (PL++[(n,kd)]):=by
 rw[Q0 _ (N8 (by rw[E6,←B6];exact λm=>h (Z4 m)))];unfold i7;rw[Ki];rfl
def RS.set1 (e:NE B wd d1 d2 d3 d4)(r:RS K B H wd d1 d2 d3 d4 a1 a2 kw kL kR PL PR TL TR)(h:n∉PL.map (·.1)):RS K B (upd H d1 (.dK (E9 (i7 PL) (Sum.inr n:j6) (.str kd)))) wd d1 d2 d3 d4 a1 a2 kw kL kR (PL++[(n,kd)]) PR TL TR:=by
 rw[aq h];exact⟨E7 r.sm e.b1,R5 r.h1 r.t1,R5 r.h1 r.t2,by rw[b9 e.n01];exact r.w,d6,by rw[b9 e.n12.symm];exact r.h2,by rw[b9 e.n13.symm];exact r.h3,by rw[b9 e.n14.symm];exact r.h4,K2 r.h1 r.tl,K2 r.h1 r.tr⟩
def RS.set3 (e:NE B wd d1 d2 d3 d4)(r:RS K B H wd d1 d2 d3 d4 a1 a2 kw kL kR PL PR TL TR)(h:n∉PR.map (·.1)):RS K B (upd H d3 (.dK (E9 (i7 PR) (Sum.inr n:j6) (.str kd)))) wd d1 d2 d3 d4 a1 a2 kw kL kR PL (PR++[(n,kd)]) TL TR:=by
 rw[aq h];exact⟨E7 r.sm e.b3,R5 r.h3 r.t1,R5 r.h3 r.t2,by rw[b9 e.n03];exact r.w,by rw[b9 e.n13];exact r.h1,by rw[b9 e.n23];exact r.h2,d6,by rw[b9 e.n34.symm];exact r.h4,K2 r.h3 r.tl,K2 r.h3 r.tr⟩
def lE (w:TiesIs K H kL TL)(h:n∉TL.map (·.1))(hl:SqT K H l (ax (kd,o1,o2))):TiesIs K H (E9 kL (Sum.inr n:j6) (.ref l)) (TL++[(n,(kd,o1,o2))]):=by
 rw[Q0 _ (N8 (by rw[w.keys,←B6];exact λm=>h (Z4 m)))];exact B9 w ⟨rfl,l,rfl,hl⟩
def RS.set2 (e:NE B wd d1 d2 d3 d4)(r:RS K B H wd d1 d2 d3 d4 a1 a2 kw kL kR PL PR TL TR)(h:n∉TL.map (·.1))(hl:SqT K H l (ax (kd,o1,o2))):RS K B (upd H d2 (.dK (E9 kL (Sum.inr n:j6) (.ref l)))) wd d1 d2 d3 d4 a1 a2 kw (E9 kL (Sum.inr n:j6) (.ref l)) kR PL PR (TL++[(n,(kd,o1,o2))]) TR:=
 ⟨E7 r.sm e.b2,R5 r.h2 r.t1,R5 r.h2 r.t2,by rw[b9 e.n02];exact r.w,by rw[b9 e.n12];exact r.h1,d6,by rw[b9 e.n23.symm];exact r.h3,by rw[b9 e.n24.symm];exact r.h4,K2 r.h2 (lE r.tl h hl),K2 r.h2 r.tr⟩
def RS.set4 (e:NE B wd d1 d2 d3 d4)(r:RS K B H wd d1 d2 d3 d4 a1 a2 kw kL kR PL PR TL TR)(h:n∉TR.map (·.1))(hl:SqT K H l (ax (kd,o1,o2))):RS K B (upd H d4 (.dK (E9 kR (Sum.inr n:j6) (.ref l)))) wd d1 d2 d3 d4 a1 a2 kw kL (E9 kR (Sum.inr n:j6) (.ref l)) PL PR TL (TR++[(n,(kd,o1,o2))]):=
 ⟨E7 r.sm e.b4,R5 r.h4 r.t1,R5 r.h4 r.t2,by rw[b9 e.n04];exact r.w,by rw[b9 e.n14];exact r.h1,by rw[b9 e.n24];exact r.h2,by rw[b9 e.n34];exact r.h3,d6,K2 r.h4 r.tl,K2 r.h4 (lE r.tr h hl)⟩
end
structure WO (ps ws os:List Str) (i:Nat) (kw:List (j6×V)) (PL PR:List (Str×Str)):Prop where
 ok:∀kv∈kw,∃n s,kv=(Sum.inr n,V.str s)
 at_:∀j n w,j<i->ps[j]?=some n->ws[j]?=some w->A4 kw (Sum.inr n:j6)=some (.str w)
 inL:∀j w,j<i->ws[j]?=some w->w∈PL.map (·.1)
 inR:∀j n w,j<i->ps[j]?=some n->n∉os->ws[j]?=some w->w∈PR.map (·.1)
def WO.s1 {ps ws os:List Str}{i:Nat}{kw:List (j6×V)}{PL PR:List (Str×Str)}{n w kd:Str}(h:WO ps ws os i kw PL PR)(nd:ps.Nodup)(hn:ps[i]?=some n)(hw:ws[i]?=some w)(b:Bool)(hb:n∉os->b=true):
  WO ps ws os (i+1) (E9 kw (Sum.inr n:j6) (.str w)) (PL++[(w,kd)]) (if b then PR++[(w,kd)] else PR):=by
 refine⟨qP h.ok ⟨_,_,rfl⟩,λj m v hj h1 h2=>?_,λj v hj h2=>?_,λj m v hj h1 h3 h2=>?_⟩
 .rw[N1]
  by_cases e:j=i
  .subst e
   rw[h1] at hn;cases hn
   rw[h2] at hw;cases hw
   rw[if_pos rfl]
  .have G_:m≠n:=λz=>e (Ak nd (z▸h1) hn)
   rw[if_neg (λz=>G_ (LW z))]
   exact h.at_ j m v (by lia) h1 h2
 .rw[B4]
  by_cases e:j=i
  .subst e
   rw[h2] at hw;cases hw
   exact Kk _ Kz
  .exact Kf _ (h.inL j v (by lia) h2)
 .by_cases e:j=i
  .subst e
   rw[h1] at hn;cases hn
   rw[h2] at hw;cases hw
   rw[hb h3,if_pos rfl,B4]
   exact Kk _ Kz
  .have z:=h.inR j m v (by lia) h1 h3 h2
   cases b with
   |false=>exact z
   |true=>show v∈(PR++[(w,kd)]).map (·.1);rw[B4];exact Kf _ z
def WO.s2 {ps ws os:List Str}{i:Nat}{kw:List (j6×V)}{PL PR:List (Str×Str)}{m w:Str}(h:WO ps ws os i kw PL PR)(hm:m∉ps):WO ps ws os i (E9 kw (Sum.inr m:j6) (.str w)) PL PR:=by
 refine⟨qP h.ok ⟨_,_,rfl⟩,λj n v hj h1 h2=>?_,h.inL,h.inR⟩;rw[N1,if_neg (λz:(Sum.inr n:j6)=Sum.inr m=>hm (by rw[←LW z];exact Kr h1))];exact h.at_ j n v hj h1 h2
def xV (ws:List Str):Prop:=ws.length=16/\ws.Nodup/\∀s∈ws,K7 s=true
def tM (ks:List Str):Prop:=0<ks.length/\ks.length<=4/\∀s∈ks,K7 s=true
def tL {ws:List Str}(h:ws.length=16)(i:Nat)(hi:i<16):∃w,ws[i]?=some w/\∀j:Int,j=(i:Int)->nX (ws.map V.str) j=some (.str w):=
 ⟨ws[i]'(by lia),Kc (by lia),λj hj=>by rw[hj];exact k7 (j:=i) (by rw[Kh,Kc (by lia)];rfl)⟩
def WO.get {ps ws os:List Str}{kw:List (j6×V)}{PL PR:List (Str×Str)}{n:Str}(h:WO ps ws os ps.length kw PL PR)(hl:ws.length=16)(h4:ps.length<=4)(hn:n∈ps):∃w,A4 kw (Sum.inr n:j6)=some (.str w)/\w∈PL.map (·.1)/\(n∉os->w∈PR.map (·.1)):=by
 obtain⟨j,hj⟩:=LZ hn;obtain⟨Zy,_⟩:=LL.mp hj;obtain⟨w,hw,_⟩:=tL hl j (by lia);exact⟨w,h.at_ j n w Zy hj hw,h.inL j w Zy hw,λho=>h.inR j n w Zy hj ho hw⟩
def swp (x:Str×Str):Str×Str:=(x.2,x.1)
structure MP (W:C9) (os:List Str) (pr PL:List (Str×Str)) (TL:List (Str×N3)) (Rn:List Str):Prop where
 n1:(pr.map (·.1)).Nodup
 n2:(pr.map (·.2)).Nodup
 wd:pr.map (·.2)=PL.map (·.1)++TL.map (·.1)
 pt:∀x∈PL,∃n,(n,x.1)∈pr/\(n,x.2)∈W.pts
 ti:∀x∈TL,∃n b e,(n,x.1)∈pr/\(b,x.2.2.1)∈pr/\(e,x.2.2.2)∈pr/\(n,(x.2.1,b,e))∈W.ts
 ko:∀x∈pr,x.2∈Rn↔x.1∉os
section
variable {W:C9} {os:List Str} {pr PL:List (Str×Str)} {TL:List (Str×N3)} {Rn Rn':List Str} {n w kd b e u2 u3:Str}
def Y3 (l:List (Str×Str))(x:Str×Str):(l++[x]).map (·.2)=l.map (·.2)++[x.2]:=by rw[Ki];rfl
def MP.ko' (h:MP W os pr PL TL Rn)(hw:w∉pr.map (·.2))(h1:∀y,y≠w->(y∈Rn'↔y∈Rn))(h2:w∈Rn'↔n∉os):∀x∈pr++[(n,w)],x.2∈Rn'↔x.1∉os:=λx hx=>by
 rcases Kg.mp hx with z|z
 .rw[h1 x.2 λq=>hw (Kd.mpr ⟨x,z,q⟩)];exact h.ko x z
 .rw[Kq.mp z];exact h2
def MP.sP (h:MP W os pr PL [] Rn)(hn:n∉pr.map (·.1))(hw:w∉pr.map (·.2))(hp:(n,kd)∈W.pts)(h1:∀y,y≠w->(y∈Rn'↔y∈Rn))(h2:w∈Rn'↔n∉os):MP W os (pr++[(n,w)]) (PL++[(w,kd)]) [] Rn':=by
 refine⟨by rw[B4];exact E3 h.n1 hn,by rw[Y3];exact E3 h.n2 hw,?_,λx hx=>?_,(λ_ h=>nomatch h),h.ko' hw h1 h2⟩
 .have z:=h.wd;rw[MU,Lb] at z;rw[Y3,B4,MU,Lb,z]
 .rcases Kg.mp hx with z|z
  .obtain⟨n',Qq,TF⟩:=h.pt x z;exact⟨n',Kf _ Qq,TF⟩
  .rw[Kq.mp z];exact⟨n,Kk _ Kz,hp⟩
def MP.sT (h:MP W os pr PL TL Rn)(hn:n∉pr.map (·.1))(hw:w∉pr.map (·.2))(hp:(n,(kd,b,e))∈W.ts)(hb:(b,u2)∈pr)(he:(e,u3)∈pr)(h1:∀y,y≠w->(y∈Rn'↔y∈Rn))(h2:w∈Rn'↔n∉os):MP W os (pr++[(n,w)]) PL (TL++[(w,(kd,u2,u3))]) Rn':=by
 refine⟨by rw[B4];exact E3 h.n1 hn,by rw[Y3];exact E3 h.n2 hw,?_,λx hx=>?_,λx hx=>?_,h.ko' hw h1 h2⟩
 .rw[Y3,B4,h.wd,La]
 .obtain⟨n',Qq,TF⟩:=h.pt x hx;exact⟨n',Kf _ Qq,TF⟩
 .rcases Kg.mp hx with z|z
  .obtain⟨n',b',e',q1,q2,q3,q4⟩:=h.ti x z;exact⟨n',b',e',Kf _ q1,Kf _ q2,Kf _ q3,q4⟩
  .rw[Kq.mp z];exact⟨n,b,e,Kk _ Kz,Kf _ hb,Kf _ he,hp⟩
def MP.sR (h:MP W os pr PL TL Rn)(h1:∀y∈pr.map (·.2),(y∈Rn'↔y∈Rn)):MP W os pr PL TL Rn':=
 ⟨h.n1,h.n2,h.wd,h.pt,h.ti,λx hx=>by rw[h1 _ (Kd.mpr ⟨x,hx,rfl⟩)];exact h.ko x hx⟩
end
def gU (K:Qc):Sp:=λvs H Q _=>∃(S:Sd) (lx lw lk:Addr) (xs:List Int) (ws ks:List Str),vs=[.ref S.a,.ref lx,.ref lw,.ref lk]/\SdIs K H S/\lj S.W/\SqL K H lx (xs.map V.int)/\xs.length=16/\(∀x∈xs,0<=x)/\SqL K H lw (ws.map V.str)/\xV ws/\SqL K H lk (ks.map V.str)/\tM ks/\
 ∀(t r m bl:Addr) (L R:Sd) (pr:List (Str×Str)) (os:List Str) (H':Hp),Same H H'->H' t=some (.tup [.ref r,.ref m])->H' m=some (.dK (i7 (pr.map swp)))->H' bl=some (.lst [])->RuleIs K H' r bl L R []->fg L.W R.W []->MP S.W os pr L.W.pts L.W.ts (b7 R.W)->(∀n x,(n,x)∈S.W.ts->(x.2.1∈os\/x.2.2∈os)->n∈os)->(∀n∈os,n∈pr.map (·.1))->(∀n∈b7 R.W,n∉b7 L.W->Wd ws 8 12 n)->(∀n∈b7 L.W,Wd ws 0 8 n)->Q (.ref t) H'
abbrev jm:=λP w K mg base=>U0 P w K mg base F0 2 "_law_rule" ["_law_web_here","_law_xs","_law_words_here","_law_kinds"] [] (gU K)
def oC {f fd}(T:Txt K mg)(bx:eG P w K mg base)(fO:lJ P w K mg base)(F:Fun K "_law_rule" "_law_rule" dJ f fd):C5 P w K mg base F0 2 f fd ["_law_web_here","_law_xs","_law_words_here","_law_kinds"] (gU K):=by
 walk_at "#sc__law_rule"
 .obtain⟨S,lx,lw,lk,xs,ws,ks,rfl,_⟩:=h;rfl
 .obtain⟨S,lx,lw,lk,xs,ws,ks,rfl,hS,hG,hX,p_,s_,hW,⟨wl,u_,wk⟩,hK,⟨kl0,kl3,kk⟩,k⟩:=h;have Tn:=hS.len;rw[C3] at Tn;walk_at "@sc__law_rule ,5'0bx i01xc49c59y465'0fO 7074i5147P48mgPP49mgPPbtu~864xc:9c;9ybAd20:070;bAq100;18d20:enaB0;06oeAq100;19d20:btu~865xc:9c;9y,q100;xc<9c=9c>9ybAd2f20:070;bAm7<gd70=d70>18d2f20:enaB0;06oeAm7<gd70=d70>19d2f20:btuV3C'1iP O~s~rgl112{'0tw 2p319h:9eAd3lz11f0:2p6319d2f20:4?GJ319btuV3RC'1iP O~s~rgl112{'0tw 2p319#~h~g~fE(0?Hjh:94<d3lz11f0:2p634=d?lz11f0:2p6?eAm7<7=3d?lz11f0:2p6?19d2f20:4@Pbtu+07xc;9cA9yeA0;0@0A8msm78793H6@"
  walk_at "S";rfl';refine⟨S,lx,xs,rfl,hS,hX,p_,s_,λt0 lp lt ps ts H1 s1 f1 g1 g2 pk=>?_⟩;refine I0 (SqT.of f1) rfl ?_;rfl';walk_at "S";rfl';refine⟨S,lp,lt,lx,ps,ts,xs,rfl,hS.same s1,SqL.of g1,SqL.of g2,pk,s1.seq hX,p_,s_,λlo os B nlo s2 fo ok=>?_⟩;have TV:=s1.trans s2;have SB:=hS.same TV;have XB:=TV.seq hX;have WB:=TV.seq hW;have KB:=TV.seq hK;have PB:=s2 _ _ g1;have TB:=s2 _ _ g2;rfl';walk_at "S";rfl';intro wd n0;obtain⟨H3,e3,f3,m3,_⟩:=b5 (o:= .dK []) n0;rw[e3];rfl';walk_at "S";rfl';intro d1 n1;obtain⟨H4,e4,f4,m4,_⟩:=b5 (o:= .dK []) n1;rw[e4];rfl';intro d2 n2;obtain⟨H5,e5,f5,m5,_⟩:=b5 (o:= .dK []) n2;rw[e5];rfl';refine⟨d0 (by simp),λa1 na1=>?_⟩;obtain⟨H6,e6,f6,m6,_⟩:=b5 (o:= .tup _) na1;rw[e6];rfl';walk_at "S";rfl';intro d3 n3;obtain⟨H7,e7,f7,m7,_⟩:=b5 (o:= .dK []) n3;rw[e7];rfl';intro d4 n4;obtain⟨H8,e8,f8,m8,_⟩:=b5 (o:= .dK []) n4;rw[e8];rfl';refine⟨d0 (by simp),λa2 na2=>?_⟩;obtain⟨H9,e9,f9,m9,_⟩:=b5 (o:= .tup _) na2;rw[e9];have RF:=m4.trans (m5.trans m6);have ne:NE B wd d1 d2 d3 d4:=⟨n0,m3.free n1,m3.free (m4.free n2),m3.free (RF.free n3),m3.free (RF.free (m7.free n4)),d9 f3 n1,d9 (m4 _ _ f3) n2,d9 (RF _ _ f3) n3,d9 (m7 _ _ (RF _ _ f3)) n4,
   d9 f4 n2,d9 (m6 _ _ (m5 _ _ f4)) n3,d9 (m7 _ _ (m6 _ _ (m5 _ _ f4))) n4,d9 (m6 _ _ f5) n3,d9 (m7 _ _ (m6 _ _ f5)) n4,d9 f7 n4⟩
  have Wm:=m7.trans (m8.trans m9);have rs0:RS K B H9 wd d1 d2 d3 d4 a1 a2 [] [] [] [] [] [] []:=⟨m3.trans (RF.trans Wm),SqT.of (Wm _ _ f6),SqT.of f9,Wm _ _ (RF _ _ f3),Wm _ _ (m6 _ _ (m5 _ _ f4)),Wm _ _ (m6 _ _ f5),m9 _ _ (m8 _ _ f7),m9 _ _ f8,.nil,.nil⟩
  have Ss:=pk.l1;have Vl:=pk.l2;rfl';walk_at "S";rfl';refine⟨_,rfl,.inl ⟨lp,_,rfl,SqL.of (rs0.sm _ _ PB),?_⟩⟩;refine O0 (n:=ps.length) (λi σ H'=>(∃u:Nat->Option V,σ=[some (V.ref S.a),some (.ref lx),some (.ref lw),some (.ref lk),some (.ref lp),some (.ref lt),some (.ref lo),some (.ref wd),some (.ref a1),some (.ref a2),u 10,u 11,u 12,u 13,u 14,u 15,u 16,u 17])/\∃pr PL PR,RS K B H' wd d1 d2 d3 d4 a1 a2 (i7 pr) [] [] PL PR [] []/\LR ws i 0 0 0 PL [] PR []/\WO ps ws os i (i7 pr) PL PR/\pr.length<=i/\MP S.W os pr PL [] (PR.map (·.1))/\pr.map (·.1)=ps.take i)
   ⟨sg rfl,[],[],[],rs0,LR.new,⟨(λ_ h=>nomatch h),(λj _ _ h=>absurd h (Po _)),(λj _ h=>absurd h (Po _)),λj _ _ h=>absurd h (Po _)⟩,Ke _,⟨LF,LF,rfl,(λ_ h=>nomatch h),(λ_ h=>nomatch h),λ_ h=>nomatch h⟩,rfl⟩ (λi σ H' hi hp=>⟨_,.str (ps[i]),SqL.of (hp.2.choose_spec.choose_spec.choose_spec.1.sm _ _ PB),by rw[Kh,Kc hi];rfl⟩) ?_ ?_
  .rintro i v σ Ri UC hi ⟨⟨u,rfl⟩,pr,PL,PR,rs,lr,wo,Qv,mp,RG⟩ ⟨t,x,hx,nt,rfl,rfl⟩ _ _;have h_:=hx _ (SqL.of (rs.sm _ _ PB));rw[Kh,Kc hi] at h_;cases h_;have Xt:ps[i]?=some ps[i]:=Kc hi;obtain⟨wi,OV,Su⟩:=tL wl i (by lia);obtain⟨⟨x0,kd⟩,D_,ex⟩:=Kd.mp (pk.p _ (KS hi));have O':x0=ps[i]:=ex;subst O';have J_:=hG.kd _ D_;obtain⟨nL,nR⟩:=lr.f1 u_ OV;obtain⟨TQ,SN,TX,Sq,_⟩:=b5 (o:= .tup _) nt;rw[SN];have QN:=rs.mono Sq;refine I0 (SqT.of TX) rfl ?_;rfl';walk_at "S";rfl';refine j5 (QN.sm.seq WB) (Su _ rfl) ?_;rfl';refine P9 (B5 (k:=Sum.inr ps[i]) QN.w (d0 (by rw[k9];lia)) ?_);have QC:ps[i]∉pr.map (·.1):=λz=>by
    rw[RG] at z;have z2:(ps.take (i+1)).Nodup:=pk.n1.sublist (Lv _ _);rw[KI,Xt] at z2;exact(Ks.mp z2).2.2 _ z _ (by simp) rfl
   have Wn:wi∉pr.map (·.2):=λz=>by
    rw[mp.wd,MU,Lb] at z;exact nL z
   have Sv:(pr++[(ps[i],wi)]).map (·.1)=ps.take (i+1):=by rw[B4,RG,KI,Xt];rfl
   have Sw:(pr++[(ps[i],wi)]).length<=i+1:=by rw[Kj,Ku];lia
   rw[aq QC];have QQ:=QN.setW (kw':=i7 (pr++[(ps[i],wi)])) ne;generalize upd TQ wd (.dK (i7 (pr++[(ps[i],wi)])))=Vm at QQ⊢;have S12:=SB.same QQ.sm;refine hZ (by assumption) ?_;walk_at "S";rfl';refine u4 S12.at_.tup ?_;rfl';refine z0 (v:= .str kd) (by have z:=K1 (k:=Sum.inr ps[i]) S12.at_.pts;rw[L9 (E5 hS.nd) D_] at z;exact z) ?_;rfl';refine u4 QQ.t1 ?_;rfl';refine j5 (QQ.sm.seq WB) (Su _ rfl) ?_;rfl';refine P9 (B5 (k:=Sum.inr wi) QQ.h1 (d0 (by rw[k9];have:=lr.ll;lia)) ?_);have OB:=QQ.set1 (kd:=kd) ne nL;generalize upd Vm d1 (.dK (E9 (i7 PL) (Sum.inr wi) (.str kd)))=Xu at OB⊢;have S13:=SB.same OB.sm;rfl';refine J2 (SqL.of (OB.sm _ _ fo)) ?_;rfl';refine O6 (λhb=>?_) (λhb=>?_)
   .rfl';refine u4 S13.at_.tup ?_;rfl';refine z0 (v:= .str kd) (by have z:=K1 (k:=Sum.inr ps[i]) S13.at_.pts;rw[L9 (E5 hS.nd) D_] at z;exact z) ?_;rfl';refine u4 OB.t2 ?_;rfl';refine j5 (OB.sm.seq WB) (Su _ rfl) ?_;rfl';refine P9 (B5 (k:=Sum.inr wi) OB.h3 (d0 (by rw[k9];have:=lr.lr;lia)) ?_);walk_at "X";exact⟨sg rfl,_,_,_,OB.set3 (kd:=kd) ne nR,lr.s1 u_ OV J_ true,by have z:=wo.s1 (kd:=kd) pk.n1 Xt OV true (λ_=>rfl);rw[aq QC] at z;exact z,Sw,mp.sP QC Wn D_ (λy hy=>by show y∈(PR++[(wi,kd)]).map (·.1)↔_;rw[B4,Kg,Kq];exact⟨λz=>z.elim id λq=>absurd q hy,.inl⟩) ⟨λ_=>hb,λ_=>by show wi∈(PR++[(wi,kd)]).map (·.1);rw[B4];simp⟩,Sv⟩
   .rfl';walk_at "X";exact⟨sg rfl,_,_,_,OB,lr.s1 u_ OV J_ false,by have z:=wo.s1 (kd:=kd) pk.n1 Xt OV false (λz=>absurd hb z);rw[aq QC] at z;exact z,Sw,mp.sP QC Wn D_ (λy hy=>TK) ⟨λz=>absurd z nR,λz=>absurd hb z⟩,Sv⟩
  .rintro σ Ri ⟨⟨u,rfl⟩,pr,PL,PR,rs,lr,wo,Qv,mp,RG⟩;rw[Kl (Ke _)] at RG;refine⟨⟨_,SqL.of (rs.sm _ _ PB),by rw[Kb];exact Ke _⟩,?_⟩;refine hZ (by assumption) ?_;change jK _ _ _ _ Ri;walk_at "S";rfl';refine⟨_,rfl,.inl ⟨lt,_,rfl,SqL.of (rs.sm _ _ TB),?_⟩⟩;refine O0 (n:=ts.length) (λi σ H'=>(∃u:Nat->Option V,σ=[some (V.ref S.a),some (.ref lx),some (.ref lw),some (.ref lk),some (.ref lp),some (.ref lt),some (.ref lo),some (.ref wd),some (.ref a1),some (.ref a2),u 10,u 11,u 12,u 13,u 14,u 15,u 16,u 17])/\∃pr kL kR TL TR,RS K B H' wd d1 d2 d3 d4 a1 a2 (i7 pr) kL kR PL PR TL TR/\LR ws ps.length i 0 0 PL TL PR TR/\WO ps ws os ps.length (i7 pr) PL PR/\pr.length<=ps.length+i/\MP S.W os pr PL TL (PR.map (·.1)++TR.map (·.1))/\pr.map (·.1)=ps++ts.take i)
    ⟨sg rfl,_,_,_,_,_,rs,lr,wo,Qv,by rw[MU,Lb];exact mp,by rw[PD,Lb];exact RG⟩ (λi σ H' hi hp=>⟨_,.str (ts[i]),SqL.of (hp.2.choose_spec.choose_spec.choose_spec.choose_spec.choose_spec.1.sm _ _ TB),by rw[Kh,Kc hi];rfl⟩) ?_ ?_
   .clear rs lr wo Qv mp RG;rintro i v σ Ri UC hi ⟨⟨u,rfl⟩,pr,kL,kR,TL,TR,rs,lr,wo,Qv,mp,RG⟩ ⟨t,x,hx,nt,rfl,rfl⟩ _ _;have h_:=hx _ (SqL.of (rs.sm _ _ TB));rw[Kh,Kc hi] at h_;cases h_;have Zz:=KS hi;have Ug:ts.take (i+1)=ts.take i++[ts[i]]:=by rw[KI,Kc hi];rfl
    have htn:ts[i]∉ts.take i:=λz=>by
     have z2:(ts.take (i+1)).Nodup:=pk.n2.sublist (Lv _ _);rw[Ug] at z2;exact(Ks.mp z2).2.2 _ z _ (by simp) rfl
    generalize ts[i]=nm at Zz Ug htn;obtain⟨wi,OV,Su⟩:=tL wl (4+i) (by lia);obtain⟨⟨y1,y2,y3⟩,Vn,hy2,hy3⟩:=pk.t _ Zz;have J_:=hG.tk _ Vn;obtain⟨nL,nR⟩:=lr.f2 u_ OV;have hnp:nm∉ps:=λz=>(Ks.mp hS.nd).2.2 nm (pk.p _ z) nm (Kd.mpr ⟨_,Vn,rfl⟩) rfl;obtain⟨TQ,SN,TX,Sq,_⟩:=b5 (o:= .tup _) nt;rw[SN];have QN:=rs.mono Sq;have ZA:=SB.same QN.sm;obtain⟨aa,q1,q3⟩:=dQ ZA.at_.ts (O8 hS.nd) Vn;refine I0 (SqT.of TX) rfl ?_;rfl';walk_at "S";rfl';refine j9 ZA.at_.tup ?_;rfl';refine z0 (v:= .ref aa) (by have z:=K1 (k:=Sum.inr nm) ZA.at_.ties;rw[q1] at z;exact z) ?_;refine I0 (xs:=[.str y1,.str y2,.str y3]) q3 rfl ?_;rfl';walk_at "S";rfl';refine j5 (QN.sm.seq WB) (Su _ rfl) ?_;rfl';refine P9 (B5 (k:=Sum.inr nm) QN.w (d0 (by rw[k9];lia)) ?_);have QC:nm∉pr.map (·.1):=λz=>by
     rw[RG] at z;exact(Kg.mp z).elim hnp htn
    have Wn:wi∉pr.map (·.2):=λz=>by
     rw[mp.wd] at z;rcases Kg.mp z with z|z
     .obtain⟨y,hy,ey⟩:=Kd.mp z;have:=(lr.pl y hy).1;rw[show y.1=wi from ey] at this;exact Wd.no u_ this ⟨4+i,Ke _,Lz _,OV⟩ (.inl (by lia))
     .exact nL z
    have ZC:wi∉PR.map (·.1)++TR.map (·.1):=λz=>by
     rcases Kg.mp z with z|z
     .obtain⟨y,hy,ey⟩:=Kd.mp z;rcases(lr.pr y hy).1 with q|q
      .have:=(lr.pl y q).1;rw[show y.1=wi from ey] at this;exact Wd.no u_ this ⟨4+i,Ke _,Lz _,OV⟩ (.inl (by lia))
      .obtain⟨j,j1,j2,_⟩:=q;lia
     .exact nR z
    have Sv:(pr++[(nm,wi)]).map (·.1)=ps++ts.take (i+1):=by rw[B4,RG,Ug,La]
    have Sw:(pr++[(nm,wi)]).length<=ps.length+(i+1):=by rw[Kj,Ku];lia
    have Wo:=wo.s2 (w:=wi) hnp;obtain⟨u2',ZD,_,_⟩:=wo.get wl Ss hy2;obtain⟨u3',ZE,_,_⟩:=wo.get wl Ss hy3;obtain⟨_,eb2,QB⟩:=gz ZD;obtain⟨_,eb3,ZF⟩:=gz ZE;rw[aq QC] at Wo⊢;have QQ:=QN.setW (kw':=i7 (pr++[(nm,wi)])) ne;generalize upd TQ wd (.dK (i7 (pr++[(nm,wi)])))=Vm at QQ⊢;obtain⟨u2,Rr,uL2,uR2⟩:=Wo.get wl Ss hy2;obtain⟨u3,ZG,uL3,uR3⟩:=Wo.get wl Ss hy3;have n1':((pr++[(nm,wi)]).map (·.1)).Nodup:=by rw[B4];exact E3 mp.n1 QC
    have Wq:(y2,u2)∈pr:=by
     have z:=L9 (k:=u2') n1' (Kf _ (by rw[V.str.inj eb2];exact QB));rw[Rr] at z;rw[V.str.inj (KG z),V.str.inj eb2];exact QB
    have Wr:(y3,u3)∈pr:=by
     have z:=L9 (k:=u3') n1' (Kf _ (by rw[V.str.inj eb3];exact ZF));rw[ZG] at z;rw[V.str.inj (KG z),V.str.inj eb3];exact ZF
    refine hZ (by assumption) ?_;walk_at "S";rfl';refine z0 (v:= .str u2) (by have z:=K1 (k:=Sum.inr y2) (show Rd Vm wd _ from .inl QQ.w);rw[Rr] at z;exact z) ?_;rfl';refine z0 (v:= .str u3) (by have z:=K1 (k:=Sum.inr y3) (show Rd Vm wd _ from .inl QQ.w);rw[ZG] at z;exact z) ?_;rfl';refine⟨d0 (by simp),λZH n13=>?_⟩;obtain⟨Xu,Ws,UD,C_,_⟩:=b5 (o:= .tup _) n13;rw[Ws];have OB:=QQ.mono C_;rfl';refine j9 OB.t1 ?_;rfl';refine j5 (OB.sm.seq WB) (Su _ rfl) ?_;rfl';refine P9 (B5 (k:=Sum.inr wi) OB.h2 (d0 (by have:=lr.lt;have:=OB.tl.length;lia)) ?_);have Vo:=OB.set2 (kd:=y1) (o1:=u2) (o2:=u3) ne nL (SqT.of UD);generalize upd Xu d2 (.dK (E9 kL (Sum.inr wi) (.ref ZH)))=H14 at Vo⊢;rfl';refine J2 (SqL.of (Vo.sm _ _ fo)) ?_;rfl';refine O6 (λhb=>?_) (λhb=>?_)
    .obtain⟨Yn,ob3⟩:=ok.ok _ Zz hb _ Vn;rfl';refine z0 (v:= .str u2) (by have z:=K1 (k:=Sum.inr y2) (show Rd H14 wd _ from .inl Vo.w);rw[Rr] at z;exact z) ?_;rfl';refine z0 (v:= .str u3) (by have z:=K1 (k:=Sum.inr y3) (show Rd H14 wd _ from .inl Vo.w);rw[ZG] at z;exact z) ?_;rfl';refine⟨d0 (by simp),λl15 n15=>?_⟩;obtain⟨H15,e15,ZI,m15,_⟩:=b5 (o:= .tup _) n15;rw[e15];have Wt:=Vo.mono m15;rfl';refine j9 Wt.t2 ?_;rfl';refine j5 (Wt.sm.seq WB) (Su _ rfl) ?_;rfl';refine P9 (B5 (k:=Sum.inr wi) Wt.h4 (d0 (by have:=lr.lu;have:=Wt.tr.length;lia)) ?_);walk_at "X";exact⟨sg rfl,_,_,_,_,_,Wt.set4 (kd:=y1) (o1:=u2) (o2:=u3) ne nR (SqT.of ZI),lr.s2 u_ OV J_ uL2 uL3 true (λ_=>⟨uR2 Yn,uR3 ob3⟩),Wo,Sw,mp.sT QC Wn Vn Wq Wr (λy hy=>by show y∈PR.map (·.1)++(TR++[(wi,(y1,u2,u3))]).map (·.1)↔_;rw[B4,←La,Kg,Kq];exact⟨λz=>z.elim id λq=>absurd q hy,.inl⟩) ⟨λ_=>hb,λ_=>by show wi∈PR.map (·.1)++(TR++[(wi,(y1,u2,u3))]).map (·.1);rw[B4];simp⟩,Sv⟩
    .rfl';exact⟨sg rfl,_,_,_,_,_,Vo,lr.s2 u_ OV J_ uL2 uL3 false (λz=>nomatch z),Wo,Sw,mp.sT QC Wn Vn Wq Wr (λy hy=>TK) ⟨λz=>absurd z ZC,λz=>absurd hb z⟩,Sv⟩
   .clear rs lr wo Qv mp RG;rintro σ Ri ⟨⟨u,rfl⟩,pr,kL,kR,TL,TR,rs,lr,wo,Qv,mp,RG⟩;rw[Kl (Ke _)] at RG;refine⟨⟨_,SqL.of (rs.sm _ _ TB),by rw[Kb];exact Ke _⟩,?_⟩;refine hZ (by assumption) ?_;change jK _ _ _ _ Ri;have hrl:=lr.lr;have TM:=lr.lu;have htr:=rs.tr.length;obtain⟨x8,hx8,hx8'⟩:=aI p_ s_ 8 (by lia);obtain⟨x9,Rj,hx9'⟩:=aI p_ s_ 9 (by lia);obtain⟨x10,ZJ,hx10'⟩:=aI p_ s_ 10 (by lia);obtain⟨x11,UE,Wu⟩:=aI p_ s_ 11 (by lia);obtain⟨x12,ZK,hx12'⟩:=aI p_ s_ 12 (by lia);obtain⟨x13,ZL,hx13'⟩:=aI p_ s_ 13 (by lia);walk_at "S";rfl';refine j5 (rs.sm.seq XB) hx8 ?_;rfl';refine u4 rs.t2 ?_;rfl';refine F2 (bG (.inl rs.h3) ?_);rw[k9];rfl';refine⟨_,_,rfl,?_⟩;generalize P':(if 4 -(PR.length:Int)<x8 % 3 then 4 -(PR.length:Int) else x8 % 3)=cnt;have hc:0<=cnt/\cnt<=2/\PR.length+cnt.toNat<=4:=by subst P';split<;>lia
    clear P';rfl';refine Q5 (by lia) (by lia) ?_;refine O0 (n:=cnt.toNat) (λi σ H'=>(∃u:Nat->Option V,σ=[some (V.ref S.a),some (.ref lx),some (.ref lw),some (.ref lk),some (.ref lp),some (.ref lt),some (.ref lo),some (.ref wd),some (.ref a1),some (.ref a2),u 10,u 11,u 12,u 13,u 14,u 15,u 16,u 17])/\∃P_,RS K B H' wd d1 d2 d3 d4 a1 a2 (i7 pr) kL kR PL P_ TL TR/\LR ws ps.length ts.length i 0 PL TL P_ TR/\P_.length=PR.length+i/\∀y,(Wd ws 0 8 y\/False)->(y∈P_.map (·.1)↔y∈PR.map (·.1)))
     ⟨sg rfl,_,rs,lr,rfl,λ_ _=>TK⟩ (λi σ H' hi _=>by exact hi) ?_ ?_
    .clear rs lr;rintro i v σ UC Ri hi ⟨⟨u,rfl⟩,P_,rs,lr,ZM,bP⟩ ⟨rfl,rfl⟩ _ _;replace hi:i<2/\PR.length+i<4:=by lia
     obtain⟨hi,hi4⟩:=hi;clear hc;obtain⟨wi,OV,Su⟩:=tL wl (8+i) (by lia);have UG:=Su (8+(0+(i:Int))) (by lia);obtain⟨kd,J_,Qt⟩:=L8 (ss:=ks) (i:=x9/(0+(i:Int)+1) % (ks.length:Int)) (Ls _ (by lia)) (Lj _ (by lia));rfl';refine j5 (rs.sm.seq XB) Rj ?_;rfl';refine F2 (u9 (rs.sm.seq KB) ?_);rw[Kb];rfl';refine j5 (rs.sm.seq KB) J_ ?_;rfl';refine u4 rs.t2 ?_;rfl';refine j5 (rs.sm.seq WB) UG ?_;rfl';refine P9 (B5 (k:=Sum.inr wi) rs.h3 (d0 (by rw[k9];lia)) ?_);walk_at "X";exact⟨sg rfl,_,rs.set3 (kd:=kd) ne (lr.f3 u_ Ss OV),lr.s3 u_ Ss OV (kk _ Qt),by rw[Kj,Ku];lia,λy hy=>by
      rw[B4,Kg,Kq,←bP y hy];refine⟨λz=>z.elim id λq=>?_,.inl⟩;subst q;exact(Wd.no u_ (hy.elim id False.elim) ⟨8+i,Ke _,Lz _,OV⟩ (.inl (by lia))).elim⟩
    .clear rs lr;rintro σ Ri ⟨⟨u,rfl⟩,P_,rs,lr,ZM,bP⟩;refine⟨Ke _,?_⟩;refine hZ (by assumption) ?_;change jK _ _ _ _ Ri;walk_at "S";rfl';refine u4 rs.t2 ?_;rfl';refine A6 (ss:=P_.map (·.1)) (.inl rs.h3) (by rw[E6,B6]) (by rw[Kb];lia) (λK_ b1 b2 le nle=>?_);have ble:B le=none:=rs.sm.free nle;obtain⟨TQ,SN,TX,Sq,_⟩:=b5 (o:= .lst _) nle;rw[SN];have QN:=rs.mono Sq;have gl:=b1.length_eq;rw[Kb] at gl;rfl';walk_at "S";rfl';refine j5 (QN.sm.seq XB) ZJ ?_;rfl';refine j9 QN.t2 ?_;rfl';refine F2 (bG (.inl QN.h4) ?_);rfl';refine⟨_,_,rfl,?_⟩;generalize OQ:(if 4 -(kR.length:Int)<x10 % 3 then 4 -(kR.length:Int) else x10 % 3)=M';have RJ:0<=M'/\M'<=2/\TR.length+M'.toNat<=4:=by subst OQ;split<;>lia
     clear OQ;rfl';refine⟨d0 (by simp),λl3 n3=>?_⟩;obtain⟨Vm,TY,Wv,H_,_⟩:=b5 (o:= .lst []) n3;rw[TY];refine AS (il (SqL.of (H_ _ _ TX)) (SqL.of Wv) (P8 _) rfl ?_);refine .inr ⟨_,rfl,?_⟩;have Wk:V9 (K_.map V.str) []=decide (K_=[]):=by cases K_<;>rfl
     rw[Wk];generalize hn:(if(!decide (K_=[]))=true then(1:Int) else 0)=nn;have OS:(nn=0\/nn=1)/\(nn=1->0<K_.length):=by
      subst hn;cases K_ with
      |nil=>simp
      |cons _ _=>simp
     have ZN:d4≠le:=d9 rs.h4 nle;rfl';have hmul:0<=M'*nn/\M'*nn<=M'/\(0<M'*nn->nn=1):=by
      rcases OS.1 with rfl|rfl<;>lia
     generalize M'*nn=cnt3 at hmul⊢;refine Q5 (by lia) (by lia) ?_;have QQ:=QN.mono H_;refine O0 (n:=cnt3.toNat) (λi σ H'=>(∃u:Nat->Option V,σ=[some (V.ref S.a),some (.ref lx),some (.ref lw),some (.ref lk),some (.ref lp),some (.ref lt),some (.ref lo),some (.ref wd),some (.ref a1),some (.ref a2),u 10,u 11,u 12,u 13,u 14,some (.ref le),u 16,u 17])/\H' le=some (.lst (K_.map V.str))/\∃Xv Rl,RS K B H' wd d1 d2 d3 d4 a1 a2 (i7 pr) kL Xv PL P_ TL Rl/\LR ws ps.length ts.length cnt.toNat i PL TL P_ Rl/\Rl.length=TR.length+i/\∀y,(Wd ws 0 8 y\/False)->(y∈Rl.map (·.1)↔y∈TR.map (·.1)))
      ⟨sg rfl,H_ _ _ TX,_,_,QQ,lr,rfl,λ_ _=>TK⟩ (λi σ H' hi _=>by exact hi) ?_ ?_
     .clear rs QN QQ lr;rintro i v σ UC Ri hi ⟨⟨u,rfl⟩,hle,Xv,Rl,rs,lr,ZO,bT⟩ ⟨rfl,rfl⟩ _ _;have QD:0<K_.length:=OS.2 (hmul.2.2 (by lia));replace hi:i<2/\TR.length+i<4:=by lia
      obtain⟨hi,hi4⟩:=hi;clear RJ hmul OS;obtain⟨wi,OV,Su⟩:=tL wl (10+i) (by lia);have UG:=Su (10+(0+(i:Int))) (by lia);obtain⟨kd,J_,Qt⟩:=L8 (ss:=ks) (i:=x11/(0+(i:Int)+1) % (ks.length:Int)) (Ls _ (by lia)) (Lj _ (by lia));obtain⟨o1,Rt,Xr⟩:=L8 (ss:=K_) (i:=x12/(0+(i:Int)+1) % (K_.length:Int)) (Ls _ (by lia)) (Lj _ (by lia));obtain⟨o2,Rc,Zp⟩:=L8 (ss:=K_) (i:=x13/(0+(i:Int)+1) % (K_.length:Int)) (Ls _ (by lia)) (Lj _ (by lia));rfl';walk_at "S";rfl';refine j5 (rs.sm.seq XB) UE ?_;rfl';refine F2 (u9 (rs.sm.seq KB) ?_);rw[Kb];rfl';refine j5 (rs.sm.seq KB) J_ ?_;rfl';walk_at "S";rfl';refine j5 (rs.sm.seq XB) ZK ?_;rfl';refine F2 (u9 (SqL.of hle) ?_);rw[Kb];rfl';refine j5 (SqL.of hle) Rt ?_;rfl';refine j5 (rs.sm.seq XB) ZL ?_;rfl';refine F2 (u9 (SqL.of hle) ?_);rw[Kb];rfl';refine j5 (SqL.of hle) Rc ?_;rfl';refine⟨d0 (by simp),λZH n13=>?_⟩;obtain⟨Xu,Ws,UD,C_,_⟩:=b5 (o:= .tup _) n13;rw[Ws];have OB:=rs.mono C_;have Ww:=C_ _ _ hle;rfl';refine j9 OB.t2 ?_;rfl';refine j5 (OB.sm.seq WB) UG ?_;rfl';refine P9 (B5 (k:=Sum.inr wi) OB.h4 (d0 (by have:=OB.tr.length;lia)) ?_);walk_at "X";exact⟨sg rfl,by rw[b9 ZN.symm];exact Ww,_,_,OB.set4 (kd:=kd) (o1:=o1) (o2:=o2) ne (lr.f4 u_ Vl OV) (SqT.of UD),lr.s4 u_ Vl OV (kk _ Qt) (b1.mem_iff.mp Xr) (b1.mem_iff.mp Zp),by rw[Kj,Ku];lia,λy hy=>by
       rw[B4,Kg,Kq,←bT y hy];refine⟨λz=>z.elim id λq=>?_,.inl⟩;subst q;exact(Wd.no u_ (hy.elim id False.elim) ⟨10+i,Ke _,Lz _,OV⟩ (.inl (by lia))).elim⟩
     .clear rs QN QQ lr;rintro σ G ⟨⟨u,rfl⟩,hle,Xv,Rl,rs,lr,ZO,bT⟩;refine⟨Ke _,?_⟩;refine hZ (by assumption) ?_;change jK _ _ _ _ G;walk_at "S";rfl';intro md nmd;obtain⟨G1,ZP,ZQ,Vp,_⟩:=b5 (o:= .dK []) nmd;rw[ZP];rfl';walk_at "S";rfl';have ZR:md≠wd:=(d9 rs.w nmd).symm;refine K4 (Vp _ _ rs.w) (λndw o=>?_);have gm:C4 wd o (i7 pr) G md=none:=by unfold C4;rw[b9 ZR];exact nmd
      have sG:Same (C4 wd o (i7 pr) G) (C4 wd o (i7 pr) G1):=λb u e=>by
       unfold C4 at e⊢;by_cases hb:b=wd
       .subst hb;rw[d6] at e⊢;exact e
       .rw[b9 hb] at e⊢;exact Vp _ _ e
      refine O0 (n:=(i7 pr).length) (λi σ H'=>(∃u:Nat->Option V,σ=[some (V.ref S.a),some (.ref lx),some (.ref lw),some (.ref lk),some (.ref lp),some (.ref lt),some (.ref lo),some (.ref wd),some (.ref a1),some (.ref a2),u 10,u 11,u 12,u 13,u 14,u 15,some (.ref md),u 17])/\Same (C4 wd o (i7 pr) G) H'/\H' md=some (.dK (i7 ((pr.take i).map swp))))
       ⟨sg rfl,sG,by unfold C4;rw[b9 ZR];exact ZQ⟩ (λi σ H' hi hp=>⟨hp.2.1 _ _ d6,hi⟩) ?_ ?_
      .rintro i v σ G2 G2' hi ⟨⟨u,rfl⟩,s2',Qt⟩ ⟨t,kv,f_,nt,rfl,rfl⟩ _ _;obtain⟨⟨n,s⟩,Xw,rfl⟩:=az f_;have e7:pr.take (i+1)=pr.take i++[(n,s)]:=by rw[KI,Xw];rfl
       have Px:s∉((pr.take i).map swp).map (·.1):=λz=>by
        rw[Lf] at z;have z2:((pr.take (i+1)).map (·.2)).Nodup:=mp.n2.sublist ((Lv _ _).map _);rw[e7,Y3] at z2;exact(Ks.mp z2).2.2 s z s (by simp) rfl
       obtain⟨G3,ZS,ZT,Vq,_⟩:=b5 (o:= .tup _) nt;rw[ZS];refine I0 (SqT.of ZT) rfl ?_;rfl';refine P9 (B5 (k:=Sum.inr s) (Vq _ _ Qt) (d0 (by rw[k9,Kb,Kt];lia)) ?_);walk_at "X";refine⟨sg rfl,E7 (s2'.trans Vq) gm,?_⟩;rw[d6,e7,Ki];exact LK (λz=>some (HO.dK z)) ((aq (kd:=n) Px).trans rfl)
      .rintro σ G2 ⟨⟨u,rfl⟩,s2',Qt⟩;rw[k9,Kl (Ke _)] at Qt;refine⟨⟨s2' _ _ d6,Ke _⟩,?_⟩;have sG2:=s2'.thaw rs.w;have Wx:thaw wd G2 md=some (.dK (i7 (pr.map swp))):=by rw[Q6 ZR];exact Qt
       have rs2:=rs.mono sG2;refine hZ (by assumption) ?_;change xS _ _ _ (thaw wd G2);generalize thaw wd G2=G3 at sG2 rs2 Wx⊢;rfl';refine⟨d0 (by simp),λbl nbl=>?_⟩;obtain⟨G4,e4',f4',m4',_⟩:=b5 (o:= .lst []) nbl;rw[e4'];rfl';refine⟨d0 (by simp),λr nr=>?_⟩;obtain⟨G5,e5',f5',Xx,_⟩:=b5 (o:= .tup _) nr;rw[e5'];rfl';refine⟨d0 (by simp),λt nt=>?_⟩;obtain⟨G6,e6',ZU,Wy,_⟩:=b5 (o:= .tup _) nt;rw[e6'];have RH:=rs2.mono (m4'.trans (Xx.trans Wy));have hcn:cnt.toNat<=2:=by lia
       have hcm:cnt3.toNat<=2:=by lia
       have hTR:Rl.length<=4:=by lia
       have hPR:P_.length<=4:=by lia
       have Wz:=lr.rule u_ wk Ss Vl hcn hcm hPR hTR;have hold:∀y∈pr.map (·.2),Wd ws 0 8 y:=λy hy=>by rw[mp.wd] at hy;exact lr.nmL Ss Vl y hy
       have hRn:∀y∈pr.map (·.2),(y∈b7 ⟨P_,Rl⟩↔y∈PR.map (·.1)++TR.map (·.1)):=λy hy=>by
        have wy:=hold y hy;show y∈P_.map (·.1)++Rl.map (·.1)↔_;rw[Kg,Kg];exact⟨λz=>z.elim (λz=> .inl ((bP y (.inl wy)).mp z)) λz=> .inr ((bT y (.inl wy)).mp z),λz=>z.elim (λz=> .inl ((bP y (.inl wy)).mpr z)) λz=> .inr ((bT y (.inl wy)).mpr z)⟩
       have J':∀n∈b7 ⟨P_,Rl⟩,n∉b7 ⟨PL,TL⟩->Wd ws 8 12 n:=λn hn g_=>by
        rcases Kg.mp (show n∈P_.map (·.1)++Rl.map (·.1) from hn) with z|z
        .obtain⟨y,hy,rfl⟩:=Kd.mp z;rcases(lr.pr y hy).1 with q|q
         .exact absurd (Kf _ (Kd.mpr ⟨y,q,rfl⟩)) g_
         .exact q.up (Ke _) (by lia)
        .obtain⟨y,hy,rfl⟩:=Kd.mp z;rcases(lr.tr y hy).1 with q|q
         .exact absurd (Kk _ (Kd.mpr ⟨y,q,rfl⟩)) g_
         .exact q.up (by lia) (by lia)
       have nlk:∀{x:Str},K7 x=true->x.length<=100:=λh=>by have:=mS h;lia
       refine k t r md bl ⟨a1,d1,d2,kL,⟨PL,TL⟩⟩ ⟨a2,d3,d4,Xv,⟨P_,Rl⟩⟩ pr os G6 (TV.trans RH.sm) ZU (Wy _ _ (Xx _ _ (m4' _ _ Wx))) (Wy _ _ (Xx _ _ f4')) ⟨SqT.of (Wy _ _ f5'),?_,?_,SqL.of (Wy _ _ (Xx _ _ f4')),λ_ h=>nomatch h⟩ Wz (mp.sR (Rn':=b7 ⟨P_,Rl⟩) hRn) ok.lo (λn hn=>by rw[RG];exact ok.sub n hn) J' (lr.nmL Ss Vl)
       .exact⟨⟨RH.t1,.inl RH.h1,.inl RH.h2,RH.tl⟩,RH.h1,RH.h2,ne.n12,lr.ndL u_ Ss,by rw[C3];have q1:PL.length<=4:=Wz.l.l1;have q2:TL.length<=4:=Wz.l.l2;show PL.length+TL.length<=24;lia,λx hx=>(lr.tl x hx).2.2,λx hx=>nlk (Wz.l.kds x hx)⟩
       .exact⟨⟨RH.t2,.inl RH.h3,.inl RH.h4,RH.tr⟩,RH.h3,RH.h4,ne.n34,lr.ndR u_ Ss Vl hcn hcm,by rw[C3];show P_.length+Rl.length<=24;lia,λx hx=>(lr.tr x hx).2.2,λx hx=>nlk (Wz.r.kds x hx)⟩
def DK (H:Hp)(a:Addr):Prop:=∃k,H a=some (.dK k)
structure Wb (K:Qc) (H:Hp) (s:Sd):Prop where
 t:SqT K H s.a [.ref s.p,.ref s.q]
 p:DK H s.p
 q:DK H s.q
def bf (gs:List Str)(W:C9):C9:=⟨W.pts.filter λx=>!decide (x.1∈gs),W.ts.filter λx=>!decide (x.1∈gs)⟩
def oG (gs:List Str)(W:C9):Bool:=(bf gs W).ts.any λx=>decide (x.2.2.1∈gs)||decide (x.2.2.2∈gs)
def mn (K:Qc):Sp:=λvs H Q E=>∃(a l p q:Addr) (kvs:List (j6×V)) (W:C9) (gs:List Str),vs=[.ref a,.ref l]/\WebAt K H a p q kvs W/\H p=some (.dK (i7 W.pts))/\H q=some (.dK kvs)/\SqL K H l (gs.map V.str)/\(W.pts.map (·.1)).Nodup/\(W.ts.map (·.1)).Nodup/\W.pts.length<=60/\W.ts.length<=60/\(∀x∈W.ts,x.1.length<=100)/\
 if oG gs W=true then ∀H' e,Same H H'->H' e=none->E (.ref (cA K "Loose")) (some e) H' else NewP K H Q (bf gs W)
def NewP.mono {K:Qc}{H H1:Hp}{Q:VK}{W:C9}(s:Same H H1)(k:NewP K H Q W):NewP K H1 Q W:=λa p q kvs W' H' s' h1 h2 h3 h4 h5 h6 h7 h8=>k a p q kvs W' H' (s.trans s') h1 h2 h3 h4 (s.free h5) (s.free h6) h7 h8
abbrev mR:=λP w K mg base=>U0 P w K mg base (mJ P w) 3 "without" ["web","names"] [] (mn K)
def tO {f fd}(T:Txt K mg)(W5:fR P w K mg base)(F:Fun K "without" "without" iB f fd):C5 P w K mg base (mJ P w) 3 f fd ["web","names"] (mn K):=by
 refine F.okE sc_without (λvs H Q E h=>?_) (λc_ A outer s H vs Q E hr h=>?_)
 .obtain⟨a,l,p,q,kvs,W,gs,rfl,_⟩:=h;rfl
 .obtain⟨a,l,p,q,kvs,W,gs,rfl,hW,hp,hq,hL,nd1,RD,l1,l2,Vg,k⟩:=h;have Q_:=k9 W.pts;have Qv:=hW.ts.length;walk_at "@sc_without 42K3wname,kind;1;+10xc0kname,kind,names;c1kname,kind,names;yLaB0002omi0143K3wname,tie;1;+10xc0kname,tie,names;c1kname,tie,names;yLaB0002omi01bt'0PassesOwn.leaving rGJ63h49enIZaFqd304201o-aFqd304201oe~j'0T.r_Loose O3'1JG 0485'0W5 3mi23"
  symm;refine u4 hW.tup ?_;refine K4 hp (λUu o1=>?_);refine z8 (n:=(i7 W.pts).length) (λi out H'=>Same (C4 p o1 (i7 W.pts) H) H'/\Paired (PrV K H') out (i7 ((W.pts.take i).filter λx=>!decide (x.1∈gs)))) ⟨Same.refl _,.nil⟩ (λi out H' hi hp=>⟨hp.1 _ _ d6,hi⟩) ?_ ?_
  .rintro N i v out H1 H2 hi ⟨s1,pr⟩ ⟨t,kv,f_,nt,rfl,rfl⟩ hN';obtain⟨x,hx,rfl⟩:=az f_;obtain⟨H3,e3,f3,m3,_⟩:=b5 (o:= .tup _) nt;rw[e3];have L3:=((N9 (o:=o1) hp).trans (s1.trans m3).le).lst hL;have e7:W.pts.take (i+1)=W.pts.take i++[x]:=by rw[KI,hx];rfl
   have y_:=KW pr;have x_:=Km (λx:Str×Str=>!decide (x.1∈gs)) (W.pts.take i);rw[k9] at y_;rw[Kt] at x_;refine I0 (SqT.of f3) rfl ?_;symm;refine⟨rfl,?_⟩;symm;refine J2 L3 ?_;symm;refine ib (λhb=>?_) (λhb=>?_)
   .symm;refine⟨d0 (by simp),λt4 n4=>?_⟩;obtain⟨H4,e4,f4,m4,_⟩:=b5 (o:= .tup _) n4;rw[e4];refine⟨d0 (by lia),hN' _ _ ⟨s1.trans (m3.trans m4),?_⟩⟩;rw[e7,KP,KR (by rw[hb];rfl),Lp];unfold i7 at pr⊢;rw[Ki];exact B9 (Paired.imp' (λ_ _ z=>PrV.mono (m3.trans m4).le z) pr) ⟨t4,rfl,SqT.of f4⟩
   .refine hN' _ _ ⟨s1.trans m3,?_⟩;rw[e7,KP,Ld (by rw[hb];simp),Lp,Lb];exact Paired.imp' (λ_ _ z=>PrV.mono m3.le z) pr
  .rintro out H1 ⟨s1,pr⟩;have y_:=KW pr;have x_:=Km (λx:Str×Str=>!decide (x.1∈gs)) (W.pts.take (i7 W.pts).length);rw[k9] at y_;rw[Kt] at x_;refine⟨⟨s1 _ _ d6,Ke _⟩,λD hD=>⟨d0 (by lia),?_⟩⟩;have sM:=O4 hp s1 hD (u:= .lst out);have fM:=aj s1 hD (u:= .lst out);have UH:=Paired.imp' (λ_ _ z=>PrV.mono (pj (d:=p) (u:= .lst out) hD) z) pr;generalize thaw p (upd H1 D (.lst out))=HM at sM fM UH⊢;rw[Kl (by lia)] at UH;symm;refine X9 (SqL.of fM) UH (d0 (by rw[k9];refine Kw (Km _ _) ?_;lia)) (λpp npp=>?_);have eP:bQ (i7 (W.pts.filter λx=>!decide (x.1∈gs)))=i7 (bf gs W).pts:=aK (aB (N4 nd1));rw[eP];obtain⟨H2,e2,f2,m2,_⟩:=b5 (o:= .dK (i7 (bf gs W).pts)) npp;show O7 _ _ _ (upd HM pp (.dK (i7 (bf gs W).pts))) _;rw[e2];have s2:=sM.trans m2;have W2:=hW.mono s2.le;have RO:=s2 _ _ hq;have L2':=s2.seq hL;symm;refine j9 W2.tup ?_;refine K4 RO (λSl o2=>?_);refine z8 (n:=kvs.length) (λi out H'=>Same (C4 q o2 kvs H2) H'/\Paired (PrV K H') out ((kvs.take i).filter λkv=>!fU gs kv.1)) ⟨Same.refl _,.nil⟩ (λi out H' hi hp=>⟨hp.1 _ _ d6,hi⟩) ?_ ?_
   .rintro N i v out H3 H3' hi ⟨s3,pr3⟩ ⟨t,kv,f_,nt,rfl,rfl⟩ hN';obtain⟨H4,e4,f4,m4,_⟩:=b5 (o:= .tup _) nt;rw[e4];have Ti:=(N9 (o:=o2) RO).trans (s3.trans m4).le;have L4:=Ti.lst L2';obtain⟨x,hx,ex,b,eb,sb⟩:=(W2.ts.mono Ti).get f_;obtain⟨kk,Rw⟩:=kv;have O':kk=Sum.inr x.1:=ex;have Rx:Rw= .ref b:=eb;subst O' Rx;have e7:kvs.take (i+1)=kvs.take i++[(Sum.inr x.1,.ref b)]:=by rw[KI,f_];rfl
    have ZV:=KW pr3;have QU:=Km (λkv:j6×V=>!fU gs kv.1) (kvs.take i);rw[Kt] at QU;refine I0 (SqT.of f4) rfl ?_;symm;refine⟨rfl,?_⟩;symm;refine J2 L4 ?_;symm;refine ib (λhb=>?_) (λhb=>?_)
    .symm;refine⟨d0 (by simp),λt5 n5=>?_⟩;obtain⟨H5,e5,f5,m5,_⟩:=b5 (o:= .tup _) n5;rw[e5];refine⟨d0 (by lia),hN' _ _ ⟨s3.trans (m4.trans m5),?_⟩⟩;rw[e7,KP,KR (p:=λkv:j6×V=>!fU gs kv.1) (by show(!decide (x.1∈gs))=true;rw[hb];rfl),Lp];exact B9 (Paired.imp' (λ_ _ z=>PrV.mono (m4.trans m5).le z) pr3) ⟨t5,rfl,SqT.of f5⟩
    .refine hN' _ _ ⟨s3.trans m4,?_⟩;rw[e7,KP,Ld (p:=λkv:j6×V=>!fU gs kv.1) (by show ¬(!decide (x.1∈gs))=true;rw[hb];simp),Lp,Lb];exact Paired.imp' (λ_ _ z=>PrV.mono m4.le z) pr3
   .rintro To H3 ⟨s3,pr3⟩;have ZV:=KW pr3;have QU:=Km (λkv:j6×V=>!fU gs kv.1) (kvs.take kvs.length);rw[Kt] at QU;refine⟨⟨s3 _ _ d6,Ke _⟩,λD3 hD3=>⟨d0 (by lia),?_⟩⟩;have ZW:=O4 RO s3 hD3 (u:= .lst To);have fM3:=aj s3 hD3 (u:= .lst To);have UI:=Paired.imp' (λ_ _ z=>PrV.mono (pj (d:=q) (u:= .lst To) hD3) z) pr3;generalize thaw q (upd H3 D3 (.lst To))=HM3 at ZW fM3 UI⊢;rw[Kl (Ke _)] at UI;have Xy:((kvs.filter λkv=>!fU gs kv.1).map (·.1)).Nodup:=N4 Sl;symm;refine X9 (SqL.of fM3) UI (d0 (by refine Kw (Km _ _) ?_;lia)) (λqq nqq=>?_);rw[aK Xy];obtain⟨H4,e4,f4,m4,_⟩:=b5 (o:= .dK (kvs.filter λkv=>!fU gs kv.1)) nqq;show O7 _ _ _ (upd HM3 qq _) _;rw[e4];have s4:=s2.trans (ZW.trans m4);have W4:=hW.mono s4.le;have TT:TiesIs K H4 (kvs.filter λkv=>!fU gs kv.1) (bf gs W).ts:=Z2 (λkv x z=>by rw[z.1];rfl) W4.ts;have WA:=(ZW.trans m4) _ _ f2;generalize hkf:(kvs.filter λkv=>!fU gs kv.1)=kvf at TT f4 Xy;have lkf:kvf.length<=60:=by rw[←hkf];refine Kw (Km _ _) ?_;lia
    have L4:=s4.seq hL;symm;refine A6 (ss:=(bf gs W).ts.map (·.1)) (.inl f4) (by rw[TT.keys,B6]) (by rw[Kb,←TT.length];lia) (λs1 a1 a2 ls1 n1=>?_);obtain⟨H5,e5,f5,m5,_⟩:=b5 (o:= .lst _) n1;rw[e5];have ndt:((bf gs W).ts.map (·.1)).Nodup:=N4 RD;refine A8 (SqL.of f5) ?_;refine O0 (n:=s1.length) (λi σ H'=>Same H5 H'/\(∃v4,σ=[some (.ref a),some (.ref l),some (.ref pp),some (.ref qq),v4])/\∀n∈s1.take i,∀t:N3,(n,t)∈(bf gs W).ts->(decide (t.2.1∈gs)||decide (t.2.2∈gs))=false) ⟨Same.refl _,⟨_,rfl⟩,by simp⟩ (λi σ H' hi hp=>⟨_,.str (s1[i]),SqL.of (hp.1 _ _ f5),by rw[Kh,Kc hi];rfl⟩) ?_ ?_
    .rintro i v σ H6' H6 hi ⟨s6,⟨v4,rfl⟩,ha⟩ y _ _;obtain⟨rfl,hx⟩:=Itl.get y (SqL.of (s6 _ _ f5));rw[Kh] at hx;obtain⟨nm,h_,rfl⟩:=KN.mp hx;have Ro:=a1.mem_iff.mp (Kr h_);obtain⟨⟨Vr,tt⟩,m_,rfl⟩:=Kd.mp Ro;have Vs:=m5.trans s6;obtain⟨c,ev,sc⟩:=dQ (TT.mono Vs.le) ndt m_;have L6:=Vs.seq L4;have F6:Rd H6 qq (.dK kvf):= .inl (Vs _ _ f4);have loud:(decide (tt.2.1∈gs)||decide (tt.2.2∈gs))=true->∀e,H6 e=none->E (.ref (cA K "Loose")) (some e) H6:=λhb e he=>by
      have hl:oG gs W=true:=LQ.mpr ⟨_,m_,hb⟩;rw[if_pos hl] at k;exact k H6 e (s4.trans Vs) he
     have hlen1:Vr.length<=100:=Vg _ (Kp.mp m_).1;have hlen2:(" is not taken out, but an end of it is":Str).length<=100:=by decide+kernel
     symm;refine z0 (v:= .ref c) (by have z':=K1 (k:=Sum.inr Vr) F6;rw[ev] at z';exact z') ?_;symm;refine j9 sc ?_;symm;refine aS L6 ?_;symm;refine M9 (λh1=>?_) (λh1=>?_)
     .symm;refine⟨Vr,rfl,by lia,λz=>?_⟩;symm;walk_at "X";exact⟨d0 (by simp),loud (by rw[KA h1];rfl)⟩
     .symm;refine z0 (v:= .ref c) (by have z':=K1 (k:=Sum.inr Vr) F6;rw[ev] at z';exact z') ?_;symm;refine cw sc ?_;symm;refine aS L6 ?_;symm;refine M9 (λh2=>?_) (λh2=>?_)
      .symm;refine⟨Vr,rfl,by lia,λz=>?_⟩;symm;walk_at "X";exact⟨d0 (by simp),loud (by rw[KA h2,Bool.or_true])⟩
      .symm;refine⟨s6,⟨_,rfl⟩,λn hn t ht=>?_⟩;rw[KI,h_] at hn;rcases Kg.mp hn with h'|h'
       .exact ha n h' t ht
       .have SU:n=Vr:=by simpa using h'
        subst SU;rw[A5 ndt ht m_,KQ h1,KQ h2];rfl
    .rintro σ H6 ⟨s6,⟨v4,rfl⟩,ha⟩;refine⟨⟨_,SqL.of (s6 _ _ f5),by rw[Kb];exact Ke _⟩,?_⟩;rw[Kl (Ke _)] at ha;have hl:¬oG gs W=true:=λz=>by
      obtain⟨x,hx,hb⟩:=LQ.mp z;rw[ha x.1 (a1.mem_iff.mpr (Kd.mpr ⟨x,hx,rfl⟩)) x.2 hx] at hb;cases hb
     rw[if_neg hl] at k;have Vs:=m5.trans s6;symm;refine⟨d0 (by simp),λt9 n9=>?_⟩;obtain⟨H9,e9,f9,m9,_⟩:=b5 (o:= .tup _) n9;rw[e9];have Xz:=Vs.trans m9;symm;exact⟨t9,pp,qq,kvf,bf gs W,rfl,⟨SqT.of f9,.inl (Xz _ _ WA),.inl (Xz _ _ f4),TT.mono Xz.le⟩,N4 nd1,ndt,Kw (Km _ _) l1,Kw (Km _ _) l2,NewP.mono (s4.trans Xz) k⟩
def uK (K:Qc):Sp:=λvs H Q _=>∃(a p q d:Addr) (kvs:List (j6×V)) (W:C9) (kvm:List (j6×V)),vs=[.ref a,.ref d]/\WebAt K H a p q kvs W/\(b7 W).length<=60/\Rd H d (.dK kvm)/\(∀n∈b7 W,TxtAt kvm n)/\∀(l:Addr) (H':Hp) (s1 s2:List Str),H l=none->Same H H'->H' l=some (.lst (((s1++s2).map (j4 kvm)).map V.str))->Ordr W s1 s2->Q (.ref l) H'
abbrev Au:=λP w K mg base=>U0 P w K mg base F0 2 "line" ["piece","match"] [] (uK K)
def Co {f fd}(T:Txt K mg)(C0:V5 P w K mg base)(F:Fun K "line" "line" tJ f fd):C5 P w K mg base F0 2 f fd ["piece","match"] (uK K):=by
 walk_at "#sc_line"
 .obtain⟨a,p,q,d,kvs,W,kvm,rfl,_⟩:=h;rfl
 .obtain⟨a,p,q,d,kvs,W,kvm,rfl,hW,hl,hD,hT,k⟩:=h;walk_at "@sc_line 8wname;1;r5>60h0kname,match;Dd100";symm;refine⟨a,p,q,kvs,W,rfl,hW,hl,λl1 H1 s1 s2 n1 m1 f1 or=>?_⟩;have hlen:=or.len;refine A8 (SqL.of f1) ?_;refine z8 (n:=(s1++s2).length) (λi out H'=>Same H1 H'/\out=((s1++s2).take i).map λn=>V.str (j4 kvm n)) ⟨Same.refl _,rfl⟩ (λi out H' hi hp=>⟨_,.str ((s1++s2)[i]),SqL.of (hp.1 _ _ f1),by rw[Kh,Kc hi];rfl⟩) ?_ ?_
  .rintro N i v out H2 H3 hi ⟨s3,rfl⟩ y hN';obtain⟨rfl,hx⟩:=Itl.get y (SqL.of (s3 _ _ f1));rw[Kh,Kc hi] at hx;cases hx;symm;refine⟨rfl,?_⟩;symm;refine wK ((m1.trans s3).rd hD) (hT _ (or.mem.mp (KS hi))) ?_;refine⟨d0 (by rw[Kb,Kt];lia),hN' _ _ ⟨s3,?_⟩⟩;exact K3 (λn:Str=>V.str (j4 kvm n)) (Kc hi)
  .rintro out H2 ⟨s3,rfl⟩;refine⟨⟨_,SqL.of (s3 _ _ f1),by rw[Kb];exact Ke _⟩,λD hD'=>⟨d0 (by rw[Kb,Kt];lia),?_⟩⟩;rw[Kl (Ke _)];obtain⟨H3,e3,f3,m3,_⟩:=b5 (o:= .lst ((s1++s2).map λn=>V.str (j4 kvm n))) hD';refine k D _ s1 s2 ((m1.trans s3).free hD') ?_ ?_ or
   .show Same _ (upd _ D _);rw[e3];exact m1.trans (s3.trans m3)
   .show upd _ D _ D=_;rw[d6,Lf];rfl
open Classical in
noncomputable def tR (P W:C9)(kvm:List (j6×V)):Bool:=decide (FitP P W kvm)
open Classical in
def iQ {P W:C9}{kvm:List (j6×V)}(h:¬FitP P W kvm):tR P W kvm=false:=by unfold tR;exact KQ h
open Classical in
def uY {P W:C9}{kvm:List (j6×V)}(h:FitP P W kvm):tR P W kvm=true:=by unfold tR;exact KA h
def IZ (K:Qc)(H:Hp)(mv:V)(P W:C9)(b:Bool):Prop:=∃d kvm,mv= .ref d/\H d=some (.dK kvm)/\(kvm.map (·.1)).Nodup/\kvm.length<=100/\(∀kv∈kvm,∃t,TyB K H kv.2 t)/\b=tR P W kvm
def AH (kvm:List (j6×V))(n:Str):Bool:=match A4 kvm (Sum.inr n:j6) with
 |some (.str _)=>true
 |_=>false
def txB_iff {kvm:List (j6×V)}{n:Str}:AH kvm n=true↔TxtAt kvm n:=by
 unfold AH TxtAt;constructor
 .intro h;split at h
  .next s e=>exact⟨s,e⟩
  .cases h
 .rintro⟨s,e⟩;rw[e]
def Dd {H:Hp}{v:V}{t:String}(h:TyB K H v t):pO t "str"=(match v with| .str _=>true|_=>false):=by
 cases v with
 |non=>cases h;rfl
 |bl _=>cases h;rfl
 |int _=>cases h;rfl
 |str _=>cases h;rfl
 |ref a=>rcases h with⟨rfl,_⟩|⟨rfl,_⟩|⟨rfl,_⟩<;>rfl
 |_=>exact h.elim
def Fv {H:Hp}{kvm:List (j6×V)}(h:∀kv∈kvm,∃t,TyB K H kv.2 t)(n:Str):∃t,TyB K H ((A4 kvm (Sum.inr n:j6)).getD .non) t/\pO t "str"=AH kvm n:=by
 unfold AH;cases e:A4 kvm (Sum.inr n:j6) with
 |none=>exact⟨"NoneType",rfl,rfl⟩
 |some v=>
  obtain⟨t,ht⟩:=h _ (oP e)
  refine⟨t,ht,?_⟩
  rw[Dd (v:=v) ht]
  cases v<;>rfl
def jn (K:Qc):Sp:=λvs H Q _=>∃(a p q a' p' q':Addr) (kvs d_:List (j6×V)) (Pc W:C9) (mv:V) (b:Bool),vs=[.ref a,.ref a',mv]/\WebIs 24 K H a p q kvs Pc/\WebIs 24 K H a' p' q' d_ W/\IZ K H mv Pc W b/\∀H',Same H H'->Q (.bl b) H'
abbrev mr:=λP w K mg base=>U0 P w K mg base F0 3 "is_match" ["piece","web","match"] [] (jn K)
def rK {f fd}(T:Txt K mg)(C0:V5 P w K mg base)(tZ:Au P w K mg base)(F5:Z3 P w K mg base)(F:Fun K "is_match" "is_match" fF f fd):C5 P w K mg base F0 3 f fd ["piece","web","match"] (jn K):=by
 walk_at "#sc_is_match"
 .obtain⟨a,p,q,a',p',q',kvs,d_,Pc,W,mv,b,rfl,_⟩:=h;rfl
 .obtain⟨a,p,q,a',p',q',kvs,d_,Pc,W,mv,b,rfl,hP,hW,hM,k⟩:=h;have hPl:=hP.len;walk_at "@sc_is_match 435>60bnIZTC^][723@~m~6~l-a(p62p63j8WbnTC~2~1~03wname;2;r03h0kname,match;DC^][g~k0100@~u'0T.b_str ~t8Wbna(p3#'2GZ &O'0T.b_set ~x5'0tZ i02p63j8WbnTC~2~1~03wname,kind;21;+10xc0kname,kind,match,web;c1kname,kind,match,web;yDEN~k13d20001j8W8C~2~1~03wname,tie;21;+10xc0kname,tie,match,web;c1kname,tie,match,web;yDEN~k13d2005'0F5 i12j"
  symm;refine⟨a,p,q,kvs,Pc,rfl,hP.at_,by lia,λln H1 s1 s2 n1 m1 f1 or=>?_⟩;have hlen:=or.len;symm;obtain⟨d,kvm,rfl,hD0,WC,Xi,SY,rfl⟩:=hM;have hD:Rd H d (.dK kvm):= .inl hD0;have D1:=m1.rd hD;refine iY (jo (t:="dict") (.inr (.inr ⟨rfl,_,D1⟩)) (by simp) ?_);rw[Ee];symm;refine F2 (bG D1 ?_);symm;refine F2 (u9 (SqL.of f1) ?_);rw[Kb,hlen];symm;refine O6 (λhz=>?_) (λhz=>?_)
  .symm;rw[←iQ (P:=Pc) (W:=W) (kvm:=kvm) (λz=>hz (by rw[z.len]))];exact k _ m1
  have Tg:kvm.length=(b7 Pc).length:=Int.ofNat_inj.mp hz;symm;refine A8 (SqL.of f1) ?_;refine z8 (n:=(s1++s2).length) (λi out H'=>Same H1 H'/\out=((s1++s2).take i).map λn=>V.bl (AH kvm n)) ⟨Same.refl _,rfl⟩ (λi out H' hi hp=>⟨_,.str ((s1++s2)[i]),SqL.of (hp.1 _ _ f1),by rw[Kh,Kc hi];rfl⟩) ?_ ?_
  .rintro N i v out H2 H3 hi ⟨s3,rfl⟩ y hN';obtain⟨rfl,hx⟩:=Itl.get y (SqL.of (s3 _ _ f1));rw[Kh,Kc hi] at hx;cases hx;symm;refine⟨rfl,?_⟩;symm;refine⟨d,rfl,.inl ⟨_,s3.rd D1⟩,?_⟩;symm;refine⟨_,K1 (k:=Sum.inr (s1++s2)[i]) (s3.rd D1),?_⟩;obtain⟨t,ht,e⟩:=Fv (K:=K) SY (s1++s2)[i];symm;refine iY (jo (ht.mono (m1.trans s3)) (by simp) ?_);rw[e];refine⟨d0 (by rw[Kb,Kt];lia),hN' _ _ ⟨s3,?_⟩⟩;exact K3 (λn:Str=>V.bl (AH kvm n)) (Kc hi)
  .rintro out H2 ⟨s3,rfl⟩;refine⟨⟨_,SqL.of (s3 _ _ f1),by rw[Kb];exact Ke _⟩,λD hD'=>⟨d0 (by rw[Kb,Kt];lia),?_⟩⟩;rw[Kl (Ke _)];have e9:((s1++s2).map λn=>V.bl (AH kvm n))=((s1++s2).map (AH kvm)).map V.bl:=by rw[Lf];rfl
   rw[e9];obtain⟨H3,e3,f3,m3,_⟩:=b5 (o:= .lst (((s1++s2).map (AH kvm)).map V.bl)) hD';have m4:=m1.trans (s3.trans m3);have f4:=m3 _ _ (s3 _ _ f1);symm;change xm K _ (upd H2 D _) _;rw[e3];refine oi (SqL.of f3) ?_;symm;refine ib (λhb=>?_) (λhb=>?_)
   .symm;rw[←iQ (P:=Pc) (W:=W) (kvm:=kvm) (λz=>?_)]
    .exact k _ m4
    .have:((s1++s2).map (AH kvm)).all id=true:=by
      rw[Mt,KZ];exact λn hn=>txB_iff.mpr (z.txt n (or.mem.mp hn))
     rw[this] at hb;cases hb
   have hT:∀n∈b7 Pc,TxtAt kvm n:=λn hn=>by
    rw[Mt,KZ] at hb;exact txB_iff.mp (hb n (or.mem.mpr hn))
   symm;refine⟨a,p,q,d,kvs,Pc,kvm,rfl,hP.at_.mono m4.le,by lia,m4.rd hD,hT,λl5 H5 r1 r2 n5 m5 f5 or5=>?_⟩;have WD:=or5.len;symm;refine⟨l5,_,rfl,SqL.of f5,by rw[Kb];lia,λl6 n6=>?_⟩;obtain⟨H6,e6,f6,m6,_⟩:=b5 (o:= .ext (dF l6 (iN ((r1++r2).map (j4 kvm))).length)) n6;rw[e6];symm;have UJ:(iN ((r1++r2).map (j4 kvm))).length<=1000:=by
    have z:=kC ((r1++r2).map (j4 kvm)) [];rw[Kb] at z;unfold iN;simp only[NU] at z;lia
   refine nJ f6 UJ ?_;symm;refine F2 (u9 (SqL.of (m6 _ _ (m5 _ _ f4))) ?_);rw[Kb,hlen];symm;have m7:=m4.trans (m5.trans m6);have WE:(iN ((r1++r2).map (j4 kvm))).length=(b7 Pc).length↔((b7 Pc).map (j4 kvm)).Nodup:=by
    have z:=qt ((r1++r2).map (j4 kvm));rw[Kb,WD] at z;rw[z];exact(or5.perm.map _).nodup_iff
   refine O6 (λXA=>?_) (λXA=>?_)
   .symm;rw[←iQ (P:=Pc) (W:=W) (kvm:=kvm) (λz=>XA (by rw[WE.mpr z.nd]))];exact k _ m7
   have SK:=WE.mp (Int.ofNat_inj.mp XA);clear XA;have D7:=m7.rd hD;have ZX:=m7 _ _ hP.hp;have P7:=hP.same m7;have W7:=hW.same m7;have ZY:=k9 Pc.pts;have Qv:=hP.at_.ts.length;rw[C3] at hPl;symm;refine u4 P7.at_.tup ?_;refine K4 ZX (λUu o8=>?_);refine z8 (n:=(i7 Pc.pts).length) (λi out H'=>Same (C4 p o8 (i7 Pc.pts) H6) H'/\out=(Pc.pts.take i).map λx=>V.bl (decide ((j4 kvm x.1,x.2)∈W.pts))) ⟨Same.refl _,rfl⟩ (λi out H' hi hp=>⟨hp.1 _ _ d6,hi⟩) ?_ ?_
   .rintro N i v out H8' H8 hi ⟨s8,rfl⟩ ⟨t,kv,f_,nt,rfl,rfl⟩ hN';obtain⟨x,hx,rfl⟩:=az f_;obtain⟨H9,e9,f9,m9,_⟩:=b5 (o:= .tup _) nt;rw[e9];have Vt:=(N9 (o:=o8) ZX).trans (s8.trans m9).le;have W9:=W7.at_.mono Vt;have D9:=Vt.dic D7;refine I0 (SqT.of f9) rfl ?_;symm;refine⟨rfl,?_⟩;symm;refine u4 W9.tup ?_;refine⟨p',rfl,.inl ⟨_,W9.pts⟩,?_⟩;symm;refine wK D9 (hT _ (Kf _ (Kd.mpr ⟨x,Kr hx,rfl⟩))) ?_;refine⟨_,K1 (k:=Sum.inr (j4 kvm x.1)) W9.pts,?_⟩;symm;refine HU (E5 W7.nd) ?_;refine⟨d0 (by rw[Kb,Kt];lia),hN' _ _ ⟨s8.trans m9,?_⟩⟩;exact K3 (λx:Str×Str=>V.bl (decide ((j4 kvm x.1,x.2)∈W.pts))) hx
   .rintro out H8 ⟨s8,rfl⟩;refine⟨⟨s8 _ _ d6,Ke _⟩,λD8 hD8=>⟨d0 (by rw[Kb,Kt];lia),?_⟩⟩;rw[ZY,Kl (Ke _)];have RN:(Pc.pts.map λx=>V.bl (decide ((j4 kvm x.1,x.2)∈W.pts)))=(Pc.pts.map λx=>decide ((j4 kvm x.1,x.2)∈W.pts)).map V.bl:=by rw[Lf];rfl
    rw[RN];have sM:=O4 ZX s8 hD8 (u:= .lst ((Pc.pts.map λx=>decide ((j4 kvm x.1,x.2)∈W.pts)).map V.bl));have fM:=aj s8 hD8 (u:= .lst ((Pc.pts.map λx=>decide ((j4 kvm x.1,x.2)∈W.pts)).map V.bl));generalize thaw p (upd H8 D8 (.lst ((Pc.pts.map λx=>decide ((j4 kvm x.1,x.2)∈W.pts)).map V.bl)))=HM at sM fM⊢;symm;refine oi (SqL.of fM) ?_;symm;have mM:=m7.trans sM;refine ib (λQB=>?_) (λQB=>?_)
    .symm;rw[←iQ (P:=Pc) (W:=W) (kvm:=kvm) (λz=>?_)]
     .exact k _ mM
     .have:(Pc.pts.map λx=>decide ((j4 kvm x.1,x.2)∈W.pts)).all id=true:=by
       rw[Mt,KZ];exact λx hx=>KA (z.pts x hx)
      rw[this] at QB;cases QB
    have ZZ:∀x∈Pc.pts,(j4 kvm x.1,x.2)∈W.pts:=λx hx=>by
     rw[Mt,KZ] at QB;exact Ly (QB x hx)
    have DM:=mM.rd hD;have PM:=hP.same mM;have WM:=hW.same mM;have Z_:=PM.hq;symm;refine j9 PM.at_.tup ?_;refine K4 Z_ (λSl o10=>?_);refine z8 (n:=kvs.length) (λi out H'=>Same (C4 q o10 kvs HM) H'/\out=(Pc.ts.take i).map λx=>V.bl (decide ((j4 kvm x.1,(x.2.1,j4 kvm x.2.2.1,j4 kvm x.2.2.2))∈W.ts))) ⟨Same.refl _,rfl⟩ (λi out H' hi hp=>⟨hp.1 _ _ d6,hi⟩) ?_ ?_
    .rintro N i v out H11' TQ hi ⟨TU,rfl⟩ ⟨t,kv,f_,nt,rfl,rfl⟩ hN';obtain⟨Vm,TY,Wv,H_,_⟩:=b5 (o:= .tup _) nt;rw[TY];have UK:=(N9 (o:=o10) Z_).trans (TU.trans H_).le;have RP:=WM.at_.mono UK;have D12:=UK.dic DM;obtain⟨x,hx,ex,bb,eb,sb⟩:=(PM.at_.ts.mono UK).get f_;obtain⟨kk,Rw⟩:=kv;have O':kk=Sum.inr x.1:=ex;have Rx:Rw= .ref bb:=eb;subst O' Rx;have D_:=Kr hx;have TN:=hP.ends x D_;refine I0 (SqT.of Wv) rfl ?_;symm;refine⟨rfl,?_⟩;symm;refine j9 RP.tup ?_;refine⟨q',rfl,.inl ⟨_,RP.ties⟩,?_⟩;symm;refine wK D12 (hT _ (Kk _ (Kd.mpr ⟨x,D_,rfl⟩))) ?_;refine⟨_,K1 (k:=Sum.inr (j4 kvm x.1)) RP.ties,?_⟩;symm;refine⟨bb,d,x.2,kvm,rfl,sb,D12,hT _ (Kf _ TN.1),hT _ (Kf _ TN.2),λZH Xu n13 C_ UD=>?_⟩;refine DY (RP.mono C_.le).ts (O8 hW.nd) (SqT.of UD) ?_;refine⟨d0 (by rw[Kb,Kt];lia),hN' _ _ ⟨TU.trans (H_.trans C_),?_⟩⟩;exact K3 (λx:Str×N3=>V.bl (decide ((j4 kvm x.1,(x.2.1,j4 kvm x.2.2.1,j4 kvm x.2.2.2))∈W.ts))) hx
    .rintro out TQ ⟨TU,rfl⟩;refine⟨⟨TU _ _ d6,Ke _⟩,λD11 hD11=>⟨d0 (by rw[Kb,Kt];lia),?_⟩⟩;rw[Qv,Kl (Ke _)];have Ws:(Pc.ts.map λx=>V.bl (decide ((j4 kvm x.1,(x.2.1,j4 kvm x.2.2.1,j4 kvm x.2.2.2))∈W.ts)))=(Pc.ts.map λx=>decide ((j4 kvm x.1,(x.2.1,j4 kvm x.2.2.1,j4 kvm x.2.2.2))∈W.ts)).map V.bl:=by rw[Lf];rfl
     rw[Ws];generalize RE:(Pc.ts.map λx=>decide ((j4 kvm x.1,(x.2.1,j4 kvm x.2.2.1,j4 kvm x.2.2.2))∈W.ts))=bs;have sN:=O4 Z_ TU hD11 (u:= .lst (bs.map V.bl));have fN:=aj TU hD11 (u:= .lst (bs.map V.bl));generalize thaw q (upd TQ D11 (.lst (bs.map V.bl)))=HN at sN fN⊢;symm;refine oi (SqL.of fN) ?_;have eF:bs.all id=tR Pc W kvm:=by
      rw[←RE];cases hc:(Pc.ts.map λx=>decide ((j4 kvm x.1,(x.2.1,j4 kvm x.2.2.1,j4 kvm x.2.2.2))∈W.ts)).all id with
      |true=>
       rw[Mt,KZ] at hc
       exact(uY ⟨Tg,hT,SK,ZZ,λx hx=>Ly (hc x hx)⟩).symm
      |false=>
       refine(iQ λz=>?_).symm
       have:(Pc.ts.map λx=>decide ((j4 kvm x.1,(x.2.1,j4 kvm x.2.2.1,j4 kvm x.2.2.2))∈W.ts)).all id=true:=by
        rw[Mt,KZ];exact λx hx=>KA (z.ts x hx)
       rw[this] at hc;cases hc
     rw[eF];exact k _ (mM.trans sN)
def Z9 (f:Str->Str)(W:C9):C9:=⟨W.pts.map λx=>(f x.1,x.2),W.ts.map λx=>(f x.1,(x.2.1,f x.2.2.1,f x.2.2.2))⟩
def kN (K:Qc):Sp:=λvs H Q _=>∃(a d p q:Addr) (kvs nm:List (j6×V)) (W:C9) (f:Str->Str),vs=[.ref a,.ref d]/\WebAt K H a p q kvs W/\H p=some (.dK (i7 W.pts))/\H q=some (.dK kvs)/\Rd H d (.dK nm)/\f=j4 nm/\(∀n∈b7 W,TxtAt nm n)/\((b7 W).map f).Nodup/\(b7 W).length<=60/\
 (∀x∈W.ts,x.2.2.1∈W.pts.map (·.1)/\x.2.2.2∈W.pts.map (·.1))/\NewP K H Q (Z9 f W)
abbrev mX:=λP w K mg base=>U0 P w K mg base F0 3 "renamed" ["web","names"] [] (kN K)
def uC {f fd}(T:Txt K mg)(F5:Z3 P w K mg base)(W5:fR P w K mg base)(F:Fun K "renamed" "renamed" iu f fd):C5 P w K mg base F0 3 f fd ["web","names"] (kN K):=by
 walk_at "#sc_renamed"
 .obtain⟨a,d,p,q,kvs,nm,W,f,rfl,_⟩:=h;rfl
 .obtain⟨a,d,p,q,kvs,nm,W,f,rfl,hW,hp,hq,hd,rfl,hT,SK,hl,hE,k⟩:=h;have hf:∀n∈b7 W,A4 nm (Sum.inr n:j6)=some (.str (j4 nm n)):=λn hn=>(hT n hn).at_;have hln:W.pts.length+W.ts.length<=60:=by unfold b7 at hl;rw[Kj,Kb,Kb] at hl;exact hl
  have hf1:∀x∈W.pts,A4 nm (Sum.inr x.1:j6)=some (.str (j4 nm x.1)):=λx hx=>hf _ (Kf _ (Kd.mpr ⟨x,hx,rfl⟩));have hf2:∀x∈W.ts,A4 nm (Sum.inr x.1:j6)=some (.str (j4 nm x.1)):=λx hx=>hf _ (Kk _ (Kd.mpr ⟨x,hx,rfl⟩));have nd1:((Z9 (j4 nm) W).pts.map (·.1)).Nodup:=by
   unfold b7 at SK;rw[Ki] at SK;have z:=(Ks.mp SK).1;unfold Z9;rw[Lf] at z⊢;exact z
  have RD:((Z9 (j4 nm) W).ts.map (·.1)).Nodup:=by
   unfold b7 at SK;rw[Ki] at SK;have z:=(Ks.mp SK).2.1;unfold Z9;rw[Lf] at z⊢;exact z
  have Q_:=k9 W.pts;have Qv:=hW.ts.length;walk_at "@sc_renamed 42K3wname,kind;1;+10xc0kname,kind,names;c1kname,kind,names;yDmsd2006143K3wname,tie;1;+10xc0kname,tie,names;c1kname,tie,names;yDmgd2005'0F5 i1285'0W5 3mi23"
  symm;refine u4 hW.tup ?_;refine K4 hp (λUu o1=>?_);refine z8 (n:=(i7 W.pts).length) (λi out H'=>Same (C4 p o1 (i7 W.pts) H) H'/\Paired (PrV K H') out (i7 ((W.pts.take i).map λx=>(j4 nm x.1,x.2)))) ⟨Same.refl _,.nil⟩ (λi out H' hi hp=>⟨hp.1 _ _ d6,hi⟩) ?_ ?_
  .rintro N i v out H1 H2 hi ⟨s1,pr⟩ ⟨t,kv,f_,nt,rfl,rfl⟩ hN';obtain⟨x,hx,rfl⟩:=az f_;obtain⟨H3,e3,f3,m3,_⟩:=b5 (o:= .tup _) nt;rw[e3];have d3:=((N9 (o:=o1) hp).trans (s1.trans m3).le).dic hd;have e7:W.pts.take (i+1)=W.pts.take i++[x]:=by rw[KI,hx];rfl
   refine I0 (SqT.of f3) rfl ?_;symm;refine⟨rfl,?_⟩;symm;refine z0 (v:= .str (j4 nm x.1)) (by have z':=K1 (k:=Sum.inr x.1) d3;rw[hf1 x (Kr hx)] at z';exact z') ?_;symm;refine⟨d0 (by simp),λt4 n4=>?_⟩;obtain⟨H4,e4,f4,m4,_⟩:=b5 (o:= .tup _) n4;rw[e4];have y_:=KW pr;rw[k9,Kb,Kt] at y_;refine⟨d0 (by lia),hN' _ _ ⟨s1.trans (m3.trans m4),?_⟩⟩;rw[e7,Ki];unfold i7 at pr⊢;rw[Ki];exact B9 (Paired.imp' (λ_ _ z=>PrV.mono (m3.trans m4).le z) pr) ⟨t4,rfl,SqT.of f4⟩
  .rintro out H1 ⟨s1,pr⟩;have y_:=KW pr;rw[k9,Kb,Kt] at y_;refine⟨⟨s1 _ _ d6,Ke _⟩,λD hD=>⟨d0 (by lia),?_⟩⟩;have sM:=O4 hp s1 hD (u:= .lst out);have fM:=aj s1 hD (u:= .lst out);have UH:=Paired.imp' (λ_ _ z=>PrV.mono (pj (d:=p) (u:= .lst out) hD) z) pr;generalize thaw p (upd H1 D (.lst out))=HM at sM fM UH⊢;rw[Kl (by lia)] at UH;symm;refine X9 (SqL.of fM) UH (d0 (by rw[k9,Kb];lia)) (λpp npp=>?_);have eP:bQ (i7 (W.pts.map λx=>(j4 nm x.1,x.2)))=i7 (Z9 (j4 nm) W).pts:=aK (aB nd1);rw[eP];obtain⟨H2,e2,f2,m2,_⟩:=b5 (o:= .dK (i7 (Z9 (j4 nm) W).pts)) npp;show O7 _ _ _ (upd HM pp (.dK (i7 (Z9 (j4 nm) W).pts))) _;rw[e2];have s2:=sM.trans m2;have W2:=hW.mono s2.le;have RO:=s2 _ _ hq;symm;refine j9 W2.tup ?_;refine K4 RO (λSl o2=>?_);refine z8 (n:=kvs.length) (λi out H'=>Same (C4 q o2 kvs H2) H'/\∃ks2,Paired (PrV K H') out ks2/\TiesIs K H' ks2 ((W.ts.take i).map λx=>(j4 nm x.1,(x.2.1,j4 nm x.2.2.1,j4 nm x.2.2.2)))) ⟨Same.refl _,[],.nil,.nil⟩ (λi out H' hi hp=>⟨hp.1 _ _ d6,hi⟩) ?_ ?_
   .rintro N i v out H3 H3' hi ⟨s3,ks2,pr3,ti3⟩ ⟨t,kv,f_,nt,rfl,rfl⟩ hN';obtain⟨H4,e4,f4,m4,_⟩:=b5 (o:= .tup _) nt;rw[e4];have Ti:=(N9 (o:=o2) RO).trans (s3.trans m4).le;have d4:=Ti.dic (s2.rd hd);obtain⟨x,hx,ex,b,eb,sb⟩:=(W2.ts.mono Ti).get f_;have D_:x∈W.ts:=Kr hx;have e7:W.ts.take (i+1)=W.ts.take i++[x]:=by rw[KI,hx];rfl
    refine I0 (SqT.of f4) rfl ?_;rw[ex,eb];symm;refine⟨rfl,?_⟩;symm;refine z0 (v:= .str (j4 nm x.1)) (by have z':=K1 (k:=Sum.inr x.1) d4;rw[hf2 x D_] at z';exact z') ?_;symm;refine⟨b,d,x.2,nm,rfl,sb,d4,hT _ (Kf _ (hE x D_).1),hT _ (Kf _ (hE x D_).2),λt5 H5 n5 m5 f5=>?_⟩;symm;refine⟨d0 (by simp),λt6 n6=>?_⟩;obtain⟨H6,e6,f6,m6,_⟩:=b5 (o:= .tup _) n6;rw[e6];have y_:=KW pr3;have UL:=ti3.length;rw[Kb,Kt] at UL;have mA:=m4.trans (m5.trans m6);refine⟨d0 (by lia),hN' _ _ ⟨s3.trans mA,ks2++[((Sum.inr (j4 nm x.1):j6),V.ref t5)],B9 (Paired.imp' (λ_ _ z=>PrV.mono mA.le z) pr3) (show PrV K H6 (.ref t6) ((Sum.inr (j4 nm x.1):j6),V.ref t5) from⟨t6,rfl,SqT.of f6⟩),?_⟩⟩;rw[e7,Ki];exact B9 (ti3.mono mA.le) ⟨rfl,t5,rfl,SqT.of (m6 _ _ f5)⟩
   .rintro out H3 ⟨s3,ks2,pr3,ti3⟩;have y_:=KW pr3;have UL:=ti3.length;rw[Kb,Kt] at UL;refine⟨⟨s3 _ _ d6,Ke _⟩,λD' hD'=>⟨d0 (by lia),?_⟩⟩;have sN:=O4 RO s3 hD' (u:= .lst out);have fN:=aj s3 hD' (u:= .lst out);have leN:=pj (d:=q) (u:= .lst out) hD';have prN:=Paired.imp' (λ_ _ z=>PrV.mono leN z) pr3;have XC:=ti3.mono leN;generalize thaw q (upd H3 D' (.lst out))=HN at sN fN prN XC⊢;rw[Kl (by lia)] at XC;have Xy:(ks2.map (·.1)).Nodup:=by
     rw[XC.keys,←B6];refine Nc _ ?_ RD;exact λa b h z=>h (LW z)
    symm;refine X9 (SqL.of fN) prN (d0 (by lia)) (λqq nqq=>?_);rw[aK Xy];obtain⟨H5,e5,f5,m5,_⟩:=b5 (o:= .dK ks2) nqq;show O7 _ _ _ (upd HN qq (.dK ks2)) _;rw[e5];symm;refine⟨d0 (by simp),λt9 n9=>?_⟩;obtain⟨H9,e9,f9,m9,_⟩:=b5 (o:= .tup _) n9;rw[e9];symm;have sA:=s2.trans (sN.trans (m5.trans m9));have gp:=m9 _ _ (m5 _ _ (sN _ _ f2));have gq:=m9 _ _ f5;refine⟨t9,pp,qq,ks2,Z9 (j4 nm) W,rfl,⟨SqT.of f9,.inl gp,.inl gq,XC.mono (m5.trans m9).le⟩,nd1,RD,by unfold Z9;rw[Kb];lia,by unfold Z9;rw[Kb];lia,λa' p' q' d_ W' H' sH hW' h1 h2 h3 h4 h5 h6 h7=>k a' p' q' d_ W' H' (sA.trans sH) hW' h1 h2 h3 (sA.free h4) (sA.free h5) h6 h7⟩
def HK (W M:C9):C9:=⟨(W.pts.filter λx=>!decide (x.1∈M.pts.map (·.1)))++M.pts,(W.ts.filter λx=>!decide (x.1∈M.ts.map (·.1)))++M.ts⟩
def vS {k:j6}{v:V}:∀{ka:List (j6×V)},(ka.map (·.1)).Nodup->(E9 ka k v).Perm ((ka.filter λx=>!decide (x.1=k))++[(k,v)]):=by
 have rep:∀{ka:List (j6×V)},(ka.map (·.1)).Nodup->(∃x∈ka,x.1=k)->(ka.map λx=>if x.1=k then(x.1,v) else x).Perm ((ka.filter λx=>!decide (x.1=k))++[(k,v)]):=by
  intro ka;induction ka with
  |nil=>rintro _ ⟨x,h,_⟩;cases h
  |cons p r ih=>
   intro nd hx
   have nd':=LA.mp (show(p.1::r.map (·.1)).Nodup from nd)
   by_cases e:p.1=k
   .have hr:∀x∈r,¬x.1=k:=λx hx z=>nd'.1 (by rw[e,←z];exact Kd.mpr ⟨x,hx,rfl⟩)
    have e1:(r.map λx=>if x.1=k then(x.1,v) else x)=r:=(LB λx hx=>by rw[if_neg (hr x hx)]).trans (NO r)
    have e2:(r.filter λx=>!decide (x.1=k))=r:=Nm.mpr λx hx=>by rw[KQ (hr x hx)];rfl
    rw[Lk,if_pos e,e1,Ld (by simp [e]),e2,e]
    exact Pm (l₁:=[(k,v)]) (l₂:=r)
   .rw[Lk,if_neg e,KR (by simp [e]),MN]
    refine List.Perm.cons _ (ih nd'.2 ?_)
    obtain⟨x,hx,ex⟩:=hx
    rcases Lh.mp hx with z|z
    .exact absurd (z▸ex) e
    .exact⟨x,z,ex⟩
 intro ka nd;cases hv:A4 ka k with
 |none=>
  rw[Q0 v hv,Nm.mpr λx hx=>?_]
  have:x.1≠k:=λz=>by
   have q:=bV nd hx;rw[z,hv] at q;cases q
  simp [this]
 |some y=>
  have hx:∃x∈ka,x.1=k:=⟨_,oP hv,rfl⟩
  unfold E9
  rw[if_pos (by rw[R0,hv];rfl)]
  exact rep nd hx
open Classical in
theorem dq:∀{kb ka:List (j6×V)},(ka.map (·.1)).Nodup->(kb.map (·.1)).Nodup->(R8 ka kb).Perm ((ka.filter λx=>!decide (x.1∈kb.map (·.1)))++kb)
 |[],ka,_,_=>by
  show ka.Perm _;rw[Lb,Nm.mpr λx _=>by simp]
 |p::r,ka,nd,nb=>by
  have nb':=LA.mp (show(p.1::r.map (·.1)).Nodup from nb);have ih:=dq (kb:=r) (ka:=E9 ka p.1 p.2) (Fh nd) nb'.2;refine(show(R8 (E9 ka p.1 p.2) r).Perm _ from ih).trans ?_;have h1:=(vS (k:=p.1) (v:=p.2) nd).filter λx=>!decide (x.1∈r.map (·.1));refine(h1.append_right r).trans ?_;rw[KP,MR,KR (by rw[KQ nb'.1];rfl),Lp,La];have e:(ka.filter λx=>(!decide (x.1∈r.map (·.1))&& !decide (x.1=p.1)))=ka.filter λx=>!decide (x.1∈(p::r).map (·.1)):=NI λx _=>by
   rw[Lg];simp only[KO,Lw,Li,Lk,Lh,not_or];exact And.comm
  rw[e];exact List.Perm.refl _
def nM {A:List (Str×Str)}{B:List Str}{n:Str}:((Sum.inr n:j6)∈B.map (Sum.inr:Str->j6))↔n∈B:=⟨Z4,λh=>Kd.mpr ⟨n,h,rfl⟩⟩
open Classical in
def BW {A B:List (Str×Str)}(na:(A.map (·.1)).Nodup)(nb:(B.map (·.1)).Nodup):∃U,R8 (i7 A) (i7 B)=i7 U/\U.Perm ((A.filter λx=>!decide (x.1∈B.map (·.1)))++B):=by
 have h:=dq (aB na) (aB nb);have pr:Paired (fun(kv:j6×V) (x:Str×Str)=>kv=(Sum.inr x.1,.str x.2)) (((i7 A).filter λx=>!decide (x.1∈(i7 B).map (·.1)))++i7 B) ((A.filter λx=>!decide (x.1∈B.map (·.1)))++B):=by
  refine lH (Z2 (λkv x e=>?_) (cx A)) (cx B);rw[e,E6,←B6];congr 1;rw[Lg,KJ,KJ];exact nM (A:=A)
 obtain⟨U,h1,h2⟩:=aV h pr;exact⟨U,eW h1,h2⟩
open Classical in
def DT {H:Hp}{ka kb:List (j6×V)}{A B:List (Str×N3)}(wa:TiesIs K H ka A)(wb:TiesIs K H kb B)(na:(A.map (·.1)).Nodup)(nb:(B.map (·.1)).Nodup):∃U,TiesIs K H (R8 ka kb) U/\U.Perm ((A.filter λx=>!decide (x.1∈B.map (·.1)))++B):=by
 have h:=dq (uD wa na) (uD wb nb);have pr:Paired (TieAt K H) ((ka.filter λx=>!decide (x.1∈kb.map (·.1)))++kb) ((A.filter λx=>!decide (x.1∈B.map (·.1)))++B):=by
  refine lH (Z2 (λkv x e=>?_) wa) wb;rw[e.1,wb.keys,←B6];congr 1;rw[Lg,KJ,KJ];exact nM (A:=[])
 exact aV h pr
def jP {α:Type}{A B:List (Str×α)}(na:(A.map (·.1)).Nodup)(nb:(B.map (·.1)).Nodup):(((A.filter λx=>!decide (x.1∈B.map (·.1)))++B).map (·.1)).Nodup:=
 Eh (N4 na) nb λn hn hm=>by
  obtain⟨x,hx,rfl⟩:=Kd.mp hm;have z:=(Kp.mp hx).2;rw[KA hn] at z;cases z
def nj (K:Qc):Sp:=λvs H Q _=>∃(a p q b p2 q2:Addr) (kvs M_:List (j6×V)) (W M:C9),vs=[.ref a,.ref b]/\WebAt K H a p q kvs W/\WebAt K H b p2 q2 M_ M/\(W.pts.map (·.1)).Nodup/\(W.ts.map (·.1)).Nodup/\(M.pts.map (·.1)).Nodup/\(M.ts.map (·.1)).Nodup/\W.pts.length+M.pts.length<=60/\W.ts.length+M.ts.length<=60/\NewP K H Q (HK W M)
def NewP.permM {H H1:Hp}{Q:VK}{W W1:C9}(s:Same H H1)(p1:W1.pts.Perm W.pts)(p2:W1.ts.Perm W.ts)(k:NewP K H Q W):NewP K H1 Q W1:=λa p q kvs W' H' s' h1 h2 h3 h4 h5 h6 h7 h8=>k a p q kvs W' H' (s.trans s') h1 h2 h3 h4 (s.free h5) (s.free h6) (h7.trans p1) (h8.trans p2)
abbrev qm:=λP w K mg base=>U0 P w K mg base F0 3 "united" ["web","more"] [] (nj K)
def xK {f fd}(T:Txt K mg)(W5:fR P w K mg base)(F:Fun K "united" "united" kH f fd):C5 P w K mg base F0 3 f fd ["web","more"] (nj K):=by
 walk_at "#sc_united"
 .obtain⟨a,p,q,b,p2,q2,kvs,M_,W,M,rfl,_⟩:=h;rfl
 .obtain⟨a,p,q,b,p2,q2,kvs,M_,W,M,rfl,hW,hM,XD,XE,nm1,nm2,lw1,lw2,k⟩:=h;have Qv:=hW.ts.length;have hkl2:=hM.ts.length;walk_at "@sc_united 42K310bQM%~p~o~n0231143K310bQM%~p~o~n0331185'0W5 3mi23"
  symm;refine u4 hW.tup ?_;symm;refine K6 hW.pts (λpp npp=>?_);obtain⟨H1,e1,f1,m1,_⟩:=b5 (o:= .dK _) npp;rw[e1];have M1:=hM.mono m1.le;symm;refine⟨.inr (.inr (.inl ⟨rfl,.inl ⟨_,f1⟩⟩)),?_⟩;symm;refine u4 M1.tup ?_;symm;have nep:pp≠p2:=λz=>by
   have z2:=hM.pts;rw[←z] at z2;rcases z2 with z2|⟨_,z2⟩<;>(rw[npp] at z2;cases z2)
  refine⟨pp,p2,i7 W.pts,i7 M.pts,rfl,rfl,f1,M1.pts,nep,by rw[k9,k9];lia,?_⟩;obtain⟨UP,eUP,pUP⟩:=BW XD nm1;rw[eUP];have s2:Same H (upd H1 pp (.dK (i7 UP))):=E7 m1 npp;have f2:(upd H1 pp (.dK (i7 UP))) pp=some (.dK (i7 UP)):=d6;generalize upd H1 pp (.dK (i7 UP))=H2 at s2 f2⊢;have W2:=hW.mono s2.le;symm;refine j9 W2.tup ?_;symm;refine K6 W2.ties (λqq nqq=>?_);obtain⟨H3,e3,f3,m3,_⟩:=b5 (o:= .dK _) nqq;rw[e3];have s3:=s2.trans m3;have M3:=hM.mono s3.le;have M2:=hM.mono s2.le;symm;refine⟨.inr (.inr (.inl ⟨rfl,.inl ⟨_,f3⟩⟩)),?_⟩;symm;refine j9 M3.tup ?_;symm;have neq:qq≠q2:=λz=>by
   have z2:=M2.ties;rw[←z] at z2;rcases z2 with z2|⟨_,z2⟩<;>(rw[nqq] at z2;cases z2)
  obtain⟨UT,wUT,pUT⟩:=DT (hW.mono s3.le).ts M3.ts XE nm2;refine⟨qq,q2,kvs,M_,rfl,rfl,f3,M3.ties,neq,by lia,?_⟩;have s4:Same H2 (upd H3 qq (.dK (R8 kvs M_))):=E7 m3 nqq;have f4:(upd H3 qq (.dK (R8 kvs M_))) qq=some (.dK (R8 kvs M_)):=d6;have TT4:TiesIs K (upd H3 qq (.dK (R8 kvs M_))) (R8 kvs M_) UT:=K2 f3 wUT;generalize upd H3 qq (.dK (R8 kvs M_))=H4 at s4 f4 TT4⊢;symm;refine⟨d0 (by simp),λt9 n9=>?_⟩;obtain⟨H9,e9,f9,m9,_⟩:=b5 (o:= .tup _) n9;rw[e9];symm;have Sy:=Km (λx:Str×Str=>!decide (x.1∈M.pts.map (·.1))) W.pts;have hfl2:=Km (λx:Str×N3=>!decide (x.1∈M.ts.map (·.1))) W.ts;refine⟨t9,pp,qq,_,⟨UP,UT⟩,rfl,⟨SqT.of f9,.inl (m9 _ _ (s4 _ _ f2)),.inl (m9 _ _ f4),TT4.mono m9.le⟩,(pUP.map _).nodup_iff.mpr (jP XD nm1),(pUT.map _).nodup_iff.mpr (jP XE nm2),?_,?_,NewP.permM (s2.trans (s4.trans m9)) pUP pUT k⟩
  .show UP.length<=60;rw[pUP.length_eq,Kj];lia
  .show UT.length<=60;rw[pUT.length_eq,Kj];lia
def aT {fr:List (Str×Str)}(nd:(fr.map (·.1)).Nodup){n s:Str}(h:(n,s)∈fr):TxtAt (i7 fr) n/\j4 (i7 fr) n=s:=⟨⟨s,L9 nd h⟩,gu (L9 nd h)⟩
def lO {ss:List Str}{f:Str->Str}(nd:ss.Nodup){n:Str}(h:n∈ss):TxtAt (i7 (ss.map λn=>(n,f n))) n/\j4 (i7 (ss.map λn=>(n,f n))) n=f n:=
 aT (by rw[Lf];exact(NO ss).symm▸nd) (Kd.mpr ⟨n,h,rfl⟩)
def nA (K:Qc):Sp:=λvs H Q _=>∃(d l:Addr) (kvs:List (j6×V)) (ss:List Str),vs=[.ref d,.ref l]/\Rd H d (.dK kvs)/\SqL K H l (ss.map V.str)/\ss.Nodup/\ss.length<=60/\(∀n∈ss,TxtAt kvs n)/\∀(d':Addr) (H':Hp),H d'=none->Same H H'->H' d'=some (.dK (i7 (ss.map λn=>(n,j4 kvs n))))->Q (.ref d') H'
abbrev ql:=λP w K mg base=>U0 P w K mg base F0 1 "picked" ["put","names"] [] (nA K)
def wu {f fd}(T:Txt K mg)(F:Fun K "picked" "picked" kP f fd):C5 P w K mg base F0 1 f fd ["put","names"] (nA K):=by
 walk_at "#sc_picked"
 .obtain⟨d,l,kvs,ss,rfl,_⟩:=h;rfl
 .obtain⟨d,l,kvs,ss,rfl,hD,hL,nd,hl,hT,k⟩:=h;walk_at "@sc_picked 8K3wname;0;r01h0kname,put;Dm703d100";symm;refine A8 hL ?_;refine z8 (n:=ss.length) (λi out H'=>Same H H'/\Paired (PrV K H') out (i7 ((ss.take i).map λn=>(n,j4 kvs n)))) ⟨Same.refl _,.nil⟩ (λi out H' hi hp=>⟨_,.str (ss[i]),hp.1.seq hL,by rw[Kh,Kc hi];rfl⟩) ?_ ?_
  .rintro N i v out H2' H2 hi ⟨s2,pr⟩ y hN';obtain⟨rfl,hx⟩:=Itl.get y (s2.seq hL);rw[Kh,Kc hi] at hx;cases hx;have y_:=KW pr;rw[k9,Kb,Kt] at y_;symm;refine⟨rfl,?_⟩;symm;refine wK (s2.rd hD) (hT _ (KS hi)) ?_;symm;refine⟨d0 (by simp),λt4 n4=>?_⟩;obtain⟨H4,e4,f4,m4,_⟩:=b5 (o:= .tup _) n4;rw[e4];refine⟨d0 (by lia),hN' _ _ ⟨s2.trans m4,?_⟩⟩;rw[KI,Kc hi,Ki];unfold i7 at pr⊢;rw[Ki];exact B9 (Paired.imp' (λ_ _ z=>PrV.mono m4.le z) pr) ⟨t4,rfl,SqT.of f4⟩
  .rintro out H2 ⟨s2,pr⟩;have y_:=KW pr;rw[k9,Kb,Kt] at y_;refine⟨⟨_,s2.seq hL,by rw[Kb];exact Ke _⟩,λD hD'=>⟨d0 (by lia),?_⟩⟩;rw[Kl (Ke _)] at pr;obtain⟨H3,e3,f3,m3,_⟩:=b5 (H:=H2) (o:= .lst out) hD';symm;change oH K _ (upd H2 D _) _;rw[e3];refine X9 (SqL.of f3) (Paired.imp' (λ_ _ z=>PrV.mono m3.le z) pr) (d0 (by rw[k9,Kb];lia)) (λpp npp=>?_);rw[aK (aB (by rw[Lf];exact(NO ss).symm▸nd))];obtain⟨H4,e4,f4,m4,_⟩:=b5 (o:= .dK _) npp;rw[e4];exact k pp H4 (s2.free (m3.free npp)) (s2.trans (m3.trans m4)) f4
def fV (K:Qc):Sp:=λvs H Q _=>∃(st r m bl:Addr) (x:V) (L R:Sd) (bs:List Sd) (km:List (j6×V)),vs=[.ref st]/\SqT K H st [.ref r,.ref m,x]/\RuleIs K H r bl L R bs/\Rd H m (.dK km)/\(∀n∈b7 L.W,TxtAt km n)/\∀(l:Addr) (H':Hp) (s1 s2:List Str),H l=none->Same H H'->Ordr L.W s1 s2->H' l=some (.lst ((((s1++s2).filter λn=>!decide (n∈b7 R.W)).map (j4 km)).map V.str))->Q (.ref l) H'
abbrev cT:=λP w K mg base=>U0 P w K mg base F0 4 "taken_out" ["step"] [] (fV K)
def oO {f fd}(T:Txt K mg)(oI:vG P w K mg base)(F:Fun K "taken_out" "taken_out" dm f fd):C5 P w K mg base F0 4 f fd ["step"] (fV K):=by
 walk_at "#sc_taken_out"
 .obtain⟨st,r,m,bl,x,L,R,bs,km,rfl,_⟩:=h;rfl
 .obtain⟨st,r,m,bl,x,L,R,bs,km,rfl,hS,hR,hM,hT,k⟩:=h;have WG:=hR.l.len;walk_at "@sc_taken_out 8wname;0;r5'0oI 310h0kname,step;Dq1100";symm;refine u4 hS ?_;symm;refine⟨r,bl,L,R,bs,rfl,hR,λl1 H1 s1 s2 n1 m1 or f1=>?_⟩;have hlen:=or.len;have x_:=Km (λn=>!decide (n∈b7 R.W)) (s1++s2);have m_:∀n∈(s1++s2).filter λn=>!decide (n∈b7 R.W),TxtAt km n:=λn hn=>hT n (or.mem.mp (Kp.mp hn).1);have k':=λl H' h1 h2=>k l H' s1 s2 h1 h2 or;clear k;generalize (s1++s2).filter (λn=>!decide (n∈b7 R.W))=ss at f1 x_ m_ k';refine A8 (SqL.of f1) ?_;refine z8 (n:=ss.length) (λi out H'=>Same H1 H'/\out=(ss.take i).map λn=>V.str (j4 km n)) ⟨Same.refl _,rfl⟩ (λi out H' hi hp=>⟨_,.str (ss[i]),SqL.of (hp.1 _ _ f1),by rw[Kh,Kc hi];rfl⟩) ?_ ?_
  .rintro N i v out H2' H2 hi ⟨s3,rfl⟩ y hN';obtain⟨rfl,hx⟩:=Itl.get y (SqL.of (s3 _ _ f1));rw[Kh,Kc hi] at hx;cases hx;symm;refine⟨rfl,?_⟩;symm;refine j9 ((m1.trans s3).tup hS) ?_;symm;refine wK ((m1.trans s3).rd hM) (m_ _ (KS hi)) ?_;refine⟨d0 (by rw[Kb,Kt];lia),hN' _ _ ⟨s3,?_⟩⟩;exact K3 (λn:Str=>V.str (j4 km n)) (Kc hi)
  .rintro out H2 ⟨s3,rfl⟩;refine⟨⟨_,SqL.of (s3 _ _ f1),by rw[Kb];exact Ke _⟩,λD hD'=>⟨d0 (by rw[Kb,Kt];lia),?_⟩⟩;rw[Kl (Ke _)];obtain⟨H3,e3,f3,m3,_⟩:=b5 (H:=H2) (o:= .lst (ss.map λn=>V.str (j4 km n))) hD';refine k' D _ ((m1.trans s3).free hD') ?_ ?_
   .show Same _ (upd H2 D _);rw[e3];exact m1.trans (s3.trans m3)
   .show upd H2 D _ D=_;rw[d6,Lf];rfl
def bh (L:C9)(km kf:List (j6×V))(n:Str):Str:=if n∈b7 L then j4 km n else j4 kf n
structure FrOk (W L R:C9) (fr:List (Str×Str)):Prop where
 ks:(fr.map (·.1)).Perm ((b7 R).filter λn=>!decide (n∈b7 L))
 nm:∀x∈fr,X6 x.2=true
 nd:(fr.map (·.2)).Nodup
 no:∀x∈fr,x.2∉b7 W
 len:fr.length<=4
def FrOk.nd1 {W L R:C9}{fr:List (Str×Str)}(h:FrOk W L R fr)(ndR:(b7 R).Nodup):(fr.map (·.1)).Nodup:=h.ks.nodup_iff.mpr (ndR.sublist Ll)
def FrOk.mem {W L R:C9}{fr:List (Str×Str)}(h:FrOk W L R fr){n:Str}:n∈fr.map (·.1)↔n∈b7 R/\n∉b7 L:=by
 rw[h.ks.mem_iff,Kp,Lw,Li]
def FrOk.txt {W L R:C9}{fr:List (Str×Str)}(h:FrOk W L R fr)(ndR:(b7 R).Nodup){n:Str}(hn:n∈fr.map (·.1)):TxtAt (i7 fr) n/\(n,j4 (i7 fr) n)∈fr:=by
 obtain⟨⟨n',s⟩,hx,e⟩:=Kd.mp hn;have e':n'=n:=e;subst e';have z:=aT (h.nd1 ndR) hx;exact⟨z.1,by rw[z.2];exact hx⟩
structure StI (K:Qc) (H:Hp) (st r m f bl:Addr) (L R:Sd) (km kf:List (j6×V)) (bs:List Sd):Prop where
 tup:SqT K H st [.ref r,.ref m,.ref f]
 r:RuleIs K H r bl L R bs
 m:H m=some (.dK km)
 f:H f=some (.dK kf)
 b:H bl=some (.lst (bs.map λs=>V.ref s.a))
def StI.same {H H':Hp}{st r m f bl:Addr}{L R:Sd}{km kf:List (j6×V)}{bs:List Sd}(h:StI K H st r m f bl L R km kf bs)(s:Same H H'):StI K H' st r m f bl L R km kf bs:=⟨s.tup h.tup,h.r.same s,s _ _ h.m,s _ _ h.f,s _ _ h.b⟩
def jR {α:Type}{l:List α}{p:α->Bool}(h:l.Nodup):(l.filter p).Nodup:=h.sublist Ll
def oy {A B:List (Str×Str)}{n:Str}(nd:((A++B).map (·.1)).Nodup)(h:n∈A.map (·.1)):TxtAt (i7 A++i7 B) n/\j4 (i7 A++i7 B) n=j4 (i7 A) n:=by
 obtain⟨⟨n',s⟩,hx,e⟩:=Kd.mp h;have e':n'=n:=e;subst e';have e2:i7 A++i7 B=i7 (A++B):=by unfold i7;rw[Ki]
 have z:=aT nd (Kf B hx);rw[Ki] at nd;rw[e2,(aT (Ks.mp nd).1 hx).2];exact z
def nW {A B:List (Str×Str)}{n:Str}(nd:((A++B).map (·.1)).Nodup)(h:n∈B.map (·.1)):TxtAt (i7 A++i7 B) n/\j4 (i7 A++i7 B) n=j4 (i7 B) n:=by
 obtain⟨⟨n',s⟩,hx,e⟩:=Kd.mp h;have e':n'=n:=e;subst e';have e2:i7 A++i7 B=i7 (A++B):=by unfold i7;rw[Ki]
 have z:=aT nd (Kk A hx);rw[Ki] at nd;rw[e2,(aT (Ks.mp nd).2.1 hx).2];exact z
def cq (ss:List Str)(f:Str->Str):(ss.map λn=>(n,f n)).map (·.1)=ss:=by rw[Lf];exact NO ss
def nK (K:Qc):Sp:=λvs H Q _=>∃(st r m f bl:Addr) (L R:Sd) (km kf:List (j6×V)) (bs:List Sd),vs=[.ref st]/\StI K H st r m f bl L R km kf bs/\(∀n∈b7 L.W,TxtAt km n)/\(∀n∈b7 R.W,n∉b7 L.W->TxtAt kf n)/\∀(d:Addr) (H':Hp) (t1 t2:List Str),H d=none->Same H H'->Ordr R.W t1 t2->H' d=some (.dK (i7 ((t1++t2).map λn=>(n,bh L.W km kf n))))->Q (.ref d) H'
abbrev rC:=λP w K mg base=>U0 P w K mg base F0 4 "behind" ["step"] [] (nK K)
def wZ {f fd}(T:Txt K mg)(dO:ql P w K mg base)(tN:yE P w K mg base)(Y0:ff P w K mg base)(C0:V5 P w K mg base)(F:Fun K "behind" "behind" kW f fd):C5 P w K mg base F0 4 f fd ["step"] (nK K):=by
 walk_at "#sc_behind"
 .obtain⟨st,r,m,f,bl,L,R,km,kf,bs,rfl,_⟩:=h;rfl
 .obtain⟨st,r,m,f,bl,L,R,km,kf,bs,rfl,hS,hM,hF,k⟩:=h;have WG:=hS.r.l.len;have UM:=hS.r.r.len;walk_at "@sc_behind 4110425'0dO g105'0tN 61bQM%~p~o~n0235'0dO g105'0Y0 6185'0dO 7235>311"
  symm;refine u4 hS.tup ?_;symm;refine j9 hS.tup ?_;symm;refine⟨r,bl,L,R,bs,rfl,hS.r,λl1 H1 s1 s2 n1 m1 o1 f1=>?_⟩;have S1:=hS.same m1;have Si:=o1.len;have Sy:=Km (λn=>decide (n∈b7 R.W)) (s1++s2);symm;refine⟨m,l1,km,_,rfl,.inl S1.m,SqL.of f1,jR (o1.perm.nodup_iff.mpr hS.r.l.nd),by lia,λn hn=>hM n (o1.mem.mp (Kp.mp hn).1),λd2 H2 n2 m2 f2=>?_⟩;have S2:=S1.same m2;symm;refine⟨.inr (.inr (.inl ⟨rfl,.inl ⟨_,f2⟩⟩)),?_⟩;symm;refine cw S2.tup ?_;symm;refine⟨r,bl,L,R,bs,rfl,S2.r,λl3 H3 u1 u2 n3 m3 o3 f3=>?_⟩;have S3:=S2.same m3;have hl3:=o3.len;have QU:=Km (λn=>!decide (n∈b7 L.W)) (u1++u2);symm;refine⟨f,l3,kf,_,rfl,.inl S3.f,SqL.of f3,jR (o3.perm.nodup_iff.mpr hS.r.r.nd),by lia,λn hn=>hF n (o3.mem.mp (Kp.mp hn).1) (by have z:=(Kp.mp hn).2;rw[Lw,Li] at z;exact z),λd4 H4 n4 m4 f4=>?_⟩;have S4:=S3.same m4;have Xn:=m4 _ _ (m3 _ _ f2);have ne24:d2≠d4:=d9 (m3 _ _ f2) n4;have Uq:∀n∈(s1++s2).filter (λn=>decide (n∈b7 R.W)),n∈b7 L.W:=λn hn=>o1.mem.mp (Kp.mp hn).1;have g_:∀n∈(u1++u2).filter (λn=>!decide (n∈b7 L.W)),n∉b7 L.W:=λn hn=>by have z:=(Kp.mp hn).2;rw[Lw,Li] at z;exact z
  have WH:(((s1++s2).filter λn=>decide (n∈b7 R.W))++((u1++u2).filter λn=>!decide (n∈b7 L.W))).Nodup:=Ks.mpr ⟨jR (o1.perm.nodup_iff.mpr hS.r.l.nd),jR (o3.perm.nodup_iff.mpr hS.r.r.nd),λa ha b hb e=>g_ b hb (e▸Uq a ha)⟩;have WI:∀n∈b7 R.W,n∈b7 L.W->n∈(s1++s2).filter λn=>decide (n∈b7 R.W):=λn h1 h2=>Kp.mpr ⟨o1.mem.mpr h2,KA h1⟩;have WJ:∀n∈b7 R.W,n∉b7 L.W->n∈(u1++u2).filter λn=>!decide (n∈b7 L.W):=λn h1 h2=>Kp.mpr ⟨o3.mem.mpr h1,by rw[KQ h2];rfl⟩;generalize (s1++s2).filter (λn=>decide (n∈b7 R.W))=A at Xn WH WI Sy;generalize (u1++u2).filter (λn=>!decide (n∈b7 L.W))=B at f4 WH WJ QU;have WC:(((A.map λn=>(n,j4 km n))++(B.map λn=>(n,j4 kf n))).map (·.1)).Nodup:=by rw[Ki,cq,cq];exact WH
  symm;refine⟨d2,d4,_,_,rfl,rfl,Xn,.inl f4,ne24,by rw[k9,k9,Kb,Kb];lia,?_⟩;rw[ni (by have z:=aB WC;unfold i7 at z⊢;rw[Ki] at z;exact z)];have n20:H1 d2=none:=n2;have s5:Same H1 (upd H4 d2 (.dK (i7 (A.map λn=>(n,j4 km n))++i7 (B.map λn=>(n,j4 kf n))))):=E7 (m2.trans (m3.trans m4)) n20;have f5:upd H4 d2 (.dK (i7 (A.map λn=>(n,j4 km n))++i7 (B.map λn=>(n,j4 kf n)))) d2=some (.dK (i7 (A.map λn=>(n,j4 km n))++i7 (B.map λn=>(n,j4 kf n)))):=d6;generalize upd H4 d2 (.dK (i7 (A.map λn=>(n,j4 km n))++i7 (B.map λn=>(n,j4 kf n))))=H5 at s5 f5⊢;have S5:=S1.same s5;symm;refine j9 S5.r.tup ?_;symm;refine⟨R.a,R.p,R.q,R.kvs,R.W,rfl,S5.r.r.at_,by lia,λl6 H6 t1 t2 n6 m6 f6 o6=>?_⟩;have Uy:=o6.len;symm;have gA:∀n∈b7 R.W,TxtAt (i7 (A.map λn=>(n,j4 km n))++i7 (B.map λn=>(n,j4 kf n))) n/\j4 (i7 (A.map λn=>(n,j4 km n))++i7 (B.map λn=>(n,j4 kf n))) n=bh L.W km kf n:=λn hn=>by
   unfold bh;by_cases hL:n∈b7 L.W
   .rw[if_pos hL];have hA:=WI n hn hL;have z:=oy WC (by rw[cq];exact hA);exact⟨z.1,z.2.trans (lO (Ks.mp WH).1 hA).2⟩
   .rw[if_neg hL];have hB:=WJ n hn hL;have z:=nW WC (by rw[cq];exact hB);exact⟨z.1,z.2.trans (lO (Ks.mp WH).2.1 hB).2⟩
  refine⟨d2,l6,_,_,rfl,.inl (m6 _ _ f5),SqL.of f6,o6.perm.nodup_iff.mpr hS.r.r.nd,by lia,λn hn=>(gA n (o6.mem.mp hn)).1,λd7 H7 n7 m7 f7=>?_⟩;refine k d7 H7 t1 t2 (m1.free (s5.free (m6.free n7))) (m1.trans (s5.trans (m6.trans m7))) o6 ?_;rw[f7];congr 3;exact LB λn hn=>by rw[(gA n (o6.mem.mp hn)).2]
def gsW (L R:C9)(km:List (j6×V)):List Str:=((b7 L).filter λn=>!decide (n∈b7 R)).map (j4 km)
def jl (W L R:C9)(km kf:List (j6×V)):C9:=HK (bf (gsW L R km) W) (Z9 (bh L km kf) R)
structure Gh (W L R:C9) (km:List (j6×V)) (fr:List (Str×Str)):Prop where
 fit:FitP L W km
 lo:∀x∈W.ts,x.1∉gsW L R km->x.2.2.1∉gsW L R km/\x.2.2.2∉gsW L R km
 fo:FrOk W L R fr
 nd:((b7 R).map (bh L km (i7 fr))).Nodup
def Fo {gs gs':List Str}(W:C9)(h:∀n,n∈gs↔n∈gs'):bf gs W=bf gs' W:=by
 unfold bf;congr 1
 .exact NI λx _=>by rw[Lg];simp only[Lw,Li];rw[h]
 .exact NI λx _=>by rw[Lg];simp only[Lw,Li];rw[h]
def Ej {f g:Str->Str}{W:C9}(h:∀n∈b7 W,f n=g n)(he:∀x∈W.ts,x.2.2.1∈W.pts.map (·.1)/\x.2.2.2∈W.pts.map (·.1)):Z9 f W=Z9 g W:=by
 unfold Z9;congr 1
 .exact LB λx hx=>by rw[h x.1 (Kf _ (Kd.mpr ⟨x,hx,rfl⟩))]
 .exact LB λx hx=>by rw[h x.1 (Kk _ (Kd.mpr ⟨x,hx,rfl⟩)),h _ (Kf _ (he x hx).1),h _ (Kf _ (he x hx).2)]
def oz {α:Type}{A A' B B':List (Str×α)}(pa:A'.Perm A)(pb:B'.Perm B):((A'.filter λx=>!decide (x.1∈B'.map (·.1)))++B').Perm ((A.filter λx=>!decide (x.1∈B.map (·.1)))++B):=by
 refine List.Perm.append ?_ pb;have e:(A'.filter λx=>!decide (x.1∈B'.map (·.1)))=A'.filter λx=>!decide (x.1∈B.map (·.1)):=NI λx _=>by
  rw[Lg];simp only[Lw,Li];rw[(pb.map _).mem_iff]
 rw[e];exact pa.filter _
def tE {L R:C9}{km:List (j6×V)}{s1 s2:List Str}(o:Ordr L s1 s2)(n:Str):n∈((s1++s2).filter λn=>!decide (n∈b7 R)).map (j4 km)↔n∈gsW L R km:=((o.perm.filter _).map _).mem_iff
def ph {f:Str->Str}{W:C9}(h:((b7 W).map f).Nodup):((Z9 f W).pts.map (·.1)).Nodup/\((Z9 f W).ts.map (·.1)).Nodup:=by
 unfold b7 at h;rw[Ki] at h;have z:=Ks.mp h;unfold Z9;have z1:=z.1;have z2:=z.2.1;rw[Lf] at z1 z2;exact⟨by show((W.pts.map λx=>(f x.1,x.2)).map (·.1)).Nodup;rw[Lf];exact z1,by show((W.ts.map λx=>(f x.1,(x.2.1,f x.2.2.1,f x.2.2.2))).map (·.1)).Nodup;rw[Lf];exact z2⟩
theorem zG {a:Str}:∀{l:List Str},l.Nodup->l.length<=(l.filter λx=>!decide (x=a)).length+1
 |[],_=>LJ _
 |x::r,nd=>by
  have nd':=LA.mp nd;by_cases e:x=a
  .have hr:(r.filter λx=>!decide (x=a))=r:=Nm.mpr λy hy=>by rw[KQ (λz=>nd'.1 (by rw[e,←z];exact hy))];rfl
   rw[Ld (by simp [e]),hr];simp
  .rw[KR (by simp [e]),Lq,Lq];have:=zG (a:=a) nd'.2;lia
theorem eY:∀{m l:List Str},l.Nodup->(∀x∈l,x∈m)->l.length<=m.length
 |[],l,_,h=>by
  cases l with
  |nil=>exact Ke _
  |cons x r=>exact absurd (h x Kz) (by simp)
 |a::m,l,nd,h=>by
  have z:=zG (a:=a) nd;have z2:=eY (m:=m) (l:=l.filter λx=>!decide (x=a)) (nd.sublist Ll) λx hx=>by
   have q:=Kp.mp hx;rcases Lh.mp (h x q.1) with e|e
   .have q2:=q.2;rw[KA e] at q2;cases q2
   .exact e
  rw[Lq];lia
def Dc {ws l:List Str}(hl:ws.length=16)(nd:l.Nodup)(h:∀x∈l,Wd ws 8 12 x):l.length<=4:=by
 have z:=eY (m:=(ws.drop 8).take 4) nd λx hx=>by
  obtain⟨j,j1,j2,hj⟩:=h x hx;refine Kr (i:=j -8) ?_;rw[NC,if_pos (by lia),Qj,show 8+(j -8)=j by lia];exact hj
 rw[Kt,OG] at z;lia
def gI (K:Qc):Sp:=λvs H Q _=>∃(S:Sd) (lx lw lk ln:Addr) (xs:List Int) (ws ks ns:List Str),vs=[.ref S.a,.ref lx,.ref lw,.ref lk,.ref ln]/\SdIs K H S/\lj S.W/\SqL K H lx (xs.map V.int)/\xs.length=16/\(∀x∈xs,0<=x)/\SqL K H lw (ws.map V.str)/\xV ws/\SqL K H lk (ks.map V.str)/\tM ks/\SqL K H ln (ns.map V.str)/\ns.length=4/\ns.Nodup/\(∀n∈ns,X6 n=true/\n∉b7 S.W)/\
 ∀(st r m f bl:Addr) (L R:Sd) (pr fr:List (Str×Str)) (os:List Str) (H':Hp),Same H H'->StI K H' st r m f bl L R (i7 (pr.map swp)) (i7 fr) []->fg L.W R.W []->MP S.W os pr L.W.pts L.W.ts (b7 R.W)->(∀n x,(n,x)∈S.W.ts->(x.2.1∈os\/x.2.2∈os)->n∈os)->(∀n∈os,n∈pr.map (·.1))->FrOk S.W L.W R.W fr->(∀n∈b7 L.W,Wd ws 0 8 n)->Q (.ref st) H'
abbrev ja:=λP w K mg base=>U0 P w K mg base F0 3 "_law_step" ["_law_web_here","_law_xs","_law_words_here","_law_kinds","_law_names"] [] (gI K)
def pM {f fd}(T:Txt K mg)(dn:jm P w K mg base)(F:Fun K "_law_step" "_law_step" cN f fd):C5 P w K mg base F0 3 f fd ["_law_web_here","_law_xs","_law_words_here","_law_kinds","_law_names"] (gI K):=by
 walk_at "#sc__law_step"
 .obtain⟨S,lx,lw,lk,ln,xs,ws,ks,ns,rfl,_⟩:=h;rfl
 .obtain⟨S,lx,lw,lk,ln,xs,ws,ks,ns,rfl,hS,hG,hX,p_,s_,hW,hws,hK,RQ,hNs,nl4,SO,WK,k⟩:=h;walk_at "@sc__law_step ,5'0dn 7071i23xc59c69y47PbturfGJ3q152GJ3q152h89enI)aB08q152o?aB08q152oeAd4p6707088m75i67"
  refine Q1 ?_;rfl';refine⟨S,lx,lw,lk,xs,ws,ks,rfl,hS,hG,hX,p_,s_,hW,hws,hK,RQ,λt1 r m bl L R pr os H1 m1 f1 g1 gb hR rok mp lo osub J' hold=>?_⟩;refine I0 (SqT.of f1) rfl ?_;rfl';refine Q1 ?_;rfl';intro fd nfd;obtain⟨H2,e2,f2,m2,_⟩:=b5 (o:= .dK []) nfd;rw[e2];have R2:=hR.same m2;have UM:=hR.r.len;rw[C3] at UM;rfl';refine Q1 ?_;rfl';refine j9 R2.tup ?_;rfl';refine u4 R2.r.at_.tup ?_;rfl';refine A6 (ss:=R.W.pts.map (·.1)) R2.r.at_.pts (by rw[E6,B6]) (by rw[Kb];lia) (λu1 a1 a2 l3 n3=>?_);obtain⟨H3,e3,f3,m3,_⟩:=b5 (o:= .lst _) n3;rw[e3];have R3:=R2.same m3;rfl';refine j9 R3.tup ?_;rfl';refine j9 R3.r.at_.tup ?_;rfl';refine A6 (ss:=R.W.ts.map (·.1)) R3.r.at_.ties (by rw[R3.r.at_.ts.keys,B6]) (by rw[Kb];lia) (λu2 b1 b2 l4 n4=>?_);obtain⟨H4,e4,f4,m4,_⟩:=b5 (o:= .lst _) n4;rw[e4];have q1:=a1.length_eq;have q2:=b1.length_eq;rw[Kb] at q1 q2;rfl';refine mV (m4 _ _ f3) f4 (d0 (by rw[Kb,Kb];lia)) (λl5 n5=>?_);rw[←Ki];obtain⟨H5,e5,f5,m5,_⟩:=b5 (o:= .lst _) n5;rw[e5];have ou:Ordr R.W u1 u2:=⟨a1,b1,a2,b2⟩
  have Rz:=m3.trans (m4.trans m5);have G_:fd≠l5:=d9 (m4 _ _ (m3 _ _ f2)) n5;have und:(u1++u2).Nodup:=ou.perm.nodup_iff.mpr hR.r.nd;have P':((u1++u2).filter λn=>!decide (n∈b7 L.W)).length<=4:=Dc hws.1 (und.sublist Ll) λx hx=>by
   have z:=Kp.mp hx;have z2:=z.2;rw[Lw,Li] at z2;exact J' x (ou.mem.mp z.1) z2
  have TM:(u1++u2).length<=60:=by rw[Kj];lia
  generalize RX:u1++u2=us at f5 P' TM und;refine A8 (SqL.of f5) ?_;refine O0 (n:=us.length) (λi σ H'=>(∃v9,σ=[some (.ref S.a),some (.ref lx),some (.ref lw),some (.ref lk),some (.ref ln),some (.ref r),some (.ref m),some (.ref fd),v9])/\Same H1 H'/\H' l5=some (.lst (us.map V.str))/\∃fr:List (Str×Str),H' fd=some (.dK (i7 fr))/\fr.map (·.1)=(us.take i).filter (λn=>!decide (n∈b7 L.W))/\fr.map (·.2)=ns.take fr.length)
   ⟨⟨_,rfl⟩,m2.trans Rz,f5,[],Rz _ _ f2,rfl,rfl⟩ (λi σ H' hi hp=>⟨_,.str (us[i]),SqL.of hp.2.2.1,by rw[Kh,Kc hi];rfl⟩) ?_ ?_
  .rintro i v σ H6' H6 hi ⟨⟨v9,rfl⟩,s6,h6,fr,g6,e61,e62⟩ y _ _;obtain⟨rfl,hx⟩:=Itl.get y (SqL.of h6);rw[Kh,Kc hi] at hx;cases hx;have e7:us.take (i+1)=us.take i++[us[i]]:=by rw[KI,Kc hi];rfl
   have R6:=hR.same s6;have no:us[i]∈b7 L.W->(∃v9',[some (V.ref S.a),some (.ref lx),some (.ref lw),some (.ref lk),some (.ref ln),some (.ref r),some (.ref m),some (.ref fd),some (.str us[i])]=[some (.ref S.a),some (.ref lx),some (.ref lw),some (.ref lk),some (.ref ln),some (.ref r),some (.ref m),some (.ref fd),v9'])/\Same H1 H6/\H6 l5=some (.lst (us.map V.str))/\∃fr:List (Str×Str),H6 fd=some (.dK (i7 fr))/\fr.map (·.1)=(us.take (i+1)).filter (λn=>!decide (n∈b7 L.W))/\fr.map (·.2)=ns.take fr.length:=λhb=>
    ⟨⟨_,rfl⟩,s6,h6,fr,g6,by rw[e61,e7,KP,Ld (by simp [hb]),Lp,Lb],e62⟩
   rfl';refine u4 R6.tup ?_;rfl';refine u4 R6.l.at_.tup ?_;refine N7 (K1 (k:=Sum.inr us[i]) R6.l.at_.pts) ?_;rw[M4];rfl';refine O6 (λc1=>?_) (λc1=>?_)
   .rfl';refine u4 R6.tup ?_;rfl';refine j9 R6.l.at_.tup ?_;refine N7 (K1 (k:=Sum.inr us[i]) R6.l.at_.ties) ?_;rw[Y6 R6.l.at_.ts];rfl';refine O6 (λc2=>?_) (λc2=>?_)
    .have Up:us[i]∉b7 L.W:=λz=>(Kg.mp z).elim c1 c2;have ef:(us.take (i+1)).filter (λn=>!decide (n∈b7 L.W))=fr.map (·.1)++[us[i]]:=by rw[e61,e7,KP,KR (by simp [Up]),Lp]
     have n_:fr.length<4:=by
      have z1:((us.take (i+1)).filter λn=>!decide (n∈b7 L.W)).length<=(us.filter λn=>!decide (n∈b7 L.W)).length:=((Lv _ _).filter _).length_le;rw[ef,Kj,Kb,Ku] at z1;lia
     have Px:us[i]∉fr.map (·.1):=λz=>by
      rw[e61] at z;have z1:=(Kp.mp z).1;have z2:(us.take (i+1)).Nodup:=und.sublist (Lv _ _);rw[e7] at z2;exact(Ks.mp z2).2.2 _ z1 _ (by simp) rfl
     obtain⟨nm,Qw⟩:∃nm,ns[fr.length]?=some nm:=⟨ns[fr.length]'(by lia),Kc (by lia)⟩
     rfl';refine F2 (bG (.inl g6) ?_);rw[k9];rfl';refine j5 (xs:=ns.map V.str) ((m1.trans s6).seq hNs) (k7 (j:=fr.length) (by rw[Kh,Qw];rfl)) ?_;rfl';refine P9 (B5 (k:=Sum.inr us[i]) g6 (d0 (by rw[k9];lia)) ?_);walk_at "X";refine⟨⟨_,rfl⟩,E7 s6 nfd,by rw[b9 G_.symm];exact h6,fr++[(us[i],nm)],?_,?_,?_⟩
     .rw[d6];exact LK (λz=>some (HO.dK z)) (aq Px)
     .rw[B4,ef]
     .rw[Y3,e62,Kj,Ku,KI,Qw];rfl
    .rfl';exact no (Kk _ c2)
   .rfl';exact no (Kf _ c1)
  .rintro σ H6 ⟨⟨v9,rfl⟩,s6,h6,fr,g6,e61,e62⟩;refine⟨⟨_,SqL.of h6,by rw[Kb];exact Ke _⟩,?_⟩;rw[Kl (Ke _)] at e61;have x_:fr.length<=4:=by
    have z:=LK List.length e61;rw[Kb] at z;lia
   have m_:∀x∈fr,x.2∈ns:=λx hx=>by
    have z:x.2∈fr.map (·.2):=Kd.mpr ⟨x,hx,rfl⟩;rw[e62] at z;exact Mw z
   rfl';refine⟨d0 (by simp),λst nst=>?_⟩;obtain⟨H7,e7,f7,m7,_⟩:=b5 (H:=H6) (o:= .tup _) nst;change Q _ (upd H6 st _);rw[e7];refine k st r m fd bl L R pr fr os H7 (m1.trans (s6.trans m7)) ⟨SqT.of f7,hR.same (s6.trans m7),m7 _ _ (s6 _ _ g1),m7 _ _ g6,m7 _ _ (s6 _ _ gb)⟩ rok mp lo osub ⟨?_,λx hx=>(WK _ (m_ x hx)).1,?_,λx hx=>(WK _ (m_ x hx)).2,by lia⟩ hold
   .have z:fr.map (·.1)=(u1++u2).filter λn=>!decide (n∈b7 L.W):=by rw[RX];exact e61
    rw[z];exact ou.perm.filter _
   .rw[e62];exact SO.sublist (Lv _ _)
def dR (pr:List (Str×Str)):(pr.map swp).map (·.1)=pr.map (·.2):=by rw[Lf];rfl
section
variable {W L R:C9} {os:List Str} {pr:List (Str×Str)}
def MP.nds (h:MP W os pr L.pts L.ts (b7 R)):((pr.map swp).map (·.1)).Nodup:=by rw[dR];exact h.n2
def MP.at_ (h:MP W os pr L.pts L.ts (b7 R)){n w:Str}(hx:(n,w)∈pr):TxtAt (i7 (pr.map swp)) w/\j4 (i7 (pr.map swp)) w=n:=aT h.nds (Kd.mpr ⟨(n,w),hx,rfl⟩)
def MP.of_ (h:MP W os pr L.pts L.ts (b7 R)){w:Str}(hw:w∈b7 L):(j4 (i7 (pr.map swp)) w,w)∈pr:=by
 have z:w∈pr.map (·.2):=by rw[h.wd];exact hw
 obtain⟨⟨n,w'⟩,hx,e⟩:=Kd.mp z;have e':w'=w:=e;subst e';rw[(h.at_ hx).2];exact hx
def MP.txt (h:MP W os pr L.pts L.ts (b7 R)):∀w∈b7 L,TxtAt (i7 (pr.map swp)) w:=λw hw=>(h.at_ (h.of_ hw)).1
def MP.inL (h:MP W os pr L.pts L.ts (b7 R)){n w:Str}(hx:(n,w)∈pr):w∈b7 L:=by
 have z:w∈pr.map (·.2):=Kd.mpr ⟨(n,w),hx,rfl⟩;rw[h.wd] at z;exact z
def MP.gs (h:MP W os pr L.pts L.ts (b7 R))(n:Str):n∈gsW L R (i7 (pr.map swp))↔∃w,(n,w)∈pr/\w∉b7 R:=by
 unfold gsW;rw[Kd];constructor
 .rintro⟨w,hw,rfl⟩;have z:=Kp.mp hw;have z2:=z.2;rw[Lw,Li] at z2;exact⟨w,h.of_ z.1,z2⟩
 .rintro⟨w,hx,hw⟩;exact⟨w,Kp.mpr ⟨h.inL hx,by rw[KQ hw];rfl⟩,(h.at_ hx).2⟩
def MP.gsos (h:MP W os pr L.pts L.ts (b7 R))(hs:∀n∈os,n∈pr.map (·.1))(n:Str):n∈gsW L R (i7 (pr.map swp))↔n∈os:=by
 rw[h.gs];constructor
 .rintro⟨w,hx,hw⟩;exact Mu λhn=>hw ((h.ko _ hx).mpr hn)
 .intro hn;obtain⟨⟨n',w⟩,hx,e⟩:=Kd.mp (hs n hn);have e':n'=n:=e;subst e';exact⟨w,hx,λz=>(h.ko _ hx).mp z hn⟩
def lS (h:MP W os pr L.pts L.ts (b7 R)){fr:List (Str×Str)}(f:FrOk W L R fr)(ndR:(b7 R).Nodup):(((pr.map swp)++fr).map (·.1)).Nodup:=by
 rw[Ki];refine Ks.mpr ⟨h.nds,f.nd1 ndR,λa ha b hb e=>?_⟩;rw[dR,h.wd] at ha;exact(f.mem.mp hb).2 (e▸ha)
def nu (h:MP W os pr L.pts L.ts (b7 R)){fr:List (Str×Str)}(f:FrOk W L R fr)(ndR:(b7 R).Nodup){n:Str}(hn:n∈b7 R):TxtAt (i7 (pr.map swp)++i7 fr) n/\j4 (i7 (pr.map swp)++i7 fr) n=bh L (i7 (pr.map swp)) (i7 fr) n:=by
 unfold bh;by_cases hL:n∈b7 L
 .rw[if_pos hL];exact oy (lS h f ndR) (by rw[dR,h.wd];exact hL)
 .rw[if_neg hL];exact nW (lS h f ndR) (f.mem.mpr ⟨hn,hL⟩)
end
def xo (W L R:C9)(km:List (j6×V))(fr:List (Str×Str))(x:Str×Str):Prop:=(x∈W.pts/\x.1∉gsW L R km)\/∃w,(w,x.1)∈fr/\(w,x.2)∈R.pts
def wQ (W L R:C9)(km:List (j6×V))(fr:List (Str×Str))(x:Str×N3):Prop:=(x∈W.ts/\x.1∉gsW L R km)\/∃w b e,(w,x.1)∈fr/\(w,(x.2.1,b,e))∈R.ts/\x.2.2.1=bh L km (i7 fr) b/\x.2.2.2=bh L km (i7 fr) e
def gW (K:Qc):Sp:=λvs H Q _=>∃(S L R:Sd) (st r m f bl:Addr) (pr fr:List (Str×Str)) (os:List Str) (bs:List Sd),vs=[.ref S.a,.ref st]/\SdIs K H S/\StI K H st r m f bl L R (i7 (pr.map swp)) (i7 fr) bs/\MP S.W os pr L.W.pts L.W.ts (b7 R.W)/\FrOk S.W L.W R.W fr/\
 ∀(D:Sd) (H':Hp),Same H H'->WebAt K H' D.a D.p D.q D.kvs D.W->H' D.p=some (.dK (i7 D.W.pts))->H' D.q=some (.dK D.kvs)->D.p≠D.q->H D.p=none->H D.q=none->(D.W.pts.map (·.1)).Nodup->(D.W.ts.map (·.1)).Nodup->(∀x,x∈D.W.pts↔xo S.W L.W R.W (i7 (pr.map swp)) fr x)->(∀x,x∈D.W.ts↔wQ S.W L.W R.W (i7 (pr.map swp)) fr x)->Q (.ref D.a) H'
abbrev jg:=λP w K mg base=>U0 P w K mg base F0 1 "_law_done" ["_law_web_here","_law_step_here"] [] (gW K)
def oV {f fd}(T:Txt K mg)(F:Fun K "_law_done" "_law_done" dG f fd):C5 P w K mg base F0 1 f fd ["_law_web_here","_law_step_here"] (gW K):=by
 walk_at "#sc__law_done"
 .obtain⟨S,L,R,st,r,m,f,bl,pr,fr,os,bs,rfl,_⟩:=h;rfl
 .obtain⟨S,L,R,st,r,m,f,bl,pr,fr,os,bs,rfl,hS,hT,mp,fo,k⟩:=h;have Tn:=hS.len;have WG:=hT.r.l.len;have UM:=hT.r.r.len;rw[C3] at Tn WG UM;have x_:=fo.len;have Q_:pr.length=L.W.pts.length+L.W.ts.length:=by
   have z:=LK List.length mp.wd;rw[Kb,Kj,Kb,Kb] at z;exact z
  have hskl:=hS.at_.ts.length;have Qd:=hT.r.r.nd;walk_at "@sc__law_done ,01xc29c39c49y*5_law_word;23;r03vh0k_law_word,_law_rule_here,_law_match;vLI)aB00q112o?aB00q112ovd20046Pbtur10h79enaB0705oeAq1007060748Pbtur10h79enaB0705oeAq1007080749K63bQM%~p~o~n0964btur04h:9e'3bD aF0:q122oeAqq1220:06d40:,qq1220:xc;9c<9c=9yeAm7;gd90<d90=08d40:8mi68"
  refine Q1 ?_;rfl';refine I0 hT.tup rfl ?_;rfl';refine Q1 ?_;rfl';refine aM hT.m (λWC o1=>?_);refine z8 (n:=(i7 (pr.map swp)).length) (λi out H'=>Same (C4 m o1 (i7 (pr.map swp)) H) H'/\out=(((pr.take i).filter λx=>!decide (x.2∈b7 R.W)).map (·.1)).map V.str) ⟨Same.refl _,rfl⟩ (λi out H' hi hp=>⟨hp.1 _ _ d6,hi⟩) ?_ ?_
  .rintro N i v out H1' H1 hi ⟨s1,rfl⟩ ⟨rfl,kv,f_,rfl⟩ hN';obtain⟨x,hx,rfl⟩:=az f_;rw[Kh] at hx;obtain⟨⟨n,w'⟩,Xw,rfl⟩:=KN.mp hx;have D_:=Kr Xw;rw[k9,Kb] at hi;have le1:=(N9 (o:=o1) hT.m).trans s1.le;have R1:=hT.r.r.at_.mono le1;have e7:pr.take (i+1)=pr.take i++[(n,w')]:=by rw[KI,Xw];rfl
   have tr:=le1.tup hT.r.tup;have Sy:=Km (λx:Str×Str=>!decide (x.2∈b7 R.W)) (pr.take i);rw[Kt] at Sy;have no:w'∈b7 R.W->N ((((pr.take i).filter λx=>!decide (x.2∈b7 R.W)).map (·.1)).map V.str) H1:=λhb=>hN' _ _ ⟨s1,by rw[e7,KP,Ld (by simp [hb]),Lp,Lb]⟩;rfl';refine⟨rfl,?_⟩;rfl';refine j9 tr ?_;rfl';refine u4 R1.tup ?_;refine N7 (K1 (k:=Sum.inr w') R1.pts) ?_;rw[M4];rfl';refine O6 (λc1=>?_) (λc1=>?_)
   .rfl';refine j9 tr ?_;rfl';refine j9 R1.tup ?_;refine N7 (K1 (k:=Sum.inr w') R1.ties) ?_;rw[Y6 R1.ts];rfl';refine O6 (λc2=>?_) (λc2=>?_)
    .have g_:w'∉b7 R.W:=λz=>(Kg.mp z).elim c1 c2;rfl';refine z0 (v:= .str n) (by have z:=K1 (k:=Sum.inr w') (le1.dic (.inl hT.m));rw[L9 mp.nds (show(w',n)∈pr.map swp from Kd.mpr ⟨_,D_,rfl⟩)] at z;exact z) ?_;refine⟨d0 (by rw[Kb,Kb];lia),hN' _ _ ⟨s1,?_⟩⟩;rw[e7,KP,KR (by simp [g_]),Lp,Ki,Ki];rfl
    .exact no (Kk _ c2)
   .exact no (Kf _ c1)
  .rintro out H1 ⟨s1,rfl⟩;rw[k9,Kb,Kl (Ke _)];have Sy:=Km (λx:Str×Str=>!decide (x.2∈b7 R.W)) pr;refine⟨⟨s1 _ _ d6,by rw[k9,Kb];exact Ke _⟩,λlo nlo=>⟨d0 (by rw[Kb,Kb];lia),?_⟩⟩;have hog:∀n,n∈(pr.filter λx=>!decide (x.2∈b7 R.W)).map (·.1)↔n∈gsW L.W R.W (i7 (pr.map swp)):=λn=>by
    rw[mp.gs,Kd];constructor
    .rintro⟨⟨n',w'⟩,hx,rfl⟩;have z:=Kp.mp hx;have z2:=z.2;rw[Lw,Li] at z2;exact⟨w',z.1,z2⟩
    .rintro⟨w',hx,hw⟩;exact⟨(n,w'),Kp.mpr ⟨hx,by rw[KQ hw];rfl⟩,rfl⟩
   generalize (pr.filter λx=>!decide (x.2∈b7 R.W)).map (·.1)=og at hog⊢;have s2:=O4 hT.m s1 nlo (u:= .lst (og.map V.str));have f2:=aj s1 nlo (u:= .lst (og.map V.str));change O7 _ _ _ (thaw m (upd H1 lo (.lst (og.map V.str)))) _;generalize thaw m (upd H1 lo (.lst (og.map V.str)))=G at s2 f2⊢;have SG:=hS.same s2;have TG:=hT.same s2;rfl';refine Q1 ?_;rfl';intro pp npp;obtain⟨G1,ZP,ZQ,Vp,_⟩:=b5 (o:= .dK []) npp;rw[ZP];rfl';refine Q1 ?_;rfl';refine u4 (SG.same Vp).at_.tup ?_;refine aM (SG.same Vp).hp (λUu o2=>?_);have WA:pp≠S.p:=(d9 SG.hp npp).symm;have gP:C4 S.p o2 (i7 S.W.pts) G pp=none:=by unfold C4;rw[b9 WA];exact npp
   have sP:Same (C4 S.p o2 (i7 S.W.pts) G) (C4 S.p o2 (i7 S.W.pts) G1):=λb u e=>by
    unfold C4 at e⊢;by_cases hb:b=S.p
    .subst hb;rw[d6] at e⊢;exact e
    .rw[b9 hb] at e⊢;exact Vp _ _ e
   refine O0 (n:=(i7 S.W.pts).length) (λi σ H'=>(∃v7,σ=[some (.ref S.a),some (.ref st),some (.ref r),some (.ref m),some (.ref f),some (.ref lo),some (.ref pp),v7,none,none,none,none,none,none])/\Same (C4 S.p o2 (i7 S.W.pts) G) H'/\H' pp=some (.dK (i7 ((S.W.pts.take i).filter λx=>!decide (x.1∈og)))))
    ⟨⟨_,rfl⟩,sP,by unfold C4;rw[b9 WA];exact ZQ⟩ (λi σ H' hi hp=>⟨hp.2.1 _ _ d6,hi⟩) ?_ ?_
   .rintro i v σ H3' H3 hi ⟨⟨v7,rfl⟩,s3,h3⟩ ⟨rfl,kv,f_,rfl⟩ _ _;obtain⟨x,hx,rfl⟩:=az f_;have D_:=Kr hx;have Ux:=(N9 (o:=o2) SG.hp).trans s3.le;have S3:=SG.at_.mono Ux;have e7:S.W.pts.take (i+1)=S.W.pts.take i++[x]:=by rw[KI,hx];rfl
    have Px:x.1∉((S.W.pts.take i).filter λx=>!decide (x.1∈og)).map (·.1):=λz=>by
     obtain⟨y,hy,ey⟩:=Kd.mp z;have Rg:=(Kp.mp hy).1;have z2:((S.W.pts.take (i+1)).map (·.1)).Nodup:=(E5 hS.nd).sublist ((Lv _ _).map _);rw[e7,B4] at z2;exact(Ks.mp z2).2.2 _ (Kd.mpr ⟨y,Rg,rfl⟩) _ (by simp) ey
    have QU:=Km (λx:Str×Str=>!decide (x.1∈og)) (S.W.pts.take i);rw[Kt] at QU;rfl';refine J2 (Ux.lst (SqL.of f2)) ?_;rfl';refine O6 (λc1=>?_) (λc1=>?_)
    .rfl';refine u4 S3.tup ?_;rfl';refine z0 (v:= .str x.2) (by have z:=K1 (k:=Sum.inr x.1) S3.pts;rw[L9 (k:=x.2) (E5 hS.nd) D_] at z;exact z) ?_;rfl';refine P9 (B5 (k:=Sum.inr x.1) h3 (d0 (by rw[k9];lia)) ?_);walk_at "X";refine⟨⟨_,rfl⟩,E7 s3 gP,?_⟩;rw[d6,e7,KP,KR (by simp [c1]),Lp];exact LK (λz=>some (HO.dK z)) (aq (kd:=x.2) Px)
    .rfl';refine⟨⟨_,rfl⟩,s3,?_⟩;rw[h3,e7,KP,Ld (by simp [c1]),Lp,Lb]
   .rintro σ H3 ⟨⟨v7,rfl⟩,s3,h3⟩;refine⟨⟨s3 _ _ d6,Ke _⟩,?_⟩;rw[k9,Kl (Ke _)] at h3;have s4:=s3.thaw SG.hp;have h4:thaw S.p H3 pp=some (.dK (i7 (S.W.pts.filter λx=>!decide (x.1∈og)))):=by rw[Q6 WA];exact h3
    change jK _ _ _ _ (thaw S.p H3);generalize thaw S.p H3=G2 at s4 h4⊢;have S4:=SG.same s4;have T4:=TG.same s4;have lo4:=s4 _ _ f2;refine Q1 ?_;rfl';intro qq nqq;obtain⟨G3,ZS,ZT,Vq,_⟩:=b5 (o:= .dK []) nqq;rw[ZS];rfl';refine Q1 ?_;rfl';refine j9 (S4.same Vq).at_.tup ?_;refine aM (S4.same Vq).hq (λSl o3=>?_);have hqq:qq≠S.q:=(d9 S4.hq nqq).symm;have gQ:C4 S.q o3 S.kvs G2 qq=none:=by unfold C4;rw[b9 hqq];exact nqq
    have sQ:Same (C4 S.q o3 S.kvs G2) (C4 S.q o3 S.kvs G3):=λb u e=>by
     unfold C4 at e⊢;by_cases hb:b=S.q
     .subst hb;rw[d6] at e⊢;exact e
     .rw[b9 hb] at e⊢;exact Vq _ _ e
    refine O0 (n:=S.kvs.length) (λi σ H'=>(∃v7,σ=[some (.ref S.a),some (.ref st),some (.ref r),some (.ref m),some (.ref f),some (.ref lo),some (.ref pp),v7,some (.ref qq),none,none,none,none,none])/\Same (C4 S.q o3 S.kvs G2) H'/\∃kq,H' qq=some (.dK kq)/\TiesIs K H' kq ((S.W.ts.take i).filter λx=>!decide (x.1∈og)))
     ⟨⟨_,rfl⟩,sQ,[],by unfold C4;rw[b9 hqq];exact ZT,.nil⟩ (λi σ H' hi hp=>⟨hp.2.1 _ _ d6,hi⟩) ?_ ?_
    .rintro i v σ H5' H5 hi ⟨⟨v7,rfl⟩,s5,kq,h5,w5⟩ ⟨rfl,kv,f_,rfl⟩ _ _;have Wl:=(N9 (o:=o3) S4.hq).trans s5.le;have S5:=S4.at_.mono Wl;obtain⟨x,hx,ex,bb,eb,sb⟩:=S5.ts.get f_;have Qt:=Kr f_;obtain⟨kk,Rw⟩:=kv;have O':kk=Sum.inr x.1:=ex;have Rx:Rw= .ref bb:=eb;subst O' Rx;have e7:S.W.ts.take (i+1)=S.W.ts.take i++[x]:=by rw[KI,hx];rfl
     have Px:x.1∉((S.W.ts.take i).filter λx=>!decide (x.1∈og)).map (·.1):=λz=>by
      obtain⟨y,hy,ey⟩:=Kd.mp z;have Rg:=(Kp.mp hy).1;have z2:((S.W.ts.take (i+1)).map (·.1)).Nodup:=(O8 hS.nd).sublist ((Lv _ _).map _);rw[e7,B4] at z2;exact(Ks.mp z2).2.2 _ (Kd.mpr ⟨y,Rg,rfl⟩) _ (by simp) ey
     have Sj:=Km (λx:Str×N3=>!decide (x.1∈og)) (S.W.ts.take i);have hw5:=w5.length;rw[Kt] at Sj;rfl';refine J2 (Wl.lst (SqL.of lo4)) ?_;rfl';refine O6 (λc1=>?_) (λc1=>?_)
     .rfl';refine j9 S5.tup ?_;rfl';refine z0 (v:= .ref bb) (by have z:=K1 (k:=Sum.inr x.1) S5.ties;rw[bV (kv:=(Sum.inr x.1,.ref bb)) Sl Qt] at z;exact z) ?_;rfl';refine P9 (B5 (k:=Sum.inr x.1) h5 (d0 (by lia)) ?_);walk_at "X";refine⟨⟨_,rfl⟩,E7 s5 gQ,_,d6,?_⟩;rw[e7,KP,KR (by simp [c1]),Lp];obtain⟨x0,x1,x2,x3⟩:=x;exact K2 h5 (lE w5 Px sb)
     .rfl';refine⟨⟨_,rfl⟩,s5,kq,h5,?_⟩;rw[e7,KP,Ld (by simp [c1]),Lp,Lb];exact w5
    .rintro σ H5 ⟨⟨v7,rfl⟩,s5,kq,h5,w5⟩;refine⟨⟨s5 _ _ d6,Ke _⟩,?_⟩;rw[hskl,Kl (Ke _)] at w5;have s6:=s5.thaw S4.hq;have h6:thaw S.q H5 qq=some (.dK kq):=by rw[Q6 hqq];exact h5
     have w6:=w5.mono (oD (d:=S.q));change jK _ _ _ _ (thaw S.q H5);generalize thaw S.q H5=G4 at s6 h6 w6⊢;have S6:=S4.same s6;have T6:=T4.same s6;have p6:=s6 _ _ h4;have hqp:pp≠qq:=d9 h4 nqq;refine Q1 ?_;rfl';refine K6 (.inl T6.m) (λnd SO=>?_);obtain⟨G5,eG5,fG5,mG5,_⟩:=b5 (o:= .dK _) SO;rw[eG5];have T7:=T6.same mG5;have WL:nd≠f:=(d9 T6.f SO).symm;rfl';refine Q1 ?_;rfl';refine⟨.inr (.inr (.inl ⟨rfl,.inl ⟨_,fG5⟩⟩)),?_⟩;rfl';refine⟨nd,f,_,_,rfl,rfl,fG5,.inl T7.f,WL,by rw[k9,k9,Kb];lia,?_⟩;rw[ni (by have z:=aB (lS mp fo Qd);unfold i7 at z⊢;rw[Ki] at z;exact z)];have s8:Same G4 (upd G5 nd (.dK (i7 (pr.map swp)++i7 fr))):=E7 mG5 SO;have f8:upd G5 nd (.dK (i7 (pr.map swp)++i7 fr)) nd=some (.dK (i7 (pr.map swp)++i7 fr)):=d6;generalize upd G5 nd (.dK (i7 (pr.map swp)++i7 fr))=G6 at s8 f8⊢;have p8:=s8 _ _ p6;have h8:=s8 _ _ h6;have w8:=w6.mono s8.le;have T8:=T6.same s8;have UN:G pp=none:=npp;have UO:G qq=none:=s4.free nqq;have s08:Same G G6:=s4.trans (s6.trans s8);have hfp:f≠pp:=d9 TG.f UN;have Vf:f≠qq:=d9 TG.f UO;have Ut:nd≠pp:=(d9 p6 SO).symm;have Uv:nd≠qq:=(d9 h6 SO).symm;rfl';refine Q1 ?_;rfl';refine aM T8.f (λndf o4=>?_);have gp:C4 f o4 (i7 fr) G pp=none:=by unfold C4;rw[b9 hfp.symm];exact UN
     have gq:C4 f o4 (i7 fr) G qq=none:=by unfold C4;rw[b9 Vf.symm];exact UO
     have sF:Same (C4 f o4 (i7 fr) G) (C4 f o4 (i7 fr) G6):=λb u e=>by
      unfold C4 at e⊢;by_cases hb:b=f
      .subst hb;rw[d6] at e⊢;exact e
      .rw[b9 hb] at e⊢;exact s08 _ _ e
     have fz:∀{b:Addr},b≠f->C4 f o4 (i7 fr) G6 b=G6 b:=λhb=>by unfold C4;rw[b9 hb]
     have P1n:∀x∈(S.W.pts.filter λx=>!decide (x.1∈og)),x.1∈b7 S.W:=λx hx=>Kf _ (Kd.mpr ⟨x,(Kp.mp hx).1,rfl⟩);have T1n:∀x∈(S.W.ts.filter λx=>!decide (x.1∈og)),x.1∈b7 S.W:=λx hx=>Kk _ (Kd.mpr ⟨x,(Kp.mp hx).1,rfl⟩);have P1d:=N4 (p:=λx:Str×Str=>!decide (x.1∈og)) (E5 hS.nd);have T1d:=N4 (p:=λx:Str×N3=>!decide (x.1∈og)) (O8 hS.nd);have lP:=Km (λx:Str×Str=>!decide (x.1∈og)) S.W.pts;have lT:=Km (λx:Str×N3=>!decide (x.1∈og)) S.W.ts;have WN:∀x,x∈(S.W.pts.filter λx=>!decide (x.1∈og))↔x∈S.W.pts/\x.1∉gsW L.W R.W (i7 (pr.map swp)):=λx=>by
      rw[Kp,Lw,Li,hog]
     have WQ:∀x,x∈(S.W.ts.filter λx=>!decide (x.1∈og))↔x∈S.W.ts/\x.1∉gsW L.W R.W (i7 (pr.map swp)):=λx=>by
      rw[Kp,Lw,Li,hog]
     generalize (S.W.pts.filter λx=>!decide (x.1∈og))=P1 at p8 P1n P1d lP WN;generalize (S.W.ts.filter λx=>!decide (x.1∈og))=T1 at w8 T1n T1d lT WQ;refine O0 (n:=(i7 fr).length) (λi σ H'=>(∃v7 v10 v11 v12 v13,σ=[some (.ref S.a),some (.ref st),some (.ref r),some (.ref m),some (.ref f),some (.ref lo),some (.ref pp),v7,some (.ref qq),some (.ref nd),v10,v11,v12,v13])/\Same (C4 f o4 (i7 fr) G) H'/\H' nd=some (.dK (i7 (pr.map swp)++i7 fr))/\∃(P2:List (Str×Str)) (T2:List (Str×N3)) (kq:List (j6×V)),H' pp=some (.dK (i7 (P1++P2)))/\H' qq=some (.dK kq)/\TiesIs K H' kq (T1++T2)/\((P1++P2).map (·.1)).Nodup/\((T1++T2).map (·.1)).Nodup/\P2.length+T2.length<=i/\(∀x,x∈P2↔∃w,(w,x.1)∈fr.take i/\(w,x.2)∈R.W.pts)/\∀x,x∈T2↔∃w b e,(w,x.1)∈fr.take i/\(w,(x.2.1,b,e))∈R.W.ts/\x.2.2.1=bh L.W (i7 (pr.map swp)) (i7 fr) b/\x.2.2.2=bh L.W (i7 (pr.map swp)) (i7 fr) e)
      ⟨⟨_,_,_,_,_,rfl⟩,sF,by rw[fz WL];exact f8,[],[],_,by rw[fz hfp.symm,Lb];exact p8,by rw[fz Vf.symm];exact h8,by rw[Lb];exact w8.mono (N9 (o:=o4) T8.f),by rw[Lb];exact P1d,by rw[Lb];exact T1d,Ke _,(λx=>by simp),λx=>by simp⟩ (λi σ H' hi hp=>⟨hp.2.1 _ _ d6,hi⟩) ?_ ?_
     .rintro i v σ H9' H9 hi ⟨⟨v7,v10,v11,v12,v13,rfl⟩,s9,n9,P2,T2,kq9,p9,q9,w9,SX,ndT,l9,mP,mT⟩ ⟨rfl,kv,f_,rfl⟩ _ _;obtain⟨⟨wd,nm⟩,hx,rfl⟩:=az f_;have D_:=Kr hx;have e7:fr.take (i+1)=fr.take i++[(wd,nm)]:=by rw[KI,hx];rfl
      rw[k9] at hi;have Vt:=(N9 (o:=o4) TG.f).trans s9.le;have R9:=TG.r.r.at_.mono Vt;have tr9:=Vt.tup TG.r.tup;have F9:=Vt.dic (.inl TG.f);have WR:=L9 (fo.nd1 Qd) D_;have hnW:=fo.no _ D_;have hold:∀w',(w',nm)∉fr.take i:=λw' z=>by
       have z2:((fr.take (i+1)).map (·.2)).Nodup:=fo.nd.sublist ((Lv _ _).map _);rw[e7,Y3] at z2;exact(Ks.mp z2).2.2 nm (Kd.mpr ⟨(w',nm),z,rfl⟩) nm (by simp) rfl
      have E_:∀w',(w',nm)∈fr.take (i+1)↔w'=wd:=λw'=>by
       rw[e7,Kg,Kq];walk_at "X";exact⟨λz=>z.elim (λz=>absurd z (hold w')) λz=>(Mm z).1,λz=> .inr (by rw[z])⟩
      have q_:∀w' n',n'≠nm->((w',n')∈fr.take (i+1)↔(w',n')∈fr.take i):=λw' n' G_=>by
       rw[e7,Kg,Kq];walk_at "X";exact⟨λz=>z.elim id λz=>absurd (Mm z).2 G_,.inl⟩
      have ZC:wd∈b7 R.W:=(fo.mem.mp (Kd.mpr ⟨_,D_,rfl⟩)).1;have nP:nm∉(P1++P2).map (·.1):=λz=>by
       obtain⟨y,hy,ey⟩:=Kd.mp z;rcases Kg.mp hy with q|q
       .exact hnW (by have:=P1n y q;rw[show y.1=nm from ey] at this;exact this)
       .obtain⟨w',h1,_⟩:=(mP y).mp q;rw[show y.1=nm from ey] at h1;exact hold w' h1
      have nT:nm∉(T1++T2).map (·.1):=λz=>by
       obtain⟨y,hy,ey⟩:=Kd.mp z;rcases Kg.mp hy with q|q
       .exact hnW (by have:=T1n y q;rw[show y.1=nm from ey] at this;exact this)
       .obtain⟨w',_,_,h1,_⟩:=(mT y).mp q;rw[show y.1=nm from ey] at h1;exact hold w' h1
      have nmP2:∀y∈P2,y.1≠nm:=λy hy z=>nP (Kd.mpr ⟨y,Kk _ hy,z⟩);have nmT2:∀y∈T2,y.1≠nm:=λy hy z=>nT (Kd.mpr ⟨y,Kk _ hy,z⟩);have w9l:=w9.length;rw[Kj] at w9l;rfl';refine j9 tr9 ?_;rfl';refine u4 R9.tup ?_;refine aF (K1 (k:=Sum.inr wd) R9.pts) ?_;rw[M4];rfl';refine M9 (λc1=>?_) (λc1=>?_)
      .obtain⟨⟨wd',kd⟩,hk,ek⟩:=Kd.mp c1;have VS:wd'=wd:=ek;subst VS;have noT:wd'∉R.W.ts.map (·.1):=λz=>(Ks.mp Qd).2.2 wd' c1 wd' z rfl;rfl';refine j9 tr9 ?_;rfl';refine u4 R9.tup ?_;rfl';refine z0 (v:= .str kd) (by have z:=K1 (k:=Sum.inr wd') R9.pts;rw[L9 (E5 Qd) hk] at z;exact z) ?_;rfl';refine z0 (v:= .str nm) (by have z:=K1 (k:=Sum.inr wd') F9;rw[WR] at z;exact z) ?_;rfl';refine P9 (B5 (k:=Sum.inr nm) p9 (d0 (by rw[k9,Kj];lia)) ?_);walk_at "X";refine⟨⟨_,_,_,_,_,rfl⟩,E7 s9 gp,by rw[b9 Ut];exact n9,P2++[(nm,kd)],T2,kq9,?_,by rw[b9 hqp.symm];exact q9,K2 p9 w9,?_,ndT,by rw[Kj,Ku];lia,λy=>?_,λy=>?_⟩
       .rw[d6,←La];exact LK (λz=>some (HO.dK z)) (aq (kd:=kd) nP)
       .rw[←La,B4];exact E3 SX nP
       .rw[Kg,Kq];by_cases hy:y.1=nm
        .constructor
         .rintro(z|z)
          .exact absurd hy (nmP2 y z)
          .rw[z];exact⟨wd',(E_ wd').mpr rfl,hk⟩
         .rintro⟨w',h1,h2⟩;rw[hy] at h1;have:=(E_ w').mp h1;subst this;right;obtain⟨y1,y2⟩:=y;rw[show y1=nm from hy,show y2=kd from A5 (E5 Qd) h2 hk]
        .rw[mP];constructor
         .rintro(⟨w',h1,h2⟩|z)
          .walk_at "X";exact⟨w',(q_ w' _ hy).mpr h1,h2⟩
          .exact absurd (by rw[z]) hy
         .rintro⟨w',h1,h2⟩;exact .inl ⟨w',(q_ w' _ hy).mp h1,h2⟩
       .rw[mT];by_cases hy:y.1=nm
        .constructor
         .rintro⟨w',b,e,h1,h2⟩;rw[hy] at h1;exact absurd h1 (hold w')
         .rintro⟨w',b,e,h1,h2,_⟩;rw[hy] at h1;have:=(E_ w').mp h1;subst this;exact absurd (Kd.mpr ⟨_,h2,rfl⟩) noT
        .constructor
         .rintro⟨w',b,e,h1,h2⟩;walk_at "X";exact⟨w',b,e,(q_ w' _ hy).mpr h1,h2⟩
         .rintro⟨w',b,e,h1,h2⟩;walk_at "X";exact⟨w',b,e,(q_ w' _ hy).mp h1,h2⟩
      .have hwT:wd∈R.W.ts.map (·.1):=(Kg.mp ZC).elim (λz=>absurd z c1) id;obtain⟨aa,⟨y1,y2,y3⟩,v1,v2,v3⟩:=TiesIs.val (ts:=R.W.ts) R9.ts hwT;have Pw:=TG.r.r.ends _ v2;obtain⟨g21,g22⟩:=nu mp fo Qd (Kf _ Pw.1);obtain⟨g31,g32⟩:=nu mp fo Qd (Kf _ Pw.2);rfl';refine Q1 ?_;rfl';refine j9 tr9 ?_;rfl';refine j9 R9.tup ?_;rfl';refine z0 (v:= .ref aa) (by have z:=K1 (k:=Sum.inr wd) R9.ties;rw[v1] at z;exact z) ?_;refine I0 (xs:=[.str y1,.str y2,.str y3]) v3 rfl ?_;rfl';refine wK (.inl n9) g21 ?_;rw[g22];rfl';refine wK (.inl n9) g31 ?_;rw[g32];rfl';refine⟨d0 (by simp),λlt nlt=>?_⟩;obtain⟨HA,eA,fA,mA,_⟩:=b5 (o:= .tup _) nlt;rw[eA];rfl';refine z0 (v:= .str nm) (by have z:=K1 (k:=Sum.inr wd) (mA.rd F9);rw[WR] at z;exact z) ?_;rfl';refine P9 (B5 (k:=Sum.inr nm) (mA _ _ q9) (d0 (by lia)) ?_);walk_at "X";refine⟨⟨_,_,_,_,_,rfl⟩,E7 (s9.trans mA) gq,by rw[b9 Uv];exact mA _ _ n9,P2,T2++[(nm,(y1,bh L.W (i7 (pr.map swp)) (i7 fr) y2,bh L.W (i7 (pr.map swp)) (i7 fr) y3))],_,by rw[b9 hqp];exact mA _ _ p9,d6,?_,SX,?_,by rw[Kj,Ku];lia,λy=>?_,λy=>?_⟩
       .rw[←La];exact K2 (mA _ _ q9) (lE (w9.mono mA.le) nT (SqT.of fA))
       .rw[←La,B4];exact E3 ndT nT
       .rw[mP];by_cases hy:y.1=nm
        .constructor
         .rintro⟨w',h1,h2⟩;rw[hy] at h1;exact absurd h1 (hold w')
         .rintro⟨w',h1,h2⟩;rw[hy] at h1;have:=(E_ w').mp h1;subst this;exact absurd (Kd.mpr ⟨_,h2,rfl⟩) c1
        .constructor
         .rintro⟨w',h1,h2⟩;walk_at "X";exact⟨w',(q_ w' _ hy).mpr h1,h2⟩
         .rintro⟨w',h1,h2⟩;walk_at "X";exact⟨w',(q_ w' _ hy).mp h1,h2⟩
       .rw[Kg,Kq];by_cases hy:y.1=nm
        .constructor
         .rintro(z|z)
          .exact absurd hy (nmT2 y z)
          .rw[z];exact⟨wd,y2,y3,(E_ wd).mpr rfl,v2,rfl,rfl⟩
         .rintro⟨w',b,e,h1,h2,h3,h4⟩;rw[hy] at h1;have:=(E_ w').mp h1;subst this;right;have z:=A5 (O8 Qd) h2 v2;obtain⟨z1,z2⟩:=Mm z;obtain⟨z3,z4⟩:=Mm z2;obtain⟨q0,q1,q2,q3⟩:=y;have h3':q2=bh L.W (i7 (pr.map swp)) (i7 fr) b:=h3;have h4':q3=bh L.W (i7 (pr.map swp)) (i7 fr) e:=h4;have z1':q1=y1:=z1;rw[show q0=nm from hy,z1',h3',h4',z3,z4]
        .rw[mT];constructor
         .rintro(⟨w',b,e,h1,h2⟩|z)
          .walk_at "X";exact⟨w',b,e,(q_ w' _ hy).mpr h1,h2⟩
          .exact absurd (by rw[z]) hy
         .rintro⟨w',b,e,h1,h2⟩;exact .inl ⟨w',b,e,(q_ w' _ hy).mp h1,h2⟩
     .rintro σ H9 ⟨⟨v7,v10,v11,v12,v13,rfl⟩,s9,n9,P2,T2,kq9,p9,q9,w9,SX,ndT,l9,mP,mT⟩;refine⟨⟨s9 _ _ d6,Ke _⟩,?_⟩;rw[k9,Kl (Ke _)] at mP mT;have sA:=s9.thaw TG.f;have pA:thaw f H9 pp=some (.dK (i7 (P1++P2))):=by rw[Q6 hfp.symm];exact p9
      have qA:thaw f H9 qq=some (.dK kq9):=by rw[Q6 Vf.symm];exact q9
      have wA:=w9.mono (oD (d:=f));change xS _ _ _ (thaw f H9);generalize thaw f H9=HA at sA pA qA wA⊢;rfl';refine⟨d0 (by simp),λa' na=>?_⟩;obtain⟨HB,eB,fB,mB,_⟩:=b5 (o:= .tup _) na;rw[eB];refine k ⟨a',pp,qq,kq9,⟨P1++P2,T1++T2⟩⟩ HB (s2.trans (sA.trans mB)) ⟨SqT.of fB,.inl (mB _ _ pA),.inl (mB _ _ qA),wA.mono mB.le⟩ (mB _ _ pA) (mB _ _ qA) hqp (s2.free UN) (s2.free UO) SX ndT (λx=>?_) (λx=>?_)
      .show x∈P1++P2↔_;unfold xo;rw[Kg,WN,mP]
      .show x∈T1++T2↔_;unfold wQ;rw[Kg,WQ,mT]
theorem iC {f:Str->Str}:∀{l:List Str},l.Nodup->(∀a∈l,∀b∈l,f a=f b->a=b)->(l.map f).Nodup
 |[],_,_=>LF
 |x::r,nd,h=>by
  have nd':=LA.mp nd;refine LA.mpr ⟨λm=>?_,iC nd'.2 λa ha b hb=>h a (KL _ ha) b (KL _ hb)⟩;obtain⟨y,hy,e⟩:=Kd.mp m;exact nd'.1 ((h y (KL _ hy) x Kz e)▸hy)
def ae {l:List (Str×Str)}{n m s:Str}(nd:(l.map (·.2)).Nodup)(h1:(n,s)∈l)(h2:(m,s)∈l):n=m:=
 A5 (l:=l.map swp) (n:=s) (by rw[dR];exact nd) (Kd.mpr ⟨_,h1,rfl⟩) (Kd.mpr ⟨_,h2,rfl⟩)
section
variable {W L R:C9} {os:List Str} {pr fr:List (Str×Str)}
def MP.inW (h:MP W os pr L.pts L.ts (b7 R)){n w:Str}(hx:(n,w)∈pr):n∈b7 W:=by
 have hw:=h.inL hx;rcases Kg.mp hw with z|z
 .obtain⟨⟨w',k⟩,hy,e⟩:=Kd.mp z;have e':w'=w:=e;subst e';obtain⟨n',h1,h2⟩:=h.pt _ hy;rw[ae h.n2 hx h1];exact Kf _ (Kd.mpr ⟨_,h2,rfl⟩)
 .obtain⟨⟨w',k⟩,hy,e⟩:=Kd.mp z;have e':w'=w:=e;subst e';obtain⟨n',b,e2,h1,_,_,h2⟩:=h.ti _ hy;rw[ae h.n2 hx h1];exact Kk _ (Kd.mpr ⟨_,h2,rfl⟩)
def MP.fit (h:MP W os pr L.pts L.ts (b7 R)):FitP L W (i7 (pr.map swp)):=by
 refine⟨?_,h.txt,?_,λx hx=>?_,λx hx=>?_⟩
 .have z:=LK List.length h.wd;rw[Kb] at z;rw[k9,Kb,z];rfl
 .have e:(b7 L).map (j4 (i7 (pr.map swp)))=pr.map (·.1):=by
   rw[show b7 L=pr.map (·.2) from h.wd.symm,Lf];exact LB λx hx=>(h.at_ (n:=x.1) (w:=x.2) hx).2
  rw[e];exact h.n1
 .obtain⟨n,h1,h2⟩:=h.pt x hx;rw[(h.at_ h1).2];exact h2
 .obtain⟨n,b,e,h1,h2,h3,h4⟩:=h.ti x hx;rw[(h.at_ h1).2,(h.at_ h2).2,(h.at_ h3).2];exact h4
def gc (km kf:List (j6×V)){n:Str}(h:n∈b7 L):bh L km kf n=j4 km n:=by unfold bh;rw[if_pos h]
def gE (km kf:List (j6×V)){n:Str}(h:n∉b7 L):bh L km kf n=j4 kf n:=by unfold bh;rw[if_neg h]
def GO (h:MP W os pr L.pts L.ts (b7 R))(fo:FrOk W L R fr)(ndR:(b7 R).Nodup)(lo:∀n x,(n,x)∈W.ts->(x.2.1∈os\/x.2.2∈os)->n∈os)(hs:∀n∈os,n∈pr.map (·.1)):Gh W L R (i7 (pr.map swp)) fr:=by
 refine⟨h.fit,λx hx hn=>?_,fo,iC ndR λa ha b hb e=>?_⟩
 .rw[h.gsos hs] at hn⊢;rw[h.gsos hs];exact⟨λz=>hn (lo x.1 x.2 hx (.inl z)),λz=>hn (lo x.1 x.2 hx (.inr z))⟩
 .by_cases hA:a∈b7 L<;>by_cases hB:b∈b7 L
  .rw[gc _ _ hA,gc _ _ hB] at e;have z1:=h.of_ hA;rw[e] at z1;exact A5 h.n1 z1 (h.of_ hB)
  .rw[gc _ _ hA,gE _ _ hB] at e;exact absurd (e▸h.inW (h.of_ hA)) (fo.no _ (fo.txt ndR (fo.mem.mpr ⟨hb,hB⟩)).2)
  .rw[gE _ _ hA,gc _ _ hB] at e;exact absurd (e▸h.inW (h.of_ hB)) (fo.no _ (fo.txt ndR (fo.mem.mpr ⟨ha,hA⟩)).2)
  .rw[gE _ _ hA,gE _ _ hB] at e;have z1:=(fo.txt ndR (fo.mem.mpr ⟨ha,hA⟩)).2;rw[e] at z1;exact ae fo.nd z1 (fo.txt ndR (fo.mem.mpr ⟨hb,hB⟩)).2
def pI (h:MP W os pr L.pts L.ts (b7 R)){w:Str}(hL:w∈b7 L)(hR:w∈b7 R):j4 (i7 (pr.map swp)) w∉gsW L R (i7 (pr.map swp)):=λz=>by
 obtain⟨w',h1,h2⟩:=(h.gs _).mp z;exact h2 (A5 h.n1 h1 (h.of_ hL)▸hR)
def zI {α:Type}{A B:List (Str×α)}{x:Str×α}:x∈(A.filter λx=>!decide (x.1∈B.map (·.1)))++B↔(x∈A/\x.1∉B.map (·.1))\/x∈B:=by
 rw[Kg,Kp,Lw,Li]
def rn (fo:FrOk W L R fr)(ndR:(b7 R).Nodup){w n:Str}(h:(w,n)∈fr)(km:List (j6×V)):bh L km (i7 fr) w=n:=by
 rw[gE _ _ (fo.mem.mp (Kd.mpr ⟨_,h,rfl⟩)).2];exact(aT (fo.nd1 ndR) h).2
def AX {bs:List Sd}(h:MP W os pr L.pts L.ts (b7 R))(ok:fg L R bs)(fo:FrOk W L R fr)(ndR:(b7 R).Nodup)(Vd:(b7 W).Nodup)(x:Str×Str):x∈(jl W L R (i7 (pr.map swp)) (i7 fr)).pts↔xo W L R (i7 (pr.map swp)) fr x:=by
 show x∈((bf (gsW L R (i7 (pr.map swp))) W).pts.filter λx=>!decide (x.1∈(Z9 (bh L (i7 (pr.map swp)) (i7 fr)) R).pts.map (·.1)))++(Z9 (bh L (i7 (pr.map swp)) (i7 fr)) R).pts↔_;rw[zI];have Sb:∀y,y∈(bf (gsW L R (i7 (pr.map swp))) W).pts↔y∈W.pts/\y.1∉gsW L R (i7 (pr.map swp)):=λy=>by
  show y∈W.pts.filter _↔_;rw[Kp,Lw,Li]
 have TZ:∀w k,(w,k)∈R.pts->w∈b7 L->(j4 (i7 (pr.map swp)) w,k)∈W.pts/\j4 (i7 (pr.map swp)) w∉gsW L R (i7 (pr.map swp)):=λw k hw hL=>by
  have hR:w∈b7 R:=Kf _ (Kd.mpr ⟨_,hw,rfl⟩);exact⟨h.fit.pts _ (((ok.ag w hL hR).p k).mpr hw),pI h hL hR⟩
 rw[Sb];constructor
 .rintro(⟨⟨h1,h2⟩,_⟩|hx)
  .exact .inl ⟨h1,h2⟩
  .obtain⟨⟨w,k⟩,hw,rfl⟩:=Kd.mp hx;by_cases hL:w∈b7 L
   .left;show(bh L _ _ w,k)∈W.pts/\bh L _ _ w∉_;rw[gc _ _ hL];exact TZ w k hw hL
   .right;have hR:w∈b7 R:=Kf _ (Kd.mpr ⟨_,hw,rfl⟩);refine⟨w,?_,hw⟩;show(w,bh L _ _ w)∈fr;rw[gE _ _ hL];exact(fo.txt ndR (fo.mem.mpr ⟨hR,hL⟩)).2
 .rintro(⟨h1,h2⟩|⟨w,h1,h2⟩)
  .by_cases hx:x.1∈(Z9 (bh L (i7 (pr.map swp)) (i7 fr)) R).pts.map (·.1)
   .right;obtain⟨y,hy,ey⟩:=Kd.mp hx;obtain⟨⟨w,k⟩,hw,rfl⟩:=Kd.mp hy;have Sr:bh L (i7 (pr.map swp)) (i7 fr) w=x.1:=ey;have hR:w∈b7 R:=Kf _ (Kd.mpr ⟨_,hw,rfl⟩);by_cases hL:w∈b7 L
    .have z:=(TZ w k hw hL).1;rw[←gc (i7 (pr.map swp)) (i7 fr) hL,Sr] at z;have e2:x.2=k:=A5 (E5 Vd) h1 z;refine Kd.mpr ⟨(w,k),hw,?_⟩;show(bh L _ _ w,k)=x;rw[Sr,←e2]
    .rw[gE _ _ hL] at Sr;exact absurd (Kf _ (Kd.mpr ⟨x,h1,rfl⟩)) (Sr▸fo.no _ (fo.txt ndR (fo.mem.mpr ⟨hR,hL⟩)).2)
   .exact .inl ⟨⟨h1,h2⟩,hx⟩
  .right;refine Kd.mpr ⟨(w,x.2),h2,?_⟩;show(bh L _ _ w,x.2)=x;rw[rn fo ndR h1]
def FE {bs:List Sd}(h:MP W os pr L.pts L.ts (b7 R))(ok:fg L R bs)(fo:FrOk W L R fr)(ndR:(b7 R).Nodup)(Vd:(b7 W).Nodup)(eL:∀x∈L.ts,x.2.2.1∈L.pts.map (·.1)/\x.2.2.2∈L.pts.map (·.1))(x:Str×N3):x∈(jl W L R (i7 (pr.map swp)) (i7 fr)).ts↔wQ W L R (i7 (pr.map swp)) fr x:=by
 show x∈((bf (gsW L R (i7 (pr.map swp))) W).ts.filter λx=>!decide (x.1∈(Z9 (bh L (i7 (pr.map swp)) (i7 fr)) R).ts.map (·.1)))++(Z9 (bh L (i7 (pr.map swp)) (i7 fr)) R).ts↔_;rw[zI];have Sb:∀y,y∈(bf (gsW L R (i7 (pr.map swp))) W).ts↔y∈W.ts/\y.1∉gsW L R (i7 (pr.map swp)):=λy=>by
  show y∈W.ts.filter _↔_;rw[Kp,Lw,Li]
 have T':∀w k b e,(w,(k,b,e))∈R.ts->w∈b7 L->(bh L (i7 (pr.map swp)) (i7 fr) w,(k,bh L (i7 (pr.map swp)) (i7 fr) b,bh L (i7 (pr.map swp)) (i7 fr) e))∈W.ts/\bh L (i7 (pr.map swp)) (i7 fr) w∉gsW L R (i7 (pr.map swp)):=λw k b e hw hL=>by
  have hR:w∈b7 R:=Kk _ (Kd.mpr ⟨_,hw,rfl⟩);have hl:=((ok.ag w hL hR).t (k,b,e)).mpr hw;have Pw:=eL _ hl;have z:=h.fit.ts _ hl;rw[gc _ _ hL,gc _ _ (Kf _ Pw.1),gc _ _ (Kf _ Pw.2)];exact⟨z,pI h hL hR⟩
 rw[Sb];constructor
 .rintro(⟨⟨h1,h2⟩,_⟩|hx)
  .exact .inl ⟨h1,h2⟩
  .obtain⟨⟨w,k,b,e⟩,hw,rfl⟩:=Kd.mp hx;by_cases hL:w∈b7 L
   .exact .inl (T' w k b e hw hL)
   .right;have hR:w∈b7 R:=Kk _ (Kd.mpr ⟨_,hw,rfl⟩);refine⟨w,b,e,?_,hw,rfl,rfl⟩;show(w,bh L _ _ w)∈fr;rw[gE _ _ hL];exact(fo.txt ndR (fo.mem.mpr ⟨hR,hL⟩)).2
 .rintro(⟨h1,h2⟩|⟨w,b,e,h1,h2,h3,h4⟩)
  .by_cases hx:x.1∈(Z9 (bh L (i7 (pr.map swp)) (i7 fr)) R).ts.map (·.1)
   .right;obtain⟨y,hy,ey⟩:=Kd.mp hx;obtain⟨⟨w,k,b,e⟩,hw,rfl⟩:=Kd.mp hy;have Sr:bh L (i7 (pr.map swp)) (i7 fr) w=x.1:=ey;have hR:w∈b7 R:=Kk _ (Kd.mpr ⟨_,hw,rfl⟩);by_cases hL:w∈b7 L
    .have z:=(T' w k b e hw hL).1;rw[Sr] at z;have e2:x.2=(k,bh L (i7 (pr.map swp)) (i7 fr) b,bh L (i7 (pr.map swp)) (i7 fr) e):=A5 (O8 Vd) h1 z;refine Kd.mpr ⟨(w,(k,b,e)),hw,?_⟩;show(bh L _ _ w,(k,bh L _ _ b,bh L _ _ e))=x;rw[Sr,←e2]
    .rw[gE _ _ hL] at Sr;exact absurd (Kk _ (Kd.mpr ⟨x,h1,rfl⟩)) (Sr▸fo.no _ (fo.txt ndR (fo.mem.mpr ⟨hR,hL⟩)).2)
   .exact .inl ⟨⟨h1,h2⟩,hx⟩
  .right;refine Kd.mpr ⟨(w,(x.2.1,b,e)),h2,?_⟩;show(bh L _ _ w,(x.2.1,bh L _ _ b,bh L _ _ e))=x;rw[rn fo ndR h1,←h3,←h4]
def V3 {α:Type}{l:List (Str×α)}(h:(l.map (·.1)).Nodup):l.Nodup:=List.Pairwise.of_map (·.1) (λa b XF e=>XF (by rw[e])) h
end
def SdIs.copy {H H':Hp}{L:Sd}{a p q:Addr}(h:SdIs K H L)(s:Same H H')(t:SqT K H' a [.ref p,.ref q])(hp:H' p=some (.dK (i7 L.W.pts)))(hq:H' q=some (.dK L.kvs))(ne:p≠q):SdIs K H' ⟨a,p,q,L.kvs,L.W⟩:=
 ⟨⟨t,.inl hp,.inl hq,h.at_.ts.mono s.le⟩,hp,hq,ne,h.nd,h.len,h.ends,h.nl⟩
structure Cpy (K:Qc) (H H':Hp) (L C:Sd):Prop where
 i:SdIs K H' C
 k:C.kvs=L.kvs
 w:C.W=L.W
 p:H C.p=none
 q:H C.q=none
def Cpy.same {H H1 H2:Hp}{L C:Sd}(h:Cpy K H H1 L C)(s:Same H1 H2):Cpy K H H2 L C:=⟨h.i.same s,h.k,h.w,h.p,h.q⟩
theorem mU {α β:Type}{F:α->β->Prop}:∀{l:List α} {m:List β},l.length=m.length->(∀(j:Nat) (a:α) (b:β),l[j]?=some a->m[j]?=some b->F a b)->Paired F l m
 |[],[],_,_=> .nil
 |a::l,b::m,h,f=> .cons (f 0 a b rfl rfl) (mU (by simpa using h) λj x y hx hy=>f (j+1) x y hx hy)
def cK {α β : Type} {F : α -> β -> Prop} : ∀ {l : List α} {m : List β} {j : Nat} {b : β}, Paired F l m -> m[j]? = some b -> ∃ a, l[j]? = some a /\ F a b
 := by
  intro l m j b hp h;induction hp generalizing j with
  | nil => cases h
  | cons z t ih => cases j with
    | zero => cases h; exact ⟨_, rfl, z⟩
    | succ j => exact ih h
def Ht (a b:V)(l:List V):fJ (a::b::l) (some 2) none=l:=by
 unfold fJ;have e1:HT.sIx (a::b::l).length 0 (some ((2:Nat):Int))=min 2 (a::b::l).length:=HT.sIx_nat _ _ _;have e2:HT.sIx (a::b::l).length (a::b::l).length none=(a::b::l).length:=rfl;rw[show(some (2:Int))=some ((2:Nat):Int) from rfl,e1,e2];have e3:min 2 (a::b::l).length=2:=by simp
 rw[e3];show l.take _=l;exact Kl (by simp)
def gj (K:Qc):Sp:=λvs H Q _=>∃(st r m f bl:Addr) (L R:Sd) (km kf:List (j6×V)) (bs:List Sd),vs=[.ref st]/\StI K H st r m f bl L R km kf bs/\bs.length<=10/\∀(v_ r' m' f' SR:Addr) (L' R':Sd) (L_:List Sd) (H':Hp),Same H H'->StI K H' v_ r' m' f' SR L' R' km kf L_->Cpy K H H' L L'->Cpy K H H' R R'->Paired (Cpy K H H') bs L_->H m'=none->H f'=none->H SR=none->(∀c∈L_,m'≠c.p/\m'≠c.q)->Q (.ref v_) H'
abbrev dD:=λP w K mg base=>U0 P w K mg base F0 1 "_law_copy" ["_law_step_here"] [] (gj K)
def oT {f fd}(T:Txt K mg)(F:Fun K "_law_copy" "_law_copy" cM f fd):C5 P w K mg base F0 1 f fd ["_law_step_here"] (gj K):=by
 walk_at "#sc__law_copy"
 .obtain⟨st,r,m,f,bl,L,R,km,kf,bs,rfl,_⟩:=h;rfl
 .obtain⟨st,r,m,f,bl,L,R,km,kf,bs,rfl,hT,RM,k⟩:=h;walk_at "@sc__law_copy ,00xc19c29c39y*4_law_web_here;;rfUg111111vh0k_law_web_here;vDvmgK310K3108msms14g14.04:2/gK62K63"
  refine Q1 ?_;rfl';refine I0 hT.tup rfl ?_;rfl';refine Q1 ?_;rfl';refine u4 hT.r.tup ?_;rfl';refine j9 hT.r.tup ?_;rfl';refine⟨d0 (by simp),λl1 n1=>?_⟩;obtain⟨H1,e1,f1,m1,_⟩:=b5 (o:= .lst _) n1;rw[e1];have T1:=hT.same m1;rfl';refine cw T1.r.tup ?_;rfl';refine mV f1 T1.b (d0 (by simp;lia)) (λl2 n2=>?_);rw[show [V.ref L.a,.ref R.a]++(bs.map λs=>V.ref s.a)=(L::R::bs).map λs=>V.ref s.a from rfl];obtain⟨H2,e2,f2,m2,_⟩:=b5 (o:= .lst _) n2;rw[e2];have TV:=m1.trans m2;have YQ:(L::R::bs).length<=12:=by simp;lia
  have o_:∀(i:Nat) (v:V),((L::R::bs).map λs=>V.ref s.a)[i]?=some v->∃s:Sd,(L::R::bs)[i]?=some s/\v= .ref s.a/\SdIs K H s:=λi v hv=>by
   rw[Kh] at hv;obtain⟨s,hs,e⟩:=KN.mp hv;refine⟨s,hs,e.symm,?_⟩;rcases Lh.mp (Kr hs) with rfl|z
   .exact hT.r.l
   .rcases Lh.mp z with rfl|z
    .exact hT.r.r
    .exact hT.r.bars s z
  refine A8 (SqL.of f2) ?_;refine z8 (n:=((L::R::bs).map λs=>V.ref s.a).length) (λi out H'=>Same H2 H'/\∃cs:List Sd,out=cs.map (λs=>V.ref s.a)/\cs.length=i/\∀(j:Nat) (c s:Sd),cs[j]?=some c->(L::R::bs)[j]?=some s->Cpy K H H' s c) ⟨Same.refl _,[],rfl,rfl,λj c s h=>by simp at h⟩ (λi out H' hi hp=>⟨_,_,SqL.of (hp.1 _ _ f2),Kc hi⟩) ?_ ?_
  .rintro N i v out H3' H3 hi ⟨s3,cs,rfl,I_,Tv⟩ y hN';obtain⟨rfl,hx⟩:=Itl.get y (SqL.of (s3 _ _ f2));obtain⟨S,hS1,rfl,hS⟩:=o_ i v hx;have UQ:=TV.trans s3;have S3:=hS.same UQ;rw[Kb] at hi;rfl';refine⟨rfl,?_⟩;rfl';refine u4 S3.at_.tup ?_;rfl';refine K6 S3.at_.pts (λp np=>?_);obtain⟨H4,e4,f4,m4,_⟩:=b5 (o:= .dK _) np;rw[e4];have S4:=S3.same m4;rfl';refine j9 S4.at_.tup ?_;rfl';refine K6 S4.at_.ties (λq nq=>?_);obtain⟨H5,e5,f5,m5,_⟩:=b5 (o:= .dK _) nq;rw[e5];rfl';refine⟨d0 (by simp),λa na=>?_⟩;obtain⟨H6,e6,f6,m6,_⟩:=b5 (o:= .tup _) na;rw[e6];have RF:=m4.trans (m5.trans m6);refine⟨d0 (by rw[Kb];lia),hN' _ _ ⟨s3.trans RF,cs++[⟨a,p,q,S.kvs,S.W⟩],by rw[Ki];rfl,by rw[Kj,I_];rfl,λj c s hj hs=>?_⟩⟩;by_cases hji:j<cs.length
   .rw[Lm hji] at hj;exact(Tv j c s hj hs).same RF
   .rw[Lx (by lia)] at hj;have hj0:j=i:=by
     by_cases z:j -cs.length=0
     .lia
     .rw[LH (by simp;lia)] at hj;cases hj
    subst hj0;rw[show j -cs.length=0 by lia] at hj;cases hj;rw[hS1] at hs;cases hs;exact⟨hS.copy (UQ.trans RF) (SqT.of f6) (m6 _ _ (m5 _ _ f4)) (m6 _ _ f5) (d9 f4 nq),rfl,rfl,UQ.free np,UQ.free (m4.free nq)⟩
  .rintro out H3 ⟨s3,cs,rfl,I_,Tv⟩;rw[Kb] at I_;refine⟨⟨_,SqL.of (s3 _ _ f2),Ke _⟩,λlp nlp=>⟨d0 (by rw[Kb];lia),?_⟩⟩;obtain⟨C1,C2,cb,rfl⟩:∃C1 C2 cb,cs=C1::C2::cb:=by
    match cs,I_ with
    |C1::C2::cb,_=>exact⟨C1,C2,cb,rfl⟩
   have c1:=Tv 0 C1 L rfl rfl;have c2:=Tv 1 C2 R rfl rfl;have hcb:cb.length=bs.length:=by simpa using I_
   have cbs:Paired (Cpy K H H3) bs cb:=mU hcb.symm λj s c hs hc=>Tv (j+2) c s hc hs;obtain⟨H4,e4,f4,m4,_⟩:=b5 (H:=H3) (o:= .lst ((C1::C2::cb).map λs=>V.ref s.a)) nlp;change O7 _ _ _ (upd H3 lp (.lst ((C1::C2::cb).map λs=>V.ref s.a))) _;rw[e4];have Qy:=TV.trans (s3.trans m4);have T4:=hT.same Qy;rfl';refine j5 (SqL.of f4) (k7 (j:=0) rfl) ?_;rfl';refine j5 (SqL.of f4) (k7 (j:=1) rfl) ?_;rfl';refine Ap (SqL.of f4) (λSR nbl=>?_);rw[show fJ ((C1::C2::cb).map λs=>V.ref s.a) (some 2) none=cb.map λs=>V.ref s.a from Ht _ _ _];obtain⟨H5,e5,f5,m5,_⟩:=b5 (o:= .lst (cb.map λs=>V.ref s.a)) nbl;rw[e5];rfl';refine⟨d0 (by simp),λr' nr=>?_⟩;obtain⟨H6,e6,f6,m6,_⟩:=b5 (o:= .tup _) nr;rw[e6];have RR:=m5.trans m6;rfl';refine K6 (.inl (RR _ _ T4.m)) (λm' nm=>?_);obtain⟨H7,e7,f7,m7,_⟩:=b5 (o:= .dK _) nm;rw[e7];rfl';refine K6 (.inl (m7 _ _ (RR _ _ T4.f))) (λf' nf=>?_);obtain⟨H8,e8,f8,m8,_⟩:=b5 (o:= .dK _) nf;rw[e8];rfl';refine⟨d0 (by simp),λv_ nst=>?_⟩;obtain⟨H9,e9,f9,m9,_⟩:=b5 (o:= .tup _) nst;rw[e9];have XG:=m7.trans (m8.trans m9);have XH:=RR.trans XG;have d1:=c1.same (m4.trans XH);have d2:=c2.same (m4.trans XH);have d3:Paired (Cpy K H H9) bs cb:=Paired.imp' (λ_ _ z=>z.same (m4.trans XH)) cbs;have d4:∀c∈cb,m'≠c.p/\m'≠c.q:=λc hc=>by
    obtain⟨j,hj⟩:=LZ hc;obtain⟨s,_,z⟩:=cK cbs hj;have z':=z.i.same (m4.trans RR);exact⟨(d9 z'.hp nm).symm,(d9 z'.hq nm).symm⟩
   exact k v_ r' m' f' SR C1 C2 cb H9 (Qy.trans XH) ⟨SqT.of f9,⟨SqT.of (XG _ _ f6),d1.i,d2.i,SqL.of (XG _ _ (m6 _ _ f5)),λc hc=>by
    obtain⟨j,hj⟩:=LZ hc;obtain⟨s,_,z⟩:=cK d3 hj;exact z.i⟩,m9 _ _ (m8 _ _ f7),m9 _ _ f8,XG _ _ (m6 _ _ f5)⟩ d1 d2 d3 (Qy.free (RR.free nm)) (Qy.free (RR.free (m7.free nf))) (Qy.free nbl) d4
def gJ (K:Qc):Sp:=λvs H Q _=>∃(A B:Sd),vs=[.ref A.a,.ref B.a]/\WebAt K H A.a A.p A.q A.kvs A.W/\WebAt K H B.a B.p B.q B.kvs B.W/\A.W.pts.Perm B.W.pts/\A.W.ts.Perm B.W.ts/\(B.W.pts.map (·.1)).Nodup/\(B.W.ts.map (·.1)).Nodup/\A.p≠B.p/\A.q≠B.q/\Q (.bl true) H
abbrev jh:=λP w K mg base=>U0 P w K mg base F0 1 "_law_same" ["_law_found","_law_web_here"] [] (gJ K)
def pT {f fd}(T:Txt K mg)(F:Fun K "_law_same" "_law_same" cU f fd):C5 P w K mg base F0 1 f fd ["_law_found","_law_web_here"] (gJ K):=by
 walk_at "#sc__law_same"
 .obtain⟨A,B,rfl,_⟩:=h;rfl
 .obtain⟨A,B,rfl,hA,hB,p1,p2,nd1,RD,n1,n2,k⟩:=h;walk_at "@sc__law_same bnIZTC^][703@~A'0T.b_tuple '0Boot.«tuple» -a(p602j8W8'2Cj C^][g10@~m~6~l'2Cj C^][g10@~m~6~l'1AU EN0001j"
  symm;refine iY (jo (t:="tuple") (.inr (.inl ⟨rfl,_,hA.tup⟩)) (by simp) ?_);symm;rw[if_neg (by decide)];symm;refine F2 (xk hA.tup ?_);symm;rw[if_neg (by simp)];symm;refine u4 hA.tup ?_;symm;refine iY (jo (t:="dict") (.inr (.inr ⟨rfl,_,hA.pts⟩)) (by simp) ?_);symm;rw[if_pos (by decide)];symm;refine j9 hA.tup ?_;symm;refine iY (jo (t:="dict") (.inr (.inr ⟨rfl,_,hA.ties⟩)) (by simp) ?_);symm;rw[if_pos (by decide)];symm;exact oF (zZ hA.tup hB.tup (BX n1 hA.pts hB.pts p1 nd1) (zH n2 hA.ties hB.ties hA.ts hB.ts p2 RD) k)
structure qk (L B:C9):Prop where
 p:∀x∈L.pts,x∈B.pts
 t:∀x∈L.ts,x∈B.ts
 l1:B.pts.length<=L.pts.length+2
 l2:B.ts.length<=L.ts.length+2
def Hb {ws:List Str}(u_:ws.Nodup){pts:List (Str×Str)}{j:Nat}{w:Str}(hj:12<=j)(hw:ws[j]?=some w)(h:∀n∈pts.map (·.1),Wd ws 0 8 n\/Wd ws 12 j n):w∉pts.map (·.1):=λm=>by
 rcases h w m with z|z
 .exact z.no u_ ⟨j,Ke _,Lz _,hw⟩ (.inl (by lia))
 .exact z.no u_ ⟨j,Ke _,Lz _,hw⟩ (.inl (Ke _))
def EJ {ws a b c d:List Str}(u_:ws.Nodup)(h:(a++b).Nodup)(XF:∀n∈a++b,Wd ws 0 8 n)(nc:c.Nodup)(hc:∀n∈c,Wd ws 12 14 n)(nd:d.Nodup)(hd:∀n∈d,Wd ws 14 16 n):((a++c)++(b++d)).Nodup:=by
 obtain⟨na,nb,dab⟩:=Ks.mp h;have ha:∀n∈a,Wd ws 0 8 n:=λn z=>XF n (Kf _ z);have hb:∀n∈b,Wd ws 0 8 n:=λn z=>XF n (Kk _ z);refine Ks.mpr ⟨Ks.mpr ⟨na,nc,λx hx y hy e=>?_⟩,Ks.mpr ⟨nb,nd,λx hx y hy e=>?_⟩,λx hx y hy e=>?_⟩
 .subst e;exact(ha x hx).no u_ (hc x hy) (.inl (by lia))
 .subst e;exact(hb x hx).no u_ (hd x hy) (.inl (by lia))
 .subst e;rcases Kg.mp hx with h1|h1<;>rcases Kg.mp hy with h2|h2
  .exact dab x h1 x h2 rfl
  .exact(ha x h1).no u_ (hd x h2) (.inl (by lia))
  .exact(hb x h2).no u_ (hc x h1) (.inl (by lia))
  .exact(hc x h1).no u_ (hd x h2) (.inl (by lia))
def uL {ws:List Str}{a b:Nat}{n:Str}(wk:∀s∈ws,K7 s=true)(h:Wd ws a b n):n.length<=100:=by
 obtain⟨j,_,_,hj⟩:=h;have:=mS (wk n (Kr hj));lia
def iT (K:Qc):Sp:=λvs H Q _=>∃(L:Sd) (lx lw lk:Addr) (xs:List Int) (ws ks:List Str) (k:Int),vs=[.ref L.a,.ref lx,.ref lw,.ref lk,.int k]/\0<=k/\k<=10/\SdIs K H L/\(b7 L.W).length<=8/\(∀n∈b7 L.W,Wd ws 0 8 n)/\SqL K H lx (xs.map V.int)/\xs.length=16/\(∀x∈xs,0<=x)/\SqL K H lw (ws.map V.str)/\xV ws/\SqL K H lk (ks.map V.str)/\tM ks/\
 ∀(B:Sd) (H':Hp),Same H H'->SdIs K H' B->qk L.W B.W->H B.p=none->H B.q=none->Q (.ref B.a) H'
abbrev kj:=λP w K mg base=>U0 P w K mg base F0 1 "_law_bar" ["_law_left","_law_xs","_law_words_here","_law_kinds","_law_k"] [] (iT K)
def qJ {f fd}(T:Txt K mg)(F:Fun K "_law_bar" "_law_bar" fj f fd):C5 P w K mg base F0 1 f fd ["_law_left","_law_xs","_law_words_here","_law_kinds","_law_k"] (iT K):=by
 walk_at "#sc__law_bar"
 .obtain⟨L,lx,lw,lk,xs,ws,ks,k,rfl,_⟩:=h;rfl
 .obtain⟨L,lx,lw,lk,xs,ws,ks,kk,rfl,Yh,SI,hL,hL8,hLw,hX,p_,s_,hWs,⟨wl,u_,wk⟩,hKs,⟨k0,k3,kkd⟩,k⟩:=h;have hLn:=hL8;rw[C3] at hLn;have Qv:=hL.at_.ts.length;obtain⟨x14,hx14,WS⟩:=aI p_ s_ 14 (by lia);obtain⟨x15,hx15,WT⟩:=aI p_ s_ 15 (by lia);walk_at "@sc__law_bar 45z11f04246mgK310K310btuV3l052h79eAd3lz05f207p6316d2f20748GJ316btuV3Rlz0522#~h~g~fE(08Hjh7949z11ff04R2072eAmsd3l09p63gd8lz092p68d8lz092p6816d2f207806"
  refine O1 λXp hx=>?_;rfl';refine j5 hX hx14 ?_;rfl';have hxx:0<=x14/(kk+1):=Int.ediv_nonneg WS (by lia);generalize x14/(kk+1)=x at hxx⊢;refine hx [some (.ref L.a),some (.ref lx),some (.ref lw),some (.ref lk),some (.int kk),some (.int x),none,none,none,none] _ ?_;clear hx;refine O1 λZn hx=>?_;rfl';refine u4 hL.at_.tup ?_;refine K6 hL.at_.pts (λbp nbp=>?_);obtain⟨H1,e1,f1,m1,_⟩:=b5 (o:= .dK (i7 L.W.pts)) nbp;rw[e1];have L1:=hL.same m1;rfl';refine j9 L1.at_.tup ?_;refine K6 L1.at_.ties (λbq nbq=>?_);obtain⟨H2,e2,f2,m2,_⟩:=b5 (o:= .dK L.kvs) nbq;rw[e2];rfl';refine⟨d0 (by simp),λba nba=>?_⟩;obtain⟨H3,e3,f3,m3,_⟩:=b5 (o:= .tup [.ref bp,.ref bq]) nba;rw[e3];have npq:bp≠bq:=d9 f1 nbq;have m03:=m1.trans (m2.trans m3);have p3:=m3 _ _ (m2 _ _ f1);have q3:=m3 _ _ f2;have t3:=L1.at_.ts.mono (m2.trans m3).le;have WU:=m1.free nbq;rfl';refine hx [some (.ref L.a),some (.ref lx),some (.ref lw),some (.ref lk),some (.int kk),some (.int x),some (.ref ba),none,none,none] _ ?_;clear hx;refine O1 λnx3 hx=>?_;rfl';have hm3:0<=x % 3/\x % 3<=2:=by lia
  generalize P':x % 3=cnt at hm3⊢;refine Q5 (by lia) (by lia) ?_;refine R4 (n:=cnt.toNat) (λi σ H'=>Same H H'/\(∃v7,σ=[some (.ref L.a),some (.ref lx),some (.ref lw),some (.ref lk),some (.int kk),some (.int x),some (.ref ba),v7,none,none])/\SqT K H' ba [.ref bp,.ref bq]/\H' bq=some (.dK L.kvs)/\TiesIs K H' L.kvs L.W.ts/\∃E:List (Str×Str),H' bp=some (.dK (i7 (L.W.pts++E)))/\E.length=i/\(E.map (·.1)).Nodup/\∀n∈E.map (·.1),Wd ws 12 (12+i) n) ⟨m03,⟨_,rfl⟩,SqT.of f3,q3,t3,[],by rw[Lb];exact p3,rfl,LF,λ_ h=>nomatch h⟩ (λi σ H' hi _=>by exact hi) ?_ ?_
  .rintro bk i v σ H4' H4 hi ⟨s4,⟨v7,rfl⟩,t4,q4,ti4,E,g4,el,end_,ew⟩ ⟨rfl,rfl⟩ _ _;obtain⟨w1,WV,UR⟩:=tL wl (12+i) (by lia);obtain⟨kd,J_,_⟩:=L8 (ss:=ks) (i:=x/(30+(0+(i:Int))) % (ks.length:Int)) (Ls _ (by lia)) (Lj _ (by lia));have g_:w1∉(L.W.pts++E).map (·.1):=Hb u_ (by lia) WV λn hn=>by
    rw[Ki] at hn;rcases Kg.mp hn with z|z
    .exact .inl (hLw n (Kf _ z))
    .exact .inr (ew n z)
   symm;refine F2 (u9 (s4.seq hKs) ?_);rw[Kb];symm;refine j5 (s4.seq hKs) J_ ?_;symm;refine u4 t4 ?_;symm;refine j5 (s4.seq hWs) (UR _ (by lia)) ?_;refine P9 (B5 (k:=Sum.inr w1) g4 (d0 (by rw[k9,Kj];lia)) ?_);rw[aq g_];walk_at "X";refine⟨E7 s4 nbp,⟨_,rfl⟩,R5 g4 t4,by rw[b9 npq.symm];exact q4,K2 g4 ti4,E++[(w1,kd)],by rw[d6,La],by rw[Kj,el];rfl,?_,λn hn=>?_⟩
   .rw[Ki];exact E3 end_ λz=>g_ (by rw[Ki];exact Kk _ z)
   .rw[Ki] at hn;rcases Kg.mp hn with z|z
    .exact(ew n z).up (Ke _) (by lia)
    .rw[show n=w1 by simpa using z];exact⟨12+i,by lia,by lia,WV⟩
  rintro σ H4 ⟨s4,⟨v7,rfl⟩,t4,q4,ti4,E,g4,el,end_,ew⟩;refine⟨Ke _,?_⟩;refine hx [some (.ref L.a),some (.ref lx),some (.ref lw),some (.ref lk),some (.int kk),some (.int x),some (.ref ba),v7,none,none] H4 ?_;clear hx;refine O1 λnx4 hx=>?_;rfl';refine u4 t4 ?_;rfl';refine A6 (ss:=(L.W.pts++E).map (·.1)) (.inl g4) (by rw[E6,B6]) (by rw[Kb,Kj];lia) (λs1 a1 a2 l1 n1=>?_);obtain⟨H5,e5,f5,m5,_⟩:=b5 (o:= .lst _) n1;rw[e5];have g1:=a1.length_eq;rfl';refine hx [some (.ref L.a),some (.ref lx),some (.ref lw),some (.ref lk),some (.int kk),some (.int x),some (.ref ba),v7,some (.ref l1),none] _ ?_;clear hx;refine O1 λnx5 hx=>?_;rfl';refine⟨d0 (by simp),λl6 n6=>?_⟩;obtain⟨H6,e6,f6,m6,_⟩:=b5 (o:= .lst []) n6;rw[e6];refine AS (il (SqL.of (m6 _ _ f5)) (SqL.of f6) (P8 _) rfl ?_);refine .inr ⟨_,rfl,?_⟩;have Wk:V9 (s1.map V.str) []=decide (s1=[]):=by cases s1<;>rfl
  rw[Wk];generalize hn:(if(!decide (s1=[]))=true then(1:Int) else 0)=n;have OS:(n=0\/n=1)/\(n=1->0<s1.length):=by
   subst hn;cases s1 with
   |nil=>simp
   |cons _ _=>simp
  rfl';have hmul:0<=x/3 % 3*n/\x/3 % 3*n<=2/\(0<x/3 % 3*n->n=1):=by
   rcases OS.1 with rfl|rfl<;>lia
  generalize x/3 % 3*n=M' at hmul⊢;refine Q5 (by lia) (by lia) ?_;have RR:=m5.trans m6;have s6:=s4.trans RR;have g6:=RR _ _ g4;have q6:=RR _ _ q4;have ZU:=m6 _ _ f5;have RM:l1≠bq:=(d9 q4 n1).symm;refine R4 (n:=M'.toNat) (λi σ H'=>Same H H'/\(∃v7 v9,σ=[some (.ref L.a),some (.ref lx),some (.ref lw),some (.ref lk),some (.int kk),some (.int x),some (.ref ba),v7,some (.ref l1),v9])/\SqT K H' ba [.ref bp,.ref bq]/\H' l1=some (.lst (s1.map V.str))/\H' bp=some (.dK (i7 (L.W.pts++E)))/\∃(F:List (Str×N3)) (kq:List (j6×V)),H' bq=some (.dK kq)/\TiesIs K H' kq (L.W.ts++F)/\F.length=i/\(F.map (·.1)).Nodup/\(∀n∈F.map (·.1),Wd ws 14 (14+i) n)/\∀y∈F,y.2.2.1∈(L.W.pts++E).map (·.1)/\y.2.2.2∈(L.W.pts++E).map (·.1)) ⟨s6,⟨_,_,rfl⟩,RR.tup t4,ZU,g6,[],L.kvs,q6,by rw[Lb];exact ti4.mono RR.le,rfl,LF,(λ_ h=>nomatch h),λ_ h=>nomatch h⟩ (λi σ H' hi _=>by exact hi) ?_ ?_
  .rintro bk i v σ H7' H7 hi ⟨s7,⟨v7,v9,rfl⟩,t7,l7,p7,F,kq,q7,XI,fl,fnd,fw,fe⟩ ⟨rfl,rfl⟩ _ _;have QD:0<s1.length:=OS.2 (hmul.2.2 (by lia));obtain⟨w1,WV,UR⟩:=tL wl (14+i) (by lia);have g_:w1∉(L.W.ts++F).map (·.1):=λm=>by
    rw[Ki] at m;have hwd:Wd ws (14+i) (14+i+1) w1:=⟨14+i,Ke _,Lz _,WV⟩
    rcases Kg.mp m with z|z
    .exact(hLw _ (Kk _ z)).no u_ hwd (.inl (by lia))
    .exact(fw _ z).no u_ hwd (.inl (Ke _))
   have hkq:=XI.length;rw[Kj] at hkq;refine O1 λnx6 hx=>?_;rfl';refine j5 (s7.seq hX) hx15 ?_;rfl';have hyy:0<=x15/(kk+2*(0+(i:Int))+1):=Int.ediv_nonneg WT (by lia);generalize x15/(kk+2*(0+(i:Int))+1)=y at hyy⊢;obtain⟨kd,J_,_⟩:=L8 (ss:=ks) (i:=y % (ks.length:Int)) (Ls _ (by lia)) (Lj _ (by lia));obtain⟨o1,Rt,ho1'⟩:=L8 (ss:=s1) (i:=y/3 % (s1.length:Int)) (Ls _ (by lia)) (Lj _ (by lia));obtain⟨o2,Rc,ho2'⟩:=L8 (ss:=s1) (i:=y/19 % (s1.length:Int)) (Ls _ (by lia)) (Lj _ (by lia));refine hx [some (.ref L.a),some (.ref lx),some (.ref lw),some (.ref lk),some (.int kk),some (.int x),some (.ref ba),some (.int (0+(i:Int))),some (.ref l1),some (.int y)] _ ?_;rfl';refine F2 (u9 (s7.seq hKs) ?_);rw[Kb];rfl';refine j5 (s7.seq hKs) J_ ?_;rfl';refine F2 (u9 (SqL.of l7) ?_);rw[Kb];rfl';refine j5 (SqL.of l7) Rt ?_;rfl';refine F2 (u9 (SqL.of l7) ?_);rw[Kb];rfl';refine j5 (SqL.of l7) Rc ?_;rfl';refine⟨d0 (by simp),λl8 n8=>?_⟩;obtain⟨H8,e8,f8,m8,_⟩:=b5 (o:= .tup (ax (kd,o1,o2))) n8;change AJ _ _ _ _ (upd H7 l8 (.tup (ax (kd,o1,o2)))) _;rw[e8];have q8:=m8 _ _ q7;rfl';refine j9 (m8.tup t7) ?_;rfl';refine j5 ((s7.trans m8).seq hWs) (UR _ (by lia)) ?_;refine P9 (B5 (k:=Sum.inr w1) q8 (d0 (by lia)) ?_);walk_at "X";refine⟨E7 (s7.trans m8) WU,⟨_,_,rfl⟩,R5 q8 (m8.tup t7),by rw[b9 RM];exact m8 _ _ l7,by rw[b9 npq];exact m8 _ _ p7,F++[(w1,(kd,o1,o2))],_,d6,?_,by rw[Kj,fl];rfl,?_,λn hn=>?_,λz hz=>?_⟩
   .rw[←La];exact K2 q8 (lE (XI.mono m8.le) g_ (SqT.of f8))
   .rw[Ki];exact E3 fnd λz=>g_ (by rw[Ki];exact Kk _ z)
   .rw[Ki] at hn;rcases Kg.mp hn with z|z
    .exact(fw n z).up (Ke _) (by lia)
    .rw[show n=w1 by simpa using z];exact⟨14+i,by lia,by lia,WV⟩
   .rcases Kg.mp hz with z|z
    .exact fe _ z
    .rw[Kq.mp z];walk_at "X";exact⟨a1.mem_iff.mp ho1',a1.mem_iff.mp ho2'⟩
  rintro σ H7 ⟨s7,⟨v7,v9,rfl⟩,t7,l7,p7,F,kq,q7,XI,fl,fnd,fw,fe⟩;refine⟨Ke _,?_⟩;refine hx [some (.ref L.a),some (.ref lx),some (.ref lw),some (.ref lk),some (.int kk),some (.int x),some (.ref ba),v7,some (.ref l1),v9] H7 ?_;rfl';have x_:F.length<=2:=by lia
  have hel:E.length<=2:=by lia
  refine k ⟨ba,bp,bq,kq,⟨L.W.pts++E,L.W.ts++F⟩⟩ H7 s7 ⟨⟨t7,.inl p7,.inl q7,XI⟩,p7,q7,npq,?_,?_,λy hy=>?_,λn hn=>?_⟩ ⟨λy hy=>Kf _ hy,λy hy=>Kf _ hy,by show(L.W.pts++E).length<=_;rw[Kj];lia,by show(L.W.ts++F).length<=_;rw[Kj];lia⟩ nbp WU
  .show((L.W.pts++E).map (·.1)++(L.W.ts++F).map (·.1)).Nodup;rw[Ki,Ki];exact EJ u_ hL.nd hLw end_ (λn z=>(ew n z).up (Ke _) (by lia)) fnd (λn z=>(fw n z).up (Ke _) (by lia))
  .rw[C3];show(L.W.pts++E).length+(L.W.ts++F).length<=24;rw[Kj,Kj];lia
  .rcases Kg.mp hy with z|z
   .have he:=hL.ends y z;show y.2.2.1∈(L.W.pts++E).map (·.1)/\y.2.2.2∈(L.W.pts++E).map (·.1);rw[Ki];exact⟨Kf _ he.1,Kf _ he.2⟩
   .exact fe y z
  .have SU:n∈(L.W.pts++E).map (·.1)++(L.W.ts++F).map (·.1):=hn;rw[Ki,Ki] at SU;rcases Kg.mp SU with z|z<;>rcases Kg.mp z with q|q
   .exact hL.nl n (Kf _ q)
   .exact uL wk (ew n q)
   .exact hL.nl n (Kk _ q)
   .exact uL wk (fw n q)
def BY {nm row:List Str}{n:Str}(nd:nm.Nodup)(hl:row.length=nm.length)(h:n∈nm):TxtAt (i7 (nm.zip row)) n:=by
 obtain⟨i,hi⟩:=fu h;have Xj:=bJ hi;exact⟨row[i],L9 (lq row nd) (jS hi (Kc (by lia)))⟩
def nmC_mem {W:C9}{n:Str}:n∈bF W↔n∈b7 W:=(Z6 W).mem
def pK {W:C9}(h:(b7 W).Nodup):(bF W).Nodup:=(Z6 W).perm.nodup_iff.mpr h
def FitP.congr {Pc W:C9}{km kn:List (j6×V)}(f:FitP Pc W km)(hl:kn.length=(b7 Pc).length)(ht:∀n∈b7 Pc,TxtAt kn n)(he:∀n∈b7 Pc,j4 kn n=j4 km n)(ends:∀x∈Pc.ts,x.2.2.1∈Pc.pts.map (·.1)/\x.2.2.2∈Pc.pts.map (·.1)):FitP Pc W kn:=by
 refine⟨hl,ht,?_,λx hx=>?_,λx hx=>?_⟩
 .rw[LB he];exact f.nd
 .rw[he _ (Kf _ (Kd.mpr ⟨x,hx,rfl⟩))];exact f.pts x hx
 .rw[he _ (Kk _ (Kd.mpr ⟨x,hx,rfl⟩)),he _ (Kf _ (ends x hx).1),he _ (Kf _ (ends x hx).2)];exact f.ts x hx
def jE (Pc:C9)(ms:List (Str×Str)):List Str:=(bF Pc).map (j4 (i7 ms))
section
variable {Pc W:C9} {ms fx:List (Str×Str)}
def fT:(jE Pc ms).length=(bF Pc).length:=Kb _
def uQ (nd:(b7 Pc).Nodup){n:Str}(h:n∈b7 Pc):gv (bF Pc) (jE Pc ms) n=j4 (i7 ms) n:=by
 obtain⟨i,hi⟩:=fu (nmC_mem.mpr h);exact nN (pK nd) hi (by unfold jE;rw[Kh,hi];rfl)
def BJ:(bF Pc).length=(b7 Pc).length:=(Z6 Pc).perm.length_eq
def Aw (nd:(b7 Pc).Nodup)(ends:∀x∈Pc.ts,x.2.2.1∈Pc.pts.map (·.1)/\x.2.2.2∈Pc.pts.map (·.1))(f:FitP Pc W (i7 ms)):FitP Pc W (i7 ((bF Pc).zip (jE Pc ms))):=
 f.congr (by rw[k9,Na,fT,QZ,BJ]) (λn hn=>BY (pK nd) fT (nmC_mem.mpr hn)) (λn hn=>uQ nd hn) ends
def nU (nd:(b7 Pc).Nodup)(f:FitP Pc W (i7 ms)):jE Pc ms∈cX (jH (rm Pc) (rJ Pc) (rm W) (rJ W)) []:=by
 have z:=vB (bs:=jH (rm Pc) (rJ Pc) (rm W) (rJ W)) (b:=[]) (t:=jE Pc ms) (by rw[gX,fT];rfl) λi x c hx hc=>by
  unfold jE at hx;rw[Kh] at hx;cases en:(bF Pc)[i]? with
  |none=>rw[en] at hx;cases hx
  |some n=>
   rw[en] at hx
   cases hx
   have XJ:(rm Pc++rJ Pc)[i]?=some n:=en
   rcases Ew hc with⟨hi,rfl⟩|⟨hi,rfl⟩
   .rw[Lm hi] at XJ
    obtain⟨y,hy,rfl⟩:=Kd.mp ((Z6 Pc).p1.mem_iff.mp (Kr XJ))
    exact(Z6 W).p1.mem_iff.mpr (Kd.mpr ⟨_,f.pts y hy,rfl⟩)
   .rw[Lx hi] at XJ
    obtain⟨y,hy,rfl⟩:=Kd.mp ((Z6 Pc).p2.mem_iff.mp (Kr XJ))
    exact(Z6 W).p2.mem_iff.mpr (Kd.mpr ⟨_,f.ts y hy,rfl⟩)
 simpa using z
open Classical in
def mem_rows {row:List Str}:row∈E4 Pc W fx↔row∈cX (jH (rm Pc) (rJ Pc) (rm W) (rJ W)) []/\FitP Pc W (i7 ((bF Pc).zip row))/\la fx (bF Pc) row:=by
 unfold E4 jv;rw[Kp,KJ];exact TK
def rj {row:List Str}(h:row∈E4 Pc W fx):row.length=(bF Pc).length:=qp (mem_rows.mp h).1
end
section
variable {B W:C9} {fx m:List (Str×Str)} {ws:List Str}
structure uu (B W:C9) (fx:List (Str×Str)):Prop where
 nk:(fx.map (·.1)).Nodup
 nv:(fx.map (·.2)).Nodup
 fin:∀n∈fx.map (·.1),n∈b7 B
 pt:∀x∈B.pts,x.1∈fx.map (·.1)->(j4 (i7 fx) x.1,x.2)∈W.pts
 ti:∀x∈B.ts,x.1∈fx.map (·.1)->x.2.2.1∈fx.map (·.1)/\x.2.2.2∈fx.map (·.1)/\(j4 (i7 fx) x.1,(x.2.1,j4 (i7 fx) x.2.2.1,j4 (i7 fx) x.2.2.2))∈W.ts
structure PG (B W:C9) (fx:List (Str×Str)) (ws:List Str) (m:List (Str×Str)):Prop where
 ks:m.map (·.1)=fx.map (·.1)++ws
 nk:(m.map (·.1)).Nodup
 pre:∀x∈fx,x∈m
 nv:(m.map (·.2)).Nodup
 pt:∀x∈B.pts,x.1∈ws->(j4 (i7 m) x.1,x.2)∈W.pts
 ti:∀x∈B.ts,x.1∈ws->(j4 (i7 m) x.1,(x.2.1,j4 (i7 m) x.2.2.1,j4 (i7 m) x.2.2.2))∈W.ts
def ig {m:List (Str×Str)}{n:Str}(nk:(m.map (·.1)).Nodup)(h:n∈m.map (·.1)):(n,j4 (i7 m) n)∈m:=by
 obtain⟨x,hx,rfl⟩:=Kd.mp h;rw[J3 nk (show(x.1,x.2)∈m from hx)];exact hx
def rZ {m m':List (Str×Str)}{n:Str}(nk:(m.map (·.1)).Nodup)(US:(m'.map (·.1)).Nodup)(hs:∀x∈m,x∈m')(h:n∈m.map (·.1)):j4 (i7 m') n=j4 (i7 m) n:=J3 US (hs _ (ig nk h))
def PG.nil (h:uu B W fx):PG B W fx [] fx:=⟨by rw[Lb],h.nk,λ_ z=>z,h.nv,(λ_ _ z=>nomatch z),λ_ _ z=>nomatch z⟩
def PG.add (h:PG B W fx ws m){w n:Str}(hw:w∉m.map (·.1))(hn:n∉m.map (·.2))
  (hp:∀x∈B.pts,x.1=w->(n,x.2)∈W.pts) (ht:∀x∈B.ts,x.1=w->(n,(x.2.1,j4 (i7 m) x.2.2.1,j4 (i7 m) x.2.2.2))∈W.ts)
  (he:∀x∈B.ts,x.1∈ws++[w]->x.2.2.1∈m.map (·.1)/\x.2.2.2∈m.map (·.1)):PG B W fx (ws++[w]) (m++[(w,n)]):=by
 have US:((m++[(w,n)]).map (·.1)).Nodup:=by rw[Ki];exact E3 h.nk hw
 have hs:∀x∈m,x∈m++[(w,n)]:=λx z=>Kf _ z
 have gw:j4 (i7 (m++[(w,n)])) w=n:=J3 US (by simp)
 have go:∀{y:Str},y∈m.map (·.1)->j4 (i7 (m++[(w,n)])) y=j4 (i7 m) y:=λz=>rZ h.nk US hs z
 have inw:∀{y:Str},y∈ws->y∈m.map (·.1):=λz=>by rw[h.ks];exact Kk _ z
 refine⟨by rw[Ki,h.ks,La];rfl,US,λx z=>hs x (h.pre x z),by rw[Ki];exact E3 h.nv hn,λx hx XN=>?_,λx hx XN=>?_⟩
 .rcases Kg.mp XN with z|z
  .rw[go (inw z)];exact h.pt x hx z
  .have e:x.1=w:=by simpa using z
   rw[e,gw];exact hp x hx e
 .have hee:=he x hx XN
  rw[go hee.1,go hee.2]
  rcases Kg.mp XN with z|z
  .rw[go (inw z)];exact h.ti x hx z
  .have e:x.1=w:=by simpa using z
   rw[e,gw];exact ht x hx e
def zc (B:C9)(fx:List (Str×Str))(row ws:List Str):List (Str×Str):=fx++ws.map λw=>(w,gv (bF B) row w)
def rY (B:C9)(fx:List (Str×Str))(row ws:List Str)(w:Str):zc B fx row (ws++[w])=zc B fx row ws++[(w,gv (bF B) row w)]:=by
 unfold zc;rw[Ki,←La];rfl
def kr (row:List Str):(zc B fx row ws).map (·.1)=fx.map (·.1)++ws:=by
 unfold zc;rw[Ki,Lf];congr 1;exact NO ws
def vv {row:List Str}(hd:la fx (bF B) row){x:Str×Str}(h:x∈zc B fx row ws):x.2=gv (bF B) row x.1:=by
 rcases Kg.mp h with z|z
 .exact(hd x z).symm
 .obtain⟨w,_,rfl⟩:=Kd.mp z;rfl
def pZ {row:List Str}(hd:la fx (bF B) row)(nk:(fx.map (·.1)++ws).Nodup){n:Str}(h:n∈fx.map (·.1)++ws):j4 (i7 (zc B fx row ws)) n=gv (bF B) row n:=by
 have US:((zc B fx row ws).map (·.1)).Nodup:=by rw[kr];exact nk
 exact vv hd (ig US (by rw[kr];exact h))
def DW {row:List Str}(f:FitP B W (i7 ((bF B).zip row))){a b:Str}(ha:a∈b7 B)(hb:b∈b7 B)(e:gv (bF B) row a=gv (bF B) row b):a=b:=zz f.nd ha hb e
structure AI (B W:C9) (fx:List (Str×Str)) (ws:List Str) (D:List (List (Str×Str))):Prop where
 ok:∀m∈D,PG B W fx ws m
 all:∀row∈E4 B W fx,zc B fx row ws∈D
def AI.nil (h:uu B W fx):AI B W fx [] [fx]:=⟨λm hm=>by rw[Kq.mp hm];exact .nil h,λrow _=>by unfold zc;simp⟩
def aw (D:List (List (Str×Str)))(w:Str)(names:List Str):List (List (Str×Str)):=D.flatMap λm=>(names.filter λn=>!decide (n∈m.map (·.2))).map λn=>m++[(w,n)]
def mem_more {D:List (List (Str×Str))}{w:Str}{names:List Str}{z:List (Str×Str)}:z∈aw D w names↔∃m∈D,∃n∈names,n∉m.map (·.2)/\z=m++[(w,n)]:=by
 unfold aw;rw[Nj];constructor
 .rintro⟨m,hm,h⟩;obtain⟨n,hn,e⟩:=Kd.mp h;have SU:=Kp.mp hn;exact⟨m,hm,n,SU.1,by simpa using SU.2,e.symm⟩
 .rintro⟨m,hm,n,hn,g_,e⟩;exact⟨m,hm,Kd.mpr ⟨n,Kp.mpr ⟨hn,by simpa using g_⟩,e.symm⟩⟩
def gd {D:List (List (Str×Str))}{w:Str}{names:List Str}:(aw D w names).length<=D.length*names.length:=by
 unfold aw;rw[NY];exact pV λm _=>by rw[Kb];exact Km _ _
structure NewWd (B:C9) (fx:List (Str×Str)) (ws:List Str) (w:Str):Prop where
 nk:(fx.map (·.1)++ws++[w]).Nodup
 all:∀n∈fx.map (·.1)++ws++[w],n∈b7 B
def NewWd.no {w:Str}(h:NewWd B fx ws w):w∉fx.map (·.1)++ws:=λz=>(Ks.mp h.nk).2.2 w z w (by simp) rfl
def uN {row:List Str}{w:Str}(hr:row∈E4 B W fx)(h:NewWd B fx ws w):gv (bF B) row w∉(zc B fx row ws).map (·.2):=λz=>by
 obtain⟨x,hx,e⟩:=Kd.mp z;obtain⟨_,f,d⟩:=mem_rows.mp hr;have hk:x.1∈fx.map (·.1)++ws:=by rw[←kr (B:=B) row];exact Kd.mpr ⟨x,hx,rfl⟩
 rw[vv d hx] at e;have e2:=DW f (h.all _ (Kf _ hk)) (h.all w (by simp)) e;exact h.no (e2▸hk)
def AI.point {D:List (List (Str×Str))}(h:AI B W fx ws D){w kd:Str}(Qk:(b7 B).Nodup)(hw:(w,kd)∈B.pts)(nw:NewWd B fx ws w)(he:∀x∈B.ts,x.1∈ws++[w]->False):AI B W fx (ws++[w]) (aw D w ((W.pts.filter λx=>decide (x.2=kd)).map (·.1))):=by
 refine⟨λz hz=>?_,λrow hr=>?_⟩
 .obtain⟨m,hm,n,hn,g_,rfl⟩:=mem_more.mp hz;have g:=h.ok m hm;obtain⟨x,hx,rfl⟩:=Kd.mp hn;have h_:=Kp.mp hx;have J_:x.2=kd:=Ly h_.2;refine g.add (by rw[g.ks];exact nw.no) g_ (λy hy e=>?_) (λy hy e=>?_) λy hy z=>(he y hy z).elim
  .have e2:y.2=kd:=A5 (E5 Qk) (show(w,y.2)∈B.pts by rw[←e];exact hy) hw;rw[e2,←J_];exact h_.1
  .exact(he y hy (by rw[e];simp)).elim
 .rw[rY];obtain⟨_,f,d⟩:=mem_rows.mp hr;refine mem_more.mpr ⟨_,h.all row hr,_,?_,uN hr nw,rfl⟩;exact Kd.mpr ⟨(gv (bF B) row w,kd),Kp.mpr ⟨f.pts _ hw,by simp⟩,rfl⟩
def AI.tie {D:List (List (Str×Str))}(h:AI B W fx ws D){w kd b e:Str}(Qk:(b7 B).Nodup)(hw:(w,(kd,b,e))∈B.ts)(nw:NewWd B fx ws w)(he:∀x∈B.ts,x.2.2.1∈fx.map (·.1)++ws/\x.2.2.2∈fx.map (·.1)++ws):
  AI B W fx (ws++[w]) (D.flatMap λm=>aw [m] w ((W.ts.filter λx=>decide (x.2=(kd,j4 (i7 m) b,j4 (i7 m) e))).map (·.1))):=by
 have hwp:∀x∈B.pts,x.1=w->False:=λx hx e9=>(Ks.mp Qk).2.2 w (Kd.mpr ⟨x,hx,e9⟩) w (Kd.mpr ⟨_,hw,rfl⟩) rfl
 refine⟨λz hz=>?_,λrow hr=>?_⟩
 .obtain⟨m,hm,Tg⟩:=Nj.mp hz
  obtain⟨m',TC,n,hn,g_,rfl⟩:=mem_more.mp Tg
  have em:m'=m:=Kq.mp TC
  subst em
  have g:=h.ok m' hm
  obtain⟨x,hx,rfl⟩:=Kd.mp hn
  have h_:=Kp.mp hx
  have J_:x.2=(kd,j4 (i7 m') b,j4 (i7 m') e):=Ly h_.2
  refine g.add (by rw[g.ks];exact nw.no) g_ (λy hy e9=>(hwp y hy e9).elim) (λy hy e9=>?_) λy hy _=>by rw[g.ks];exact he y hy
  have e2:y.2=(kd,b,e):=A5 (O8 Qk) (show(w,y.2)∈B.ts by rw[←e9];exact hy) hw
  rw[e2,←J_];exact h_.1
 .rw[rY]
  obtain⟨_,f,d⟩:=mem_rows.mp hr
  have Pw:=he _ hw
  have nk:(fx.map (·.1)++ws).Nodup:=(Ks.mp nw.nk).1
  refine Nj.mpr ⟨_,h.all row hr,mem_more.mpr ⟨_,Kq.mpr rfl,_,?_,uN hr nw,rfl⟩⟩
  rw[pZ d nk Pw.1,pZ d nk Pw.2]
  exact Kd.mpr ⟨(gv (bF B) row w,(kd,gv (bF B) row b,gv (bF B) row e)),Kp.mpr ⟨f.ts _ hw,by simp⟩,rfl⟩
def PG.row (h:PG B W fx ws m)(ho:uu B W fx)(Qk:(b7 B).Nodup)(eB:∀x∈B.ts,x.2.2.1∈B.pts.map (·.1)/\x.2.2.2∈B.pts.map (·.1))(pm:(fx.map (·.1)++ws).Perm (b7 B)):FitP B W (i7 m)/\jE B m∈E4 B W fx:=by
 have m_:∀n∈b7 B,n∈m.map (·.1):=λn z=>by rw[h.ks];exact pm.mem_iff.mpr z
 have hg:∀{n:Str},n∈fx.map (·.1)->j4 (i7 m) n=j4 (i7 fx) n:=λz=>rZ ho.nk h.nk h.pre z;have f:FitP B W (i7 m):=by
  refine⟨?_,λn hn=>⟨_,L9 h.nk (ig h.nk (m_ n hn))⟩,?_,λx hx=>?_,λx hx=>?_⟩
  .have z:=pm.length_eq;rw[←h.ks,Kb] at z;rw[k9];exact z
  .refine(pm.map (j4 (i7 m))).nodup_iff.mp ?_;rw[←h.ks,Lf];rw[show m.map ((j4 (i7 m))∘(·.1))=m.map (·.2) from LB λx hx=>J3 h.nk (show(x.1,x.2)∈m from hx)];exact h.nv
  .have hm:x.1∈fx.map (·.1)++ws:=pm.mem_iff.mpr (Kf _ (Kd.mpr ⟨x,hx,rfl⟩));rcases Kg.mp hm with z|z
   .rw[hg z];exact ho.pt x hx z
   .exact h.pt x hx z
  .have hm:x.1∈fx.map (·.1)++ws:=pm.mem_iff.mpr (Kk _ (Kd.mpr ⟨x,hx,rfl⟩));rcases Kg.mp hm with z|z
   .obtain⟨z1,z2,z3⟩:=ho.ti x hx z;rw[hg z,hg z1,hg z2];exact z3
   .exact h.ti x hx z
 refine⟨f,mem_rows.mpr ⟨nU Qk f,Aw Qk eB f,λx hx=>?_⟩⟩;rw[uQ Qk (ho.fin _ (Kd.mpr ⟨x,hx,rfl⟩))];exact J3 h.nk (h.pre x hx)
def AI.row {D:List (List (Str×Str))}(h:AI B W fx ws D)(ho:uu B W fx)(Qk:(b7 B).Nodup)(pm:(fx.map (·.1)++ws).Perm (b7 B)){row:List Str}(hr:row∈E4 B W fx):∃m∈D,jE B m=row:=by
 refine⟨_,h.all row hr,?_⟩;obtain⟨_,f,d⟩:=mem_rows.mp hr;have hl:=rj hr;unfold jE;rw[LB λn hn=>pZ d (pm.nodup_iff.mpr Qk) (pm.mem_iff.mpr (nmC_mem.mp hn))];exact ui (pK Qk) hl
end
def fS (ms:List (Str×Str)):(i7 ms).map (·.2)=(ms.map (·.2)).map V.str:=by unfold i7;rw[Lf,Lf];rfl
def MsAt (H:Hp)(xs:List V)(D:List (List (Str×Str))):Prop:=Paired (λv m=>∃d,v=V.ref d/\H d=some (.dK (i7 m))) xs D
def MsAt.same {H H':Hp}{xs:List V}{D:List (List (Str×Str))}(h:MsAt H xs D)(s:Same H H'):MsAt H' xs D:=Paired.imp' (λ_ _ ⟨d,e,z⟩=>⟨d,e,s _ _ z⟩) h
def MsAt.upd {H:Hp}{xs:List V}{D:List (List (Str×Str))}{l:Addr}{ys:List V}{u:HO}(h:MsAt H xs D)(hl:H l=some (.lst ys)):MsAt (upd H l u) xs D:=Paired.imp' (λ_ _ ⟨d,e,z⟩=>⟨d,e,by
 rw[b9 (λq=>by rw[q,hl] at z;cases z)];exact z⟩) h
theorem MsAt.app {H:Hp}:∀{xs:List V} {D:List (List (Str×Str))} {ys:List V} {E:List (List (Str×Str))},MsAt H xs D->MsAt H ys E->MsAt H (xs++ys) (D++E)
 |_,_,_,_,.nil,h2=>h2
 |_,_,_,_,.cons a t,h2=> .cons a (MsAt.app t h2)
def gD (K:Qc):Sp:=λvs H Q _=>∃(lf ln:Addr) (xs:List V) (D:List (List (Str×Str))) (w:Str) (names:List Str),vs=[.ref lf,.str w,.ref ln]/\SqL K H lf xs/\MsAt H xs D/\(∀m∈D,w∉m.map (·.1)/\m.length<=30)/\SqL K H ln (names.map V.str)/\D.length*names.length<=1000000/\
 ∀(l:Addr) (H':Hp) (ys:List V),H l=none->Same H H'->H' l=some (.lst ys)->MsAt H' ys (aw D w names)->Q (.ref l) H'
def wt {D:List (List (Str×Str))}{w:Str}{names:List Str}{i:Nat}{m:List (Str×Str)}(h:D[i]?=some m):aw (D.take (i+1)) w names=aw (D.take i) w names++(names.filter λn=>!decide (n∈m.map (·.2))).map λn=>m++[(w,n)]:=by
 unfold aw;rw[KI,h,NZ];simp
def DJ {D:List (List (Str×Str))}{w:Str}{names:List Str}{i j:Nat}{m:List (Str×Str)}(h:D[i]?=some m):(aw (D.take i) w names++((names.take j).filter λn=>!decide (n∈m.map (·.2))).map λn=>m++[(w,n)]).length<=D.length*names.length:=by
 have hi:i<D.length:=by
  rcases MF i D.length with z|z
  .exact z
  .rw[LH z] at h;cases h
 have z1:(aw (D.take i) w names).length<=i*names.length:=Kw gd (Mv _ (by rw[Kt];lia));have z2:=Km (λn=>!decide (n∈m.map (·.2))) (names.take j);have z3:(names.take j).length<=names.length:=by rw[Kt];lia
 have z4:(i+1)*names.length<=D.length*names.length:=Mv _ hi;rw[Kj,Kb];rw[PU,PX] at z4;lia
abbrev jw:=λP w K mg base=>U0 P w K mg base F0 1 "_law_more" ["_law_found","_law_word","_law_names"] [] (gD K)
def qd {f fd}(T:Txt K mg)(F:Fun K "_law_more" "_law_more" cW f fd):C5 P w K mg base F0 1 f fd ["_law_found","_law_word","_law_names"] (gD K):=by
 walk_at "#sc__law_more"
 .obtain⟨lf,ln,xs,D,w',names,rfl,_⟩:=h;rfl
 .obtain⟨lf,ln,xs,D,w',names,rfl,hF,hD,hok,hNm,RA,k⟩:=h;have p_:=KW hD;walk_at "@sc__law_more 43Hbtur00h49etur02h59enaB05#~b~a~9_%~5~4~304o46K64bA050601eQMX=<;0366803"
  refine O1 λXp hx=>?_;rfl';refine⟨d0 (by simp),λlo no=>?_⟩;obtain⟨H1,e1,f1,m1,_⟩:=b5 (o:= .lst []) no;rw[e1];rfl';refine hx [some (.ref lf),some (.str w'),some (.ref ln),some (.ref lo),none,none,none] _ ?_;clear hx;refine O1 λZn hx=>?_;rfl';refine A8 (m1.seq hF) ?_;refine R4 (n:=xs.length) (λi σ H'=>Same H H'/\(∃v4 v5 v6,σ=[some (.ref lf),some (.str w'),some (.ref ln),some (.ref lo),v4,v5,v6])/\∃ys,H' lo=some (.lst ys)/\MsAt H' ys (aw (D.take i) w' names)) ⟨m1,⟨_,_,_,rfl⟩,[],f1,by unfold aw;exact .nil⟩ (λi σ H' hi hp=>⟨xs,xs[i],hp.1.seq hF,Kc hi⟩) ?_ ?_
  .rintro bk i v σ G0' G0 hi ⟨s0,⟨v4,v5,v6,rfl⟩,ys,g0,ms0⟩ y _ _;obtain⟨rfl,hy⟩:=Itl.get y (s0.seq hF);obtain⟨m,hm,d,rfl,hd⟩:=K8 hD hy;have S_:=hok m (Kr hm);rfl';refine A8 (s0.seq hNm) ?_;refine R4 (n:=names.length) (λj σ H'=>Same H H'/\(∃v5 v6,σ=[some (.ref lf),some (.str w'),some (.ref ln),some (.ref lo),some (.ref d),v5,v6])/\∃ys,H' lo=some (.lst ys)/\MsAt H' ys (aw (D.take i) w' names++((names.take j).filter λn=>!decide (n∈m.map (·.2))).map λn=>m++[(w',n)])) ⟨s0,⟨_,_,rfl⟩,ys,g0,by simpa using ms0⟩ (λj σ H' hj hp=>⟨_,.str (names[j]),hp.1.seq hNm,by rw[Kh,Kc hj];rfl⟩) ?_ ?_
   .rintro bk2 j v σ G1' G1 hj ⟨s1,⟨v5,v6,rfl⟩,ys,g1,RT⟩ y' _ _;obtain⟨rfl,Rg⟩:=Itl.get y' (s1.seq hNm);rw[Kh,Kc hj] at Rg;cases Rg;have hjj:names[j]?=some names[j]:=Kc hj;have d1:=s1 _ _ hd;symm;refine⟨.inr (.inr (.inl ⟨rfl,.inl ⟨_,d1⟩⟩)),?_⟩;refine⟨d,_,rfl,rfl,.inl d1,λlv nv=>?_⟩;obtain⟨G2,x2,f2,m2,_⟩:=b5 (o:= .ext (gZ lv d)) nv;rw[x2];symm;refine Z8 f2 (.inl (m2 _ _ d1)) (λl3 n3=>?_);rw[fS];obtain⟨G3,x3,f3,m3,_⟩:=b5 (o:= .lst ((m.map (·.2)).map V.str)) n3;rw[x3];refine J2 (SqL.of f3) ?_;have C_:=m2.trans m3;symm;refine O6 (λhb=>?_) (λhb=>?_)
    .symm;refine K6 (.inl (C_ _ _ d1)) (λd4 n4=>?_);obtain⟨G4,x4,f4,m4,_⟩:=b5 (o:= .dK (i7 m)) n4;rw[x4];symm;refine P9 (B5 (k:=Sum.inr w') f4 (d0 (by rw[k9];lia)) ?_);rw[aq S_.1];have s5:=E7 (o:= .dK (i7 (m++[(w',names[j])]))) (C_.trans m4) (C_.free n4);have d5:upd G4 d4 (.dK (i7 (m++[(w',names[j])]))) d4=some (.dK (i7 (m++[(w',names[j])]))):=d6;generalize upd G4 d4 (.dK (i7 (m++[(w',names[j])])))=G5 at s5 d5⊢;have g5:=s5 _ _ g1;have UU:=RT.same s5;have hyl:=KW UU;have x_:=DJ (w:=w') (names:=names) (j:=j) hm;symm;refine⟨.inl ⟨rfl,_,SqL.of g5⟩,?_⟩;symm;refine⟨lo,_,_,rfl,rfl,g5,iK (by lia),?_⟩;walk_at "X";refine⟨E7 (s1.trans s5) no,⟨_,_,rfl⟩,_,d6,?_⟩;rw[jd hjj (by simpa using hb),Ki,←La];exact B9 (UU.upd g5) ⟨d4,rfl,by rw[b9 (λq=>by rw[q,g5] at d5;cases d5)];exact d5⟩
    .symm;walk_at "X";refine⟨s1.trans C_,⟨_,_,rfl⟩,ys,C_ _ _ g1,?_⟩;rw[jb hjj (by simpa using hb)];exact RT.same C_
   .rintro σ G1 ⟨s1,⟨v5,v6,rfl⟩,ys,g1,RT⟩;refine⟨⟨_,s1.seq hNm,by rw[Kb];exact Ke _⟩,?_⟩;walk_at "X";refine⟨s1,⟨_,_,_,rfl⟩,ys,g1,?_⟩;rw[wt hm];rw[Kl (Ke _)] at RT;exact RT
  .rintro σ G0 ⟨s0,⟨v4,v5,v6,rfl⟩,ys,g0,ms0⟩;refine⟨⟨xs,s0.seq hF,Ke _⟩,?_⟩;rw[p_,Kl (Ke _)] at ms0;refine hx [some (.ref lf),some (.str w'),some (.ref ln),some (.ref lo),v4,v5,v6] G0 ?_;rfl';exact k lo G0 ys no s0 g0 ms0
def Jz {B:C9}{fx:List (Str×Str)}{s:List Str}{i:Nat}{w:Str}(nds:s.Nodup)(hs:∀n∈s,n∈b7 B)(nk:(fx.map (·.1)).Nodup)(fin:∀n∈fx.map (·.1),n∈b7 B)(hi:s[i]?=some w)(hu:K5 fx w=true):NewWd B fx ((s.take i).filter (K5 fx)) w:=by
 have Xg:w∉fx.map (·.1):=by unfold K5 at hu;simpa using hu
 have hw:w∉s.take i:=λz=>by
  have e7:s.take (i+1)=s.take i++[w]:=by rw[KI,hi];rfl
  have z2:(s.take (i+1)).Nodup:=nds.sublist (Lv _ _);rw[e7] at z2;exact(Ks.mp z2).2.2 w z w (by simp) rfl
 have hf:∀n∈(s.take i).filter (K5 fx),n∈s.take i/\n∉fx.map (·.1):=λn z=>⟨(Kp.mp z).1,by have q:=(Kp.mp z).2;unfold K5 at q;simpa using q⟩
 refine⟨E3 (Ks.mpr ⟨nk,(nds.sublist (Lv _ _)).sublist Ll,λa ha b hb e=>(hf b hb).2 (e▸ha)⟩) λz=>?_,λn hn=>?_⟩
 .rcases Kg.mp z with q|q
  .exact Xg q
  .exact hw (hf w q).1
 .rcases Kg.mp hn with q|q
  .rcases Kg.mp q with q|q
   .exact fin n q
   .exact hs n (Mw (hf n q).1)
  .rw[show n=w by simpa using q];exact hs w (Kr hi)
def gx {s1 s2:List Str}(i:Nat):(s1++s2).take (s1.length+i)=s1++s2.take i:=by
 rw[List.take_append,Kl (by lia)];congr 2;lia
def jz (K:Qc):Sp:=λvs H Q _=>∃(B S:Sd) (m:Addr) (fx:List (Str×Str)),vs=[.ref B.a,.ref S.a,.ref m]/\SdIs K H B/\SdIs K H S/\H m=some (.dK (i7 fx))/\uu B.W S.W fx/\((b7 B.W).filter (K5 fx)).length<=4/\(b7 S.W).length<=12/\
 ∀(l:Addr) (H':Hp) (ys:List V) (D:List (List (Str×Str))) (ws:List Str),H l=none->Same H H'->H' l=some (.lst ys)->MsAt H' ys D->AI B.W S.W fx ws D->(fx.map (·.1)++ws).Perm (b7 B.W)->D.length<=30000->Q (.ref l) H'
def kQ {a b:Nat}(h:a<=b):12 ^ a<=12 ^ b:=Py (by decide) h
abbrev lA:=λP w K mg base=>U0 P w K mg base F0 2 "_law_all" ["_law_bar_here","_law_web_here","_law_match"] [] (jz K)
def rA {f fd}(T:Txt K mg)(aW:jw P w K mg base)(F:Fun K "_law_all" "_law_all" fH f fd):C5 P w K mg base F0 2 f fd ["_law_bar_here","_law_web_here","_law_match"] (jz K):=by
 walk_at "#sc__law_all"
 .obtain⟨B,S,m,fx,rfl,_⟩:=h;rfl
 .obtain⟨B,S,m,fx,rfl,hB,hS,hm,ho,hc4,h12,k⟩:=h;have hBl:=hB.len;rw[C3] at hBl;have h12':=h12;rw[C3] at h12';have hSk:=hS.at_.ts.length;have x_:fx.length<=24:=by
   have z:=aE ho.nk ho.fin;rw[Kb] at z;have:=hB.len;lia
  walk_at "@sc__law_all 43U62bturGJ310h49enaB0402oe~c35'0aW 73743w_law_name_here;410;r11h0k_law_name_here,_law_word,_law_web_here,_law_bar_here;LaNq1200q1301j00bturGJ310h49enaB0402o,q1004xc59c69c79y48Hbtur03h99*:_law_name_here;51967;r11vh0k_law_name_here,_law_kind,_law_web_here,_law_one,_law_begin,_law_end;vLaNq1200m71gd304d305jv00eQMX'0PySem.F.slot_list_extend '0PySem.F.type_list_extend '0jG 0835'0aW sU69i4:e~c308803"
  refine O1 λXp hx=>?_;rfl';refine⟨d0 (by simp),λl0 n0=>?_⟩;obtain⟨H0,e0,f0,m0,_⟩:=b5 (o:= .lst [.ref m]) n0;rw[e0];have B0:=hB.same m0;rfl';refine hx [some (.ref B.a),some (.ref S.a),some (.ref m),some (.ref l0),none,none,none,none,none,none,none] _ ?_;clear hx;refine O1 λZn hx=>?_;rfl';refine u4 B0.at_.tup ?_;rfl';refine A6 (ss:=B.W.pts.map (·.1)) B0.at_.pts (by rw[E6,B6]) (by rw[Kb];lia) (λs1 a1 a2 l1 n1=>?_);obtain⟨H1,e1,f1,m1,_⟩:=b5 (o:= .lst _) n1;rw[e1];have m01:=m0.trans m1;have nd1:s1.Nodup:=a1.nodup_iff.mpr (E5 hB.nd);have in1:∀n∈s1,n∈b7 B.W:=λn z=>Kf _ (a1.mem_iff.mp z);have P':∀i,((s1.take i).filter (K5 fx)).length<=4:=λi=>Kw (aE ((nd1.sublist (Lv _ _)).sublist Ll) λn hn=>Kp.mpr ⟨in1 n (Mw (Kp.mp hn).1),(Kp.mp hn).2⟩) hc4;refine A8 (SqL.of f1) ?_;refine R4 (n:=s1.length) (λi σ H'=>Same H H'/\H' l1=some (.lst (s1.map V.str))/\∃(lf:Addr) (ys:List V) (D:List (List (Str×Str))) (v4:Option V),σ=[some (.ref B.a),some (.ref S.a),some (.ref m),some (.ref lf),v4,none,none,none,none,none,none]/\H' lf=some (.lst ys)/\H lf=none/\MsAt H' ys D/\AI B.W S.W fx ((s1.take i).filter (K5 fx)) D/\D.length<=12 ^ ((s1.take i).filter (K5 fx)).length) ⟨m01,f1,l0,[.ref m],[fx],none,rfl,m1 _ _ f0,n0,.cons ⟨m,rfl,m01 _ _ hm⟩ .nil,AI.nil ho,Ke _⟩ (λi σ H' hi hp=>⟨_,.str (s1[i]),SqL.of hp.2.1,by rw[Kh,Kc hi];rfl⟩) ?_ ?_
  .rintro bk i v σ G1' G1 hi ⟨K_,Vu,lf,ys,D,v4,rfl,g1,Tp,RT,ai,dl⟩ y _ _;obtain⟨rfl,hy⟩:=Itl.get y (SqL.of Vu);rw[Kh,Kc hi] at hy;cases hy;have Sz:s1[i]?=some s1[i]:=Kc hi;have B1:=hB.same K_;have S1:=hS.same K_;have M1:=K_ _ _ hm;rfl';refine N7 (K1 (k:=Sum.inr s1[i]) (.inl M1)) ?_;rw[M4];rfl';refine O6 (λhb=>?_) (λhb=>?_)
   .have hu:K5 fx s1[i]=true:=by unfold K5;simpa using hb
    obtain⟨⟨w',kd⟩,Tq,ewk⟩:=Kd.mp (a1.mem_iff.mp (KS hi));have UW:w'=s1[i]:=ewk;rw[UW] at Tq;have nw:=Jz nd1 in1 ho.nk ho.fin Sz hu;rfl';refine u4 S1.at_.tup ?_;refine aM S1.hp (λUu o2=>?_);refine z8 (n:=(i7 S.W.pts).length) (λj out H'=>Same (C4 S.p o2 (i7 S.W.pts) G1) H'/\out=(((S.W.pts.take j).filter λx=>decide (x.2=kd)).map (·.1)).map V.str) ⟨Same.refl _,rfl⟩ (λj out H' hj hp=>⟨hp.1 _ _ d6,hj⟩) ?_ ?_
    .rintro N j v out G2' G2 hj ⟨s2,rfl⟩ ⟨rfl,kv,f_,rfl⟩ hN';obtain⟨x,Rj,rfl⟩:=az f_;have D_:=Kr Rj;have Va:=(N9 (o:=o2) S1.hp).trans s2.le;have S2:=S1.at_.mono Va;have B2:=B1.at_.mono Va;rw[k9] at hj;have y_:(((S.W.pts.take j).filter λx=>decide (x.2=kd)).map (·.1)).length<=100:=by
      rw[Kb];exact Kw (Km _ _) (by rw[Kt];lia)
     rfl';refine⟨rfl,?_⟩;rfl';refine u4 S2.tup ?_;rfl';refine wK S2.pts ⟨_,L9 (E5 hS.nd) D_⟩ ?_;rw[J3 (E5 hS.nd) (show(x.1,x.2)∈S.W.pts from D_)];rfl';refine u4 B2.tup ?_;rfl';refine wK B2.pts ⟨_,L9 (E5 hB.nd) Tq⟩ ?_;rw[J3 (E5 hB.nd) Tq];rfl';refine M9 (λb1=>?_) (λb1=>?_)
     .rfl';refine⟨d0 (by rw[Kb];lia),hN' _ _ ⟨s2,?_⟩⟩;rw[jd Rj (by simpa using b1),Ki,Ki];rfl
     .refine hN' _ _ ⟨s2,?_⟩;rw[jb Rj (by simpa using b1)]
    .rintro out G2 ⟨s2,rfl⟩;rw[k9,Kl (Ke _)];have y_:((S.W.pts.filter λx=>decide (x.2=kd)).map (·.1)).length<=12:=by
      rw[Kb];exact Kw (Km _ _) (by lia)
     refine⟨⟨s2 _ _ d6,by rw[k9];exact Ke _⟩,λD2 hD2=>⟨d0 (by rw[Kb];lia),?_⟩⟩;have sM:=O4 S1.hp s2 hD2 (u:= .lst (((S.W.pts.filter λx=>decide (x.2=kd)).map (·.1)).map V.str));have fM:=aj s2 hD2 (u:= .lst (((S.W.pts.filter λx=>decide (x.2=kd)).map (·.1)).map V.str));generalize thaw S.p (upd G2 D2 (.lst (((S.W.pts.filter λx=>decide (x.2=kd)).map (·.1)).map V.str)))=G3 at sM fM⊢;have SM:D.length<=12 ^ 4:=Kw dl (kQ (P' i));have VH:D.length*((S.W.pts.filter λx=>decide (x.2=kd)).map (·.1)).length<=12 ^ 4*12:=PF SM y_;rfl';refine⟨lf,D2,ys,D,s1[i],_,rfl,SqL.of (sM _ _ g1),RT.same sM,λmm S_=>⟨?_,?_⟩,SqL.of fM,Kw VH (by decide),λl4 G4 ys4 n4 m4 f4 ms4=>?_⟩
     .rw[(ai.ok mm S_).ks];exact nw.no
     .have z:=LK List.length (ai.ok mm S_).ks;rw[Kb,Kj,Kb] at z;have:=P' i;lia
     .have s4:=K_.trans (sM.trans m4);rfl';walk_at "X";refine⟨s4,(sM.trans m4) _ _ Vu,l4,ys4,_,_,rfl,f4,(K_.trans sM).free n4,ms4,?_,?_⟩
      .rw[jd Sz hu];refine ai.point hB.nd Tq nw λx Rj z=>?_;have hxs:x.1∈s1:=by
        rcases Kg.mp z with q|q
        .exact Mw (Kp.mp q).1
        .rw[show x.1=s1[i] by simpa using q];exact KS hi
       exact(Ks.mp hB.nd).2.2 x.1 (a1.mem_iff.mp hxs) x.1 (Kd.mpr ⟨x,Rj,rfl⟩) rfl
      .rw[jd Sz hu,Kj,Ku,Ra];exact Kw gd (PF dl y_)
   .rfl';have hu:K5 fx s1[i]=false:=by unfold K5;simpa using hb
    walk_at "X";refine⟨K_,Vu,lf,ys,D,_,rfl,g1,Tp,RT,?_,?_⟩
    .rw[jb Sz hu];exact ai
    .rw[jb Sz hu];exact dl
  rintro σ G1 ⟨K_,Vu,lf,ys,D,v4,rfl,g1,Tp,RT,ai,dl⟩;refine⟨⟨_,SqL.of Vu,by rw[Kb];exact Ke _⟩,?_⟩;rw[Kl (Ke _)] at ai dl;have B1:=hB.same K_;refine hx [some (.ref B.a),some (.ref S.a),some (.ref m),some (.ref lf),v4,none,none,none,none,none,none] G1 ?_;clear hx Vu f1 f0 e0 e1;refine O1 λnx3 hx=>?_;rfl';refine j9 B1.at_.tup ?_;rfl';refine A6 (ss:=B.W.ts.map (·.1)) B1.at_.ties (by rw[B1.at_.ts.keys,B6]) (by rw[Kb];lia) (λs2 b1 b2 l2 n2=>?_);obtain⟨G2,e2,f2,m2,_⟩:=b5 (o:= .lst _) n2;rw[e2];have nds:(s1++s2).Nodup:=(a1.append b1).nodup_iff.mpr hB.nd;have ins:∀n∈s1++s2,n∈b7 B.W:=λn z=>(a1.append b1).mem_iff.mp z;have OQ:∀i,(((s1++s2).take i).filter (K5 fx)).length<=4:=λi=>Kw (aE ((nds.sublist (Lv _ _)).sublist Ll) λn hn=>Kp.mpr ⟨ins n (Mw (Kp.mp hn).1),(Kp.mp hn).2⟩) hc4;have RN:∀{s:List Str} {i:Nat},((s1++s2).take (s1.length+i)).filter (K5 fx)=s1.filter (K5 fx)++(s2.take i).filter (K5 fx):=fun{s i}=>by rw[gx,KP]
  refine A8 (SqL.of f2) ?_;refine R4 (n:=s2.length) (λi σ H'=>Same H H'/\H' l2=some (.lst (s2.map V.str))/\∃(lf:Addr) (ys:List V) (D:List (List (Str×Str))) (v4 v5 v6 v7 v8 v9 v10:Option V),σ=[some (.ref B.a),some (.ref S.a),some (.ref m),some (.ref lf),v4,v5,v6,v7,v8,v9,v10]/\H' lf=some (.lst ys)/\H lf=none/\MsAt H' ys D/\AI B.W S.W fx (((s1++s2).take (s1.length+i)).filter (K5 fx)) D/\D.length<=12 ^ (((s1++s2).take (s1.length+i)).filter (K5 fx)).length) ⟨K_.trans m2,f2,lf,ys,D,_,_,_,_,_,_,_,rfl,m2 _ _ g1,Tp,RT.same m2,by rw[gx,PD,Lb];exact ai,by rw[gx,PD,Lb];exact dl⟩ (λi σ H' hi hp=>⟨_,.str (s2[i]),SqL.of hp.2.1,by rw[Kh,Kc hi];rfl⟩) ?_ ?_
  .clear dl ai RT g1 Tp f2;rintro bk i v σ G3' G3 hi ⟨s3,l3,lf,ys,D,v4,v5,v6,v7,v8,v9,v10,rfl,g3,Tp,WW,ai,dl⟩ y _ _;obtain⟨rfl,hy⟩:=Itl.get y (SqL.of l3);rw[Kh,Kc hi] at hy;cases hy;have Sz:(s1++s2)[s1.length+i]?=some s2[i]:=by rw[Lx (by lia),Nat.add_sub_cancel_left];exact Kc hi
   have B3:=hB.same s3;have M3:=s3 _ _ hm;rfl';refine N7 (K1 (k:=Sum.inr s2[i]) (.inl M3)) ?_;rw[M4];rfl';refine O6 (λhb=>?_) (λhb=>?_)
   .have hu:K5 fx s2[i]=true:=by unfold K5;simpa using hb
    obtain⟨⟨w',kd,eb,ee⟩,Tq,ewk⟩:=Kd.mp (b1.mem_iff.mp (KS hi));have UW:w'=s2[i]:=ewk;rw[UW] at Tq;have nw:=Jz nds ins ho.nk ho.fin Sz hu;obtain⟨bt,hbt,sbt⟩:=dQ B3.at_.ts (O8 hB.nd) Tq;have T_:∀x∈B.W.ts,x.2.2.1∈fx.map (·.1)++((s1++s2).take (s1.length+i)).filter (K5 fx)/\x.2.2.2∈fx.map (·.1)++((s1++s2).take (s1.length+i)).filter (K5 fx):=λx Rj=>by
     have he:=hB.ends x Rj;have m_:∀{n:Str},n∈B.W.pts.map (·.1)->n∈fx.map (·.1)++((s1++s2).take (s1.length+i)).filter (K5 fx):=fun{n} hn=>by
      by_cases hf:n∈fx.map (·.1)
      .exact Kf _ hf
      .refine Kk _ (Kp.mpr ⟨?_,by unfold K5;simpa using hf⟩);rw[gx];exact Kf _ (a1.mem_iff.mpr hn)
     exact⟨m_ he.1,m_ he.2⟩
    have Pw:=T_ _ Tq;have y_:∀mm:List (Str×Str),((S.W.ts.filter λx=>decide (x.2=(kd,j4 (i7 mm) eb,j4 (i7 mm) ee))).map (·.1)).length<=12:=λmm=>by
     rw[Kb];exact Kw (Km _ _) (by lia)
    have SM:D.length<=12 ^ 4:=Kw dl (kQ (OQ _));refine O1 λnx4 hx4=>?_;rfl';refine j9 B3.at_.tup ?_;rfl';refine z0 (v:= .ref bt) (by have z:=K1 (k:=Sum.inr s2[i]) B3.at_.ties;rw[hbt] at z;exact z) ?_;refine I0 sbt rfl ?_;show kJ (O7 5) (kJ (O7 6) (kJ (O7 7) Cu)) [V.str kd,.str eb,.str ee] _ _ _;rfl';refine hx4 [some (.ref B.a),some (.ref S.a),some (.ref m),some (.ref lf),some (.str s2[i]),some (.str kd),some (.str eb),some (.str ee),v8,v9,v10] _ ?_;clear hx4;refine O1 λnx5 hx4=>?_;rfl';refine⟨d0 (by simp),λlm nlm=>?_⟩;obtain⟨G4,e4,f4,m4,_⟩:=b5 (o:= .lst []) nlm;rw[e4];rfl';refine hx4 [some (.ref B.a),some (.ref S.a),some (.ref m),some (.ref lf),some (.str s2[i]),some (.str kd),some (.str eb),some (.str ee),some (.ref lm),v9,v10] _ ?_;clear hx4;refine O1 λnx6 hx4=>?_;have hyl:=KW WW;rfl';refine A8 (SqL.of (m4 _ _ g3)) ?_;refine R4 (n:=ys.length) (λj σ H'=>Same G3 H'/\(∃v9 v10,σ=[some (.ref B.a),some (.ref S.a),some (.ref m),some (.ref lf),some (.str s2[i]),some (.str kd),some (.str eb),some (.str ee),some (.ref lm),v9,v10])/\∃zs,H' lm=some (.lst zs)/\MsAt H' zs ((D.take j).flatMap λmm=>aw [mm] s2[i] ((S.W.ts.filter λx=>decide (x.2=(kd,j4 (i7 mm) eb,j4 (i7 mm) ee))).map (·.1)))/\zs.length<=j*12) ⟨m4,⟨_,_,rfl⟩,[],f4,.nil,LJ _⟩ (λj σ H' hj hp=>⟨ys,ys[j],SqL.of (hp.1 _ _ g3),Kc hj⟩) ?_ ?_
    .rintro bk2 j v σ G5' G5 hj ⟨s5,⟨v9,v10,rfl⟩,zs,g5,UU,zl⟩ y' _ _;obtain⟨rfl,Rg⟩:=Itl.get y' (SqL.of (s5 _ _ g3));obtain⟨mm,S_,d,rfl,hd⟩:=K8 WW Rg;have g:=ai.ok mm (Kr S_);have SI:eb∈mm.map (·.1):=by rw[g.ks];exact Pw.1
     have Tf:ee∈mm.map (·.1):=by rw[g.ks];exact Pw.2
     have S5:=hS.same (s3.trans s5);have d5:=s5 _ _ hd;refine O1 λnx7 Xs=>?_;rfl';refine j9 S5.at_.tup ?_;refine aM S5.hq (λSl o6=>?_);refine z8 (n:=S.kvs.length) (λj' out H'=>Same (C4 S.q o6 S.kvs G5) H'/\out=(((S.W.ts.take j').filter λx=>decide (x.2=(kd,j4 (i7 mm) eb,j4 (i7 mm) ee))).map (·.1)).map V.str) ⟨Same.refl _,rfl⟩ (λj' out H' Wj hp=>⟨hp.1 _ _ d6,Wj⟩) ?_ ?_
     .rintro N j' v out G6' G6 Wj ⟨s6,rfl⟩ ⟨rfl,kv,f_,rfl⟩ hN';have le6:=(N9 (o:=o6) S5.hq).trans s6.le;have S6:=S5.at_.mono le6;obtain⟨x,Rj,ex,bb,ebb,sb⟩:=S6.ts.get f_;have Qt:=Kr f_;obtain⟨kk,Rw⟩:=kv;have O':kk=Sum.inr x.1:=ex;have Rx:Rw= .ref bb:=ebb;subst O' Rx;obtain⟨x0,x1,x2,x3⟩:=x;have D6:Rd G6 d (.dK (i7 mm)):=le6.dic (.inl d5);have hol6:(((S.W.ts.take j').filter λx=>decide (x.2=(kd,j4 (i7 mm) eb,j4 (i7 mm) ee))).map (·.1)).length<=100:=by
       rw[Kb];exact Kw (Km _ _) (by rw[Kt];lia)
      rfl';refine⟨rfl,?_⟩;rfl';refine j9 S6.tup ?_;rfl';refine z0 (v:= .ref bb) (by have z:=K1 (k:=Sum.inr x0) S6.ties;rw[bV (kv:=(Sum.inr x0,.ref bb)) Sl Qt] at z;exact z) ?_;rfl';refine wK D6 ⟨_,L9 g.nk (ig g.nk SI)⟩ ?_;rfl';refine wK D6 ⟨_,L9 g.nk (ig g.nk Tf)⟩ ?_;rfl';refine⟨d0 (by simp),λl7 n7=>?_⟩;obtain⟨G7,e7,f7,m7,_⟩:=b5 (o:= .tup (ax (kd,j4 (i7 mm) eb,j4 (i7 mm) ee))) n7;change jx K _ _ (upd G6 l7 (.tup (ax (kd,j4 (i7 mm) eb,j4 (i7 mm) ee)))) _;rw[e7];refine oF (se (m7.tup sb) (SqT.of f7) (ia _) (ia _) ?_);rw[qK];rfl';refine M9 (λb1=>?_) (λb1=>?_)
      .rfl';refine⟨d0 (by rw[Kb];lia),hN' _ _ ⟨s6.trans m7,?_⟩⟩;rw[jd Rj (by simpa using b1),Ki,Ki];rfl
      .refine hN' _ _ ⟨s6.trans m7,?_⟩;rw[jb Rj (by simpa using b1)]
     .rintro out G6 ⟨s6,rfl⟩;rw[hSk,Kl (Ke _)];have ho6:=y_ mm;refine⟨⟨s6 _ _ d6,by rw[hSk];exact Ke _⟩,λD2 hD2=>⟨d0 (by rw[Kb];lia),?_⟩⟩;have sM:=O4 S5.hq s6 hD2 (u:= .lst (((S.W.ts.filter λx=>decide (x.2=(kd,j4 (i7 mm) eb,j4 (i7 mm) ee))).map (·.1)).map V.str));have fM:=aj s6 hD2 (u:= .lst (((S.W.ts.filter λx=>decide (x.2=(kd,j4 (i7 mm) eb,j4 (i7 mm) ee))).map (·.1)).map V.str));generalize thaw S.q (upd G6 D2 (.lst (((S.W.ts.filter λx=>decide (x.2=(kd,j4 (i7 mm) eb,j4 (i7 mm) ee))).map (·.1)).map V.str)))=G7 at sM fM⊢;rfl';refine Xs [some (.ref B.a),some (.ref S.a),some (.ref m),some (.ref lf),some (.str s2[i]),some (.str kd),some (.str eb),some (.str ee),some (.ref lm),some (.ref d),some (.ref D2)] _ ?_;clear Xs;rfl';refine⟨.inl ⟨rfl,_,SqL.of (sM _ _ g5)⟩,?_⟩;rfl';refine⟨d0 (by simp),λl8 n8=>?_⟩;obtain⟨G8,e8,f8,m8,_⟩:=b5 (o:= .lst [.ref d]) n8;rw[e8];have s58:=sM.trans m8;rfl';refine⟨l8,D2,[.ref d],[mm],s2[i],_,rfl,SqL.of f8,.cons ⟨d,rfl,s58 _ _ d5⟩ .nil,λmm' hmm'=>?_,SqL.of (m8 _ _ fM),by rw[Ku];lia,λl9 G9 ys9 n9 m9 f9 ms9=>?_⟩
      .rw[Kq.mp hmm'];refine⟨by rw[g.ks];exact nw.no,?_⟩;have z:=LK List.length g.ks;rw[Kb,Kj,Kb] at z;have:=OQ (s1.length+i);lia
      .have WX:=s58.trans m9;have g9:=WX _ _ g5;have hy9:=KW ms9;have Xi:=gd (D:=[mm]) (w:=s2[i]) (names:=(S.W.ts.filter λx=>decide (x.2=(kd,j4 (i7 mm) eb,j4 (i7 mm) ee))).map (·.1));rw[Ku] at Xi;have Wj:j<12 ^ 4:=by lia
       have h20:(12:Nat) ^ 4=20736:=by decide
       rfl';refine⟨lm,l9,_,_,rfl,rfl,g9,f9,Nn (iK (by lia)),?_⟩;walk_at "X";refine⟨E7 (s5.trans WX) nlm,⟨_,_,rfl⟩,_,d6,?_,by rw[Kj];lia⟩;rw[KI,S_,NZ];refine MsAt.app ((UU.same WX).upd g9) ?_;simpa using ms9.upd g9
    .rintro σ G5 ⟨s5,⟨v9,v10,rfl⟩,zs,g5,UU,zl⟩;refine⟨⟨ys,SqL.of (s5 _ _ g3),Ke _⟩,?_⟩;rw[hyl,Kl (Ke _)] at UU;refine hx4 [some (.ref B.a),some (.ref S.a),some (.ref m),some (.ref lf),some (.str s2[i]),some (.str kd),some (.str eb),some (.str ee),some (.ref lm),v9,v10] G5 ?_;rfl';walk_at "X";refine⟨s3.trans s5,s5 _ _ l3,lm,zs,_,_,_,_,_,_,_,_,rfl,g5,s3.free nlm,UU,?_,?_⟩
     .rw[←OE,jd Sz hu];exact ai.tie hB.nd Tq nw T_
     .rw[←OE,jd Sz hu,Kj,Ku,Ra,NY];refine Kw (pV (B:=12) λmm _=>?_) (Mv _ dl);refine Kw gd ?_;rw[Ku,PX];exact y_ mm
   .rfl';have hu:K5 fx s2[i]=false:=by unfold K5;simpa using hb
    walk_at "X";refine⟨s3,l3,lf,ys,D,_,_,_,_,_,_,_,rfl,g3,Tp,WW,?_,?_⟩
    .rw[←OE,jb Sz hu];exact ai
    .rw[←OE,jb Sz hu];exact dl
  clear dl ai RT g1 Tp f2;rintro σ G3 ⟨s3,l3,lf,ys,D,v4,v5,v6,v7,v8,v9,v10,rfl,g3,Tp,WW,ai,dl⟩;refine⟨⟨_,SqL.of l3,by rw[Kb];exact Ke _⟩,?_⟩;rw[Kl (by rw[Kj];lia)] at ai dl;refine hx [some (.ref B.a),some (.ref S.a),some (.ref m),some (.ref lf),v4,v5,v6,v7,v8,v9,v10] G3 ?_;rfl';have hc9:=OQ (s1++s2).length;rw[Kl (Ke _)] at hc9;refine k lf G3 ys D _ Tp s3 g3 WW ai ?_ (Kw dl (Kw (kQ hc9) (by decide)));refine(Ma ?_ hB.nd).mpr λn=>?_
  .exact Ks.mpr ⟨ho.nk,nds.sublist Ll,λa ha b hb e=>by
    have q:=(Kp.mp hb).2;unfold K5 at q;rw[←e] at q;simp [ha] at q⟩
  .constructor
   .intro z;rcases Kg.mp z with q|q
    .exact ho.fin n q
    .exact ins n (Kp.mp q).1
   .intro z;by_cases hf:n∈fx.map (·.1)
    .exact Kf _ hf
    .exact Kk _ (Kp.mpr ⟨(a1.append b1).mem_iff.mpr z,by unfold K5;simpa using hf⟩)
def dj (K:Qc):Sp:=λvs H Q _=>∃(S L R:Sd) (r bl f:Addr) (bs:List Sd) (fr:List (Str×Str)) (W0:C9),vs=[.ref S.a,.ref r,.ref f]/\SdIs K H S/\RuleIs K H r bl L R bs/\H f=some (.dK (i7 fr))/\FrOk W0 L.W R.W fr/\∀(b:Bool) (H':Hp),(b=true↔∀x∈fr,x.2∉b7 S.W)->Same H H'->Q (.bl b) H'
abbrev eO:=λP w K mg base=>U0 P w K mg base F0 4 "names_serve" ["web","rule","fresh"] [] (dj K)
def kF {f fd}(T:Txt K mg)(Y0:ff P w K mg base)(iE:nC P w K mg base)(F:Fun K "names_serve" "names_serve" bc f fd):C5 P w K mg base F0 4 f fd ["web","rule","fresh"] (dj K):=by
 walk_at "#sc_names_serve"
 .obtain⟨S,L,R,r,bl,f,bs,fr,W0,rfl,_⟩:=h;rfl
 .obtain⟨S,L,R,r,bl,f,bs,fr,W0,rfl,hS,hR,hF,ok,k⟩:=h;have x_:=ok.len;walk_at "@sc_names_serve 435'0Y0 61bnIZTC^][723@~m~6~l-a(p62p63j8WbnTC~2~1~03wname;2;r03h0kname,fresh;D5'0iE 3~k01008Wbna(p3#'2GZ &O'0T.b_set ~x#~b~a~9_%~5~4~302p63j8W8'1Jp C'2Ir &O'0T.b_any '0Boot.«any» 3wname;0;'1zT 02h0kname,web;D'2JE EF0011o'1AU EF0011o"
  symm;refine⟨r,bl,L,R,bs,rfl,hR,λl1 H1 s1 s2 n1 m1 or f1=>?_⟩;have pg:((s1++s2).filter λn=>!decide (n∈b7 L.W)).Perm (fr.map (·.1)):=(or.perm.filter _).trans ok.ks.symm;generalize (s1++s2).filter (λn=>!decide (n∈b7 L.W))=gs at f1 pg;have hgl:=pg.length_eq;rw[Kb] at hgl;have F1:=m1 _ _ hF;symm;refine iY (jo (t:="dict") (.inr (.inr ⟨rfl,_,.inl F1⟩)) (by simp) ?_);symm;rw[if_neg (by decide)];symm;refine F2 (bG (.inl F1) ?_);symm;refine F2 (u9 (SqL.of f1) ?_);rw[k9,Kb,hgl];symm;rw[if_neg (by simp)];symm;refine A8 (SqL.of f1) ?_;refine z8 (n:=fr.length) (λi out H'=>Same H1 H'/\out=List.replicate i (V.bl true)) ⟨Same.refl _,rfl⟩ (λi out H' hi hp=>⟨_,.str (gs[i]'(by lia)),SqL.of (hp.1 _ _ f1),by rw[Kh,Kc (show i<gs.length by lia)];rfl⟩) ?_ ?_
  .rintro N i v out H2' H2 hi ⟨s2',rfl⟩ y hN';obtain⟨rfl,hx⟩:=Itl.get y (SqL.of (s2' _ _ f1));rw[Kh,Kc (show i<gs.length by lia)] at hx;cases hx;obtain⟨x,hm,ex⟩:=Kd.mp (pg.mem_iff.mp (KS (show i<gs.length by lia)));rw[←ex];symm;refine⟨rfl,?_⟩;symm;refine⟨f,rfl,.inl ⟨_,.inl (s2' _ _ F1)⟩,?_⟩;symm;refine⟨_,K1 (k:=Sum.inr x.1) (show Rd H2 f _ from .inl (s2' _ _ F1)),?_⟩;rw[L9 (k:=x.2) (ok.nd1 hR.r.nd) hm];symm;refine⟨_,rfl,.inl ⟨x.2,rfl,zO (ok.nm x hm),λH3 m3=>?_⟩⟩;rw[ok.nm x hm];refine⟨d0 (by rw[Mr];lia),hN' _ _ ⟨s2'.trans m3,?_⟩⟩;rw[List.replicate_succ']
  .rintro out H2 ⟨s2',rfl⟩;refine⟨⟨_,SqL.of (s2' _ _ f1),by rw[Kb];lia⟩,λD hD=>⟨d0 (by rw[Mr];lia),?_⟩⟩;obtain⟨H3,e3,f3,m3,_⟩:=b5 (H:=H2) (o:= .lst (List.replicate fr.length (V.bl true))) hD;symm;change xm K _ (upd H2 D _) _;rw[e3];refine oi (bs:=List.replicate fr.length true) (SqL.of (by rw[f3,List.map_replicate])) ?_;rw[Cr];have C_:=s2'.trans m3;have F3:=C_ _ _ F1;symm;refine⟨.inr (.inr (.inl ⟨rfl,.inl ⟨_,F3⟩⟩)),?_⟩;symm;refine⟨f,_,rfl,rfl,.inl F3,λv4 n4=>?_⟩;obtain⟨H4,e4,f4,m4,_⟩:=b5 (o:= .ext (gZ v4 f)) n4;rw[e4];symm;refine Z8 f4 (.inl (m4 _ _ F3)) (λl5 n5=>?_);rw[fS];obtain⟨H5,e5,f5,m5,_⟩:=b5 (o:= .lst _) n5;rw[e5];symm;refine⟨l5,_,rfl,SqL.of f5,by rw[Kb];lia,λl6 n6=>?_⟩;obtain⟨H6,e6,f6,m6,_⟩:=b5 (o:= .ext (dF l6 (iN (fr.map (·.2))).length)) n6;rw[e6];have XO:=C_.trans (m4.trans (m5.trans m6));have UJ:(iN (fr.map (·.2))).length=fr.length:=by
    have z:=(qt (fr.map (·.2))).mpr ok.nd;rw[Kb] at z;exact z
   symm;refine nJ f6 (by lia) ?_;rw[UJ];symm;refine F2 (u9 (SqL.of (XO _ _ f1)) ?_);rw[Kb,hgl];symm;rw[if_neg (by simp)];have F6:=XO _ _ F1;have S6:=hS.same (m1.trans XO);symm;refine⟨f,_,rfl,.inl ⟨F6,λndf o=>?_⟩⟩;refine z8 (n:=(i7 fr).length) (λi out H'=>Same (C4 f o (i7 fr) H6) H'/\out=(fr.take i).map λx=>V.bl (decide (x.2∈b7 S.W))) ⟨Same.refl _,rfl⟩ (λi out H' hi hp=>⟨hp.1 _ _ d6,hi⟩) ?_ ?_
   .rintro N i v out H7' H7 hi ⟨s7,rfl⟩ ⟨rfl,kv,f_,rfl⟩ hN';have le7:=(N9 (o:=o) F6).trans s7.le;have S7:=S6.at_.mono le7;obtain⟨x,hx,rfl⟩:=az f_;rw[k9] at hi;have ex:∀b,b=decide (x.2∈b7 S.W)->((fr.take i).map λx=>V.bl (decide (x.2∈b7 S.W)))++[V.bl b]=(fr.take (i+1)).map λx=>V.bl (decide (x.2∈b7 S.W)):=λb hb=>by rw[hb];exact K3 (λx:Str×Str=>V.bl (decide (x.2∈b7 S.W))) hx
    symm;refine⟨rfl,?_⟩;symm;refine A9 S7.tup (k7 (j:=0) rfl) ?_;refine aF (K1 (k:=Sum.inr x.2) S7.pts) ?_;rw[M4];by_cases hz:x.2∈S.W.pts.map (·.1)
    .rw[KA hz];symm;exact⟨d0 (by rw[Kb,Kt];lia),hN' _ _ ⟨s7,ex _ (KA (Kf _ hz)).symm⟩⟩
    .rw[KQ hz];symm;refine A9 S7.tup (k7 (j:=1) rfl) ?_;refine aF (K1 (k:=Sum.inr x.2) S7.ties) ?_;rw[Y6 S7.ts];exact⟨d0 (by rw[Kb,Kt];lia),hN' _ _ ⟨s7,ex _ (by rw[Lg,KJ,KJ];exact⟨λq=>Kk _ q,λq=>(Kg.mp q).resolve_left hz⟩)⟩⟩
   .rintro out H7 ⟨s7,rfl⟩;rw[k9,Kl (Ke _),show(fr.map λx=>V.bl (decide (x.2∈b7 S.W)))=(fr.map λx=>decide (x.2∈b7 S.W)).map V.bl by rw[Lf];rfl];refine⟨⟨s7 _ _ d6,by rw[k9];exact Ke _⟩,λD8 n8=>⟨d0 (by rw[Kb,Kb];lia),?_⟩⟩;have s8:=O4 F6 s7 n8 (u:= .lst ((fr.map λx=>decide (x.2∈b7 S.W)).map V.bl));have f8:=aj s7 n8 (u:= .lst ((fr.map λx=>decide (x.2∈b7 S.W)).map V.bl));generalize thaw f (upd H7 D8 (.lst ((fr.map λx=>decide (x.2∈b7 S.W)).map V.bl)))=H8 at s8 f8⊢;symm;refine⟨D8,_,rfl,SqL.of f8,?_⟩;symm;refine k _ _ ?_ (m1.trans (XO.trans s8));rw[Lw,List.any_map,QH];exact⟨λz x hx=>λq=>z x hx (KA q),λz x hx q=>z x hx (Ly q)⟩
structure EA (m:Addr) (bs:List Sd) (fx:List (Str×Str)):Prop where
 len:bs.length<=10
 b:∀b∈bs,m≠b.p/\m≠b.q/\∀W:C9,W.pts.length+W.ts.length<=12->HF b.W W fx
structure BU (W L R:C9) (fx:List (Str×Str)) (bs:List Sd):Prop where
 fit:FitP L W (i7 fx)
 lo:∀x∈W.ts,x.1∉gsW L R (i7 fx)->x.2.2.1∉gsW L R (i7 fx)/\x.2.2.2∉gsW L R (i7 fx)
 no:∀b∈bs,E4 b.W W fx=[]
structure AK (W L R:C9) (fx fr:List (Str×Str)) (bs:List Sd):Prop where
 r:BU W L R fx bs
 f:∀x∈fr,x.2∉b7 W
abbrev Fj:List Str:=["NoMatch","Loose","Barred","NoNames"]
def ug {W L:C9}{km:List (j6×V)}(h:FitP L W km){n:Str}(hn:n∈b7 L):j4 km n∈b7 W:=by
 rcases Kg.mp hn with z|z
 .obtain⟨x,hx,rfl⟩:=Kd.mp z;exact Kf _ (Kd.mpr ⟨_,h.pts x hx,rfl⟩)
 .obtain⟨x,hx,rfl⟩:=Kd.mp z;exact Kk _ (Kd.mpr ⟨_,h.ts x hx,rfl⟩)
def FrOk.mv {W0 W L R:C9}{fr:List (Str×Str)}(h:FrOk W0 L R fr)(no:∀x∈fr,x.2∉b7 W):FrOk W L R fr:=⟨h.ks,h.nm,h.nd,no,h.len⟩
def Hi {W L R:C9}{km:List (j6×V)}{fr:List (Str×Str)}(h:FitP L W km)(fo:FrOk W L R fr)(ndR:(b7 R).Nodup):((b7 R).map (bh L km (i7 fr))).Nodup:=iC ndR λa ha b hb e=>by
 by_cases hA:a∈b7 L<;>by_cases hB:b∈b7 L
 .rw[gc _ _ hA,gc _ _ hB] at e;exact zz h.nd hA hB e
 .rw[gc _ _ hA,gE _ _ hB] at e;exact absurd (e▸ug h hA) (fo.no _ (fo.txt ndR (fo.mem.mpr ⟨hb,hB⟩)).2)
 .rw[gE _ _ hA,gc _ _ hB] at e;exact absurd (e▸ug h hB) (fo.no _ (fo.txt ndR (fo.mem.mpr ⟨ha,hA⟩)).2)
 .rw[gE _ _ hA,gE _ _ hB] at e;have z1:=(fo.txt ndR (fo.mem.mpr ⟨ha,hA⟩)).2;rw[e] at z1;exact ae fo.nd z1 (fo.txt ndR (fo.mem.mpr ⟨hb,hB⟩)).2
def jY (K:Qc):Sp:=λvs H Q E=>∃(S L R:Sd) (st r m f bl:Addr) (kf:List (j6×V)) (bs:List Sd) (fx:List (Str×Str)),vs=[.ref S.a,.ref st]/\SdIs K H S/\StI K H st r m f bl L R (i7 fx) kf bs/\EA m bs fx/\(fx.map (·.1)).Nodup/\fx.length<=100/\S.W.pts.length+S.W.ts.length<=12/\(BU S.W L.W R.W fx bs->NewP K H Q (bf (gsW L.W R.W (i7 fx)) S.W))/\(¬BU S.W L.W R.W fx bs->∀c∈Fj,∀H' e,Same H H'->H' e=none->E (.ref (cA K c)) (some e) H')
def uF (K:Qc):Sp:=λvs H Q E=>∃(S L R:Sd) (st r m f bl:Addr) (fr:List (Str×Str)) (bs:List Sd) (fx:List (Str×Str)) (W0:C9),vs=[.ref S.a,.ref st]/\SdIs K H S/\StI K H st r m f bl L R (i7 fx) (i7 fr) bs/\EA m bs fx/\(fx.map (·.1)).Nodup/\fx.length<=100/\S.W.pts.length+S.W.ts.length<=12/\FrOk W0 L.W R.W fr/\(AK S.W L.W R.W fx fr bs->NewP K H Q (jl S.W L.W R.W (i7 fx) (i7 fr)))/\(¬AK S.W L.W R.W fx fr bs->∀c∈Fj,∀H' e,Same H H'->H' e=none->E (.ref (cA K c)) (some e) H')
abbrev nO:=λP w K mg base=>U0 P w K mg base (mJ P w) 10 "rest_of" ["web","step"] [] (jY K)
def sX {f fd}(T:Txt K mg)(fI:mr P w K mg base)(iL:mR P w K mg base)(Q4:cT P w K mg base)(aG:kU P w K mg base)(F:Fun K "rest_of" "rest_of" ir f fd):C5 P w K mg base (mJ P w) 10 f fd ["web","step"] (jY K):=by
 refine F.okE sc_rest_of (λvs H Q E h=>?_) (λc_ A outer s H vs Q E hr h=>?_)
 .obtain⟨S,L,R,st,r,m,f,bl,kf,bs,fx,rfl,_⟩:=h;rfl
 .obtain⟨S,L,R,st,r,m,f,bl,kf,bs,fx,rfl,hS,hT,nb,knd,kln,hsz,k,kE⟩:=h;have WG:=hT.r.l.len;have UM:=hT.r.r.len;walk_at "@sc_rest_of 4211bnT5'0fI s1270311e~j'0T.r_NoMatch O3S43|'0iL ~q7035'0Q4 61bna~75'0aG 7072311Yje~j'0T.r_Barred O3S803"
  symm;refine A9 hT.tup (k7 (j:=0) rfl) ?_;symm;refine A9 hT.r.tup (k7 (j:=0) rfl) ?_;symm;refine A9 hT.tup (k7 (j:=1) rfl) ?_;symm;refine⟨L.a,L.p,L.q,S.a,S.p,S.q,L.kvs,S.kvs,L.W,S.W,.ref m,tR L.W S.W (i7 fx),rfl,hT.r.l,hS,⟨m,_,rfl,hT.m,aB knd,by rw[k9];exact kln,λkv hk=>?_,rfl⟩,λH1 m1=>?_⟩
  .obtain⟨x,_,rfl⟩:=Kd.mp hk;exact⟨"str",rfl⟩
  have T1:=hT.same m1;have S1:=hS.same m1;by_cases fit:FitP L.W S.W (i7 fx);case neg=>
   rw[iQ fit]
   symm
   exact⟨d0 (by simp),λe he=>kE (λz=>fit z.fit) _ (by simp) H1 e m1 he⟩
  rw[uY fit];symm;refine⟨st,r,m,bl,.ref f,L,R,bs,_,rfl,T1.tup,T1.r,.inl T1.m,fit.txt,λl2 H2 s1 s2 n2 m2 o2 f2=>?_⟩;have T2:=T1.same m2;have S2:=S1.same m2;symm;have Ua:=tE (R:=R.W) (km:=i7 fx) o2;generalize ((s1++s2).filter λn=>!decide (n∈b7 R.W)).map (j4 (i7 fx))=gs at f2 Ua;have hsz':=S2.len;rw[C3] at hsz';refine⟨S.a,l2,S.p,S.q,S.kvs,S.W,gs,rfl,S2.at_,S2.hp,S2.hq,SqL.of f2,E5 hS.nd,O8 hS.nd,by lia,by lia,λx hx=>hS.nl _ (Kk _ (Kd.mpr ⟨x,hx,rfl⟩)),?_⟩;by_cases hl:oG gs S.W=true;case pos=>
   rw[if_pos hl]
   refine λH3 e m3 he=>kE (λz=>?_) _ (by simp) H3 e (m1.trans (m2.trans m3)) he
   obtain⟨x,hx,hz⟩:=LQ.mp hl
   have h_:=Kp.mp (show x∈S.W.ts.filter λx=>!decide (x.1∈gs) from hx)
   have hn:x.1∉gsW L.W R.W (i7 fx):=λq=>by
    have q2:=h_.2;rw[KA ((Ua _).mpr q)] at q2;cases q2
   have he:=z.lo x h_.1 hn
   rw[Pg,KJ,KJ,Ua,Ua] at hz
   exact hz.elim he.1 he.2
  have lo:∀x∈S.W.ts,x.1∉gsW L.W R.W (i7 fx)->x.2.2.1∉gsW L.W R.W (i7 fx)/\x.2.2.2∉gsW L.W R.W (i7 fx):=λx hx hn=>by
   have hf:x∈S.W.ts.filter λx=>!decide (x.1∈gs):=Kp.mpr ⟨hx,by rw[KQ λq=>hn ((Ua _).mp q)];rfl⟩;have no:¬(decide (x.2.2.1∈gs)||decide (x.2.2.2∈gs))=true:=λq=>hl (LQ.mpr ⟨x,hf,q⟩);rw[Pg,KJ,KJ,Ua,Ua] at no;exact⟨λq=>no (.inl q),λq=>no (.inr q)⟩
  rw[if_neg hl,Fo S.W Ua];intro a3 p3 q3 k3 W3 H3 m3 w3 hp3 hq3 ne3 np3 nq3 e31 e32;have T3:=T2.same m3;have S3:=S2.same m3;symm;refine A9 T3.tup (k7 (j:=1) rfl) ?_;symm;refine⟨S,L,R,r,bl,m,bs,fx,rfl,S3,T3.r,nb.len,T3.m,λb hb=>⟨(nb.b b hb).1,(nb.b b hb).2.1,(nb.b b hb).2.2 _ hsz⟩,λv H4 m4 WY=>?_⟩;have m04:=m1.trans (m2.trans (m3.trans m4));rcases WY with⟨no,rfl⟩|⟨i,b,row,rr,t,d,hb,_,hr,rfl,_⟩
  rotate_left
  .symm;rw[if_pos (by simp)];symm;refine⟨d0 (by simp),λe he=>kE (λz=>?_) _ (by simp) H4 e m04 he⟩;rw[z.no b (Kr hb)] at hr;cases hr
  symm;rw[if_neg (by simp)];symm;exact k ⟨fit,lo,no⟩ a3 p3 q3 k3 W3 H4 m04 (w3.mono m4.le) (m4 _ _ hp3) (m4 _ _ hq3) ne3 ((m1.trans m2).free np3) ((m1.trans m2).free nq3) e31 e32
abbrev tG:=λP w K mg base=>U0 P w K mg base (mJ P w) 11 "done" ["web","step"] [] (uF K)
def AN {f fd}(T:Txt K mg)(iy:nO P w K mg base)(bA:eO P w K mg base)(lU:qm P w K mg base)(iz:mX P w K mg base)(lh:rC P w K mg base)(F:Fun K "done" "done" tq f fd):C5 P w K mg base (mJ P w) 11 f fd ["web","step"] (uF K):=by
 refine F.okE sc_done (λvs H Q E h=>?_) (λc_ A outer s H vs Q E hr h=>?_)
 .obtain⟨S,L,R,st,r,m,f,bl,fr,bs,fx,W0,rfl,_⟩:=h;rfl
 .obtain⟨S,L,R,st,r,m,f,bl,fr,bs,fx,W0,rfl,hS,hT,nb,knd,kln,hsz,fo,k,kE⟩:=h;have WG:=hT.r.l.len;have UM:=hT.r.r.len;walk_at "@sc_done 421143|'0iy ~qi01bnT5'0bA 7072311e~j'0T.r_NoNames O3S85'0lU 7335'0iz g125'0lh 61"
  symm;refine A9 hT.tup (k7 (j:=0) rfl) ?_;symm;by_cases can:BU S.W L.W R.W fx bs;case neg=>exact⟨S,L,R,st,r,m,f,bl,i7 fr,bs,fx,rfl,hS,hT,nb,knd,kln,hsz,λz=>absurd z can,λ_ c hc H' e s' he=>kE (λz=>can z.r) c hc H' e s' he⟩
  refine⟨S,L,R,st,r,m,f,bl,i7 fr,bs,fx,rfl,hS,hT,nb,knd,kln,hsz,λ_=>?_,λz=>absurd can z⟩;intro a3 p3 q3 k3 W3 H3 m3 w3 hp3 hq3 ne3 np3 nq3 e31 e32;have T3:=hT.same m3;have S3:=hS.same m3;symm;refine A9 T3.tup (k7 (j:=2) rfl) ?_;symm;refine⟨S,L,R,r,bl,f,bs,fr,W0,rfl,S3,T3.r,T3.f,fo,λb H4 hb m4=>?_⟩;by_cases no:∀x∈fr,x.2∉b7 S.W;case neg=>
   rw[show b=false from Bool.eq_false_iff.mpr λz=>no (hb.mp z)]
   symm
   exact⟨d0 (by simp),λe he=>kE (λz=>no z.f) _ (by simp) H4 e (m3.trans m4) he⟩
  rw[hb.mpr no];have fo:=fo.mv no;have nd:=Hi can.fit fo hT.r.r.nd;have k:=k ⟨can,no⟩;have T4:=T3.same m4;symm;refine A9 T4.r.tup (k7 (j:=1) rfl) ?_;symm;refine⟨st,r,m,f,bl,L,R,i7 fx,i7 fr,bs,rfl,T4,can.fit.txt,λn h1 h2=>(fo.txt hT.r.r.nd (fo.mem.mpr ⟨h1,h2⟩)).1,λd5 H5 t1 t2 n5 m5 o5 f5=>?_⟩;have T5:=T4.same m5;have nds:=o5.perm.nodup_iff.mpr hT.r.r.nd;have gb:∀n∈b7 R.W,TxtAt (i7 ((t1++t2).map λn=>(n,bh L.W (i7 fx) (i7 fr) n))) n/\j4 (i7 ((t1++t2).map λn=>(n,bh L.W (i7 fx) (i7 fr) n))) n=bh L.W (i7 fx) (i7 fr) n:=λn hn=>lO nds (o5.mem.mpr hn);generalize i7 ((t1++t2).map λn=>(n,bh L.W (i7 fx) (i7 fr) n))=nm at f5 gb;have ndb:((b7 R.W).map (j4 nm)).Nodup:=by
   rw[LB λn hn=>(gb n hn).2];exact nd
  symm;refine⟨R.a,d5,R.p,R.q,R.kvs,nm,R.W,j4 nm,rfl,T5.r.r.at_,T5.r.r.hp,T5.r.r.hq,.inl f5,rfl,λn hn=>(gb n hn).1,ndb,by lia,T5.r.r.ends,?_⟩;rw[Ej (λn hn=>(gb n hn).2) T5.r.r.ends];intro a6 p6 q6 k6 W6 H6 m6 w6 hp6 hq6 ne6 np6 nq6 e61 e62;have RF:=m4.trans (m5.trans m6);symm;have nr:=ph nd;have XD:(W3.pts.map (·.1)).Nodup:=(e31.map _).nodup_iff.mpr (N4 (E5 hS.nd));have XE:(W3.ts.map (·.1)).Nodup:=(e32.map _).nodup_iff.mpr (N4 (O8 hS.nd));have lf1:=Km (λx:Str×Str=>!decide (x.1∈gsW L.W R.W (i7 fx))) S.W.pts;have lf2:=Km (λx:Str×N3=>!decide (x.1∈gsW L.W R.W (i7 fx))) S.W.ts;have le1:=e31.length_eq;have Va:=e32.length_eq;have Ux:=e61.length_eq;have Ti:=e62.length_eq;rw[show(Z9 (bh L.W (i7 fx) (i7 fr)) R.W).pts.length=R.W.pts.length from Kb _] at Ux;rw[show(Z9 (bh L.W (i7 fx) (i7 fr)) R.W).ts.length=R.W.ts.length from Kb _] at Ti;rw[show(bf (gsW L.W R.W (i7 fx)) S.W).pts.length=(S.W.pts.filter λx=>!decide (x.1∈gsW L.W R.W (i7 fx))).length from rfl] at le1;rw[show(bf (gsW L.W R.W (i7 fx)) S.W).ts.length=(S.W.ts.filter λx=>!decide (x.1∈gsW L.W R.W (i7 fx))).length from rfl] at Va;rw[C3] at UM;refine⟨a3,p3,q3,a6,p6,q6,k3,k6,W3,W6,rfl,w3.mono RF.le,w6,XD,XE,(e61.map _).nodup_iff.mpr nr.1,(e62.map _).nodup_iff.mpr nr.2,by lia,by lia,NewP.permM (W:=jl S.W L.W R.W (i7 fx) (i7 fr)) (m3.trans RF) (oz e31 e61) (oz e32 e62) k⟩
structure StX where
 st:Addr
 r:Addr
 m:Addr
 f:Addr
 bl:Addr
 L:Sd
 R:Sd
 os:List Str
 pr:List (Str×Str)
 fr:List (Str×Str)
 bs:List Sd
abbrev StX.fx (X:StX):List (Str×Str):=X.pr.map swp
abbrev StX.gs (X:StX):List Str:=gsW X.L.W X.R.W (i7 X.fx)
abbrev StX.at_ (K:Qc)(H:Hp)(X:StX):Prop:=StI K H X.st X.r X.m X.f X.bl X.L X.R (i7 X.fx) (i7 X.fr) X.bs
structure Stp (K:Qc) (H:Hp) (W:C9) (X:StX):Prop where
 i:X.at_ K H
 n:EA X.m X.bs X.fx
 ok:fg X.L.W X.R.W []
 mp:MP W X.os X.pr X.L.W.pts X.L.W.ts (b7 X.R.W)
 lo:∀n x,(n,x)∈W.ts->(x.2.1∈X.os\/x.2.2∈X.os)->n∈X.os
 sub:∀n∈X.os,n∈X.pr.map (·.1)
 fo:FrOk W X.L.W X.R.W X.fr
 no:∀b∈X.bs,E4 b.W W X.fx=[]
structure Beh (W:C9) (X:StX) (W1:C9):Prop where
 p:∀x,x∈W1.pts↔xo W X.L.W X.R.W (i7 X.fx) X.fr x
 t:∀x,x∈W1.ts↔wQ W X.L.W X.R.W (i7 X.fx) X.fr x
 n1:(W1.pts.map (·.1)).Nodup
 n2:(W1.ts.map (·.1)).Nodup
structure Apart (X Y:StX) (W1 W2:C9):Prop where
 f:∀x∈X.fr.map (·.2),x∉Y.fr.map (·.2)
 g:∀x∈X.pr.map (·.1),x∈Y.pr.map (·.1)->x∉X.gs/\x∉Y.gs
 b1:∀b∈X.bs,E4 b.W W2 X.fx=[]
 b2:∀b∈Y.bs,E4 b.W W1 Y.fx=[]
section
variable {H:Hp} {W W1 W2:C9} {X Y:StX}
def Stp.same {H':Hp}(h:Stp K H W X)(s:Same H H'):Stp K H' W X:=⟨h.i.same s,h.n,h.ok,h.mp,h.lo,h.sub,h.fo,h.no⟩
def Stp.dok (h:Stp K H W X):Gh W X.L.W X.R.W (i7 X.fx) X.fr:=GO h.mp h.fo h.i.r.r.nd h.lo h.sub
def Stp.can (h:Stp K H W X):AK W X.L.W X.R.W X.fx X.fr X.bs:=⟨⟨h.dok.fit,h.dok.lo,h.no⟩,h.fo.no⟩
def Stp.gsW (h:Stp K H W X){n:Str}(z:n∈X.gs):n∈X.pr.map (·.1)/\n∈b7 W:=by
 obtain⟨w,hw,_⟩:=(h.mp.gs n).mp z;exact⟨Kd.mpr ⟨_,hw,rfl⟩,h.mp.inW hw⟩
def Stp.beh (h:Stp K H W X)(nd:(b7 W).Nodup)(p1:W1.pts.Perm (jl W X.L.W X.R.W (i7 X.fx) (i7 X.fr)).pts)(p2:W1.ts.Perm (jl W X.L.W X.R.W (i7 X.fx) (i7 X.fr)).ts):Beh W X W1:=
 ⟨λx=>p1.mem_iff.trans (AX h.mp h.ok h.fo h.i.r.r.nd nd x),λx=>p2.mem_iff.trans (FE h.mp h.ok h.fo h.i.r.r.nd nd h.i.r.l.ends x),(p1.map _).nodup_iff.mpr (jP (N4 (E5 nd)) (ph h.dok.nd).1),(p2.map _).nodup_iff.mpr (jP (N4 (O8 nd)) (ph h.dok.nd).2)⟩
def Beh.nm (b:Beh W X W1)(h:Stp K H W X){n:Str}:n∈b7 W1↔(n∈b7 W/\n∉X.gs)\/n∈X.fr.map (·.2):=by
 constructor
 .intro z;rcases Kg.mp z with z|z
  .obtain⟨x,hx,rfl⟩:=Kd.mp z;rcases(b.p x).mp hx with⟨h1,h2⟩|⟨w,h1,_⟩
   .exact .inl ⟨Kf _ (Kd.mpr ⟨x,h1,rfl⟩),h2⟩
   .exact .inr (Kd.mpr ⟨_,h1,rfl⟩)
  .obtain⟨x,hx,rfl⟩:=Kd.mp z;rcases(b.t x).mp hx with⟨h1,h2⟩|⟨w,_,_,h1,_⟩
   .exact .inl ⟨Kk _ (Kd.mpr ⟨x,h1,rfl⟩),h2⟩
   .exact .inr (Kd.mpr ⟨_,h1,rfl⟩)
 .rintro(⟨z,hg⟩|z)
  .rcases Kg.mp z with z|z
   .obtain⟨x,hx,rfl⟩:=Kd.mp z;exact Kf _ (Kd.mpr ⟨x,(b.p x).mpr (.inl ⟨hx,hg⟩),rfl⟩)
   .obtain⟨x,hx,rfl⟩:=Kd.mp z;exact Kk _ (Kd.mpr ⟨x,(b.t x).mpr (.inl ⟨hx,hg⟩),rfl⟩)
  .obtain⟨y,hy,rfl⟩:=Kd.mp z;rcases Kg.mp (h.fo.mem.mp (Kd.mpr ⟨y,hy,rfl⟩)).1 with q|q
   .obtain⟨x,hx,e⟩:=Kd.mp q;exact Kf _ (Kd.mpr ⟨(y.2,x.2),(b.p _).mpr (.inr ⟨y.1,hy,by rw[←show x.1=y.1 from e];exact hx⟩),rfl⟩)
   .obtain⟨x,hx,e⟩:=Kd.mp q;exact Kk _ (Kd.mpr ⟨(y.2,(x.2.1,bh X.L.W (i7 X.fx) (i7 X.fr) x.2.2.1,bh X.L.W (i7 X.fx) (i7 X.fr) x.2.2.2)),(b.t _).mpr (.inr ⟨y.1,_,_,hy,by rw[←show x.1=y.1 from e];exact hx,rfl,rfl⟩),rfl⟩)
def Stp.endN (h:Stp K H W X){n:Str}(hn:n∈X.R.W.pts.map (·.1)):((bh X.L.W (i7 X.fx) (i7 X.fr) n)∈X.pr.map (·.1)/\(bh X.L.W (i7 X.fx) (i7 X.fr) n)∉X.gs/\(bh X.L.W (i7 X.fx) (i7 X.fr) n)∈W.pts.map (·.1))\/(n,bh X.L.W (i7 X.fx) (i7 X.fr) n)∈X.fr:=by
 have hR:n∈b7 X.R.W:=Kf _ hn;by_cases hL:n∈b7 X.L.W
 .rw[gc _ _ hL];refine .inl ⟨Kd.mpr ⟨_,h.mp.of_ hL,rfl⟩,pI h.mp hL hR,?_⟩;obtain⟨x,hx,rfl⟩:=Kd.mp hn;exact Kd.mpr ⟨_,h.dok.fit.pts x (((h.ok.ag _ hL hR).p x.2).mpr hx),rfl⟩
 .rw[gE _ _ hL];exact .inr (h.fo.txt h.i.r.r.nd (h.fo.mem.mpr ⟨hR,hL⟩)).2
def Beh.is (b:Beh W X W1)(h:Stp K H W X){n:Nat}(nd:(b7 W).Nodup)(ends:∀x∈W.ts,x.2.2.1∈W.pts.map (·.1)/\x.2.2.2∈W.pts.map (·.1))(nl:∀x∈b7 W,x.length<=100)(hl:(b7 W).length<=n):(b7 W1).Nodup/\(∀x∈W1.ts,x.2.2.1∈W1.pts.map (·.1)/\x.2.2.2∈W1.pts.map (·.1))/\(∀x∈b7 W1,x.length<=100)/\(b7 W1).length<=n+4:=by
 have fno:∀{w m:Str},(w,m)∈X.fr->m∉b7 W:=λz=>h.fo.no _ z;have nd1:(b7 W1).Nodup:=Ks.mpr ⟨b.n1,b.n2,λa ha c hc e=>by
  subst e;obtain⟨x,hx,rfl⟩:=Kd.mp ha;obtain⟨y,hy,e⟩:=Kd.mp hc;rcases(b.p x).mp hx with⟨h1,_⟩|⟨w,h1,Qq⟩<;>rcases(b.t y).mp hy with⟨h2,_⟩|⟨w',_,_,h2,TF,_⟩
  .exact(Ks.mp nd).2.2 x.1 (Kd.mpr ⟨x,h1,rfl⟩) x.1 (Kd.mpr ⟨y,h2,e⟩) rfl
  .exact fno h2 (Kf _ (Kd.mpr ⟨x,h1,e.symm⟩))
  .exact fno h1 (Kk _ (Kd.mpr ⟨y,h2,e⟩))
  .rw[show y.1=x.1 from e] at h2;have q:=ae h.fo.nd h1 h2;subst q;exact(Ks.mp h.i.r.r.nd).2.2 w (Kd.mpr ⟨_,Qq,rfl⟩) w (Kd.mpr ⟨_,TF,rfl⟩) rfl⟩
 have old:∀{m:Str},m∈W.pts.map (·.1)->m∉X.gs->m∈W1.pts.map (·.1):=λz q=>by
  obtain⟨x,hx,rfl⟩:=Kd.mp z;exact Kd.mpr ⟨x,(b.p x).mpr (.inl ⟨hx,q⟩),rfl⟩
 have new:∀{m:Str},m∈X.R.W.pts.map (·.1)->bh X.L.W (i7 X.fx) (i7 X.fr) m∈W1.pts.map (·.1):=fun{m} hm=>by
  rcases h.endN hm with⟨_,h2,h3⟩|h2
  .exact old h3 h2
  .obtain⟨x,hx,rfl⟩:=Kd.mp hm;exact Kd.mpr ⟨(_,x.2),(b.p _).mpr (.inr ⟨_,h2,hx⟩),rfl⟩
 refine⟨nd1,λx hx=>?_,λx hx=>?_,?_⟩
 .rcases(b.t x).mp hx with⟨h1,h2⟩|⟨w,c,e,_,h2,e1,e2⟩
  .exact⟨old (ends x h1).1 (h.dok.lo x h1 h2).1,old (ends x h1).2 (h.dok.lo x h1 h2).2⟩
  .rw[e1,e2];exact⟨new (h.i.r.r.ends _ h2).1,new (h.i.r.r.ends _ h2).2⟩
 .rcases(b.nm h).mp hx with z|z
  .exact nl x z.1
  .obtain⟨y,hy,rfl⟩:=Kd.mp z;have z:=h.fo.nm y hy;unfold X6 at z;have:=dW (KO _ _▸z).1;lia
 .have z:=eY (m:=b7 W++X.fr.map (·.2)) nd1 λx hx=>Kg.mpr (((b.nm h).mp hx).imp (·.1) id);have:=h.fo.len;rw[Kj,Kb] at z;lia
def Stp.mv (h:Stp K H W X)(k:Stp K H W Y)(b:Beh W X W1)(f:∀x∈X.fr.map (·.2),x∉Y.fr.map (·.2))(g:∀x∈X.pr.map (·.1),x∈Y.pr.map (·.1)->x∉X.gs/\x∉Y.gs)(no:∀b∈Y.bs,E4 b.W W1 Y.fx=[]):Stp K H W1 Y:=by
 have kp:∀{n w:Str},(n,w)∈Y.pr->n∉X.gs:=λhw z=>(g _ (h.gsW z).1 (Kd.mpr ⟨_,hw,rfl⟩)).1 z;have Uh:=k.mp.gsos k.sub;refine⟨k.i,k.n,k.ok,⟨k.mp.n1,k.mp.n2,k.mp.wd,λx hx=>?_,λx hx=>?_,k.mp.ko⟩,λn x hx hz=>?_,k.sub,k.fo.mv λx hx z=>?_,no⟩
 .obtain⟨n,h1,h2⟩:=k.mp.pt x hx;exact⟨n,h1,(b.p _).mpr (.inl ⟨h2,kp h1⟩)⟩
 .obtain⟨n,c,e,h1,h2,h3,h4⟩:=k.mp.ti x hx;exact⟨n,c,e,h1,h2,h3,(b.t _).mpr (.inl ⟨h4,kp h1⟩)⟩
 .rcases(b.t _).mp hx with⟨h1,_⟩|⟨w,c,e,_,h2,e1,e2⟩
  .exact k.lo n x h1 hz
  .have en:=h.i.r.r.ends _ h2;have bad:∀{m:Str},m∈X.R.W.pts.map (·.1)->bh X.L.W (i7 X.fx) (i7 X.fr) m∉Y.os:=λhm z=>by
    have zg:=(Uh _).mpr z;rcases h.endN hm with⟨q,_,_⟩|q
    .exact(g _ q (k.sub _ z)).2 zg
    .exact h.fo.no _ q (k.gsW zg).2
   rw[show x.2.1=_ from e1,show x.2.2=_ from e2] at hz;exact hz.elim (λz=>absurd z (bad en.1)) λz=>absurd z (bad en.2)
 .rcases(b.nm h).mp z with q|q
  .exact k.fo.no x hx q.1
  .exact f _ q (Kd.mpr ⟨x,hx,rfl⟩)
def Apart.sy (a:Apart X Y W1 W2):Apart Y X W2 W1:=⟨λx h1 h2=>a.f x h2 h1,λx h1 h2=>(a.g x h2 h1).symm,a.b2,a.b1⟩
def zk (h:Stp K H W X)(k:Stp K H W Y)(b:Beh W X W1)(c:Beh W Y W2)(o1:AK W1 Y.L.W Y.R.W Y.fx Y.fr Y.bs)(o2:AK W2 X.L.W X.R.W X.fx X.fr X.bs):Apart X Y W1 W2:=by
 have gn:∀{X Y:StX} {W1:C9},Stp K H W X->Stp K H W Y->Beh W X W1->AK W1 Y.L.W Y.R.W Y.fx Y.fr Y.bs->∀x∈Y.pr.map (·.1),x∉X.gs:=fun{X Y W1} h k b o x hx=>by
  obtain⟨⟨n,w⟩,hy,rfl⟩:=Kd.mp hx;have z:=ug o.r.fit (k.mp.inL hy);rw[show j4 (i7 Y.fx) w=n from(k.mp.at_ hy).2] at z;rcases(b.nm h).mp z with q|q
  .exact q.2
  .obtain⟨y,Rg,e⟩:=Kd.mp q;exact absurd (show y.2∈b7 W by rw[show y.2=n from e];exact k.mp.inW hy) (h.fo.no y Rg)
 refine⟨λx hx hy=>?_,λx hx hy=>⟨gn h k b o1 x hy,gn k h c o2 x hx⟩,o2.r.no,o1.r.no⟩;obtain⟨y,Rg,rfl⟩:=Kd.mp hy;exact o1.f y Rg ((b.nm h).mpr (.inr hx))
def Ab {a g1 n1 g2 n2:Prop}(h1:n1->g2)(h2:n2->g1):(((a/\g1)\/n1)/\g2)\/n2↔(((a/\g2)\/n2)/\g1)\/n1:=by
 constructor<;>rintro(⟨⟨q,r⟩|q,s⟩|q)
 .exact .inl ⟨.inl ⟨q,s⟩,r⟩
 .exact .inr q
 .exact .inl ⟨.inr q,h2 q⟩
 .exact .inl ⟨.inl ⟨q,s⟩,r⟩
 .exact .inr q
 .exact .inl ⟨.inr q,h1 q⟩
def Beh.swp {RP W21:C9}(h:Stp K H W X)(k:Stp K H W Y)(b:Beh W X W1)(c:Beh W Y W2)(d:Beh W1 Y RP)(e:Beh W2 X W21):RP.pts.Perm W21.pts/\RP.ts.Perm W21.ts:=by
 have no:∀{X Y:StX},Stp K H W X->Stp K H W Y->∀{n w:Str},(w,n)∈X.fr->n∉Y.gs:=fun{X Y} h k {n w} hw z=>h.fo.no _ hw (k.gsW z).2;refine⟨(Ma (V3 d.n1) (V3 e.n1)).mpr λx=>?_,(Ma (V3 d.n2) (V3 e.n2)).mpr λx=>?_⟩
 .rw[d.p,e.p];unfold xo;rw[b.p,c.p];exact Ab (fun⟨w,z,_⟩=>no h k z) fun⟨w,z,_⟩=>no k h z
 .rw[d.t,e.t];unfold wQ;rw[b.t,c.t];exact Ab (fun⟨w,_,_,z,_⟩=>no h k z) fun⟨w,_,_,z,_⟩=>no k h z
def Beh.two {RP UX:C9}(b:Beh W X W1)(c:Beh W X W2)(d:Beh W1 Y RP)(e:Beh W2 Y UX):RP.pts.Perm UX.pts/\RP.ts.Perm UX.ts:=by
 refine⟨(Ma (V3 d.n1) (V3 e.n1)).mpr λx=>?_,(Ma (V3 d.n2) (V3 e.n2)).mpr λx=>?_⟩
 .rw[d.p,e.p];unfold xo;rw[b.p,c.p]
 .rw[d.t,e.t];unfold wQ;rw[b.t,c.t]
def vD {B:C9}{fx:List (Str×Str)}(nB:(b7 B).Nodup)(eB:∀x∈B.ts,x.2.2.1∈B.pts.map (·.1)/\x.2.2.2∈B.pts.map (·.1))(p1:∀x,x∈W1.pts->x∈W2.pts)(p2:∀x,x∈W1.ts->x∈W2.ts)(h:E4 B W2 fx=[]):E4 B W1 fx=[]:=by
 refine MG.mpr λrow hr=>?_;obtain⟨r1,r2,r3⟩:=mem_rows.mp hr;have f2:FitP B W2 (i7 ((bF B).zip row)):=⟨r2.len,r2.txt,r2.nd,λx hx=>p1 _ (r2.pts x hx),λx hx=>p2 _ (r2.ts x hx)⟩
 have hl:=rj hr;have e:jE B ((bF B).zip row)=row:=by
  refine List.ext_getElem (by rw[fT,hl]) λj h1 h2=>?_;have z:(jE B ((bF B).zip row))[j]=j4 (i7 ((bF B).zip row)) ((bF B)[j]'(by rw[←hl];exact h2)):=List.getElem_map _;rw[z];exact J3 (by rw[List.map_fst_zip (by lia)];exact pK nB) (List.mem_iff_getElem.mpr ⟨j,by rw[Na];lia,List.getElem_zip⟩)
 have z:row∈E4 B W2 fx:=mem_rows.mpr ⟨by have:=nU nB f2;rw[e] at this;exact this,f2,r3⟩;rw[h] at z;cases z
end
def vF (pr:List (Str×Str)):(pr.map swp).map (·.2)=pr.map (·.1):=by rw[Lf];rfl
def Stp.kl {H:Hp}{W:C9}{X:StX}(h:Stp K H W X):X.fx.length<=24:=by
 have z:=h.dok.fit.len;have y:=h.i.r.l.len;rw[k9] at z;lia
def Beh.sd {H H0 H':Hp}{S:Sd}{X:StX}{a p q:Addr}{kvs:List (j6×V)}{W1:C9}(b:Beh S.W X W1)(h:Stp K H S.W X)(hS:SdIs K H0 S)(h8:(b7 S.W).length<=8)(wa:WebAt K H' a p q kvs W1)(hp:H' p=some (.dK (i7 W1.pts)))(hq:H' q=some (.dK kvs))(ne:p≠q):SdIs K H' ⟨a,p,q,kvs,W1⟩/\W1.pts.length+W1.ts.length<=12:=by
 obtain⟨z1,z2,z3,z4⟩:=b.is h hS.nd hS.ends hS.nl h8;exact⟨⟨wa,hp,hq,ne,z1,Kw z4 (by decide),z2,z3⟩,by rw[C3] at z4;exact z4⟩
def nI (K:Qc):Sp:=λvs H Q _=>∃(d1 d2:Addr) (k1 k2:List (j6×V)) (s1 s2:List Str),vs=[.ref d1,.ref d2]/\H d1=some (.dK k1)/\H d2=some (.dK k2)/\k1.map (·.2)=s1.map V.str/\k2.map (·.2)=s2.map V.str/\s1.length<=60/\∀(l:Addr) (us:List Str) (H':Hp),H l=none->Same H H'->H' l=some (.lst (us.map V.str))->(∀x,x∈us↔x∈s1/\x∈s2)->us.length<=60->Q (.ref l) H'
abbrev qF:=λP w K mg base=>U0 P w K mg base F0 1 "common" ["one","other"] [] (nI K)
def xF {f fd}(T:Txt K mg)(F:Fun K "common" "common" ke f fd):C5 P w K mg base F0 1 f fd ["one","other"] (nI K):=by
 walk_at "#sc_common"
 .obtain⟨d1,d2,k1,k2,s1,s2,rfl,_⟩:=h;rfl
 .obtain⟨d1,d2,k1,k2,s1,s2,rfl,h1,h2,e1,e2,hl,k⟩:=h;walk_at "@sc_common 42#~b~a~9_%~5~4~3018wimage;2;rG'2xO &O3_%~5~4~300h0kimage,images;LaF0001o00"
  refine O1 λXp hx=>?_;rfl';refine⟨.inr (.inr (.inl ⟨rfl,.inl ⟨_,h2⟩⟩)),?_⟩;rfl';refine⟨d2,_,rfl,rfl,.inl h2,λv1 n1=>?_⟩;obtain⟨H1,z1,f1,m1,_⟩:=b5 (o:= .ext (gZ v1 d2)) n1;rw[z1];rfl';refine Z8 f1 (.inl (m1 _ _ h2)) (λli n2=>?_);obtain⟨H2,z2,f2,m2,_⟩:=b5 (o:= .lst _) n2;rw[z2];rw[e2] at f2;have H_:=m1.trans m2;rfl';refine hx [some (.ref d1),some (.ref d2),some (.ref li)] _ ?_;clear hx;have g1:=H_ _ _ h1;rfl';refine⟨.inr (.inr (.inl ⟨rfl,.inl ⟨_,g1⟩⟩)),?_⟩;rfl';refine⟨d1,_,rfl,rfl,.inl g1,λv3 n3=>?_⟩;obtain⟨H3,z3,f3,m3,_⟩:=b5 (o:= .ext (gZ v3 d1)) n3;rw[z3];rfl';refine⟨v3,d1,_,s1,rfl,f3,.inl (m3 _ _ g1),e1,by lia,λl_ pm lo nlo=>?_⟩;obtain⟨H4,z4,f4,m4,_⟩:=b5 (o:= .lst (l_.map V.str)) nlo;rw[z4];have Q_:=pm.length_eq;have We:=m3.trans m4;refine A8 (SqL.of f4) ?_;refine z8 (n:=l_.length) (λi out H'=>Same H4 H'/\out=((l_.take i).filter λn=>decide (n∈s2)).map V.str) ⟨Same.refl _,rfl⟩ (λi out H' hi hp=>⟨_,.str (l_[i]),SqL.of (hp.1 _ _ f4),by rw[Kh,Kc hi];rfl⟩) ?_ ?_
  .rintro N i v out H5' H5 hi ⟨s5,rfl⟩ y hN';obtain⟨rfl,hy⟩:=Itl.get y (SqL.of (s5 _ _ f4));have ex:l_[i]?=some l_[i]:=Kc hi;rw[Kh,ex] at hy;cases hy;have e7:l_.take (i+1)=l_.take i++[l_[i]]:=by rw[KI,ex];rfl
   have x_:=Km (λn=>decide (n∈s2)) (l_.take i);rw[Kt] at x_;rfl';refine⟨rfl,?_⟩;rfl';refine aS (SqL.of (s5 _ _ (We _ _ f2))) ?_;rfl';refine M9 (λhb=>?_) (λhb=>?_)
   .rfl';refine⟨d0 (by rw[Kb];lia),hN' _ _ ⟨s5,?_⟩⟩;rw[e7,KP,KR (p:=λn=>decide (n∈s2)) (KA hb),Lp,Ki];rfl
   .refine hN' _ _ ⟨s5,?_⟩;rw[e7,KP,Ld (p:=λn=>decide (n∈s2)) (by simp [hb]),Lp,Lb]
  .rintro out H5 ⟨s5,rfl⟩;rw[Kl (Ke _)];have x_:=Km (λn=>decide (n∈s2)) l_;refine⟨⟨_,SqL.of (s5 _ _ f4),by rw[Kb];exact Ke _⟩,λD hD=>⟨d0 (by rw[Kb];lia),?_⟩⟩;obtain⟨H6,z6,f6,m6,_⟩:=b5 (H:=H5) (o:= .lst ((l_.filter λn=>decide (n∈s2)).map V.str)) hD;change Q (.ref D) (upd H5 D (.lst ((l_.filter λn=>decide (n∈s2)).map V.str)));rw[z6];have s05:=H_.trans (We.trans s5);exact k D _ H6 (s05.free hD) (s05.trans m6) f6 (λx=>by rw[Kp,pm.mem_iff,KJ]) (by lia)
def rU (K:Qc):Sp:=λvs H Q _=>∃(S:Sd) (X Y:StX),vs=[.ref S.a,.ref X.st,.ref Y.st]/\SdIs K H S/\(b7 S.W).length<=8/\Stp K H S.W X/\Stp K H S.W Y/\∀(v:V) (H':Hp) (W1 W2:C9),Same H H'->Beh S.W X W1->Beh S.W Y W2->(v= .non/\Apart X Y W1 W2\/(∃t,v= .ref t)/\¬Apart X Y W1 W2)->Q v H'
abbrev vx:=λP w K mg base=>U0 P w K mg base (mJ P w) 12 "clash" ["web","one","other"] [] (rU K)
def yp {f fd}(T:Txt K mg)(cY:tG P w K mg base)(gH:qF P w K mg base)(Q4:cT P w K mg base)(aG:kU P w K mg base)(F:Fun K "clash" "clash" pY f fd):C5 P w K mg base (mJ P w) 12 f fd ["web","one","other"] (rU K):=by
 refine F.okE sc_clash (λvs H Q E h=>?_) (λc_ A outer s H vs Q E hr h=>?_)
 .obtain⟨S,X,Y,rfl,_⟩:=h;rfl
 .obtain⟨S,X,Y,rfl,hS,h8,hX,hY,k⟩:=h;have hsz:=h8;rw[C3] at hsz;have vals:∀a:List (Str×Str),(i7 a).map (·.2)=(a.map (·.2)).map V.str:=λa=>fS a;have swv:∀a:List (Str×Str),(i7 (a.map swp)).map (·.2)=(a.map (·.1)).map V.str:=λa=>by rw[fS,vF]
  have fl1:=hX.fo.len;have kl1:=hX.kl;have kl2:=hY.kl;rw[Kb] at kl1 kl2;walk_at "@sc_clash 43|'0cY ~qi0144|'0cY ~qi02455'0gH g1112bn`058mgS1546f5'0Q4 615'0Q4 62*7name;6;r5'0gH g1112vh0kname,out;vLaF0001ov00bn`078mgS17bna~75'0aG 74g1111Yj8mgS2bna~75'0aG 73g1212Yj8mgS28Y"
  symm;refine⟨S,X.L,X.R,X.st,X.r,X.m,X.f,X.bl,X.fr,X.bs,X.fx,S.W,rfl,hS,hX.i,hX.n,hX.mp.nds,Kw hX.kl (by decide),by lia,hX.fo,λ_=>?_,λz=>absurd hX.can z⟩;intro a1 p1 q1 k1 W1 H1 t1 w1 Pa SJ ne1 _ _ SN TY;have B1:=hX.beh hS.nd SN TY;symm;refine⟨S,Y.L,Y.R,Y.st,Y.r,Y.m,Y.f,Y.bl,Y.fr,Y.bs,Y.fx,S.W,rfl,hS.same t1,hY.i.same t1,hY.n,hY.mp.nds,Kw hY.kl (by decide),by lia,hY.fo,λ_=>?_,λz=>absurd hY.can z⟩;intro a2 p2 q2 k2 W2 H2 t2 w2 UY RO ne2 _ _ e21 e22;have B2:=hY.beh hS.nd e21 e22;obtain⟨S1,z1⟩:=B1.sd hX hS h8 w1 Pa SJ ne1;obtain⟨S2,z2⟩:=B2.sd hY hS h8 w2 UY RO ne2;clear w1 Pa SJ ne1 w2 UY RO ne2 SN TY e21 e22;have t12:=t1.trans t2;have T2:=hX.i.same t12;have U2:=hY.i.same t12;symm;refine A9 T2.tup (k7 (j:=2) rfl) ?_;symm;refine A9 U2.tup (k7 (j:=2) rfl) ?_;symm;refine⟨X.f,Y.f,_,_,X.fr.map (·.2),Y.fr.map (·.2),rfl,T2.f,U2.f,vals X.fr,vals Y.fr,by rw[Kb];lia,λl3 us H3 _ t3 g3 RX _=>?_⟩;have XQ:=t12.trans t3;symm;cases us with
  |cons x r=>
   refine⟨true,.inl ⟨_,SqL.of g3,rfl⟩,?_⟩
   symm
   refine j5 (v:= .str x) (SqL.of g3) (k7 (j:=0) rfl) ?_
   symm
   refine⟨d0 (by simp),λlt nlt=>?_⟩
   obtain⟨HA,zA,gA,tA,_⟩:=b5 (o:= .tup _) nlt
   rw[zA]
   have y:=(RX x).mp Kz
   exact k _ HA W1 W2 (XQ.trans tA) B1 B2 (.inr ⟨⟨lt,rfl⟩,λa=>a.f x y.1 y.2⟩)
  |nil=>?_
  refine⟨false,.inl ⟨[],SqL.of g3,rfl⟩,?_⟩;have af:∀x∈X.fr.map (·.2),x∉Y.fr.map (·.2):=λx h1 h2=>by
   have:=(RX x).mpr ⟨h1,h2⟩;cases this
  have T3:=hX.i.same XQ;have U3:=hY.i.same XQ;symm;refine⟨X.st,X.r,X.m,X.bl,.ref X.f,X.L,X.R,X.bs,_,rfl,T3.tup,T3.r,.inl T3.m,hX.dok.fit.txt,λl4 H4 u1 u2 _ t4 o4 g4=>?_⟩;have U4:=U3.same t4;symm;refine⟨Y.st,Y.r,Y.m,Y.bl,.ref Y.f,Y.L,Y.R,Y.bs,_,rfl,U4.tup,U4.r,.inl U4.m,hY.dok.fit.txt,λl5 H5 w1 w2 _ t5 o5 g5=>?_⟩;have h4:=tE (R:=X.R.W) (km:=i7 X.fx) o4;have h5:=tE (R:=Y.R.W) (km:=i7 Y.fx) o5;have z4:=Km (λn=>!decide (n∈b7 X.R.W)) (u1++u2);have z5:=Km (λn=>!decide (n∈b7 Y.R.W)) (w1++w2);have y4:=o4.len;have y5:=o5.len;have v4:=hX.i.r.l.len;have v5:=hY.i.r.l.len;have x4:(((u1++u2).filter λn=>!decide (n∈b7 X.R.W)).map (j4 (i7 X.fx))).length<=24:=by rw[Kb];lia
  have x5:(((w1++w2).filter λn=>!decide (n∈b7 Y.R.W)).map (j4 (i7 Y.fx))).length<=24:=by rw[Kb];lia
  generalize ((u1++u2).filter λn=>!decide (n∈b7 X.R.W)).map (j4 (i7 X.fx))=o1 at g4 h4 x4;generalize ((w1++w2).filter λn=>!decide (n∈b7 Y.R.W)).map (j4 (i7 Y.fx))=o2 at g5 h5 x5;clear z4 z5 y4 y5 v4 v5 o4 o5;symm;refine mV (t5 _ _ g4) g5 (d0 (by rw[Kb,Kb];lia)) (λlo nlo=>?_);rw[←Ki];obtain⟨H6,z6,g6,t6,_⟩:=b5 (o:= .lst ((o1++o2).map V.str)) nlo;rw[z6];have XR:=t4.trans (t5.trans t6);have T6:=T3.same XR;have U6:=U3.same XR;symm;refine A9 T6.tup (k7 (j:=1) rfl) ?_;symm;refine A9 U6.tup (k7 (j:=1) rfl) ?_;symm;refine⟨X.m,Y.m,_,_,X.pr.map (·.1),Y.pr.map (·.1),rfl,T6.m,U6.m,swv X.pr,swv Y.pr,by rw[Kb];lia,λl7 us H7 _ t7 g7 RX TM=>?_⟩;refine A8 (SqL.of g7) ?_;refine z8 (n:=us.length) (λi out H'=>Same H7 H'/\out=((us.take i).filter λn=>decide (n∈o1++o2)).map V.str) ⟨Same.refl _,rfl⟩ (λi out H' hi hp=>⟨_,.str (us[i]),SqL.of (hp.1 _ _ g7),by rw[Kh,Kc hi];rfl⟩) ?_ ?_
  .rintro N i v out H8' H8 hi ⟨s8,rfl⟩ y hN';obtain⟨rfl,hy⟩:=Itl.get y (SqL.of (s8 _ _ g7));have ex:us[i]?=some us[i]:=Kc hi;rw[Kh,ex] at hy;cases hy;have e7:us.take (i+1)=us.take i++[us[i]]:=by rw[KI,ex];rfl
   have x_:=Km (λn=>decide (n∈o1++o2)) (us.take i);rw[Kt] at x_;symm;refine⟨rfl,?_⟩;symm;refine aS (SqL.of (s8 _ _ (t7 _ _ g6))) ?_;symm;refine M9 (λhb=>?_) (λhb=>?_)
   .symm;refine⟨d0 (by rw[Kb];lia),hN' _ _ ⟨s8,?_⟩⟩;rw[e7,KP,KR (p:=λn=>decide (n∈o1++o2)) (KA hb),Lp,Ki];rfl
   .refine hN' _ _ ⟨s8,?_⟩;rw[e7,KP,Ld (p:=λn=>decide (n∈o1++o2)) (by simp [hb]),Lp,Lb]
  rintro out H8 ⟨s8,rfl⟩;rw[Kl (Ke _)];have x_:=Km (λn=>decide (n∈o1++o2)) us;refine⟨⟨_,SqL.of (s8 _ _ g7),by rw[Kb];exact Ke _⟩,λlg nlg=>⟨d0 (by rw[Kb];lia),?_⟩⟩;obtain⟨H9,z9,g9,t9,_⟩:=b5 (H:=H8) (o:= .lst ((us.filter λn=>decide (n∈o1++o2)).map V.str)) nlg;change O7 _ _ _ (upd H8 lg (.lst ((us.filter λn=>decide (n∈o1++o2)).map V.str))) _;rw[z9];have XS:∀x,x∈(us.filter λn=>decide (n∈o1++o2))↔(x∈X.pr.map (·.1)/\x∈Y.pr.map (·.1))/\(x∈X.gs\/x∈Y.gs):=λx=>by
   rw[Kp,RX,KJ,Kg,h4,h5]
  generalize us.filter (λn=>decide (n∈o1++o2))=gl at g9 XS;have t39:=XR.trans (t7.trans (s8.trans t9));have Vv:=XQ.trans t39;have t29:=t3.trans t39;clear h4 h5 x_ RX TM z9 z6 g6 g7 s8 t7 t9 g4 g5 T2 U2 T3 U3 T6 U6 U4 XR;symm;cases gl with
  |cons x r=>
   refine⟨true,.inl ⟨_,SqL.of g9,rfl⟩,?_⟩
   symm
   refine j5 (v:= .str x) (SqL.of g9) (k7 (j:=0) rfl) ?_
   symm
   refine⟨d0 (by simp),λlt nlt=>?_⟩
   obtain⟨HA,zA,gA,tA,_⟩:=b5 (o:= .tup _) nlt
   rw[zA]
   have y:=(XS x).mp Kz
   exact k _ HA W1 W2 (Vv.trans tA) B1 B2 (.inr ⟨⟨lt,rfl⟩,λa=>y.2.elim (a.g x y.1.1 y.1.2).1 (a.g x y.1.1 y.1.2).2⟩)
  |nil=>?_
  have ag:∀x∈X.pr.map (·.1),x∈Y.pr.map (·.1)->x∉X.gs/\x∉Y.gs:=λx h1 h2=>⟨λh3=>(nomatch (XS x).mpr ⟨⟨h1,h2⟩,.inl h3⟩),λh3=>(nomatch (XS x).mpr ⟨⟨h1,h2⟩,.inr h3⟩)⟩
  refine⟨false,.inl ⟨_,SqL.of g9,rfl⟩,?_⟩;have T9:=hX.i.same Vv;have U9:=hY.i.same Vv;symm;refine A9 T9.tup (k7 (j:=0) rfl) ?_;symm;refine A9 T9.tup (k7 (j:=1) rfl) ?_;symm;refine⟨⟨a2,p2,q2,k2,W2⟩,X.L,X.R,X.r,X.bl,X.m,X.bs,X.fx,rfl,S2.same t29,T9.r,hX.n.len,T9.m,λb hb=>⟨(hX.n.b b hb).1,(hX.n.b b hb).2.1,(hX.n.b b hb).2.2 _ z2⟩,λv HA tA WY=>?_⟩;rcases WY with⟨no1,rfl⟩|⟨i,b,row,rr,t,d,hb,_,hr,rfl,_⟩
  rotate_left
  .symm;rw[if_pos (by simp)];symm;refine⟨d0 (by simp),λlt nlt=>?_⟩;obtain⟨HB,zB,gB,tB,_⟩:=b5 (o:= .tup _) nlt;rw[zB];exact k _ HB W1 W2 (Vv.trans (tA.trans tB)) B1 B2 (.inr ⟨⟨lt,rfl⟩,λa=>by rw[a.b1 b (Kr hb)] at hr;cases hr⟩)
  symm;rw[if_neg (by simp)];have XT:=U9.same tA;symm;refine A9 XT.tup (k7 (j:=0) rfl) ?_;symm;refine A9 XT.tup (k7 (j:=1) rfl) ?_;symm;refine⟨⟨a1,p1,q1,k1,W1⟩,Y.L,Y.R,Y.r,Y.bl,Y.m,Y.bs,Y.fx,rfl,S1.same (t2.trans (t29.trans tA)),XT.r,hY.n.len,XT.m,λb hb=>⟨(hY.n.b b hb).1,(hY.n.b b hb).2.1,(hY.n.b b hb).2.2 _ z1⟩,λv HB tB WY=>?_⟩;rcases WY with⟨no2,rfl⟩|⟨i,b,row,rr,t,d,hb,_,hr,rfl,_⟩
  rotate_left
  .symm;rw[if_pos (by simp)];symm;refine⟨d0 (by simp),λlt nlt=>?_⟩;obtain⟨HC,zC,gC,tC,_⟩:=b5 (o:= .tup _) nlt;rw[zC];exact k _ HC W1 W2 (Vv.trans (tA.trans (tB.trans tC))) B1 B2 (.inr ⟨⟨lt,rfl⟩,λa=>by rw[a.b2 b (Kr hb)] at hr;cases hr⟩)
  symm;rw[if_neg (by simp)];symm;exact k _ HB W1 W2 (Vv.trans (tA.trans tB)) B1 B2 (.inl ⟨rfl,af,ag,no1,no2⟩)
section
variable {W L R B:C9} {os:List Str} {pr:List (Str×Str)}
def CQ (h:MP W os pr L.pts L.ts (b7 R))(b:qk L B)(Qk:(b7 B).Nodup)(eL:∀x∈L.ts,x.2.2.1∈L.pts.map (·.1)/\x.2.2.2∈L.pts.map (·.1)):uu B W (pr.map swp):=by
 have hk:(pr.map swp).map (·.1)=b7 L:=by rw[dR,h.wd];rfl
 have inB:∀n∈b7 L,n∈b7 B:=λn hn=>by
  rcases Kg.mp hn with z|z
  .obtain⟨x,hx,rfl⟩:=Kd.mp z;exact Kf _ (Kd.mpr ⟨x,b.p x hx,rfl⟩)
  .obtain⟨x,hx,rfl⟩:=Kd.mp z;exact Kk _ (Kd.mpr ⟨x,b.t x hx,rfl⟩)
 refine⟨h.nds,by rw[vF];exact h.n1,λn hn=>inB n (by rw[←hk];exact hn),λx hx Ur=>?_,λx hx Ur=>?_⟩
 .rw[hk] at Ur;rcases Kg.mp Ur with z|z
  .obtain⟨y,hy,e⟩:=Kd.mp z;have e2:y=x:=by
    have e3:y.2=x.2:=A5 (E5 Qk) (show(x.1,y.2)∈B.pts by rw[←e];exact b.p y hy) hx;exact Prod.ext e e3
   obtain⟨n,h1,h2⟩:=h.pt y hy;rw[←e2,(h.at_ h1).2];exact h2
  .obtain⟨y,hy,e⟩:=Kd.mp z;exact((Ks.mp Qk).2.2 x.1 (Kd.mpr ⟨x,hx,rfl⟩) x.1 (Kd.mpr ⟨y,b.t y hy,e⟩) rfl).elim
 .rw[hk] at Ur;rcases Kg.mp Ur with z|z
  .obtain⟨y,hy,e⟩:=Kd.mp z;exact((Ks.mp Qk).2.2 x.1 (Kd.mpr ⟨y,b.p y hy,e⟩) x.1 (Kd.mpr ⟨x,hx,rfl⟩) rfl).elim
  .obtain⟨y,hy,e⟩:=Kd.mp z;have e2:y=x:=by
    have e3:y.2=x.2:=A5 (O8 Qk) (show(x.1,y.2)∈B.ts by rw[←e];exact b.t y hy) hx;exact Prod.ext e e3
   obtain⟨n,s,t,h1,h2,h3,h4⟩:=h.ti y hy;rw[←e2,hk,(h.at_ h1).2,(h.at_ h2).2,(h.at_ h3).2];exact⟨Kf _ (eL y hy).1,Kf _ (eL y hy).2,h4⟩
theorem qT {α:Type}(p:α->Bool):∀l:List α,l.length=(l.filter p).length+(l.filter λx=>!p x).length
 |[]=>rfl
 |x::l=>by
  have z:=qT p l;rw[Mj,Mj];cases h:p x<;>simp<;>lia
def xR (h:MP W os pr L.pts L.ts (b7 R))(b:qk L B)(Qk:(b7 B).Nodup)(ndL:(b7 L).Nodup):((b7 B).filter (K5 (pr.map swp))).length<=4:=by
 have hk:(pr.map swp).map (·.1)=b7 L:=by rw[dR,h.wd];rfl
 have z:=qT (K5 (pr.map swp)) (b7 B);have m_:(b7 L).length<=((b7 B).filter λn=>!K5 (pr.map swp) n).length:=aE ndL λn hn=>Kp.mpr ⟨by
  rcases Kg.mp hn with z|z
  .obtain⟨x,hx,rfl⟩:=Kd.mp z;exact Kf _ (Kd.mpr ⟨x,b.p x hx,rfl⟩)
  .obtain⟨x,hx,rfl⟩:=Kd.mp z;exact Kk _ (Kd.mpr ⟨x,b.t x hx,rfl⟩),by unfold K5;rw[hk];simpa using hn⟩
 have l1:=b.l1;have l2:=b.l2;have e1:=C3 B;have e2:=C3 L;lia
def BF (h4:((b7 B).filter (K5 (pr.map swp))).length<=4)(hB:(b7 B).length<=24)(hW:(b7 W).length<=12):((b7 B).length+1)*(max W.pts.length W.ts.length+1) ^ ((b7 B).filter (K5 (pr.map swp))).length<=1000000:=by
 have e:=C3 W;have h1:max W.pts.length W.ts.length+1<=13:=by lia
 have h2:=Nat.pow_le_pow_left h1 ((b7 B).filter (K5 (pr.map swp))).length;have h3:(13:Nat) ^ ((b7 B).filter (K5 (pr.map swp))).length<=13 ^ 4:=Py (by decide) h4;exact Kw (PF (show(b7 B).length+1<=25 by lia) (Kw h2 h3)) (by decide)
end
def jr (K:Qc):Sp:=λvs H Q _=>∃(S B:Sd) (m:Addr) (fx:List (Str×Str)),vs=[.ref S.a,.ref B.a,.ref m]/\SdIs K H B/\SdIs K H S/\H m=some (.dK (i7 fx))/\uu B.W S.W fx/\((b7 B.W).filter (K5 fx)).length<=4/\(b7 S.W).length<=12/\∀H',Same H H'->Q (.bl (!(E4 B.W S.W fx).isEmpty)) H'
abbrev jX:=λP w K mg base=>U0 P w K mg base F0 3 "_law_met" ["_law_web_here","_law_bar_here","_law_match"] [] (jr K)
def sC {f fd}(T:Txt K mg)(fk:lA P w K mg base)(F:Fun K "_law_met" "_law_met" fq f fd):C5 P w K mg base F0 3 f fd ["_law_web_here","_law_bar_here","_law_match"] (jr K):=by
 walk_at "#sc__law_met"
 .obtain⟨S,B,m,fx,rfl,_⟩:=h;rfl
 .obtain⟨S,B,m,fx,rfl,hB,hS,hm,ho,h4,h12,k⟩:=h;walk_at "@sc__law_met 8E'2Iw &~e5'0fk 71i02Hj";symm;refine⟨B,S,m,fx,rfl,hB,hS,hm,ho,h4,h12,λl H1 ys D ws _ m1 f1 ms ai pm _=>?_⟩;symm;refine⟨d0 (by simp),λl2 n2=>?_⟩;obtain⟨H2,e2,f2,m2,_⟩:=b5 (o:= .lst []) n2;rw[e2];refine⟨l,l2,ys,rfl,rfl,SqL.of (m2 _ _ f1),SqL.of f2,?_⟩;have e:ys.isEmpty=(E4 B.W S.W fx).isEmpty:=by
   have hlen:=KW ms;rw[Lg,OM,OM];constructor
   .rintro rfl;have hD:D=[]:=OF.mp hlen.symm;refine MG.mpr λrow hr=>?_;obtain⟨m',TC,_⟩:=ai.row ho hB.nd pm hr;rw[hD] at TC;cases TC
   .intro hr;have hD:D=[]:=MG.mpr λm' TC=>by
     have z:=((ai.1 m' TC).row ho hB.nd hB.ends pm).2;rw[hr] at z;cases z
    rw[hD] at hlen;exact OF.mp hlen
  rw[e];exact k _ (m1.trans m2)
def gO (K:Qc):Sp:=λvs H Q _=>∃(L:Sd) (lx lw lk:Addr) (xs:List Int) (ws ks:List Str),vs=[.ref L.a,.ref lx,.ref lw,.ref lk]/\SdIs K H L/\(b7 L.W).length<=8/\(∀n∈b7 L.W,Wd ws 0 8 n)/\SqL K H lx (xs.map V.int)/\xs.length=16/\(∀x∈xs,0<=x)/\SqL K H lw (ws.map V.str)/\xV ws/\SqL K H lk (ks.map V.str)/\tM ks/\
 ∀(l:Addr) (bs:List Sd) (H':Hp),H l=none->Same H H'->H' l=some (.lst (bs.map λs=>V.ref s.a))->bs.length<=3->(∀s∈bs,SdIs K H' s/\qk L.W s.W/\H s.p=none/\H s.q=none)->Q (.ref l) H'
def Bi {x:Int}(h:0<=x):∃c:Int,nX [V.int 0,.int 1,.int 1,.int 2,.int 3] (x % 5)=some (.int c)/\0<=c/\c<=3:=by
 have h0:0<=x % 5:=Ls _ (by decide);have h1:x % 5<5:=Lj _ (by decide);obtain⟨n,hn⟩:∃n:Nat,x % 5=n:=⟨(x % 5).toNat,by lia⟩
 rw[hn];have hn5:n<5:=by lia
 match n,hn5 with
 |0,_=>exact⟨0,k7 rfl,by decide,by decide⟩
 |1,_=>exact⟨1,k7 rfl,by decide,by decide⟩
 |2,_=>exact⟨1,k7 rfl,by decide,by decide⟩
 |3,_=>exact⟨2,k7 rfl,by decide,by decide⟩
 |4,_=>exact⟨3,k7 rfl,by decide,by decide⟩
abbrev je:=λP w K mg base=>U0 P w K mg base F0 2 "_law_bars" ["_law_left","_law_xs","_law_words_here","_law_kinds"] [] (gO K)
def oE {f fd}(T:Txt K mg)(eQ:kj P w K mg base)(F:Fun K "_law_bars" "_law_bars" df f fd):C5 P w K mg base F0 2 f fd ["_law_left","_law_xs","_law_words_here","_law_kinds"] (gO K):=by
 walk_at "#sc__law_bars"
 .obtain⟨L,lx,lw,lk,xs,ws,ks,rfl,_⟩:=h;rfl
 .obtain⟨L,lx,lw,lk,xs,ws,ks,rfl,hL,hL8,hLw,hX,p_,s_,hWs,hws,hK,RQ,k⟩:=h;obtain⟨x6,Vb,Zv⟩:=aI p_ s_ 6 (by lia);walk_at "@sc__law_bars 8w_law_k;0123;V3qUs2s2s2g22lz1122h0k_law_k,_law_left,_law_xs,_law_words_here,_law_kinds;D5'0eQ 717273i40";symm;refine⟨d0 (by simp),λl1 n1=>?_⟩;obtain⟨H1,e1,f1,m1,_⟩:=b5 (o:= .lst _) n1;rw[e1];symm;refine j5 (m1.seq hX) Vb ?_;symm;obtain⟨cb,hcb,c0,c3⟩:=Bi (x:=x6/16) (by lia);refine j5 (SqL.of f1) hcb ?_;refine Q5 (by lia) (by lia) ?_;refine z8 (n:=cb.toNat) (λj out H'=>Same H1 H'/\∃bs:List Sd,out=(bs.map λs=>V.ref s.a)/\bs.length=j/\∀s∈bs,SdIs K H' s/\qk L.W s.W/\H s.p=none/\H s.q=none) ⟨Same.refl _,[],rfl,rfl,λ_ h=>nomatch h⟩ (λj out H' hj _=>by exact hj) ?_ ?_
  .rintro N j v out G4' G4 hj ⟨s4,bs,rfl,RM,RE⟩ ⟨rfl,rfl⟩ hN';have Qy:=m1.trans s4;symm;refine⟨rfl,?_⟩;symm;refine⟨L,lx,lw,lk,xs,ws,ks,_,rfl,by lia,by lia,hL.same Qy,hL8,hLw,Qy.seq hX,p_,s_,Qy.seq hWs,hws,Qy.seq hK,RQ,λB G5 C_ hB hbo np nq=>?_⟩;refine⟨d0 (by rw[Kb];lia),hN' _ _ ⟨s4.trans C_,bs++[B],by rw[Ki];rfl,by rw[Kj,RM];rfl,λs hs=>?_⟩⟩;rcases Kg.mp hs with z|z
   .exact⟨(RE s z).1.same C_,(RE s z).2⟩
   .rw[Kq.mp z];exact⟨hB,hbo,Qy.free np,Qy.free nq⟩
  .rintro out G4 ⟨s4,bs,rfl,RM,RE⟩;refine⟨Ke _,λlb nlb=>⟨d0 (by rw[Kb];lia),?_⟩⟩;obtain⟨G5,e14,f14,Vi,_⟩:=b5 (H:=G4) (o:= .lst (bs.map λs=>V.ref s.a)) nlb;change Q _ (upd G4 lb _);rw[e14];exact k lb bs G5 ((m1.trans s4).free nlb) (m1.trans (s4.trans Vi)) f14 (by lia) λs hs=>⟨(RE s hs).1.same Vi,(RE s hs).2⟩
def FF (c:Int)(j i:Nat):Str:=cJ c (j+i)
def GL (c:Int)(j:Nat)(h:j<=280):((List.range 4).map (FF c j)).Nodup:=lZ λa b ha hb e=>by
 have z:=pq (c:=c) (i:=j+a) (j:=j+b) (by lia) (by lia) e;lia
def eM (K:Qc):Sp:=λvs H Q _=>∃(S:Sd) (d c:Int) (j:Nat) (lk:Addr) (ks:List Str),vs=[.ref S.a,.int d,.int c,.ref lk,.int (j:Int)]/\13<j/\j<=280/\SdIs K H S/\lj S.W/\(b7 S.W).length<=8/\(∀x∈b7 S.W,∃j,j<13/\x=cJ c j)/\SqL K H lk (ks.map V.str)/\tM ks/\
 ∀(X:StX) (H':Hp),Same H H'->Stp K H' S.W X->Q (.ref X.st) H'
abbrev gK:=λP w K mg base=>U0 P w K mg base F0 4 "_law_drawn" ["_law_web_here","_law_cell","_law_first","_law_kinds","_law_at"] [] (eM K)
def mE {f fd}(T:Txt K mg)(bg:eu P w K mg base)(Q7:cm P w K mg base)(Q3:dg P w K mg base)(du:ja P w K mg base)(eU:jX P w K mg base)(di:je P w K mg base)(F:Fun K "_law_drawn" "_law_drawn" bU f fd):C5 P w K mg base F0 4 f fd ["_law_web_here","_law_cell","_law_first","_law_kinds","_law_at"] (eM K):=by
 walk_at "#sc__law_drawn"
 .obtain⟨S,d,c,j,lk,ks,rfl,_⟩:=h;rfl
 .obtain⟨S,d,c,j,lk,ks,rfl,j13,j280,hS,hG,h8,Qw,hK,RQ,k⟩:=h;walk_at "@sc__law_drawn 455'0bg 7132465'0Q7 gz1522*7_law_k;24;V32vh0k_law_k,_law_first,_law_at;vDv5'0Q3 713f0200,5'0du 707576i37xc89c99c:9y*;_law_bar_here;09;r5'0di s1875i63vh0k_law_bar_here,_law_web_here,_law_match;vLT5'0eU 71i02v008msms18s186;i9:"
  symm;refine⟨_,rfl,λlx G1 xs n6 m6 f6 p_ s_=>?_⟩;obtain⟨x11,UE,Wu⟩:=aI p_ s_ 11 (by lia);symm;refine j5 (SqL.of f6) UE ?_;symm;refine⟨_,16,rfl,by lia,by lia,λlw G2 ws n7 m7 f7 hws=>?_⟩;have WZ:xV ws:=⟨hws.1,hws.2.1,hws.2.2⟩
  have f62:=m7 _ _ f6;symm;refine Q5 (by lia) (by lia) ?_;refine z8 (n:=4) (λi out H'=>Same G2 H'/\out=((List.range i).map (FF c j)).map V.str) ⟨Same.refl _,rfl⟩ (λi out H' hi _=>by exact hi) ?_ ?_
  .rintro N i v out G3' G3 hi ⟨s2,rfl⟩ ⟨rfl,rfl⟩ hN';symm;refine⟨rfl,?_⟩;symm;refine⟨c,j+i,?_,by lia,λG4 m3'=>?_⟩
   .show [V.int c,V.int ((j:Int)+(0+(i:Int)))]=_;congr 3;lia
   .refine⟨d0 (by rw[Kb,Kb,LU];lia),hN' _ _ ⟨s2.trans m3',?_⟩⟩;rw[MC,Ki,Ki];rfl
  rintro out G3 ⟨s3,rfl⟩;refine⟨Ke _,λln nln=>⟨d0 (by rw[Kb,Kb,LU];lia),?_⟩⟩;obtain⟨G4,e4,f4,m4,_⟩:=b5 (H:=G3) (o:= .lst (((List.range 4).map (FF c j)).map V.str)) nln;change O7 _ _ _ (upd G3 ln _) _;rw[e4];have SO:=GL c j j280;have WK:∀n∈(List.range 4).map (FF c j),X6 n=true/\n∉b7 S.W:=λn hn=>by
   obtain⟨i',SF,rfl⟩:=Kd.mp hn;have hi2:=Mp.mp SF;refine⟨rS _ _,λz=>?_⟩;obtain⟨j',Wj,e'⟩:=Qw _ z;have z2:=pq (c:=c) (i:=j+i') (j:=j') (by lia) (by lia) e';lia
  have nl4:((List.range 4).map (FF c j)).length=4:=by rw[Kb,LU]
  generalize (List.range 4).map (FF c j)=nms at f4 SO WK nl4;have XU:=s3.trans m4;have sG4:=m6.trans (m7.trans XU);symm;refine⟨S,lx,lw,lk,ln,xs,ws,ks,nms,rfl,hS.same sG4,hG,SqL.of (XU _ _ f62),p_,s_,SqL.of (XU _ _ f7),WZ,sG4.seq hK,RQ,SqL.of f4,nl4,SO,WK,λst r m f bl L R pr fr os G5 m8 hT rok mp lo osub fo hold=>?_⟩;refine I0 hT.tup rfl ?_;have sG5:=sG4.trans m8;have S5:=hS.same sG5;have lL8:(b7 L.W).length<=8:=by
   have z1:=rok.l.l1;have z2:=rok.l.l2;rw[C3];lia
  have s45:=XU.trans m8;symm;refine A9 hT.r.tup (k7 (j:=0) rfl) ?_;symm;refine⟨L,lx,lw,lk,xs,ws,ks,rfl,hT.r.l,lL8,hold,SqL.of (s45 _ _ f62),p_,s_,SqL.of (s45 _ _ f7),WZ,sG5.seq hK,RQ,λlb bs G6 n9 m9 f9 ZF RE=>?_⟩;have T6:=hT.same m9;have S6:=S5.same m9;refine A8 (SqL.of f9) ?_;refine z8 (n:=(bs.map λs=>V.ref s.a).length) (λi out H'=>Same G6 H'/\∃cs:List Sd,out=cs.map (λs=>V.ref s.a)/\cs.length<=i/\∀c∈cs,c∈bs/\E4 c.W S.W (pr.map swp)=[]) ⟨Same.refl _,[],rfl,Ke _,λc h=>by cases h⟩ (λi out H' hi hp=>⟨_,_,SqL.of (hp.1 _ _ f9),Kc hi⟩) ?_ ?_
  .rintro N i' v' out G7' G7 SF ⟨s7,Ub,rfl,Tr,RI⟩ y' hN';obtain⟨rfl,h_⟩:=Itl.get y' (SqL.of (s7 _ _ f9));rw[Kh] at h_;obtain⟨bb,VH,rfl⟩:=KN.mp h_;have Wi:=Kr VH;obtain⟨hB,W_,hBp,hBq⟩:=RE bb Wi;rw[Kb] at SF;symm;refine⟨rfl,?_⟩;symm;refine⟨S,bb,m,pr.map swp,rfl,hB.same s7,S6.same s7,s7 _ _ T6.m,CQ mp W_ hB.nd hT.r.l.ends,xR mp W_ hB.nd hT.r.l.nd,by lia,λG8 QK=>?_⟩;symm;cases e:(E4 bb.W S.W (pr.map swp)).isEmpty
   .rw[if_neg (by decide)];exact hN' _ _ ⟨s7.trans QK,Ub,rfl,Nat.le_succ_of_le Tr,RI⟩
   .rw[if_pos (by decide)];symm;refine⟨d0 (by rw[Kb];lia),hN' _ _ ⟨s7.trans QK,Ub++[bb],by rw[Ki];rfl,by rw[Kj];exact Nat.succ_le_succ Tr,λc hc=>?_⟩⟩;rcases Kg.mp hc with z|z
    .exact RI c z
    .rw[Kq.mp z];exact⟨Wi,OM.mp e⟩
  rintro out G7 ⟨s7,Ub,rfl,Tr,RI⟩;rw[Kb] at Tr;refine⟨⟨_,SqL.of (s7 _ _ f9),Ke _⟩,λlb2 nlb=>⟨d0 (by rw[Kb];lia),?_⟩⟩;obtain⟨G8,e8,f8,QK,_⟩:=b5 (H:=G7) (o:= .lst (Ub.map λs=>V.ref s.a)) nlb;change O7 _ _ _ (upd G7 lb2 (.lst (Ub.map λs=>V.ref s.a))) _;rw[e8];have T8:=T6.same (s7.trans QK);symm;refine A9 T8.r.tup (k7 (j:=0) rfl) ?_;symm;refine A9 T8.r.tup (k7 (j:=1) rfl) ?_;symm;refine⟨d0 (by simp),λr2 nr2=>?_⟩;obtain⟨G9,e9,f9',Sq,_⟩:=b5 (o:= .tup _) nr2;rw[e9];symm;refine⟨d0 (by simp),λN' nst2=>?_⟩;obtain⟨G10,RN,Sm,H_,_⟩:=b5 (o:= .tup _) nst2;rw[RN];have m60:=s7.trans (QK.trans (Sq.trans H_));have Tz:=T6.same m60;have fl:G10 lb2=some (.lst (Ub.map λs=>V.ref s.a)):=H_ _ _ (Sq _ _ f8);refine k ⟨N',r2,m,f,lb2,L,R,os,pr,fr,Ub⟩ G10 (sG5.trans (m9.trans m60)) ⟨⟨SqT.of Sm,⟨SqT.of (H_ _ _ f9'),Tz.r.l,Tz.r.r,SqL.of fl,λb hb=>(RE b (RI b hb).1).1.same m60⟩,Tz.m,Tz.f,fl⟩,⟨by show Ub.length<=10;lia,λb hb=>?_⟩,rok,mp,lo,osub,fo,λb hb=>(RI b hb).2⟩;obtain⟨hB,W_,np,nq⟩:=RE b (RI b hb).1;have ho:=CQ mp W_ hB.nd hT.r.l.ends;exact⟨d9 hT.m np,d9 hT.m nq,λW' hW'=>⟨BF (xR mp W_ hB.nd hT.r.l.nd) hB.len (by rw[C3];exact hW'),ho.nk,λx hx=>ho.fin x.1 (Kd.mpr ⟨x,hx,rfl⟩)⟩⟩
structure Lke (X Y:StX):Prop where
 l:Y.L.W=X.L.W
 r:Y.R.W=X.R.W
 p:Y.pr=X.pr
 f:Y.fr=X.fr
 b:Y.bs.map (·.W)=X.bs.map (·.W)
def Lke.sy {X Y:StX}(h:Lke X Y):Lke Y X:=⟨h.l.symm,h.r.symm,h.p.symm,h.f.symm,h.b.symm⟩
def Lke.apart {H:Hp}{W W1 W2 V1 V2:C9}{X Y X' Y':StX}(h:Stp K H W X')(k:Stp K H W Y')(l:Lke X X')(m:Lke Y Y')(b1:Beh W X W1)(b2:Beh W Y W2)(c1:Beh W X' V1)(c2:Beh W Y' V2)(a:Apart X Y W1 W2):Apart X' Y' V1 V2:=by
 have gs:∀{X X':StX},Lke X X'->X'.gs=X.gs:=λl=>by unfold StX.gs StX.fx;rw[l.l,l.r,l.p]
 have bars:∀{X X' Y Y':StX} {W1 V1:C9},Stp K H W X'->Lke X X'->Lke Y Y'->Beh W Y W1->Beh W Y' V1->(∀b∈X.bs,E4 b.W W1 X.fx=[])->∀b∈X'.bs,E4 b.W V1 X'.fx=[]:=fun{X X' Y Y' W1 V1} h l m b c no s hs=>by
  have z:s.W∈X'.bs.map (·.W):=Kd.mpr ⟨s,hs,rfl⟩;rw[l.b] at z;obtain⟨s',Qn,e⟩:=Kd.mp z;have hB:=h.i.r.bars s hs;refine vD (W2:=W1) hB.nd hB.ends (λx hx=>?_) (λx hx=>?_) (by unfold StX.fx;rw[l.p,←show s'.W=s.W from e];exact no s' Qn)
  .rw[c.p] at hx;unfold StX.fx at hx;rw[m.l,m.r,m.p,m.f] at hx;exact(b.p x).mpr hx
  .rw[c.t] at hx;unfold StX.fx at hx;rw[m.l,m.r,m.p,m.f] at hx;exact(b.t x).mpr hx
 exact⟨by rw[l.f,m.f];exact a.f,by rw[l.p,m.p,gs l,gs m];exact a.g,bars h l m b2 c2 a.b1,bars k m l b1 c1 a.b2⟩
def Stp.copy {H H':Hp}{W:C9}{X:StX}{v_ r' m' f' SR:Addr}{L' R':Sd}{L_:List Sd}(h:Stp K H W X)(i:StI K H' v_ r' m' f' SR L' R' (i7 X.fx) (i7 X.fr) L_)(cL:Cpy K H H' X.L L')(cR:Cpy K H H' X.R R')(cb:Paired (Cpy K H H') X.bs L_)(hm:∀c∈L_,m'≠c.p/\m'≠c.q):∃Y:StX,Y.st=v_/\Stp K H' W Y/\Lke X Y:=by
 have hb:∀{c:Sd},c∈L_->∃b∈X.bs,c.W=b.W:=λhc=>by
  obtain⟨j,hj⟩:=LZ hc;obtain⟨b,hb,z⟩:=cK cb hj;exact⟨b,Kr hb,z.w⟩
 refine⟨⟨v_,r',m',f',SR,L',R',X.os,X.pr,X.fr,L_⟩,rfl,⟨i,⟨?_,λc hc=>?_⟩,?_,?_,h.lo,h.sub,?_,λc hc=>?_⟩,⟨cL.w,cR.w,rfl,rfl,?_⟩⟩
 .show L_.length<=10;rw[←KW cb];exact h.n.len
 .obtain⟨b,hb1,e⟩:=hb hc;exact⟨(hm c hc).1,(hm c hc).2,by rw[e];exact(h.n.b b hb1).2.2⟩
 .show fg L'.W R'.W [];rw[cL.w,cR.w];exact h.ok
 .show MP W X.os X.pr L'.W.pts L'.W.ts (b7 R'.W);rw[cL.w,cR.w];exact h.mp
 .show FrOk W L'.W R'.W X.fr;rw[cL.w,cR.w];exact h.fo
 .obtain⟨b,hb1,e⟩:=hb hc;rw[e];exact h.no b hb1
 .show L_.map (·.W)=X.bs.map (·.W);have go:∀{l m:List Sd},Paired (Cpy K H H') l m->m.map (·.W)=l.map (·.W):=fun{l m} z=>by
   induction z with
   |nil=>rfl
   |cons h _ ih=>rw[Lk,Lk,h.w,ih]
  exact go cb
def jf (K:Qc):Sp:=λvs H Q _=>∃(a:Addr) (S:Sd) (c j:Int) (lk:Addr) (ns:List Int) (ks:List Str),vs=[.ref a,.ref S.a,.int c,.ref lk,.int j]/\0<=j/\j<=10/\SqL K H a (ns.map V.int)/\ns.length<=63/\SdIs K H S/\lj S.W/\(b7 S.W).length<=8/\(∀x∈b7 S.W,∃j,j<13/\x=cJ c j)/\SqL K H lk (ks.map V.str)/\tM ks/\
 ∀(t:Addr) (X Y:StX) (H':Hp),Same H H'->H' t=some (.tup [.ref X.st,.ref Y.st])->Stp K H' S.W X->Stp K H' S.W Y->Q (.ref t) H'
def Ci {x:Int}(h:0<=x):∃c:Nat,nX [V.int 48,.int 40,.int 42,.int 48] (x % 4)=some (.int (c:Int))/\13<c/\c<=280:=by
 obtain⟨n,hn⟩:∃n:Nat,x % 4=n:=⟨(x % 4).toNat,by lia⟩
 rw[hn];have hn4:n<4:=by lia
 match n,hn4 with
 |0,_=>exact⟨48,k7 rfl,by decide,by decide⟩
 |1,_=>exact⟨40,k7 rfl,by decide,by decide⟩
 |2,_=>exact⟨42,k7 rfl,by decide,by decide⟩
 |3,_=>exact⟨48,k7 rfl,by decide,by decide⟩
abbrev lQ:=λP w K mg base=>U0 P w K mg base F0 5 "_law_two" ["_law_script","_law_web_here","_law_first","_law_kinds","_law_k"] [] (jf K)
def rR {f fd}(T:Txt K mg)(C8:V7 P w K mg base)(F7:aD P w K mg base)(aA:gK P w K mg base)(P6:dD P w K mg base)(F:Fun K "_law_two" "_law_two" fD f fd):C5 P w K mg base F0 5 f fd ["_law_script","_law_web_here","_law_first","_law_kinds","_law_k"] (jf K):=by
 walk_at "#sc__law_two"
 .obtain⟨a,S,c,j,lk,ns,ks,rfl,_⟩:=h;rfl
 .obtain⟨a,S,c,j,lk,ns,ks,rfl,j0,j10,hA,hl,hS,hG,h8,Qw,hK,RQ,k⟩:=h;walk_at "@sc__law_two 45Ug5~d703f2R2045~d703f2R204465~ig15f20447qUs2s2g22l062485'0aA 71s15727332495'0aA 71s1572i37bnaNlz06222j49ms18g1819ena(GJ319GJ318je~c95'0P6 688mi89"
  symm;refine⟨a,ns,_,rfl,hA,hl,by lia,λd1=>?_⟩;symm;refine⟨a,ns,_,rfl,hA,hl,by lia,λd2=>?_⟩;symm;refine⟨d0 (by simp),λl1 n1=>?_⟩;obtain⟨H1,e1,f1,m1,_⟩:=b5 (o:= .lst [.int d1,.int d2]) n1;rw[e1];symm;refine j5 (SqL.of f1) (k7 (j:=1) rfl) ?_;symm;refine⟨d2,_,rfl,by lia,by lia,λx hx=>?_⟩;symm;refine⟨d0 (by simp),λl2 n2=>?_⟩;obtain⟨H2,e2,f2,m2,_⟩:=b5 (o:= .lst [.int 48,.int 40,.int 42,.int 48]) n2;rw[e2];obtain⟨at9,ha9,at1,at2⟩:=Ci hx;have H_:=m1.trans m2;symm;refine j5 (SqL.of f2) ha9 ?_;symm;refine j5 (SqL.of (m2 _ _ f1)) (k7 (j:=0) rfl) ?_;symm;refine⟨S,d1,c,40,lk,ks,rfl,by decide,by decide,hS.same H_,hG,h8,Qw,H_.seq hK,RQ,λX H3 m3 hX=>?_⟩;have C_:=H_.trans m3;symm;refine j5 (SqL.of (m3 _ _ (m2 _ _ f1))) (k7 (j:=1) rfl) ?_;symm;refine⟨S,d2,c,at9,lk,ks,rfl,at1,at2,hS.same C_,hG,h8,Qw,C_.seq hK,RQ,λY H4 m4 hY=>?_⟩;have Vi:=C_.trans m4;have X4:=hX.same m4;rfl';refine O1 λnx hx=>?_;have fin:∀(Y':StX) (H':Hp),Same H4 H'->Stp K H' S.W Y'->nx [some (.ref a),some (.ref S.a),some (.int c),some (.ref lk),some (.int j),some (.ref l1),some (.int x),some (.int at9),some (.ref X.st),some (.ref Y'.st)] H':=λY' H' s Uc=>by
   refine hx _ _ ?_;symm;refine⟨d0 (by simp),λt nt=>?_⟩;obtain⟨H5,e5,f5,m5,_⟩:=b5 (o:= .tup _) nt;rw[e5];exact k t X Y' H5 (Vi.trans (s.trans m5)) f5 (X4.same (s.trans m5)) (Uc.same m5)
  clear hx;rfl';refine M9 (λ_=>?_) (λ_=>?_);rotate_left
  .rfl';exact fin Y H4 (Same.refl _) hY
  symm;refine A9 X4.i.tup (k7 (j:=0) rfl) ?_;symm;refine A9 X4.i.tup (k7 (j:=1) rfl) ?_;symm;refine A9 hY.i.tup (k7 (j:=2) rfl) ?_;symm;refine⟨d0 (by simp),λt5 n5=>?_⟩;obtain⟨H5,e5,f5,m5,_⟩:=b5 (o:= .tup [.ref X.r,.ref X.m,.ref Y.f]) n5;rw[e5];have X5:=X4.same m5;have Y5:=hY.same m5;have lX:=X5.fo.len;have lY:=Y5.fo.len;symm;refine A9 (SqT.of f5) (k7 (j:=2) rfl) ?_;symm;refine A6 (ss:=Y.fr.map (·.1)) (.inl Y5.i.f) (by rw[E6,B6]) (by rw[Kb];lia) (λu1 a1 _ l6 n6=>?_);obtain⟨H6,e6,f6,m6,_⟩:=b5 (o:= .lst _) n6;rw[e6];symm;refine A9 (m6.tup X5.i.tup) (k7 (j:=2) rfl) ?_;symm;refine A6 (ss:=X.fr.map (·.1)) (.inl (m6 _ _ X5.i.f)) (by rw[E6,B6]) (by rw[Kb];lia) (λu2 a2 _ l7 n7=>?_);obtain⟨H7,e7,f7,m7,_⟩:=b5 (o:= .lst _) n7;rw[e7];have Vw:=m6.trans m7;symm;refine AS (il (SqL.of (m7 _ _ f6)) (SqL.of f7) (P8 _) (P8 _) ?_);rw[iq];symm;refine O6 (λ_=>?_) (λek=>?_)
  .symm;have X7:=X5.same Vw;refine⟨X.st,X.r,X.m,X.f,X.bl,X.L,X.R,_,_,X.bs,rfl,X7.i,X7.n.len,λv_ r' m' f' SR L' R' L_ H8 m8 i8 cL cR cb _ _ _ hm=>?_⟩;obtain⟨Y',rfl,Uc,_⟩:=X7.copy i8 cL cR cb hm;rfl';exact fin Y' H8 (m5.trans (Vw.trans m8)) Uc
  .rfl';have X7:=X5.same Vw;have Y7:=Y5.same Vw;refine fin ⟨t5,X.r,X.m,Y.f,X.bl,X.L,X.R,X.os,X.pr,Y.fr,X.bs⟩ H7 (m5.trans Vw) ⟨⟨Vw.tup (SqT.of f5),X7.i.r,X7.i.m,Y7.i.f,X7.i.b⟩,X7.n,X7.ok,X7.mp,X7.lo,X7.sub,⟨?_,Y7.fo.nm,Y7.fo.nd,Y7.fo.no,Y7.fo.len⟩,X7.no⟩;exact(a1.symm.trans ((List.Perm.of_eq ek).trans a2)).trans X7.fo.ks
def fW (K:Qc):Sp:=λvs H Q _=>∃(S:Sd) (X Y:StX),vs=[.ref S.a,.ref X.st,.ref Y.st]/\SdIs K H S/\(b7 S.W).length<=8/\Stp K H S.W X/\Stp K H S.W Y/\∀(v:V) (H':Hp) (W1:C9),Same H H'->Beh S.W X W1->(v= .non/\¬AK W1 Y.L.W Y.R.W Y.fx Y.fr Y.bs\/∃A:Sd,v= .ref A.a/\AK W1 Y.L.W Y.R.W Y.fx Y.fr Y.bs/\WebAt K H' A.a A.p A.q A.kvs A.W/\H' A.p=some (.dK (i7 A.W.pts))/\H' A.q=some (.dK A.kvs)/\A.W.pts.Perm (jl W1 Y.L.W Y.R.W (i7 Y.fx) (i7 Y.fr)).pts/\A.W.ts.Perm (jl W1 Y.L.W Y.R.W (i7 Y.fx) (i7 Y.fr)).ts)->Q v H'
abbrev iU:=λP w K mg base=>U0 P w K mg base (mJ P w) 12 "_law_both" ["_law_web_here","_law_one","_law_other"] [] (fW K)
def pS {f fd}(T:Txt K mg)(cY:tG P w K mg base)(F:Fun K "_law_both" "_law_both" dh f fd):C5 P w K mg base (mJ P w) 12 f fd ["_law_web_here","_law_one","_law_other"] (fW K):=by
 refine F.okE sc__law_both (λvs H Q E h=>?_) (λc_ A outer s H vs Q E hr h=>?_)
 .obtain⟨S,X,Y,rfl,_⟩:=h;rfl
 .obtain⟨S,X,Y,rfl,hS,h8,hX,hY,k⟩:=h;have hsz:=h8;rw[C3] at hsz;have hN:=sc__law_both.nd;have hu:=A3 hr;refine⟨_,QSs.r (A0 (u7 (i:=3) hN rfl (by walk_at "l") (qC cY (hr.mono (by decide)) rM (i6 (qV 0) (i6 (qV 1) j8))))
   (A0 (u7 (i:=4) hN rfl (by walk_at "l") gi)
   (A0 (GW T.t_GlueError (λpins Es=>(D0 (u7 (i:=4) hN rfl (by walk_at "l") (JC cY (hr.mono (by decide)) (i6 (qV 3) (i6 (qV 2) j8)))))) (λex=>(D0 (u7 (i:=4) hN rfl (by walk_at "l") gi))))
   (D0 (B8 (qV 4)))))),?_⟩
  symm;refine⟨S,X.L,X.R,X.st,X.r,X.m,X.f,X.bl,X.fr,X.bs,X.fx,S.W,rfl,hS,hX.i,hX.n,hX.mp.nds,Kw hX.kl (by decide),by lia,hX.fo,λ_=>?_,λz=>absurd hX.can z⟩;intro a1 p1 q1 k1 W1 H1 t1 w1 Pa SJ ne1 _ _ SN TY;have B1:=hX.beh hS.nd SN TY;obtain⟨S1,z1⟩:=B1.sd hX hS h8 w1 Pa SJ ne1;have Y1:=hY.same t1;have k:=λv H' s=>k v H' W1 s B1;symm;refine DQ ?_;symm;refine⟨⟨a1,p1,q1,k1,W1⟩,Y.L,Y.R,Y.st,Y.r,Y.m,Y.f,Y.bl,Y.fr,Y.bs,Y.fx,S.W,rfl,S1,Y1.i,Y1.n,Y1.mp.nds,Kw Y1.kl (by decide),z1,Y1.fo,λcan=>?_,λnc c hc H2 e s2 he=>?_⟩
  .intro a2 p2 q2 k2 W2 H2 t2 w2 UY RO _ _ _ e21 e22;symm;exact k _ H2 (t1.trans t2) (.inr ⟨⟨a2,p2,q2,k2,W2⟩,rfl,can,w2,UY,RO,e21,e22⟩)
  .have s3:∀c,Same H1 (upd H2 e (.ext (cE e c))):=λc=>E7 s2 (s2.free he);have go:∀c,Q .non (upd H2 e (.ext (cE e c))):=λc=>k _ _ (t1.trans (s3 c)) (.inl ⟨rfl,nc⟩);clear k;simp only[Fj,Lh,OK,or_false] at hc;rcases hc with rfl|rfl|rfl|rfl
   .refine⟨_,e,rfl,rfl,T.s_NoMatch_GlueError,?_⟩;symm;exact go _
   .refine⟨_,e,rfl,rfl,T.s_Loose_GlueError,?_⟩;symm;exact go _
   .refine⟨_,e,rfl,rfl,T.s_Barred_GlueError,?_⟩;symm;exact go _
   .refine⟨_,e,rfl,rfl,T.s_NoNames_GlueError,?_⟩;symm;exact go _
def qb (K:Qc):Sp:=λvs H Q _=>∃(a:Addr) (ns:List Int),vs=[.ref a]/\SqL K H a (ns.map V.int)/\ns.length<=63/\∀H',Q (.bl true) H'
def Bc {ks:List Str}(k0:0<ks.length)(k3:ks.length<=3)(kk:∀s∈ks,K7 s=true):tM (ks++[("rare":Str)]):=by
 refine⟨?_,?_,λs hs=>?_⟩
 .rw[Kj];lia
 .rw[Kj,Ku];lia
 .rcases Kg.mp hs with z|z
  .exact kk s z
  .rw[Kq.mp z];decide
def EW {f fd}(T:Txt K mg)(eZ:kD P w K mg base)(fm:lQ P w K mg base)(oM:vx P w K mg base)(P6:dD P w K mg base)(aY:iU P w K mg base)(aX:jg P w K mg base)(aZ:jh P w K mg base)(F:Fun K "law" "law" yj f fd):C5 P w K mg base F0 13 f fd ["_law_script"] (qb K):=by
 walk_at "#sc_law"
 .obtain⟨a,ns,rfl,_⟩:=h;rfl
 .obtain⟨a,ns,rfl,hA,hl,k⟩:=h;walk_at "@sc_law ,5'0eZ 60xc19c29c39y42f02U3SbtuV3C'1xq O'0T.b_max ~vg2C'1iP O~s~rg2z{'0tw p6022h49,5'0fm 707371i24xc59c69y47|'0oM '0zf 73g5'0P6 655'0P6 6648Ug|'0aY '0zf 73i56|'0aY '0zf 73i65bna(E'0Ao 07Yj'2Cj E~718Yj'1AU E~718Yjj8Wena'0Ao 07Yj495'0aX s5'0aX i3566enIZT5'0aZ s1869-T5'0aZ s18698W8W"
  symm;refine⟨a,ns,rfl,hA,hl,λt lk b p q kvs W c ks H1 m1 f1 g1 k0 k3 kk c0 hW hG YI Qw=>?_⟩;refine I0 (SqT.of f1) rfl ?_;have h8:(b7 W).length<=8:=by rw[C3];exact YI
  symm;refine⟨d0 (by simp),λl2 n2=>?_⟩;obtain⟨H2,e2,f2,m2,_⟩:=b5 (o:= .lst [.str "rare"]) n2;rw[e2];symm;refine mV (m2 _ _ g1) f2 (d0 (by rw[Kb];simp;lia)) (λl3 n3=>?_);rw[show ks.map V.str++[V.str "rare"]=(ks++[("rare":Str)]).map V.str by rw[Ki];rfl];obtain⟨B,e3,f3,m3,_⟩:=b5 (o:= .lst ((ks++[("rare":Str)]).map V.str)) n3;rw[e3];have RQ:=Bc k0 k3 kk;have mB:=m2.trans m3;have SB:SdIs K B ⟨b,p,q,kvs,W⟩:=WebIs.same hW mB;have AB:=(m1.trans mB).seq hA;generalize ks++[("rare":Str)]=kz at f3 RQ;symm;refine F2 (u9 AB ?_);symm;refine⟨_,_,rfl,?_⟩;symm;refine⟨_,_,rfl,?_⟩;have cnt:∀z:Int,0<=(if(if z<5 then z else 5)>1 then(if z<5 then z else 5) else 1)/\(if(if z<5 then z else 5)>1 then(if z<5 then z else 5) else 1)<=5:=λz=>by
   have h:(if z<5 then z else 5)<=5:=by split<;>lia
   generalize (if z<5 then z else 5)=y at h;split<;>lia
  obtain⟨cn0,cn5⟩:=cnt ((((ns.map V.int).length:Int) -11)/2);generalize (if(if(((ns.map V.int).length:Int) -11)/2<5 then(((ns.map V.int).length:Int) -11)/2 else 5)>1 then(if(((ns.map V.int).length:Int) -11)/2<5 then(((ns.map V.int).length:Int) -11)/2 else 5) else 1)=cn at cn0 cn5⊢;refine Q5 (by lia) (by lia) ?_;refine O0 (n:=cn.toNat) (λi σ H'=>(∃u:Nat->Option V,σ=[some (.ref a),some (.int c),some (.ref l3),some (.ref b),u 4,u 5,u 6,u 7,u 8,u 9])/\Same B H') ⟨sg rfl,Same.refl _⟩ (λi σ H' hi _=>by exact hi) ?_ ?_
  .rintro i v σ G' G hi ⟨⟨u,rfl⟩,sG⟩ ⟨rfl,rfl⟩ _ _;have S0:=SB.same sG;symm;refine⟨a,⟨b,p,q,kvs,W⟩,c,_,l3,ns,kz,rfl,by lia,by lia,sG.seq AB,hl,S0,hG,h8,Qw,SqL.of (sG _ _ f3),RQ,λt X Y G1 s1 ft hX hY=>?_⟩;refine I0 (SqT.of ft) rfl ?_;symm;refine⟨X.st,X.r,X.m,X.f,X.bl,X.L,X.R,_,_,X.bs,rfl,hX.i,hX.n.len,λv_ r' m' f' SR L' R' L_ G2 s2 i2 cL cR cb _ _ _ hm=>?_⟩;obtain⟨X',rfl,XW,lX⟩:=hX.copy i2 cL cR cb hm;clear i2 cL cR cb hm;symm;have Y2:=hY.same s2;refine⟨Y.st,Y.r,Y.m,Y.f,Y.bl,Y.L,Y.R,_,_,Y.bs,rfl,Y2.i,Y2.n.len,λv_ r' m' f' SR L' R' L_ G3 s3 i3 cL cR cb _ _ _ hm=>?_⟩;obtain⟨Y',rfl,Uc,lY⟩:=Y2.copy i3 cL cR cb hm;clear i3 cL cR cb hm;have UQ:=sG.trans (s1.trans (s2.trans s3));symm;refine⟨⟨b,p,q,kvs,W⟩,X',Y',rfl,SB.same UQ,h8,XW.same s3,Uc,λv1 G4 W1 W2 s4 B1 B2 hv=>?_⟩;have Qy:=UQ.trans s4;have s14:=s2.trans (s3.trans s4);have X4:=hX.same s14;have Y4:=hY.same s14;symm;refine⟨⟨b,p,q,kvs,W⟩,X,Y,rfl,SB.same Qy,h8,X4,Y4,λv2 G5 V1 s5 C1 N_=>?_⟩;symm;refine⟨⟨b,p,q,kvs,W⟩,Y,X,rfl,SB.same (Qy.trans s5),h8,Y4.same s5,X4.same s5,λv3 G6 V2 s6 C2 hv3=>?_⟩;symm;refine⟨d0 (by simp),λl7 n7=>?_⟩;obtain⟨G7,e7,f7,s7,_⟩:=b5 (o:= .lst [v2,v3]) n7;rw[e7];have XX:=Qy.trans (s5.trans (s6.trans s7));have hX:=X4.same (s5.trans (s6.trans s7));have hY:=Y4.same (s5.trans (s6.trans s7));have XW:=XW.same (s3.trans (s4.trans (s5.trans (s6.trans s7))));have Uc:=Uc.same (s4.trans (s5.trans (s6.trans s7)));have toA:Apart X' Y' W1 W2->Apart X Y V1 V2:=λz=>Lke.apart hX hY lX.sy lY.sy B1 B2 C1 C2 z;have ofA:Apart X Y V1 V2->Apart X' Y' W1 W2:=λz=>Lke.apart XW Uc lX lY C1 C2 B1 B2 z;clear X4 Y4 Y2;symm;rcases hv with⟨rfl,ap⟩|⟨⟨tv,rfl⟩,nap⟩
   rotate_left
   .have nb:¬(AK V1 Y.L.W Y.R.W Y.fx Y.fr Y.bs/\AK V2 X.L.W X.R.W X.fx X.fr X.bs):=λz=>nap (ofA (zk hX hY C1 C2 z.1 z.2));rcases N_ with⟨rfl,_⟩|⟨A,rfl,cA,_⟩
    .symm;refine j5 (SqL.of f7) (k7 (j:=0) rfl) ?_;symm;rw[if_neg (by simp)];symm;rw[if_neg (by simp)];symm;rw[if_neg (by simp)];symm;walk_at "X";exact⟨sg rfl,XX⟩
    .rcases hv3 with⟨rfl,_⟩|⟨A2,rfl,cA2,_⟩
     .symm;refine j5 (SqL.of f7) (k7 (j:=0) rfl) ?_;symm;rw[if_pos (by simp)];symm;refine j5 (SqL.of f7) (k7 (j:=1) rfl) ?_;symm;rw[if_neg (by simp)];symm;rw[if_neg (by simp)];symm;walk_at "X";exact⟨sg rfl,XX⟩
     .exact absurd ⟨cA,cA2⟩ nb
   have ap:=toA ap;have Y1:=hX.mv hY C1 ap.f ap.g ap.b2;have X2:=hY.mv hX C2 ap.sy.f ap.sy.g ap.sy.b2;rcases N_ with⟨rfl,nc⟩|⟨A,rfl,_,wA,pA,qA,eA1,eA2⟩
   .exact absurd Y1.can nc
   rcases hv3 with⟨rfl,nc⟩|⟨A2,rfl,_,wA2,pA2,qA2,eA21,eA22⟩
   .exact absurd X2.can nc
   have S7:=SB.same XX;symm;refine j5 (SqL.of f7) (k7 (j:=0) rfl) ?_;symm;rw[if_pos (by simp)];symm;refine j5 (SqL.of f7) (k7 (j:=1) rfl) ?_;symm;rw[if_neg (by simp)];symm;rw[if_pos (by simp)];symm;refine⟨⟨b,p,q,kvs,W⟩,X.L,X.R,X.st,X.r,X.m,X.f,X.bl,X.pr,X.fr,X.os,X.bs,rfl,S7,hX.i,hX.mp,hX.fo,λD G8 s8 wD pD qD neD _ _ nD1 nD2 eD1 eD2=>?_⟩;have BD:Beh W X D.W:=⟨eD1,eD2,nD1,nD2⟩
   obtain⟨SD,_⟩:=BD.sd (S:=⟨b,p,q,kvs,W⟩) hX S7 h8 wD pD qD neD;have YD:=hX.mv hY BD ap.f ap.g λc hc=>vD (W2:=V1) (hY.i.r.bars c hc).nd (hY.i.r.bars c hc).ends (λx hx=>(C1.p x).mpr ((BD.p x).mp hx)) (λx hx=>(C1.t x).mpr ((BD.t x).mp hx)) (ap.b2 c hc);have YD8:=YD.same s8;symm;refine⟨D,Y.L,Y.R,Y.st,Y.r,Y.m,Y.f,Y.bl,Y.pr,Y.fr,Y.os,Y.bs,rfl,SD,YD8.i,YD8.mp,YD8.fo,λE G9 s9 wE pE qE _ npE nqE nE1 nE2 eE1 eE2=>?_⟩;have BE:Beh D.W Y E.W:=⟨eE1,eE2,nE1,nE2⟩
   have nd1:=(C1.is hX S7.nd S7.ends S7.nl h8).1;have RD:=(C2.is hY S7.nd S7.ends S7.nl h8).1;have BA:Beh V1 Y A.W:=Y1.beh nd1 eA1 eA2;have BA2:Beh V2 X A2.W:=X2.beh RD eA21 eA22;obtain⟨g1,g2⟩:=C1.two BD BA BE;obtain⟨g3,g4⟩:=BD.swp hX hY C2 BE BA2;have s69:=s7.trans (s8.trans s9);have WX:=s6.trans s69;have nE:∀{d e:Addr} {o:HO},G8 d=some o->G8 e=none->d≠e:=λh1 h2=>d9 h1 h2;symm;refine j5 (SqL.of (s9 _ _ (s8 _ _ f7))) (k7 (j:=0) rfl) ?_;symm;refine⟨A,E,rfl,wA.mono WX.le,wE,g1,g2,nE1,nE2,nE ((s6.trans (s7.trans s8)) _ _ pA) npE,nE ((s6.trans (s7.trans s8)) _ _ qA) nqE,?_⟩;symm;refine j5 (SqL.of (s9 _ _ (s8 _ _ f7))) (k7 (j:=1) rfl) ?_;symm;refine⟨A2,E,rfl,wA2.mono s69.le,wE,g3.symm,g4.symm,nE1,nE2,nE ((s7.trans s8) _ _ pA2) npE,nE ((s7.trans s8) _ _ qA2) nqE,?_⟩;symm;walk_at "X";exact⟨sg rfl,XX.trans (s8.trans s9)⟩
  .rintro σ G ⟨⟨u,rfl⟩,sG⟩;refine⟨Ke _,?_⟩;symm;exact k _
end
def all_mk {l:PySem.W.OpenLaw}{w:World}{K:Qc}{h:Heap}{mg:Str->Option Value}{fa f0 f1 f2 f3 f4 f5 f6 f7 f8 f9 Sm TX Wv UD f14 ZI f16 f17 f18 f19 f20 f21 f22 f23 f24 f25 f26 f27 f28 f29 f30 f31 f32 f33 f34 f35 f36 f37 f38 f39 f40 f41 f42 f43 f44 f45 f46 f47 f48 f49 f50 f51 f52 f53 f54 f55 f56 f57 f58:Addr}{t_MOST_NAME_SIGNS t_NAME_SIGNS t_SMALL_LETTERS:Tok}{C_Barred C_GlueError C_Loose C_NoMatch C_NoNames:Addr}{cd_GlueError:ClassData}(X:K.In h)(G:h.Ns mainGlobals mg)(YF:mg "law"=some (.ref fa))
  (a0:FnIn K "is_text_of" bW f0)
  (a1:FnIn K "is_name" iA f1)
  (a2:FnIn K "in_order" eT f2)
  (a3:FnIn K "copied" lR f3)
  (a4:FnIn K "things" ku f4)
  (a5:FnIn K "without" iB f5)
  (a6:FnIn K "united" kH f6)
  (a7:FnIn K "tie_renamed" bB f7)
  (a8:FnIn K "renamed" iu f8)
  (a9:FnIn K "is_match" fF f9)
  (a10:FnIn K "line" tJ Sm)
  (a11:FnIn K "first_match" bE TX)
  (a12:FnIn K "first_found" bj Wv)
  (a13:FnIn K "found" oX UD)
  (a14:FnIn K "may_be" kY f14)
  (a15:FnIn K "point_choices" au ZI)
  (a16:FnIn K "tie_places" bZ f16)
  (a17:FnIn K "enough" kK f17)
  (a18:FnIn K "lines" pU f18)
  (a19:FnIn K "images" kG f19)
  (a20:FnIn K "tie_choices" bC f20)
  (a21:FnIn K "has_room" fc f21)
  (a22:FnIn K "both" sW f22)
  (a23:FnIn K "alone" qe f23)
  (a24:FnIn K "kept" uA f24)
  (a25:FnIn K "taken" pv f25)
  (a26:FnIn K "fresh_of" fL f26)
  (a27:FnIn K "picked" kP f27)
  (a28:FnIn K "barred" lM f28)
  (a29:FnIn K "taken_out" dm f29)
  (a30:FnIn K "names_serve" bc f30)
  (a31:FnIn K "rest_of" ir f31)
  (a32:FnIn K "done" tq f32)
  (a33:FnIn K "behind" kW f33)
  (a34:FnIn K "common" ke f34)
  (a35:FnIn K "clash" pY f35)
  (a36:FnIn K "_law_cell_at" aJ f36)
  (a37:FnIn K "_law_mixed" cv f37)
  (a38:FnIn K "_law_stream" bo f38)
  (a39:FnIn K "_law_name" dB f39)
  (a40:FnIn K "_law_words" cy f40)
  (a41:FnIn K "_law_web" fh f41)
  (a42:FnIn K "_law_picked" bu f42)
  (a43:FnIn K "_law_out" fi f43)
  (a44:FnIn K "_law_rule" dJ f44)
  (a45:FnIn K "_law_step" cN f45)
  (a46:FnIn K "_law_done" dG f46)
  (a47:FnIn K "_law_copy" cM f47)
  (a48:FnIn K "_law_same" cU f48)
  (a49:FnIn K "_law_bar" fj f49)
  (a50:FnIn K "_law_more" cW f50)
  (a51:FnIn K "_law_all" fH f51)
  (a52:FnIn K "_law_met" fq f52)
  (a53:FnIn K "_law_bars" df f53)
  (a54:FnIn K "_law_drawn" bU f54)
  (a55:FnIn K "_law_set" eX f55)
  (a56:FnIn K "_law_two" fD f56)
  (a57:FnIn K "_law_both" dh f57)
  (a58:FnIn K "law" yj f58)
  (z_all:PySem.W.nsIn K mainGlobals "all"=some none)
  (z_any:PySem.W.nsIn K mainGlobals "any"=some none)
  (z_dict:PySem.W.nsIn K mainGlobals "dict"=some none)
  (z_enumerate:PySem.W.nsIn K mainGlobals "enumerate"=some none)
  (z_int:PySem.W.nsIn K mainGlobals "int"=some none)
  (z_isinstance:PySem.W.nsIn K mainGlobals "isinstance"=some none)
  (z_len:PySem.W.nsIn K mainGlobals "len"=some none)
  (z_list:PySem.W.nsIn K mainGlobals "list"=some none)
  (z_max:PySem.W.nsIn K mainGlobals "max"=some none)
  (z_min:PySem.W.nsIn K mainGlobals "min"=some none)
  (z_range:PySem.W.nsIn K mainGlobals "range"=some none)
  (z_reversed:PySem.W.nsIn K mainGlobals "reversed"=some none)
  (z_set:PySem.W.nsIn K mainGlobals "set"=some none)
  (z_sorted:PySem.W.nsIn K mainGlobals "sorted"=some none)
  (z_str:PySem.W.nsIn K mainGlobals "str"=some none)
  (z_tuple:PySem.W.nsIn K mainGlobals "tuple"=some none)
  (z_zip:PySem.W.nsIn K mainGlobals "zip"=some none)
  (v_MOST_NAME_SIGNS:PySem.W.nsIn K mainGlobals "MOST_NAME_SIGNS"=some (some (.int 24 t_MOST_NAME_SIGNS)))
  (v_NAME_SIGNS:PySem.W.nsIn K mainGlobals "NAME_SIGNS"=some (some (.str gY t_NAME_SIGNS)))
  (v_SMALL_LETTERS:PySem.W.nsIn K mainGlobals "SMALL_LETTERS"=some (some (.str cz t_SMALL_LETTERS)))
  (n_Barred:PySem.W.nsIn K mainGlobals "Barred"=some (some (.ref C_Barred)))
  (n_GlueError:PySem.W.nsIn K mainGlobals "GlueError"=some (some (.ref C_GlueError)))
  (n_Loose:PySem.W.nsIn K mainGlobals "Loose"=some (some (.ref C_Loose)))
  (n_NoMatch:PySem.W.nsIn K mainGlobals "NoMatch"=some (some (.ref C_NoMatch)))
  (n_NoNames:PySem.W.nsIn K mainGlobals "NoNames"=some (some (.ref C_NoNames)))
  (xr_Barred:PySem.W.excIn K C_Barred FH "ValueError.__new__"=true)
  (xr_Loose:PySem.W.excIn K C_Loose FH "ValueError.__new__"=true)
  (xr_NoMatch:PySem.W.excIn K C_NoMatch FH "ValueError.__new__"=true)
  (xr_NoNames:PySem.W.excIn K C_NoNames FH "ValueError.__new__"=true)
  (xt_GlueError:PySem.W.typeIn K (.ref C_GlueError)=some (.type "type"))
  (xb_GlueError:PySem.W.subIn K (.ref C_GlueError) (.type "BaseException")=some true)
  (xc_GlueError:PySem.W.clsIn K C_GlueError=some cd_GlueError)
  (xs_Barred_GlueError:PySem.W.subIn K (.ref C_Barred) (.ref C_GlueError)=some true)
  (xs_Loose_GlueError:PySem.W.subIn K (.ref C_Loose) (.ref C_GlueError)=some true)
  (xs_NoMatch_GlueError:PySem.W.subIn K (.ref C_NoMatch) (.ref C_GlueError)=some true)
  (xs_NoNames_GlueError:PySem.W.subIn K (.ref C_NoNames) (.ref C_GlueError)=some true)
  :
  ∃fd:FuncData,(∀(s:Shared) (v:Value),BindsTo s fd ⟨[v],[]⟩ [("_law_script",v)])/\∀base:Heap,K.In base->base.Ns mainGlobals mg->C5 l.prog w K mg base F0 13 fa fd ["_law_script"] (qb K):=by
 have ec_Barred:cA K "Barred"=C_Barred:=by unfold cA;rw[n_Barred]
 have ec_GlueError:cA K "GlueError"=C_GlueError:=by unfold cA;rw[n_GlueError]
 have ec_Loose:cA K "Loose"=C_Loose:=by unfold cA;rw[n_Loose]
 have ec_NoMatch:cA K "NoMatch"=C_NoMatch:=by unfold cA;rw[n_NoMatch]
 have ec_NoNames:cA K "NoNames"=C_NoNames:=by unfold cA;rw[n_NoNames]
 have T:Txt K mg:=⟨by rw[ec_Barred];exact⟨Mo X G n_Barred,xr_Barred⟩,by rw[ec_Loose];exact⟨Mo X G n_Loose,xr_Loose⟩,by rw[ec_NoMatch];exact⟨Mo X G n_NoMatch,xr_NoMatch⟩,by rw[ec_NoNames];exact⟨Mo X G n_NoNames,xr_NoNames⟩,by rw[ec_GlueError];exact⟨Mo X G n_GlueError,xt_GlueError,xb_GlueError,by rw[xc_GlueError];rfl⟩,by rw[ec_Barred,ec_GlueError];exact xs_Barred_GlueError,by rw[ec_Loose,ec_GlueError];exact xs_Loose_GlueError,by rw[ec_NoMatch,ec_GlueError];exact xs_NoMatch_GlueError,by rw[ec_NoNames,ec_GlueError];exact xs_NoNames_GlueError,Lo X G z_all,Lo X G z_any,Lo X G z_dict,Lo X G z_enumerate,Lo X G z_int,Lo X G z_isinstance,Lo X G z_len,Lo X G z_list,Lo X G z_max,Lo X G z_min,Lo X G z_range,Lo X G z_reversed,Lo X G z_set,Lo X G z_sorted,Lo X G z_str,Lo X G z_tuple,Lo X G z_zip,⟨_,Mo X G v_MOST_NAME_SIGNS,_,rfl⟩,⟨_,Mo X G v_NAME_SIGNS,_,rfl⟩,⟨_,Mo X G v_SMALL_LETTERS,_,rfl⟩⟩
 refine Fw X G YF a58 (fun{base f fd} F=>?_) λ_ _ _ _ _ _ s v=> .of_eq rfl
 have cu:gk l.prog w K mg base:=u6 X G a0 (λF=>mz T F) (by walk_at "b")
 have bY:kM l.prog w K mg base:=u6 X G a2 (λF=>qR T F) (by walk_at "b")
 have C0:V5 l.prog w K mg base:=u6 X G a4 (λF=>wU T F) (by walk_at "b")
 have F5:Z3 l.prog w K mg base:=u6 X G a7 (λF=>lK T F) (by walk_at "b")
 have bH:lD l.prog w K mg base:=u6 X G a14 (λF=>xg T F) (by walk_at "b")
 have bL:lI l.prog w K mg base:=u6 X G a17 (λF=>xb T F) (by walk_at "b")
 have dO:ql l.prog w K mg base:=u6 X G a27 (λF=>wu T F) (by walk_at "b")
 have gH:qF l.prog w K mg base:=u6 X G a34 (λF=>xF T F) (by walk_at "b")
 have C8:V7 l.prog w K mg base:=u6 X G a36 (λF=>jJ T F) (by walk_at "b")
 have F7:aD l.prog w K mg base:=u6 X G a37 (λF=>mH T F) (by walk_at "b")
 have bg:eu l.prog w K mg base:=u6 X G a38 (λF=>kS T F) (by walk_at "b")
 have Q3:dg l.prog w K mg base:=u6 X G a39 (λF=>pX T F) (by walk_at "b")
 have Q7:cm l.prog w K mg base:=u6 X G a40 (λF=>mD T F) (by walk_at "b")
 have bx:eG l.prog w K mg base:=u6 X G a42 (λF=>kO T F) (by walk_at "b")
 have fO:lJ l.prog w K mg base:=u6 X G a43 (λF=>qo T F) (by walk_at "b")
 have aX:jg l.prog w K mg base:=u6 X G a46 (λF=>oV T F) (by walk_at "b")
 have P6:dD l.prog w K mg base:=u6 X G a47 (λF=>oT T F) (by walk_at "b")
 have aZ:jh l.prog w K mg base:=u6 X G a48 (λF=>pT T F) (by walk_at "b")
 have eQ:kj l.prog w K mg base:=u6 X G a49 (λF=>qJ T F) (by walk_at "b")
 have aW:jw l.prog w K mg base:=u6 X G a50 (λF=>qd T F) (by walk_at "b")
 have iE:nC l.prog w K mg base:=u6 X G a1 (λF=>sV T cu F) (by walk_at "b")
 have W5:fR l.prog w K mg base:=u6 X G a3 (λF=>wM T bY F) (by walk_at "b")
 have tZ:Au l.prog w K mg base:=u6 X G a10 (λF=>Co T C0 F) (by walk_at "b")
 have ao:cF l.prog w K mg base:=u6 X G a15 (λF=>iG T bH F) (by walk_at "b")
 have cg:gr l.prog w K mg base:=u6 X G a16 (λF=>mF T bH F) (by walk_at "b")
 have O5:bz l.prog w K mg base:=u6 X G a20 (λF=>mj T F5 F) (by walk_at "b")
 have tu:yt l.prog w K mg base:=u6 X G a22 (λF=>Ce T C0 F) (by walk_at "b")
 have dZ:oB l.prog w K mg base:=u6 X G a23 (λF=>zN T C0 F) (by walk_at "b")
 have fG:kI l.prog w K mg base:=u6 X G a41 (λF=>su T F7 C8 Q3 F) (by walk_at "b")
 have dn:jm l.prog w K mg base:=u6 X G a44 (λF=>oC T bx fO F) (by walk_at "b")
 have fk:lA l.prog w K mg base:=u6 X G a51 (λF=>rA T aW F) (by walk_at "b")
 have di:je l.prog w K mg base:=u6 X G a53 (λF=>oE T eQ F) (by walk_at "b")
 have iL:mR l.prog w K mg base:=u6 X G a5 (λF=>tO T W5 F) (by walk_at "b")
 have lU:qm l.prog w K mg base:=u6 X G a6 (λF=>xK T W5 F) (by walk_at "b")
 have iz:mX l.prog w K mg base:=u6 X G a8 (λF=>uC T F5 W5 F) (by walk_at "b")
 have fI:mr l.prog w K mg base:=u6 X G a9 (λF=>rK T C0 tZ F5 F) (by walk_at "b")
 have eV:ky l.prog w K mg base:=u6 X G a21 (λF=>qx T bL O5 F) (by walk_at "b")
 have tN:yE l.prog w K mg base:=u6 X G a24 (λF=>Bj T tu F) (by walk_at "b")
 have oI:vG l.prog w K mg base:=u6 X G a25 (λF=>yy T dZ F) (by walk_at "b")
 have Y0:ff l.prog w K mg base:=u6 X G a26 (λF=>qN T dZ F) (by walk_at "b")
 have du:ja l.prog w K mg base:=u6 X G a45 (λF=>pM T dn F) (by walk_at "b")
 have eU:jX l.prog w K mg base:=u6 X G a52 (λF=>sC T fk F) (by walk_at "b")
 have eZ:kD l.prog w K mg base:=u6 X G a55 (λF=>rL T F7 C8 Q7 fG F) (by walk_at "b")
 have ki:qv l.prog w K mg base:=u6 X G a19 (λF=>xJ T C0 O5 eV F) (by walk_at "b")
 have Q4:cT l.prog w K mg base:=u6 X G a29 (λF=>oO T oI F) (by walk_at "b")
 have bA:eO l.prog w K mg base:=u6 X G a30 (λF=>kF T Y0 iE F) (by walk_at "b")
 have lh:rC l.prog w K mg base:=u6 X G a33 (λF=>wZ T dO tN Y0 C0 F) (by walk_at "b")
 have aA:gK l.prog w K mg base:=u6 X G a54 (λF=>mE T bg Q7 Q3 du eU di F) (by walk_at "b")
 have oW:uP l.prog w K mg base:=u6 X G a18 (λF=>yn T C0 ki F) (by walk_at "b")
 have fm:lQ l.prog w K mg base:=u6 X G a56 (λF=>rR T C8 F7 aA P6 F) (by walk_at "b")
 have pd:vg l.prog w K mg base:=u6 X G a13 (λF=>Am T ao bL cg C0 oW F) (by walk_at "b")
 have br:eN l.prog w K mg base:=u6 X G a12 (λF=>mi T pd F) (by walk_at "b")
 have bw:eE l.prog w K mg base:=u6 X G a11 (λF=>lC T br F) (by walk_at "b")
 have aG:kU l.prog w K mg base:=u6 X G a28 (λF=>wj T bw F) (by walk_at "b")
 have iy:nO l.prog w K mg base:=u6 X G a31 (λF=>sX T fI iL Q4 aG F) (by walk_at "b")
 have cY:tG l.prog w K mg base:=u6 X G a32 (λF=>AN T iy bA lU iz lh F) (by walk_at "b")
 have oM:vx l.prog w K mg base:=u6 X G a35 (λF=>yp T cY gH Q4 aG F) (by walk_at "b")
 have aY:iU l.prog w K mg base:=u6 X G a57 (λF=>pS T cY F) (by walk_at "b")
 exact EW T eZ fm oM P6 aY aX aZ F
def walk {l:PySem.W.OpenLaw}{q:Program}{loose:List Str}{XP:(Str->Option Value)->Heap->Prop}{YP:World->Heap->Prop}{d:DefRec}{K:Params->Qc}(hn:l.most=some 63)(VG:d.params.defaults=[])
  (hY:∀(w:World) (h:Heap),YP w h->(K w.params).In h)
  (F:∀(w:World) (mg:Str->Option Value) (fa:Addr) (h:Heap),(K w.params).In h->h.Ns mainGlobals mg->mg d.name=some (.ref fa)->
   ∃fd:FuncData,(∀(s:Shared) (u:Value),BindsTo s fd ⟨[u],[]⟩ [("_law_script",u)])/\∀base:Heap,(K w.params).In base->base.Ns mainGlobals mg->C5 l.prog w (K w.params) mg base F0 13 fa fd ["_law_script"] (qb (K w.params))):
  PySem.W.WalkO q loose XP YP l.row.toRowW d [] (λf vs=>PySem.call f vs):=
 L2.walk_of (n:=63) (k:=13) (x:="_law_script") (CX:=λ_=>F0) (sp:=λw=>qb (K w.params)) hn (by decide) VG ⟨rfl,by decide,by decide⟩ hY F (λ_ _ a ns hl _ hS=>⟨a,ns,rfl,hS,hl,λ_=>rfl⟩) λ_ _ _ _ _ z=>z
end K34
namespace PySem.W.Fast
def tw456122218032983622:=Nat
def tw6800587498818716537:=Nat
def tw2880883587328687156:=Nat
def tw17235828597657277629:=Nat
def tw5683859732265510638:=Nat
def tw14526410386376281333:=Nat
def tw12410102131968215364:=Nat
def tw10097394353736240186:=Nat
def tw14628407322846133002:=Nat
def tw10526252484485167181:=Nat
def tw15064017901556135928:=Nat
def tw9015429815080625918:=Nat
def tw14755845141130274911:=Nat
def tw16124525454504608386:=Nat
def tw6697685381564026163:=Nat
def tw15478708379075212946:=Nat
def tw7097532753950679277:=Nat
def tw2757601906106115074:=Nat
def tw5782144970763994352:=Nat
def tw2135569420866586556:=Nat
def tw1482930644246909783:=Nat
def tw440008954387218503:=Nat
def tw9864118319180255383:=Nat
def tw14274724396324814287:=Nat
def tw4875479483227519193:=Nat
def tw16669360605508502010:=Nat
def tw1434890086566350844:=Nat
def tw2474834239996917021:=Nat
def tw5073142167532266409:=Nat
def tw1446491480406090799:=Nat
def tw17619139104782226144:=Nat
def tw17364330275415980580:=Nat
def tw17870056232930039253:=Nat
def tw14781649466603161685:=Nat
def tw18076570499196348992:=Nat
def tw4689452189778679919:=Nat
def tw13803038671801287512:=Nat
def tw5107821738087369012:=Nat
def tw5563788072561695195:=Nat
def tw10839615498755886802:=Nat
def tw15847530792049211219:=Nat
def tw9138969779297788266:=Nat
def tw16612692574485198909:=Nat
def tw5341509656300416437:=Nat
def tw8878550543113510884:=Nat
def tw10211981330155030186:=Nat
def tw15421578304307483745:=Nat
def tw18162142250574904145:=Nat
def tw9895610288948092621:=Nat
def tw16101412285946254861:=Nat
def tw11068242594389218584:=Nat
def tw2759456710282327146:=Nat
def tw15831552838072020671:=Nat
def tw13877982971420376092:=Nat
def tw15062997017740143147:=Nat
def tw18332721052474173862:=Nat
def tw16068692356089172851:=Nat
def tw1548827664323160880:=Nat
def tw12730176049182071532:=Nat
def tw7447537512422041958:=Nat
def tw16558301653869521446:=Nat
def tw6738481306458480539:=Nat
def tw8670668885518501680:=Nat
def tw1024400335295682523:=Nat
def tw15070369891922875741:=Nat
def tw3576069578430979755:=Nat
def tw16582967416989967219:=Nat
def tw887116932200677200:=Nat
def tw8513847095406460210:=Nat
def tw9691787246671244858:=Nat
def tw8074627621514909391:=Nat
def tw135634660529981066:=Nat
def tw12145200513094066085:=Nat
def tw13106519129049157575:=Nat
def tw18223596874014849565:=Nat
def tw13590760896710714668:=Nat
def tw17205756520051559900:=Nat
def tw6046994311506846809:=Nat
def tw8923611480099499090:=Nat
def tw8518974359330113124:=Nat
def tw10094337485394146333:=Nat
def tw2647140504169287595:=Nat
def tw15904571164890788405:=Nat
def tw3369926549404175725:=Nat
def tw8586637635655668778:=Nat
def tw12770305692475595569:=Nat
def tw508692575502149968:=Nat
def tw4428382025281943956:=Nat
def tw4668787800349485754:=Nat
def tw6202100873858224393:=Nat
def tw554671648089280107:=Nat
def tw11732813164537959161:=Nat
def tw454704635221772556:=Nat
def tw2107789141018084432:=Nat
def tw2421741793277124101:=Nat
def tw60728245309168441:=Nat
def tw8685444232130450152:=Nat
def tw16106674222975997964:=Nat
def tw16895949954987981569:=Nat
def tw10638014628866101686:=Nat
def tw6138502025336050739:=Nat
def tw9701051884114205889:=Nat
def tw12359639564195600938:=Nat
def tw15780671426514206273:=Nat
def tw15263727866972858303:=Nat
def tw3443630009535197182:=Nat
def tw1994207263345062004:=Nat
def tw4939094312321261757:=Nat
def tw10054568131192452627:=Nat
def tw7512996173264385450:=Nat
def tw9694273925634194343:=Nat
def tw15247402141535795568:=Nat
def tw216747651304853612:=Nat
def tw13774319351586716302:=Nat
def tw795674619829084643:=Nat
def tw1714526794241018031:=Nat
def tw6761581168883309909:=Nat
def tw463546927002373574:=Nat
def tw1226576020833109262:=Nat
def tw5778069533034353159:=Nat
def tw5245808372369941351:=Nat
def tw10397309799977842633:=Nat
def tw7735913423715880861:=Nat
def tw9765053626443510811:=Nat
def tw17601368393089871821:=Nat
def tw15935524449589517393:=Nat
def tw16712115228622103066:=Nat
def tw9582725749970216985:=Nat
def tw960633565370802797:=Nat
def tw11635083816443108855:=Nat
def tw882380716457791295:=Nat
def tw6827906824914405911:=Nat
def tw8414791273248398221:=Nat
def tw2282163593025313758:=Nat
def tw9245045231921296309:=Nat
def tw7295328693336878252:=Nat
def tw1557401424586034443:=Nat
def tw6793874158100945967:=Nat
def tw1794353994045022794:=Nat
def tw9897891705704141390:=Nat
def tw4289859776082636324:=Nat
def tw8020980241691378638:=Nat
def tw15443767780909869498:=Nat
def tw3322030189406457329:=Nat
def tw9407329246631165013:=Nat
def tw6521685151135258379:=Nat
def tw15989940835665694820:=Nat
def tw17115144258395215621:=Nat
def tw13267287311392376095:=Nat
def tw6985981397356856854:=Nat
def tw12645325026917085802:=Nat
def tw11631862482857884876:=Nat
def tw13997653082295986341:=Nat
def tw2200122827026279783:=Nat
def tw4692213220125568117:=Nat
def tw14526311826350713481:=Nat
def tw1039046686669940833:=Nat
def tw15788220906732611224:=Nat
def tw11369764577351317010:=Nat
def tw16300045494175565340:=Nat
def tw7040744028134730569:=Nat
def tw1870753147688813841:=Nat
def tw6770006885355001642:=Nat
def tw5994497137881744141:=Nat
def tw5834897078764853482:=Nat
def tw12695985328083145293:=Nat
def tw11454005873988043045:=Nat
def tw16010405005624733551:=Nat
def tw9257840770762237624:=Nat
def tw12955756701535946406:=Nat
def tw15874194658303649961:=Nat
def tw14528665148831323816:=Nat
def tw6850699193812923200:=Nat
def tw14324611932858650772:=Nat
def tw12517937155516692100:=Nat
def tw5124826762807052922:=Nat
def tw11529571327176741801:=Nat
def tw16973067997574963469:=Nat
def tw7183528618171502192:=Nat
def tw9207653223204931427:=Nat
def tw6503414036233743570:=Nat
def tw18284685384274514308:=Nat
def tw1270702330758322832:=Nat
def tw5353793001232189767:=Nat
def tw15801684360136825417:=Nat
end PySem.W.Fast
open PySem PySem.W PyProof.Rows
local macro_rules| `(tactic|walk_at "F")=> `(tactic|(refine' L2.FnIn.mk' ?a ?l ?c ?k;(case a=>k_is);(case l=>k_is);(case c=>k_is);(case k=>k_is)))
set_option maxRecDepth 100000 in
set_option maxHeartbeats 0 in
theorem PySem.Challenge.cw_gluework_k34_whole_apart_holds : PySem.Challenge.rw_gluework_k34_whole_apart.Holds := by
 w_on;o_law;k_head;(case hw=>w_witness2);k_fill;refine K34.walk (l:=PySem.Challenge.rw_gluework_k34_whole_apart) rfl rfl (λw h Y=>PySem.W.kIn_of Y) ?F;case F=>
  intro w mg fa h KX G hmg
  refine' K34.all_mk KX G hmg ?a0 ?a1 ?a2 ?a3 ?a4 ?a5 ?a6 ?a7 ?a8 ?a9 ?a10 ?a11 ?a12 ?a13 ?a14 ?a15 ?a16 ?a17 ?a18 ?a19 ?a20 ?a21 ?a22 ?a23 ?a24 ?a25 ?a26 ?a27 ?a28 ?a29 ?a30 ?a31 ?a32 ?a33 ?a34 ?a35 ?a36 ?a37 ?a38 ?a39 ?a40 ?a41 ?a42 ?a43 ?a44 ?a45 ?a46 ?a47 ?a48 ?a49 ?a50 ?a51 ?a52 ?a53 ?a54 ?a55 ?a56 ?a57 ?a58 ?z_all ?z_any ?z_dict ?z_enumerate ?z_int ?z_isinstance ?z_len ?z_list ?z_max ?z_min ?z_range ?z_reversed ?z_set ?z_sorted ?z_str ?z_tuple ?z_zip ?v_MOST_NAME_SIGNS ?v_NAME_SIGNS ?v_SMALL_LETTERS ?n_Barred ?n_GlueError ?n_Loose ?n_NoMatch ?n_NoNames ?xr_Barred ?xr_Loose ?xr_NoMatch ?xr_NoNames ?xt_GlueError ?xb_GlueError ?xc_GlueError ?xs_Barred_GlueError ?xs_Loose_GlueError ?xs_NoMatch_GlueError ?xs_NoNames_GlueError
  (case a0=>walk_at "F")
  (case a1=>walk_at "F")
  (case a2=>walk_at "F")
  (case a3=>walk_at "F")
  (case a4=>walk_at "F")
  (case a5=>walk_at "F")
  (case a6=>walk_at "F")
  (case a7=>walk_at "F")
  (case a8=>walk_at "F")
  (case a9=>walk_at "F")
  (case a10=>walk_at "F")
  (case a11=>walk_at "F")
  (case a12=>walk_at "F")
  (case a13=>walk_at "F")
  (case a14=>walk_at "F")
  (case a15=>walk_at "F")
  (case a16=>walk_at "F")
  (case a17=>walk_at "F")
  (case a18=>walk_at "F")
  (case a19=>walk_at "F")
  (case a20=>walk_at "F")
  (case a21=>walk_at "F")
  (case a22=>walk_at "F")
  (case a23=>walk_at "F")
  (case a24=>walk_at "F")
  (case a25=>walk_at "F")
  (case a26=>walk_at "F")
  (case a27=>walk_at "F")
  (case a28=>walk_at "F")
  (case a29=>walk_at "F")
  (case a30=>walk_at "F")
  (case a31=>walk_at "F")
  (case a32=>walk_at "F")
  (case a33=>walk_at "F")
  (case a34=>walk_at "F")
  (case a35=>walk_at "F")
  (case a36=>walk_at "F")
  (case a37=>walk_at "F")
  (case a38=>walk_at "F")
  (case a39=>walk_at "F")
  (case a40=>walk_at "F")
  (case a41=>walk_at "F")
  (case a42=>walk_at "F")
  (case a43=>walk_at "F")
  (case a44=>walk_at "F")
  (case a45=>walk_at "F")
  (case a46=>walk_at "F")
  (case a47=>walk_at "F")
  (case a48=>walk_at "F")
  (case a49=>walk_at "F")
  (case a50=>walk_at "F")
  (case a51=>walk_at "F")
  (case a52=>walk_at "F")
  (case a53=>walk_at "F")
  (case a54=>walk_at "F")
  (case a55=>walk_at "F")
  (case a56=>walk_at "F")
  (case a57=>walk_at "F")
  (case a58=>walk_at "F")
  (case z_all|z_any|z_dict|z_enumerate|z_int|z_isinstance|z_len|z_list|z_max|z_min|z_range|z_reversed|z_set|z_sorted|z_str|z_tuple|z_zip|v_MOST_NAME_SIGNS|v_NAME_SIGNS|v_SMALL_LETTERS|n_Barred|n_GlueError|n_Loose|n_NoMatch|n_NoNames=>k_is)
  (case xr_Barred=>k_exc)
  (case xr_Loose=>k_exc)
  (case xr_NoMatch=>k_exc)
  (case xr_NoNames=>k_exc)
  (case xt_GlueError|xb_GlueError|xc_GlueError|xs_Barred_GlueError|xs_Loose_GlueError|xs_NoMatch_GlueError|xs_NoNames_GlueError=>k_is)
