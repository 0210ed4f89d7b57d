import PyProof.Rows.All
import Wide.All
import OpenK.AllK
import Wide.FinOn
import PyProof.EqAt
import PyProof.EqKinds
import PyProof.TupleCall
import PyProof.NeKinds
import PyProof.AttrMissHeap
import PyProof.ExcClass3
import PyProof.RulesAs
import PyProof.Rows.FStr
import OpenK.KOwn
import PyProof.NsDelKeeps
import PyProof.Rows.Catch
import PyProof.Rows.SetFrom
import PyProof.SetRoads
import PyProof.FactsAll.NoneType
import KE.KRevIter
import PyProof.ZipIter
import KE.KItemsList
import PyProof.MinMaxWalk
import PyProof.WalksMore
import PyProof.FString5
import PyProof.Rows.SortShellK
import KE.KIsAll
import PyProof.ExcArgsOwn
import PySem.Challenge.RW_gluework_k31_rows_gone_through
abbrev Qd:=PySem.W.Frag
abbrev KW:=@List.length_map
abbrev KY:=@List.getElem?_eq_getElem
abbrev KZ:=@List.mem_map
abbrev La:=@Nat.le_refl
abbrev Lb:=@List.mem_append_left
abbrev Lc:=@List.getElem?_map
abbrev Ld:=@List.mem_append
abbrev Lf:=@List.mem_append_right
abbrev Lg:=@List.length_append
abbrev Lh:=@List.map_append
abbrev Li:=@List.mem_singleton
abbrev Lj:=@PySem.wpAny_bind
abbrev Lk:=@PySem.Heap.get?_push_of_some
abbrev Ll:=@List.take_of_length_le
abbrev Lm:=@List.length_filter_le
abbrev Ln:=@List.mem_of_getElem?
abbrev Lo:=@List.mem_filter
abbrev Lp:=@List.length_take
abbrev Lq:=@List.length_singleton
abbrev Ls:=@List.nodup_append
abbrev Lu:=@PySem.Heap.lt_size
abbrev Lv:=@Nat.lt_of_lt_of_le
abbrev Lw:=@PySem.wpAny_pure
abbrev Lx:=@List.mem_cons_self
abbrev Ly:=@Option.some.inj
abbrev Lz:=@Nat.ne_of_lt
abbrev LA:=@decide_eq_true
abbrev LB:=@Option.map_eq_some_iff
abbrev LC:=@PySem.Heap.get?_push_size
abbrev LD:=@List.mem_cons_of_mem
abbrev LF:=@List.take_succ
abbrev LG:=@List.size_toArray
abbrev LH:=@List.getElem_mem
abbrev LJ:=@Nat.le_trans
abbrev LK:=@decide_eq_true_eq
abbrev LL:=@List.getD_eq_getElem?_getD
abbrev LM:=@decide_eq_false
abbrev LN:=@Bool.and_eq_true
abbrev LO:=@List.filter_append
abbrev LP:=@PySem.Paired.length
abbrev LQ:=@decide_eq_false_iff_not
abbrev LS:=@List.getElem?_append_left
abbrev LU:=@List.all_eq_true
abbrev LV:=@List.filter_cons_of_pos
abbrev LW:=@PySem.PassesOwn.never
abbrev LY:=@List.map_map
abbrev LZ:=@List.mem_cons
abbrev Ma:=@Bool.false_ne_true
abbrev Mb:=@PySem.F.plainAttrs_list
abbrev Mc:=@Int.emod_lt_of_pos
abbrev Md:=@List.filter_cons_of_neg
abbrev Me:=@PySem.F.slot_list_append
abbrev Mf:=@PySem.F.type_list_append
abbrev Mg:=@List.map_cons
abbrev Mh:=@Bool.eq_iff_iff
abbrev Mi:=@List.append_assoc
abbrev Mj:=@List.length_cons
abbrev Ml:=@PySem.W.mg_none_of
abbrev Mm:=@Bool.not_eq_true'
abbrev Mn:=@List.append_nil
abbrev Mo:=@Int.emod_nonneg
abbrev Mp:=@List.filter_sublist
abbrev Mq:=@List.getElem?_eq_some_iff
abbrev Mr:=@PySem.F.plainAttrs_dict
abbrev Ms:=@List.getElem?_append_right
abbrev Mt:=@List.nodup_cons
abbrev Mu:=@List.filter_nil
abbrev Mv:=@PySem.wpAny_holding
abbrev Mw:=@Nat.lt_succ_self
abbrev My:=@Nat.zero_le
abbrev Mz:=@List.nodup_nil
abbrev MA:=@List.take_sublist
abbrev MB:=@of_decide_eq_true
abbrev MC:=@List.eq_nil_of_length_eq_zero
abbrev MD:=@List.getElem?_eq_none
abbrev ME:=@List.drop_eq_getElem_cons
abbrev MF:=@List.map_congr_left
abbrev MG:=@congrArg
abbrev MH:=@PySem.Around.under_plainId
abbrev MI:=@List.length_replicate
abbrev MJ:=@Classical.byContradiction
abbrev MK:=@PyProof.Rows.callWith_type1
abbrev ML:=@PySem.call_meetsIn
abbrev MM:=@PySem.wpAny_richCompare_same_room
abbrev MN:=@PySem.codeAny_builtin
abbrev MQ:=@Nat.lt_irrefl
abbrev MR:=@PySem.W.mg_of
abbrev MS:=@List.getElem?_set_ne
abbrev MT:=@List.getElem?_of_mem
abbrev MU:=@List.any_eq_true
abbrev MV:=@List.lookup_cons
abbrev MW:=@List.length_range
abbrev MX:=@Sum.inr.inj
abbrev MY:=@Ne.symm
abbrev MZ:=@PySem.Calls.callWith_builtin
abbrev Na:=@PySem.wpAny_truthy_bool
abbrev Nb:=@List.mem_range
abbrev Nc:=@PySem.F.slot_dict_get
abbrev Nd:=@PySem.tupleKind_room_in1
abbrev Nf:=@Nat.lt_of_le_of_lt
abbrev Ng:=@PySem.F.slot_dict_update
abbrev Nh:=@PySem.F.slot_dict_values
abbrev Ni:=@Prod.mk.inj
abbrev Nj:=@List.getElem?_replicate
abbrev Nk:=@List.all_map
abbrev Nl:=@List.getElem?_set_self
abbrev Nm:=@PySem.wpAny_Call_Name_kw
abbrev Nn:=@Nat.lt_or_ge
abbrev Np:=@PySem.plainId_quiet
abbrev Nq:=@PySem.wpAny_passesOwn
abbrev Nr:=@PyProof.Rows.slot_tuple_getitem
abbrev Nt:=@PySem.wpAny_newObj_type
abbrev Nu:=@PySem.W.kia_one
abbrev Nv:=@List.range_succ
abbrev Nw:=@List.flatMap_cons
abbrev Nx:=@PySem.F.type_dict_values
abbrev Ny:=@PySem.F.type_dict_update
abbrev Nz:=@List.map_nil
abbrev NA:=@PySem.mem_of_lookup
abbrev NB:=@List.all_cons
abbrev NC:=@beq_eq_false_iff_ne
abbrev ND:=@PySem.wpAny_getItem_str_slice
abbrev NF:=@Nat.le_succ
abbrev NG:=@List.cons_append
abbrev NH:=@List.filter_cons
abbrev NI:=@PySem.F.entry_dict_get
abbrev NJ:=@List.drop_of_length_le
abbrev NK:=@PySem.AutoSeq1.sub_list_list
abbrev NL:=@PySem.Calls.spliced_cons
abbrev NM:=@List.filter_filter
abbrev NN:=@PySem.wpAny_field
abbrev NO:=@Array.getElem?_toList
abbrev NP:=@List.find?_cons
abbrev NQ:=@PySem.Txt.slice_le
abbrev NR:=@List.foldl_cons
abbrev NS:=@PySem.F.called_set
abbrev NT:=@PySem.wpAny_pyIter_list
abbrev NU:=@List.Pairwise.map
abbrev NV:=@Bool.true_and
abbrev NW:=@List.filter_congr
abbrev NX:=@PySem.Calls.evalArgs_plain
abbrev NY:=@PySem.F.slot_list_eq
abbrev NZ:=@PySem.F.slot_list_ne
abbrev Oa:=@List.pairwise_iff_getElem
abbrev Ob:=@Option.getD_some
abbrev Oc:=@PySem.W.hideAll_get
abbrev Od:=@List.filterMap_cons
abbrev Oe:=@Array.length_toList
abbrev Of:=@List.filter_eq_self
abbrev Og:=@PySem.F.slot_list_getattribute
abbrev Oh:=@PySem.wpAny_execs_nil
abbrev Oi:=@List.mem_filterMap
abbrev Oj:=@PySem.wpAny_callSpecial?_slot
abbrev Ol:=@List.length_set
abbrev Om:=@PySem.wpAny_Call_method0_late
abbrev Oo:=@Option.map_some
abbrev Oq:=@List.length_nil
abbrev Ot:=@List.forIn_cons
abbrev Ou:=@Bool.false_eq_true
abbrev Ov:=@Bool.and_true
abbrev Ow:=@PyProof.Rows.F.plain_set_update_loop
abbrev Ox:=@PySem.F.slot_zip_getattribute
abbrev Oy:=@List.pairwise_cons
abbrev Oz:=@List.getElem?_take
abbrev OA:=@PySem.wpAny_pyNext_list_item
abbrev OB:=@List.range_succ_eq_map
abbrev OC:=@PySem.wpAny_nextOf_list_item
abbrev OD:=@List.filter_eq_nil_iff
abbrev OE:=@PySem.Calls.spliced_nil
abbrev OF:=@PySem.atKey_none_of_get
abbrev OG:=@List.drop_zero
abbrev OH:=@List.Perm.refl
abbrev OI:=@Nat.le_of_lt
abbrev OJ:=@PySem.wpAny_pyNext_list_end
abbrev OK:=@PySem.codeAny_mono
abbrev OL:=@Bool.beq_eq_decide_eq
abbrev OM:=@PySem.builtinLookup_eq_fast
abbrev ON:=@PySem.wpAny_notOrdered_dict
abbrev OO:=@Nat.le_of_sub_eq_zero
abbrev OP:=@PySem.wpAny_call_entry
abbrev OQ:=@List.drop_eq_nil_iff
abbrev OR:=@PySem.codeAny_call_builtin
abbrev OS:=@PySem.wpAny_mono
abbrev OT:=@PySem.SeqAt.EqAt.same
abbrev OU:=@PySem.evalArgs_none
abbrev OV:=@PySem.post_val_or_str
abbrev OW:=@PySem.F.slot_zip_next
abbrev OX:=@List.length_zip
abbrev OY:=@PySem.Heap.SameBut.update
abbrev OZ:=@PySem.Calls.Name_function_global
abbrev Pa:=@Int.fdiv_eq_ediv_of_nonneg
abbrev Pb:=@PySem.F.excAttr_ValueError
abbrev Pd:=@List.perm_ext_iff_of_nodup
abbrev Pe:=@PySem.W.of_hideAll
abbrev Pf:=@PySem.wpAny_typeOf
abbrev Pg:=@List.map_id'
abbrev Ph:=@PySem.wpAny_seqItems
abbrev Pj:=@List.forIn_nil
abbrev Pk:=@List.getElem?_zip_eq_some
abbrev Pl:=@List.lt_irrefl
abbrev Pm:=@Option.isSome_iff_exists
abbrev Pn:=@PySem.F.args_tuple_add_2
abbrev Po:=@Option.isSome_map
abbrev Pp:=@PySem.wpAny_comprehension_free
abbrev Pq:=@PySem.AutoSeq1.sub_tuple_tuple
abbrev Pr:=@PySem.SeqAt.RcAt.lists_lengths
abbrev Pt:=@PySem.sizeLine_eq
abbrev Pu:=@PySem.F.entry_tuple_add
abbrev Pw:=@if_true
abbrev Px:=@PySem.F.slot_dict_clear
abbrev Py:=@PySem.F.args_dict_get_2
abbrev Pz:=@PySem.F.args_dict_get_3
abbrev PD:=@PySem.MeetsSeq3.entry_eq_loop
abbrev PF:=@PySem.wpAny_attempt
abbrev PH:=@List.lt_asymm
abbrev PJ:=@List.sum_cons
abbrev PK:=@Nat.min_le_right
abbrev PN:=@List.length_drop
abbrev PQ:=@beq_self_eq_true
abbrev PU:=@List.mem_reverse
abbrev PX:=@List.countP_cons
abbrev PY:=@Nat.le_add_right
abbrev PZ:=@PySem.W.cellsFrom_some
abbrev Qc:=@PySem.F.slot_tuple_add
abbrev Qg:=@PySem.F.args_list_eq_2
abbrev Qi:=@PySem.F.args_list_ne_2
abbrev Qj:=@Nat.ne_of_gt
abbrev Qk:=@List.of_mem_zip
abbrev Qm:=@Nat.lt_trans
abbrev Qn:=@PySem.Heap.DictOf.new
abbrev Qp:=@PySem.F.type_dict_get
abbrev Qq:=@List.nil_append
abbrev Qr:=@Bool.or_eq_true
abbrev Qt:=@PySem.F.slot_tuple_eq
abbrev Qu:=@PySem.F.slot_tuple_ne
abbrev Qv:=@PySem.typeLookup_type
abbrev Qw:=@PySem.F.entry_list_eq
abbrev Qx:=@PySem.F.entry_list_ne
abbrev Qz:=@List.perm_append_comm
abbrev QB:=@Int.zero_add
abbrev QC:=@Nat.not_lt_zero
abbrev QD:=@PySem.wpAny_call
abbrev QF:=@if_false
abbrev QH:=@PySem.typeIs_str
abbrev QJ:=@PySem.call_meets
abbrev QQ:=@Bool.and_eq_true_iff
abbrev QR:=@Nat.mul_le_mul_right
abbrev QU:=@List.mem_of_mem_take
abbrev QV:=@List.replicate_succ'
abbrev QX:=@PySem.Heap.size_push
abbrev QY:=@List.tail_drop
abbrev QZ:=@List.getElem_of_mem
abbrev Rb:=@PySem.W.looks_subIn
abbrev Rc:=@List.reverse_append
abbrev Rf:=@Array.toList_append
abbrev Ri:=@Array.append_assoc
abbrev Rj:=@PySem.wpAny_standAt
abbrev Rk:=@PySem.W.callWith_K
abbrev Rl:=@List.any_cons
abbrev Rm:=@List.getElem?_drop
abbrev Rr:=@PySem.strLen_append
abbrev Rv:=@Array.forIn_toList
abbrev Rw:=@List.mem_replicate
abbrev Rx:=@List.map_replicate
abbrev Rz:=@Int.toNat_natCast
abbrev RD:=@beq_iff_eq
abbrev RH:=@List.any_eq_false
abbrev RK:=@Nat.lt_trichotomy
abbrev RN:=@PySem.wpAny_rule
abbrev RQ:=@List.getElem?_inj
abbrev RU:=@Nat.succ_pos
abbrev SF:=@Nat.add_mul
abbrev UR:=@Iff.rfl
set_option Elab.async false
set_option linter.all false
set_option maxRecDepth 100000
abbrev ZB:=List (List PySem.Str)
abbrev xz:=List (PySem.Str×PySem.Str)
abbrev xL:=List PySem.Str
abbrev XL:=List (PySem.Addr×PySem.Obj)
abbrev XV:=PySem.Value->PySem.Shared->Prop
abbrev jp:=List PySem.Value
abbrev ad:=Option PySem.Value
namespace L2
open PySem PySem.Spec PyProof.Rows
abbrev j0:=Sum Int Str
def jz:j0->Value->Bool
 | .inl k,v=>Value.isInt k v
 | .inr x,v=>Value.isStrOf x v
def JG (w:World):j0->Int
 | .inl k=>hashInt k
 | .inr x=>hashStr w x
theorem K1:∀{k:j0} {v:Value},jz k v=true->(∃i t,k=Sum.inl i/\v=Value.int i t)\/(∃x t,k=Sum.inr x/\v=Value.str x t)
 | .inl i,v,h=>by
  obtain⟨t,e⟩:=Value.isInt_shape (k:=i) (v:=v) h;exact .inl ⟨i,t,rfl,e⟩
 | .inr x,v,h=>by
  obtain⟨t,e⟩:=Value.isStrOf_shape (x:=x) (v:=v) h;exact .inr ⟨x,t,rfl,e⟩
def wM (i:Int)(t:Tok):jz (.inl i) (.int i t)=true:=by simp [jz,Value.isInt]
def xS (x:Str)(t:Tok):jz (.inr x) (.str x t)=true:=by simp [jz,Value.isStrOf]
theorem DS (a b:Int):decide ((Sum.inl a:j0)=Sum.inl b)=(a==b):=by grind
theorem DQ (a b:Str):decide ((Sum.inr a:j0)=Sum.inr b)=decide (a=b):=by grind
def DG (a:Int)(b:Str):decide ((Sum.inl a:j0)=Sum.inr b)=false:=LM (λq=>nomatch q)
def Fs (a:Str)(b:Int):decide ((Sum.inr a:j0)=Sum.inl b)=false:=LM (λq=>nomatch q)
def z0 (prog:Program)(w:World):PySem.KeyKind prog w j0 where
 is:=jz
 hash:=JG w
 inj:=λv a b ha hb=>by
  rcases K1 ha with⟨i,t,rfl,rfl⟩|⟨x,t,rfl,rfl⟩
  .rcases K1 hb with⟨j,u,rfl,e⟩|⟨y,u,rfl,e⟩
   .injection e with e1 _;rw[e1]
   .exact nomatch e
  .rcases K1 hb with⟨j,u,rfl,e⟩|⟨y,u,rfl,e⟩
   .exact nomatch e
   .injection e with e1 _;rw[e1]
 byValue:=λk v h=>by
  rcases K1 h with⟨i,t,rfl,rfl⟩|⟨x,t,rfl,rfl⟩<;>rfl
 pyHash:=λhv h=>by
  rcases K1 hv with⟨i,t,rfl,rfl⟩|⟨x,t,rfl,rfl⟩
  .exact wpAny_pyHash_int h
  .exact wpAny_pyHash_str h
 eqBool:=λhu hv h=>by
  rcases K1 hu with⟨i,t,rfl,rfl⟩|⟨x,t,rfl,rfl⟩
  .rcases K1 hv with⟨j,u,rfl,rfl⟩|⟨y,u,rfl,rfl⟩
   .rw[DS] at h;exact wpAny_eqBool_int h
   .rw[DG] at h;exact SeqAt.EqAt.int_str i t y u _ _ _ _ h
  .rcases K1 hv with⟨j,u,rfl,rfl⟩|⟨y,u,rfl,rfl⟩
   .rw[Fs] at h;exact SeqAt.EqAt.str_int x t j u _ _ _ _ h
   .rw[DQ] at h;exact wpAny_eqBool_str h
 «strs»:=λk x t v h=>by
  rcases K1 h with⟨i,u,rfl,e⟩|⟨y,u,rfl,e⟩
  .exact nomatch e
  .injection e with e1 _
   subst e1;cases v<;>rfl
def sL (prog:Program)(w:World)(i:Int)(t:Tok):(z0 prog w).is (.inl i) (.int i t)=true:=wM i t
def sj (prog:Program)(w:World)(x:Str)(t:Tok):(z0 prog w).is (.inr x) (.str x t)=true:=xS x t
inductive V where
 |non|bl (b:Bool)|int (i:Int)|str (x:Str)|byt (b:Array UInt8)|flt (b:UInt64)|ref (a:Addr)|ty (n:String)
 deriving DecidableEq
abbrev ap:=List V
abbrev am:=List (j0×V)
def RelV:V->Value->Prop
 | .non,u=>u=Value.none
 | .bl b,u=>u=Value.bool b
 | .int i,u=>∃t,u=Value.int i t
 | .str x,u=>∃t,u=Value.str x t
 | .byt b,u=>∃t,u=Value.bytes b t
 | .flt b,u=>∃t,u=Value.float b t
 | .ref a,u=>u=Value.ref a
 | .ty n,u=>u=Value.type n
abbrev Vals:ap->jp->Prop:=Paired RelV
variable {us:jp}
def Vals.length {xs:ap}(r:Vals xs us):xs.length=us.length:=LP r
theorem Vals.get:∀{xs:ap} {us:jp} {i:Nat} {x:V},Vals xs us->xs[i]?=some x->∃u,us[i]?=some u/\RelV x u
 |_,_,_,_,.nil,e=>by simp at e
 |_,_,0,_,.cons r _,e=>by simp at e;subst e;exact⟨_,rfl,r⟩
 |_,_,i+1,x,.cons _ t,e=>by
  obtain⟨u,h1,h2⟩:=Vals.get (i:=i) (x:=x) t (by simpa using e);exact⟨u,by simpa using h1,h2⟩
theorem Vals.set {x:V}{u:Value}(r:RelV x u):∀{xs:ap} {us:jp} (i:Nat),Vals xs us->Vals (xs.set i x) (us.set i u)
 |_,_,_,.nil=> .nil
 |_,_,0,.cons _ t=> .cons r t
 |_,_,i+1,.cons q t=> .cons q (Vals.set r i t)
theorem Vals.append:∀{xs ys:ap} {us ws:jp},Vals xs us->Vals ys ws->Vals (xs++ys) (us++ws)
 |_,_,_,_,.nil,s=>s
 |_,_,_,_,.cons r t,s=> .cons r (Vals.append t s)
theorem Vals.take:∀{xs:ap} {us:jp} (n:Nat),Vals xs us->Vals (xs.take n) (us.take n)
 |_,_,0,_=> .nil
 |_,_,_+1,.nil=> .nil
 |_,_,n+1,.cons r t=> .cons r (Vals.take n t)
theorem Vals.drop:∀{xs:ap} {us:jp} (n:Nat),Vals xs us->Vals (xs.drop n) (us.drop n)
 |_,_,0,r=>r
 |_,_,_+1,.nil=> .nil
 |_,_,n+1,.cons _ t=>Vals.drop n t
def RelO:Option V->ad->Prop
 |some v,some u=>RelV v u
 |none,none=>True
 |_,_=>False
variable {κ:Type}
def KV:List (κ×V)->List (κ×Value)->Prop:=Paired fun(p:κ×V) (q:κ×Value)=>p.1=q.1/\RelV p.2 q.2
def kV:j0->V
 | .inl i=> .int i
 | .inr x=> .str x
inductive HO where
 |lst (xs:ap)
 |tup (xs:ap)
 |dK (kvs:am)|dT (kvs:List (List j0×V))
 |set (S:Int->Bool) (n:Nat)
 |ins (C dx:Addr) (fs:List (Str×V))
 |own (x:Addr)
 |xd (fs:List (Str×V))
 |met (f x:Addr)
 |rng (lo hi:Int)
 |frz (o:Obj) (u:HO)
 |tbl (ps:Array Value)
 |ext (φ:Heap->Prop)
abbrev Hp:=Addr->Option HO
def u9 (H:Hp)(a:Addr)(o:HO):Hp:=λb=>if b=a then some o else H b
variable {H:Hp}{a:Addr}{o:HO}
theorem b5:u9 H a o a=some o:=by unfold u9;rw[if_pos rfl]
variable {b:Addr}
theorem b7 (h:b≠a):u9 H a o b=H b:=by unfold u9;rw[if_neg h]
def Same (H H':Hp):Prop:=∀b o,H b=some o->H' b=some o
def nwS {p:Addr}(h:H p=none):Same H (u9 H p o):=λb u e=>by rw[b7 (λz=>by rw[z,h] at e;cases e)];exact e
def CZ {u:HO}(h:H a=some o)(h':H b=some u)(d:o≠u):a≠b:=by
 intro e;subst e;rw[h] at h';exact d (Ly h')
def d6 (h:H a=some o)(h':H b=none):a≠b:=by
 intro e;subst e;rw[h] at h';cases h'
section
variable (P:Program) (w:World)
def ObjOk (H:Hp)(h:Heap)(a:Addr):HO->Prop
 | .lst xs=>xs.length<=sizeLine/\∃(a_:jp) (n:Nat),Vals xs a_/\h.get? a=some {cls:= .type "list",data:= .seq a_.toArray n}
 | .tup xs=>xs.length<=sizeLine/\∃a_:jp,Vals xs a_/\IsTup h a a_.toArray
 | .dK kvs=>kvs.length<=sizeLine/\(a==sysModules)=false/\∃vs,KV kvs vs/\h.DictOf (z0 P w) a vs
 | .dT kvs=>kvs.length<=sizeLine/\(a==sysModules)=false/\∃xs:List (List j0×Addr×Value),
   Paired (fun(p:List j0×V) (q:List j0×Addr×Value)=>p.1=q.1/\H q.2.1=some (.tup (p.1.map kV))/\RelV p.2 q.2.2) kvs xs/\
   ∃o es ep,h.get? a=some o/\o.ExactDict/\o.data= .dict es ep/\es.toList=xs.map (entryOfKey (tupleKind (z0 P w)))/\(xs.map (·.1)).Nodup
 | .set S n=>h.SetOf (intKind P w) a S n
 | .ins C dx fs=>H dx=some (.own a)/\fs.length<=1000/\dx≠a/\h.get? a=some (PySem.W.instObj C dx)/\
   ∃mA,h.Ns1 dx mA/\(∀f,RelO (fs.lookup f) (mA f))/\PySem.Within mA (fs.map (·.1))
 | .own _=>∃o,h.get? a=some o
 | .xd fs=>∃mA,h.Ns1 a mA/\∀f,RelO (fs.lookup f) (mA f)
 | .rng lo hi=>∃t u v,h.get? a=some {cls:= .type "range",data:= .fields #[.int lo t,.int hi u,.int 1 v]}
 | .frz o u=>h.get? a=some o/\ObjOk H h a u
 | .tbl ps=>h.get? a=some {cls:= .none,data:= .fields ps}
 | .met f x=>h.get? a=some (PySem.W.methodObj (.ref f) (.ref x))
 | .ext φ=>φ h/\(∃o,h.get? a=some o)/\∀h1 h2:Heap,φ h1->(∀o,h1.get? a=some o->h2.get? a=some o)->φ h2
def HOk (H:Hp)(h:Heap):Prop:=∀a o,H a=some o->ObjOk P w H h a o
end
variable {P:Program}{w:World}{h:Heap}
def ObjOk.lt (x:ObjOk P w H h a o):a<h.objs.size:=by
 cases o with
 |lst xs=>obtain⟨_,_,_,_,e⟩:=x;exact Lu e
 |tup xs=>obtain⟨_,_,_,p⟩:=x;exact p.lt
 |dK kvs=>obtain⟨_,_,_,_,o,_,_,e,_⟩:=x;exact Lu e
 |dT kvs=>obtain⟨_,_,_,_,o,_,_,e,_⟩:=x;exact Lu e
 |set S n=>obtain⟨o,_,_,_,e,_⟩:=x;exact Lu e
 |ins C dx fs=>obtain⟨_,_,_,e,_⟩:=x;exact Lu e
 |own y=>obtain⟨_,e⟩:=x;exact Lu e
 |xd fs=>obtain⟨_,⟨_,_,_,e,_⟩,_⟩:=x;exact Lu e
 |rng lo hi=>obtain⟨_,_,_,e⟩:=x;exact Lu e
 |frz ob u=>obtain⟨e,_⟩:=x;exact Lu e
 |tbl ps=>exact Lu (show h.get? a=some _ from x)
 |met f y=>exact Lu (show h.get? a=some _ from x)
 |ext φ=>obtain⟨_,⟨_,e⟩,_⟩:=x;exact Lu e
variable {α β:Type}
theorem Paired.mapP {F G:α->β->Prop}:∀{l₁:List α} {l₂:List β},Paired F l₁ l₂->(∀a b,F a b->G a b)->Paired G l₁ l₂
 |_,_,.nil,_=> .nil
 |_,_,.cons r t,f=> .cons (f _ _ r) (Paired.mapP t f)
def Paired.imp' {F G:α->β->Prop}(f:∀a b,F a b->G a b){l₁:List α}{l₂:List β}(r:Paired F l₁ l₂):Paired G l₁ l₂:=Paired.mapP r f
variable {H':Hp}{h':Heap}
def ObjOk.stay (x:ObjOk P w H h a o)(k:∀b u,(b=a\/H b=some (.own a))->h.get? b=some u->h'.get? b=some u)
(ho:∀b,H b=some (.own a)->H' b=some (.own a))(ht:∀b xs,H b=some (.tup xs)->H' b=some (.tup xs)):ObjOk P w H' h' a o:=by
 induction o with
 |lst xs=>obtain⟨z,a_,n,r,e⟩:=x;exact⟨z,a_,n,r,k _ _ (.inl rfl) e⟩
 |tup xs=>obtain⟨z,a_,r,ob,e,c⟩:=x;exact⟨z,a_,r,ob,k _ _ (.inl rfl) e,c⟩
 |dK kvs=>obtain⟨z,y,vs,r,ob,es,ep,e,c⟩:=x;exact⟨z,y,vs,r,ob,es,ep,k _ _ (.inl rfl) e,c⟩
 |dT kvs=>
  obtain⟨z,y,xs,r,ob,es,ep,e,c⟩:=x
  exact⟨z,y,xs,Paired.mapP r λp q z=>⟨z.1,ht _ _ z.2.1,z.2.2⟩,ob,es,ep,k _ _ (.inl rfl) e,c⟩
 |set S n=>obtain⟨ob,es,ep,t,e,c⟩:=x;exact⟨ob,es,ep,t,k _ _ (.inl rfl) e,c⟩
 |ins C dx fs=>
  obtain⟨d,z,ne,e,mA,⟨od,es,ep,e2,c⟩,r⟩:=x
  exact⟨ho _ d,z,ne,k _ _ (.inl rfl) e,mA,⟨od,es,ep,k _ _ (.inr d) e2,c⟩,r⟩
 |own y=>obtain⟨ob,e⟩:=x;exact⟨ob,k _ _ (.inl rfl) e⟩
 |xd fs=>obtain⟨mA,⟨od,es,ep,e,c⟩,r⟩:=x;exact⟨mA,⟨od,es,ep,k _ _ (.inl rfl) e,c⟩,r⟩
 |rng lo hi=>obtain⟨t,u,v,e⟩:=x;exact⟨t,u,v,k _ _ (.inl rfl) e⟩
 |frz ob u ih=>obtain⟨e,q⟩:=x;exact⟨k _ _ (.inl rfl) e,ih q⟩
 |tbl ps=>
  have e:h.get? a=some {cls:= .none,data:= .fields ps}:=x
  show h'.get? a=some {cls:= .none,data:= .fields ps}
  exact k a _ (.inl rfl) e
 |met f y=>
  have e:h.get? a=some (PySem.W.methodObj (.ref f) (.ref y)):=x
  show h'.get? a=some (PySem.W.methodObj (.ref f) (.ref y))
  exact k a _ (.inl rfl) e
 |ext φ=>obtain⟨p,⟨o,e⟩,st⟩:=x;exact⟨st _ _ p λo q=>k _ _ (.inl rfl) q,⟨o,k _ _ (.inl rfl) e⟩,st⟩
def HOk.lt (x:HOk P w H h)(e:H a=some o):a<h.objs.size:=(x a o e).lt
def HOk.fresh (x:HOk P w H h)(e:h.objs.size<=a):H a=none:=by
 cases q:H a with
 |none=>rfl
 |some u=>exact absurd (Lv (x.lt q) e) (MQ _)
def HOk.kept (x:HOk P w H h)(k:∀b u,h.get? b=some u->h'.get? b=some u):HOk P w H h':=λa o e=>
 (x a o e).stay (λb u _ q=>k b u q) (λ_ q=>q) λ_ _ q=>q
def HOk.laid (x:HOk P w H h)(k:∀b u,h.get? b=some u->h'.get? b=some u)(hp:h.objs.size<=a)(new:ObjOk P w (u9 H a o) h' a o):HOk P w (u9 H a o) h':=λb u e=>by
 have hn:=x.fresh hp;by_cases hb:b=a
 .subst hb;rw[b5] at e;cases e;exact new
 .rw[b7 hb] at e;exact(x b u e).stay (λc v _ q=>k c v q) (λc q=>by rw[b7 (d6 q hn)];exact q) λc xs q=>by rw[b7 (d6 q hn)];exact q
def Rd (H:Hp)(a:Addr)(u:HO):Prop:=H a=some u\/∃o,H a=some (.frz o u)
def Rd.ok {u:HO}(r:Rd H a u)(x:HOk P w H h):ObjOk P w H h a u:=by
 rcases r with r|⟨o,r⟩
 .exact x a u r
 .obtain⟨_,q⟩:=x a _ r;exact q
def GA:Option HO->Prop
 |some (.lst _)=>True
 |some (.dK _)=>True
 |some (.dT _)=>True
 |some (.set _ _)=>True
 |some (.ins _ _ _)=>True
 |some (.ext _)=>True
 |_=>False
variable {x e:Addr}
def HOk.write {o':HO}(ok:HOk P w H h)(mu:GA (H x))(he:e=x\/H e=some (.own x))(k:∀b u,b≠e->h.get? b=some u->h'.get? b=some u)(Ur:∃u,h'.get? e=some u)
(new:ObjOk P w (u9 H x o') h' x o'):HOk P w (u9 H x o') h':=λb u q=>by
 have WG:∀c y,H c=some (.own y)->c≠x:=λc y r z=>by subst z;rw[r] at mu;exact mu
 have Zc:∀c xs,H c=some (.tup xs)->c≠x:=λc xs r z=>by subst z;rw[r] at mu;exact mu
 by_cases hb:b=x
 .subst hb;rw[b5] at q;cases q;exact new
 .rw[b7 hb] at q
  by_cases hbe:b=e
  .have q':H b=some (.own x):=by
    rcases he with z|z
    .exact absurd (hbe.trans z) hb
    .rw[hbe];exact z
   rw[q] at q';cases q'
   obtain⟨v,hv⟩:=Ur
   exact⟨v,by rw[hbe];exact hv⟩
  .refine(ok b u q).stay (λc v hc r=>k c v ?_ r) (λc r=>by rw[b7 (WG c b r)];exact r) λc xs r=>by rw[b7 (Zc c xs r)];exact r
   rcases hc with rfl|hc
   .exact hbe
   .rintro rfl
    rcases he with z|z
    .exact WG c b hc z
    .rw[hc] at z;cases z;exact hb rfl
structure Un (fs ex:List Addr) (H H':Hp) (h h':Heap):Prop where
 keep:∀b o,h.get? b=some o->H b=none->b∉fs->b∉ex->h'.get? b=some o
 slot:∀b o,h.get? b=some o->H b=none->b∈fs->b∉ex->∃sl,h'.get? b=some {o with slots:=sl}
 free:∀b o,h.get? b=some o->H b=none->b∉ex->H' b=none
 there:∀b o,h.get? b=some o->b∉ex->∃o',h'.get? b=some o'
 tups:∀b xs,H b=some (.tup xs)->H' b=some (.tup xs)
 frzs:∀b o u,H b=some (.frz o u)->H' b=some (.frz o u)
 tbls:∀b ps,H b=some (.tbl ps)->∃more,H' b=some (.tbl (ps++more))
section
variable {fs fs' ex P_:List Addr} {H H1 H2:Hp} {h h1 h2 h':Heap} {a x e:Addr} {o:HO}
def Un.any (u:Un fs ex H H1 h h1){b:Addr}{ob:Obj}(q:h.get? b=some ob)(n:H b=none)(hx:b∉ex):∃sl,h1.get? b=some {ob with slots:=sl}:=by
 by_cases hb:b∈fs
 .exact u.slot b ob q n hb hx
 .exact⟨ob.slots,u.keep b ob q n hb hx⟩
def Un.kept (k:∀b u,h.get? b=some u->h'.get? b=some u):Un fs ex H H h h':=
 ⟨λb ob q _ _ _=>k b ob q,λb ob q _ _ _=>⟨ob.slots,k b ob q⟩,λ_ _ _ n _=>n,λb ob q _=>⟨ob,k b ob q⟩,λ_ _ q=>q,λ_ _ _ q=>q,λ_ ps q=>⟨#[],by rw[q];simp⟩⟩
def Un.refl:Un fs ex H H h h:=Un.kept λ_ _ q=>q
def Un.laid (k:∀b u,h.get? b=some u->h'.get? b=some u)(hp:h.objs.size<=a)(hn:H a=none):Un fs ex H (u9 H a o) h h' where
 keep:=λb u q _ _ _=>k b u q
 slot:=λb u q _ _ _=>⟨u.slots,k b u q⟩
 free:=λb u q n _=>by rw[b7 (Lz (Lv (Lu q) hp))];exact n
 there:=λb u q _=>⟨u,k b u q⟩
 tups:=λb xs q=>by rw[b7 (d6 q hn)];exact q
 frzs:=λb u xs q=>by rw[b7 (d6 q hn)];exact q
 tbls:=λb ps q=>⟨#[],by rw[b7 (d6 q hn),q];simp⟩
def Un.write (mu:GA (H x))(he:e=x\/H e=some (.own x))(k:∀b u,b≠e->h.get? b=some u->h'.get? b=some u)(Ur:∃u,h'.get? e=some u):Un fs ex H (u9 H x o) h h':=by
 have hx:∀b,H b=none->b≠x:=λb n z=>by subst z;rw[n] at mu;exact mu
 have hb:∀b,H b=none->b≠e:=λb n z=>by
  subst z;rcases he with r|r
  .exact hx b n r
  .rw[n] at r;cases r
 have hm:∀b u,H b=some u->¬GA (some u)->b≠x:=λb u q nm z=>by subst z;rw[q] at mu;exact nm mu
 refine⟨λb u q n _ _=>k b u (hb b n) q,λb u q n _ _=>⟨u.slots,k b u (hb b n) q⟩,λb u q n _=>by rw[b7 (hx b n)];exact n,λb u q _=>?_,
  λb xs q=>by rw[b7 (hm b _ q λz=>z)];exact q,λb u xs q=>by rw[b7 (hm b _ q λz=>z)];exact q,λb ps q=>⟨#[],by rw[b7 (hm b _ q λz=>z),q];simp⟩⟩
 by_cases hbe:b=e
 .subst hbe;exact Ur
 .exact⟨u,k b u hbe q⟩
end
def Jc (h:Heap)(H:Hp):List Addr:=(List.range h.objs.size).filter λa=>(H a).isSome
def qt (h:Heap)(H:Hp):Heap:=PySem.W.hideAll h (Jc h H)
def wR (h:Heap)(H:Hp):(qt h H).objs.size=h.objs.size:=PySem.W.hideAll_size _ _
variable {o:Obj}
def zG (e:h.get? b=some o)(n:H b=none):(qt h H).get? b=some o:=
 Oc _ e λhm=>by
  have q:(H b).isSome=true:=(Lo.mp hm).2;rw[n] at q;simp at q
def Bu (e:(qt h H).get? b=some o):h.get? b=some o/\H b=none:=by
 have e':h.get? b=some o:=Pe (Jc h H) e;refine⟨e',?_⟩;cases q:H b with
 |none=>rfl
 |some x=>
  have hm:b∈Jc h H:=Lo.mpr ⟨Nb.mpr (Lu e'),by simp [q]⟩
  have z:(qt h H).get? b=none:=PySem.W.hideAll_none (Jc h H) hm
  rw[z] at e;cases e
def Bb (g h:Heap)(L:Addr):XL:=(List.range h.objs.size).filterMap λa=>if a=L\/(g.get? a).isSome=true then none else(h.get? a).map λo=>(a,o)
def aI (g h:Heap)(L d:Addr):XL:=(Bb g h L).filter λp=>decide (p.1≠d)
structure Mod (K:Qd) (mg:Str->ad) (base:Heap):Prop where
 kin:K.In base
 glob:base.Ns mainGlobals mg
 blt:∃mb,base.Ns builtinsNs mb/\∀x:Str,x≠"__name__"->mb x=bootBuiltins x
 nolimit:base.NoLimit
structure Cx where
 prog:Program
 w:World
 K:Qd
 mg:Str->ad
 base:Heap
 A:Around
 N:xL
 s₀:Shared
 H₀:Hp
 env:Env
 outer:List Env
 stack:List Env
 ex:List Addr
 fn:Str->Bool
 calm:Bool
 pn:XL
 xe:XV
def bN (l:List Env):List Addr:=l.filterMap (·.frame)
abbrev Cx.fs (X:Cx):List Addr:=bN X.outer
def JX (sc:Scope)(x:Str):Prop:=sc.names.lookup x=some .local\/sc.names.lookup x=some .cell\/sc.names.lookup x=some .free
def CH (sc:Scope)(x:Str):Prop:=sc.names.lookup x=some .local\/sc.names.lookup x=some .cell
def Jj (env:Env)(h:Heap)(m:Str->ad)(x:Str)(u:Value):Prop:=
 (env.kindOf x=some .local/\m x=some u)\/((env.kindOf x=some .cell\/env.kindOf x=some .free)/\∃c,env.cells.lookup x=some c/\h.IsCell c (some u))
structure Cx.Ok (X:Cx):Prop where
 mod:Mod X.K X.mg X.base
 kind:X.env.scope.kind= .function
 glob:X.env.globals=mainGlobals
 blt:X.env.builtins=builtinsNs
 above:X.s₀.heap.objs.size<=X.env.locals
 inj:∀x y c,X.env.cells.lookup x=some c->X.env.cells.lookup y=some c->x=y
 has:∀x,(X.env.kindOf x=some .cell\/X.env.kindOf x=some .free)->∃c,X.env.cells.lookup x=some c
 cab:∀x c,X.fn x=true->X.env.cells.lookup x=some c->X.s₀.heap.objs.size<=c
 hd:X.calm=true->X.A.handled=none
 frames:X.A.frames=some X.stack
 stk:X.stack=X.outer\/(X.stack=X.env::X.outer/\X.env.frame=some X.env.locals)
 exf:∀b∈X.ex,b≠X.env.locals/\∀x c,X.env.cells.lookup x=some c->c≠b
 bs:∀b o,X.base.get? b=some o->X.s₀.heap.get? b=some o/\X.H₀ b=none
 bsz:X.base.objs.size<=X.s₀.heap.objs.size
 noex:∀b o,X.base.get? b=some o->b∉X.ex
 exfs:∀b∈X.ex,b∉X.fs
 funs:X.s₀.heap.FunFrames X.base X.outer
 frf:∀b∈X.fs,X.H₀ b=none
structure Inv (X:Cx) (pins:XL) (σ:List (Option V)) (H:Hp) (s:Shared):Prop where
 ok:X.Ok
 os:s.os=X.s₀.os
 bare:AllBare s.gens
 base:Un X.fs X.ex X.H₀ H X.s₀.heap s.heap
 loc:∃m,s.heap.Ns X.env.locals m/\∀(i:Nat) (x:Str) (v:V),X.N[i]?=some x->σ[i]?=some (some v)->JX X.env.scope x->∃u,RelV v u/\Jj X.env s.heap m x u
 cell:∀x c,X.env.cells.lookup x=some c->∃v,s.heap.IsCell c v
 free:H X.env.locals=none
 freeC:∀x c,X.env.cells.lookup x=some c->H c=none
 pin:∀p∈X.pn++pins,s.heap.get? p.1=some p.2/\H p.1=none/\p.1≠X.env.locals/\p.1∉X.fs/\∀v,p.2.data≠ .cell v
 hok:HOk X.prog X.w H s.heap
 len:σ.length=X.N.length
variable {X:Cx}
def Cx.Ok.nofr (ok:X.Ok)(e:X.base.get? b=some o):b∉X.fs:=λhb=>by
 have:=(ok.funs.mem hb).1;rw[e] at this;cases this
variable {pins:XL}{σ:List (Option V)}{s:Shared}
def Inv.bs (I:Inv X pins σ H s):∀b o,X.base.get? b=some o->s.heap.get? b=some o/\H b=none:=λb o e=>
 ⟨I.base.keep b o (I.ok.bs b o e).1 (I.ok.bs b o e).2 (I.ok.nofr e) (I.ok.noex b o e),I.base.free b o (I.ok.bs b o e).1 (I.ok.bs b o e).2 (I.ok.noex b o e)⟩
def Inv.bk (I:Inv X pins σ H s):∀b o,X.base.get? b=some o->s.heap.get? b=some o:=λb o e=>(I.bs b o e).1
def Inv.mod (I:Inv X pins σ H s):Mod X.K X.mg X.base:=I.ok.mod
def Inv.kIn (I:Inv X pins σ H s):X.K.In s.heap:=I.ok.mod.kin.keeps I.bk
def Inv.lt (I:Inv X pins σ H s):X.env.locals<s.heap.objs.size:=let ⟨_,hn,_⟩:=I.loc;hn.lt
def Inv.sz (I:Inv X pins σ H s):X.s₀.heap.objs.size<=s.heap.objs.size:=LJ I.ok.above (OI I.lt)
def Inv.nofs (I:Inv X pins σ H s)(h:s.heap.objs.size<=a):a∉X.fs:=λhb=>by
 obtain⟨_,o,ho,_⟩:=I.ok.funs.mem hb;exact absurd (Lv (Lu ho) (LJ I.sz h)) (MQ _)
def Inv.cne (I:Inv X pins σ H s):∀x c,X.env.cells.lookup x=some c->c≠X.env.locals:=λx c e z=>by
 obtain⟨v,o,ho,hd⟩:=I.cell x c e;obtain⟨m,⟨o',es,ep,Ua,WH,_⟩,_⟩:=I.loc;rw[z,Ua] at ho;cases ho;rw[WH] at hd;cases hd
def Inv.funs (I:Inv X pins σ H s):s.heap.FunFrames X.base X.outer:=by
 have all:∀(l:List Env),(∀b∈bN l,b∈X.fs)->X.s₀.heap.FunFrames X.base l->s.heap.FunFrames X.base l:=by
  intro l;induction l with
  |nil=>intro _ _;trivial
  |cons env r ih=>
   intro hs hl
   obtain⟨hk,⟨L,o,hf,hn,ho,hd⟩,hr⟩:=hl
   have hL:L∈X.fs:=hs L (by unfold bN;rw[Od,hf];exact Lx)
   obtain⟨sl,e⟩:=I.base.slot L o ho (I.ok.frf L hL) hL λz=>I.ok.exfs L z hL
   exact⟨hk,⟨L,_,hf,hn,e,hd⟩,ih (λb hb=>hs b (by unfold bN;rw[Od,hf];exact LD _ hb)) hr⟩
 exact all X.outer (λ_ hb=>hb) I.ok.funs
def Inv.stack (I:Inv X pins σ H s):s.heap.FunFrames X.base X.stack:=by
 rcases I.ok.stk with e|⟨e,hf⟩
 .rw[e];exact I.funs
 .rw[e];obtain⟨m,hn,_⟩:=I.loc;refine .cons (by rw[I.ok.kind];decide) hf hn ?_ I.funs;exact Heap.get?_none_of_le (LJ I.ok.bsz I.ok.above)
def Inv.stkSub (I:Inv X pins σ H s):∀b∈bN X.stack,b∈X.env.locals::X.fs:=λb hb=>by
 rcases I.ok.stk with e|⟨e,hf⟩
 .rw[e] at hb;exact LD _ hb
 .rw[e] at hb;unfold bN at hb;rw[Od,hf] at hb;exact hb
def Inv.stkFree (I:Inv X pins σ H s):∀b∈bN X.stack,H b=none:=λb hb=>by
 rcases LZ.mp (I.stkSub b hb) with e|hb
 .rw[e];exact I.free
 .obtain⟨_,o,ho,_⟩:=I.ok.funs.mem hb;exact I.base.free b o ho (I.ok.frf b hb) λz=>I.ok.exfs b z hb
variable {g':Array GenState}{t':Nat}{d':Drawn}{ch:List Addr}
def Inv.step (I:Inv X pins σ H s)
(TQ:∀b∈ch,(b∈X.ex\/X.s₀.heap.objs.size<=b)/\b≠X.env.locals/\(∀x c,X.env.cells.lookup x=some c->c≠b)/\∀p∈X.pn++pins,p.1≠b)
(keep:∀b o,b≠X.env.locals->b∉X.fs->b∉ch->s.heap.get? b=some o->H b=none->h'.get? b=some o)
(slot:∀b o,b≠X.env.locals->b∈X.fs->b∉ch->s.heap.get? b=some o->H b=none->∃sl,h'.get? b=some {o with slots:=sl})(free:∀b o,b∉ch->s.heap.get? b=some o->H b=none->H' b=none)
(there:∀b o,b∉ch->s.heap.get? b=some o->∃o',h'.get? b=some o')
(tups:∀b xs,H b=some (.tup xs)->H' b=some (.tup xs))(frzs:∀b o u,H b=some (.frz o u)->H' b=some (.frz o u))(tbls:∀b ps,H b=some (.tbl ps)->∃more,H' b=some (.tbl (ps++more)))
(ns:∀m,s.heap.Ns X.env.locals m->h'.Ns X.env.locals m)(hok:HOk X.prog X.w H' h')(hg:AllBare g'):
  Inv X pins σ H' {s with heap:=h',gens:=g',drawn:=d',toks:=t'}:=by
 have neL:∀b o,X.s₀.heap.get? b=some o->b≠X.env.locals:=λb o e=>Lz (Lv (Lu e) I.ok.above)
 have Yl:∀b o,X.s₀.heap.get? b=some o->b∉X.ex->b∉ch:=λb o e hx hb=>by
  rcases(TQ b hb).1 with z|z
  .exact hx z
  .exact absurd (Lv (Lu e) z) (MQ _)
 have cellK:∀x c,X.env.cells.lookup x=some c->∀v,s.heap.IsCell c v->h'.IsCell c v:=λx c e v ⟨o,ho,hd⟩=>by
  have WI:c∉ch:=λz=>(TQ c z).2.2.1 x c e rfl;by_cases hc:c∈X.fs
  .obtain⟨sl,q⟩:=slot c o (I.cne x c e) hc WI ho (I.freeC x c e);exact⟨_,q,hd⟩
  .exact⟨o,keep c o (I.cne x c e) hc WI ho (I.freeC x c e),hd⟩
 refine⟨I.ok,I.os,hg,⟨λb o e n hb hx=>?_,λb o e n hb hx=>?_,λb o e n hx=>?_,λb o e hx=>?_,λb xs e=>tups b xs (I.base.tups b xs e),λb o xs e=>frzs b o xs (I.base.frzs b o xs e),λb ps e=>?_⟩,?_,λx c e=>?_,?_,λx c e=>?_,λp hp=>?_,hok,I.len⟩
 .exact keep b o (neL b o e) hb (Yl b o e hx) (I.base.keep b o e n hb hx) (I.base.free b o e n hx)
 .obtain⟨sl,e1⟩:=I.base.slot b o e n hb hx
  obtain⟨sl',e2⟩:=slot b _ (neL b o e) hb (Yl b o e hx) e1 (I.base.free b o e n hx)
  exact⟨sl',e2⟩
 .obtain⟨o',e1⟩:=I.base.there b o e hx
  exact free b o' (Yl b o e hx) e1 (I.base.free b o e n hx)
 .obtain⟨o',e1⟩:=I.base.there b o e hx
  exact there b o' (Yl b o e hx) e1
 .obtain⟨m1,e1⟩:=I.base.tbls b ps e
  obtain⟨m2,e2⟩:=tbls b _ e1
  exact⟨m1++m2,by rw[e2,Ri]⟩
 .obtain⟨m,hn,hl⟩:=I.loc
  refine⟨m,ns m hn,λi x v e1 e2 e3=>?_⟩
  obtain⟨u,r,l⟩:=hl i x v e1 e2 e3
  refine⟨u,r,?_⟩
  rcases l with l|⟨k,c,e,z⟩
  .exact .inl l
  .exact .inr ⟨k,c,e,cellK x c e _ z⟩
 .obtain⟨v,z⟩:=I.cell x c e
  exact⟨v,cellK x c e v z⟩
 .obtain⟨m,⟨o,_,_,ho,_⟩,_⟩:=I.loc
  exact free _ o (λz=>(TQ _ z).2.1 rfl) ho I.free
 .obtain⟨v,o,ho,hd⟩:=I.cell x c e
  exact free c o (λz=>(TQ c z).2.2.1 x c e rfl) ho (I.freeC x c e)
 .obtain⟨e,n,ne,nf,d⟩:=I.pin p hp
  have WI:p.1∉ch:=λz=>(TQ p.1 z).2.2.2 p hp rfl
  exact⟨keep p.1 p.2 ne nf WI e n,free p.1 p.2 WI e n,ne,nf,d⟩
def Inv.un (I:Inv X pins σ H s)(u:Un X.fs [] H H' s.heap h')(hok:HOk X.prog X.w H' h'):Inv X pins σ H' {s with heap:=h',toks:=t'}:=by
 obtain⟨m,⟨o,es,ep,ho,r⟩,_⟩:=id I.loc;obtain⟨sl,hL⟩:=u.any ho I.free (by simp);exact I.step (g':=s.gens) (d':=s.drawn) (ch:=[]) (λ_ z=>nomatch z) (λb o _ hb _ e n=>u.keep b o e n hb (by simp)) (λb o _ hb _ e n=>u.slot b o e n hb (by simp)) (λb o _ e n=>u.free b o e n (by simp)) (λb o _ e=>u.there b o e (by simp)) u.tups u.frzs u.tbls (λm' hm=>by
  obtain⟨o',WJ,Zd,Ua,r'⟩:=hm;rw[ho] at Ua;cases Ua;exact⟨_,WJ,Zd,hL,r'⟩) hok I.bare
def Inv.call (I:Inv X pins σ H s)(u:Un (bN X.stack) ch H H' s.heap h')(hok:HOk X.prog X.w H' h')(hg:AllBare g')
(TQ:∀b∈ch,(b∈X.ex\/X.s₀.heap.objs.size<=b)/\b≠X.env.locals/\(∀x c,X.env.cells.lookup x=some c->c≠b)/\∀p∈X.pn++pins,p.1≠b):
  Inv X pins σ H' {s with heap:=h',gens:=g',drawn:=d',toks:=t'}:=by
 obtain⟨m,⟨o,es,ep,ho,r⟩,_⟩:=id I.loc
 obtain⟨sl,hL⟩:=u.any ho I.free λz=>(TQ _ z).2.1 rfl
 exact I.step (ch:=ch) TQ (λb o hL hb hc e n=>u.keep b o e n (λz=>(LZ.mp (I.stkSub b z)).elim hL hb) hc) (λb o _ _ hc e n=>u.any e n hc) (λb o hc e n=>u.free b o e n hc) (λb o hc e=>u.there b o e hc) u.tups u.frzs u.tbls (λm' hm=>by
  obtain⟨o',WJ,Zd,Ua,r'⟩:=hm;rw[ho] at Ua;cases Ua;exact⟨_,WJ,Zd,hL,r'⟩) hok hg
variable {it:Addr}
def Inv.turned (I:Inv X pins σ H s)(k:∀b o,b≠it->s.heap.get? b=some o->h'.get? b=some o)(hn:H it=none)(hL:it≠X.env.locals)
(h1:it∈X.ex\/X.s₀.heap.objs.size<=it)(h2:∀x c,X.env.cells.lookup x=some c->c≠it)(h3:∀p∈X.pn++pins,p.1≠it):Inv X pins σ H {s with heap:=h',toks:=t'}:=by
 have nit:∀b u,H b=some u->b≠it:=λb u e z=>by rw[z,hn] at e;cases e
 refine I.step (g':=s.gens) (d':=s.drawn) (ch:=[it]) (λb hb=>?_) (λb o _ _ hc e _=>k b o (λz=>hc (by simp [z])) e) (λb o _ _ hc e _=>⟨o.slots,k b o (λz=>hc (by simp [z])) e⟩) (λ_ _ _ _ n=>n)
  (λb o hc e=>⟨o,k b o (λz=>hc (by simp [z])) e⟩) (λ_ _ e=>e) (λ_ _ _ e=>e) (λb ps e=>⟨#[],by rw[e];simp⟩) (λm hm=>?_) (λb u e=>?_) I.bare
 .have e:b=it:=by simpa using hb
  subst e
  exact⟨h1,hL,h2,h3⟩
 .obtain⟨o,es,ep,ho,r⟩:=hm
  exact⟨o,es,ep,k _ o (MY hL) ho,r⟩
 .refine(I.hok b u e).stay (λc v hc q=>k c v ?_ q) (λ_ q=>q) λ_ _ q=>q
  rcases hc with z|z
  .rw[z];exact nit b u e
  .exact nit c _ z
def Inv.tok (I:Inv X pins σ H s)(t:Nat):Inv X pins σ H {s with toks:=t}:=I.un (h':=s.heap) (t':=t) Un.refl I.hok
def Inv.kept (I:Inv X pins σ H s)(k:∀b u,s.heap.get? b=some u->h'.get? b=some u):Inv X pins σ H {s with heap:=h',toks:=t'}:=I.un (Un.kept k) (I.hok.kept k)
def Inv.laid {o:HO}(I:Inv X pins σ H s)(k:∀b u,s.heap.get? b=some u->h'.get? b=some u)(hp:s.heap.objs.size<=a)(new:ObjOk X.prog X.w (u9 H a o) h' a o):
  Inv X pins σ (u9 H a o) {s with heap:=h',toks:=t'}:=I.un (Un.laid k hp (I.hok.fresh hp)) (I.hok.laid k hp new)
def Inv.write {o:HO}(I:Inv X pins σ H s)(mu:GA (H x))(he:e=x\/H e=some (.own x))(k:∀b u,b≠e->s.heap.get? b=some u->h'.get? b=some u)(Ur:∃u,h'.get? e=some u)
(new:ObjOk X.prog X.w (u9 H x o) h' x o):Inv X pins σ (u9 H x o) {s with heap:=h',toks:=t'}:=I.un (Un.write mu he k Ur) (I.hok.write mu he k Ur new)
def Inv.weak {σ':List (Option V)}(I:Inv X pins σ H s)(hl:σ'.length=σ.length)(w:∀(i:Nat) v,σ'[i]?=some (some v)->σ[i]?=some (some v)):Inv X pins σ' H s:=
 ⟨I.ok,I.os,I.bare,I.base,let ⟨m,hn,UO⟩:=I.loc;⟨m,hn,λi x v e1 e2 e3=>UO i x v e1 (w i v e2) e3⟩,I.cell,I.free,I.freeC,I.pin,I.hok,hl.trans I.len⟩
def Inv.pins_of {o_:XL}(I:Inv X pins σ H s)(h:∀p∈o_,s.heap.get? p.1=some p.2/\H p.1=none/\p.1≠X.env.locals/\p.1∉X.fs/\∀v,p.2.data≠ .cell v):Inv X o_ σ H s:=
 ⟨I.ok,I.os,I.bare,I.base,I.loc,I.cell,I.free,I.freeC,λp hp=>(Ld.mp hp).elim (λz=>I.pin p (Lb _ z)) (h p),I.hok,I.len⟩
variable {x:Str}{N:xL}{i:Nat}
def kD (hN:N.Nodup){j:Nat}(a:N[i]?=some x)(b:N[j]?=some x):i=j:=by
 obtain⟨h1,e1⟩:=Mq.mp a;obtain⟨h2,e2⟩:=Mq.mp b;exact(List.getElem_inj hN).mp (e1.trans e2.symm)
variable {u:Value}{M:Model}{A:Around}{E:XV}{Q:Unit->Shared->Prop}
def nI {v:V}(I:Inv X pins σ H s)(hN:X.N.Nodup)(hi:X.N[i]?=some x)(hx:CH X.env.scope x)(r:RelV v u)
(h:∀s',Inv X pins (σ.set i (some v)) H s'->(∃a,Heap.SameBut a s.heap s'.heap/\(a=X.env.locals\/X.env.cells.lookup x=some a))->Q () s')(hf:X.fn x=true\/X.env.scope.names.lookup x=some .local:=by first|exact .inl rfl|exact .inr rfl|assumption):wpAny M A (storeName X.env x u) Q E s:=by
 obtain⟨m,hn,hl⟩:=id I.loc
 have UQ:(X.env.scope.kind== .class||(X.env.scope.kind== .module&&X.env.locals !=X.env.globals))=false:=by rw[I.ok.kind];rfl
 have Ym:i<σ.length:=by rw[I.len];exact(Mq.mp hi).1
 have cne:=I.cne
 have tracked:∀{a:Addr} {h':Heap},(∃o,s.heap.get? a=some o/\H a=none)->Heap.SameBut a s.heap h'->HOk X.prog X.w H h':=fun{a h'} ha hs b ob e=>by
  obtain⟨_,_,Us⟩:=ha;refine(I.hok b ob e).stay (λc w' hc q=>(hs.2 c ?_).trans q) (λ_ q=>q) λ_ _ q=>q;rintro rfl;rcases hc with rfl|hc
  .rw[Us] at e;cases e
  .rw[Us] at hc;cases hc
 rcases hx with hk|hk
 .refine wpAny_storeName_local hk hn (λh' SU hs=>?_) UQ
  obtain⟨oL,_,_,hoL,_⟩:=id hn
  refine h _ ⟨I.ok,I.os,I.bare,⟨λb o e n hb hx=>?_,λb o e n hb hx=>?_,I.base.free,λb o e hx=>?_,I.base.tups,I.base.frzs,I.base.tbls⟩,⟨_,SU,λj y v' e1 e2 e3=>?_⟩,λy c e=>?_,I.free,I.freeC,λp hp=>?_,tracked ⟨oL,hoL,I.free⟩ hs,by simpa using I.len⟩ ⟨_,hs,.inl rfl⟩
  .exact(hs.2 b (Lz (Lv (Lu e) I.ok.above))).trans (I.base.keep b o e n hb hx)
  .obtain⟨sl,e1⟩:=I.base.slot b o e n hb hx
   exact⟨sl,(hs.2 b (Lz (Lv (Lu e) I.ok.above))).trans e1⟩
  .obtain⟨o',e1⟩:=I.base.there b o e hx
   exact⟨o',(hs.2 b (Lz (Lv (Lu e) I.ok.above))).trans e1⟩
  .by_cases hj:j=i
   .subst hj
    rw[hi] at e1;cases e1
    rw[Nl Ym] at e2
    cases e2
    exact⟨u,r,.inl ⟨hk,by simp⟩⟩
   .rw[MS (MY hj)] at e2
    obtain⟨u',r',q⟩:=hl j y v' e1 e2 e3
    refine⟨u',r',?_⟩
    rcases q with⟨k,e⟩|⟨k,c,e,z⟩
    .refine .inl ⟨k,?_⟩
     have:y≠x:=λe=>hj (kD hN e1 (e▸hi))
     simp [this,e]
    .exact .inr ⟨k,c,e,z.sameBut hs (cne y c e)⟩
  .obtain⟨w',z⟩:=I.cell y c e
   exact⟨w',z.sameBut hs (cne y c e)⟩
  .obtain⟨e,n,ne,nf,d⟩:=I.pin p hp
   exact⟨(hs.2 p.1 ne).trans e,n,ne,nf,d⟩
 .have Ze:X.fn x=true:=by
   rcases hf with z|z
   .exact z
   .rw[z] at hk;cases hk
  obtain⟨c,hc⟩:=I.ok.has x (.inl hk)
  obtain⟨w',z⟩:=I.cell x c hc
  refine wpAny_storeName_cell I.ok.kind hk hc z (λh' Sh hs=>?_)
  obtain⟨oc,US,UU⟩:=id z
  refine h {s with heap:=h'} ⟨I.ok,I.os,I.bare,⟨λb o e n hb hx=>?_,λb o e n hb hx=>?_,I.base.free,λb o e hx=>?_,I.base.tups,I.base.frzs,I.base.tbls⟩,⟨m,hn.sameBut hs (MY (cne x c hc)),λj y v' e1 e2 e3=>?_⟩,λy c' e=>?_,I.free,I.freeC,λp hp=>?_,tracked ⟨oc,US,I.freeC x c hc⟩ hs,by simpa using I.len⟩ ⟨c,hs,.inr hc⟩
  .exact(hs.2 b (Lz (Lv (Lu e) (I.ok.cab x c Ze hc)))).trans (I.base.keep b o e n hb hx)
  .obtain⟨sl,e1⟩:=I.base.slot b o e n hb hx
   exact⟨sl,(hs.2 b (Lz (Lv (Lu e) (I.ok.cab x c Ze hc)))).trans e1⟩
  .obtain⟨o',e1⟩:=I.base.there b o e hx
   exact⟨o',(hs.2 b (Lz (Lv (Lu e) (I.ok.cab x c Ze hc)))).trans e1⟩
  .by_cases hj:j=i
   .subst hj
    rw[hi] at e1;cases e1
    rw[Nl Ym] at e2
    cases e2
    exact⟨u,r,.inr ⟨.inl hk,c,hc,Sh⟩⟩
   .rw[MS (MY hj)] at e2
    obtain⟨u',r',q⟩:=hl j y v' e1 e2 e3
    refine⟨u',r',?_⟩
    rcases q with q|⟨k,c',e,z'⟩
    .exact .inl q
    .refine .inr ⟨k,c',e,z'.sameBut hs ?_⟩
     rintro rfl
     exact hj (kD hN e1 (I.ok.inj _ _ _ e hc▸hi))
  .by_cases hcc:c'=c
   .subst hcc;exact⟨_,Sh⟩
   .obtain⟨w2,z2⟩:=I.cell y c' e
    exact⟨w2,z2.sameBut hs hcc⟩
  .obtain⟨e,n,ne,nf,d⟩:=I.pin p hp
   refine⟨(hs.2 p.1 ?_).trans e,n,ne,nf,d⟩
   intro q
   rw[q,US] at e
   have q':oc=p.2:=Ly e
   exact d w' (by rw[←q'];exact UU)
def mj {v:V}(I:Inv X pins σ H s)(hN:X.N.Nodup)(hi:X.N[i]?=some x)(hx:CH X.env.scope x)(r:RelV v u)
(h:∀s',Inv X pins (σ.set i (some v)) H s'->Q () s')(hf:X.fn x=true\/X.env.scope.names.lookup x=some .local:=by first|exact .inl rfl|exact .inr rfl|assumption):wpAny M A (storeName X.env x u) Q E s:=
 nI I hN hi hx r (λs' I' _=>h s' I') hf
def Inv.call' {s':Shared}(I:Inv X pins σ H s)(ho:s'.os=s.os)(u:Un (bN X.stack) ch H H' s.heap s'.heap)(hok:HOk X.prog X.w H' s'.heap)(hg:AllBare s'.gens)
(TQ:∀b∈ch,(b∈X.ex\/X.s₀.heap.objs.size<=b)/\b≠X.env.locals/\(∀x c,X.env.cells.lookup x=some c->c≠b)/\∀p∈X.pn++pins,p.1≠b):Inv X pins σ H' s':=by
 obtain⟨h',g',d',t',o'⟩:=s'
 have e:o'=s.os:=ho
 subst e
 exact I.call (g':=g') (t':=t') (d':=d') u hok hg TQ
abbrev XK:=Value->Option Addr->Hp->Prop
abbrev St:=List (Option V)
abbrev VK:=V->Hp->Prop
abbrev TE:=St->Hp->VK->Prop
abbrev TT:=St->Hp->(Bool->Hp->Prop)->Prop
abbrev TA:=St->Hp->(ap->Hp->Prop)->Prop
structure tE where
 nx:St->Hp->Prop
 rt:VK
 bk:St->Hp->Prop:=λ_ _=>False
 ct:St->Hp->Prop:=λ_ _=>False
abbrev TS:=tE->St->Hp->Prop
def EP (X:Cx)(pins:XL)(σ:St)(Q:VK)(u:Value)(s':Shared):Prop:=∃v H',Inv X pins σ H' s'/\RelV v u/\Q v H'
def TP (X:Cx)(pins:XL)(σ:St)(Q:Bool->Hp->Prop)(b:Bool)(s':Shared):Prop:=∃H',Inv X pins σ H' s'/\Q b H'
def AP (X:Cx)(pins:XL)(σ:St)(Q:ap->Hp->Prop)(us:jp)(s':Shared):Prop:=∃vs H',Inv X pins σ H' s'/\Vals vs us/\Q vs H'
def SP (X:Cx)(pins:XL)(D:tE)(f:Flow)(s':Shared):Prop:=
 match f with
 | .next=>∃σ' H',Inv X pins σ' H' s'/\D.nx σ' H'
 | .brk=>∃σ' H',Inv X pins σ' H' s'/\D.bk σ' H'
 | .cont=>∃σ' H',Inv X pins σ' H' s'/\D.ct σ' H'
 | .ret u=>∃v σ' H',Inv X pins σ' H' s'/\RelV v u/\D.rt v H'
def PE (X:Cx)(e:Expr)(t:TE):Prop:=
 ∀(pins:XL) (s:Shared) (σ:St) (H:Hp) (Q:VK),Inv X pins σ H s->t σ H Q->wpAny (model X.prog X.w) X.A (eval e X.env) (EP X pins σ Q) X.xe s
def PT (X:Cx)(e:Expr)(t:TT):Prop:=
 ∀(pins:XL) (s:Shared) (σ:St) (H:Hp) (Q:Bool->Hp->Prop),Inv X pins σ H s->t σ H Q->wpAny (model X.prog X.w) X.A (isTrue e X.env (eval e X.env)) (TP X pins σ Q) X.xe s
def PW (X:Cx)(e:Expr)(t:TT):Prop:=
 ∀(whole:Sem Value) (pins:XL) (s:Shared) (σ:St) (H:Hp) (Q:Bool->Hp->Prop),Inv X pins σ H s->t σ H Q->wpAny (model X.prog X.w) X.A (isTrue e X.env whole) (TP X pins σ Q) X.xe s
variable {e:Expr}
def PW.pt {t:TT}(h:PW X e t):PT X e t:=h _
def PA (X:Cx)(es:List Expr)(t:TA):Prop:=
 ∀(pos:Pos) (pins:XL) (s:Shared) (σ:St) (H:Hp) (Q:ap->Hp->Prop),Inv X pins σ H s->t σ H Q->wpAny (model X.prog X.w) X.A (spliced (backTo pos (starEach es X.env))) (AP X pins σ Q) X.xe s
def PS (X:Cx)(st:Stmt)(t:TS):Prop:=
 ∀(pins:XL) (s:Shared) (σ:St) (H:Hp) (D:tE),Inv X pins σ H s->t D σ H->wpAny (model X.prog X.w) X.A (exec st X.env) (SP X pins D) X.xe s
def PSs (X:Cx)(st:List Stmt)(t:TS):Prop:=
 ∀(pins:XL) (s:Shared) (σ:St) (H:Hp) (D:tE),Inv X pins σ H s->t D σ H->wpAny (model X.prog X.w) X.A (execs st X.env) (SP X pins D) X.xe s
def O9 {t:Sem α}{Q Q':α->Shared->Prop}(h:wpAny M A t Q E s)(hQ:∀a s,Q a s->Q' a s):wpAny M A t Q' E s:=OS h hQ λ_ _ x=>x
section
variable {X:Cx}
def BB (i:Nat):TE:=λσ H Q=>∃v,σ[i]?=some (some v)/\Q v H
def tC (v:V):TE:=λ_ H Q=>Q v H
variable {x:Str}{pos:Pos}
def DW {i:Nat}(hN:X.N[i]?=some x)(hv:JX X.env.scope x)(hd:(x==("__debug__":Str))=false:=by decide)(RR:(x==("__classdict__":Str))=false:=by decide):PE X (.Name x pos) (BB i):=by
 intro pins s σ H Q I h;obtain⟨v,e,h⟩:=h;obtain⟨m,hn,hl⟩:=I.loc;obtain⟨u,r,l⟩:=hl i x v hN e hv;have fin:EP X pins σ Q u s:=⟨v,H,I,r,h⟩
 rcases l with⟨hk,hm⟩|⟨hk,c,hc,RT⟩
 .exact wpAny_Name (wpAny_loadName_local I.ok.kind hk hn hm fin) hd
 .rcases hk with hk|hk
  .exact wpAny_Name (wpAny_loadName_cell I.ok.kind hk hc RT fin) hd
  .exact wpAny_Name (wpAny_loadName_free I.ok.kind hk hc RT fin RR) hd
def Ep {i j pos}:PE X (.Constant (.int i) j pos) (tC (.int i)):=λ_ _ _ H _ I h=>wpAny_Constant_int ⟨.int i,H,I.tok _,⟨_,rfl⟩,h⟩
def Io {b j pos}:PE X (.Constant (.bool b) j pos) (tC (.bl b)):=λ_ _ _ H _ I h=>Constant_bool ⟨.bl b,H,I,rfl,h⟩
def DZ {j pos}:PE X (.Constant .none j pos) (tC .non):=λ_ _ _ H _ I h=>Constant_none ⟨.non,H,I,rfl,h⟩
def Fp {x j pos}:PE X (.Constant (.str x) j pos) (tC (.str x)):=λ_ _ _ H _ I h=>Calls.Constant_str ⟨.str x,H,I.tok _,⟨_,rfl⟩,h⟩
def Gl (X:Cx)(x:Str):Prop:=X.env.kindOf x=some .globalImplicit
variable {pins:XL}{s:Shared}{u:Value}
def gF {E:XV}{σ:St}{H:Hp}{Q:XV}(I:Inv X pins σ H s)(hg:Gl X x)(hm:X.mg x=some u)(h:Q u s)
(hd:(x==("__debug__":Str))=false:=by decide):wpAny (model X.prog X.w) X.A (eval (.Name x pos) X.env) Q E s:=
 OZ I.ok.kind hg (Calls.loadGlobal_global (by rw[I.ok.glob];exact I.mod.glob.keeps I.bk) hm h) hd
def cT {E:XV}{σ:St}{H:Hp}{Q:XV}(I:Inv X pins σ H s)(hg:Gl X x)(hm:X.mg x=none)(hv:bootBuiltins x=some u)(h:Q u s)
(hn:x≠"__name__":=by decide)(hd:(x==("__debug__":Str))=false:=by decide):wpAny (model X.prog X.w) X.A (eval (.Name x pos) X.env) Q E s:=by
 obtain⟨mb,h1,h2⟩:=I.mod.blt
 exact OZ I.ok.kind hg (Calls.loadGlobal_builtin (by rw[I.ok.glob];exact I.mod.glob.keeps I.bk) hm (by rw[I.ok.blt];exact h1.keeps I.bk) ((h2 x hn).trans hv) h) hd
def BD {v:V}(hg:Gl X x)(hm:X.mg x=some u)(r:RelV v u)(hd:(x==("__debug__":Str))=false:=by decide):PE X (.Name x pos) (tC v):=
 λ_ _ _ H _ I h=>gF I hg hm ⟨v,H,I,r,h⟩ hd
def BX {v:V}(hg:Gl X x)(hm:X.mg x=none)(hv:bootBuiltins x=some u)(r:RelV v u)(hn:x≠"__name__":=by decide)(hd:(x==("__debug__":Str))=false:=by decide):PE X (.Name x pos) (tC v):=
 λ_ _ _ H _ I h=>cT I hg hm hv ⟨v,H,I,r,h⟩ hn hd
variable {a b:Expr} {ta tb:TE} {pos:Pos}
theorem RelV.none_iff {x:V}{v:Value}(r:RelV x v):(v==Value.none)=decide (x= .non):=by grind [cases V,RelV]
variable {tA Ub:TT} {aI:List Expr}
def DF (t u:TT):TT:=λσ H Q=>t σ H λc H1=>if c=true then u σ H1 Q else Q false H1
def Ka (t u:TT):TT:=λσ H Q=>t σ H λc H1=>if c=true then Q true H1 else u σ H1 Q
def Fg (t:TT):TT:=λσ H Q=>t σ H λc H1=>Q (!c) H1
def BQ (ha:PT X a tA):PW X (.BoolOp .And [a] pos) tA:=by
 intro wh pins s σ H Q I h;refine isTrue_and (O9 (ha pins s σ H Q I h) λc s1 e=>?_);cases c with
 |true=>exact isTrue_and_nil e
 |false=>exact e
def FY (ha:PT X a tA):PW X (.BoolOp .Or [a] pos) tA:=by
 intro wh pins s σ H Q I h;refine isTrue_or (O9 (ha pins s σ H Q I h) λc s1 e=>?_);cases c with
 |false=>exact isTrue_or_nil e
 |true=>exact e
def FX (ha:PT X a tA)(hb:PW X (.BoolOp .And (b::aI) pos) Ub):PW X (.BoolOp .And (a::b::aI) pos) (DF tA Ub):=by
 intro wh pins s σ H Q I h;refine isTrue_and (O9 (ha pins s σ H _ I h) λc s1 ⟨H1,I1,q1⟩=>?_);cases c with
 |true=>exact hb wh pins s1 σ H1 Q I1 q1
 |false=>exact⟨H1,I1,q1⟩
def Hv (ha:PT X a tA)(hb:PW X (.BoolOp .Or (b::aI) pos) Ub):PW X (.BoolOp .Or (a::b::aI) pos) (Ka tA Ub):=by
 intro wh pins s σ H Q I h;refine isTrue_or (O9 (ha pins s σ H _ I h) λc s1 ⟨H1,I1,q1⟩=>?_);cases c with
 |true=>exact⟨H1,I1,q1⟩
 |false=>exact hb wh pins s1 σ H1 Q I1 q1
def Em (ha:PT X a tA):PT X (.UnaryOp .Not a pos) (Fg tA):=by
 intro pins s σ H Q I h;exact isTrue_not (ha pins s σ H (λc H1=>Q (!c) H1) I h)
def zB (ta tb:TE):TE:=λσ H Q=>ta σ H λx H1=>∃c,x= .bl c/\if c=true then tb σ H1 Q else Q (.bl false) H1
def EB (ta tb:TE):TE:=λσ H Q=>ta σ H λx H1=>∃c,x= .bl c/\if c=true then Q (.bl true) H1 else tb σ H1 Q
def yk (ta:TE):TE:=λσ H Q=>ta σ H λx H1=>∃c,x= .bl c/\Q (.bl (!c)) H1
def FG {op}{t:TE}(h:PE X a t):PE X (.BoolOp op [a] pos) t:=λpins s σ H Q I hw=>BoolOp_one (h pins s σ H Q I hw)
def DT (ha:PE X a ta)(hb:PE X (.BoolOp .And (b::aI) pos) tb):PE X (.BoolOp .And (a::b::aI) pos) (zB ta tb):=by
 intro pins s σ H Q I h;refine BoolOp_and (O9 (ha pins s σ H _ I h) λv s1 ⟨x,H1,I1,r1,q1⟩=>?_);obtain⟨c,rfl,q1⟩:=q1;cases r1;refine Na ?_;cases c with
 |true=>exact hb pins s1 σ H1 Q I1 q1
 |false=>exact⟨.bl false,H1,I1,rfl,q1⟩
def Ig (ha:PE X a ta)(hb:PE X (.BoolOp .Or (b::aI) pos) tb):PE X (.BoolOp .Or (a::b::aI) pos) (EB ta tb):=by
 intro pins s σ H Q I h;refine BoolOp_or (O9 (ha pins s σ H _ I h) λv s1 ⟨x,H1,I1,r1,q1⟩=>?_);obtain⟨c,rfl,q1⟩:=q1;cases r1;refine Na ?_;cases c with
 |false=>exact hb pins s1 σ H1 Q I1 q1
 |true=>exact⟨.bl true,H1,I1,rfl,q1⟩
def Fc (ha:PE X a ta):PE X (.UnaryOp .Not a pos) (yk ta):=by
 intro pins s σ H Q I h;refine UnaryOp_ (O9 (ha pins s σ H _ I h) λv s1 ⟨x,H1,I1,r1,q1⟩=>?_);obtain⟨c,rfl,q1⟩:=q1;cases r1;exact not_of (Na ⟨.bl (!c),H1,I1,rfl,q1⟩)
def JV (t:TT)(ta tb:TE):TE:=λσ H Q=>t σ H λc H1=>if c=true then ta σ H1 Q else tb σ H1 Q
def AD {c:Expr}(hc:PT X c tA)(ha:PE X a ta)(hb:PE X b tb):PE X (.IfExp c a b pos) (JV tA ta tb):=by
 intro pins s σ H Q I h;refine wpAny_IfExp (O9 (hc pins s σ H _ I h) λd s1 ⟨H1,I1,q1⟩=>?_);cases d with
 |true=>exact ha pins s1 σ H1 Q I1 q1
 |false=>exact hb pins s1 σ H1 Q I1 q1
end
def SqL (K:Qd)(H:Hp)(a:Addr)(xs:ap):Prop:=
 Rd H a (.lst xs)\/
  ∃(o:Obj) (a_:Array Value) (n:Nat),K.lookup a=some o/\o.cls= .type "list"/\o.dict=none/\o.data= .seq a_ n/\a_.size<=sizeLine/\Vals xs a_.toList
def SqT (K:Qd)(H:Hp)(a:Addr)(xs:ap):Prop:=
 Rd H a (.tup xs)\/
  ∃(o:Obj) (a_:Array Value) (n:Nat),K.lookup a=some o/\o.cls= .type "tuple"/\o.data= .seq a_ n/\a_.size<=sizeLine/\Vals xs a_.toList
def Hq:Value->Option V
 | .none=>some .non
 | .bool b=>some (.bl b)
 | .int i _=>some (.int i)
 | .str x _=>some (.str x)
 | .bytes b _=>some (.byt b)
 | .float b _=>some (.flt b)
 | .ref a=>some (.ref a)
 | .type n=>some (.ty n)
 |_=>none
theorem RelV.abs {x:V}(r:RelV x u):Hq u=some x:=by grind [cases V,RelV,Hq]
def RelV.inj {x y:V}(r:RelV x u)(q:RelV y u):x=y:=Ly (r.abs.symm.trans q.abs)
theorem Vals.inj:∀{xs ys:ap} {us:jp},Vals xs us->Vals ys us->xs=ys
 |_,_,_,.nil,.nil=>rfl
 |_,_,_,.cons r t,.cons r' t'=>by rw[r.inj r',Vals.inj t t']
section
variable {X:Cx} {pins:XL} {σ:St} {H:Hp} {s:Shared} {a:Addr} {xs ys:ap}
def SqL.of {K:Qd}(h:H a=some (.lst xs)):SqL K H a xs:= .inl (.inl h)
def SqT.of {K:Qd}(h:H a=some (.tup xs)):SqT K H a xs:= .inl (.inl h)
theorem Inv.list (I:Inv X pins σ H s)(h:SqL X.K H a xs):∃a_:jp,Vals xs a_/\PlainL s.heap a a_.toArray/\xs.length<=sizeLine:=by
 rcases h with h|⟨o,a_,n,hk,hc,hd,hs,hz,r⟩
 .obtain⟨z,a_,n,r,e⟩:=h.ok I.hok;exact⟨a_,r,⟨_,n,e,rfl,rfl,rfl⟩,z⟩
 .refine⟨a_.toList,r,⟨o,n,I.kIn a o hk,hc,hd,by simpa using hs⟩,?_⟩;have e:=r.length;simp only[Oe] at e;lia
theorem Inv.tuple (I:Inv X pins σ H s)(h:SqT X.K H a xs):∃a_:jp,Vals xs a_/\IsTup s.heap a a_.toArray/\xs.length<=sizeLine:=by
 rcases h with h|⟨o,a_,n,hk,hc,hs,hz,r⟩
 .obtain⟨z,a_,r,p⟩:=h.ok I.hok;exact⟨a_,r,p,z⟩
 .refine⟨a_.toList,r,⟨o,I.kIn a o hk,hc,n,by simpa using hs⟩,?_⟩;have e:=r.length;simp only[Oe] at e;lia
def Inv.list_inj (I:Inv X pins σ H s)(h:SqL X.K H a xs)(h':SqL X.K H a ys):xs=ys:=by
 obtain⟨a_,r,⟨o,n,e,_,_,d⟩,_⟩:=I.list h;obtain⟨its',r',⟨o',n',e',_,_,d'⟩,_⟩:=I.list h';rw[e] at e';cases e';rw[d] at d';injection d' with d1 _
 have:a_=its':=by simpa using MG Array.toList d1
 subst this;exact r.inj r'
def Inv.tuple_inj (I:Inv X pins σ H s)(h:SqT X.K H a xs)(h':SqT X.K H a ys):xs=ys:=by
 obtain⟨a_,r,⟨o,e,_,n,d⟩,_⟩:=I.tuple h;obtain⟨its',r',⟨o',e',_,n',d'⟩,_⟩:=I.tuple h';rw[e] at e';cases e';rw[d] at d';injection d' with d1 _
 have:a_=its':=by simpa using MG Array.toList d1
 subst this;exact r.inj r'
end
abbrev Cx.wish (X:Cx)(E:XV):Cx:={X with xe:=E}
abbrev Cx.nox (X:Cx):Cx:=X.wish λ_ _=>False
def Cx.Ok.wish (ok:X.Ok)(E:XV):(X.wish E).Ok:=
 ⟨ok.mod,ok.kind,ok.glob,ok.blt,ok.above,ok.inj,ok.has,ok.cab,ok.hd,ok.frames,ok.stk,ok.exf,ok.bs,ok.bsz,ok.noex,ok.exfs,ok.funs,ok.frf⟩
def Cx.Ok.unwish (ok:(X.wish E).Ok):X.Ok:=
 ⟨ok.mod,ok.kind,ok.glob,ok.blt,ok.above,ok.inj,ok.has,ok.cab,ok.hd,ok.frames,ok.stk,ok.exf,ok.bs,ok.bsz,ok.noex,ok.exfs,ok.funs,ok.frf⟩
section
variable {X:Cx} {pins:XL} {σ:St} {H:Hp} {s:Shared} {E:XV}
def Inv.wish (I:Inv X pins σ H s)(E:XV):Inv (X.wish E) pins σ H s:=⟨I.ok.wish E,I.os,I.bare,I.base,I.loc,I.cell,I.free,I.freeC,I.pin,I.hok,I.len⟩
def Inv.unwish (I:Inv (X.wish E) pins σ H s):Inv X pins σ H s:=⟨I.ok.unwish,I.os,I.bare,I.base,I.loc,I.cell,I.free,I.freeC,I.pin,I.hok,I.len⟩
def SP.unwish {D:tE}{f:Flow}{s':Shared}(h:SP (X.wish E) pins D f s'):SP X pins D f s':=by
 cases f with
 |next=>obtain⟨σ',H',I,q⟩:=h;exact⟨σ',H',I.unwish,q⟩
 |brk=>obtain⟨σ',H',I,q⟩:=h;exact⟨σ',H',I.unwish,q⟩
 |cont=>obtain⟨σ',H',I,q⟩:=h;exact⟨σ',H',I.unwish,q⟩
 |ret u=>obtain⟨v,σ',H',I,r,q⟩:=h;exact⟨v,σ',H',I.unwish,r,q⟩
def PSs.nox {st:List Stmt}{t:TS}(h:PSs X.nox st t):PSs X st t:=λpins s σ H D I hw=>
 OS (h pins s σ H D (I.wish _) hw) (λ_ _ q=>q.unwish) λ_ _ z=>False.elim z
end
section
variable {X:Cx} {st:Stmt} {aI:List Stmt} {t u:TS} {e:Expr} {te:TE} {pos:Pos}
def zz:TS:=λD σ H=>D.nx σ H
def jI (t u:TS):TS:=λD σ H=>t {D with nx:=u D} σ H
def Cw:PSs X [] zz:=λ_ _ σ H _ I h=>Oh ⟨σ,H,I,h⟩
def yQ (h1:PS X st t)(h2:PSs X aI u):PSs X (st::aI) (jI t u):=by
 intro pins s σ H D I h;refine wpAny_execs_cons (O9 (h1 pins s σ H {D with nx:=u D} I h) λf s1 q=>?_);cases f with
 |next=>
  obtain⟨σ',H',I',q⟩:=q
  exact h2 pins s1 σ' H' D I' q
 |ret v=>exact q
 |brk=>exact q
 |cont=>exact q
def Bs (h1:PS X st t):PSs X [st] t:=by
 intro pins s σ H D I h;refine wpAny_execs_cons (O9 (h1 pins s σ H D I h) λf s1 q=>?_);cases f with
 |next=>exact Oh q
 |ret v=>exact q
 |brk=>exact q
 |cont=>exact q
def Inv.quiet {pins:XL}{σ:St}{H:Hp}{s:Shared}(I:Inv X pins σ H s):interactive X.env=false:=by simp [interactive,I.ok.kind]
def yV (te:TE):TS:=λD σ H=>te σ H λ_ H1=>D.nx σ H1
def Cj (he:PE X e te)(hs:swapsWith e none pos.line X.env=pure false:=by rfl):PS X (.Expr e pos) (yV te):=by
 intro pins s σ H D I h;exact wpAny_Expr_any (O9 (he pins s σ H _ I h) λv s1 ⟨x,H1,I1,r1,q1⟩=>⟨σ,H1,I1,q1⟩) I.quiet hs
def zg (te:TE):TS:=λD σ H=>te σ H D.rt
def EY (he:PE X e te):PS X (.Return (some e) pos) (zg te):=by
 intro pins s σ H D I h;exact wpAny_Return_some (O9 (he pins s σ H _ I h) λv s1 ⟨x,H1,I1,r1,q1⟩=>⟨x,σ,H1,I1,r1,q1⟩)
def Ef (c:TT)(t u:TS):TS:=λD σ H=>c σ H λb H1=>if b=true then t D σ H1 else u D σ H1
def Ia {c:Expr}{a b:List Stmt}{tc:TT}(hc:PT X c tc)(ha:PSs X a t)(hb:PSs X b u):PS X (.If c a b pos) (Ef tc t u):=by
 intro pins s σ H D I h;refine wpAny_If (O9 (hc pins s σ H _ I h) λd s1 ⟨H1,I1,q1⟩=>?_);cases d with
 |true=>exact ha pins s1 σ H1 D I1 q1
 |false=>exact hb pins s1 σ H1 D I1 q1
end
abbrev TG:=V->St->Hp->(St->Hp->Prop)->Prop
abbrev tP:=ap->St->Hp->(St->Hp->Prop)->Prop
def PG (X:Cx)(target:Expr)(t:TG):Prop:=
 ∀(pins:XL) (s:Shared) (σ:St) (H:Hp) (v:V) (u:Value) (Q:St->Hp->Prop),Inv X pins σ H s->RelV v u->t v σ H Q->
  wpAny (model X.prog X.w) X.A (assign target X.env u) (λ_ s'=>∃σ' H',Inv X pins σ' H' s'/\Q σ' H') X.xe s
def Ba (X:Cx)(ts:List Expr)(t:tP):Prop:=
 ∀(pins:XL) (s:Shared) (σ:St) (H:Hp) (vs:ap) (us:jp) (Q:St->Hp->Prop),Inv X pins σ H s->Vals vs us->t vs σ H Q->
  wpAny (model X.prog X.w) X.A (assignInOrder ((assignEach ts X.env).map (·.2)) us) (λ_ s'=>∃σ' H',Inv X pins σ' H' s'/\Q σ' H') X.xe s
abbrev uH:=V->V->V->Hp->(Hp->Prop)->Prop
def wN (X:Cx)(t:uH):Prop:=
 ∀(pins:XL) (s:Shared) (σ:St) (H:Hp) (o i v:V) (ov iv u:Value) (Q:Hp->Prop),Inv X pins σ H s->RelV o ov->RelV i iv->RelV v u->t o i v H Q->
  wpAny (model X.prog X.w) X.A (setItem ov iv u) (λ_ s'=>∃H',Inv X pins σ H' s'/\Q H') X.xe s
def ah (i:Nat):TG:=λv σ H Q=>Q (σ.set i (some v)) H
variable {pos:Pos}
def BM {x:Str}(hN:X.N.Nodup)(hi:X.N[i]?=some x)(hx:CH X.env.scope x)(hf:X.fn x=true\/X.env.scope.names.lookup x=some .local:=by first|exact .inl rfl|exact .inr rfl|assumption):PG X (.Name x pos) (ah i):=by
 intro pins s σ H v u Q I r h;exact wpAny_assign_Name (mj I hN hi hx r (λs' I'=>⟨_,H,I',h⟩) hf)
def Ei:tP:=λvs σ H Q=>vs=[]/\Q σ H
def vA (t:TG)(u:tP):tP:=λvs σ H Q=>∃v r,vs=v::r/\t v σ H λσ' H'=>u r σ' H' Q
def BZ:Ba X [] Ei:=by
 intro pins s σ H vs us Q I r h;obtain⟨e,h⟩:=h;subst e;cases r;exact assignInOrder_nil ⟨σ,H,I,h⟩
variable {es:List Expr}
def zb {t:TG}{u:tP}(h1:PG X e t)(h2:Ba X es u)
(hs:(assignEach (e::es) X.env).map (·.2)=assign e X.env::(assignEach es X.env).map (·.2):=by rfl):Ba X (e::es) (vA t u):=by
 intro pins s σ H vs us Q I r h
 obtain⟨v,vr,e1,h⟩:=h
 subst e1
 cases r with
 |cons r rr=>
  rw[hs]
  refine assignInOrder_cons (O9 (h1 pins s σ H _ _ _ I r h) λ_ s1 ⟨σ1,H1,I1,q1⟩=>?_)
  exact h2 pins s1 σ1 H1 _ _ Q I1 rr q1
def zC (K:Qd)(n:Nat)(t:tP):TG:=λv σ H Q=>∃a xs,v= .ref a/\SqT K H a xs/\xs.length=n/\t xs σ H Q
def FE {k:Nat}{t:tP}{n:Nat}(hc:X.calm=true)(h:Ba X es t)
(hn:(assignEach es X.env).length=n:=by rfl)(SV:(assignEach es X.env).findIdx? (·.1)=none:=by rfl):PG X (.Tuple es k pos) (zC X.K n t):=by
 intro pins s σ H v u Q I r hw
 obtain⟨a,xs,e1,hq,hl,hw⟩:=hw
 subst e1
 cases r
 obtain⟨a_,rv,ht,hz⟩:=I.tuple hq
 refine assign_Tuple_tuple (I.ok.hd hc) ht (by simp [hn,←hl,rv.length]) SV λh' hx=>?_
 have I1:Inv X pins σ H {s with heap:=h'}:=I.kept (t':=s.toks) λb o e=>hx b o (Lz (Lu e)) e
 exact h pins _ σ H xs _ Q I1 (by simpa using rv) hw
def Ds (to ti:TE)(t:uH):TG:=λv σ H Q=>to σ H λo H1=>ti σ H1 λi H2=>t o i v H2 λH3=>Q σ H3
def Fu {o i:Expr}{to ti:TE}{t:uH}(ho:PE X o to)(hi:PE X i ti)(hs:wN X t)
(ha:∀v,assign (.Subscript o i pos) X.env v=(do
   let ov←holding [v] (eval o X.env)
   let iv←holding [v,ov] (eval i X.env)
   standAt pos
   holding [v,ov,iv] (setItem ov iv v)
   release [v,ov,iv] []):=by intro _;rfl):PG X (.Subscript o i pos) (Ds to ti t):=by
 intro pins s σ H v u Q I r h
 rw[ha]
 refine Lj (Mv (O9 (ho pins s σ H _ I h) λov s1 ⟨x,H1,I1,r1,q1⟩=>?_))
 refine Lj (Mv (O9 (hi pins s1 σ H1 _ I1 q1) λiv s2 ⟨y,H2,I2,r2,q2⟩=>?_))
 refine Lj (Rj (Lj (Mv (O9 (hs pins s2 σ H2 x y v ov iv u _ I2 r1 r2 r q2) λ_ s3 ⟨H3,I3,q3⟩=>?_))))
 exact wpAny_release ⟨σ,H3,I3,q3⟩
def um (te:TE)(g:TG):TS:=λD σ H=>te σ H λx H1=>g x σ H1 D.nx
variable {tg:Expr}
def DH {te:TE}{g:TG}(he:PE X e te)(hg:PG X tg g)(hs:swapsWithSole [tg] e pos.line X.env=pure false:=by rfl)(hw:swappedStores [tg] e X.env=pure none:=by rfl)
(h1:(assignEach [tg] X.env).map (·.2)=[assign tg X.env]:=by rfl):PS X (.Assign [tg] e pos) (um te g):=by
 intro pins s σ H D I h
 refine wpAny_Assign_stores (O9 (he pins s σ H _ I h) λv s1 ⟨x,H1,I1,r1,q1⟩=>?_) hs hw
 rw[h1]
 exact O9 (hg pins s1 σ H1 x v _ I1 r1 q1) λ_ s2 q=>q
def Fh {i:Nat}{x:Str}{te:TE}{pos':Pos}(hN:X.N.Nodup)(hi:X.N[i]?=some x)(hx:CH X.env.scope x)(he:PE X e te)(hs:swapsWith e (some (.Name x pos')) pos.line X.env=pure false:=by rfl)(hf:X.fn x=true\/X.env.scope.names.lookup x=some .local:=by first|exact .inl rfl|exact .inr rfl|assumption):
  PS X (.Assign [.Name x pos'] e pos) (um te (ah i)):=by
 intro pins s σ H D I h
 refine wpAny_Assign_Name (O9 (he pins s σ H _ I h) λv s1 ⟨y,H1,I1,r1,q1⟩=>?_) hs
 exact mj I1 hN hi hx r1 (λs2 I2=>⟨_,H1,I2,q1⟩) hf
def zM (c:TT)(tb:TS):TS:=λD σ H=>∃W:Nat->St->Hp->Prop,(∃m,W m σ H)/\∀m σ H,W m σ H->
 c σ H λb H1=>if b=true then ∃N:St->Hp->Prop,(∀σ' H',N σ' H'->∃m',m'<m/\W m' σ' H')/\tb {D with nx:=N,ct:=N,bk:=D.nx} σ H1 else D.nx σ H1
variable {body:List Stmt}
def Ag {c:Expr}{tc:TT}{tb:TS}(hp:PassesOwn (model X.prog X.w) X.A X.env X.xe)(hc:PT X c tc)(hb:PSs X body tb):PS X (.While c body [] pos) (zM tc tb):=by
 intro pins s σ H D I h;obtain⟨W,⟨m0,w0⟩,turn⟩:=h;refine wpAny_While (codeAny_whileLoop (λn s'=>∃σ' H',Inv X pins σ' H' s'/\W n σ' H') ?_ m0 ⟨σ,H,I,w0⟩);rintro n s1 ⟨σ1,H1,I1,w1⟩;refine Nq hp (O9 (hc pins s1 σ1 H1 _ I1 (turn n σ1 H1 w1)) λb s2 ⟨H2,I2,q2⟩=>?_);cases b with
 |true=>
  obtain⟨N,hN,q2⟩:=q2
  rw[if_pos rfl]
  refine Nq hp (O9 (hb pins s2 σ1 H2 _ I2 q2) λf s3 q3=>?_)
  cases f with
  |next=>
   obtain⟨σ3,H3,I3,n3⟩:=q3
   obtain⟨m',hm,w3⟩:=hN σ3 H3 n3
   exact⟨m',hm,σ3,H3,I3,w3⟩
  |cont=>
   obtain⟨σ3,H3,I3,n3⟩:=q3
   obtain⟨m',hm,w3⟩:=hN σ3 H3 n3
   exact⟨m',hm,σ3,H3,I3,w3⟩
  |brk=>exact q3
  |ret v=>exact q3
 |false=>
  rw[if_neg Ma]
  exact Oh ⟨σ1,H2,I2,q2⟩
structure It where
 go:Nat->Hp->Prop
 yld:Nat->Hp->V->Hp->Prop
 stop:Nat->Hp->Prop
def ij (X:Cx)(pins:XL)(H:Hp)(b:Addr):Prop:=
 H b=none/\b≠X.env.locals/\b∉X.fs/\(b∈X.ex\/X.s₀.heap.objs.size<=b)/\(∀x c,X.env.cells.lookup x=some c->c≠b)/\∀p∈X.pn++pins,p.1≠b
def Inv.fpOk {σ:St}(I:Inv X pins σ H s)(hb:s.heap.objs.size<=b)(hn:H' b=none):ij X pins H' b:=by
 refine⟨hn,Qj (Lv I.lt hb),I.nofs hb,.inr (LJ I.sz hb),λx c e z=>?_,λp hp z=>?_⟩
 .obtain⟨v,q⟩:=I.cell x c e;exact absurd (Lv q.lt (by rw[z];exact hb)) (MQ _)
 .exact absurd (Lv (Lu (I.pin p hp).1) (by rw[z];exact hb)) (MQ _)
structure iJ (P:Program) (w:World) (K:Qd) (tg:Expr) (J:It) (fp:List Addr) (it:Addr) (tn:Nat->Heap->Prop):Prop where
 mem:it∈fp
 obj:∀i h,tn i h->∀b∈fp,∃o,h.get? b=some o/\∀v,o.data≠ .cell v
 keep:∀i h h',tn i h->(∀b∈fp,∀o,h.get? b=some o->h'.get? b=some o)->tn i h'
 item:∀(X:Cx),X.prog=P->X.w=w->X.K=K->X.calm=true->∀(i:Nat) (pins:XL) (s:Shared) (σ:St) (H:Hp) (E:XV),Inv X pins σ H s->(∀b∈fp,ij X pins H b)->tn i s.heap->J.go i H->
  wpAny (model P w) X.A (pyNext (.ref it)) (λr s1=>∃u,r=some u/\
   wpAny (model P w) X.A (letOwnedTupleGo tg (.ref it) u) (λ_ s2=>∃x H',Inv X pins σ H' s2/\RelV x u/\J.yld i H x H'/\tn (i+1) s2.heap/\∀b∈fp,H' b=none) E s1) E s
 done:∀(X:Cx),X.prog=P->X.w=w->X.K=K->X.calm=true->∀(i:Nat) (pins:XL) (s:Shared) (σ:St) (H:Hp) (E:XV),Inv X pins σ H s->(∀b∈fp,ij X pins H b)->tn i s.heap->J.stop i H->
  wpAny (model P w) X.A (pyNext (.ref it)) (λr s1=>r=none/\Inv X pins σ H s1) E s
 self:∀(A:Around) (i:Nat) (s:Shared) (Q:XV) (E:XV),tn i s.heap->Q (.ref it) s->wpAny (model P w) A (pyIter (.ref it)) Q E s
abbrev TI:=St->Hp->(It->Hp->Prop)->Prop
def IS (X:Cx)(pins:XL)(σ:St)(tg:Expr)(R:It->Hp->Prop)(WK:Value)(s2:Shared):Prop:=
 ∃(it:Addr) (fp:List Addr) (tn:Nat->Heap->Prop) (J:It) (H':Hp),WK= .ref it/\Inv X pins σ H' s2/\iJ X.prog X.w X.K tg J fp it tn/\tn 0 s2.heap/\(∀b∈fp,ij X pins H' b)/\R J H'
def PI (X:Cx)(tg iter:Expr)(wi:TI):Prop:=
 ∀(pins:XL) (s:Shared) (σ:St) (H:Hp) (R:It->Hp->Prop),Inv X pins σ H s->wi σ H R->
  wpAny (model X.prog X.w) X.A (eval iter X.env) (λv s1=>wpAny (model X.prog X.w) X.A (pyIter v) (IS X pins σ tg R) X.xe s1) X.xe s
def rG {E : Value -> Shared -> Prop}{u : Value}{o : Obj}{n : String}{vs : Array Value}(ho : s.heap.get? it = some o)(hc : o.cls = .type n)(hd : o.data = .fields vs)
(hn : ["enumerate", "zip", "dict_itemiterator", "dict_reverseitemiterator", "odict_iterator", "itertools.zip_longest", "itertools.pairwise"].contains n = false)(hQ : Q () s) : wpAny M A (letOwnedTupleGo tg (.ref it) u) Q E s := by
  unfold letOwnedTupleGo
  cases tg <;> first
    | exact Lw hQ
    | (cases u <;> first
        | exact Lw hQ
        | (refine Lj (wpAny_load ho ?_)
           rw [hc, hd]
           show wpAny M A (if (["enumerate", "zip", "dict_itemiterator", "dict_reverseitemiterator", "odict_iterator", "itertools.zip_longest", "itertools.pairwise"].contains n && vs[0]? == some (rawInt _)) = true then _ else _) Q E s
           rw [if_neg (by intro h; rw [hn, Bool.false_and] at h; cases h)]
           exact Lw hQ))
def Itl (K:Qd)(a:Addr):It:=
 ⟨λi H=>∃xs x,SqL K H a xs/\xs[i]?=some x,λi H x H'=>H'=H/\∀xs,SqL K H a xs->xs[i]?=some x,λi H=>∃xs,SqL K H a xs/\xs.length<=i⟩
def Kj (K:Qd)(a:Addr):It:=
 ⟨λi H=>∃xs x,SqT K H a xs/\xs[i]?=some x,λi H x H'=>H'=H/\∀xs,SqT K H a xs->xs[i]?=some x,λi H=>∃xs,SqT K H a xs/\xs.length<=i⟩
def IX (lo:Int)(n:Nat):It:=⟨λi _=>i<n,λi H x H'=>H'=H/\x= .int (lo+i),λi _=>n<=i⟩
variable {K:Qd}
theorem vY (a it:Addr):iJ P w K tg (Itl K a) [it] it (λi h=>h.IsListIter it a i) where
 mem:=by simp
 obj:=λi h st b hb=>by
  have e:b=it:=by simpa using hb
  subst e;obtain⟨o,e,c,d⟩:=st;exact⟨o,e,λv z=>by rw[d] at z;cases z⟩
 keep:=λi h h' st k=>st.at λo e=>k it (by simp) o e
 item:=by
  intro X hP hw hK hc i pins s σ H E I hf st hg;subst hP hw hK;obtain⟨xs,x,hq,hx⟩:=hg;obtain⟨a_,rv,p,hz⟩:=I.list hq;obtain⟨u,hu,ru⟩:=rv.get hx;obtain⟨f0,f1,f2,f3,f4,f5⟩:=hf it (by simp);refine OA st p.isList (x:=u) (by simpa using hu) λh' G' sb=>?_;have I1:Inv X pins σ H {s with heap:=h'}:=I.turned (t':=s.toks) (λb o hb e=>(sb.2 b hb).trans e) f0 f1 f3 f4 f5;obtain⟨o,e,c,d⟩:=id G';exact⟨u,rfl,rG (s:={s with heap:=h'}) e c d (by decide) ⟨x,H,I1,ru,⟨rfl,λys hy=>by rw[I.list_inj hy hq];exact hx⟩,G',λb hb=>(hf b hb).1⟩⟩
 done:=by
  intro X hP hw hK hc i pins s σ H E I hf st hg;subst hP hw hK;obtain⟨xs,hq,hx⟩:=hg;obtain⟨a_,rv,p,hz⟩:=I.list hq;obtain⟨f0,f1,f2,f3,f4,f5⟩:=hf it (by simp);have hl:=rv.length;exact OJ (I.ok.hd hc) st p.isList (by simp;lia) λh' eb=>⟨rfl,I.turned (t':=s.toks) (λb o hb e=>eb b o hb e) f0 f1 f3 f4 f5⟩
 self:=λ_ _ _ _ _ st h=>wpAny_pyIter_listiter st h
theorem uD (a it:Addr):iJ P w K tg (Kj K a) [it] it (λi h=>h.IsTupleIter it a i) where
 mem:=by simp
 obj:=λi h st b hb=>by
  have e:b=it:=by simpa using hb
  subst e;obtain⟨o,e,c,d⟩:=st;exact⟨o,e,λv z=>by rw[d] at z;cases z⟩
 keep:=λi h h' st k=>st.at λo e=>k it (by simp) o e
 item:=by
  intro X hP hw hK hc i pins s σ H E I hf st hg;subst hP hw hK;obtain⟨xs,x,hq,hx⟩:=hg;obtain⟨a_,rv,p,hz⟩:=I.tuple hq;obtain⟨u,hu,ru⟩:=rv.get hx;obtain⟨f0,f1,f2,f3,f4,f5⟩:=hf it (by simp);refine wpAny_pyNext_tuple_item st (show s.heap.IsTuple a a_.toArray from p) (x:=u) (by simpa using hu) λh' G' sb=>?_;have I1:Inv X pins σ H {s with heap:=h'}:=I.turned (t':=s.toks) (λb o hb e=>(sb.2 b hb).trans e) f0 f1 f3 f4 f5;obtain⟨o,e,c,d⟩:=id G';exact⟨u,rfl,rG (s:={s with heap:=h'}) e c d (by decide) ⟨x,H,I1,ru,⟨rfl,λys hy=>by rw[I.tuple_inj hy hq];exact hx⟩,G',λb hb=>(hf b hb).1⟩⟩
 done:=by
  intro X hP hw hK hc i pins s σ H E I hf st hg;subst hP hw hK;obtain⟨xs,hq,hx⟩:=hg;obtain⟨a_,rv,p,hz⟩:=I.tuple hq;obtain⟨f0,f1,f2,f3,f4,f5⟩:=hf it (by simp);have hl:=rv.length;exact wpAny_pyNext_tuple_end (I.ok.hd hc) st (show s.heap.IsTuple a a_.toArray from p) (by simp;lia) λh' eb=>⟨rfl,I.turned (t':=s.toks) (λb o hb e=>eb b o hb e) f0 f1 f3 f4 f5⟩
 self:=λ_ _ _ _ _ st h=>wpAny_pyIter_tupleiter st h
theorem uB (it:Addr)(lo:Int)(n:Nat):iJ P w K tg (IX lo n) [it] it (λi h=>IsRangeIter h it (lo+(i:Nat)*1) ((n:Int) -(i:Nat)) 1) where
 mem:=by simp
 obj:=λi h st b hb=>by
  have e:b=it:=by simpa using hb
  subst e;exact⟨_,st,λv z=>by
   have z':Data.fields _=Data.cell v:=z;cases z'⟩
 keep:=λi h h' st k=>k it (by simp) _ st
 item:=by
  intro X hP hw hK hc i pins s σ H E I hf st hg;subst hP hw hK;obtain⟨f0,f1,f2,f3,f4,f5⟩:=hf it (by simp);have W:=Walks.range (prog:=X.prog) (w:=X.w) (I.ok.hd hc) it lo 1 n;refine W.item i s _ _ hg st λv h' tk hv G' kk=>?_;obtain⟨t,rfl⟩:=hv;have I1:Inv X pins σ H {s with heap:=h',toks:=tk}:=I.turned (λb o hb e=>kk b o (by simpa using hb) e) f0 f1 f3 f4 f5;refine⟨_,rfl,rG (s:={s with heap:=h',toks:=tk}) (n:="range_iterator") G' rfl rfl (by decide) ⟨.int (lo+i),H,I1,⟨t,?_⟩,⟨rfl,rfl⟩,G',λb hb=>(hf b hb).1⟩⟩;rw[Int.mul_one]
 done:=by
  intro X hP hw hK hc i pins s σ H E I hf st hg;subst hP hw hK;obtain⟨f0,f1,f2,f3,f4,f5⟩:=hf it (by simp);exact wpAny_pyNext_range_end (I.ok.hd hc) st (by have:n<=i:=hg;lia) λh' eb=>⟨rfl,I.turned (t':=s.toks) (λb o hb e=>eb b o hb e) f0 f1 f3 f4 f5⟩
 self:=λ_ _ _ _ _ st h=>wpAny_pyIter_rangeiter st h
theorem yO {σ:St}{R:It->Hp->Prop}{E:XV}{lo hi:Int}{t u v:Tok}{tk:Nat}(I:Inv X pins σ H s)(h1: -(2 ^ 62)<=lo)(h2:lo<2 ^ 62)(h3: -(2 ^ 62)<=hi)(h4:hi<2 ^ 62)
(q:R (IX lo (hi -lo).toNat) H):wpAny (model X.prog X.w) X.A (pyIter (.ref s.heap.objs.size)) (IS X pins σ tg R) E {s with heap:=s.heap.push {cls:= .type "range",data:= .fields #[.int lo t,.int hi u,.int 1 v]},toks:=tk}:=by
 refine wpAny_pyIter_range (IsRange.new ..) (small_one h1 h2 h3 h4) ?_
 have I1:Inv X pins σ H {s with heap:=s.heap.push {cls:= .type "range",data:= .fields #[.int lo t,.int hi u,.int 1 v]},toks:=tk}:=I.kept λb o e=>Lk _ e
 refine⟨(s.heap.push {cls:= .type "range",data:= .fields #[.int lo t,.int hi u,.int 1 v]}).objs.size,[(s.heap.push {cls:= .type "range",data:= .fields #[.int lo t,.int hi u,.int 1 v]}).objs.size],_,_,H,rfl,
  I1.kept (t':=tk) λb o e=>Lk _ e,uB _ lo (hi -lo).toNat,?_,λb hb=>?_,q⟩
 .have e1:lo+((0:Nat):Int)*1=lo:=by simp
  have e2:(((hi -lo).toNat:Nat):Int) -((0:Nat):Int)=Builtin.Range.rangeSize lo hi 1:=by rw[rangeSize_one];split<;>lia
  show IsRangeIter _ _ (lo+((0:Nat):Int)*1) ((((hi -lo).toNat:Nat):Int) -((0:Nat):Int)) 1
  rw[e1,e2]
  exact LC _ rfl
 .have e:b=(s.heap.push {cls:= .type "range",data:= .fields #[.int lo t,.int hi u,.int 1 v]}).objs.size:=by simpa using hb
  subst e
  exact I1.fpOk (La _) (I1.hok.fresh (La _))
def Ah (ta:TA):TI:=λσ H R=>ta σ H λvs H1=>∃j:Int,vs=[.int j]/\-(2 ^ 62)<=j/\j<2 ^ 62/\R (IX 0 j.toNat) H1
variable {a:Expr}
theorem wc {ta:TA}{p:Pos}(hg:Gl X "range")(hm:X.mg "range"=none)(ha:PA X [a] ta)(hs:starEach [a] X.env=[(false,eval a X.env)]:=by rfl):PI X tg (.Call (.Name "range" p) [a] [] pos) (Ah ta):=by
 intro pins s σ H R I h;refine Call_ (cT I hg hm boot_range (MK (O9 (ha pos pins s σ H _ I h) λus s1 ⟨vs,H1,I1,r1,q1⟩=>?_) hs rfl));obtain⟨j,e,q1,q2,q⟩:=q1;subst e;cases r1 with
 |cons r rr=>
  cases rr
  obtain⟨t,rfl⟩:=r
  exact call_range_1 (yO I1 (by lia) (by lia) q1 q2 (by simpa using q))
def kN (fp:List Addr)(h:Heap):XL:=fp.filterMap λb=>(h.get? b).map λo=>(b,o)
variable {fp:List Addr}
def bS {o:Obj}(hb:b∈fp)(e:h.get? b=some o):(b,o)∈kN fp h:=Oi.mpr ⟨b,hb,by rw[e];rfl⟩
def wX {p:Addr×Obj}(hp:p∈kN fp h):p.1∈fp/\h.get? p.1=some p.2:=by
 obtain⟨b,hb,e⟩:=Oi.mp hp;cases q:h.get? b with
 |none=>rw[q] at e;cases e
 |some o=>
  rw[q] at e
  have e':(b,o)=p:=Ly e
  subst e'
  exact⟨hb,q⟩
def Inv.pinned {σ:St}(I:Inv X pins σ H s)(hf:∀b∈fp,ij X pins H b)(ho:∀b∈fp,∃o,s.heap.get? b=some o/\∀v,o.data≠ .cell v):Inv X (pins++kN fp s.heap) σ H s:=
 I.pins_of λp hp=>(Ld.mp hp).elim (λz=>I.pin p (Lf _ z)) λz=>by
  obtain⟨hb,e⟩:=wX z;obtain⟨f0,f1,f2,_⟩:=hf p.1 hb;obtain⟨o,e',d⟩:=ho p.1 hb;rw[e] at e';cases e';exact⟨e,f0,f1,f2,d⟩
def Inv.unpinned {pl:XL}{σ:St}(I:Inv X (pins++pl) σ H s):Inv X pins σ H s:=I.pins_of λp hp=>I.pin p (Lf _ (Lb _ hp))
abbrev R2:=V->V->Hp->VK->Prop
def OpR (X:Cx)(f:Value->Value->Sem Value)(r:R2):Prop:=
 ∀(pins:XL) (s:Shared) (σ:St) (H:Hp) (x y:V) (v u:Value) (Q:VK),Inv X pins σ H s->RelV x v->RelV y u->r x y H Q->
  wpAny (model X.prog X.w) X.A (f v u) (EP X pins σ Q) X.xe s
def IZ (X:Cx)(f:Value->Sem Value)(r:V->Hp->VK->Prop):Prop:=
 ∀(pins:XL) (s:Shared) (σ:St) (H:Hp) (x:V) (v:Value) (Q:VK),Inv X pins σ H s->RelV x v->r x H Q->
  wpAny (model X.prog X.w) X.A (f v) (EP X pins σ Q) X.xe s
def CallR (X:Cx)(f:Value)(r:ap->Hp->VK->Prop):Prop:=
 ∀(pins:XL) (s:Shared) (σ:St) (H:Hp) (xs:ap) (us:jp) (Q:VK),Inv X pins σ H s->Vals xs us->r xs H Q->
  wpAny (model X.prog X.w) X.A (call f us) (EP X pins σ Q) X.xe s
def Jk (X:Cx)(r:V->Hp->(Bool->Hp->Prop)->Prop):Prop:=
 ∀(pins:XL) (s:Shared) (σ:St) (H:Hp) (x:V) (v:Value) (Q:Bool->Hp->Prop),Inv X pins σ H s->RelV x v->r x H Q->
  wpAny (model X.prog X.w) X.A (truthy v) (TP X pins σ Q) X.xe s
def Bv (r:R2)(ta tb:TE):TE:=λσ H Q=>ta σ H λx H1=>tb σ H1 λy H2=>r x y H2 Q
def Kb (r:V->Hp->VK->Prop)(ta:TE):TE:=λσ H Q=>ta σ H λx H1=>r x H1 Q
def rI (C:Int->Int->Prop)(g:Int->Int->V):R2:=λx y H Q=>∃i j,x= .int i/\y= .int j/\C i j/\Q (g i j) H
def zc (g:Int->Int->V):R2:=λx y H Q=>∃i j,x= .int i/\y= .int j/\Q (g i j) H
def rU (g:Int->V):V->Hp->VK->Prop:=λx H Q=>∃i,x= .int i/\Q (g i) H
variable {b:Expr}{tb ta:TE}{f:Value->Value->Sem Value}
def FA (ha:PE X a ta)(hb:PE X b tb){σ:St}{R:V->V->Hp->Prop}(I:Inv X pins σ H s)
(h:ta σ H λx H1=>tb σ H1 λy H2=>R x y H2){Q:XV}
(hf:∀v u s2 x y H2,Inv X pins σ H2 s2->RelV x v->RelV y u->R x y H2->wpAny (model X.prog X.w) X.A (f v u) Q X.xe s2):
  wpAny (model X.prog X.w) X.A (eval a X.env) (λv s₁=>wpAny (model X.prog X.w) X.A (eval b X.env) (λu s₂=>wpAny (model X.prog X.w) X.A (f v u) Q X.xe s₂) X.xe s₁) X.xe s:=by
 refine O9 (ha pins s σ H _ I h) λv s1 ⟨x,H1,I1,r1,q1⟩=>?_
 refine O9 (hb pins s1 σ H1 _ I1 q1) λu s2 ⟨y,H2,I2,r2,q2⟩=>?_
 exact hf v u s2 x y H2 I2 r1 r2 q2
def II {op:Operator}{r:R2}(ho:OpR X (binaryOp op) r)(ha:PE X a ta)(hb:PE X b tb):PE X (.BinOp a op b pos) (Bv r ta tb):=by
 intro pins s σ H Q I h;exact wpAny_BinOp (FA ha hb I h λv u s2 x y H2 I2 rx ry q=>ho pins s2 σ H2 x y v u Q I2 rx ry q)
def GX {op:UnaryOp}{r:V->Hp->VK->Prop}(ho:IZ X (unaryOp op) r)(ha:PE X a ta):PE X (.UnaryOp op a pos) (Kb r ta):=by
 intro pins s σ H Q I h;exact UnaryOp_ (O9 (ha pins s σ H _ I h) λv s1 ⟨x,H1,I1,r1,q1⟩=>ho pins s1 σ H1 x v Q I1 r1 q1)
variable {g:Int->Int->Int}
def IT {C:Int->Int->Prop}
(rule:∀(i j:Int) (t u:Tok) (s:Shared) (Q:XV) (E:XV),C i j->Q (.int (g i j) s.toks) {s with toks:=s.toks+1}->wpAny (model X.prog X.w) X.A (f (.int i t) (.int j u)) Q E s):
  OpR X f (rI C λi j=> .int (g i j)):=by
 intro pins s σ H x y v u Q I rx ry h
 obtain⟨i,j,rfl,rfl,hc,q⟩:=h
 obtain⟨t,rfl⟩:=rx
 obtain⟨t',rfl⟩:=ry
 exact rule i j t t' s _ _ hc ⟨.int (g i j),H,I.tok _,⟨_,rfl⟩,q⟩
def Ew
(rule:∀(i j:Int) (t u:Tok) (s:Shared) (Q:XV) (E:XV),Q (.int (g i j) s.toks) {s with toks:=s.toks+1}->wpAny (model X.prog X.w) X.A (f (.int i t) (.int j u)) Q E s):
  OpR X f (zc λi j=> .int (g i j)):=by
 intro pins s σ H x y v u Q I rx ry h
 obtain⟨i,j,rfl,rfl,q⟩:=h
 obtain⟨t,rfl⟩:=rx
 obtain⟨t',rfl⟩:=ry
 exact rule i j t t' s _ _ ⟨.int (g i j),H,I.tok _,⟨_,rfl⟩,q⟩
def Ek {g:Int->Int->Bool}
(rule:∀(i j:Int) (t u:Tok) (s:Shared) (Q:XV) (E:XV),Q (.bool (g i j)) s->wpAny (model X.prog X.w) X.A (f (.int i t) (.int j u)) Q E s):
  OpR X f (zc λi j=> .bl (g i j)):=by
 intro pins s σ H x y v u Q I rx ry h
 obtain⟨i,j,rfl,rfl,q⟩:=h
 obtain⟨t,rfl⟩:=rx
 obtain⟨t',rfl⟩:=ry
 exact rule i j t t' s _ _ ⟨.bl (g i j),H,I,rfl,q⟩
def GF (i j:Int):Prop:=0<j/\j<1073741824
def JF (i j:Int):Prop:=0<=j/\j<=1000000/\i.natAbs<2 ^ 64
def CMul (i j:Int):Prop:=(-(2 ^ 64)<i/\i<2 ^ 64)\/(-(2 ^ 64)<j/\j<2 ^ 64)
def CMul.ok {i j:Int}(h:CMul i j):IntMulOk i j:=by
 rcases h with⟨h1,h2⟩|⟨h1,h2⟩
 .exact .of_left (intBits_le_64 h1 h2)
 .exact .of_right (intBits_le_64 h1 h2)
def ur (k:Nat):(0:Int)<=2 ^ k:=by
 rw[two_pow_cast];exact Int.natCast_nonneg _
def op_add:OpR X (binaryOp .Add) (zc λi j=> .int (i+j)):=Ew λ_ _ _ _ _ _ _ q=>add_int q
def pN:OpR X (binaryOp .Sub) (zc λi j=> .int (i -j)):=Ew λ_ _ _ _ _ _ _ q=>sub_int q
def op_mul:OpR X (binaryOp .Mult) (rI CMul λi j=> .int (i*j)):=IT λ_ _ _ _ _ _ _ hc q=>mul_int q hc.ok
theorem E7:OpR X (binaryOp .FloorDiv) (rI GF λi j=> .int (i/j)):=IT λi j _ _ _ _ _ hc q=>by
 have h1:(0:Int)<j:=hc.1;have h2:j<1073741824:=hc.2;exact floordiv_int (by lia) (by rw[Pa i (by lia)];exact q) (.inl (PyProof.noPylong_small (by lia)))
theorem A5:OpR X (binaryOp .Mod) (rI (λ_ j=>0<j) λi j=> .int (i % j)):=IT λi j _ _ _ _ _ hc q=>by
 have h1:(0:Int)<j:=hc;exact mod_int' (by lia) (by rw[Int.fmod_eq_emod_of_nonneg i (by lia)];exact q)
def zo:OpR X (binaryOp .RShift) (rI (λ_ j=>0<=j) λi j=> .int (i/2 ^ j.toNat)):=IT λi j _ _ _ _ _ hc q=>
 rshift_int hc (by rw[Pa i (ur _)];exact q)
def yc:OpR X (binaryOp .BitAnd) (zc λi j=> .int (Builtin.bitAnd i j)):=Ew λ_ _ _ _ _ _ _ q=>and_int q
def KJ {f:Value->Sem Value}{g:Int->Int}
(rule:∀(i:Int) (t:Tok) (s:Shared) (Q:XV) (E:XV),Q (.int (g i) s.toks) {s with toks:=s.toks+1}->wpAny (model X.prog X.w) X.A (f (.int i t)) Q E s):
  IZ X f (rU λi=> .int (g i)):=by
 intro pins s σ H x v Q I rx h
 obtain⟨i,rfl,q⟩:=h
 obtain⟨t,rfl⟩:=rx
 exact rule i t s _ _ ⟨.int (g i),H,I.tok _,⟨_,rfl⟩,q⟩
def ph:IZ X (unaryOp .USub) (rU λi=> .int (-i)):=KJ λ_ _ _ _ _ q=>neg_int q
def HE:V->V->Bool
 | .non,.non=>true| .non,.int _=>true| .int _,.non=>true| .non,.bl _=>true| .bl _,.non=>true| .non,.str _=>true| .str _,.non=>true
 | .int _,.int _=>true| .bl _,.bl _=>true| .str _,.str _=>true| .byt _,.byt _=>true
 | .int _,.str _=>true| .str _,.int _=>true| .bl _,.str _=>true| .str _,.bl _=>true
 |_,_=>false
def Je:R2:=λx y H Q=>HE x y=true/\Q (.bl (decide (x=y))) H
def Jm:R2:=λx y H Q=>HE x y=true/\Q (.bl (!decide (x=y))) H
def jW {i j:Int}:decide (V.int i=V.int j)=(i==j):=by
 rw[Mh];simp
def zk {i j:Bool}:decide (V.bl i=V.bl j)=(i==j):=by
 rw[Mh];simp
def oT {i j:Str}:decide (V.str i=V.str j)=(i==j):=by
 rw[Mh];simp
def vt {i j:Array UInt8}:decide (V.byt i=V.byt j)=(i.toList==j.toList):=by
 rw[Mh];cases i;cases j;simp
def E9 {σ:St}{Q:VK}{k k':Bool}(I:Inv X pins σ H s)(q:Q (.bl k) H)(e:k=k'):EP X pins σ Q (.bool k') s:=by
 subst e;exact⟨.bl k,H,I,rfl,q⟩
def op_eq:OpR X (compareOp .Eq) Je:=by
 intro pins s σ H x y v u Q I rx ry h;obtain⟨hs,q⟩:=h;cases x with
 |non=>
  cases rx
  cases y with
  |non=>cases ry;exact PySem.EqNone.eq_none_none (E9 I q (by simp))
  |bl j=>cases ry;exact PySem.EqNone.eq_none_bool (E9 I q (by simp))
  |int j=>obtain⟨t',rfl⟩:=ry;exact PySem.EqNone.eq_none_int (E9 I q (by simp))
  |str j=>obtain⟨t',rfl⟩:=ry;exact PySem.EqNone.eq_none_str (E9 I q (by simp))
  |_=>exact absurd (show false=true from hs) Ma
 |bl i=>
  cases rx
  cases y with
  |non=>cases ry;exact PySem.EqNone.eq_bool_none (E9 I q (by simp))
  |bl j=>cases ry;exact eq_bool (E9 I q zk)
  |str j=>obtain⟨t',rfl⟩:=ry;exact PySem.EqMixed.eq_bool_str (E9 I q (by simp))
  |_=>exact absurd (show false=true from hs) Ma
 |int i=>
  obtain⟨t,rfl⟩:=rx
  cases y with
  |non=>cases ry;exact PySem.EqNone.eq_int_none (E9 I q (by simp))
  |int j=>obtain⟨t',rfl⟩:=ry;exact eq_int (E9 I q jW)
  |str j=>obtain⟨t',rfl⟩:=ry;exact PySem.EqMixed.eq_int_str (E9 I q (by simp))
  |_=>exact absurd (show false=true from hs) Ma
 |str i=>
  obtain⟨t,rfl⟩:=rx
  cases y with
  |non=>cases ry;exact PySem.EqNone.eq_str_none (E9 I q (by simp))
  |bl j=>cases ry;exact PySem.EqMixed.eq_str_bool (E9 I q (by simp))
  |int j=>obtain⟨t',rfl⟩:=ry;exact PySem.EqMixed.eq_str_int (E9 I q (by simp))
  |str j=>obtain⟨t',rfl⟩:=ry;exact eq_str (E9 I q oT)
  |_=>exact absurd (show false=true from hs) Ma
 |byt i=>
  obtain⟨t,rfl⟩:=rx
  cases y with
  |byt j=>obtain⟨t',rfl⟩:=ry;exact PySem.W.eq_bytes (E9 I q vt)
  |_=>exact absurd (show false=true from hs) Ma
 |_=>cases y<;>exact absurd (show false=true from hs) Ma
def op_ne:OpR X (compareOp .NotEq) Jm:=by
 intro pins s σ H x y v u Q I rx ry h;obtain⟨hs,q⟩:=h;cases x with
 |non=>
  cases rx
  cases y with
  |non=>cases ry;exact PySem.EqNone.ne_none_none (E9 I q (by simp))
  |bl j=>cases ry;exact PySem.EqNone.ne_none_bool (E9 I q (by simp))
  |int j=>obtain⟨t',rfl⟩:=ry;exact PySem.EqNone.ne_none_int (E9 I q (by simp))
  |str j=>obtain⟨t',rfl⟩:=ry;exact PySem.EqNone.ne_none_str (E9 I q (by simp))
  |_=>exact absurd (show false=true from hs) Ma
 |bl i=>
  cases rx
  cases y with
  |non=>cases ry;exact PySem.EqNone.ne_bool_none (E9 I q (by simp))
  |bl j=>cases ry;exact ne_bool (E9 I q (MG not zk))
  |str j=>obtain⟨t',rfl⟩:=ry;exact PySem.EqMixed.ne_bool_str (E9 I q (by simp))
  |_=>exact absurd (show false=true from hs) Ma
 |int i=>
  obtain⟨t,rfl⟩:=rx
  cases y with
  |non=>cases ry;exact PySem.EqNone.ne_int_none (E9 I q (by simp))
  |int j=>obtain⟨t',rfl⟩:=ry;exact ne_int (E9 I q (MG not jW))
  |str j=>obtain⟨t',rfl⟩:=ry;exact PySem.EqMixed.ne_int_str (E9 I q (by simp))
  |_=>exact absurd (show false=true from hs) Ma
 |str i=>
  obtain⟨t,rfl⟩:=rx
  cases y with
  |non=>cases ry;exact PySem.EqNone.ne_str_none (E9 I q (by simp))
  |bl j=>cases ry;exact PySem.EqMixed.ne_str_bool (E9 I q (by simp))
  |int j=>obtain⟨t',rfl⟩:=ry;exact PySem.EqMixed.ne_str_int (E9 I q (by simp))
  |str j=>obtain⟨t',rfl⟩:=ry;exact ne_str (E9 I q (MG not oT))
  |_=>exact absurd (show false=true from hs) Ma
 |byt i=>
  obtain⟨t,rfl⟩:=rx
  cases y with
  |byt j=>obtain⟨t',rfl⟩:=ry;exact PySem.W.ne_bytes (E9 I q (MG not vt))
  |_=>exact absurd (show false=true from hs) Ma
 |_=>cases y<;>exact absurd (show false=true from hs) Ma
def op_lt:OpR X (compareOp .Lt) (zc λi j=> .bl (decide (i<j))):=Ek λ_ _ _ _ _ _ _ q=>lt_int q
def Ic:OpR X (compareOp .LtE) (zc λi j=> .bl (decide (i<=j))):=Ek λ_ _ _ _ _ _ _ q=>le_int q
def zw:OpR X (compareOp .Gt) (zc λi j=> .bl (decide (j<i))):=Ek λ_ _ _ _ _ _ _ q=>gt_int q
def wO:OpR X (compareOp .Lt) (λx y H Q=>∃i j,x= .str i/\y= .str j/\Q (.bl (decide (i.cps.toList<j.cps.toList))) H):=by
 intro pins s σ H x y v u Q I rx ry h;obtain⟨i,j,rfl,rfl,q⟩:=h;obtain⟨t,rfl⟩:=rx;obtain⟨t',rfl⟩:=ry;exact lt_str (E9 I q rfl)
def wu:OpR X (compareOp .In) (λx y H Q=>∃i j,x= .str i/\y= .str j/\Q (.bl (!(Builtin.Str.occurrences j i 0 j.length 1).isEmpty)) H):=by
 intro pins s σ H x y v u Q I rx ry h;obtain⟨i,j,rfl,rfl,q⟩:=h;obtain⟨t,rfl⟩:=rx;obtain⟨t',rfl⟩:=ry;exact in_str (E9 I q rfl)
variable {r:R2}
def OpR.or {f:Value->Value->Sem Value}{r':R2}(h:OpR X f r)(h':OpR X f r'):OpR X f (λx y H Q=>r x y H Q\/r' x y H Q):=by
 intro pins s σ H x y v u Q I rx ry q;rcases q with q|q
 .exact h pins s σ H x y v u Q I rx ry q
 .exact h' pins s σ H x y v u Q I rx ry q
variable {op:CmpOp}
def o9 (b:Expr)(h:op≠ .In:=by decide)(h2:op≠ .NotIn:=by decide):behindInMarks op b=false:=by
 have e1:(op==CmpOp.In)=false:=by cases op<;>first|rfl|exact absurd rfl h
 have e2:(op==CmpOp.NotIn)=false:=by cases op<;>first|rfl|exact absurd rfl h2
 cases b<;>simp [behindInMarks,e1,e2]
def Bq (ho:OpR X (compareOp op) r)(ha:PE X a ta)(hb:PE X b tb)(hm:behindInMarks op b=false):PE X (.Compare a [op] [b] pos) (Bv r ta tb):=by
 intro pins s σ H Q I h;exact wpAny_Compare1 (FA ha hb I h λv u s2 x y H2 I2 rx ry q=>ho pins s2 σ H2 x y v u Q I2 rx ry q) hm
def xY (t:TE):TT:=λσ H Q=>t σ H λx H'=>∃k,x= .bl k/\Q k H'
def BS (ho:OpR X (compareOp op) r)(ha:PE X a ta)(hb:PE X b tb)(hm:behindInMarks op b=false):PT X (.Compare a [op] [b] pos) (xY (Bv r ta tb)):=by
 intro pins s σ H Q I h;refine wpAny_isTrue_Compare1 (O9 (ha pins s σ H _ I h) λv s1 ⟨x,H1,I1,r1,q1⟩=>O9 (hb pins s1 σ H1 _ I1 q1) λu s2 ⟨y,H2,I2,r2,q2⟩=>
  O9 (ho pins s2 σ H2 x y v u _ I2 r1 r2 q2) λc s3 ⟨z,H3,I3,r3,k,e,q3⟩=>?_) hm
 subst e;cases r3;exact Na ⟨H3,I3,q3⟩
def ya (K:Qd)(x:V)(H:Hp)(k:Bool):Prop:=
 match x with
 | .non=>k=false
 | .bl b=>k=b
 | .int i=>k=(i !=0)
 | .str y=>y.length<=sizeLine/\k=((y.length:Int) !=0)
 | .byt y=>y.size<=sizeLine/\k=((y.size:Int) !=0)
 | .ref p=>(∃xs,SqL K H p xs/\k=!xs.isEmpty)\/(∃xs,SqT K H p xs/\k=!xs.isEmpty)\/∃kvs,H p=some (.dK kvs)/\k=!kvs.isEmpty
 |_=>False
def ug {kvs:List (κ×V)}{vs:List (κ×Value)}(r:KV kvs vs):(!vs.isEmpty)=!kvs.isEmpty:=by
 cases r<;>rfl
def lF {xs:ap}{a_:jp}(r:Vals xs a_):(!a_.toArray.isEmpty)=!xs.isEmpty:=by
 cases r<;>simp
def iP:(sizeLine:Nat)<2 ^ 63:=by rw[Pt];decide
theorem Fb:Jk X (λx H Q=>∃k,ya X.K x H k/\Q k H):=by
 intro pins s σ H x v Q I rx h;obtain⟨k,e,q⟩:=h;have hl:=iP;have hs:sizeLine=16777216:=Pt;cases x with
 |non=>
  cases rx
  have e':k=false:=e
  subst e'
  exact truthy_none ⟨H,I,q⟩
 |bl b=>
  cases rx
  have e':k=b:=e
  subst e'
  exact Na ⟨H,I,q⟩
 |int i=>
  obtain⟨t,rfl⟩:=rx
  have e':k=(i !=0):=e
  subst e'
  exact PySem.P.truthy_int ⟨H,I,q⟩
 |str y=>
  obtain⟨t,rfl⟩:=rx
  obtain⟨hy,e'⟩:y.length<=sizeLine/\k=((y.length:Int) !=0):=e
  subst e'
  exact PySem.P.truthy_str (by lia) ⟨H,I.tok _,q⟩
 |byt y=>
  obtain⟨t,rfl⟩:=rx
  obtain⟨hy,e'⟩:y.size<=sizeLine/\k=((y.size:Int) !=0):=e
  subst e'
  exact PySem.W.truthy_bytes (by lia) ⟨H,I.tok _,q⟩
 |ref p=>
  cases rx
  have e':(∃xs,SqL X.K H p xs/\k=!xs.isEmpty)\/(∃xs,SqT X.K H p xs/\k=!xs.isEmpty)\/∃kvs,H p=some (.dK kvs)/\k=!kvs.isEmpty:=e
  rcases e' with⟨xs,hx,e'⟩|⟨xs,hx,e'⟩|⟨kvs,hx,e'⟩
  .subst e'
   obtain⟨a_,r,pl,hz⟩:=I.list hx
   have hlen:=r.length
   exact wpAny_truthy_list pl.isList (by simp only[LG];lia) ⟨H,I.tok _,by rw[lF r];exact q⟩
  .subst e'
   obtain⟨a_,r,pl,hz⟩:=I.tuple hx
   have hlen:=r.length
   exact truthy_tuple pl (by simp only[LG];lia) ⟨H,I.tok _,by rw[lF r];exact q⟩
  .subst e'
   obtain⟨hz,hS,vs,r,m⟩:kvs.length<=sizeLine/\(p==sysModules)=false/\∃vs,KV kvs vs/\s.heap.DictOf (z0 X.prog X.w) p vs:=I.hok p _ hx
   have hlen:kvs.length=vs.length:=LP r
   exact wpAny_truthy_dict hS m (by lia) ⟨H,I.tok _,by rw[ug r];exact q⟩
 |_=>exact(show False from e).elim
def yx (ha:PE X a ta)(he:∀whole,isTrue a X.env whole=(do let v←whole;standAt a.pos;holding [v] (truthy v))):
  PT X a (λσ H Q=>ta σ H λx H'=>∃k,ya X.K x H' k/\Q k H'):=by
 intro pins s σ H Q I h
 exact isTrue_plain (O9 (ha pins s σ H _ I h) λv s1 ⟨x,H1,I1,r1,q1⟩=>Fb pins s1 σ H1 x v Q I1 r1 q1) (he _)
def op_add_str:OpR X (binaryOp .Add) (λx y H Q=>∃i j,x= .str i/\y= .str j/\i.length+j.length<=sizeLine/\Q (.str (i++j)) H):=by
 intro pins s σ H x y v u Q I rx ry h;obtain⟨i,j,rfl,rfl,hz,q⟩:=h;obtain⟨t,rfl⟩:=rx;obtain⟨t',rfl⟩:=ry;exact add_str (λt' tk=>⟨.str (i++j),H,I.tok _,⟨_,rfl⟩,q⟩) hz
def X3 {x:V}(r:Vals [x] us):∃u,us=[u]/\RelV x u:=by
 cases r with
 |cons r1 r2=>cases r2;exact⟨_,rfl,r1⟩
def gy {x y:V}(r:Vals [x,y] us):∃u w',us=[u,w']/\RelV x u/\RelV y w':=by
 cases r with
 |cons r1 r2=>
  cases r2 with
  |cons r3 r4=>cases r4;exact⟨_,_,rfl,r1,r3⟩
def nA (hc:X.calm=true):CallR X (.builtin "min") (λxs H Q=>∃i j,xs=[.int i,.int j]/\Q (.int (if j<i then j else i)) H):=by
 intro pins s σ H xs us Q I r h;obtain⟨i,j,rfl,q⟩:=h;obtain⟨u,w',rfl,⟨t,rfl⟩,⟨t',rfl⟩⟩:=gy r;refine min_two_ints (I.ok.hd hc) λh' tk k=>⟨_,H,I.kept k,?_,q⟩
 by_cases hj:j<i
 .rw[if_pos hj,if_pos hj];exact⟨_,rfl⟩
 .rw[if_neg hj,if_neg hj];exact⟨_,rfl⟩
def iF:CallR X (.type "int") (λxs H Q=>(∃i,xs=[.int i]/\Q (.int i) H)\/∃k,xs=[.bl k]/\Q (.int (if k then 1 else 0)) H):=by
 intro pins s σ H xs us Q I r h;rcases h with⟨i,rfl,q⟩|⟨k,rfl,q⟩
 .obtain⟨u,rfl,t,rfl⟩:=X3 r;exact call_int_int ⟨.int i,H,I,⟨_,rfl⟩,q⟩
 .obtain⟨u,rfl,r1⟩:=X3 r;cases r1;exact call_int_bool ⟨.int (if k then 1 else 0),H,I.tok _,⟨_,rfl⟩,q⟩
def GZ (K:Qd)(x:V)(H:Hp)(n:Nat):Prop:=
 match x with
 | .str y=>y.length<=sizeLine/\n=y.length
 | .byt y=>y.size<=sizeLine/\n=y.size
 | .ref p=>(∃xs,SqL K H p xs/\n=xs.length)\/∃xs,SqT K H p xs/\n=xs.length
 |_=>False
theorem call_len:CallR X (.builtin "len") (λxs H Q=>∃x n,xs=[x]/\GZ X.K x H n/\Q (.int n) H):=by
 intro pins s σ H xs us Q I r h;obtain⟨x,n,rfl,e,q⟩:=h;obtain⟨u,rfl,rx⟩:=X3 r;have hl:=iP;have hs:sizeLine=16777216:=Pt;cases x with
 |str y=>
  obtain⟨t,rfl⟩:=rx
  obtain⟨hy,e'⟩:y.length<=sizeLine/\n=y.length:=e
  subst e'
  exact len_str (by lia) ⟨.int _,H,I.tok _,⟨_,rfl⟩,q⟩
 |byt y=>
  obtain⟨t,rfl⟩:=rx
  obtain⟨hy,e'⟩:y.size<=sizeLine/\n=y.size:=e
  subst e'
  exact PySem.W.len_bytes (by lia) ⟨.int _,H,I.tok _,⟨_,rfl⟩,q⟩
 |ref p=>
  cases rx
  have e':(∃xs,SqL X.K H p xs/\n=xs.length)\/∃xs,SqT X.K H p xs/\n=xs.length:=e
  rcases e' with⟨xs,hx,e'⟩|⟨xs,hx,e'⟩
  .subst e'
   obtain⟨a_,r',pl,hz⟩:=I.list hx
   have hlen:=r'.length
   exact Calls.call_len_list pl.isList (by simp only[LG];lia) ⟨.int xs.length,H,I.tok _,⟨_,by simp only[LG];rw[hlen]⟩,q⟩
  .subst e'
   obtain⟨a_,r',pl,hz⟩:=I.tuple hx
   have hlen:=r'.length
   exact len_tuple pl (by simp only[LG];lia) ⟨.int xs.length,H,I.tok _,⟨_,by simp only[LG];rw[hlen]⟩,q⟩
 |_=>exact(show False from e).elim
structure Kx (h:Heap) (x dx C:Addr) (mA:Str->ad):Prop where
 obj:h.get? x=some (PySem.W.instObj C dx)
 ns:h.Ns1 dx mA
 ne:dx≠x
def RelO.some_of {v:V}{o:ad}(r:RelO (some v) o):∃u,o=some u/\RelV v u:=by
 cases o with
 |none=>exact(show False from r).elim
 |some u=>exact⟨u,rfl,r⟩
section
variable {P:Program} {w:World} {H H':Hp} {h h':Heap} {a C dx:Addr} {fs fs':List (Str×V)}
end
structure KR (K:Qd) (C:Addr):Prop where
 pg:PySem.W.plainGet K C Str.empty=true
 hd:PySem.W.hasDictIn K C=true
 po:PySem.W.plainOver K C=true
 sa:PySem.W.findIn K (.ref C) "__setattr__"=some (some (.builtin "object.__setattr__"))
structure KU (K:Qd) (C:Addr) (f:Str) (v:V) (u:Value):Prop where
 at_:PySem.W.findIn K (.ref C) f=some (some u)
 rel:RelV v u
 get:PySem.W.specialIn K u "__get__"=some none
 cp:PySem.W.copiedNames.contains f=false
structure Ko (K:Qd) (C:Addr) (m:Str) (f:Addr):Prop where
 at_:PySem.W.findIn K (.ref C) m=some (some (.ref f))
 fn:PySem.W.isFn K (.ref f)=true
 kp:PySem.W.keepIn K (.ref f)=true
section
variable {X:Cx} {pins:XL} {σ:St} {H:Hp} {s:Shared} {a C dx:Addr} {fs:List (Str×V)} {f:Str} {v:V} {A:Around} {E:XV}
end
section
variable {X:Cx} {o e value:Expr} {f:Str} {pos pos' y_:Pos} {ta tv:TE}
end
section
variable {X:Cx} {pins:XL} {σ:St} {H:Hp} {s:Shared} {A:Around} {E:XV} {Q:XV} {c:Value} {b:Bool}
inductive mx (K:Qd) (H:Hp):V->Value->Prop where
 |non:mx K H .non (.type "NoneType")
 |bl (x:Bool):mx K H (.bl x) (.type "bool")
 |int (i:Int):mx K H (.int i) (.type "int")
 |str (x:Str):mx K H (.str x) (.type "str")
 |flt (x:UInt64):mx K H (.flt x) (.type "float")
 |lst {a:Addr} {xs:ap} (e:H a=some (.lst xs)):mx K H (.ref a) (.type "list")
 |frz {a:Addr} {o:Obj} {xs:ap} (e:H a=some (.frz o (.lst xs))):mx K H (.ref a) (.type "list")
 |tup {a:Addr} {xs:ap} (e:H a=some (.tup xs)):mx K H (.ref a) (.type "tuple")
 |dK {a:Addr} {kvs:am} (e:H a=some (.dK kvs)):mx K H (.ref a) (.type "dict")
 |dT {a:Addr} {kvs:List (List j0×V)} (e:H a=some (.dT kvs)):mx K H (.ref a) (.type "dict")
 |ins {a C dx:Addr} {fs:List (Str×V)} (e:H a=some (.ins C dx fs)) (cl:KR K C) (ha:PySem.W.findIn K (.ref C) "__class__"=some (some (.builtin "object.__class__")))
   (hn:PySem.W.specialIn K (.builtin "object.__class__") "__get__"=some (some (.builtin "getset_descriptor.__get__"))) (UW:PySem.W.takesIn K (.builtin "object.__class__")=some true)
   (hm:PySem.W.mroIn K C (.type "object")=some true):mx K H (.ref a) (.ref C)
end
structure Room (k:Nat) (A:Around):Prop where
 hd:A.handled=none
 dp:A.depth+3*k+5<recursionLimit
 un:A.units+16*k+200<cLine
theorem Room.mono {j k:Nat}(r:Room k A)(h:j<=k):Room j A:=⟨r.hd,by have:=r.dp;lia,by have:=r.un;lia⟩
theorem Room.deeper {k:Nat}(r:Room (k+1) A)(env:Env):Room k (A.deeper env):=
 ⟨r.hd,by have:=r.dp;show A.depth+1+3*k+5<_;lia,by have:=r.un;show A.units+3+16*k+200<_;lia⟩
theorem Room.depth {k:Nat}(r:Room k A):A.depth<recursionLimit:=by have:=r.dp;lia
theorem Room.units {k:Nat}(r:Room k A):A.units+64<cLine:=by have:=r.un;lia
def zT:TA:=λ_ H Q=>Q [] H
def vg (ta:TE)(tr:TA):TA:=λσ H Q=>ta σ H λx H1=>tr σ H1 λxs H2=>Q (x::xs) H2
section
variable {X:Cx} {e:Expr} {es:List Expr} {te:TE} {t:TA} {pos:Pos}
def DR:PA X [] zT:=λ_ _ _ _ H Q I h=>OE ⟨[],H,I,.nil,h⟩
def Bi (ha:PE X e te)(hr:PA X es t)(hs:starEach (e::es) X.env=(false,eval e X.env)::starEach es X.env:=by rfl):PA X (e::es) (vg te t):=by
 intro pos pins s σ H Q I h;rw[hs];show wpAny _ _ (spliced ((false,eval e X.env)::backTo pos (starEach es X.env))) _ _ s;refine NL (O9 (ha pins s σ H _ I h) λu s1 ⟨x,H1,I1,r1,q1⟩=>?_);exact O9 (hr pos pins s1 σ H1 _ I1 q1) λus s2 ⟨xs,H2,I2,r2,q2⟩=>⟨x::xs,H2,I2,.cons r1 r2,q2⟩
def FD (t:TA):TE:=λσ H Q=>t σ H λxs H1=>xs.length<=sizeLine/\∀p H2,H1 p=none->Same H1 H2->H2 p=some (.tup xs)->Q (.ref p) H2
def BJ (t:TA):TE:=λσ H Q=>t σ H λxs H1=>xs.length<=sizeLine/\∀p H2,H1 p=none->Same H1 H2->H2 p=some (.lst xs)->Q (.ref p) H2
def Dt {x1}(h:PA X es t):PE X (.Tuple es x1 pos) (FD t):=by
 intro pins s σ H Q I hq;refine wpAny_Tuple_spliced (O9 (h pos pins s σ H _ I hq) λus s1 ⟨xs,H1,I1,r,z,q⟩=>⟨by rw[←r.length];exact z,?_⟩);have hf:H1 s1.heap.objs.size=none:=I1.hok.fresh (La _);refine⟨.ref s1.heap.objs.size,u9 H1 s1.heap.objs.size (.tup xs),I1.laid (t':=s1.toks) (λb u e=>Lk _ e) (La _) ?_,rfl,q _ _ hf (nwS hf) b5⟩;exact⟨z,us,r,⟨_,LC _ rfl,rfl,_,rfl⟩⟩
def FC (h:PA X es t):PE X (.List es pos) (BJ t):=by
 intro pins s σ H Q I hq;refine wpAny_List_spliced (O9 (h pos pins s σ H _ I hq) λus s1 ⟨xs,H1,I1,r,z,q⟩=>⟨by rw[←r.length];exact z,?_⟩);have hf:H1 s1.heap.objs.size=none:=I1.hok.fresh (La _);refine⟨.ref s1.heap.objs.size,u9 H1 s1.heap.objs.size (.lst xs),I1.laid (t':=s1.toks) (λb u e=>Lk _ e) (La _) ?_,rfl,q _ _ hf (nwS hf) b5⟩;exact⟨z,us,0,r,LC _ rfl⟩
end
abbrev Sp:=ap->Hp->VK->XK->Prop
abbrev qz:=List Env->Hp->Shared->XK->XV
structure BE (P:Program) (w:World) (K:Qd) (mg:Str->ad) (base:Heap) (A:Around) (outer:List Env) (s:Shared) (H:Hp):Prop where
 frames:A.frames=some outer
 mod:Mod K mg base
 bs:∀b o,base.get? b=some o->s.heap.get? b=some o/\H b=none
 bsz:base.objs.size<=s.heap.objs.size
 funs:s.heap.FunFrames base outer
 frf:∀b∈bN outer,H b=none
 hok:HOk P w H s.heap
 bare:AllBare s.gens
def CE (outer:List Env)(P:Program)(w:World)(H:Hp)(s:Shared)(Q:VK)(u:Value)(s':Shared):Prop:=
 ∃v H',s'.os=s.os/\AllBare s'.gens/\Un (bN outer) [] H H' s.heap s'.heap/\HOk P w H' s'.heap/\RelV v u/\Q v H'
def CR (CX:qz)(outer:List Env)(P:Program)(w:World)(H:Hp)(s:Shared)(Q:VK)(E:XK)(r:Result)(s':Shared):Prop:=
 match r with
 | .ok (.ret u)=>CE outer P w H s Q u s'
 | .ok _=>False
 | .error e=>CX outer H s E e s'
structure E4 (P:Program) (w:World) (K:Qd) (mg:Str->ad) (base:Heap) (CX:qz) (k:Nat) (f:Addr) (fd:FuncData) (ps:xL) (sp:Sp):Prop where
 len:∀vs H Q E,sp vs H Q E->vs.length=ps.length
 run:∀(A:Around) (outer:List Env) (s:Shared) (H:Hp) (args:Args) (us:jp) (vs:ap) (Q:VK) (E:XK),Room k A->BE P w K mg base A outer s H->BindsTo s fd args (ps.zip us)->Vals vs us->sp vs H Q E->
  codeAny (model P w) A (.call (.ref f) args) (CR CX outer P w H s Q E) s
section
variable {X:Cx} {pins:XL} {σ:St} {H:Hp} {s s':Shared}
def Inv.env0 (I:Inv X pins σ H s):BE X.prog X.w X.K X.mg X.base X.A X.stack s H:=
 ⟨I.ok.frames,I.ok.mod,I.bs,LJ I.ok.bsz I.sz,I.stack,I.stkFree,I.hok,I.bare⟩
def Inv.after {Q:VK}{u:Value}(I:Inv X pins σ H s)(h:CE X.stack X.prog X.w H s Q u s'):EP X pins σ Q u s':=by
 obtain⟨v,H',os,bare,un,hok,r,q⟩:=h;obtain⟨hh,g,d,t,Uc⟩:=s';obtain rfl:Uc=s.os:=os;exact⟨v,H',I.call (h':=hh) (g':=g) (d':=d) (t':=t) (ch:=[]) un hok bare (λb z=>absurd z (by simp)),r,q⟩
end
def qF (sp:Sp)(r_:ap)(E:XK)(t:TA):TE:=λσ H Q=>t σ H λvs H1=>sp (vs++r_) H1 Q E
def Binds (K:Qd)(fd:FuncData)(ps:xL)(ds:jp):Prop:=
 ∀(s:Shared) (us:jp),K.In s.heap->(us++ds).length=ps.length->BindsTo s fd ⟨us,[]⟩ (ps.zip (us++ds))
variable {ps:xL}
def Binds.all {fd:FuncData}(h:∀us:jp,us.length=ps.length->bindArgs fd ⟨us,[]⟩=pure (ps.zip us)):Binds K fd ps []:=λs us _ hl=>by
 rw[Mn] at hl⊢;exact .of_eq (h us hl)
def dy (CX:qz)(X:Cx)(E:XK):Prop:=∀(pins:XL) (σ:St) (H:Hp) (s:Shared) (e:Value) (s':Shared),Inv X pins σ H s->CX X.stack H s E e s'->X.xe e s'
section
variable {X:Cx} {CX:qz} {k:Nat} {f C:Addr} {fd:FuncData} {ps:xL} {sp:Sp} {r_:ap} {ds:jp} {E:XK} {x m:Str} {p pos apos:Pos} {e o:Expr} {es:List Expr} {ta:TE} {t:TA}
def FZ {pins:XL}{σ:St}{H:Hp}{s:Shared}{Q:VK}{us:jp}{vs:ap}(F:E4 X.prog X.w X.K X.mg X.base CX k f fd ps sp)(hr:Room k X.A)(hb:Binds X.K fd ps ds)(hd:Vals r_ ds)(hx:dy CX X E)
(I:Inv X pins σ H s)(r:Vals vs us)(h:sp (vs++r_) H Q E):wpAny (model X.prog X.w) X.A (call (.ref f) us) (EP X pins σ Q) X.xe s:=by
 have r2:Vals (vs++r_) (us++ds):=r.append hd
 have hl:(us++ds).length=ps.length:=by rw[←r2.length];exact F.len _ _ _ _ h
 refine QD (OK (F.run X.A X.stack s H ⟨us,[]⟩ (us++ds) (vs++r_) Q E hr I.env0 (hb s us I.kIn hl) r2 h) λr s' hq=>?_)
 cases r with
 |error e=>exact hx pins σ H s e s' I hq
 |ok fl=>
  cases fl with
  |ret u=>exact I.after hq
  |next=>exact False.elim hq
  |brk=>exact False.elim hq
  |cont=>exact False.elim hq
def AQ (F:E4 X.prog X.w X.K X.mg X.base CX k f fd ps sp)(hr:Room k X.A)(hg:Gl X x)(hm:X.mg x=some (.ref f))(hk:PySem.W.keepIn X.K (.ref f)=true)(hb:Binds X.K fd ps ds)(hd:Vals r_ ds)(hx:dy CX X E)
(ha:PA X (e::es) t)(w_:(x==("__debug__":Str))=false:=by decide)(he:starEach (e::es) X.env=(false,eval e X.env)::starEach es X.env:=by rfl)(Si:(backTo pos (starEach es X.env)).any (·.1)=false:=by rfl):
  PE X (.Call (.Name x p) (e::es) [] pos) (qF sp r_ E t):=by
 intro pins s σ H Q I h
 refine Nm (gF I hg hm ?_ w_)
 refine Rk (h₀:=X.base) I.ok.mod.kin hk (O9 (ha pos pins s σ H _ I h) λus s1 ⟨vs,H1,I1,r,q⟩=>⟨I1.kIn,?_⟩) he Si
 exact FZ F hr hb hd hx I1 r q
structure Mk (K:Qd) (C f:Addr):Prop where
 makes:PySem.W.makesIn K C=true
 init:PySem.W.findIn K (.ref C) "__init__"=some (some (.ref f))
 fn:PySem.W.isFn K (.ref f)=true
 kp:PySem.W.keepIn K (.ref C)=true
end
section
variable {X:Cx} {CX:qz} {k:Nat} {f C:Addr} {fd:FuncData} {ps ks:xL} {sp:Sp} {E:XK} {x m:Str} {p pos apos kpos:Pos} {e o:Expr} {es:List Expr} {kws:List Keyword} {te ta:TE} {t tk:TA} {nm:Option Str}
structure JQ (K:Qd) (fd:FuncData) (ps ks:xL) (g:jp->jp->jp) (gV:ap->ap->ap):Prop where
 to:∀(s:Shared) (us ws:jp),K.In s.heap->(g us ws).length=ps.length->BindsTo s fd ⟨us,ks.zip ws⟩ (ps.zip (g us ws))
 rel:∀{vs:ap} {us:jp} {zs:ap} {ws:jp},Vals vs us->Vals zs ws->Vals (gV vs zs) (g us ws)
variable {g:jp->jp->jp} {gV:ap->ap->ap}
end
structure j5 (N P:xL) (sc:Scope):Prop where
 kind:sc.kind= .function
 co:sc.isCoroutine=false
 gen:sc.isGenerator=false
 nd:N.Nodup
 pre:N.take P.length=P
 par:∀x∈P,sc.names.lookup x=some .local\/sc.names.lookup x=some .cell
 nofree:∀y∈sc.names,y.2≠ .free
theorem oH {kindOf:Str->Option NameKind}{x:Str}:∀{binds:List (Str×Value)} {m:Str->ad},(∀v,(x,v)∉binds)->bindL kindOf binds m x=m x
 |[],_,_=>rfl
 |(n,v)::r,m,h=>by
  unfold bindL;rw[oH λw hw=>h w (LD _ hw)];split
  .have:x≠n:=by rintro rfl;exact h v Lx
   simp [this]
  .rfl
theorem nG {kindOf:Str->Option NameKind}{x:Str}:∀{binds:List (Str×Value)} {m:Str->ad},(∀v,(x,v)∉binds)->bindC kindOf binds m x=m x
 |[],_,_=>rfl
 |(n,v)::r,m,h=>by
  unfold bindC;rw[nG λw hw=>h w (LD _ hw)];split
  .rfl
  .have:x≠n:=by rintro rfl;exact h v Lx
   simp [this]
theorem oC {kindOf:Str->Option NameKind}{x:Str}{v:Value}:∀{P:xL} {vs:jp} {i:Nat} {m:Str->ad},P.Nodup->P[i]?=some x->vs[i]?=some v->kindOf x=some .local->
  bindL kindOf (P.zip vs) m x=some v
 |[],_,_,_,_,h,_,_=>by simp at h
 |_::_,[],_,_,_,_,h,_=>by simp at h
 |p::P,w::vs,0,m,nd,h1,h2,hk=>by
  simp at h1 h2;subst h1;subst h2;show bindL kindOf ((p,w)::P.zip vs) m p=_;unfold bindL;rw[oH λv hv=>(Mt.mp nd).1 (Qk hv).1,if_pos hk];simp
 |p::P,w::vs,i+1,m,nd,h1,h2,hk=>by
  show bindL kindOf ((p,w)::P.zip vs) m x=_;unfold bindL;exact oC (i:=i) (Mt.mp nd).2 (by simpa using h1) (by simpa using h2) hk
theorem nQ {kindOf:Str->Option NameKind}{x:Str}{v:Value}:∀{P:xL} {vs:jp} {i:Nat} {m:Str->ad},P.Nodup->P[i]?=some x->vs[i]?=some v->kindOf x≠some .local->
  bindC kindOf (P.zip vs) m x=some v
 |[],_,_,_,_,h,_,_=>by simp at h
 |_::_,[],_,_,_,_,h,_=>by simp at h
 |p::P,w::vs,0,m,nd,h1,h2,hk=>by
  simp at h1 h2;subst h1;subst h2;show bindC kindOf ((p,w)::P.zip vs) m p=_;unfold bindC;rw[nG λv hv=>(Mt.mp nd).1 (Qk hv).1,if_neg hk];simp
 |p::P,w::vs,i+1,m,nd,h1,h2,hk=>by
  show bindC kindOf ((p,w)::P.zip vs) m x=_;unfold bindC;exact nQ (i:=i) (Mt.mp nd).2 (by simpa using h1) (by simpa using h2) hk
def gX (N:xL)(vs:ap):St:=vs.map some++List.replicate (N.length -vs.length) none
def ky (CX:qz)(P:Program)(w:World)(K:Qd)(mg:Str->ad)(base:Heap)(N:xL)(qual:Str)(scope:Scope)(f:Addr)(cd:Value)(A:Around)(outer:List Env)(s:Shared)(H:Hp)(E:XK):Cx where
 prog:=P
 w:=w
 K:=K
 mg:=mg
 base:=base
 A:=A.deeper (envOfC qual scope s.heap.objs.size f cd)
 N:=N
 s₀:=s
 H₀:=H
 env:=envOfC qual scope s.heap.objs.size f cd
 outer:=outer
 stack:=envOfC qual scope s.heap.objs.size f cd::outer
 ex:=[]
 calm:=true
 fn:=λ_=>true
 pn:=[]
 xe:=λe s'=>wpAny (model P w) (A.deeper (envOfC qual scope s.heap.objs.size f cd)) («leaving» (envOfC qual scope s.heap.objs.size f cd) e) (λ_ Yn=>CX outer H s E e Yn) (λe' Yn=>CX outer H s E e' Yn) s'
def rS {sc:Scope}{n:Nat}{x:Str}(h:sc.names.lookup x=some .cell):∃c,(cellsFrom n sc.names []).lookup x=some c:=by
 have q:=PZ sc.names n [] (.inl h);exact Pm.mp q
variable {f:Addr}{mg:Str->ad}{base:Heap}{qual:Str}
theorem xr {CX:qz}{scope:Scope}{cd:Value}{outer:List Env}{s1:Shared}{E:XK}{vs:ap}
(S:j5 N ps scope)(hd:A.handled=none)(e0:BE P w K mg base A outer s H)(hl:vs.length=ps.length)(r:Vals vs us)
(x:InCallC s s.heap.objs.size (bindL (envOfC qual scope s.heap.objs.size f cd).kindOf (ps.zip us) λ_=>none) (cellsFrom (s.heap.objs.size+1) scope.names []) (bindC (envOfC qual scope s.heap.objs.size f cd).kindOf (ps.zip us) λ_=>none) s1):
  Inv (ky CX P w K mg base N qual scope f cd A outer s H E) [] (gX N vs) H s1:=by
 have Si:ps.length<=N.length:=by have:=MG List.length S.pre;rw[Lp] at this;lia
 obtain⟨h1,tk,rfl,hk⟩:=x.done
 have WL:∀b:Addr,b∉(ky CX P w K mg base N qual scope f cd A outer s H E).ex:=λb z=>absurd (show b∈([]:List Addr) from z) (by simp)
 refine⟨⟨e0.mod,S.kind,rfl,rfl,La _,λy z c h1 h2=>?_,λy hy=>?_,λy c _ h=>?_,λ_=>hd,Around.frames_deeper e0.frames,.inr ⟨rfl,rfl⟩,λb z=>absurd z (WL b),e0.bs,e0.bsz,λb _ _=>WL b,λb z=>absurd z (WL b),e0.funs,e0.frf⟩,
  rfl,e0.bare,Un.kept hk,⟨_,x.toInCall.ns,λi y v h1 h2 h3=>?_⟩,λy c h=>⟨_,x.cell y c h⟩,e0.hok.fresh (La _),λy c h=>?_,λp hp=>absurd (show p∈([]:XL) from hp) (by simp),e0.hok.kept hk,?_⟩
 .exact name_of_addr x.apart (NA h1) (NA h2)
 .have hy:scope.names.lookup y=some .cell\/scope.names.lookup y=some .free:=hy
  rcases hy with hy|hy
  .exact rS hy
  .exact absurd rfl (S.nofree _ (NA hy))
 .exact OI (x.above y c (NA h))
 .have hi:i<vs.length:=by
   unfold gX at h2;by_cases hi:i<vs.length
   .exact hi
   .rw[Ms (by simpa using hi)] at h2;rw[Nj] at h2;split at h2<;>cases h2
  have ha:vs[i]?=some v:=by
   unfold gX at h2;rw[LS (by simpa using hi),Lc] at h2;cases e:vs[i]? with
   |none=>rw[e] at h2;cases h2
   |some a=>rw[e] at h2;cases h2;rfl
  obtain⟨u,hu,rv⟩:=r.get ha
  have hp:ps[i]?=some y:=by
   rw[←S.pre,List.getElem?_take_of_lt (by lia)];exact h1
  have Ud:ps.Nodup:=by rw[←S.pre];exact S.nd.sublist (MA _ _)
  refine⟨u,rv,?_⟩
  rcases S.par y (Ln hp) with k|k
  .exact .inl ⟨k,oC Ud hp hu k⟩
  .obtain⟨c,e⟩:=rS (n:=s.heap.objs.size+1) k
   refine .inr ⟨.inl k,c,e,?_⟩
   have q:=x.cell y c e
   rw[nQ Ud hp hu (by show scope.names.lookup y≠_;rw[k];decide)] at q
   exact q
 .exact e0.hok.fresh (OI (x.above y c (NA h)))
 .unfold gX
  show _=N.length
  rw[Lg,KW,MI]
  lia
def CO {CX:qz}{k:Nat}{name:Str}{params:Arguments}{scope:Scope}{dV kV doc pm d_ ct oc:Value}{an od:Option Addr}
{RV:Array ad}{sp:Sp}(lk:K.lookup f=some ⟨oc,od,.func (PySem.W.fnOf name qual params body scope dV kV doc pm an d_ ct),RV⟩)(RR:PySem.W.codeIn K d_ qual=true)(S:j5 N ps scope)
(len:∀vs H Q E,sp vs H Q E->vs.length=ps.length)
(Qy:∀(A:Around) (outer:List Env) (s:Shared) (H:Hp) (vs:ap) (Q:VK) (E:XK),Room k (A.deeper (envOfC qual scope s.heap.objs.size f d_))->sp vs H Q E->
   ∃t,PSs (ky CX P w K mg base N qual scope f d_ A outer s H E) body t/\t {nx:=λ_ H'=>Q .non H',rt:=Q} (gX N vs) H):
  E4 P w K mg base CX (k+1) f (PySem.W.fnOf name qual params body scope dV kV doc pm an d_ ct) ps sp:=by
 refine⟨len,λA outer s H args us vs Q E hr e0 hb r TU=>?_⟩
 have hl:=len _ _ _ _ TU
 have KX:K.In s.heap:=e0.mod.kin.keeps λb o e=>(e0.bs b o e).1
 have lim:s.heap.NoLimit:=e0.mod.nolimit.keeps λb o e=>(e0.bs b o e).1
 have WN:∀y∈ps.zip us,scope.names.lookup y.1=some .local\/(scope.names.lookup y.1=some .cell/\((cellsFrom (s.heap.objs.size+1) scope.names []).lookup y.1).isSome=true):=fun⟨n,v⟩ hy=>by
  rcases S.par n (Qk hy).1 with q|q
  .exact .inl q
  .exact .inr ⟨q,PZ _ _ _ (.inl q)⟩
 refine codeAny_call_function hr.depth (KX _ _ lk) rfl S.co S.gen rfl (PySem.W.codeRec_of KX RR) (hb _ _ _ _ ?_)
 refine wpAny_newFunctionEnv_cells S.kind WN λenv he s1 x=>?_
 subst he
 refine⟨lim.keeps x.toInCall.keep,codeAny_func ?_⟩
 obtain⟨t,ht,hq⟩:=Qy A outer s H vs Q E (hr.deeper _) TU
 have I:Inv (ky CX P w K mg base N qual scope f d_ A outer s H E) [] (gX N vs) H s1:=xr S hr.hd e0 hl r x
 refine OS (ht [] s1 (gX N vs) H _ I hq) (λfl s' hs=>?_) λe s' hs=>hs
 have fin:∀{σ':St} {H':Hp} {v:V} {u:Value},Inv (ky CX P w K mg base N qual scope f d_ A outer s H E) [] σ' H' s'->RelV v u->Q v H'->CE outer P w H s Q u s':=
  fun{σ' H' v u} J rv q=>⟨v,H',J.os,J.bare,J.base,J.hok,rv,q⟩
 cases fl with
 |ret u=>
  obtain⟨v,σ',H',J,rv,q⟩:=hs
  exact fin J rv q
 |next=>
  obtain⟨σ',H',J,q⟩:=hs
  exact fin (v:=V.non) (u:=Value.none) J rfl q
 |brk=>
  obtain⟨_,_,_,q⟩:=hs
  exact False.elim q
 |cont=>
  obtain⟨_,_,_,q⟩:=hs
  exact False.elim q
section
variable {X:Cx} {x:Str} {p pos:Pos} {e:Expr} {es:List Expr} {t:TA} {id T:String} {r:ap->Hp->VK->Prop}
def DO (r:ap->Hp->VK->Prop)(t:TA):TE:=λσ H Q=>t σ H λvs H1=>r vs H1 Q
def zP (hc:CallR X (.builtin id) r)(hg:Gl X x)(hm:X.mg x=none)(hv:bootBuiltins x=some (.builtin id))(ha:PA X (e::es) t)(hn:x≠"__name__":=by decide)(w_:(x==("__debug__":Str))=false:=by decide)
(he:starEach (e::es) X.env=(false,eval e X.env)::starEach es X.env:=by rfl)(Si:(backTo pos (starEach es X.env)).any (·.1)=false:=by rfl):PE X (.Call (.Name x p) (e::es) [] pos) (DO r t):=by
 intro pins s σ H Q I h
 refine Nm (cT I hg hm hv ?_ hn w_)
 exact PyProof.Rows.callWith_builtin1 (O9 (ha pos pins s σ H _ I h) λus s1 ⟨vs,H1,I1,r1,q1⟩=>hc pins s1 σ H1 vs us Q I1 r1 q1) he Si
def wK (hc:CallR X (.type T) r)(hg:Gl X x)(hm:X.mg x=none)(hv:bootBuiltins x=some (.type T))(ha:PA X (e::es) t)(hn:x≠"__name__":=by decide)(w_:(x==("__debug__":Str))=false:=by decide)
(he:starEach (e::es) X.env=(false,eval e X.env)::starEach es X.env:=by rfl)(Si:(backTo pos (starEach es X.env)).any (·.1)=false:=by rfl):PE X (.Call (.Name x p) (e::es) [] pos) (DO r t):=by
 intro pins s σ H Q I h
 refine Nm (cT I hg hm hv ?_ hn w_)
 exact MK (O9 (ha pos pins s σ H _ I h) λus s1 ⟨vs,H1,I1,r1,q1⟩=>hc pins s1 σ H1 vs us Q I1 r1 q1) he Si
end
end L2
namespace HT
open PySem PyProof.Rows
section
open PySem.SeqAt
open PySem.AutoSeq1 (wpAny_loadPart')
open PySem.MeetsSeq PySem.MeetsSeq2 PySem.MeetsSeq3
end
variable {prog:Program}{w:World}{A:Around}{E:XV}{s:Shared}
def cat_tup {t b:Addr}{vs ws:jp}{Q:XV}(ht:IsTup s.heap t vs.toArray)(hb:IsTup s.heap b ws.toArray)(hv:vs≠[])
(h1:ws=[]->Q (.ref t) s)(h2:ws≠[]->Q (.ref s.heap.objs.size) {s with heap:=s.heap.push {cls:= .type "tuple",data:= .seq (vs++ws).toArray}})
(hsz:vs.length+ws.length<=sizeLine):wpAny (model prog w) A (binaryOp .Add (.ref t) (.ref b)) Q E s:=by
 obtain⟨⟨cls,dd,data,sl⟩,ho,hc,n,hd⟩:=id ht
 obtain⟨⟨cls2,dd2,data2,sl2⟩,RW,SM,n2,hd2⟩:=id hb
 simp only at hc hd SM hd2
 subst hc hd SM hd2
 have e:vs.toArray++ws.toArray=(vs++ws).toArray:=by simp
 by_cases hw:ws=[]
 .exact concat_meets ⟨_,ho,rfl⟩ ⟨_,RW,rfl⟩ noFill_tuple_add seq_tuple_add Qc Pu (Pn _ _)
   (tuple_addW1 t b vs.toArray ws.toArray n n2 dd dd2 sl sl2 (by simpa using hv) (by simp [hw])) ⟨ho,RW,h1 hw⟩
 .refine concat_meets ⟨_,ho,rfl⟩ ⟨_,RW,rfl⟩ noFill_tuple_add seq_tuple_add Qc Pu (Pn _ _)
   (tuple_addW2 t b vs.toArray ws.toArray n n2 dd dd2 sl sl2 (by simpa using hv) (by simpa using hw) (by rw[LG,LG];exact hsz)) ⟨ho,RW,?_⟩
  rw[e]
  exact h2 hw
def sIx (n d:Nat):Option Int->Nat
 |none=>d
 |some v=>if v<0 then(v+(n:Int)).toNat else min v.toNat n
theorem sIx_nat (n d k:Nat):sIx n d (some (k:Int))=min k n:=by
 show(if(k:Int)<0 then((k:Int)+(n:Int)).toNat else min (k:Int).toNat n)=min k n;rw[if_neg (by lia),Rz]
theorem Ee (n d:Nat)(hd:d<=n)(o:Option Int):sIx n d o<=n:=by
 cases o with
 |none=>exact hd
 |some v=>
  show(if v<0 then(v+(n:Int)).toNat else min v.toNat n)<=n
  by_cases hv:v<0
  .rw[if_pos hv];lia
  .rw[if_neg hv];exact PK _ _
theorem uJ (v:Int)(n d:Nat):(if v<0 then max (v+(n:Int)) 0 else min v (n:Int))=((sIx n d (some v):Nat):Int):=by
 show(if v<0 then max (v+(n:Int)) 0 else min v (n:Int))=(((if v<0 then(v+(n:Int)).toNat else min v.toNat n):Nat):Int);by_cases hv:v<0
 .simp only[if_pos hv];lia
 .simp only[if_neg hv];lia
theorem tO (lo hi:Option Int)(n:Nat):Builtin.Slice.sliceAdjust lo hi 1 (n:Int)=(((sIx n 0 lo:Nat):Int),((sIx n n hi:Nat):Int)):=by
 have h1:¬((1:Int)<0):=by lia
 unfold Builtin.Slice.sliceAdjust;simp only[h1,QF];refine Prod.ext ?_ ?_
 .cases lo with
  |none=>rfl
  |some v=>exact uJ v n 0
 .cases hi with
  |none=>rfl
  |some v=>exact uJ v n n
theorem uw (i j:Nat):Builtin.Slice.slicePlaces (i:Int) (j:Int) 1=j -i:=by
 unfold Builtin.Slice.slicePlaces;have h1:(1:Int)>0:=by lia
 simp only[h1,Pw,Int.ediv_one];split<;>lia
def kX {v:Value}{o:Option Int}{Q:Option Int->Shared->Prop}(p:IsPart v o)(h:Q o s):wpAny (model prog w) A (Builtin.Slice.slicePartIndex v) Q E s:=by
 cases p with
 |none=>exact slicePart_none h
 |int i t=>exact slicePart_int h
variable {sl:Addr}{vl vu:Value}{lo hi:Option Int}
def iO {n:Nat}{Q:Int×Int×Nat->Shared->Prop}(hs:s.heap.IsSliceOf sl vl vu .none)(pl:IsPart vl lo)(pu:IsPart vu hi)
(h:Q (((sIx n 0 lo:Nat):Int),1,sIx n n hi -sIx n 0 lo) s):wpAny (model prog w) A (Builtin.Slice.sliceApplied (.ref sl) (pure (n:Int))) Q E s:=by
 obtain⟨os,WQ,Ut,N'⟩:=id hs
 unfold Builtin.Slice.sliceApplied Builtin.Slice.sliceFields
 refine Lj (Lj (NN WQ N' (x:=vl) rfl (Lj (NN WQ N' (x:=vu) rfl (Lj (NN WQ N' (x:= .none) rfl (Lw ?_)))))))
 refine Lj (slicePart_none ?_)
 show wpAny _ _ (if((1:Int)==0)=true then _ else _) _ _ s
 rw[if_neg (by decide)]
 refine Lj (kX pl (Lj (kX pu (Lj (Lw ?_)))))
 show wpAny _ _ (match Builtin.Slice.sliceAdjust lo hi 1 (n:Int) with|(lo,hi)=>pure (lo,(1:Int),Builtin.Slice.slicePlaces lo hi 1)) _ _ s
 rw[tO lo hi n]
 show wpAny _ _ (pure (((sIx n 0 lo:Nat):Int),(1:Int),Builtin.Slice.slicePlaces ((sIx n 0 lo:Nat):Int) ((sIx n n hi:Nat):Int) 1)) _ _ s
 rw[uw]
 exact Lw h
theorem yA (xs:Array Value)(i k:Nat):((List.range k).filterMap fun(m:Nat)=>xs[((i:Int)+(m:Int)*1).toNat]?).toArray=((xs.toList.drop i).take k).toArray:=by
 have e:(fun(m:Nat)=>xs[((i:Int)+(m:Int)*1).toNat]?)=λm=>xs[i+m]?:=by
  funext m;have:((i:Int)+(m:Int)*1).toNat=i+m:=by lia
  rw[this]
 rw[e];have:=pick_run xs i k;rw[List.filterMap_map] at this;have e2:((λx=>xs[x]?)∘λx=>i+x)=λm=>xs[i+m]?:=rfl;rw[e2] at this;rw[this]
theorem getItem_tuple_cut {t:Addr}{items:Array Value}{Q:XV}(ht:IsTup s.heap t items)(hs:s.heap.IsSliceOf sl vl vu .none)(pl:IsPart vl lo)(pu:IsPart vu hi)
(hw:¬(sIx items.size 0 lo=0/\sIx items.size items.size hi=items.size))
(h:Q (.ref s.heap.objs.size) {s with heap:=s.heap.push {cls:= .type "tuple",data:= .seq ((items.toList.drop (sIx items.size 0 lo)).take (sIx items.size items.size hi -sIx items.size 0 lo)).toArray}})
(hsz:items.size<=sizeLine):wpAny (model prog w) A (getItem (.ref t) (.ref sl)) Q E s:=by
 have RX:sizeOk (.seq ((items.toList.drop (sIx items.size 0 lo)).take (sIx items.size items.size hi -sIx items.size 0 lo)).toArray):=by
  show((items.toList.drop (sIx items.size 0 lo)).take (sIx items.size items.size hi -sIx items.size 0 lo)).toArray.size<=sizeLine;rw[LG,Lp,PN,Oe];lia
 have hj:sIx items.size items.size hi<=items.size:=Ee _ _ (La _) hi
 obtain⟨os,WQ,Ut,N'⟩:=id hs
 have hTs:s.TypeIs (.ref sl) "slice":=⟨os,WQ,Ut⟩
 unfold getItem
 try with_reducible refine Mv ?_
 first|refine Lj (Lw ?_)|skip
 refine Lj (wpAny_sequenceKey ht.typeIs (by decide) ?_)
 refine Lj (Oj (name:=Str.ofString "__getitem__") ht.typeIs Nr
  (OP Nr ht.typeIs entry_tuple_getitem ?_ (args_tuple_getitem _ _)))
 show wpAny _ _ (Builtin.Tuple.tupleItemsOf (.ref t)>>=_) _ _ s
 refine Lj (tupleItemsOf_ ht ?_)
 refine Lj (Pf hTs ?_)
 rw[if_pos (by decide)]
 refine Lj (iO hs pl pu ?_)
 have i_:¬((((sIx items.size 0 lo:Nat):Int)==0&&(1:Int)==1&&(sIx items.size items.size hi -sIx items.size 0 lo)==items.size)=true):=by
  intro q;rw[LN,LN] at q;have q1:((sIx items.size 0 lo:Nat):Int)=0:=eq_of_beq q.1.1;have q2:sIx items.size items.size hi -sIx items.size 0 lo=items.size:=eq_of_beq q.2;exact hw ⟨by lia,by lia⟩
 show wpAny _ _ (if(((sIx items.size 0 lo:Nat):Int)==0&&(1:Int)==1&&(sIx items.size items.size hi -sIx items.size 0 lo)==items.size)=true then _ else _) _ _ s
 rw[if_neg i_,yA]
 first
  |exact Lj (m:=Builtin.Tuple.tupleExact _) (Nt (Lw ⟨_,rfl,Lw h⟩) RX)
  |exact Lj (m:=Builtin.Tuple.tupleExact _) (Nt (Lj (Lw (Lw ⟨_,rfl,Lw h⟩))) RX)
  |exact Lj (Lj (m:=Builtin.Tuple.tupleExact _) (Nt (Lw (Lw ⟨_,rfl,Lw h⟩)) RX))
  |exact Lj (Lj (m:=Builtin.Tuple.tupleExact _) (Nt (Lw ⟨_,rfl,Lw h⟩) RX))
end HT
namespace L2
open PySem PySem.Spec PyProof.Rows
abbrev TO:=St->Hp->(Option Int->Hp->Prop)->Prop
def PO (X:Cx)(e:Option Expr)(t:TO):Prop:=
 ∀(pins:XL) (s:Shared) (σ:St) (H:Hp) (Q:Option Int->Hp->Prop),Inv X pins σ H s->t σ H Q->
  wpAny (model X.prog X.w) X.A (evalPart e X.env) (λu s'=>∃o H',Inv X pins σ H' s'/\IsPart u o/\Q o H') X.xe s
def pD:TO:=λ_ H Q=>Q none H
def zt (t:TE):TO:=λσ H Q=>t σ H λx H1=>∃i,x= .int i/\Q (some i) H1
section
variable {X:Cx} {e:Expr} {te:TE} {lo hi:Option Expr} {tl th:TO} {pos p2:Pos}
def Cb:PO X none pD:=by
 intro pins s σ H Q I h;rw[evalPart_none];exact Lw ⟨none,H,I,.none,h⟩
def BH (h:PE X e te):PO X (some e) (zt te):=by
 intro pins s σ H Q I hw;rw[evalPart_some];refine O9 (h pins s σ H _ I hw) λu s1 ⟨x,H1,I1,r1,q1⟩=>?_;obtain⟨i,rfl,q⟩:=q1;obtain⟨t,rfl⟩:=r1;exact⟨some i,H1,I1,.int i t,q⟩
def SlR (X:Cx)(r:V->Option Int->Option Int->Hp->VK->Prop):Prop:=
 ∀(pins:XL) (s:Shared) (σ:St) (H:Hp) (x:V) (v vl vu:Value) (lo hi:Option Int) (sl:Addr) (Q:VK),Inv X pins σ H s->RelV x v->s.heap.IsSliceOf sl vl vu .none->IsPart vl lo->IsPart vu hi->r x lo hi H Q->
  ∃T id,typeLookup (.type T) "__getitem__"=pure (some (.builtin id))/\s.TypeIs v T/\wpAny (model X.prog X.w) X.A (getItem v (.ref sl)) (EP X pins σ Q) X.xe s
variable {r:V->Option Int->Option Int->Hp->VK->Prop}
theorem SlR.or {r':V->Option Int->Option Int->Hp->VK->Prop}(h:SlR X r)(h':SlR X r'):SlR X (λx lo hi H Q=>r x lo hi H Q\/r' x lo hi H Q):=by grind [SlR]
def JH (r:V->Option Int->Option Int->Hp->VK->Prop)(te:TE)(tl th:TO):TE:=λσ H Q=>te σ H λx H1=>tl σ H1 λl H2=>th σ H2 λu H3=>r x l u H3 Q
def yT (hr:SlR X r)(he:PE X e te)(hl:PO X lo tl)(hu:PO X hi th):PE X (.Subscript e (.Slice lo hi none p2) pos) (JH r te tl th):=by
 intro pins s σ H Q I h;refine Subscript_ (O9 (he pins s σ H _ I h) λv s1 ⟨x,H1,I1,r1,q1⟩=>?_);refine wpAny_Slice (O9 (hl pins s1 σ H1 _ I1 q1) λvl s2 ⟨l,H2,I2,pl,q2⟩=>O9 (hu pins s2 σ H2 _ I2 q2) λvu s3 ⟨u,H3,I3,pu,q3⟩=>?_);rw[evalPart_none];refine Lw ?_;have I4:Inv X pins σ H3 {s3 with heap:=s3.heap.push {cls:= .type "slice",data:= .fields #[vl,vu,.none]}}:=I3.kept (t':=s3.toks) λb ob q=>Lk _ q;obtain⟨T,id,hT,ht,hg⟩:=hr pins {s3 with heap:=s3.heap.push {cls:= .type "slice",data:= .fields #[vl,vu,.none]}} σ H3 x v vl vu l u s3.heap.objs.size Q I4 r1 (Heap.IsSliceOf.new ..) pl pu q3;show wpAny (model X.prog X.w) X.A (subscriptTail e (.Slice lo hi none p2) v (.ref s3.heap.objs.size)) (EP X pins σ Q) X.xe {s3 with heap:=s3.heap.push {cls:= .type "slice",data:= .fields #[vl,vu,.none]}};exact tail_any (ops:=[.ref s3.heap.objs.size,v]) ht hT hg (by with_unfolding_all rfl)
def bj (xs:ap)(lo hi:Option Int):ap:=(xs.drop (HT.sIx xs.length 0 lo)).take (HT.sIx xs.length xs.length hi -HT.sIx xs.length 0 lo)
theorem jg (xs:ap)(lo hi:Option Int):(bj xs lo hi).length<=xs.length:=by
 unfold bj;rw[Lp,PN];lia
def IB (K:Qd):V->Option Int->Option Int->Hp->VK->Prop:=λx lo hi H Q=>∃a xs,x= .ref a/\SqT K H a xs/\
 ¬(HT.sIx xs.length 0 lo=0/\HT.sIx xs.length xs.length hi=xs.length)/\∀p,H p=none->Q (.ref p) (u9 H p (.tup (bj xs lo hi)))
def sl_tup:SlR X (IB X.K):=by
 intro pins s σ H x v vl vu lo hi sl Q I rx hs pl pu h;obtain⟨a,xs,rfl,hx,hw,q⟩:=h;cases rx;obtain⟨a_,r,ht,hz⟩:=I.tuple hx;have hlen:a_.toArray.size=xs.length:=by rw[LG];exact r.length.symm
 refine⟨"tuple",_,Nr.lookup,ht.typeIs,?_⟩;refine HT.getItem_tuple_cut ht hs pl pu (by rw[hlen];exact hw) ?_ (by rw[hlen];exact hz);rw[hlen];refine⟨.ref s.heap.objs.size,_,I.laid (t':=s.toks) (o:= .tup (bj xs lo hi)) (λb ob q=>Lk _ q) (La _) ?_,rfl,q _ (I.hok.fresh (La _))⟩;exact⟨LJ (jg xs lo hi) hz,_,(r.drop (HT.sIx xs.length 0 lo)).take (HT.sIx xs.length xs.length hi -HT.sIx xs.length 0 lo),IsTup.new _ _⟩
def CB (K:Qd):R2:=λx y H Q=>∃a b xs ys,x= .ref a/\y= .ref b/\SqT K H a xs/\SqT K H b ys/\xs≠[]/\xs.length+ys.length<=sizeLine/\
 (ys=[]->Q (.ref a) H)/\(ys≠[]->∀p,H p=none->Q (.ref p) (u9 H p (.tup (xs++ys))))
def Vals.nil_iff {xs:ap}{us:jp}(r:Vals xs us):us=[]↔xs=[]:=by
 cases r with
 |nil=>simp
 |cons _ _=>simp
def Bg:OpR X (binaryOp .Add) (CB X.K):=by
 intro pins s σ H x y v u Q I rx ry h;obtain⟨a,b,xs,ys,rfl,rfl,ha,hb,hx,hz,q1,q2⟩:=h;cases rx;cases ry;obtain⟨a_,r1,p1,_⟩:=I.tuple ha;obtain⟨UX,r2,p2,_⟩:=I.tuple hb;refine HT.cat_tup p1 p2 (λz=>hx (r1.nil_iff.mp z)) (λz=>⟨.ref a,H,I,rfl,q1 (r2.nil_iff.mp z)⟩) (λz=>?_) (by rw[←r1.length,←r2.length];exact hz);refine⟨.ref s.heap.objs.size,_,I.laid (t':=s.toks) (o:= .tup (xs++ys)) (λb ob q=>Lk _ q) (La _) ?_,rfl,q2 (λw=>z (r2.nil_iff.mpr w)) _ (I.hok.fresh (La _))⟩;exact⟨by rw[Lg];exact hz,_,r1.append r2,IsTup.new _ _⟩
end
def ze (n:Nat)(i:Int):Option Nat:=if 0<=i then(if i<n then some i.toNat else none) else if -(n:Int)<=i then some (i+n).toNat else none
variable {α:Type}
def kC (xs:List α)(i:Int):Option α:=(ze xs.length i).bind λj=>xs[j]?
theorem vz {n:Nat}{i:Int}{j:Nat}(h:ze n i=some j):seqIndex? i n=some j/\j<n/\-(n:Int)<=i/\i<n:=by
 unfold ze at h;by_cases h0:0<=i
 .rw[if_pos h0] at h;by_cases h1:i<n
  .rw[if_pos h1] at h;have e:i.toNat=j:=Ly h;exact⟨by rw[seqIndex_of h0 h1,e],by lia,by lia,h1⟩
  .rw[if_neg h1] at h;cases h
 .rw[if_neg h0] at h;by_cases h1: -(n:Int)<=i
  .rw[if_pos h1] at h;have e:(i+n).toNat=j:=Ly h;exact⟨by rw[seqIndex_neg (by lia) h1,e],by lia,h1,by lia⟩
  .rw[if_neg h1] at h;cases h
theorem pO {xs:List α}{i:Int}{v:α}(h:kC xs i=some v):∃j,seqIndex? i xs.length=some j/\xs[j]?=some v/\j<xs.length/\-(xs.length:Int)<=i/\i<xs.length:=by grind [kC,ze,vz]
theorem j7 {xs:List α}{j:Nat}{v:α}(h:xs[j]?=some v):kC xs (j:Int)=some v:=by
 have hj:j<xs.length:=(Mq.mp h).1;have e:ze xs.length (j:Int)=some j:=by
  unfold ze;rw[if_pos (by lia),if_pos (by lia)];simp
 unfold kC;rw[e];exact h
theorem atI_last (xs:List α)(v:α):kC (xs++[v]) (-1)=some v:=by
 have hl:(xs++[v]).length=xs.length+1:=by simp
 have e:ze (xs++[v]).length (-1)=some xs.length:=by
  unfold ze;rw[hl,if_neg (by decide),if_pos (by lia)];congr 1;lia
 unfold kC;rw[e];show(xs++[v])[xs.length]?=some v;simp
def vQ (b:Expr):Prop:=∀o i,subscripted b false o i=operate [o,i] (getItem o i)
def IxR (X:Cx)(r:R2):Prop:=
 ∀(value slice:Expr) (pins:XL) (s:Shared) (σ:St) (H:Hp) (x y:V) (v u:Value) (Q:VK),Inv X pins σ H s->RelV x v->RelV y u->r x y H Q->
  subscripted slice false v u=operate [v,u] (getItem v u)->wpAny (model X.prog X.w) X.A (subscriptTail value slice v u) (EP X pins σ Q) X.xe s
def xV (X:Cx)(id:String)(r:V->ap->Hp->VK->Prop):Prop:=
 ∀(pins:XL) (s:Shared) (σ:St) (H:Hp) (x:V) (xs:ap) (v:Value) (us:jp) (Q:VK),Inv X pins σ H s->RelV x v->Vals xs us->r x xs H Q->
  wpAny (model X.prog X.w) X.A (call (.builtin id) (v::us)) (EP X pins σ Q) X.xe s
section
variable {X:Cx} {a b:Expr} {ta tb:TE} {pos:Pos}
def IxR.or {r r':R2}(h:IxR X r)(h':IxR X r'):IxR X (λx y H Q=>r x y H Q\/r' x y H Q):=by
 intro value slice pins s σ H x y v u Q I rx ry q hs;rcases q with q|q
 .exact h value slice pins s σ H x y v u Q I rx ry q hs
 .exact h' value slice pins s σ H x y v u Q I rx ry q hs
def Ih {r:R2}(hr:IxR X r)(ha:PE X a ta)(hb:PE X b tb)(hs:vQ b):PE X (.Subscript a b pos) (Bv r ta tb):=by
 intro pins s σ H Q I h;exact Subscript_ (FA ha hb I h λv u s2 x y H2 I2 rx ry q=>hr a b pins s2 σ H2 x y v u Q I2 rx ry q (hs _ _))
def GW (K:Qd):R2:=λx y H Q=>∃p xs i v,x= .ref p/\y= .int i/\SqL K H p xs/\kC xs i=some v/\Q v H
def Hm (K:Qd):R2:=λx y H Q=>∃p xs i v,x= .ref p/\y= .int i/\SqT K H p xs/\kC xs i=some v/\Q v H
def Hz:R2:=λx y H Q=>∃z i c,x= .str z/\y= .int i/\z.length<=sizeLine/\kC z.cps.toList i=some c/\Q (.str ⟨#[c]⟩) H
theorem ix_list:IxR X (GW X.K):=by
 intro value slice pins s σ H x y v u Q I rx ry h hs;obtain⟨p,xs,i,z,rfl,rfl,hq,he,q⟩:=h;cases rx;obtain⟨t,rfl⟩:=ry;obtain⟨a_,r,pl,hz⟩:=I.list hq;obtain⟨j,h1,h2,h3,h4,h5⟩:=pO he;obtain⟨w,ew,SW⟩:=r.get h2;have hl:=r.length;have hn:=iP;have fin:EP X pins σ Q w s:=⟨z,H,I,SW,q⟩
 by_cases h0:0<=i
 .have hj:i.toNat=j:=by
   rw[seqIndex_of h0 h5] at h1;exact Ly h1
  exact item_listR pl.isList h0 (by lia) (by rw[hj];simpa using ew) fin hs
 .have hj:(i+(a_.toArray.size:Int)).toNat=j:=by
   rw[seqIndex_neg (by lia) h4] at h1;rw[LG,←hl];exact Ly h1
  exact subscriptTail_builtinR (x:=w) pl.isList.typeIs slot_list_getitem.lookup
   (wpAny_getItem_list_neg (Q:=λr s'=>r=w/\EP X pins σ Q r s') pl.isList (by lia) (by rw[LG]<;>lia) (by lia) (by rw[hj];simpa using ew) ⟨rfl,fin⟩) hs
theorem ix_tup:IxR X (Hm X.K):=by
 intro value slice pins s σ H x y v u Q I rx ry h hs;obtain⟨p,xs,i,z,rfl,rfl,hq,he,q⟩:=h;cases rx;obtain⟨t,rfl⟩:=ry;obtain⟨a_,r,pl,hz⟩:=I.tuple hq;obtain⟨j,h1,h2,h3,h4,h5⟩:=pO he;obtain⟨w,ew,SW⟩:=r.get h2;have hl:=r.length;have hn:=iP;have fin:EP X pins σ Q w s:=⟨z,H,I,SW,q⟩
 exact subscriptTail_builtinR (x:=w) pl.typeIs slot_tuple_getitem.lookup
  (getItem_tuple (j:=j) (Q:=λr s'=>r=w/\EP X pins σ Q r s') pl (by lia) (by lia) (by rw[LG,←hl];exact h1) (by simpa using ew) ⟨rfl,fin⟩) hs
theorem EL:IxR X Hz:=by
 intro value slice pins s σ H x y v u Q I rx ry h hs;obtain⟨z,i,c,rfl,rfl,hz,he,q⟩:=h;obtain⟨t,rfl⟩:=rx;obtain⟨t',rfl⟩:=ry;obtain⟨j,h1,h2,h3,h4,h5⟩:=pO he;have hl:z.cps.toList.length=z.length:=by simp [Str.length]
 rw[hl] at h1 h4 h5;have hn:=iP;exact tail_any (QH s z t) slot_str_getitem.lookup (getItem_str (c:=c) (by
  have e1:decide (i< -(2 ^ 63:Int))=false:=LM (by lia);have e2:decide (i≥2 ^ 63)=false:=LM (by lia);rw[e1,e2,Bool.or_false]) (by rw[h1];simpa using h2) ⟨.str ⟨#[c]⟩,H,I.tok _,⟨_,rfl⟩,q⟩) hs
def Kl (K:Qd):R2:=λx y H Q=>GW K x y H Q\/Hm K x y H Q\/Hz x y H Q
def ix_seq:IxR X (Kl X.K):=ix_list.or (ix_tup.or EL)
def tV (a_:jp)(n j:Nat)(u:Value):Obj.mapSeq (·.setIfInBounds j u) {cls:= .type "list",data:= .seq a_.toArray n}={cls:= .type "list",data:= .seq (a_.set j u).toArray n}:=by
 simp [Obj.mapSeq]
variable {pins:XL}{H:Hp}{s:Shared}{p:Addr}
def Inv.lst {σ:St}{xs:ap}(I:Inv X pins σ H s)(h:H p=some (.lst xs)):
  ∃(a_:jp) (n:Nat),Vals xs a_/\s.heap.get? p=some {cls:= .type "list",data:= .seq a_.toArray n}/\xs.length<=sizeLine:=by
 obtain⟨z,a_,n,r,e⟩:=I.hok p _ h
 exact⟨a_,n,r,e,z⟩
def Inv.lstUpd {σ:St}{xs ys:ap}{a_ its':jp}{n n':Nat}{f:Obj->Obj}(I:Inv X pins σ H s)(h:H p=some (.lst xs))
(ho:s.heap.get? p=some {cls:= .type "list",data:= .seq a_.toArray n})(hf:f {cls:= .type "list",data:= .seq a_.toArray n}={cls:= .type "list",data:= .seq its'.toArray n'})(r:Vals ys its')(hz:ys.length<=sizeLine)(t:Nat):
  Inv X pins σ (u9 H p (.lst ys)) {s with heap:=s.heap.update p f,toks:=t}:=by
 have e:(s.heap.update p f).get? p=some {cls:= .type "list",data:= .seq its'.toArray n'}:=by
  rw[Heap.get?_update_self f ho (by rw[hf]<;>rfl),hf]
 refine I.write (x:=p) (e:=p) (by rw[h];trivial) (.inl rfl) (λb u hb q=>(Heap.get?_update_other _ _ (MY hb)).trans q) ⟨_,e⟩ ?_
 exact⟨hz,its',n',r,e⟩
def CV:V->V->V->Hp->(Hp->Prop)->Prop:=λo i v H Q=>∃p xs k j,o= .ref p/\i= .int k/\H p=some (.lst xs)/\ze xs.length k=some j/\Q (u9 H p (.lst (xs.set j v)))
theorem yC:wN X CV:=by
 intro pins s σ H o i v ov iv u Q I ro ri rv h;obtain⟨p,xs,k,j,rfl,rfl,hp,hj,q⟩:=h;cases ro;obtain⟨t,rfl⟩:=ri;obtain⟨a_,n,r,ho,hz⟩:=I.lst hp;obtain⟨h1,h2,h3,h4⟩:=vz hj;have hl:=r.length;have hn:=iP;have I':Inv X pins σ (u9 H p (.lst (xs.set j v))) {s with heap:=s.heap.update p (Obj.mapSeq (·.setIfInBounds j u))}:=
  I.lstUpd hp ho (tV a_ n j u) (r.set rv j) (by rw[Ol];exact hz) s.toks
 by_cases h0:0<=k
 .have hk:k.toNat=j:=by
   rw[seqIndex_of h0 h4] at h1;exact Ly h1
  exact PySem.W.ki_setAt ho h0 (by lia) (by rw[LG,←hl];exact h4) (by rw[hk];exact⟨_,I',q⟩)
 .have hk:(k+(a_.toArray.size:Int)).toNat=j:=by
   rw[seqIndex_neg (by lia) h3] at h1;rw[LG,←hl];exact Ly h1
  exact PySem.W.ki_setBack ho (by lia) (by rw[LG,←hl];exact h3) (by lia) (by rw[hk];exact⟨_,I',q⟩)
theorem pU (lo hi:Option Int)(n:Nat):(sliceBounds lo hi none n).1=((HT.sIx n 0 lo:Nat):Int)/\(sliceBounds lo hi none n).2.1=((HT.sIx n n hi:Nat):Int)/\(sliceBounds lo hi none n).2.2=1:=by
 refine⟨?_,?_,rfl⟩
 .cases lo with
  |none=>simp [sliceBounds,HT.sIx]
  |some i=>
   simp only[sliceBounds,HT.sIx,Option.getD_none,show(1:Int)>0 by decide,Pw]
   by_cases h:i<0
   .simp only[h,Pw]<;>lia
   .simp only[h,QF]<;>lia
 .cases hi with
  |none=>simp [sliceBounds,HT.sIx]
  |some i=>
   simp only[sliceBounds,HT.sIx,Option.getD_none,show(1:Int)>0 by decide,Pw]
   by_cases h:i<0
   .simp only[h,Pw]<;>lia
   .simp only[h,QF]<;>lia
def mE (a_:jp)(lo hi:Option Int):slicePick a_.toArray lo hi none=((a_.drop (HT.sIx a_.length 0 lo)).take (HT.sIx a_.length a_.length hi -HT.sIx a_.length 0 lo)).toArray:=by
 obtain⟨h1,h2,h3⟩:=pU lo hi a_.toArray.size;unfold slicePick;rw[h1,h2,h3];simp only[sliceRange_one,pick_run,LG]<;>rfl
def GJ (K:Qd):V->Option Int->Option Int->Hp->VK->Prop:=λx lo hi H Q=>∃a xs,x= .ref a/\SqL K H a xs/\∀p,H p=none->Q (.ref p) (u9 H p (.lst (bj xs lo hi)))
theorem sl_list:SlR X (GJ X.K):=by
 intro pins s σ H x v vl vu lo hi sl Q I rx hs pl pu h;obtain⟨a,xs,rfl,hx,q⟩:=h;cases rx;obtain⟨a_,r,ht,hz⟩:=I.list hx;have hlen:=r.length;refine⟨"list",_,slot_list_getitem.lookup,ht.isList.typeIs,?_⟩;refine wpAny_getItem_list_slice ht.isList hs pl pu .none (by simp) ?_ (by rw[LG]<;>lia);rw[mE,←hlen];refine⟨.ref s.heap.objs.size,_,I.laid (t':=s.toks) (o:= .lst (bj xs lo hi)) (λb ob q=>Lk _ q) (La _) ?_,rfl,q _ (I.hok.fresh (La _))⟩;exact⟨LJ (jg xs lo hi) hz,_,0,(r.drop (HT.sIx xs.length 0 lo)).take (HT.sIx xs.length xs.length hi -HT.sIx xs.length 0 lo),LC _ rfl⟩
def K7:V->Bool
 | .non=>true
 | .bl _=>true
 | .int _=>true
 | .str _=>true
 |_=>false
def eV:V->V->Bool
 | .non,.non=>true
 | .bl a,.bl b=>a==b
 | .bl a,.int b=>(if a then 1 else 0)==b
 | .int a,.bl b=>a==(if b then 1 else 0)
 | .int a,.int b=>a==b
 | .str a,.str b=>a==b
 |_,_=>false
variable {x:V}{u v:Value}
def fU {A:Around}{y:V}(ry:RelV y u)(rx:RelV x v)(fy:K7 y=true)(fx:K7 x=true):SeqAt.EqAt A s u v (eV y x):=by
 cases y with
 |non=>
  cases ry
  cases x with
  |non=>cases rx;exact OT _
  |bl b=>cases rx;exact SeqAt.EqAt.none_bool b
  |int b=>obtain⟨t,rfl⟩:=rx;exact SeqAt.EqAt.none_int b t
  |str b=>obtain⟨t,rfl⟩:=rx;exact SeqAt.EqAt.none_str b t
  |_=>exact absurd (show false=true from fx) Ma
 |bl a=>
  cases ry
  cases x with
  |non=>cases rx;exact SeqAt.EqAt.bool_none a
  |bl b=>cases rx;exact SeqAt.EqAt.bool_bool a b
  |int b=>obtain⟨t,rfl⟩:=rx;exact SeqAt.EqAt.bool_int a b t
  |str b=>obtain⟨t,rfl⟩:=rx;exact SeqAt.EqAt.bool_str a b t
  |_=>exact absurd (show false=true from fx) Ma
 |int a=>
  obtain⟨t',rfl⟩:=ry
  cases x with
  |non=>cases rx;exact SeqAt.EqAt.int_none a t'
  |bl b=>cases rx;exact SeqAt.EqAt.int_bool a t' b
  |int b=>obtain⟨t,rfl⟩:=rx;exact SeqAt.EqAt.int_int a t' b t
  |str b=>obtain⟨t,rfl⟩:=rx;exact SeqAt.EqAt.int_str a t' b t
  |_=>exact absurd (show false=true from fx) Ma
 |str a=>
  obtain⟨t',rfl⟩:=ry
  cases x with
  |non=>cases rx;exact SeqAt.EqAt.str_none a t'
  |bl b=>cases rx;exact SeqAt.EqAt.str_bool a t' b
  |int b=>obtain⟨t,rfl⟩:=rx;exact SeqAt.EqAt.str_int a t' b t
  |str b=>obtain⟨t,rfl⟩:=rx;exact SeqAt.EqAt.str_str a t' b t
  |_=>exact absurd (show false=true from fx) Ma
 |_=>exact absurd (show false=true from fy) Ma
def sY (x:V)(u:Value):Bool:=match u with
 | .none=>eV .non x
 | .bool b=>eV (.bl b) x
 | .int i _=>eV (.int i) x
 | .str z _=>eV (.str z) x
 |_=>false
theorem zd {y:V}(r:RelV y u)(f:K7 y=true):sY x u=eV y x:=by grind [cases V,RelV,K7,sY,eV]
theorem ig {x:V}:∀{xs:ap} {us:jp},Vals xs us->xs.all K7=true->us.any (sY x)=xs.any λy=>eV y x
 |_,_,.nil,_=>rfl
 |y::xs,u::us,.cons r t,f=>by
  rw[NB,LN] at f;rw[Rl,Rl,zd r f.1,ig t f.2]
theorem dA {A:Around}{s:Shared}{x:V}{v:Value}(rx:RelV x v)(fx:K7 x=true):∀{xs:ap} {us:jp},Vals xs us->xs.all K7=true->∀u∈us,SeqAt.EqAt A s u v (sY x u)
 |_,_,.nil,_=>λu hu=>by cases hu
 |y::xs,u::us,.cons r t,f=>λu' hu=>by
  rw[NB,LN] at f;rcases LZ.mp hu with rfl|hu
  .rw[zd r f.1];exact fU r rx f.1 fx
  .exact dA rx fx t f.2 u' hu
def HJ (x:V)(xs:ap):Bool:=xs.any λy=>eV y x
def IY (K:Qd)(neg:Bool):R2:=λx y H Q=>∃p xs,y= .ref p/\(SqL K H p xs\/SqT K H p xs)/\K7 x=true/\xs.all K7=true/\Q (.bl (if neg then !HJ x xs else HJ x xs)) H
def op_in_seq:OpR X (compareOp .In) (IY X.K false):=by
 intro pins s σ H x y v u Q I rx ry h;obtain⟨p,xs,rfl,hq,fx,fs,q⟩:=h;cases ry;rcases hq with hq|hq
 .obtain⟨a_,r,pl,hz⟩:=I.list hq;refine SeqAt.in_listAt (sY x) pl.isList (λw hw=>dA rx fx r fs w (by simpa using hw)) ⟨.bl _,H,I,rfl,?_⟩;rw[show a_.toArray.any (sY x)=a_.any (sY x) by simp,ig r fs];exact q
 .obtain⟨a_,r,pl,hz⟩:=I.tuple hq;refine SeqAt.in_tupleAt (sY x) pl (λw hw=>dA rx fx r fs w (by simpa using hw)) ⟨.bl _,H,I,rfl,?_⟩;rw[show a_.toArray.any (sY x)=a_.any (sY x) by simp,ig r fs];exact q
def op_notIn_seq:OpR X (compareOp .NotIn) (IY X.K true):=by
 intro pins s σ H x y v u Q I rx ry h;obtain⟨p,xs,rfl,hq,fx,fs,q⟩:=h;cases ry;rcases hq with hq|hq
 .obtain⟨a_,r,pl,hz⟩:=I.list hq;refine SeqAt.notIn_listAt (sY x) pl.isList (λw hw=>dA rx fx r fs w (by simpa using hw)) ⟨.bl _,H,I,rfl,?_⟩;rw[show a_.toArray.any (sY x)=a_.any (sY x) by simp,ig r fs];exact q
 .obtain⟨a_,r,pl,hz⟩:=I.tuple hq;refine SeqAt.notIn_tupleAt (sY x) pl (λw hw=>dA rx fx r fs w (by simpa using hw)) ⟨.bl _,H,I,rfl,?_⟩;rw[show a_.toArray.any (sY x)=a_.any (sY x) by simp,ig r fs];exact q
def oS:OpR X (compareOp .NotIn) (λx y H Q=>∃i j,x= .str i/\y= .str j/\Q (.bl (!(!(Builtin.Str.occurrences j i 0 j.length 1).isEmpty))) H):=by
 intro pins s σ H x y v u Q I rx ry h;obtain⟨i,j,rfl,rfl,q⟩:=h;obtain⟨t,rfl⟩:=rx;obtain⟨t',rfl⟩:=ry;exact notIn_str ⟨.bl _,H,I,rfl,q⟩
theorem CallR.or {f:Value}{r r':ap->Hp->VK->Prop}(h:CallR X f r)(h':CallR X f r'):CallR X f (λxs H Q=>r xs H Q\/r' xs H Q):=by grind [CallR]
theorem call_list_of:CallR X (.type "list") (λxs H Q=>∃p ys,xs=[.ref p]/\(SqL X.K H p ys\/SqT X.K H p ys)/\∀l,H l=none->Q (.ref l) (u9 H l (.lst ys))):=by
 intro pins s σ H xs us Q I r h;obtain⟨p,ys,rfl,hq,q⟩:=h;obtain⟨u,rfl,rx⟩:=X3 r;cases rx;have fin:∀(a_:jp),Vals ys a_->ys.length<=sizeLine->∀(h':Heap) (c':Nat),(∀b o',s.heap.get? b=some o'->h'.get? b=some o')->
   h'.get? s.heap.objs.size=some {cls:= .type "list",dict:=none,data:= .seq a_.toArray c',slots:= #[]}->EP X pins σ Q (.ref s.heap.objs.size) {s with heap:=h'}:=λa_ r' hz h' c' kp e=>
  ⟨.ref s.heap.objs.size,_,I.laid (t':=s.toks) kp (La _) (show ObjOk X.prog X.w _ h' _ (.lst ys) from⟨hz,a_,c',r',e⟩),rfl,q _ (I.hok.fresh (La _))⟩
 rcases hq with hq|hq
 .obtain⟨a_,r',pl,hz⟩:=I.list hq;have hlen:=r'.length;obtain⟨o,ho,hc,n,hd⟩:=pl.isList;exact call_list_seq p (.inl rfl) ho hc hd (λh' c' kp e=>fin a_ r' hz h' c' kp e) (by simp only[LG]<;>lia)
 .obtain⟨a_,r',pl,hz⟩:=I.tuple hq;have hlen:=r'.length;obtain⟨o,ho,hc,n,hd⟩:=pl;exact call_list_seq p (.inr rfl) ho hc hd (λh' c' kp e=>fin a_ r' hz h' c' kp e) (by simp only[LG]<;>lia)
def Il (K:Qd)(T:String)(x:V)(H:Hp):Prop:=match x with
 | .str _=>T="str"
 | .int _=>T="int"
 | .ref p=>(T="list"/\∃xs,SqL K H p xs)\/(T="tuple"/\∃o,K.lookup p=some o/\o.cls= .type "tuple"/\o.dict=none)\/
   (T="dict"/\((∃kvs,H p=some (.dK kvs))\/∃kvs,H p=some (.dT kvs)))\/(T="set"/\∃S n,H p=some (.set S n))
 |_=>False
def yj {σ:St}{T:String}(I:Inv X pins σ H s)(r:RelV x v)(ty:Il X.K T x H):
  s.TypeIs v T/\∀a,v= .ref a->∃ob,s.heap.get? a=some ob/\ob.dict=none:=by
 cases x with
 |str z=>
  obtain⟨t,rfl⟩:=r
  cases (show T="str" from ty)
  exact⟨QH s z t,λ_ e=>nomatch e⟩
 |int i=>
  obtain⟨t,rfl⟩:=r
  cases (show T="int" from ty)
  exact⟨typeIs_int s i t,λ_ e=>nomatch e⟩
 |ref p=>
  cases r
  rcases ty with⟨rfl,xs,hq⟩|⟨rfl,o,hk,hc,hd⟩|⟨rfl,hk⟩|⟨rfl,S,n,hk⟩
  .obtain⟨a_,_,pl,_⟩:=I.list hq
   refine⟨pl.isList.typeIs,λa e=>?_⟩
   cases e
   obtain⟨o,n,e,c,hd,_⟩:=pl
   exact⟨o,e,hd⟩
  .refine⟨⟨o,I.kIn p o hk,hc⟩,λa e=>?_⟩
   cases e
   exact⟨o,I.kIn _ o hk,hd⟩
  .have z:∃o,s.heap.get? p=some o/\o.ExactDict:=by
    rcases hk with⟨kvs,hk⟩|⟨kvs,hk⟩
    .obtain⟨_,_,_,_,o,_,_,e,ex,_⟩:=I.hok p _ hk;exact⟨o,e,ex⟩
    .obtain⟨_,_,_,_,o,_,_,e,ex,_⟩:=I.hok p _ hk;exact⟨o,e,ex⟩
   obtain⟨o,e,ex⟩:=z
   refine⟨⟨o,e,ex.1⟩,λa e2=>?_⟩
   cases e2
   exact⟨o,e,ex.2.1⟩
  .obtain⟨o,_,_,_,e,ex,_⟩:=I.hok p _ hk
   refine⟨⟨o,e,ex.1⟩,λa e2=>?_⟩
   cases e2
   exact⟨o,e,ex.2.1⟩
 |_=>exact False.elim ty
def Ej (K:Qd)(T:String)(r:V->ap->Hp->VK->Prop)(to:TE):TE:=λσ H Q=>to σ H λx H1=>Il K T x H1/\r x [] H1 Q
def JT (K:Qd)(T:String)(r:V->ap->Hp->VK->Prop)(to:TE)(t:TA):TE:=λσ H Q=>to σ H λx H1=>Il K T x H1/\t σ H1 λxs H2=>r x xs H2 Q
variable {o e:Expr} {es:List Expr} {to:TE} {t:TA} {name:Str} {apos c_:Pos} {T id:String} {r:V->ap->Hp->VK->Prop}
def FV (pa:PlainAttrs T)(slot:Slot T name id)(Ue:typeOf (.builtin id)=pure (.type "method_descriptor"))(hm:xV X id r)(ho:PE X o to)
(j_:attributeBase o name X.env (eval o X.env)=eval o X.env:=by rfl)(k_:(apos.endLine==c_.line)=true:=by rfl):PE X (.Call (.Attribute o name apos) [] [] c_) (Ej X.K T r to):=by
 intro pins s σ H Q I h
 refine Om j_ k_ (O9 (ho pins s σ H _ I h) λv s1 ⟨x,H1,I1,r1,ty,q1⟩=>?_)
 obtain⟨h1,h2⟩:=yj I1 r1 ty
 exact⟨T,id,pa,slot,Ue,h1,h2,MZ rfl (OU (hm pins s1 σ H1 x [] v [] Q I1 r1 .nil q1))⟩
def Gn (pa:PlainAttrs T)(slot:Slot T name id)(Ue:typeOf (.builtin id)=pure (.type "method_descriptor"))(hm:xV X id r)(ho:PE X o to)(ha:PA X (e::es) t)
(j_:attributeBase o name X.env (eval o X.env)=eval o X.env:=by rfl)
(Zf:((backTo c_ (starEach (e::es) X.env)).all (λx=>!x.1)&&(backToKw c_ (keywordEach [] X.env)).all (λx=>x.1.isSome)
   &&decide ((e::es).length+([]:List Keyword).length+(if([]:List Keyword).isEmpty then 0 else 1)<30))=true:=by rfl)
(k_:(apos.endLine==c_.line)=true:=by rfl)(hs:starEach (e::es) X.env=(false,eval e X.env)::starEach es X.env:=by rfl)(UY:(backTo c_ (starEach es X.env)).any (·.1)=false:=by rfl):
  PE X (.Call (.Attribute o name apos) (e::es) [] c_) (JT X.K T r to t):=by
 intro pins s σ H Q I h
 refine wpAny_Call_method_late j_ Zf k_ rfl (O9 (ho pins s σ H _ I h) λv s1 ⟨x,H1,I1,r1,ty,q1⟩=>?_)
 obtain⟨h1,h2⟩:=yj I1 r1 ty
 refine⟨T,id,pa,slot,Ue,h1,h2,?_⟩
 have hA:=ha c_ pins s1 σ H1 _ I1 q1
 rw[hs] at hA⊢
 refine MZ (by show(false||(backTo c_ (starEach es X.env)).any (·.1))=false;rw[UY]<;>rfl) (NX ?_)
 exact O9 hA λus s2 ⟨vs,H2,I2,r2,q2⟩=>hm pins s2 σ H2 x vs v us Q I2 r1 r2 q2
end
def Km (X:Cx)(id:String)(r:V->ap->Hp->VK->Prop):Prop:=
 ∀(pins:XL) (s:Shared) (σ:St) (H:Hp) (x:V) (xs:ap) (v:Value) (us:jp) (Q:VK),Inv X pins σ H s->RelV x v->Vals xs us->r x xs H Q->
  wpAny (model X.prog X.w) X.A (call (.builtin id) (v::us)) (EP X pins σ Q) X.xe s
theorem Vals.one:∀{x:V} {us:jp},Vals [x] us->∃u,us=[u]/\RelV x u
 |_,_,.cons r .nil=>⟨_,rfl,r⟩
theorem Vals.zero:∀{us:jp},Vals [] us->us=[]
 |_,.nil=>rfl
def Vals.dropLast {xs:ap}{us:jp}(h:Vals xs us):Vals xs.dropLast us.dropLast:=by
 induction h with
 |nil=>exact .nil
 |cons r t ih=>
  cases t with
  |nil=>exact .nil
  |cons q t'=>exact .cons r ih
theorem ud (l:List α):l.eraseIdx (l.length -1)=l.dropLast:=by
 induction l with
 |nil=>rfl
 |cons a r ih=>
  cases r with
  |nil=>rfl
  |cons b r=>
   have e:(a::b::r).length -1=((b::r).length -1)+1:=by
    have h1:(a::b::r).length=r.length+2:=rfl;have h2:(b::r).length=r.length+1:=rfl;lia
   rw[e,List.eraseIdx_cons_succ,ih]
   all_goals rfl
section
variable {X:Cx} {pins:XL} {σ:St} {H:Hp} {s:Shared} {l b:Addr} {xs ys zs:ap}
variable {t':Nat}
def Inv.lset {a_ its':jp}{n:Nat}{f:Array Value->Array Value}(I:Inv X pins σ H s)(hH:H l=some (.lst xs))
(e:s.heap.get? l=some {cls:= .type "list",data:= .seq a_.toArray n})(hf:f a_.toArray=its'.toArray)(hv:Vals ys its')(hz:ys.length<=sizeLine):
  Inv X pins σ (u9 H l (.lst ys)) {s with heap:=s.heap.update l (Obj.mapSeq f),toks:=t'}:=by
 have q:=PySem.IsL.update e f
 rw[hf] at q
 refine I.write (x:=l) (e:=l) (by rw[hH];exact trivial) (.inl rfl) (λb' u hb hu=>(Heap.get?_update_other s.heap (Obj.mapSeq f) (MY hb)).trans hu) ⟨_,q⟩ ?_
 exact⟨hz,its',_,hv,q⟩
def Inv.lnew {a_:jp}(I:Inv X pins σ H s)(hv:Vals ys a_)(hz:ys.length<=sizeLine):
  Inv X pins σ (u9 H s.heap.objs.size (.lst ys)) {s with heap:=s.heap.push {cls:= .type "list",data:= .seq a_.toArray},toks:=t'}:=
 I.laid (λ_ _ q=>Lk _ q) (La _) ⟨hz,a_,0,hv,LC _ rfl⟩
def Inv.fresh (I:Inv X pins σ H s):H s.heap.objs.size=none:=I.hok.fresh (La _)
def Inv.lstM (I:Inv X pins σ H s)(hH:H l=some (.lst xs)):xs.length<=sizeLine/\∃(a_:jp) (n:Nat),Vals xs a_/\xs.length=a_.length/\s.heap.get? l=some {cls:= .type "list",data:= .seq a_.toArray n}:=by
 obtain⟨z,a_,n,r,e⟩:=I.hok l _ hH;exact⟨z,a_,n,r,r.length,e⟩
end
def uN:V->ap->Hp->VK->Prop:=λx vs H Q=>∃l xs y,x= .ref l/\vs=[y]/\H l=some (.lst xs)/\xs.length<sizeLine/\Q .non (u9 H l (.lst (xs++[y])))
variable {X:Cx}
theorem xu:Km X "list.append" uN:=by
 intro pins s σ H x vs v us Q I rx rv h;obtain⟨l,xs,y,rfl,rfl,hH,hz,q⟩:=h;cases rx;obtain⟨u,rfl,ru⟩:=rv.one;obtain⟨z,a_,n,r,hl,e⟩:=I.lstM hH;refine QJ F.slot_list_append ⟨_,e,rfl⟩ F.entry_list_append (F.args_list_append_2 _ _) (PySem.list_append l a_.toArray n u (by rw[LG];lia)) ⟨e,?_⟩;refine⟨.non,_,I.lset (its':=a_++[u]) hH e (by simp) (r.append (.cons ru .nil)) ?_,rfl,q⟩;rw[Lg,Lq];lia
def GG:V->ap->Hp->VK->Prop:=λx vs H Q=>∃l xs y,x= .ref l/\vs=[]/\H l=some (.lst xs)/\xs[xs.length -1]?=some y/\Q y (u9 H l (.lst xs.dropLast))
theorem EK:Km X "list.pop" GG:=by
 intro pins s σ H x vs v us Q I rx rv h;obtain⟨l,xs,y,rfl,rfl,hH,hy,q⟩:=h;cases rx;have UZ:=rv.zero;subst UZ;obtain⟨z,a_,n,r,hl,e⟩:=I.lstM hH;obtain⟨u,hu,ru⟩:=r.get hy;have s_:a_.toArray[a_.toArray.size -1]?=some u:=by
  show a_.toArray[a_.length -1]?=some u;rw[←NO,←hl];exact hu
 refine QJ F.slot_list_pop ⟨_,e,rfl⟩ F.entry_list_pop (F.args_list_pop_1 _) (MeetsSeq.list_pop_last l a_.toArray n u s_ (by rw[LG];lia)) ⟨e,?_⟩;refine⟨y,_,I.lset (its':=a_.dropLast) hH e ?_ r.dropLast ?_,ru,q⟩
 .show a_.toArray.eraseIdxIfInBounds (a_.toArray.size -1)=a_.dropLast.toArray;rw[LG,List.eraseIdxIfInBounds_toArray,ud]
 .rw[List.length_dropLast];lia
def IH:R2:=λx y H Q=>∃l b xs zs,x= .ref l/\y= .ref b/\H l=some (.lst xs)/\H b=some (.lst zs)/\xs.length+zs.length<=sizeLine/\∀p,H p=none->Q (.ref p) (u9 H p (.lst (xs++zs)))
theorem op_cat:OpR X (binaryOp .Add) IH:=by
 intro pins s σ H x y v u Q I rx ry h;obtain⟨l,b,xs,zs,rfl,rfl,hH,hB,hz,q⟩:=h;cases rx;cases ry;obtain⟨z,a_,n,r,hl,e⟩:=I.lstM hH;obtain⟨z2,UX,n2,r2,TV,e2⟩:=I.lstM hB;refine PySem.P.add_list e e2 ?_ (by rw[LG,LG];lia);have ea:a_.toArray++UX.toArray=(a_++UX).toArray:=by simp
 rw[ea];exact⟨.ref _,_,I.lnew (t':=s.toks) (r.append r2) (by rw[Lg];lia),rfl,q _ I.fresh⟩
section
variable {κ:Type} [DecidableEq κ]
def A8 (kvs:List (κ×V))(k:κ):Option V:=(kvs.find? λkv=>decide (kv.1=k)).map (·.2)
def F7 (kvs:List (κ×V))(k:κ)(v:V):List (κ×V):=
 if(kvs.any λkv=>decide (kv.1=k))=true then kvs.map (λkv=>if kv.1=k then(kv.1,v) else kv) else kvs++[(k,v)]
def K9 {p:κ×V}{r:List (κ×V)}{k:κ}(e:p.1=k):A8 (p::r) k=some p.2:=by simp [A8,NP,e]
def K6 {p:κ×V}{r:List (κ×V)}{k:κ}(e:¬p.1=k):A8 (p::r) k=A8 r k:=by simp [A8,NP,e]
theorem U0 (k:κ):∀kvs:List (κ×V),(kvs.any λkv=>decide (kv.1=k))=(A8 kvs k).isSome
 |[]=>rfl
 |p::r=>by
  rw[Rl];by_cases e:p.1=k
  .simp only[K9 e,LA e,Bool.true_or,Option.isSome_some]
  .rw[K6 e,LM e,Bool.false_or];exact U0 k r
theorem rV (k j:κ)(y:V):∀kvs:List (κ×V),A8 (kvs.map λkv=>if kv.1=k then(kv.1,y) else kv) j=(A8 kvs j).map λx=>if j=k then y else x
 |[]=>rfl
 |p::r=>by
  have ih:=rV k j y r;rw[Mg];by_cases h:p.1=k
  .rw[if_pos h];by_cases e:p.1=j
   .rw[K9 (p:=(p.1,y)) e,K9 e,Oo,if_pos (e.symm.trans h)]
   .rw[K6 (p:=(p.1,y)) e,K6 e,ih]
  .rw[if_neg h];by_cases e:p.1=j
   .rw[K9 (p:=p) e,K9 e,Oo,if_neg (λz=>h (e.trans z))]
   .rw[K6 (p:=p) e,K6 e,ih]
theorem oB (k j:κ)(y:V):∀kvs:List (κ×V),A8 kvs k=none->A8 (kvs++[(k,y)]) j=if j=k then some y else A8 kvs j
 |[],_=>by
  by_cases e:k=j
  .rw[if_pos e.symm];exact K9 (p:=(k,y)) e
  .rw[if_neg (λz=>e z.symm)];exact K6 (p:=(k,y)) e
 |p::r,hn=>by
  rw[NG];have hk:¬p.1=k:=λz=>by rw[K9 z] at hn;cases hn
  rw[K6 hk] at hn;have ih:=oB k j y r hn;by_cases e:p.1=j
  .rw[K9 e,K9 e,if_neg (λz=>hk (e.trans z))]
  .rw[K6 e,K6 e,ih]
def O0 (kvs:List (κ×V))(k j:κ)(y:V):A8 (F7 kvs k y) j=if j=k then some y else A8 kvs j:=by
 unfold F7;by_cases a:(kvs.any λkv=>decide (kv.1=k))=true
 .rw[if_pos a,rV];rw[U0] at a;by_cases e:j=k
  .obtain⟨x,hx⟩:=Pm.mp a;rw[if_pos e,e,hx,Oo,if_pos rfl]
  .rw[if_neg e];cases A8 kvs j with
   |none=>rfl
   |some x=>rw[Oo,if_neg e]
 .rw[if_neg a];refine oB k j y kvs ?_;rw[U0] at a;cases q:A8 kvs k with
  |none=>rfl
  |some x=>rw[q] at a;exact(a rfl).elim
theorem R5 (kvs:List (κ×V))(k:κ)(v:V):(F7 kvs k v).length<=kvs.length+1:=by
 unfold F7;split
 .rw[KW];lia
 .rw[Lg,Mj,Oq];lia
def Q7 {kvs:List (κ×V)}{k:κ}(v:V)(h:A8 kvs k=none):F7 kvs k v=kvs++[(k,v)]:=by
 unfold F7;rw[U0,h];exact if_neg (by decide)
variable {o:Option V}
def RelO.isSome_eq {u:ad}(r:RelO o u):o.isSome=u.isSome:=by
 cases o with
 |none=>cases u with
  |none=>rfl
  |some _=>exact(show False from r).elim
 |some _=>cases u with
  |none=>exact(show False from r).elim
  |some _=>rfl
def RelO.getD {u:ad}{d:V}{d':Value}(r:RelO o u)(rd:RelV d d'):RelV (o.getD d) (u.getD d'):=by
 cases o with
 |none=>cases u with
  |none=>exact rd
  |some _=>exact(show False from r).elim
 |some _=>cases u with
  |none=>exact(show False from r).elim
  |some _=>exact r
def KV.val {kvs:List (κ×V)}{vs:List (κ×Value)}(r:KV kvs vs)(k:κ):RelO (A8 kvs k) (valueAt vs k):=by
 unfold KV at r;induction r with
 |nil=>exact True.intro
 | @cons p q ps qs h t ih=>
  obtain⟨h1,h2⟩:=h
  by_cases e:p.1=k
  .have e':q.1=k:=h1.symm.trans e
   have b:valueAt (q::qs) k=some q.2:=by simp [valueAt,NP,e']
   rw[K9 e,b];exact h2
  .have e':¬q.1=k:=λz=>e (h1.trans z)
   have b:valueAt (q::qs) k=valueAt qs k:=by simp [valueAt,NP,e']
   rw[K6 e,b];exact ih
theorem KV.any {kvs:List (κ×V)}{vs:List (κ×Value)}(r:KV kvs vs)(k:κ):(kvs.any λkv=>decide (kv.1=k))=vs.any λkv=>decide (kv.1=k):=by induction r with grind
variable {u:Value}
def KV.repl {kvs:List (κ×V)}{vs:List (κ×Value)}(r:KV kvs vs)(k:κ){y:V}(ry:RelV y u):
  KV (kvs.map λkv=>if kv.1=k then(kv.1,y) else kv) (vs.map λkv=>if kv.1=k then(kv.1,u) else kv):=by
 unfold KV at r⊢
 induction r with
 |nil=>exact .nil
 | @cons p q ps qs h t ih=>
  rw[Mg,Mg]
  refine .cons ?_ ih
  obtain⟨h1,h2⟩:=h
  by_cases e:p.1=k
  .rw[if_pos e,if_pos (h1.symm.trans e)];exact⟨h1,ry⟩
  .rw[if_neg e,if_neg (λz=>e (h1.trans z))];exact⟨h1,h2⟩
def KV.put {kvs:List (κ×V)}{vs:List (κ×Value)}(r:KV kvs vs)(k:κ){y:V}(ry:RelV y u):KV (F7 kvs k y) (stored vs k u):=by
 unfold F7 stored;rw[r.any k];by_cases e:(vs.any λkv=>decide (kv.1=k))=true
 .rw[if_pos e,if_pos e];exact r.repl k ry
 .rw[if_neg e,if_neg e];exact Paired.snoc r ⟨rfl,ry⟩
theorem KV.keys {kvs:List (κ×V)}{vs:List (κ×Value)}(r:KV kvs vs):kvs.map (·.1)=vs.map (·.1):=by induction r with grind
def KV.length {kvs:List (κ×V)}{vs:List (κ×Value)}(r:KV kvs vs):kvs.length=vs.length:=LP r
end
variable {P:Program}{w:World}{u:Value}
def fh {k:j0}(r:RelV (kV k) u):(z0 P w).is k u=true:=by
 cases k with
 |inl i=>obtain⟨t,e⟩:=(show ∃t,u=Value.int i t from r);subst e;exact sL P w i t
 |inr x=>obtain⟨t,e⟩:=(show ∃t,u=Value.str x t from r);subst e;exact sj P w x t
theorem nX {P:Program}{w:World}:∀{ks:List j0} {us:jp},Vals (ks.map kV) us->ItemsAre (z0 P w) ks us
 |[],_,r=>by rw[Nz] at r;cases r;exact .nil
 |k::ks,_,r=>by
  rw[Mg] at r;cases r with
  |cons h t=>exact .cons (fh h) (nX t)
abbrev KT (H:Hp):List (List j0×V)->List (List j0×Addr×Value)->Prop:=Paired λp q=>p.1=q.1/\H q.2.1=some (.tup (p.1.map kV))/\RelV p.2 q.2.2
variable {xs:List (List j0×Addr×Value)}{H:Hp}{kvs:List (List j0×V)}
def KT.val (r:KT H kvs xs)(k:List j0):RelO (A8 kvs k) ((atKey xs k).map (·.2)):=by
 induction r with
 |nil=>exact True.intro
 | @cons p q ps qs h t ih=>
  obtain⟨h1,_,h2⟩:=h
  by_cases e:p.1=k
  .have e':q.1=k:=h1.symm.trans e
   have b:atKey (q::qs) k=some q.2:=by simp [atKey,NP,e']
   rw[K9 e,b];exact h2
  .have e':¬q.1=k:=λz=>e (h1.trans z)
   have b:atKey (q::qs) k=atKey qs k:=by simp [atKey,NP,e']
   rw[K6 e,b];exact ih
variable {y:V}
def KT.repl (r:KT H kvs xs)(k:List j0)(ry:RelV y u):
  KT H (kvs.map λkv=>if kv.1=k then(kv.1,y) else kv) (xs.map (putAt k u)):=by
 induction r with
 |nil=>exact .nil
 | @cons p q ps qs h t ih=>
  rw[Mg,Mg]
  refine .cons ?_ ih
  obtain⟨h1,h2,h3⟩:=h
  unfold putAt
  by_cases e:p.1=k
  .rw[if_pos e,if_pos (h1.symm.trans e)];exact⟨h1,h2,ry⟩
  .rw[if_neg e,if_neg (λz=>e (h1.trans z))];exact⟨h1,h2,h3⟩
variable {b:Addr}
def KT.put (r:KT H kvs xs)(k:List j0)(hb:H b=some (.tup (k.map kV)))(ry:RelV y u):
  KT H (F7 kvs k y) (storedH xs k b u):=by
 have e:(kvs.any λkv=>decide (kv.1=k))=(atKey xs k).isSome:=by
  rw[U0,(r.val k).isSome_eq,Po]
 unfold F7 storedH
 rw[e]
 by_cases q:(atKey xs k).isSome=true
 .rw[if_pos q,if_pos q];exact r.repl k ry
 .rw[if_neg q,if_neg q];exact Paired.snoc r ⟨rfl,hb,ry⟩
def KT.keeps {H':Hp}(r:KT H kvs xs)(ht:∀b ys,H b=some (.tup ys)->H' b=some (.tup ys)):KT H' kvs xs:=
 Paired.mapP r λ_ _ z=>⟨z.1,ht _ _ z.2.1,z.2.2⟩
variable {h:Heap}{a:Addr}
def De {u:HO}(ok:HOk P w H h)(e:Rd H a u):ObjOk P w H h a u:=e.ok ok
variable {kvs:am}
def U5 (ok:HOk P w H h)(e:Rd H a (.dK kvs)):kvs.length<=sizeLine/\(a==sysModules)=false/\∃vs,KV kvs vs/\h.DictOf (z0 P w) a vs:=
 show ObjOk P w H h a (.dK kvs) from De ok e
def vK (ok:HOk P w H h)(e:H a=some (.dK kvs)):kvs.length<=sizeLine/\(a==sysModules)=false/\∃vs,KV kvs vs/\h.DictOf (z0 P w) a vs:=U5 ok (.inl e)
def dX {ks:List j0}(ok:HOk P w H h)(e:H a=some (.tup (ks.map kV))):(tupleKind (z0 P w)).is h ks a:=by
 obtain⟨_,a_,r,o,h1,h2,n,h3⟩:=(show ObjOk P w H h a (.tup (ks.map kV)) from ok a _ e)
 exact⟨o,a_.toArray,n,h1,h2,h3,by simpa using nX r⟩
variable {kvs:List (List j0×V)}
def jf (ok:HOk P w H h)(e:Rd H a (.dT kvs)):kvs.length<=sizeLine/\(a==sysModules)=false/\
  ∃xs,KT H kvs xs/\h.DictOfH (tupleKind (z0 P w)) a xs:=by
 obtain⟨z,y,xs,r,o,es,ep,h1,h2,h3,h4,h5⟩:=(show ObjOk P w H h a (.dT kvs) from De ok e)
 refine⟨z,y,xs,r,o,es,ep,h1,h2,h3,h4,λx hx=>?_,h5⟩
 have all:∀{l:List (List j0×V)} {m:List (List j0×Addr×Value)},KT H l m->∀x∈m,(tupleKind (z0 P w)).is h x.1 x.2.1:=by
  intro l m q;induction q with
  |nil=>intro x hx;exact nomatch hx
  | @cons p q ps qs hq t ih=>
   intro x hx
   rcases LZ.mp hx with e|hx
   .subst e
    exact dX ok (by rw[←hq.1];exact hq.2.1)
   .exact ih x hx
 exact all r x hx
def CQ (ok:HOk P w H h)(e:H a=some (.dT kvs)):kvs.length<=sizeLine/\(a==sysModules)=false/\
  ∃xs,KT H kvs xs/\h.DictOfH (tupleKind (z0 P w)) a xs:=jf ok (.inl e)
def DGet (H:Hp)(a:Addr)(y:V)(r:Option V):Prop:=
 (∃kvs k,Rd H a (.dK kvs)/\y=kV k/\r=A8 kvs k)\/∃kvs k b,Rd H a (.dT kvs)/\y= .ref b/\H b=some (.tup (k.map kV))/\r=A8 kvs k
def DPut (H:Hp)(a:Addr)(y v:V)(H':Hp):Prop:=
 (∃kvs k,H a=some (.dK kvs)/\y=kV k/\kvs.length<sizeLine/\H'=u9 H a (.dK (F7 kvs k v)))\/
 ∃kvs k b,H a=some (.dT kvs)/\y= .ref b/\H b=some (.tup (k.map kV))/\kvs.length<sizeLine/\H'=u9 H a (.dT (F7 kvs k v))
def DGet.t {k:List j0}(e:H a=some (.dT kvs))(eb:H b=some (.tup (k.map kV))):DGet H a (.ref b) (A8 kvs k):= .inr ⟨kvs,k,b,.inl e,rfl,eb,rfl⟩
def DPut.k {H:Hp}{a:Addr}{kvs:am}{k:j0}{v:V}(e:H a=some (.dK kvs))(hl:kvs.length<sizeLine):DPut H a (kV k) v (u9 H a (.dK (F7 kvs k v))):= .inl ⟨kvs,k,e,rfl,hl,rfl⟩
section
variable {X:Cx} {pins:XL} {σ:St} {H:Hp} {s:Shared} {a:Addr} {y v:V} {u r:Value} {o:Option V} {A:Around} {E:XV}
def Inv.big (I:Inv X pins σ H s):sysModules<s.heap.objs.size:=by
 have h:mainGlobals<s.heap.objs.size:=(I.mod.glob.keeps I.bk).lt;exact Qm (by decide) h
variable {Q:XV}
def xf (hu:A.units+1<cLine)(I:Inv X pins σ H s)(g:DGet H a y (some v))(ry:RelV y u)(h:∀w' s',Inv X pins σ H s'->RelV v w'->Q w' s'):
  wpAny (model X.prog X.w) A (getItem (.ref a) u) Q E s:=by
 rcases g with⟨kvs,k,e,ey,l⟩|⟨kvs,k,b,e,ey,eb,l⟩
 .subst ey
  obtain⟨z,hd,vs,rel,dd⟩:=U5 I.hok e
  obtain⟨w',hw,SW⟩:=RelO.some_of (v:=v) (o:=valueAt vs k) (by rw[l];exact rel.val k)
  exact wpAny_getItem_of (fh ry) dd.mapOf hw (h w' _ (I.tok _) SW)
 .subst ey
  cases (show u=Value.ref b from ry)
  obtain⟨z,hd,xs,rel,dd⟩:=jf I.hok e
  obtain⟨w',hw,SW⟩:=RelO.some_of (v:=v) (o:=(atKey xs k).map (·.2)) (by rw[l];exact rel.val k)
  obtain⟨p,hp,hp2⟩:=LB.mp hw
  refine wpAny_getItem_heap (Nd hu) (dX I.hok eb) dd hp ?_
  rw[hp2]
  exact h w' _ (I.tok _) SW
def Jl (hu:A.units+1<cLine)(I:Inv X pins σ H s)(g:DGet H a y o)(ry:RelV y u)(h:∀s',Inv X pins σ H s'->Q (.bool o.isSome) s'):
  wpAny (model X.prog X.w) A (compareOp .In u (.ref a)) Q E s:=by
 rcases g with⟨kvs,k,e,ey,l⟩|⟨kvs,k,b,e,ey,eb,l⟩
 .subst ey
  obtain⟨z,hd,vs,rel,dd⟩:=U5 I.hok e
  refine wpAny_in_of (fh ry) hd dd.mapOf ?_
  rw[←(rel.val k).isSome_eq,←l]
  exact h _ (I.tok _)
 .subst ey
  cases (show u=Value.ref b from ry)
  obtain⟨z,hd,xs,rel,dd⟩:=jf I.hok e
  refine wpAny_in_heap (Nd hu) (dX I.hok eb) hd dd ?_
  have q:=(rel.val k).isSome_eq
  rw[Po] at q
  rw[←q,←l]
  exact h _ (I.tok _)
def BA (hu:A.units+1<cLine)(I:Inv X pins σ H s)(g:DGet H a y o)(ry:RelV y u)(h:∀s',Inv X pins σ H s'->Q (.bool (!o.isSome)) s'):
  wpAny (model X.prog X.w) A (compareOp .NotIn u (.ref a)) Q E s:=by
 rcases g with⟨kvs,k,e,ey,l⟩|⟨kvs,k,b,e,ey,eb,l⟩
 .subst ey
  obtain⟨z,hd,vs,rel,dd⟩:=U5 I.hok e
  refine wpAny_notIn_of (fh ry) hd dd.mapOf ?_
  rw[←(rel.val k).isSome_eq,←l]
  exact h _ (I.tok _)
 .subst ey
  cases (show u=Value.ref b from ry)
  obtain⟨z,hd,xs,rel,dd⟩:=jf I.hok e
  refine wpAny_notIn_heap (Nd hu) (dX I.hok eb) hd dd ?_
  have q:=(rel.val k).isSome_eq
  rw[Po] at q
  rw[←q,←l]
  exact h _ (I.tok _)
variable {h':Heap}
def eI {t':Nat}{ob:HO}(I:Inv X pins σ H s)(mu:GA (H a))(hs:Heap.SameBut a s.heap h')(he:∃q,h'.get? a=some q)(new:ObjOk X.prog X.w (u9 H a ob) h' a ob):
  Inv X pins σ (u9 H a ob) {s with heap:=h',toks:=t'}:=
 I.write (x:=a) (e:=a) mu (.inl rfl) (λb q hb z=>(hs.2 b hb).trans z) he new
def fX {P:Program}{w:World}{H':Hp}{kvs:am}{vs:List (j0×Value)}(z:kvs.length<=sizeLine)(hd:(a==sysModules)=false)(rel:KV kvs vs)(dd:h'.DictOf (z0 P w) a vs):
  ObjOk P w H' h' a (.dK kvs):=⟨z,hd,vs,rel,dd⟩
theorem wZ {H':Hp}{Q:Unit->Shared->Prop}(hu:A.units+1<cLine)(I:Inv X pins σ H s)(g:DPut H a y v H')(ry:RelV y u)(rv:RelV v r)(h:∀s',Inv X pins σ H' s'->Q () s'):
  wpAny (model X.prog X.w) A (setItem (.ref a) u r) Q E s:=by
 rcases g with⟨kvs,k,e,ey,l,eH⟩|⟨kvs,k,b,e,ey,eb,l,eH⟩
 .subst ey eH
  obtain⟨z,hd,vs,rel,dd⟩:=vK I.hok e
  have hz:vs.length<=sizeLine:=by rw[←rel.length];exact z
  have hl:(F7 kvs k v).length<=sizeLine:=by have:=R5 kvs k v;lia
  refine wpAny_setItem_pairs (hsz:=hz) (fh ry) dd λh' dd' hs=>h _ ?_
  have he:∃q,h'.get? a=some q:=let ⟨q,_,_,hq,_⟩:=dd';⟨q,hq⟩
  exact eI I (by rw[e];exact True.intro) hs he (fX hl hd (rel.put k rv) dd')
 .subst ey eH
  cases (show u=Value.ref b from ry)
  obtain⟨z,hd,xs,rel,dd⟩:=CQ I.hok e
  have hz:xs.length<=sizeLine:=by rw[←LP rel];exact z
  have hl:(F7 kvs k v).length<=sizeLine:=by have:=R5 kvs k v;lia
  refine wpAny_setItem_heap (hsz:=hz) (Nd hu) (dX I.hok eb) dd λh' dd' hs=>h _ ?_
  obtain⟨q,es,ep,hq,h2,h3,h4,_,h5⟩:=dd'
  refine eI I (by rw[e];exact True.intro) hs ⟨q,hq⟩ ⟨hl,hd,_,(rel.put k eb rv).keeps λc ys ec=>?_,q,es,ep,hq,h2,h3,h4,h5⟩
  rw[b7 (CZ ec e (λz=>nomatch z))]
  exact ec
end
section
variable {X:Cx} {pins:XL} {σ:St} {H:Hp} {s:Shared} {a:Addr} {kvs:am} {k:j0} {u:Value} {A:Around} {E:XV}
def BR {Q:XV}(I:Inv X pins σ H s)(e:H a=some (.dK kvs))(h:∀s',Inv X pins σ (u9 H a (.dK [])) s'->Q .none s'):wpAny (model X.prog X.w) A (call (.builtin "dict.clear") [.ref a]) Q E s:=by
 obtain⟨z,hd,vs,rel,dd⟩:=vK I.hok e;refine ML Px dd.typeIs PySem.F.entry_dict_clear (PySem.F.args_dict_clear_1 _) (meets_dict_clear (z0 X.prog X.w) a) ⟨vs,dd,by rw[←rel.length];exact z,λh' dd' hs=>h _ ?_⟩;have he:∃q,h'.get? a=some q:=let ⟨q,_,_,hq,_⟩:=dd';⟨q,hq⟩
 exact eI (t':=s.toks) I (by rw[e];exact True.intro) hs he (fX (My _) hd .nil dd')
theorem HP {Q:XV}(I:Inv X pins σ H s)(e:Rd H a (.dK kvs))(h:∀t s',Inv X pins σ H s'->Q (.int kvs.length t) s'):wpAny (model X.prog X.w) A (call (.builtin "len") [.ref a]) Q E s:=by
 obtain⟨z,hd,vs,rel,dd⟩:=U5 I.hok e;refine call_len_dict hd dd (by rw[←rel.length];rw[Pt] at z;lia) ?_;rw[←rel.length];exact h _ _ (I.tok _)
end
variable {pins:XL}{s:Shared}
def sX {σ:St}{o:Option V}(I:Inv X pins σ H s)(g:DGet H a y o):s.TypeIs (.ref a) "dict":=by
 rcases g with⟨kvs,k,e,_,_⟩|⟨kvs,k,b,e,_,_,_⟩
 .obtain⟨_,_,vs,_,dd⟩:=U5 I.hok e;exact dd.typeIs
 .obtain⟨_,_,xs,_,dd⟩:=jf I.hok e;exact dd.typeIs
section
variable {X:Cx} {o i e value:Expr} {pos pos' y_:Pos} {td ty tv:TE}
end
def sW (h:Heap)(hb:sysModules<h.objs.size):ObjOk P w H (h.push {cls:= .type "dict",data:= .dict #[]}) h.objs.size (.dK []):=
 ⟨My _,NC.mpr (MY (Lz hb)),[],.nil,Qn h⟩
def Aa (h:Heap)(hb:sysModules<h.objs.size):ObjOk P w H (h.push {cls:= .type "dict",data:= .dict #[]}) h.objs.size (.dT []):=
 ⟨My _,NC.mpr (MY (Lz hb)),[],.nil,_, #[],0,LC _ rfl,⟨rfl,rfl,rfl⟩,rfl,rfl,Mz⟩
def Ap:TE:=λ_ H Q=>∀p H2,H p=none->Same H H2->H2 p=some (.dK [])->Q (.ref p) H2
def zu:TE:=λ_ H Q=>∀p,H p=none->Q (.ref p) (u9 H p (.dT []))
variable {pos:Pos}
def zX:PE X (.Dict [] [] pos) Ap:=λpins s σ H Q I h=>
 wpAny_Dict_empty ⟨.ref s.heap.objs.size,_,I.laid (a:=s.heap.objs.size) (o:= .dK []) (t':=s.toks) (λ_ _ q=>Lk _ q) (La _) (sW s.heap I.big),rfl,h _ _ (I.hok.fresh (La _)) (nwS (I.hok.fresh (La _))) b5⟩
def yZ:PE X (.Dict [] [] pos) zu:=λpins s σ H Q I h=>
 wpAny_Dict_empty ⟨.ref s.heap.objs.size,_,I.laid (a:=s.heap.objs.size) (o:= .dT []) (t':=s.toks) (λ_ _ q=>Lk _ q) (La _) (Aa s.heap I.big),rfl,h _ (I.hok.fresh (La _))⟩
def iM:List (TE×TE)->St->Hp->(List (V×V)->Hp->Prop)->Prop
 |[],_,H,Q=>Q [] H
 |(tk,tv)::r,σ,H,Q=>tk σ H λx H1=>tv σ H1 λy H2=>iM r σ H2 λps H3=>Q ((x,y)::ps) H3
abbrev VV:List (V×V)->List (Value×Value)->Prop:=Paired λp q=>RelV p.1 q.1/\RelV p.2 q.2
def Ib (X:Cx)(pos:Pos)(keys:List (Option Expr))(values:List Expr)(QK:List (TE×TE)):Prop:=
 ∀(pins:XL) (s:Shared) (σ:St) (H:Hp) (Q:List (V×V)->Hp->Prop),Inv X pins σ H s->iM QK σ H Q->
  wpAny (model X.prog X.w) X.A (evalPairs (pairTrees keys values X.env pos)) (λvs s'=>∃ps H',Inv X pins σ H' s'/\VV ps vs/\Q ps H') X.xe s
def Cr:Ib X pos [] [] []:=λpins s σ H Q I h=>pairTrees_nil_walk ⟨[],H,I,.nil,h⟩
variable {QK:List (TE×TE)}
def zZ {k v:Expr}{ks:List (Option Expr)}{vs:List Expr}{tk tv:TE}(hk:PE X k tk)(hv:PE X v tv)(hr:Ib X pos ks vs QK):
  Ib X pos (some k::ks) (v::vs) ((tk,tv)::QK):=λpins s σ H Q I h=>
 pairTrees_cons_walk (O9 (hk pins s σ H _ I h) λu s1 ⟨x,H1,I1,rx,q1⟩=>O9 (hv pins s1 σ H1 _ I1 q1) λw2 s2 ⟨y,H2,I2,ry,q2⟩=>
  O9 (hr pins s2 σ H2 _ I2 q2) λws s3 ⟨ps,H3,I3,rel,q3⟩=>⟨(x,y)::ps,H3,I3,.cons ⟨rx,ry⟩ rel,q3⟩)
def aD (kvs more:am):am:=more.foldl (λacc kv=>F7 acc kv.1 kv.2) kvs
def KV.merge:∀{more:am} {rs:List (j0×Value)} {kvs:am} {vs:List (j0×Value)},KV more rs->KV kvs vs->KV (aD kvs more) (merged vs rs):=by
 intro more rs kvs vs r;unfold KV at r;induction r generalizing kvs vs with
 |nil=>intro q;exact q
 | @cons p q ps qs h t ih=>
  intro r0
  have e:KV (F7 kvs p.1 p.2) (stored vs q.1 q.2):=by
   have:=r0.put p.1 h.2;rw[←h.1];exact this
  exact ih e
theorem ff:∀(more kvs:am),(aD kvs more).length<=kvs.length+more.length
 |[],kvs=>by show kvs.length<=kvs.length+0;lia
 |p::r,kvs=>by
  have h1:=ff r (F7 kvs p.1 p.2);have h2:=R5 kvs p.1 p.2;show(aD (F7 kvs p.1 p.2) r).length<=_;rw[Mj];lia
theorem lG {P:Program}{w:World}:∀{kvs:am} {ws:List (Value×Value)},VV (kvs.map λkv=>(kV kv.1,kv.2)) ws->∃rs,Carries (z0 P w) ws rs/\KV kvs rs
 |[],_,r=>by rw[Nz] at r;cases r;exact⟨[],True.intro,.nil⟩
 |p::kvs,_,r=>by
  rw[Mg] at r;cases r with
  | @cons a b as bs h t=>
   obtain⟨rs,c,q⟩:=lG (P:=P) (w:=w) t
   obtain⟨b1,b2⟩:=b
   exact⟨(p.1,b2)::rs,⟨fh h.1,rfl,c⟩,.cons ⟨rfl,h.2⟩ q⟩
def Dd (QK:List (TE×TE)):TE:=λσ H Q=>∀p,H p=none->iM QK σ (u9 H p (.dK [])) λps H2=>H2 p=some (.dK [])/\∃kvs:am,ps=kvs.map (λkv=>(kV kv.1,kv.2))/\kvs.length<=15/\Q (.ref p) (u9 H2 p (.dK (aD [] kvs)))
theorem BG {keys:List (Option Expr)}{values:List Expr}(h:Ib X pos keys values QK)(n_:keys.all (·.isSome)=true)(hl:keys.length=values.length)(h0:keys≠[])
(WR:keys.length<=15):PE X (.Dict keys values pos) (Dd QK):=by
 intro pins s σ H Q I q
 have hn:=I.hok.fresh (La s.heap.objs.size)
 have I1:=I.laid (a:=s.heap.objs.size) (o:= .dK []) (h':=s.heap.push {cls:= .type "dict",data:= .dict #[]}) (t':=s.toks) (λ_ _ q=>Lk _ q) (La _) (sW s.heap I.big)
 refine wpAny_Dict_walk (knd:=z0 X.prog X.w) n_ hl h0 WR (O9 (h pins _ σ _ _ I1 (q _ hn)) λws s2 ⟨ps,H2,I2,rel,e,kvs,ep,lk,q2⟩=>?_)
 subst ep
 obtain⟨rs,c,rk⟩:=lG (P:=X.prog) (w:=X.w) rel
 obtain⟨z,hd,vs0,r0,dd⟩:=vK I2.hok e
 cases r0
 refine⟨rs,c,dd,λh' dd' hs=>⟨.ref s.heap.objs.size,_,?_,rfl,q2⟩⟩
 have hz:(aD [] kvs).length<=sizeLine:=by
  have h1:=ff kvs [];rw[Oq] at h1;rw[Pt];lia
 have he:∃q,h'.get? s.heap.objs.size=some q:=let ⟨q,_,_,hq,_⟩:=dd';⟨q,hq⟩
 exact eI I2 (by rw[e];exact True.intro) hs he (fX hz hd (rk.merge .nil) dd')
structure M1 (X:Cx) (o:Expr) (m:Str) (apos:Pos) (e:Expr) (c_:Pos):Prop where
 base:attributeBase o m X.env (eval o X.env)=eval o X.env
 few:((backTo c_ (starEach [e] X.env)).all (λx=>!x.1)&&(backToKw c_ (keywordEach [] X.env)).all (λx=>x.1.isSome)
  &&decide (([e]:List Expr).length+([]:List Keyword).length+(if([]:List Keyword).isEmpty then 0 else 1)<30))=true
 line:(apos.endLine==c_.line)=true
 trees:backTo c_ (starEach [e] X.env)=[(false,eval e X.env)]
structure M2 (X:Cx) (o:Expr) (m:Str) (apos:Pos) (e f:Expr) (c_:Pos):Prop where
 base:attributeBase o m X.env (eval o X.env)=eval o X.env
 few:((backTo c_ (starEach [e,f] X.env)).all (λx=>!x.1)&&(backToKw c_ (keywordEach [] X.env)).all (λx=>x.1.isSome)
  &&decide (([e,f]:List Expr).length+([]:List Keyword).length+(if([]:List Keyword).isEmpty then 0 else 1)<30))=true
 line:(apos.endLine==c_.line)=true
 trees:backTo c_ (starEach [e,f] X.env)=[(false,eval e X.env),(false,eval f X.env)]
def HD (H:Hp)(a:Addr):Prop:=(∃kvs,Rd H a (.dK kvs))\/∃kvs,Rd H a (.dT kvs)
def Au {σ:St}(I:Inv X pins σ H s)(d:HD H a):
  s.TypeIs (.ref a) "dict"/\(∀b,Value.ref a= .ref b->∃ob,s.heap.get? b=some ob/\ob.dict=none)/\(a==sysModules)=false:=by
 rcases d with⟨kvs,e⟩|⟨kvs,e⟩
 .obtain⟨_,hd,vs,_,dd⟩:=U5 I.hok e
  refine⟨dd.typeIs,λb q=>?_,hd⟩
  cases q
  obtain⟨ob,_,_,h1,h2,_⟩:=dd
  exact⟨ob,h1,h2.2.1⟩
 .obtain⟨_,hd,xs,_,dd⟩:=jf I.hok e
  refine⟨dd.typeIs,λb q=>?_,hd⟩
  cases q
  obtain⟨ob,_,_,h1,h2,_⟩:=dd
  exact⟨ob,h1,h2.2.1⟩
section
variable {X:Cx} {pins:XL} {σ:St} {H:Hp} {s:Shared} {a:Addr} {y d:V} {u r:Value} {o:Option V} {A:Around} {E:XV}
def Du {Q:XV}(hu:A.units+1<cLine)(I:Inv X pins σ H s)(g:DGet H a y o)(ry:RelV y u)(h:∀w' s',Inv X pins σ H s'->RelV (o.getD .non) w'->Q w' s'):
  wpAny (model X.prog X.w) A (call (.builtin "dict.get") [.ref a,u]) Q E s:=by
 rcases g with⟨kvs,k,e,ey,l⟩|⟨kvs,k,b,e,ey,eb,l⟩
 .subst ey
  obtain⟨z,hd,vs,rel,dd⟩:=U5 I.hok e
  refine ML Nc dd.typeIs NI (Py _ _) (meets_dict_get (z0 X.prog X.w) a (fh ry) hd) ⟨_,dd.mapOf,h _ _ (I.tok _) ?_⟩
  rw[l]
  exact(rel.val k).getD rfl
 .subst ey
  cases (show u=Value.ref b from ry)
  obtain⟨z,hd,xs,rel,dd⟩:=jf I.hok e
  refine ML Nc dd.typeIs NI (Py _ _) (meetsH_dict_get (tupleKind (z0 X.prog X.w)) a b hd) ⟨Nd hu,k,xs,dX I.hok eb,dd,h _ _ (I.tok _) ?_⟩
  rw[l]
  exact(rel.val k).getD rfl
def Ez {Q:XV}(hu:A.units+1<cLine)(I:Inv X pins σ H s)(g:DGet H a y o)(ry:RelV y u)(rd:RelV d r)(h:∀w' s',Inv X pins σ H s'->RelV (o.getD d) w'->Q w' s'):
  wpAny (model X.prog X.w) A (call (.builtin "dict.get") [.ref a,u,r]) Q E s:=by
 rcases g with⟨kvs,k,e,ey,l⟩|⟨kvs,k,b,e,ey,eb,l⟩
 .subst ey
  obtain⟨z,hd,vs,rel,dd⟩:=U5 I.hok e
  refine ML Nc dd.typeIs NI (Pz _ _ _) (meets_dict_get_default (z0 X.prog X.w) a (fh ry) hd r) ⟨_,dd.mapOf,h _ _ (I.tok _) ?_⟩
  rw[l]
  exact(rel.val k).getD rd
 .subst ey
  cases (show u=Value.ref b from ry)
  obtain⟨z,hd,xs,rel,dd⟩:=jf I.hok e
  refine ML Nc dd.typeIs NI (Pz _ _ _) (meetsH_dict_get_default (tupleKind (z0 X.prog X.w)) a b hd r) ⟨Nd hu,k,xs,dX I.hok eb,dd,h _ _ (I.tok _) ?_⟩
  rw[l]
  exact(rel.val k).getD rd
end
def tU (td ty:TE):TE:=λσ H Q=>td σ H λx H1=>∃a,x= .ref a/\HD H1 a/\ty σ H1 λy H2=>∃o,DGet H2 a y o/\Q (o.getD .non) H2
def uf (td ty tx:TE):TE:=λσ H Q=>td σ H λx H1=>∃a,x= .ref a/\HD H1 a/\ty σ H1 λy H2=>tx σ H2 λz H3=>∃o,DGet H3 a y o/\Q (o.getD z) H3
section
variable {X:Cx} {o e f:Expr} {apos c_:Pos} {td ty tx:TE}
def Am (hu:X.A.units+1<cLine)(ho:PE X o td)(he:PE X e ty)(m:M1 X o "get" apos e c_):PE X (.Call (.Attribute o "get" apos) [e] [] c_) (tU td ty):=by
 intro pins s σ H Q I h;refine wpAny_Call_method m.base m.few m.line Mr Nc Qp (O9 (ho pins s σ H _ I h) λu s1 ⟨x,H1,I1,rx,a,ex,d,q1⟩=>?_);subst ex;obtain rfl:u=Value.ref a:=rx;obtain⟨t1,t2,_⟩:=Au I1 d;refine⟨t1,t2,?_⟩;rw[m.trees];refine MZ rfl (NX (NL (O9 (he pins s1 σ H1 _ I1 q1) λiv s2 ⟨y,H2,I2,ry,ov,g,q2⟩=>OE ?_)));exact Du hu I2 g ry λw' s3 I3 SW=>⟨_,H2,I3,SW,q2⟩
def Ad (hu:X.A.units+1<cLine)(ho:PE X o td)(he:PE X e ty)(hf:PE X f tx)(m:M2 X o "get" apos e f c_):PE X (.Call (.Attribute o "get" apos) [e,f] [] c_) (uf td ty tx):=by
 intro pins s σ H Q I h;refine wpAny_Call_method m.base m.few m.line Mr Nc Qp (O9 (ho pins s σ H _ I h) λu s1 ⟨x,H1,I1,rx,a,ex,d,q1⟩=>?_);subst ex;obtain rfl:u=Value.ref a:=rx;obtain⟨t1,t2,_⟩:=Au I1 d;refine⟨t1,t2,?_⟩;rw[m.trees];refine MZ rfl (NX (NL (O9 (he pins s1 σ H1 _ I1 q1) λiv s2 ⟨y,H2,I2,ry,q2⟩=>
  NL (O9 (hf pins s2 σ H2 _ I2 q2) λfv s3 ⟨z,H3,I3,rz,ov,g,q3⟩=>OE ?_))))
 exact Ez hu I3 g ry rz λw' s4 I4 SW=>⟨_,H3,I4,SW,q3⟩
end
section
variable {X:Cx} {pins:XL} {σ:St} {H:Hp} {s:Shared} {a:Addr} {kvs:am} {A:Around} {E:XV}
def Ao {Q:XV}(I:Inv X pins σ H s)(e:Rd H a (.dK kvs))(h:∀p s',H p=none->Inv X pins σ (u9 H p (.dK kvs)) s'->Q (.ref p) s'):wpAny (model X.prog X.w) A (call (.type "dict") [.ref a]) Q E s:=by
 obtain⟨z,hd,vs,rel,dd⟩:=U5 I.hok e;refine kt_call_dict hd dd (by rw[←rel.length];exact z) λh' dd' hs=>?_;refine h _ _ (I.hok.fresh (La _)) (I.laid (a:=s.heap.objs.size) (o:= .dK kvs) (t':=s.toks) (λb q hq=>?_) (La _) (fX z (NC.mpr (MY (Lz I.big))) rel dd'));exact(hs.2 b (Lz (Lu hq))).trans (Lk _ hq)
end
section
variable {X:Cx} {pins:XL} {σ:St} {H:Hp} {s:Shared} {a:Addr} {y:V} {u:Value} {A:Around} {E:XV}
end
end L2
namespace Att
open PySem PySem.W PySem.Calls PyProof.Rows
variable {P:Params}{h:Heap}
def jH:∀(ns:List Int) (vs:jp),WellAll P h vs (ns.map WData.int)->IntsAre vs ns:=by
 intro ns;induction ns with
 |nil=>
  intro vs w
  rw[Nz] at w
  cases w
  exact .nil
 |cons n ns ih=>
  intro vs w
  rw[Mg] at w
  cases w with
  |cons a b=>
   cases a
   exact .cons _ _ (ih _ b)
variable {l:OpenLaw}
theorem wW {n:Nat}(hn:l.most=some n){args:List WData}{vals:jp}
(Ug:l.row.toRowW.claim.pre args=true)(WS:WellAll P h vals args):
  ∃a vs ns,vals=[Value.ref a]/\args=[WData.list (ns.map WData.int)]/\h.get? a=some {cls:= .type "list",data:= .seq vs.toArray}/\IntsAre vs ns/\ns.length<=n:=by
 have hsh:WShape.hasAll [] args [.list .int]=true:=(pre_splitW Ug).1
 have hc:l.pre.holds [] {args:=args}=true:=(pre_splitW Ug).2
 obtain⟨d,r,rfl,h1,h2⟩:=hasAllW_cons hsh
 obtain rfl:=hasAllW_nil h2
 obtain⟨xs,rfl,h3⟩:=hasW_list h1
 obtain⟨ns,rfl⟩:=items_int h3
 have hlen:ns.length<=n:=by
  unfold OpenLaw.pre at hc;have h4:(WTm.not (.lt (.lit (.int (n:Int))) (.len (.arg 0)))).holds [] {args:=[.list (ns.map .int)]}=true:=by
   have h4:=(holds_andW hc).1;rw[hn] at h4;exact h4
  have h5:=condW_of h4 (w_not (w_lt w_lit (w_len_list (w_arg rfl))));rw[KW] at h5;refine Nat.le_of_not_lt λq=>?_;have q':(n:Int)<((ns.length:Nat):Int):=by lia
  first
   |(rw[LA q'] at h5;exact absurd h5 (by decide))
   |(simp at h5;lia)
 cases WS with
 |cons w1 w2=>
  cases w2
  cases w1 with
  |list ho n_=>exact⟨_,_,ns,rfl,rfl,ho,jH ns _ n_,hlen⟩
def xT (l:OpenLaw)(args:List WData):l.row.toRowW.claim.post args (.bool true) args=true:=
 postW_of (r:=l.row.toRowW) (X:=(true==true))
  (show WShape.has [] (.bool true) .bool=true by first|rfl|decide|simp [WShape.has,WShape.arms,WShape.armsAll])
  (show(WTm.eq .res (.lit (.bool true))).value [] {args:=args,res:=some (.bool true),after:=args}=some (.bool (true==true)) from w_eq_bool (w_res rfl) w_lit) rfl
def attach_call {n:Nat}{q:Program}{loose:xL}{XP:(Str->ad)->Heap->Prop}{YP:World->Heap->Prop}{d:DefRec}
(hn:l.most=some n)(WT:d.params.defaults=[])
(call:∀(w:World) (s₀ s₁:Shared) (mg mb:Str->ad) (fa:Addr) (o:Obj) (pm cd doc:Value) (a:Addr) (vs:jp) (ns:List Int),
   Ground q loose [] XP w s₀ mg mb s₁.heap->YP w s₁.heap->
   s₁.heap.get? fa=some o->o.data= .func (docDef d.name d.params d.body d.scope pm cd doc)->s₁.heap.CodeRec cd d.name->mg d.name=some (.ref fa)->
   s₁.heap.get? a=some {cls:= .type "list",data:= .seq vs.toArray}->IntsAre vs ns->ns.length<=n->s₁.gens= #[]->
   codeAny (model l.prog w) callerA (.call (.ref fa) ⟨[.ref a],[]⟩) (λr s'=>r= .ok (.ret (.bool true))/\OldK s₁.heap s'.heap/\s'.os=s₁.os/\AllBare s'.gens) s₁):
  WalkO q loose XP YP l.row.toRowW d [] (λf vs=>PySem.call f vs):=by
 intro w s₀ s₁ mg mb G Y fa o pm cd doc dV kV ho hd RR hD hmg hg args vals as Ug hlay hrd WS hlo
 obtain rfl:dV= .none:=Dflts.none hD WT
 obtain rfl:kV= .none:=Dflts.noKw hD
 obtain⟨a,vs,ns,rfl,rfl,U',hints,hlen⟩:=wW hn Ug WS
 refine enter_call (OK (call w s₀ s₁ mg mb fa o pm cd doc a vs ns G Y ho (fd_plain hd) RR hmg U' hints hlen hg) λr s' hq=>?_)
 obtain⟨rfl,h2,h3,h4⟩:=hq
 exact⟨.inl ⟨.bool true,.bool true,[],rfl,λ_=>rfl,.bool true,xT l _,λ_=>⟨List.Pairwise.nil,λ_ hm=>(nomatch hm)⟩⟩,h2,h3,h4⟩
end Att
namespace L2
open PySem PySem.Spec PyProof.Rows
theorem nu:∀{vs:jp} {ns:List Int},IntsAre vs ns->Vals (ns.map V.int) vs
 |_,_,.nil=> .nil
 |_,_,.cons n t h=> .cons ⟨t,rfl⟩ (nu h)
def Fl (H:Hp):Prop:=∀b,H b=none\/∃o xs,H b=some (.frz o (.lst xs))
variable {P:Program}{w:World}{mg:Str->ad}{a:Addr}{fd:FuncData}{x:Str}
def yr {K:Qd}{mb:Str->ad}{CX:qz}{k:Nat}{fa:Addr}{sp:Sp}{s₁:Shared}{vs:jp}{ns:List Int}
(KX:K.In s₁.heap)(hns:s₁.heap.Ns mainGlobals mg)(hb:s₁.heap.Ns builtinsNs mb)(VY:∀x:Str,x≠"__name__"->mb x=bootBuiltins x)(Zg:s₁.heap.NoLimit)(hg:s₁.gens= #[])
(ha:s₁.heap.get? a=some {cls:= .type "list",data:= .seq vs.toArray})(hi:IntsAre vs ns)(hl:ns.length<=sizeLine)(hr:Room k callerA)
(F:∀base:Heap,K.In base->base.Ns mainGlobals mg->E4 P w K mg base CX k fa fd [x] sp)(WU:∀(s:Shared) (u:Value),BindsTo s fd ⟨[u],[]⟩ [(x,u)])
(TU:∀H:Hp,Fl H->SqL K H a (ns.map V.int)->sp [.ref a] H (λv _=>v= .bl true) λ_ _ _=>False)
(Zh:∀H e s',CX [] H s₁ (λ_ _ _=>False) e s'->False):
  codeAny (model P w) callerA (.call (.ref fa) ⟨[.ref a],[]⟩) (λr s'=>r= .ok (.ret (.bool true))/\OldK s₁.heap s'.heap/\s'.os=s₁.os/\AllBare s'.gens) s₁:=by
 have rv:=nu hi
 have Zi:=hi.length
 have core:∀H:Hp,Fl H->SqL K H a (ns.map V.int)->HOk P w H s₁.heap->(∀b,H b≠none->b=a)->(H a≠none->K.lookup a=none)->
   codeAny (model P w) callerA (.call (.ref fa) ⟨[.ref a],[]⟩) (λr s'=>r= .ok (.ret (.bool true))/\OldK s₁.heap s'.heap/\s'.os=s₁.os/\AllBare s'.gens) s₁:=by
  intro H hO hS hok hA hK
  have base_of:∀{b:Addr} {o:Obj},s₁.heap.get? b=some o->H b=none->(qt s₁.heap H).get? b=some o:=λe n=>zG e n
  have WL:∀{b:Addr} {o:Obj} {es:Array DictEntry} {ep:Nat},s₁.heap.get? b=some o->o.data= .dict es ep->H b=none:=fun{b o es ep} e d=>by
   cases q:H b with
   |none=>rfl
   |some u=>
    have e':b=a:=hA b (by rw[q];simp)
    subst e'
    rw[ha] at e;cases e
    have d':Data.seq vs.toArray _=Data.dict es ep:=d
    cases d'
  have Yo:∀{b:Addr} {m:Str->ad},s₁.heap.Ns b m->(qt s₁.heap H).Ns b m:=fun{b m} ⟨o,es,ep,e,d,r⟩=>⟨o,es,ep,base_of e (WL e d),d,r⟩
  have hKb:K.In (qt s₁.heap H):=λb o e=>base_of (KX b o e) (by
   cases q:H b with
   |none=>rfl
   |some u=>
    have e':b=a:=hA b (by rw[q];simp)
    subst e'
    rw[hK (by rw[q];simp)] at e;cases e)
  have hM:Mod K mg (qt s₁.heap H):=⟨hKb,Yo hns,⟨mb,Yo hb,VY⟩,let ⟨mc,h1,h2⟩:=Zg;⟨mc,Yo h1,h2⟩⟩
  have e0:BE P w K mg (qt s₁.heap H) callerA [] s₁ H:=⟨rfl,hM,λb o e=>Bu e,Nat.le_of_eq (wR _ _),trivial,λb hb=>absurd (show b∈([]:List Addr) from hb) (by simp),hok,.of_eq hg⟩
  refine OK ((F _ hKb (Yo hns)).run callerA [] s₁ H ⟨[.ref a],[]⟩ [.ref a] [.ref a] _ _ hr e0 (WU s₁ (.ref a)) (.cons rfl .nil) (TU H hO hS)) λr s' h=>?_
  cases r with
  |error e=>exact(Zh H e s' h).elim
  |ok fl=>
   cases fl with
   |next=>exact False.elim h
   |brk=>exact False.elim h
   |cont=>exact False.elim h
   |ret u=>
    obtain⟨v,H',os,bare,un,Zj,r',q⟩:=h
    have q':v= .bl true:=q
    subst q'
    obtain rfl:u=Value.bool true:=r'
    refine⟨rfl,OldK.of_keep λb o e=>?_,os,bare⟩
    cases q:H b with
    |none=>exact un.keep b o e q (by intro z;exact absurd (show b∈([]:List Addr) from z) (by simp)) (by simp)
    |some u=>
     rcases hO b with z|⟨ob,xs,z⟩
     .rw[q] at z;cases z
     .have z2:=un.frzs b ob _ z
      obtain⟨e1,_⟩:=hok b _ z
      obtain⟨e2,_⟩:=Zj b _ z2
      rw[e] at e1;cases e1
      exact e2
 cases hk:K.lookup a with
 |some o=>
  have e:=KX a o hk
  rw[ha] at e
  cases e
  refine core (λ_=>none) (λ_=> .inl rfl) (.inr ⟨_,vs.toArray,_,hk,rfl,rfl,rfl,by rw[LG,Zi];exact hl,by simpa using rv⟩) (λb u z=>by have z':(none:Option HO)=some u:=z;cases z') (λb z=>absurd rfl z) λz=>absurd rfl z
 |none=>
  refine core (λb=>if b=a then some (.frz {cls:= .type "list",data:= .seq vs.toArray} (.lst (ns.map V.int))) else none) (λb=>?_) (.inl (.inr ⟨{cls:= .type "list",data:= .seq vs.toArray},if_pos rfl⟩)) (λb u z=>?_) (λb z=>?_) λ_=>hk
  .by_cases hb:b=a
   .exact .inr ⟨_,_,if_pos hb⟩
   .exact .inl (if_neg hb)
  .by_cases hb:b=a
   .have z':=(if_pos hb).symm.trans z
    cases z'
    subst hb
    exact⟨ha,by rw[KW];exact hl,vs,_,rv,ha⟩
   .have z':=(if_neg hb).symm.trans z
    cases z'
  .by_cases hb:b=a
   .exact hb
   .exact absurd (if_neg hb) z
def walk_of {l:PySem.W.OpenLaw}{n k:Nat}{q:Program}{loose:xL}{XP:(Str->ad)->Heap->Prop}{YP:World->Heap->Prop}{d:DefRec}{K:Params->Qd}{CX:World->qz}{sp:World->Sp}
(hn:l.most=some n)(hn2:n<=sizeLine)(WT:d.params.defaults=[])(hr:Room k callerA)
(hY:∀(w:World) (h:Heap),YP w h->(K w.params).In h)
(F:∀(w:World) (mg:Str->ad) (fa:Addr) (h:Heap),(K w.params).In h->h.Ns mainGlobals mg->mg d.name=some (.ref fa)->
   ∃fd:FuncData,(∀(s:Shared) (u:Value),BindsTo s fd ⟨[u],[]⟩ [(x,u)])/\
    ∀base:Heap,(K w.params).In base->base.Ns mainGlobals mg->E4 l.prog w (K w.params) mg base (CX w) k fa fd [x] (sp w))
(TU:∀(w:World) (H:Hp) (a:Addr) (ns:List Int),ns.length<=n->Fl H->SqL (K w.params) H a (ns.map V.int)->sp w [.ref a] H (λv _=>v= .bl true) λ_ _ _=>False)
(Zh:∀(w:World) (H:Hp) (s:Shared) (e:Value) (s':Shared),CX w [] H s (λ_ _ _=>False) e s'->False):
  PySem.W.WalkO q loose XP YP l.row.toRowW d [] (λf vs=>PySem.call f vs):=by
 refine Att.attach_call hn WT λw s₀ s₁ mg mb fa o pm cd doc a vs ns G Y ho hd RR hmg U' hints hlen hg=>?_
 have KX:=hY w _ Y
 obtain⟨fd,hb,hF⟩:=F w mg fa _ KX G.T.g hmg
 exact yr KX G.T.g G.T.b G.T.builtins G.T.nolimit hg U' hints (LJ hlen hn2) hr hF hb (λH hO hS=>TU w H a ns hlen hO hS) λH e s'=>Zh w H s₁ e s'
def aM (s:Stmt):Arguments:=match s with
 | .FunctionDef _ a _ _ _ _ _ _ _ _=>a
 |_=>{posonlyargs:=[],args:=[],vararg:=none,kwonlyargs:=[],kw_defaults:=[],kwarg:=none,defaults:=[]}
def Y7 (s:Stmt):List Stmt:=match s with
 | .FunctionDef _ _ b _ _ _ _ _ _ _=>b
 |_=>[]
def i7 (s:Stmt):Scope:=match s with
 | .FunctionDef _ _ _ _ _ _ sc _ _ _=>sc
 |_=>{kind:= .function,names:=[],isGenerator:=false,isCoroutine:=false}
abbrev J0:qz:=λ_ _ _ _ _ _=>False
abbrev E0:XK:=λ_ _ _=>False
def k7 {X:Cx}:dy J0 X E0:=λ_ _ _ _ _ _ _ h=>h.elim
structure Fun (K:Qd) (x qual:Str) (st:Stmt) (f:Addr) (fd:FuncData):Prop where
 ex:∃(oc:Value) (od:Option Addr) (kV doc pm:Value) (an:Option Addr) (d_ ct:Value) (RV:Array ad),
  fd=PySem.W.fnOf x qual (aM st) (Y7 st) (i7 st) .none kV doc pm an d_ ct/\K.lookup f=some ⟨oc,od,.func fd,RV⟩/\PySem.W.codeIn K d_ qual=true
 kp:PySem.W.keepIn K (.ref f)=true
variable {K:Qd}{qual:Str}{st:Stmt}{f:Addr}
def Fun.ok {base:Heap}{N ps:xL}{k:Nat}{sp:Sp}(F:Fun K x qual st f fd)(S:j5 N ps (i7 st))(len:∀vs H Q E,sp vs H Q E->vs.length=ps.length)
(Qy:∀(d_:Value) (A:Around) (outer:List Env) (s:Shared) (H:Hp) (vs:ap) (Q:VK) (E:XK),Room k (A.deeper (envOfC qual (i7 st) s.heap.objs.size f d_))->sp vs H Q E->
   ∃t,PSs (ky J0 P w K mg base N qual (i7 st) f d_ A outer s H E).nox (Y7 st) t/\t {nx:=λ_ H'=>Q .non H',rt:=Q} (gX N vs) H):E4 P w K mg base J0 (k+1) f fd ps sp:=by
 obtain⟨oc,od,kV,doc,pm,an,d_,ct,RV,rfl,lk,RR⟩:=F.ex
 refine CO lk RR S len λA outer s H vs Q E hr TU=>?_
 obtain⟨t,h,q⟩:=Qy d_ A outer s H vs Q E hr TU
 exact⟨t,h.nox,q⟩
def Fun.binds {ps:xL}(F:Fun K x qual st f fd)
(h:∀(kV doc pm:Value) (an:Option Addr) (d_ ct:Value) (us:jp),us.length=ps.length->bindArgs (PySem.W.fnOf x qual (aM st) (Y7 st) (i7 st) .none kV doc pm an d_ ct) ⟨us,[]⟩=pure (ps.zip us)):Binds K fd ps []:=by
 obtain⟨oc,od,kV,doc,pm,an,d_,ct,RV,rfl,lk,RR⟩:=F.ex
 exact .all (h kV doc pm an d_ ct)
def FR {oc:Value}{od an:Option Addr}{RV:Array ad}{kV doc pm d_ ct:Value}(l:K.lookup f=some ⟨oc,od,.func (PySem.W.fnOf x qual (aM st) (Y7 st) (i7 st) .none kV doc pm an d_ ct),RV⟩)
(c:PySem.W.codeIn K d_ qual=true)(k:PySem.W.keepIn K (.ref f)=true):Fun K x qual st f (PySem.W.fnOf x qual (aM st) (Y7 st) (i7 st) .none kV doc pm an d_ ct):=⟨⟨oc,od,kV,doc,pm,an,d_,ct,RV,rfl,l,c⟩,k⟩
def U4 {n:Nat}(h:n<=1000):n<sizeLine:=Nf h (by decide)
variable {A B:Prop}
def JZ (h:B):if false=true then A else B:=by
 rw[if_neg Ma];exact h
def Jy (h:A):if true=true then A else B:=by
 rw[if_pos rfl];exact h
def Same.refl (H:Hp):Same H H:=λ_ _ h=>h
variable {H:Hp}
def Same.trans {H1 H2:Hp}(a:Same H H1)(b:Same H1 H2):Same H H2:=λc o h=>b c o (a c o h)
def Same.free {H':Hp}(e:Same H H'){l:Addr}(h:H' l=Option.none):H l=Option.none:=by
 cases q:H l with
 |none=>rfl
 |some o=>
  rw[e l o q] at h
  cases h
def Same.seq {H':Hp}{xs:ap}(e:Same H H')(h:SqL K H a xs):SqL K H' a xs:=by
 rcases h with(h|⟨o,h⟩)|h
 .exact .inl (.inl (e _ _ h))
 .exact .inl (.inr ⟨o,e _ _ h⟩)
 .exact .inr h
section
variable {κ:Type} [DecidableEq κ]
def yw {kvs:List (κ×V)}{k:κ}(h:A8 kvs k=none):¬k∈kvs.map (·.1):=by
 intro m;obtain⟨p,hp,e⟩:=KZ.mp m;have q:(kvs.any λkv=>decide (kv.1=k))=true:=MU.mpr ⟨p,hp,LA e⟩;rw[U0,h] at q;exact absurd q (by simp)
def vk {kvs:List (κ×V)}{k:κ}{v:V}(h:A8 kvs k=some v):k∈kvs.map (·.1):=by
 have q:(kvs.any λkv=>decide (kv.1=k))=true:=by
  rw[U0,h];all_goals rfl
 obtain⟨p,hp,e⟩:=MU.mp q;exact KZ.mpr ⟨p,hp,MB e⟩
theorem I0:∀{l:List κ} {k:κ},l.Nodup->¬k∈l->(l++[k]).Nodup
 |[],k,_,_=>by simp
 |a::r,k,h,hk=>by
  obtain⟨h1,h2⟩:=Mt.mp h;show(a::(r++[k])).Nodup;refine Mt.mpr ⟨λm=>?_,I0 h2 λm=>hk (LZ.mpr (Or.inr m))⟩;rcases Ld.mp m with q|q
  .exact h1 q
  .exact hk (LZ.mpr (Or.inl (Li.mp q).symm))
def Bm {kvs:List (κ×V)}{k:κ}(v:V)(hn:(kvs.map (·.1)).Nodup)(h:A8 kvs k=none):((F7 kvs k v).map (·.1)).Nodup:=by
 rw[Q7 v h,Lh];exact I0 hn (yw h)
end
end L2
set_option maxHeartbeats 4000000
namespace L2
open PySem PySem.Spec PyProof.Rows
def jL (scope:Scope)(env:Env):List (Str×Addr):=(scope.names.filter λx=>x.2== .free).reverse.map λx=>(x.1,(env.cells.lookup x.1).getD 0)
theorem dG {env:Env}:∀(l:List (Str×NameKind)) (cs:List (Str×Addr)),(∀x∈l,x.2= .free->∃c,env.cells.lookup x.1=some c)->
  (forIn l cs fun(x:Str×NameKind) (r:List (Str×Addr))=>if(x.2==NameKind.free)=true then(do let a←cellOf env x.1;pure (ForInStep.yield ((x.1,a)::r))) else(pure (ForInStep.yield r):Sem (ForInStep (List (Str×Addr)))))=
   pure (((l.filter λx=>x.2== .free).reverse.map λx=>(x.1,(env.cells.lookup x.1).getD 0))++cs)
 |[],cs,_=>rfl
 |(n,k)::l,cs,h=>by
  rw[Ot];by_cases hk:k= .free
  .subst hk;obtain⟨c,hc⟩:=h (n,.free) Lx rfl;simp only[PQ,Pw];have Sh:env.cells.lookup n=some c:=hc;have e0:cellOf env n=pure c:=by unfold cellOf;rw[Sh]
   simp only[e0,pure_bind];rw[dG l _ λx hx=>h x (LD _ hx)];rw[NH,if_pos (by rfl),List.reverse_cons,Lh,Mi];simp only[Mg,Nz,Sh,Ob,NG,Qq]
  .have hb:(k==NameKind.free)=false:=by simpa using hk
   simp only[hb,Ou,QF,pure_bind];rw[dG l cs λx hx=>h x (LD _ hx)];rw[NH,if_neg (by simp [hb])]
variable {env:Env}
def mn {scope:Scope}(h:∀x∈scope.names,x.2= .free->∃c,env.cells.lookup x.1=some c):closureFor scope env=pure (jL scope env):=by
 have e:=dG (env:=env) scope.names [] h;rw[Mn] at e;unfold closureFor jL;simp only[];refine Eq.trans ?_ (MG (λm=>m>>=λr=>(pure r:Sem (List (Str×Addr)))) e);rfl
theorem Z7 {env:Env}{x:Str}:∀(l:List (Str×NameKind)),(∀y∈l,∃c,env.cells.lookup y.1=some c)->(x∈l.map (·.1)->(l.map λy=>(y.1,(env.cells.lookup y.1).getD 0)).lookup x=env.cells.lookup x)/\(x∉l.map (·.1)->(l.map λy=>(y.1,(env.cells.lookup y.1).getD 0)).lookup x=none)
 |[],_=>⟨λh=>by simp at h,λ_=>rfl⟩
 |(n,k)::l,h=>by
  have ih:=Z7 (x:=x) l λy hy=>h y (LD _ hy);obtain⟨c,hc⟩:=h (n,k) Lx;have Sh:env.cells.lookup n=some c:=hc;by_cases e:x=n
  .subst e;refine⟨λ_=>?_,λz=>absurd (by simp) z⟩;simp [MV,Sh]
  .have eb:(x==n)=false:=by simpa using e
   refine⟨λhm=>?_,λhm=>?_⟩
   .simp only[Mg,MV,eb];exact ih.1 (by simpa [e] using hm)
   .simp only[Mg,MV,eb];exact ih.2 (λz=>hm (by simp [z]))
variable {x:Str}
def aw {scope:Scope}(h:∀x∈scope.names,x.2= .free->∃c,env.cells.lookup x.1=some c){c:Addr}(e:(jL scope env).lookup x=some c):env.cells.lookup x=some c:=by
 have hl:∀y∈(scope.names.filter λx=>x.2== .free).reverse,∃c,env.cells.lookup y.1=some c:=λy hy=>by
  obtain⟨h1,h2⟩:=Lo.mp (PU.mp hy);exact h y h1 (by simpa using h2)
 have a:=Z7 (x:=x) _ hl;by_cases hm:x∈(scope.names.filter λx=>x.2== .free).reverse.map (·.1)
 .rw[←a.1 hm];exact e
 .have z:=a.2 hm;unfold jL at e;rw[z] at e;cases e
def qJ {scope:Scope}(h:∀x∈scope.names,x.2= .free->∃c,env.cells.lookup x.1=some c)(hx:(x,NameKind.free)∈scope.names):(jL scope env).lookup x=env.cells.lookup x:=by
 have hl:∀y∈(scope.names.filter λx=>x.2== .free).reverse,∃c,env.cells.lookup y.1=some c:=λy hy=>by
  obtain⟨h1,h2⟩:=Lo.mp (PU.mp hy);exact h y h1 (by simpa using h2)
 exact(Z7 (x:=x) _ hl).1 (KZ.mpr ⟨(x,.free),PU.mpr (Lo.mpr ⟨hx,rfl⟩),rfl⟩)
def pC {scope:Scope}(hc:∀y∈scope.names,y.2≠ .cell)(h:(relabel scope env).names.lookup x=some .cell\/(relabel scope env).names.lookup x=some .free):(x,NameKind.free)∈scope.names:=by
 have key:∀(l:List (Str×NameKind)),(∀y∈l,y.2≠ .cell)->∀k,(k=NameKind.cell\/k=NameKind.free)->(l.map fun(n,k)=>if(k==NameKind.free&&env.scope.kind== .function&&env.kindOf n==some .cell) then(n,NameKind.cell) else(n,k)).lookup x=some k->(x,NameKind.free)∈l:=by
  intro l;induction l with
  |nil=>intro _ k _ e;simp at e
  |cons y r ih=>
   obtain⟨n,k0⟩:=y
   intro hl k hk e
   have ih':=ih (λy hy=>hl y (LD _ hy)) k hk
   rw[Mg] at e
   have hk0:k0≠ .cell:=hl (n,k0) Lx
   dsimp only at e
   by_cases hcnd:(k0==NameKind.free&&env.scope.kind== .function&&env.kindOf n==some .cell)=true
   .rw[if_pos hcnd] at e
    cases hx:x==n with
    |true=>
     have:x=n:=by simpa using hx
     subst this
     have:k0= .free:=by
      simp only[LN,RD] at hcnd;exact hcnd.1.1
     subst this
     exact Lx
    |false=>
     simp only[MV,hx] at e
     exact LD _ (ih' e)
   .rw[if_neg hcnd] at e
    cases hx:x==n with
    |true=>
     have:x=n:=by simpa using hx
     subst this
     simp only[MV,hx] at e
     have e':k0=k:=Ly e
     subst e'
     rcases hk with z|z
     .exact absurd z hk0
     .subst z;exact Lx
    |false=>
     simp only[MV,hx] at e
     exact LD _ (ih' e)
 rcases h with h|h
 .exact key _ hc _ (.inl rfl) h
 .exact key _ hc _ (.inr rfl) h
def eU (X:Cx)(own:xL)(js:List Nat)(scope:Scope)(C:Addr)(s:Shared)(H:Hp)(fp:List Addr):Cx:=
 {X with N:=own++js.map (λj=>X.N.getD j Str.empty),s₀:=s,H₀:=H,env:=compEnvC scope (jL scope X.env) C X.env,outer:=X.stack,stack:=X.stack,ex:=fp,fn:=λ_=>false,pn:=[],xe:=λ_ _=>False}
def xW (own:xL)(js:List Nat)(σ:St):St:=own.map (λ_=>none)++js.map (λj=>(σ[j]?).join)
def Gk (X:Cx)(own:xL)(js:List Nat)(scope:Scope):Bool:=
 (scope.kind== .function)&&(scope.names.all λx=>x.2 != .cell)&&(scope.names.all λx=>x.2 != .local||scope.names.lookup x.1==some .local)&&
 (scope.names.all λx=>x.2 != .free||(X.env.kindOf x.1==some .cell||X.env.kindOf x.1==some .free))&&
 (js.all λj=>decide (j<X.N.length)&&scope.names.any (λy=>y.1==X.N.getD j Str.empty&&y.2== .free))&&
 (scope.names.all λx=>x.2 != .free||scope.names.lookup x.1 !=some .local)
variable {js:List Nat}{X:Cx}{C:Addr}{s:Shared}{H:Hp}{fp:List Addr}
theorem uY {own:xL}{σ:St}{scope:Scope}:(xW own js σ).length=(eU X own js scope C s H fp).N.length:=by grind [xW,eU]
section
variable {X:Cx} {pins:XL} {σ:St} {H:Hp} {s:Shared} {own:xL} {js:List Nat} {scope:Scope} {fp:List Addr} {C D:Addr} {h1:Heap}
structure ScB (X:Cx) (own:xL) (js:List Nat) (scope:Scope):Prop where
 kind:scope.kind= .function
 nocell:∀y∈scope.names,y.2≠ .cell
 names:∀x∈scope.names,x.2= .local->scope.names.lookup x.1=some .local
 free:∀x∈scope.names,x.2= .free->X.env.kindOf x.1=some .cell\/X.env.kindOf x.1=some .free
 js:∀j∈js,j<X.N.length/\(X.N.getD j Str.empty,NameKind.free)∈scope.names
 one:∀x,(x,NameKind.free)∈scope.names->scope.names.lookup x≠some .local
def yN (h:Gk X own js scope=true):ScB X own js scope:=by
 unfold Gk at h;simp only[LN,LU,Qr,bne_iff_ne,RD,LK,MU] at h;obtain⟨⟨⟨⟨⟨h1,h2⟩,h3⟩,h4⟩,h5⟩,h6⟩:=h;refine⟨h1,h2,λx hx e=>?_,λx hx e=>?_,λj hj=>?_,λx hx=>?_⟩
 .rcases h3 x hx with z|z
  .exact absurd e z
  .exact z
 .rcases h4 x hx with z|z
  .exact absurd e z
  .exact z
 .obtain⟨a,y,hy,e1,e2⟩:=h5 j hj;refine⟨a,?_⟩;obtain⟨n,k⟩:=y;simp only at e1 e2;rw[←e1,←e2];exact hy
 .rcases h6 _ hx with z|z
  .exact absurd rfl z
  .exact z
def ScB.cells (S:ScB X own js scope)(I:Inv X pins σ H s):∀x∈scope.names,x.2= .free->∃c,X.env.cells.lookup x.1=some c:=λx hx e=>I.ok.has x.1 (S.free x hx e)
def Inv.block (S:ScB X own js scope)(I:Inv X pins σ H s)(hf:∀b∈fp,ij X pins H b)(Ry:∀b∈fp,∃o,s.heap.get? b=some o)(hC:s.heap.objs.size<=C){m:Str->ad}{t':Nat}(hn:h1.Ns C m)(k:∀b u,s.heap.get? b=some u->h1.get? b=some u):
  Inv (eU X own js scope C s H fp) (X.pn++pins) (xW own js σ) H {s with heap:=h1,toks:=t'}:=by
 have G_:=S.cells I
 have below:∀b o,s.heap.get? b=some o->b≠C:=λb o e=>Lz (Lv (Lu e) hC)
 have stk:∀b,b≠X.env.locals->b∉X.fs->b∉bN X.stack:=λb h1 h2 z=>by
  rcases LZ.mp (I.stkSub b z) with e|e
  .exact h1 e
  .exact h2 e
 have noex:∀b o,X.base.get? b=some o->b∉fp:=λb o e z=>by
  rcases(hf b z).2.2.2.1 with q|q
  .exact I.ok.noex b o e q
  .exact absurd (Lv (Lu e) (LJ I.ok.bsz q)) (MQ _)
 refine⟨⟨I.ok.mod,S.kind,I.ok.glob,I.ok.blt,hC,λx y c e1 e2=>?_,λx hx=>?_,λx c z _=>(Ma z).elim,I.ok.hd,I.ok.frames,.inl rfl,λb hb=>⟨?_,λx c e=>?_⟩,I.bs,LJ I.ok.bsz I.sz,noex,λb hb=>?_,I.stack,I.stkFree⟩,
  rfl,I.bare,Un.kept k,⟨m,hn,λi x v e1 e2 e3=>?_⟩,λx c e=>?_,?_,λx c e=>?_,λp hp=>?_,I.hok.kept k,uY⟩
 .exact I.ok.inj x y c (aw G_ e1) (aw G_ e2)
 .have hm:=pC S.nocell (x:=x) (env:=X.env) hx
  obtain⟨c,e⟩:=G_ (x,.free) hm rfl
  exact⟨c,(qJ G_ hm).trans e⟩
 .obtain⟨o,e⟩:=Ry b hb;exact below b o e
 .exact(hf b hb).2.2.2.2.1 x c (aw G_ e)
 .exact stk b (hf b hb).2.1 (hf b hb).2.2.1
 .have U_:(own++js.map (λj=>X.N.getD j Str.empty))[i]?=some x:=e1
  unfold xW at e2
  by_cases hi:i<own.length
  .rw[LS (by simpa using hi),Lc] at e2
   rw[KY hi] at e2
   simp at e2
  .rw[Ms (by simpa using hi),Lc] at e2
   rw[Ms (by simpa using hi),Lc] at U_
   have el:(own.map λ_=>(none:Option V)).length=own.length:=by simp
   rw[el] at e2
   cases hj:js[i -own.length]? with
   |none=>rw[hj] at U_;simp at U_
   |some j=>
    rw[hj] at U_ e2
    simp only[Oo,Option.some.injEq] at U_ e2
    have hjm:j∈js:=Ln hj
    obtain⟨p_,Sj⟩:=S.js j hjm
    have hNj:X.N[j]?=some x:=by
     rw[←U_,LL,KY p_];simp
    have hσ:σ[j]?=some (some v):=by
     cases q:σ[j]? with
     |none=>rw[q] at e2;simp at e2
     |some w=>rw[q] at e2;simp at e2;rw[e2]
    rw[U_] at Sj
    obtain⟨m0,hn0,WV⟩:=I.loc
    have hkx:X.env.kindOf x=some .cell\/X.env.kindOf x=some .free:=S.free (x,.free) Sj rfl
    obtain⟨u,r,l⟩:=WV j x v hNj hσ (by rcases hkx with z|z;exact .inr (.inl z);exact .inr (.inr z))
    refine⟨u,r,?_⟩
    rcases l with⟨z,_⟩|⟨_,c,hc,RT⟩
    .rcases hkx with q|q
     .rw[q] at z;cases z
     .rw[q] at z;cases z
    .have Sh:(jL scope X.env).lookup x=some c:=(qJ G_ Sj).trans hc
     obtain⟨oc,US,UU⟩:=RT
     refine .inr ⟨?_,c,Sh,⟨oc,k _ _ US,UU⟩⟩
     rcases e3 with z|z|z
     .exfalso
      have hmm:(relabel scope X.env).names.lookup x=some .local:=z
      exact absurd hmm (by
       intro hh;have key:∀l:List (Str×NameKind),(∀y∈l,y.2= .local->scope.names.lookup y.1=some .local)->(l.map fun(n,k)=>if(k==NameKind.free&&X.env.scope.kind== .function&&X.env.kindOf n==some .cell) then(n,NameKind.cell) else(n,k)).lookup x=some .local->scope.names.lookup x=some .local:=by
        intro l;induction l with
        |nil=>intro _ e;simp at e
        |cons y r ih=>
         obtain⟨n,k0⟩:=y
         intro hl e
         rw[Mg] at e
         dsimp only at e
         by_cases hcnd:(k0==NameKind.free&&X.env.scope.kind== .function&&X.env.kindOf n==some .cell)=true
         .rw[if_pos hcnd] at e
          cases hx:x==n with
          |true=>simp only[MV,hx] at e;cases e
          |false=>simp only[MV,hx] at e;exact ih (λy hy=>hl y (LD _ hy)) e
         .rw[if_neg hcnd] at e
          cases hx:x==n with
          |true=>
           simp only[MV,hx] at e
           have e':k0= .local:=Ly e
           have:x=n:=by simpa using hx
           subst this
           exact hl (x,k0) Lx e'
          |false=>simp only[MV,hx] at e;exact ih (λy hy=>hl y (LD _ hy)) e
       have a:=key scope.names S.names hh;exact S.one x Sj a)
     .exact .inl z
     .exact .inr z
 .obtain⟨v,o,ho,hd⟩:=I.cell x c (aw G_ e)
  exact⟨v,o,k _ _ ho,hd⟩
 .exact I.hok.fresh hC
 .exact I.freeC x c (aw G_ e)
 .obtain⟨e,n,ne,nf,d⟩:=I.pin p hp
  exact⟨k _ _ e,n,below _ _ e,stk _ ne nf,d⟩
end
variable {P:Program}{w:World}{h h':Heap}{a:Addr}
def HOk.track {o:HO}(x:HOk P w H h)(hC:H C=none)(k:∀b,b≠C->h'.get? b=h.get? b)(hn:H a=none)(new:ObjOk P w (u9 H a o) h' a o):HOk P w (u9 H a o) h':=λb u e=>by
 by_cases hb:b=a
 .subst hb;rw[b5] at e;cases e;exact new
 .rw[b7 hb] at e;refine(x b u e).stay (λc v hc q=>?_) (λc q=>by rw[b7 (d6 q hn)];exact q) λc xs q=>by rw[b7 (d6 q hn)];exact q
  have hcC:c≠C:=by
   rcases hc with z|z
   .subst z;exact d6 e hC
   .exact d6 z hC
  rw[k c hcC];exact q
abbrev zA (ifs:List Expr)(env:Env):Sem Bool:=forIn ifs true λc r=>if r=true then do let ok←isTrue c env (eval c env);pure (ForInStep.yield ok) else pure (ForInStep.yield r)
def uF (X:Cx)(ifs:List Expr)(t:TT):Prop:=
 ∀(pins:XL) (s:Shared) (σ:St) (H:Hp) (Q:Bool->Hp->Prop),Inv X pins σ H s->t σ H Q->wpAny (model X.prog X.w) X.A (zA ifs X.env) (TP X pins σ Q) X.xe s
def JS:uF X [] (λ_ H Q=>Q true H):=λpins s σ H Q I h=>wpAny_tests_nil ⟨H,I,h⟩
def Jn {c:Expr}{t:TT}(h:PT X c t):uF X [c] t:=λpins s σ H Q I hq=>wpAny_tests_one (h pins s σ H Q I hq)
section
variable {X:Cx} {pins:XL} {σ:St} {H:Hp} {s:Shared} {own:xL} {js:List Nat} {scope:Scope}
variable {tg iter elt:Expr} {ifs:List Expr} {pos:Pos} {g:TG} {ti:TT} {te:TE}
structure BlockEnd (X:Cx) (pins:XL) (own:xL) (js:List Nat) (scope:Scope) (σ:St) (H:Hp) (s:Shared) (fp:List Addr) (C D:Addr) (out:ap) (H':Hp) (s':Shared):Prop where
 inv:Inv (eU X own js scope C s H fp) (X.pn++pins) (xW own js σ) H' s'
 free:H' D=none
 obj:∃(a_:jp) (n:Nat),Vals out a_/\s'.heap.get? D=some {cls:= .type "list",data:= .seq a_.toArray n}
variable {fp:List Addr}{C D:Addr}
def BlockEnd.out {out:ap}{H':Hp}{s':Shared}{h':Heap}(e:BlockEnd X pins own js scope σ H s fp C D out H' s')(I:Inv X pins σ H s)(hf:∀b∈fp,ij X pins H b)(hD:s.heap.objs.size<=D)(hC:s.heap.objs.size<=C)(Sk:D≠C)
(hl:out.length<=sizeLine)(sb:Heap.SameBut C s'.heap h'):Inv X pins σ (u9 H' D (.lst out)) {s' with heap:=h'}:=by
 obtain⟨a_,n,rv,ob⟩:=e.obj
 have J:=e.inv
 have U:Un (bN X.stack) fp H H' s.heap s'.heap:=J.base
 have same:∀b,b≠C->h'.get? b=s'.heap.get? b:=λb hb=>sb.2 b hb
 have old:∀b o,s.heap.get? b=some o->b≠C/\b≠D:=λb o q=>⟨Lz (Lv (Lu q) hC),Lz (Lv (Lu q) hD)⟩
 have Zk:H' C=none:=J.free
 refine I.call' (s':={s' with heap:=h'}) (ch:=fp) J.os ?_ ?_ J.bare λb hb=>?_
 .refine⟨λb o q n hb hx=>?_,λb o q n hb hx=>?_,λb o q n hx=>?_,λb o q hx=>?_,λb xs q=>?_,λb o u q=>?_,λb ps q=>?_⟩
  .show h'.get? b=_
   rw[same b (old b o q).1];exact U.keep b o q n hb hx
  .show ∃sl,h'.get? b=_
   rw[same b (old b o q).1];exact U.slot b o q n hb hx
  .rw[b7 (old b o q).2];exact U.free b o q n hx
  .show ∃o',h'.get? b=_
   rw[same b (old b o q).1];exact U.there b o q hx
  .rw[b7 (d6 (U.tups b xs q) e.free)];exact U.tups b xs q
  .rw[b7 (d6 (U.frzs b o u q) e.free)];exact U.frzs b o u q
  .obtain⟨mo,z⟩:=U.tbls b ps q
   exact⟨mo,by rw[b7 (d6 z e.free)];exact z⟩
 .refine HOk.track J.hok Zk same e.free ?_
  exact⟨hl,a_,n,rv,by rw[same D Sk];exact ob⟩
 .exact⟨(hf b hb).2.2.2.1,(hf b hb).2.1,(hf b hb).2.2.2.2.1,(hf b hb).2.2.2.2.2⟩
theorem ng (S:ScB X own js scope)(hc:X.calm=true){it:Addr}{tn:Nat->Heap->Prop}{J:It}(T:iJ X.prog X.w X.K tg J fp it tn)(I:Inv X pins σ H s)(hf:∀b∈fp,ij X pins H b)
(hD:s.heap.objs.size<=D)(hC:s.heap.objs.size<=C)(Sk:D≠C)(Ry:∀b∈fp,∃o,s.heap.get? b=some o)
(hg:PG (eU X own js scope C s H fp) tg g)(hi:uF (eU X own js scope C s H fp) ifs ti)(he:PE (eU X own js scope C s H fp) elt te)
(W:Nat->Nat->ap->Hp->Prop){K:ap->Hp->Prop}
(turn:∀i m out H,W i m out H->(J.stop i H/\(H D=none->out.length<=sizeLine/\K out H))\/
   (J.go i H/\∀x H',J.yld i H x H'->g x (xW own js σ) H' λσ2 H2=>σ2.drop own.length=js.map (λj=>(σ[j]?).join)/\ti σ2 H2 λb H3=>
    if b=true then te σ2 H3 λv H4=>out.length<=sizeLine/\∃m',m'<m/\W (i+1) m' (out++[v]) H4 else ∃m',m'<m/\W (i+1) m' out H3))
{R:Result->Shared->Prop}(hR:∀out H' s',BlockEnd X pins own js scope σ H s fp C D out H' s'->out.length<=sizeLine->K out H'->R (.ok .next) s')
{m0:Nat}{H1:Hp}{s1:Shared}(w0:W 0 m0 [] H1)(B:BlockEnd X pins own js scope σ H s fp C D [] H1 s1)(st:tn 0 s1.heap)(fr:∀b∈fp,H1 b=none):
  codeAny (model X.prog X.w) X.A (.compLoop (.ListComp elt [⟨tg,iter,ifs,0⟩] scope pos) 0 (.ref it) (.ref D) (compEnvC scope (jL scope X.env) C X.env)) R s1:=by
 have SX:∀{H':Hp},(∀b∈fp,H' b=none)->∀b∈fp,ij (eU X own js scope C s H fp) (X.pn++pins) H' b:=λhn b hb=>by
  obtain⟨o,ho⟩:=Ry b hb;refine⟨hn b hb,Lz (Lv (Lu ho) hC),?_,.inl hb,λx c e=>(hf b hb).2.2.2.2.1 x c (aw (S.cells I) e),λp hp=>(hf b hb).2.2.2.2.2 p hp⟩;intro z;rcases LZ.mp (I.stkSub b z) with e|e
  .exact(hf b hb).2.1 e
  .exact(hf b hb).2.2.1 e
 have Dfp:D∉fp:=λz=>by
  obtain⟨o,ho⟩:=Ry D z;exact absurd (Lv (Lu ho) hD) (MQ _)
 have WW:∀x c,(eU X own js scope C s H fp).env.cells.lookup x=some c->c≠D:=λx c e z=>by
  obtain⟨v,o,ho,_⟩:=I.cell x c (aw (S.cells I) e);rw[z] at ho;exact absurd (Lv (Lu ho) hD) (MQ _)
 have Zl:∀p∈X.pn++pins,p.1≠D:=λp hp z=>by
  have ho:=(I.pin p hp).1;rw[z] at ho;exact absurd (Lv (Lu ho) hD) (MQ _)
 have Dfs:D∉(eU X own js scope C s H fp).fs:=λz=>by
  obtain⟨_,o,ho,_⟩:=I.stack.mem z;exact absurd (Lv (Lu ho) hD) (MQ _)
 refine codeAny_loop rfl (λn s'=>∃i out H',BlockEnd X pins own js scope σ H s fp C D out H' s'/\tn i s'.heap/\(∀b∈fp,H' b=none)/\W i n out H') (λn s3 hI=>?_) m0 ⟨0,[],H1,B,st,fr,w0⟩
 obtain⟨i,out,H3,B3,WX,WY,w3⟩:=hI
 obtain⟨a_,nD,rv,obD⟩:=B3.obj
 have WZ:∀{σ':St} {H':Hp} {s':Shared},Inv (eU X own js scope C s H fp) (X.pn++pins) σ' H' s'->H' D=none->s'.heap.get? D=some {cls:= .type "list",data:= .seq a_.toArray nD}->
   Inv (eU X own js scope C s H fp) (X.pn++pins++[(D,{cls:= .type "list",data:= .seq a_.toArray nD})]) σ' H' s':=fun{σ' H' s'} I' n' e'=>I'.pins_of λp hp=>by
  rcases Ld.mp hp with z|z
  .exact I'.pin p (by show p∈([]:XL)++_;exact Lf _ z)
  .have z':p=(D,{cls:= .type "list",data:= .seq a_.toArray nD}):=by simpa using z
   subst z'
   exact⟨e',n',Sk,Dfs,λv q=>by cases q⟩
 have SY:∀{H':Hp},(∀b∈fp,H' b=none)->∀b∈fp,ij (eU X own js scope C s H fp) (X.pn++pins++[(D,{cls:= .type "list",data:= .seq a_.toArray nD})]) H' b:=λhn b hb=>by
  obtain⟨a1,a2,a3,a4,a5,a6⟩:=SX hn b hb;refine⟨a1,a2,a3,a4,a5,λp hp=>?_⟩;have z_:p∈X.pn++pins++[(D,{cls:= .type "list",data:= .seq a_.toArray nD})]:=hp;rcases Ld.mp z_ with z|z
  .exact a6 p (by show p∈([]:XL)++_;exact z)
  .have z':p=(D,{cls:= .type "list",data:= .seq a_.toArray nD}):=by simpa using z
   subst z';rintro rfl;exact Dfp hb
 have Zm:∀{α:Type} {t:Sem α} {Q Q':α->Shared->Prop} {E:XV} {s:Shared},wpAny (model X.prog X.w) X.A t Q (λ_ _=>False) s->(∀a s,Q a s->Q' a s)->wpAny (model X.prog X.w) X.A t Q' E s:=
  λh hQ=>OS h hQ λ_ _ x=>x.elim
 have Zn:∀{pl:XL} {σ':St} {H':Hp} {s':Shared},Inv (eU X own js scope C s H fp) (X.pn++pins++[(D,{cls:= .type "list",data:= .seq a_.toArray nD})]++pl) σ' H' s'->Inv (eU X own js scope C s H fp) (X.pn++pins) σ' H' s'/\H' D=none/\s'.heap.get? D=some {cls:= .type "list",data:= .seq a_.toArray nD}:=fun{pl σ' H' s'} I'=>by
  have q:=I'.pin (D,{cls:= .type "list",data:= .seq a_.toArray nD}) (Lf _ (Lb _ (Lf _ (by simp))));exact⟨I'.unpinned.unpinned,q.2.1,q.1⟩
 show wpAny _ X.A ((compTurn (.ListComp elt [⟨tg,iter,ifs,0⟩] scope pos) 0 (.ref it) (.ref D) (compEnvC scope (jL scope X.env) C X.env)).onRaise (λx=>do noteFrame x (compEnvC scope (jL scope X.env) C X.env);theTreesLotGoes x)) _ _ s3
 refine wpAny_noted ?_
 rw[compTurn_list]
 refine Lj (Rj (Lj ?_))
 rcases turn i n out H3 w3 with⟨stop,fin⟩|⟨go,step⟩
 .refine O9 (T.done (eU X own js scope C s H fp) rfl rfl rfl hc i _ s3 _ H3 _ (WZ B3.inv B3.free obD) (SY WY) WX stop) λr s4 ⟨hr,I4⟩=>?_
  subst hr
  obtain⟨J4,n4,o4⟩:=Zn (pl:=[]) (by rw[Mn];exact I4)
  obtain⟨hl,k⟩:=fin B3.free
  exact Lw (hR out H3 s4 ⟨J4,n4,a_,nD,rv,o4⟩ hl k)
 .refine O9 (T.item (eU X own js scope C s H fp) rfl rfl rfl hc i _ s3 _ H3 _ (WZ B3.inv B3.free obD) (SY WY) WX go) λr s4 ⟨u,hr,h4⟩=>?_
  subst hr
  refine Lj (O9 h4 λ_ s5 ⟨x,H5,I5,r5,y5,st5,fr5⟩=>?_)
  have Zo:=I5.pinned (SY fr5) (T.obj _ _ st5)
  refine Lj (Zm (hg _ s5 _ H5 x u _ Zo r5 (step x H5 y5)) λ_ s6 ⟨σ6,H6,I6,q6⟩=>?_)
  obtain⟨ed,q6⟩:=q6
  refine Lj (Zm (hi _ s6 σ6 H6 _ I6 q6) λok s7 ⟨H7,I7,q7⟩=>?_)
  have stay:∀{H':Hp} {s':Shared},Inv (eU X own js scope C s H fp) (X.pn++pins++[(D,{cls:= .type "list",data:= .seq a_.toArray nD})]++kN fp s5.heap) σ6 H' s'->tn (i+1) s'.heap/\∀b∈fp,H' b=none:=fun{H' s'} I'=>by
   refine⟨T.keep _ _ _ st5 λb hb o e=>(I'.pin (b,o) (Lf _ (Lf _ (bS hb e)))).1,λb hb=>?_⟩;obtain⟨o,e,d⟩:=T.obj _ _ st5 b hb;exact(I'.pin (b,o) (Lf _ (Lf _ (bS hb e)))).2.1
  have wk:∀{H':Hp} {s':Shared},Inv (eU X own js scope C s H fp) (X.pn++pins) σ6 H' s'->Inv (eU X own js scope C s H fp) (X.pn++pins) (xW own js σ) H' s':=fun{H' s'} I'=>by
   refine I'.weak (by rw[I'.len];exact uY) λk v e=>?_;unfold xW at e;by_cases hk:k<own.length
   .rw[LS (by simpa using hk),Lc,KY hk] at e;simp at e
   .rw[Ms (by simpa using hk)] at e;have el:(own.map λ_=>(none:Option V)).length=own.length:=by simp
    rw[el,←ed,Rm] at e;have ek:own.length+(k -own.length)=k:=by lia
    rw[ek] at e;exact e
  cases ok with
  |false=>
   rw[if_neg Ma] at q7
   obtain⟨m',hm,w7⟩:=q7
   obtain⟨J7,n7,o7⟩:=Zn I7
   exact Lw ⟨rfl,m',hm,i+1,out,H7,⟨wk J7,n7,a_,nD,rv,o7⟩,(stay I7).1,(stay I7).2,w7⟩
  |true=>
   rw[if_pos rfl] at q7
   refine Lj (Lj (Zm (he _ s7 σ6 H7 _ I7 q7) λy s8 ⟨v,H8,I8,r8,hl8,m',hm,w8⟩=>?_))
   obtain⟨J8,n8,o8⟩:=Zn I8
   have isl:s8.heap.IsList D a_.toArray:=⟨_,o8,rfl,nD,rfl⟩
   refine Lj (wpAny_list_append_plain (hsz:=by have:=rv.length;simp;lia) ⟨nD,o8⟩ λh' z_ hs'=>?_)
   obtain⟨nn,ob'⟩:=z_
   have Zp:h'.get? D=some {cls:= .type "list",data:= .seq (a_++[y]).toArray nn}:=by
    rw[ob',List.push_toArray]
   have keep:∀b o,b≠D->s8.heap.get? b=some o->h'.get? b=some o:=λb o hb e=>(hs'.2 b hb).trans e
   have J9:Inv (eU X own js scope C s H fp) (X.pn++pins) σ6 H8 {s8 with heap:=h'}:=J8.turned (t':=s8.toks) keep n8 Sk (.inr hD) WW (λp hp=>Zl p (by
    have z_:p∈([]:XL)++(X.pn++pins):=hp;rw[Qq] at z_;exact z_))
   refine Lw (Lw ⟨rfl,m',hm,i+1,out++[v],H8,⟨wk J9,n8,a_++[y],nn,rv.append (.cons r8 .nil),Zp⟩,?_,(stay I8).2,w8⟩)
   exact T.keep _ _ _ (stay I8).1 λb hb o e=>keep b o (by rintro rfl;exact Dfp hb) e
end
def Kk (n:Nat)(PV:Nat->V->Prop):It:=⟨λi _=>i<n,λi H x H'=>H'=H/\PV i x,λi _=>n<=i⟩
variable {A:Around}{E:XV}{tg:Expr}{it:Addr}{u:Value}
def vq {M:Model}{Q:Unit->Shared->Prop}(hu:∀a,u≠ .ref a)(hQ:Q () s):wpAny M A (letOwnedTupleGo tg (.ref it) u) Q E s:=by
 unfold letOwnedTupleGo;cases tg<;>first
  |exact Lw hQ
  |(cases u<;>first
    |exact Lw hQ
    |exact absurd rfl (hu _))
variable {K:Qd}
def kH {n:Nat}{Pv:Nat->Value->Prop}{PV:Nat->V->Prop}{St:Nat->Heap->Prop}
(W:∀A:Around,A.handled=none->Walks P w A it [it] [it] n Pv St)(hv:∀i u,Pv i u->(∀a,u≠ .ref a)/\∃x,RelV x u/\PV i x)
(ho:∀i h,St i h->∃o,h.get? it=some o/\∀v,o.data≠ .cell v)
(hk:∀i h h',St i h->(∀o,h.get? it=some o->h'.get? it=some o)->St i h')
(W_:∀(A:Around) (i:Nat) (s:Shared) (Q:XV) (E:XV),St i s.heap->Q (.ref it) s->wpAny (model P w) A (pyIter (.ref it)) Q E s):
  iJ P w K tg (Kk n PV) [it] it (λi h=>St i h/\i<=n) where
 mem:=by simp
 obj:=λi h st b hb=>by
  have e:b=it:=by simpa using hb
  subst e;exact ho i h st.1
 keep:=λi h h' st k=>⟨hk i h h' st.1 λo e=>k it (by simp) o e,st.2⟩
 item:=by
  intro X hP hw hK hc i pins s σ H E I hf st hg;subst hP hw hK;obtain⟨f0,f1,f2,f3,f4,f5⟩:=hf it (by simp);refine(W X.A (I.ok.hd hc)).item i s _ _ hg st.1 λv h' tk hv' G' kk=>?_;obtain⟨x_,x,rx,px⟩:=hv i v hv';have I1:Inv X pins σ H {s with heap:=h',toks:=tk}:=I.turned (λb o hb e=>kk b o (by simpa using hb) e) f0 f1 f3 f4 f5;exact⟨v,rfl,vq x_ ⟨x,H,I1,rx,⟨rfl,px⟩,⟨G',hg⟩,λb hb=>(hf b hb).1⟩⟩
 done:=by
  intro X hP hw hK hc i pins s σ H E I hf st hg;subst hP hw hK;obtain⟨f0,f1,f2,f3,f4,f5⟩:=hf it (by simp);have e:i=n:=Nat.le_antisymm st.2 hg;subst e;exact(W X.A (I.ok.hd hc)).done s _ _ st.1 λh' tk kk=>⟨rfl,I.turned (λb o hb e=>kk b o (by simpa using hb) e) f0 f1 f3 f4 f5⟩
 self:=λA i s Q E st h=>W_ A i s Q E st.1 h
def AS (c:Nat):V:= .str ⟨#[c]⟩
def CS (x:Str)(i:Nat)(v:V):Prop:=∃c,x.cps[i]?=some c/\v=AS c
def Its (x:Str):It:=Kk x.cps.size (CS x)
def yz {i:Nat}(h:SignAt x i u):(∀a,u≠ .ref a)/\∃v,RelV v u/\CS x i v:=by
 obtain⟨c,t,hc,rfl⟩:=h;exact⟨λa z=>(by cases z),AS c,⟨t,rfl⟩,c,hc,rfl⟩
def wJ (it:Addr)(x:Str)(t:Tok):iJ P w K tg (Its x) [it] it (λi h=>h.IsStrIter it "str_ascii_iterator" x t i/\i<=x.cps.size):=
 kH (λA hh=>Walks.strAscii hh it x t) (λi u h=>yz h)
  (λi h st=>by obtain⟨o,e,c,d⟩:=st;exact⟨o,e,λv z=>by rw[d] at z;cases z⟩)
  (λi h h' st k=>let ⟨o,e,r⟩:=st;⟨o,k o e,r⟩)
  (λA i s Q E st h=>wpAny_pyIter_striter_ascii st h)
def wt (it:Addr)(x:Str)(t:Tok):iJ P w K tg (Its x) [it] it (λi h=>h.IsStrIter it "str_iterator" x t i/\i<=x.cps.size):=
 kH (λA hh=>Walks.strWide hh it x t) (λi u h=>yz h)
  (λi h st=>by obtain⟨o,e,c,d⟩:=st;exact⟨o,e,λv z=>by rw[d] at z;cases z⟩)
  (λi h h' st k=>let ⟨o,e,r⟩:=st;⟨o,k o e,r⟩)
  (λA i s Q E st h=>wpAny_pyIter_striter_wide st h)
def rIter (K:Qd)(v:V)(H:Hp)(R:It->Hp->Prop):Prop:=
 (∃a,v= .ref a/\(∃xs,SqL K H a xs)/\R (Itl K a) H)\/(∃a,v= .ref a/\(∃xs,SqT K H a xs)/\R (Kj K a) H)\/(∃x,v= .str x/\R (Its x) H)
variable {x:V}{pins:XL}{v:Value}
def Aw {σ:St}{H1:Hp}{s1:Shared}{R:It->Hp->Prop}(I1:Inv X pins σ H1 s1)(r1:RelV x v)(q1:rIter X.K x H1 R):
  wpAny (model X.prog X.w) X.A (pyIter v) (IS X pins σ tg R) X.xe s1:=by
 have Yp:∀b∈[s1.heap.objs.size],ij X pins H1 b:=λb hb=>by
  have e:b=s1.heap.objs.size:=by simpa using hb
  subst e;exact I1.fpOk (La _) (I1.hok.fresh (La _))
 rcases q1 with⟨a,e,⟨xs,hq⟩,q⟩|⟨a,e,⟨xs,hq⟩,q⟩|⟨z,e,q⟩
 .subst e
  cases r1
  obtain⟨a_,rv,p,hz⟩:=I1.list hq
  refine NT p.isList ?_
  exact⟨s1.heap.objs.size,[s1.heap.objs.size],_,_,H1,rfl,I1.kept (t':=s1.toks) λb o e=>Lk _ e,vY a _,⟨_,LC _ rfl,rfl,rfl⟩,Yp,q⟩
 .subst e
  cases r1
  obtain⟨a_,rv,p,hz⟩:=I1.tuple hq
  refine wpAny_pyIter_tuple (show s1.heap.IsTuple a a_.toArray from p) ?_
  exact⟨s1.heap.objs.size,[s1.heap.objs.size],_,_,H1,rfl,I1.kept (t':=s1.toks) λb o e=>Lk _ e,uD a _,⟨_,LC _ rfl,rfl,rfl⟩,Yp,q⟩
 .subst e
  obtain⟨t,rfl⟩:=r1
  cases ha:z.cps.all (·<128) with
  |false=>exact wpAny_pyIter_wide ha ⟨s1.heap.objs.size,[s1.heap.objs.size],_,_,H1,rfl,I1.kept (t':=s1.toks) λb o e=>Lk _ e,wt _ z t,⟨⟨_,LC _ rfl,rfl,rfl⟩,My _⟩,Yp,q⟩
  |true=>exact wpAny_pyIter_ascii ha ⟨s1.heap.objs.size,[s1.heap.objs.size],_,_,H1,rfl,I1.kept (t':=s1.toks) λb o e=>Lk _ e,wJ _ z t,⟨⟨_,LC _ rfl,rfl,rfl⟩,My _⟩,Yp,q⟩
theorem qr:∀{bs:List Bool} {us:jp},Vals (bs.map V.bl) us->us=bs.map Value.bool
 |[],_,.nil=>rfl
 |b::bs,_,.cons r t=>by
  have e:_=Value.bool b:=r;rw[e,qr t];rfl
def uh (bs:List Bool):((List.range bs.length).all λi=>(bs[i]?).getD true)=bs.all id:=by
 rw[Mh,LU,LU];constructor
 .intro h b hb;obtain⟨i,hi,rfl⟩:=QZ hb;have:=h i (Nb.mpr hi);simpa [KY hi] using this
 .intro h i hi;have Sl:=Nb.mp hi;simpa [KY Sl] using h _ (LH Sl)
def uE (bs:List Bool):((List.range bs.length).any λi=>(bs[i]?).getD true)=bs.any id:=by
 rw[Mh,MU,MU];constructor
 .rintro⟨i,hi,e⟩;have Sl:=Nb.mp hi;simp only[KY Sl,Ob] at e;exact⟨_,LH Sl,e⟩
 .rintro⟨b,hb,e⟩;obtain⟨i,hi,rfl⟩:=QZ hb;exact⟨i,Nb.mpr hi,by simp only[KY hi,Ob];exact e⟩
variable {o:Obj}
def vI (hk:∀b x,b∉[s.heap.objs.size]->(s.heap.push o).get? b=some x->h'.get? b=some x):∀b x,s.heap.get? b=some x->h'.get? b=some x:=
 λb x e=>hk b x (λhm=>by rw[Li.mp hm] at e;exact MQ _ (Lu e)) (Lk _ e)
def xy (K:Qd):ap->Hp->VK->Prop:=λxs H Q=>∃(p:Addr) (bs:List Bool),xs=[.ref p]/\SqL K H p (bs.map V.bl)/\Q (.bl (bs.all id)) H
def Iu (K:Qd):ap->Hp->VK->Prop:=λxs H Q=>∃(p:Addr) (bs:List Bool),xs=[.ref p]/\SqL K H p (bs.map V.bl)/\Q (.bl (bs.any id)) H
def wj (hc:X.calm=true):CallR X (.builtin "all") (xy X.K):=by
 intro pins s σ H xs us Q I r h;obtain⟨l,bs,rfl,hx,q⟩:=h;obtain⟨u,rfl,ru⟩:=X3 r;cases ru;obtain⟨a_,rv,ht,hz⟩:=I.list hx;have e:=qr rv;subst e;have hl:=ht.isList;have p_:l<s.heap.objs.size:=ht.lt;refine call_all_walk (NT hl ?_);refine⟨s.heap.objs.size,[s.heap.objs.size,l],[s.heap.objs.size],(bs.map Value.bool).toArray.size,_,_,λi=>(bs[i]?).getD true,rfl,Walks.list (A:=X.A.in1) (I.ok.hd hc) _ l (Lz p_) (bs.map Value.bool).toArray,
  ⟨⟨_,LC _ rfl,rfl,rfl⟩,hl.push _⟩,λi v s' Q' E' hP hQ=>?_,λh' tk hk=>?_⟩
 .have S':(bs.map Value.bool)[i]?=some v:=by simpa using hP
  rw[Lc] at S';cases e:bs[i]? with
  |none=>rw[e] at S';cases S'
  |some b=>
   rw[e] at S'
   cases S'
   simp only[e,Ob] at hQ
   exact Na hQ
 .have e:((List.range (bs.map Value.bool).toArray.size).all λi=>(bs[i]?).getD true)=bs.all id:=by
   rw[LG,KW];exact uh bs
  rw[e];exact⟨.bl (bs.all id),H,I.kept (vI hk),rfl,q⟩
def xa (hc:X.calm=true):CallR X (.builtin "any") (Iu X.K):=by
 intro pins s σ H xs us Q I r h;obtain⟨l,bs,rfl,hx,q⟩:=h;obtain⟨u,rfl,ru⟩:=X3 r;cases ru;obtain⟨a_,rv,ht,hz⟩:=I.list hx;have e:=qr rv;subst e;have hl:=ht.isList;have p_:l<s.heap.objs.size:=ht.lt;refine call_any_walk (NT hl ?_);refine⟨s.heap.objs.size,[s.heap.objs.size,l],[s.heap.objs.size],(bs.map Value.bool).toArray.size,_,_,λi=>(bs[i]?).getD true,rfl,Walks.list (A:=X.A.in1) (I.ok.hd hc) _ l (Lz p_) (bs.map Value.bool).toArray,
  ⟨⟨_,LC _ rfl,rfl,rfl⟩,hl.push _⟩,λi v s' Q' E' hP hQ=>?_,λh' tk hk=>?_⟩
 .have S':(bs.map Value.bool)[i]?=some v:=by simpa using hP
  rw[Lc] at S';cases e:bs[i]? with
  |none=>rw[e] at S';cases S'
  |some b=>
   rw[e] at S'
   cases S'
   simp only[e,Ob] at hQ
   exact Na hQ
 .have e:((List.range (bs.map Value.bool).toArray.size).any λi=>(bs[i]?).getD true)=bs.any id:=by
   rw[LG,KW];exact uE bs
  rw[e];exact⟨.bl (bs.any id),H,I.kept (vI hk),rfl,q⟩
def Iy:V->Option Int->Option Int->Hp->VK->Prop:=λx lo hi H Q=>∃z,x= .str z/\z.length<=sizeLine/\Q (.str (Txt.slice z lo hi)) H
def EX:SlR X Iy:=by
 intro pins s σ H x v vl vu lo hi sl Q I rx hs pl pu h;obtain⟨z,rfl,hz,q⟩:=h;obtain⟨t,rfl⟩:=rx;refine⟨"str",_,F.slot_str_getitem.lookup,QH _ _ _,?_⟩;have fin:∀t' k,EP X pins σ Q (.str (Txt.slice z lo hi) t') {s with toks:=k}:=λt' k=>⟨.str _,H,I.tok _,⟨t',rfl⟩,q⟩
 cases pl with
 |none=>
  cases pu with
  |none=>exact ND (l:=none) (u:=none) (st:=none) hs rfl (OV ⟨LJ (NQ z _ _) hz,fin⟩)
  |int j tj=>exact ND (l:=none) (u:=some (j,tj)) (st:=none) hs rfl (OV ⟨LJ (NQ z _ _) hz,fin⟩)
 |int i ti=>
  cases pu with
  |none=>exact ND (l:=some (i,ti)) (u:=none) (st:=none) hs rfl (OV ⟨LJ (NQ z _ _) hz,fin⟩)
  |int j tj=>exact ND (l:=some (i,ti)) (u:=some (j,tj)) (st:=none) hs rfl (OV ⟨LJ (NQ z _ _) hz,fin⟩)
def GC (K:Qd):V->Option Int->Option Int->Hp->VK->Prop:=λx lo hi H Q=>GJ K x lo hi H Q\/IB K x lo hi H Q\/Iy x lo hi H Q
def El:SlR X (GC X.K):=sl_list.or (sl_tup.or EX)
def RelV.plainB (r:RelV x v)(b:Bool):plainIs v (.bool b)=true/\(v==Value.bool b)=decide (x= .bl b):=by
 cases x with
 |non=>cases r;exact⟨rfl,rfl⟩
 |bl c=>cases r;exact⟨rfl,by cases b<;>cases c<;>rfl⟩
 |int _=>obtain⟨t,rfl⟩:=r;exact⟨rfl,rfl⟩
 |str _=>obtain⟨t,rfl⟩:=r;exact⟨rfl,rfl⟩
 |byt _=>obtain⟨t,rfl⟩:=r;exact⟨rfl,rfl⟩
 |flt _=>obtain⟨t,rfl⟩:=r;exact⟨rfl,rfl⟩
 |ref _=>cases r;exact⟨rfl,rfl⟩
 |ty _=>cases r;exact⟨rfl,rfl⟩
def Jr (neg:Bool):R2:=λx y H Q=>(y= .non\/∃b,y= .bl b)/\Q (.bl (if neg then !decide (x=y) else decide (x=y))) H
def HU:OpR X (compareOp .Is) (Jr false):=by
 intro pins s σ H x y v u Q I rx ry h;obtain⟨hy,q⟩:=h;rcases hy with rfl|⟨b,rfl⟩
 .cases ry;exact is_none_gen ⟨.bl _,H,I,by rw[rx.none_iff];rfl,q⟩
 .cases ry;exact wpAny_is_plain (rx.plainB b).1 ⟨.bl _,H,I,by rw[(rx.plainB b).2];rfl,q⟩
def rL:OpR X (compareOp .IsNot) (Jr true):=by
 intro pins s σ H x y v u Q I rx ry h;obtain⟨hy,q⟩:=h;rcases hy with rfl|⟨b,rfl⟩
 .cases ry;exact isnot_none_gen ⟨.bl _,H,I,by rw[rx.none_iff];rfl,q⟩
 .cases ry;exact wpAny_isNot_plain (rx.plainB b).1 ⟨.bl _,H,I,by rw[(rx.plainB b).2];rfl,q⟩
def TyB (K:Qd)(H:Hp):V->String->Prop
 | .non,t=>t="NoneType"
 | .bl _,t=>t="bool"
 | .int _,t=>t="int"
 | .str _,t=>t="str"
 | .ref a,t=>(t="list"/\∃xs,SqL K H a xs)\/(t="tuple"/\∃xs,SqT K H a xs)\/(t="dict"/\∃kvs,Rd H a (.dK kvs))
 |_,_=>False
def kJ (t T:String):Bool:=t==T||(t=="bool"&&T=="int")
def Cd (K:Qd):ap->Hp->VK->Prop:=λxs H Q=>∃x T t,xs=[x,.ty T]/\TyB K H x t/\(T="str"\/T="int"\/T="bool"\/T="list"\/T="tuple"\/T="dict")/\Q (.bl (kJ t T)) H
def cy {t T:String}(ht:t="NoneType"\/t="bool"\/t="int"\/t="str"\/t="list"\/t="tuple"\/t="dict")(hT:T="str"\/T="int"\/T="bool"\/T="list"\/T="tuple"\/T="dict"):
  PySem.W.kitOne K (.type t) (.type T)=some (kJ t T):=by
 rcases ht with rfl|rfl|rfl|rfl|rfl|rfl|rfl<;>rcases hT with rfl|rfl|rfl|rfl|rfl|rfl<;>rfl
def call_isi:CallR X (.builtin "isinstance") (Cd X.K):=by
 intro pins s σ H xs us Q I r h;obtain⟨x,T,t,rfl,ty,hT,q⟩:=h;obtain⟨u,c,rfl,rx,rc⟩:=gy r;cases rc;have fin:∀tk,EP X pins σ Q (.bool (kJ t T)) {s with toks:=tk}:=λtk=>⟨.bl _,H,I.tok tk,rfl,q⟩
 cases x with
 |non=>cases ty;cases (show u=Value.none from rx);exact Nu PySem.W.kitx_none I.kIn True.intro (cy (by simp) hT) (λz=>nomatch z) fin
 |bl y=>cases ty;cases (show u=Value.bool y from rx);exact Nu PySem.W.kitx_bool I.kIn True.intro (cy (by simp) hT) (λz=>nomatch z) fin
 |int i=>cases ty;obtain⟨t,q⟩:=(show ∃t,u=Value.int i t from rx);cases q;exact Nu PySem.W.kitx_int I.kIn True.intro (cy (by simp) hT) (λz=>nomatch z) fin
 |str y=>cases ty;obtain⟨t,q⟩:=(show ∃t,u=Value.str y t from rx);cases q;exact Nu PySem.W.kitx_str I.kIn True.intro (cy (by simp) hT) (λz=>nomatch z) fin
 |byt _=>exact False.elim ty
 |flt _=>exact False.elim ty
 |ty _=>exact False.elim ty
 |ref a=>
  cases (show u=Value.ref a from rx)
  rcases ty with⟨rfl,ys,hy⟩|⟨rfl,ys,hy⟩|⟨rfl,kvs,hy⟩
  .obtain⟨a_,_,⟨o,n,e,c,_,_⟩,_⟩:=I.list hy
   exact Nu PySem.W.kitx_list I.kIn ⟨o,e,c⟩ (cy (by simp) hT) (λz=>nomatch z) fin
  .obtain⟨a_,_,⟨o,e,c,_⟩,_⟩:=I.tuple hy
   exact Nu PySem.W.kitx_tuple I.kIn ⟨o,e,c⟩ (cy (by simp) hT) (λz=>nomatch z) fin
  .obtain⟨_,_,vs,_,o,es,ep,h1,h2,_⟩:=U5 I.hok hy
   exact Nu PySem.W.kitx_dict I.kIn ⟨o,h1,h2.1⟩ (cy (by simp) hT) (λz=>nomatch z) fin
def qS (K:Qd):R2:=λx y H Q=>zc (λi j=> .int (i+j)) x y H Q\/(∃i j,x= .str i/\y= .str j/\i.length+j.length<=sizeLine/\Q (.str (i++j)) H)\/IH x y H Q\/CB K x y H Q
def Bh:OpR X (binaryOp .Add) (qS X.K):=op_add.or (op_add_str.or (op_cat.or Bg))
def op_in_sgn:OpR X (compareOp .In) (λx y H Q=>∃c j,x=AS c/\y= .str j/\Q (.bl (decide (c∈j.cps.toList))) H):=by
 intro pins s σ H x y v u Q I rx ry h;obtain⟨c,j,rfl,rfl,q⟩:=h;refine wu pins s σ H _ _ v u Q I rx ry ⟨⟨#[c]⟩,j,rfl,rfl,?_⟩;rw[StrLaws.found_one];exact q
def op_notIn_sgn:OpR X (compareOp .NotIn) (λx y H Q=>∃c j,x=AS c/\y= .str j/\Q (.bl (!decide (c∈j.cps.toList))) H):=by
 intro pins s σ H x y v u Q I rx ry h;obtain⟨c,j,rfl,rfl,q⟩:=h;refine oS pins s σ H _ _ v u Q I rx ry ⟨⟨#[c]⟩,j,rfl,rfl,?_⟩;rw[StrLaws.found_one];exact q
def tm (hu:X.A.units+1<cLine):OpR X (compareOp .In) (λy x H Q=>∃a o,x= .ref a/\DGet H a y o/\Q (.bl o.isSome) H):=by
 intro pins s σ H y x v u Q I ry rx h;obtain⟨a,o,rfl,g,q⟩:=h;cases rx;exact Jl hu I g ry λs' I'=>⟨.bl _,H,I',rfl,q⟩
def mX (hu:X.A.units+1<cLine):OpR X (compareOp .NotIn) (λy x H Q=>∃a o,x= .ref a/\DGet H a y o/\Q (.bl (!o.isSome)) H):=by
 intro pins s σ H y x v u Q I ry rx h;obtain⟨a,o,rfl,g,q⟩:=h;cases rx;exact BA hu I g ry λs' I'=>⟨.bl _,H,I',rfl,q⟩
def xH (K:Qd):R2:=λx y H Q=>(∃c j,x=AS c/\y= .str j/\Q (.bl (decide (c∈j.cps.toList))) H)\/IY K false x y H Q\/(∃a o,y= .ref a/\DGet H a x o/\Q (.bl o.isSome) H)
def jS (K:Qd):R2:=λx y H Q=>(∃c j,x=AS c/\y= .str j/\Q (.bl (!decide (c∈j.cps.toList))) H)\/IY K true x y H Q\/(∃a o,y= .ref a/\DGet H a x o/\Q (.bl (!o.isSome)) H)
def DV (hu:X.A.units+1<cLine):OpR X (compareOp .In) (xH X.K):=op_in_sgn.or (op_in_seq.or (tm hu))
def xI (hu:X.A.units+1<cLine):OpR X (compareOp .NotIn) (jS X.K):=op_notIn_sgn.or (op_notIn_seq.or (mX hu))
def GY:R2:=λx y H Q=>zc (λi j=> .bl (decide (i<j))) x y H Q\/(∃i j,x= .str i/\y= .str j/\Q (.bl (decide (i.cps.toList<j.cps.toList))) H)
def iB:OpR X (compareOp .Lt) GY:=op_lt.or wO
def Ck (hu:X.A.units+1<cLine):IxR X (λx y H Q=>∃a v,x= .ref a/\DGet H a y (some v)/\Q v H):=by
 intro value slice pins s σ H x y v u Q I rx ry h hs;obtain⟨a,z,rfl,g,q⟩:=h;cases rx;exact tail_any (sX I g) PySem.F.slot_dict_getitem.lookup (xf hu I g ry λw2 s' I' r'=>⟨z,H,I',r',q⟩) hs
def mC (K:Qd):R2:=λx y H Q=>Kl K x y H Q\/(∃a v,x= .ref a/\DGet H a y (some v)/\Q v H)
def Ft (hu:X.A.units+1<cLine):IxR X (mC X.K):=ix_seq.or (Ck hu)
def tG (K:Qd):ap->Hp->VK->Prop:=λxs H Q=>(∃x n,xs=[x]/\GZ K x H n/\Q (.int n) H)\/(∃a kvs,xs=[V.ref a]/\Rd H a (.dK kvs)/\Q (.int kvs.length) H)
def call_lenX:CallR X (.builtin "len") (tG X.K):=by
 refine call_len.or ?_;intro pins s σ H xs us Q I r h;obtain⟨a,kvs,rfl,ha,q⟩:=h;obtain⟨u,rfl,ru⟩:=X3 r;cases ru;exact HP I ha λt s' I'=>⟨.int kvs.length,H,I',⟨t,rfl⟩,q⟩
def U8 (P:Program)(w:World)(K:Qd)(mg:Str->ad)(base:Heap)(CX:qz)(k:Nat)(x:Str)(ps:xL)(r_:ap)(sp:Sp):Prop:=
 ∃f fd ds,E4 P w K mg base CX k f fd ps sp/\mg x=some (.ref f)/\PySem.W.keepIn K (.ref f)=true/\Binds K fd ps ds/\Vals r_ ds
section
variable {X:Cx} {CX:qz} {k:Nat} {x:Str} {ps:xL} {r_:ap} {sp:Sp} {E:XK} {e:Expr} {es:List Expr} {t:TA} {p pos:Pos}
def zV (C:U8 X.prog X.w X.K X.mg X.base CX k x ps r_ sp)(hr:Room k X.A)(hx:dy CX X E)(ha:PA X (e::es) t)(hg:Gl X x:=by rfl)
(w_:(x==("__debug__":Str))=false:=by decide)(he:starEach (e::es) X.env=(false,eval e X.env)::starEach es X.env:=by rfl)(Si:(backTo pos (starEach es X.env)).any (·.1)=false:=by rfl):
  PE X (.Call (.Name x p) (e::es) [] pos) (qF sp r_ E t):=by
 obtain⟨f,fd,ds,F,hm,hk,hb,hd⟩:=C
 exact AQ F hr hg hm hk hb hd hx ha w_ he Si
def BL (mg:Str->ad)(x:Str)(v:V):Prop:=∃u,mg x=some u/\RelV v u
def FT {v:V}(h:BL X.mg x v)(hg:Gl X x:=by rfl)(hd:(x==("__debug__":Str))=false:=by decide):PE X (.Name x pos) (tC v):=by
 obtain⟨u,hm,r⟩:=h;exact BD hg hm r hd
theorem B0 {k:Nat}{A:Around}(r:Room k A):A.units+1<cLine:=by have:=r.un;lia
end
section
variable {K:Qd} {σ:St} {H:Hp} {Q:VK} {D:tE} {nx bk ct:St->Hp->Prop} {rt:VK}
variable {v:V}
def Hk {i:Nat}(h:σ[i]?=some (some v))(q:Q v H):BB i σ H Q:=⟨v,h,q⟩
def KO (q:Q v H):tC v σ H Q:=q
variable {ta tb:TE}
def Jp {r:R2}(q:ta σ H λx H1=>tb σ H1 λy H2=>r x y H2 Q):Bv r ta tb σ H Q:=q
def FJ {t:TE}{Qb:Bool->Hp->Prop}(q:t σ H λx H'=>∃k,x= .bl k/\Qb k H'):xY t σ H Qb:=q
variable {Qb:Bool->Prop}{b:Bool}
def Kc (q:Qb b):∃k,V.bl b= .bl k/\Qb k:=⟨b,rfl,q⟩
def Gw (q:Qb b):∃k,ya K (V.bl b) H k/\Qb k:=⟨b,rfl,q⟩
variable {Qb:Bool->Hp->Prop}
def GS {t:TT}(q:t σ H λc H1=>Qb (!c) H1):Fg t σ H Qb:=q
def IF {t u:TT}(q:t σ H λc H1=>if c=true then u σ H1 Qb else Qb false H1):DF t u σ H Qb:=q
def JL {t u:TT}(q:t σ H λc H1=>if c=true then Qb true H1 else u σ H1 Qb):Ka t u σ H Qb:=q
def FK (q:ta σ H λx H1=>∃c,x= .bl c/\if c=true then tb σ H1 Q else Q (.bl false) H1):zB ta tb σ H Q:=q
def GP (q:ta σ H λx H1=>∃c,x= .bl c/\if c=true then Q (.bl true) H1 else tb σ H1 Q):EB ta tb σ H Q:=q
def Fe (q:ta σ H λx H1=>∃c,x= .bl c/\Q (.bl (!c)) H1):yk ta σ H Q:=q
def JI {t:TT}(q:t σ H λc H1=>if c=true then ta σ H1 Q else tb σ H1 Q):JV t ta tb σ H Q:=q
variable {Qa:ap->Hp->Prop}
def GR (q:Qa [] H):zT σ H Qa:=q
def FU {tr:TA}(q:ta σ H λx H1=>tr σ H1 λxs H2=>Qa (x::xs) H2):vg ta tr σ H Qa:=q
def DX {sp:Sp}{r_:ap}{E:XK}{t:TA}(q:t σ H λvs H1=>sp (vs++r_) H1 Q E):qF sp r_ E t σ H Q:=q
def Jg {r:ap->Hp->VK->Prop}{t:TA}(q:t σ H λvs H1=>r vs H1 Q):DO r t σ H Q:=q
variable {te:TE}
def JA {r:V->Option Int->Option Int->Hp->VK->Prop}{tl th:TO}(q:te σ H λx H1=>tl σ H1 λl H2=>th σ H2 λu H3=>r x l u H3 Q):JH r te tl th σ H Q:=q
variable {Qo:Option Int->Hp->Prop}
def AB (q:Qo none H):pD σ H Qo:=q
def EH {t:TE}(q:t σ H λx H1=>∃i,x= .int i/\Qo (some i) H1):zt t σ H Qo:=q
def Gr {i:Int}{Qo:Int->Prop}(q:Qo i):∃j,V.int i= .int j/\Qo j:=⟨i,rfl,q⟩
def xE {i j:Int}(q:Q (.int (i+j)) H):qS K (.int i) (.int j) H Q:= .inl ⟨i,j,rfl,rfl,q⟩
def U7 {i j:Str}(h:i.length+j.length<=sizeLine)(q:Q (.str (i++j)) H):qS K (.str i) (.str j) H Q:= .inr (.inl ⟨i,j,rfl,rfl,h,q⟩)
variable {i j:Int}{g:Int->Int->V}
def Jo (q:Q (g i j) H):zc g (.int i) (.int j) H Q:=⟨i,j,rfl,rfl,q⟩
def Kh {C:Int->Int->Prop}(h:C i j)(q:Q (g i j) H):rI C g (.int i) (.int j) H Q:=⟨i,j,rfl,rfl,h,q⟩
def Av (q:Q (.bl (decide (i<j))) H):GY (.int i) (.int j) H Q:= .inl ⟨i,j,rfl,rfl,q⟩
def qE (q:Q (.bl (decide (i=j))) H):Je (.int i) (.int j) H Q:=⟨rfl,by rw[jW];rw[show(i==j)=decide (i=j) from OL i j];exact q⟩
def qH {i j:Str}(q:Q (.bl (decide (i=j))) H):Je (.str i) (.str j) H Q:=⟨rfl,by rw[oT];rw[show(i==j)=decide (i=j) from OL i j];exact q⟩
def yF {c:Nat}{j:Str}(q:Q (.bl (decide (c∈j.cps.toList))) H):xH K (AS c) (.str j) H Q:= .inl ⟨c,j,rfl,rfl,q⟩
def eN {y:Str}(h:y.length<=sizeLine)(q:Q (.int y.length) H):tG K [.str y] H Q:= .inl ⟨.str y,y.length,rfl,⟨h,rfl⟩,q⟩
variable {p:Addr}{xs:ap}
def p0 (h:SqL K H p xs)(q:Q (.int xs.length) H):tG K [.ref p] H Q:= .inl ⟨.ref p,xs.length,rfl,.inl ⟨xs,h,rfl⟩,q⟩
def wH (h:SqT K H p xs)(q:Q (.int xs.length) H):tG K [.ref p] H Q:= .inl ⟨.ref p,xs.length,rfl,.inr ⟨xs,h,rfl⟩,q⟩
def bG {kvs:am}(h:Rd H p (.dK kvs))(q:Q (.int kvs.length) H):tG K [.ref p] H Q:= .inr ⟨p,kvs,rfl,h,q⟩
variable {i:Int}
def i9 (h:SqL K H p xs)(e:kC xs i=some v)(q:Q v H):mC K (.ref p) (.int i) H Q:= .inl (.inl ⟨p,xs,i,v,rfl,rfl,h,e,q⟩)
def A0 (h:SqT K H p xs)(e:kC xs i=some v)(q:Q v H):mC K (.ref p) (.int i) H Q:= .inl (.inr (.inl ⟨p,xs,i,v,rfl,rfl,h,e,q⟩))
def bM {z:Str}{c:Nat}(hz:z.length<=sizeLine)(e:kC z.cps.toList i=some c)(q:Q (AS c) H):mC K (.str z) (.int i) H Q:= .inl (.inr (.inr ⟨z,i,c,rfl,rfl,hz,e,q⟩))
def u4 {y:V}(g:DGet H p y (some v))(q:Q v H):mC K (.ref p) y H Q:= .inr ⟨p,v,rfl,g,q⟩
variable {lo hi:Option Int}
def lV (h:SqL K H p xs)(q:∀p H2,H p=none->Same H H2->H2 p=some (.lst (bj xs lo hi))->Q (.ref p) H2):GC K (.ref p) lo hi H Q:= .inl ⟨p,xs,rfl,h,λl n=>q l _ n (nwS n) b5⟩
def iz {z:Str}(hz:z.length<=sizeLine)(q:Q (.str (Txt.slice z lo hi)) H):GC K (.str z) lo hi H Q:= .inr (.inr ⟨z,rfl,hz,q⟩)
def mZ {l b:Addr}{zs:ap}(h1:H l=some (.lst xs))(h2:H b=some (.lst zs))(hz:xs.length+zs.length<=sizeLine)(q:∀p H2,H p=none->Same H H2->H2 p=some (.lst (xs++zs))->Q (.ref p) H2):qS K (.ref l) (.ref b) H Q:= .inr (.inr (.inl ⟨l,b,xs,zs,rfl,rfl,h1,h2,hz,λl n=>q l _ n (nwS n) b5⟩))
def Hr {neg:Bool}{x:V}(q:Q (.bl (if neg then !decide (x= .non) else decide (x= .non))) H):Jr neg x .non H Q:=⟨.inl rfl,q⟩
def dz {x:V}{t T:String}(ty:TyB K H x t)(hT:T="str"\/T="int"\/T="bool"\/T="list"\/T="tuple"\/T="dict")(q:Q (.bl (kJ t T)) H):Cd K [x,.ty T] H Q:=⟨x,T,t,rfl,ty,hT,q⟩
def nz {bs:List Bool}(h:SqL K H p (bs.map V.bl))(q:Q (.bl (bs.all id)) H):xy K [.ref p] H Q:=⟨p,bs,rfl,h,q⟩
def Iq {t:TA}(q:t σ H λxs H1=>xs.length<=sizeLine/\∀p H2,H1 p=none->Same H1 H2->H2 p=some (.tup xs)->Q (.ref p) H2):FD t σ H Q:=q
def GK {t:TA}(q:t σ H λxs H1=>xs.length<=sizeLine/\∀p H2,H1 p=none->Same H1 H2->H2 p=some (.lst xs)->Q (.ref p) H2):BJ t σ H Q:=q
def R4 {t u:TS}(q:t ⟨u ⟨nx,rt,bk,ct⟩,rt,bk,ct⟩ σ H):jI t u ⟨nx,rt,bk,ct⟩ σ H:=q
def Ed (q:nx σ H):zz ⟨nx,rt,bk,ct⟩ σ H:=q
def GN (q:te σ H rt):zg te ⟨nx,rt,bk,ct⟩ σ H:=q
def EE (q:te σ H λ_ H1=>nx σ H1):yV te ⟨nx,rt,bk,ct⟩ σ H:=q
def HW {c:TT}{t u:TS}(q:c σ H λb H1=>if b=true then t ⟨nx,rt,bk,ct⟩ σ H1 else u ⟨nx,rt,bk,ct⟩ σ H1):Ef c t u ⟨nx,rt,bk,ct⟩ σ H:=q
def Ho {g:TG}(q:te σ H λx H1=>g x σ H1 nx):um te g ⟨nx,rt,bk,ct⟩ σ H:=q
def DC {i:Nat}{Qs:St->Hp->Prop}(q:Qs (σ.set i (some v)) H):ah i v σ H Qs:=q
end
section
variable {X:Cx} {pins:XL} {σ:St} {H:Hp} {s:Shared} {d:Addr} {kvs:am} {o:Obj}
abbrev C7 (d:Addr)(o:Obj)(kvs:am)(H:Hp):Hp:=u9 H d (.frz o (.dK kvs))
def Inv.freeze (I:Inv X pins σ H s)(h:H d=some (.dK kvs))(ho:s.heap.get? d=some o):Inv X pins σ (C7 d o kvs H) s:=by
 have nd:∀b u,H b=some u->u≠ .dK kvs->b≠d:=λb u e n z=>by
  subst z;rw[h] at e;exact n (Ly e).symm
 have hok:HOk X.prog X.w (C7 d o kvs H) s.heap:=λb u e=>by
  have st:∀{a:Addr} {u:HO},ObjOk X.prog X.w H s.heap a u->ObjOk X.prog X.w (C7 d o kvs H) s.heap a u:=fun{a u} x=>
   x.stay (λc v _ q=>q) (λc q=>by unfold C7;rw[b7 (nd c _ q (by intro z;cases z))];exact q) λc xs q=>by unfold C7;rw[b7 (nd c _ q (by intro z;cases z))];exact q
  by_cases hb:b=d
  .subst hb;unfold C7 at e;rw[b5] at e;cases e;exact⟨ho,st (I.hok _ _ h)⟩
  .unfold C7 at e;rw[b7 hb] at e;exact st (I.hok b u e)
 have q:=I.un (H':=C7 d o kvs H) (h':=s.heap) (t':=s.toks) ⟨λb o e n hb hx=>e,λb o e n hb hx=>⟨o.slots,e⟩,λb o e n hx=>by
  unfold C7;rw[b7 (λz=>by subst z;rw[h] at n;cases n)];exact n,λb o e _=>⟨o,e⟩,λb xs e=>by unfold C7;rw[b7 (nd b _ e (by intro z;cases z))];exact e,
  λb o u e=>by unfold C7;rw[b7 (nd b _ e (by intro z;cases z))];exact e,λb ps e=>⟨#[],by unfold C7;rw[b7 (nd b _ e (by intro z;cases z))];simpa using e⟩⟩ hok
 exact q
def GV:Option HO->Option HO
 |some (.frz _ u)=>some u
 |o=>o
def thaw (d:Addr)(H:Hp):Hp:=λb=>if b=d then GV (H d) else H b
theorem S8 {b:Addr}(h:b≠d):thaw d H b=H b:=by unfold thaw;rw[if_neg h]
theorem thaw_at {u:HO}(h:H d=some (.frz o u)):thaw d H d=some u:=by unfold thaw;rw[if_pos rfl,h];rfl
theorem Ae {u:HO}(h:H d=some (.frz o u)):thaw d H=u9 H d u:=by grind [thaw_at,b5,S8,b7]
def vR (h:∀o u,H d≠some (.frz o u)):thaw d H=H:=by
 funext b;by_cases hb:b=d
 .subst hb;unfold thaw;rw[if_pos rfl];cases q:H b with
  |none=>rfl
  |some u=>cases u with
   |frz o u=>exact absurd q (h o u)
   |_=>rfl
 .exact S8 hb
def BY (X:Cx)(th:Hp->Hp):Prop:=∀(pins:XL) (σ:St) (H:Hp) (s:Shared),Inv X pins σ H s->Inv X pins σ (th H) s
def gB:BY X id:=λ_ _ _ _ I=>I
def vX (hn:∀o u,X.H₀ d≠some (.frz o u)):BY X (thaw d):=λpins σ H s I=>by
 by_cases hf:∃o u,H d=some (.frz o u)
 .obtain⟨o,u,h⟩:=hf;rw[Ae h];have nd:∀b v,H b=some v->v≠ .frz o u->b≠d:=λb v e n z=>by
   subst z;rw[h] at e;exact n (Ly e).symm
  have nn:∀b,H b=none->b≠d:=λb e z=>by subst z;rw[h] at e;cases e
  have st:∀{a:Addr} {v:HO},ObjOk X.prog X.w H s.heap a v->ObjOk X.prog X.w (u9 H d u) s.heap a v:=fun{a v} x=>
   x.stay (λc v _ q=>q) (λc q=>by rw[b7 (nd c _ q (by intro z;cases z))];exact q) λc xs q=>by rw[b7 (nd c _ q (by intro z;cases z))];exact q
  refine⟨I.ok,I.os,I.bare,⟨I.base.keep,I.base.slot,λb ob e n hx=>?_,I.base.there,λb xs e=>?_,λb ob v e=>?_,λb ps e=>?_⟩,I.loc,I.cell,?_,λx c e=>?_,λp hp=>?_,λb v e=>?_,I.len⟩
  .have q:=I.base.free b ob e n hx;rw[b7 (nn b q)];exact q
  .have q:=I.base.tups b xs e;rw[b7 (nd b _ q (by intro z;cases z))];exact q
  .have q:=I.base.frzs b ob v e;rw[b7 (λz=>by subst z;exact hn ob v e)];exact q
  .obtain⟨m,q⟩:=I.base.tbls b ps e;exact⟨m,by rw[b7 (nd b _ q (by intro z;cases z))];exact q⟩
  .rw[b7 (nn _ I.free)];exact I.free
  .have q:=I.freeC x c e;rw[b7 (nn _ q)];exact q
  .obtain⟨a1,a2,a3⟩:=I.pin p hp;exact⟨a1,by rw[b7 (nn _ a2)];exact a2,a3⟩
  .by_cases hb:b=d
   .subst hb;rw[b5] at e;cases e;exact st (I.hok _ _ h).2
   .rw[b7 hb] at e;exact st (I.hok b v e)
 .rw[vR λo u e=>hf ⟨o,u,e⟩];exact I
def Same.thaw {H H':Hp}(h:H d=some (.dK kvs))(e:Same (C7 d o kvs H) H'):Same H (thaw d H'):=λb u q=>by
 by_cases hb:b=d
 .subst hb;rw[h] at q;cases q;have z:=e b _ (show C7 b o kvs H b=some _ from b5);exact thaw_at z
 .rw[S8 hb];exact e b u (by unfold C7;rw[b7 hb];exact q)
end
abbrev qx:=St->Hp->(It->(Hp->Hp)->Hp->Prop)->Prop
def zi (X:Cx)(tg iter:Expr)(wi:qx):Prop:=
 ∀(pins:XL) (s:Shared) (σ:St) (H:Hp) (R:It->(Hp->Hp)->Hp->Prop),Inv X pins σ H s->wi σ H R->
  wpAny (model X.prog X.w) X.A (eval iter X.env) (λv s1=>wpAny (model X.prog X.w) X.A (pyIter v) (IS X pins σ tg λJ H'=>∃th,BY X th/\R J th H') X.xe s1) X.xe s
variable {iter:Expr}
def PI.two {wi:TI}(h:PI X tg iter wi):zi X tg iter (λσ H R=>wi σ H λJ H'=>R J id H'):=by
 intro pins s σ H R I q;refine O9 (h pins s σ H _ I q) λv s1 h1=>O9 h1 λWK s2 h2=>?_;obtain⟨it,fp,tn,J,H',e,I',T,st,f,q⟩:=h2;exact⟨it,fp,tn,J,H',e,I',T,st,f,id,gB,q⟩
def xb (J:It)(th:Hp->Hp)(g:TG)(tb:TS)(nx:St->Hp->Prop)(rt:VK)(σ:St)(H1:Hp):Prop:=∃W:Nat->Nat->St->Hp->Prop,(∃m,W 0 m σ H1)/\∀i m σ H,W i m σ H->
 (J.stop i H/\nx σ (th H))\/(J.go i H/\∃N:St->Hp->Prop,(∀σ' H',N σ' H'->∃m',m'<m/\W (i+1) m' σ' H')/\∀x H',J.yld i H x H'->g x σ H' λσ2 H2=>tb ⟨N,λv H=>rt v (th H),λσ H=>nx σ (th H),N⟩ σ2 H2)
def yq (wi:qx)(g:TG)(tb:TS):TS:=λD σ H=>wi σ H λJ th H1=>xb J th g tb D.nx D.rt σ H1
variable {wi:qx}{g:TG}{pos:Pos}
def AO {body:List Stmt}{tb:TS}(hp:PassesOwn (model X.prog X.w) X.A X.env X.xe)(hc:X.calm=true)(hi:zi X tg iter wi)(hg:PG X tg g)(hb:PSs X body tb)
(hs:∀x,foldedSetIterable iter X.env x=pure x:=by intro _;rfl):PS X (.For tg iter body [] pos) (yq wi g tb):=by
 intro pins s σ H D I h
 refine wpAny_For (O9 (hi pins s σ H _ I h) λv s1 h1=>O9 h1 λWK s2 h2=>?_) hs
 obtain⟨it,fp,tn,J,H2,e,I2,T,K_,f2,th,Sm,W,⟨m0,w0⟩,turn⟩:=h2
 subst e
 have SX:∀{H':Hp},(∀b∈fp,H' b=none)->∀b∈fp,ij X pins H' b:=λhn b hb=>⟨hn b hb,(f2 b hb).2⟩
 refine codeAny_forLoop_any (λn s'=>∃i σ' H',Inv X pins σ' H' s'/\tn i s'.heap/\(∀b∈fp,H' b=none)/\W i n σ' H') ?_ m0 ⟨0,σ,H2,I2,K_,λb hb=>(f2 b hb).1,w0⟩
 rintro n s3 ⟨i,σ3,H3,I3,WX,WY,w3⟩
 rcases turn i n σ3 H3 w3 with⟨stop,qn⟩|⟨go,N,hN,step⟩
 .refine Nq hp (O9 (T.done X rfl rfl rfl hc i pins s3 σ3 H3 X.xe I3 (SX WY) WX stop) λr s4 ⟨hr,I4⟩=>?_)
  subst hr
  exact Oh ⟨σ3,th H3,Sm _ _ _ _ I4,qn⟩
 .refine Nq hp (O9 (T.item X rfl rfl rfl hc i pins s3 σ3 H3 X.xe I3 (SX WY) WX go) λr s4 ⟨u,hr,h4⟩=>?_)
  subst hr
  refine Nq hp (O9 h4 λ_ s5 ⟨x,H5,I5,r5,y5,st5,fr5⟩=>?_)
  have Zo:=I5.pinned (SX fr5) (T.obj _ _ st5)
  refine Nq hp (O9 (hg _ s5 σ3 H5 x u _ Zo r5 (step x H5 y5)) λ_ s6 ⟨σ6,H6,I6,q6⟩=>?_)
  refine Nq hp (O9 (hb _ s6 σ6 H6 _ I6 q6) λf s7 q7=>?_)
  have again:∀{σ7:St} {H7:Hp},Inv X (pins++kN fp s5.heap) σ7 H7 s7->N σ7 H7->∃m,m<n/\∃i σ' H',Inv X pins σ' H' s7/\tn i s7.heap/\(∀b∈fp,H' b=none)/\W i m σ' H':=fun{σ7 H7} I7 n7=>by
   obtain⟨m',hm,w7⟩:=hN σ7 H7 n7;refine⟨m',hm,i+1,σ7,H7,I7.unpinned,T.keep _ _ _ st5 λb hb o e=>(I7.pin (b,o) (Lf _ (Lf _ (bS hb e)))).1,λb hb=>?_,w7⟩;obtain⟨o,e,d⟩:=T.obj _ _ st5 b hb;exact(I7.pin (b,o) (Lf _ (Lf _ (bS hb e)))).2.1
  cases f with
  |next=>obtain⟨σ7,H7,I7,n7⟩:=q7;exact again I7 n7
  |cont=>obtain⟨σ7,H7,I7,n7⟩:=q7;exact again I7 n7
  |brk=>obtain⟨σ7,H7,I7,q7⟩:=q7;exact⟨σ7,th H7,Sm _ _ _ _ I7.unpinned,q7⟩
  |ret v=>obtain⟨x7,σ7,H7,I7,r7,q7⟩:=q7;exact⟨x7,σ7,th H7,Sm _ _ _ _ I7.unpinned,r7,q7⟩
def vM (own:xL)(js:List Nat)(J:It)(th:Hp->Hp)(g:TG)(ti:TT)(te:TE)(Q:VK)(σ:St)(H1:Hp):Prop:=∃W:Nat->Nat->ap->Hp->Prop,(∃m,W 0 m [] H1)/\∀i m out H,W i m out H->
 (J.stop i H/\∀D,H D=none->out.length<=sizeLine/\Q (.ref D) (th (u9 H D (.lst out))))\/
 (J.go i H/\∀x H',J.yld i H x H'->g x (xW own js σ) H' λσ2 H2=>σ2.drop own.length=js.map (λj=>(σ[j]?).join)/\ti σ2 H2 λb H3=>
  if b=true then te σ2 H3 λv H4=>out.length<=sizeLine/\∃m',m'<m/\W (i+1) m' (out++[v]) H4 else ∃m',m'<m/\W (i+1) m' out H3)
def kQ (own:xL)(js:List Nat)(wi:qx)(g:TG)(ti:TT)(te:TE):TE:=λσ H Q=>wi σ H λJ th H1=>vM own js J th g ti te Q σ H1
def Et:TT:=λ_ H Q=>Q true H
def Iz:uF X [] Et:=JS
variable {elt:Expr}{ifs:List Expr}{ti:TT}{te:TE}
def wG {own:xL}{scope:Scope}(S:Gk X own js scope=true)(hc:X.calm=true)(hit:zi X tg iter wi)
(hg:∀C s H fp,PG (eU X own js scope C s H fp) tg g)(hi:∀C s H fp,uF (eU X own js scope C s H fp) ifs ti)(he:∀C s H fp,PE (eU X own js scope C s H fp) elt te)
(hs:∀x,foldedSetIterable iter X.env x=pure x:=by intro _;rfl):
  PE X (.ListComp elt [⟨tg,iter,ifs,0⟩] scope pos) (kQ own js wi g ti te):=by
 have SB:=yN S
 intro pins s σ H Q I h
 rw[eval_ListComp]
 refine Pp (use:=none) rfl hs (mn (SB.cells I)) SB.kind SB.names (O9 (hit pins s σ H _ I h) λv s1 h1=>O9 h1 λWK s2 h2=>?_)
 obtain⟨it,fp,tn,J,H2,e,I2,T,K_,f2,th,Sm,W,⟨m0,w0⟩,turn⟩:=h2
 subst e
 refine Nt (wpAny_newFunctionEnv SB.nocell (by intro y hy;simp at hy) (λh₁ hns₁ hsb₁=>?_) SB.kind)
 dsimp only at hns₁ hsb₁⊢
 generalize Va:s2.heap.push {cls:= .type "list",dict:=none,data:= .seq ([]:jp).toArray}=G2 at hns₁ hsb₁⊢
 have Xa:G2.objs.size=s2.heap.objs.size+1:=by rw[←Va,QX]
 have Sk:s2.heap.objs.size≠G2.objs.size:=by rw[Xa];exact Lz (Mw _)
 have hC:s2.heap.objs.size<=G2.objs.size:=by rw[Xa];exact NF _
 have old:∀b o,s2.heap.get? b=some o->h₁.get? b=some o:=λb o e=>
  hsb₁.extBut b o (Lz (Lv (Lu e) hC)) (Lk _ (Va▸Lk _ e))
 have Ry:∀b∈fp,∃o,s2.heap.get? b=some o:=λb hb=>let ⟨o,e,_⟩:=T.obj _ _ K_ b hb;⟨o,e⟩
 have D_:h₁.get? s2.heap.objs.size=some {cls:= .type "list",data:= .seq ([]:jp).toArray}:=
  hsb₁.extBut _ _ Sk (Lk _ (Va▸LC _ rfl))
 have loop:∀s3:Shared,s3={s2 with heap:=h₁,toks:=s2.toks+([]:List (Str×Value)).length}->
   codeAny (model X.prog X.w) X.A (.compLoop (.ListComp elt [⟨tg,iter,ifs,0⟩] scope pos) 0 (.ref it) (.ref s2.heap.objs.size) (compEnvC scope (jL scope X.env) G2.objs.size X.env))
    (compPost (model X.prog X.w) X.A X.xe none (EP X pins σ Q) (.ref s2.heap.objs.size) G2.objs.size) s3:=by
  rintro s3 rfl
  refine ng (K:=λout H'=>Q (.ref s2.heap.objs.size) (th (u9 H' s2.heap.objs.size (.lst out)))) SB hc T I2 f2 (La _) hC Sk Ry (hg _ _ _ _) (hi _ _ _ _) (he _ _ _ _) W (λi m out H' w=>?_) (λout H' s' B hl k=>?_) w0
   ⟨Inv.block SB I2 f2 Ry hC hns₁ old,I2.hok.fresh (La _),[],_,.nil,D_⟩ (T.keep _ _ _ K_ λb _ o e=>old b o e) (λb hb=>(f2 b hb).1)
  .rcases turn i m out H' w with⟨a,b⟩|c
   .exact .inl ⟨a,λn=>b _ n⟩
   .exact .inr c
  .obtain⟨mm,hn,_⟩:=B.inv.loc
   exact⟨mm,hn,λh' sb=>⟨.ref s2.heap.objs.size,_,Sm _ _ _ _ (B.out I2 f2 (La _) hC Sk hl sb),rfl,k⟩⟩
 exact codeAny_compStart_list (loop _ rfl) (T.self _ 0 _ _ _ (T.keep _ _ _ K_ λb _ o e=>old b o e) (loop _ rfl))
def P6 {α β : Type}{F : α -> β -> Prop} : ∀ {l₁ : List α} {l₂ : List β} {i : Nat} {a : α}, Paired F l₁ l₂ -> l₁[i]? = some a -> ∃ b, l₂[i]? = some b /\ F a b
 := by
  intro l₁ l₂ i a hp e;induction hp generalizing i with
  | nil => cases e
  | cons r _ ih => cases i with
    | zero => cases e; exact ⟨_, rfl, r⟩
    | succ i => exact ih e
def ki {k:j0}(h:(z0 P w).is k v=true):RelV (kV k) v:=by
 rcases K1 (show jz k v=true from h) with⟨i,t,rfl,rfl⟩|⟨x,t,rfl,rfl⟩
 .exact⟨t,rfl⟩
 .exact⟨t,rfl⟩
def zh {k:j0}(h:(z0 P w).is k v=true):∀a,v≠ .ref a:=by
 rcases K1 (show jz k v=true from h) with⟨i,t,rfl,rfl⟩|⟨x,t,rfl,rfl⟩<;>exact λa z=>by cases z
structure zm (P:Program) (w:World) (d:Addr) (o:Obj) (kvs:am) (vs:List (j0×Value)) (ep:Nat):Prop where
 kv:KV kvs vs
 at_:∀h:Heap,h.get? d=some o->h.DictAt (z0 P w) d vs ep
 nd:(kvs.map (·.1)).Nodup
variable {d:Addr}{kvs:am}
def ib (ok:HOk P w H h)(e:Rd H d (.dK kvs)):(d==sysModules)=false/\∃o vs ep,h.get? d=some o/\zm P w d o kvs vs ep:=by
 obtain⟨z,hd,vs,rel,o,es,ep,h1,r⟩:=U5 ok e;refine⟨hd,o,vs,ep,h1,rel,λh' e'=>⟨o,es,e',r⟩,?_⟩;rw[KV.keys rel];exact r.2.2.2.2
def IQ (d:Addr)(o:Obj)(kvs:am)(f:j0×V->V):It:=
 ⟨λi H=>H d=some (.frz o (.dK kvs))/\i<kvs.length,λi H x H'=>H'=H/\∃kv,kvs[i]?=some kv/\x=f kv,λi H=>H d=some (.frz o (.dK kvs))/\kvs.length<=i⟩
def Ir (d:Addr)(o:Obj)(kvs:am):It:=
 ⟨λi H=>H d=some (.frz o (.dK kvs))/\i<kvs.length,λi H x H'=>∃t kv,kvs[i]?=some kv/\H t=none/\x= .ref t/\H'=u9 H t (.tup [kV kv.1,kv.2]),λi H=>H d=some (.frz o (.dK kvs))/\kvs.length<=i⟩
variable {vs:List (j0×Value)}{ep:Nat}
theorem xp (D:zm P w d o kvs vs ep)(it:Addr):
  iJ P w K tg (IQ d o kvs λkv=>kV kv.1) [it] it (λi h=>h.IsKeyIter it d i vs.length ep) where
 mem:=by simp
 obj:=λi h st b hb=>by
  have e:b=it:=by simpa using hb
  subst e;obtain⟨o,e,c,dd⟩:=st;exact⟨o,e,λv z=>by rw[dd] at z;cases z⟩
 keep:=λi h h' st k=>st.at λo e=>k it (by simp) o e
 item:=by
  intro X hP hw hK hc i pins s σ H E I hf st hg;subst hP hw hK;obtain⟨S_,hi⟩:=hg;obtain⟨f0,f1,f2,f3,f4,f5⟩:=hf it (by simp);have dat:=D.at_ s.heap (I.hok d _ S_).1;have hl:=KV.length D.kv;obtain⟨kv,h_⟩:∃kv,kvs[i]?=some kv:=⟨kvs[i],by simp [hi]⟩
  obtain⟨⟨k,x⟩,hx⟩:∃p,vs[i]?=some p:=⟨vs[i]'(by lia),by simp [show i<vs.length by lia]⟩
  have TX:kv.1=k:=by
   have e1:(kvs.map (·.1))[i]?=some kv.1:=by rw[Lc,h_];rfl
   rw[KV.keys D.kv,Lc,hx] at e1;exact(Ly e1).symm
  refine wpAny_pyNext_dict_item st dat hx λkey h' E_ hit' hs'=>?_;have I1:Inv X pins σ H {s with heap:=h'}:=I.turned (t':=s.toks) (λb o hb e=>hs'.extBut b o hb e) f0 f1 f3 f4 f5;exact⟨key,rfl,vq (zh E_) ⟨kV kv.1,H,I1,by rw[TX];exact ki E_,⟨rfl,kv,h_,rfl⟩,hit',λb hb=>(hf b hb).1⟩⟩
 done:=by
  intro X hP hw hK hc i pins s σ H E I hf st hg;subst hP hw hK;obtain⟨S_,hi⟩:=hg;obtain⟨f0,f1,f2,f3,f4,f5⟩:=hf it (by simp);have dat:=D.at_ s.heap (I.hok d _ S_).1;have hl:=KV.length D.kv;exact wpAny_pyNext_dict_end (I.ok.hd hc) st dat (by simp;lia) λh' eb=>⟨rfl,I.turned (t':=s.toks) (λb o hb e=>eb b o hb e) f0 f1 f3 f4 f5⟩
 self:=λ_ _ _ _ _ st h=>wpAny_pyIter_keyiter st h
variable {elts:List Expr}{y_:Pos}
theorem tN {x1}(D:zm P w d o kvs vs ep)(it:Addr):
  iJ P w K (.Tuple elts x1 y_) (Ir d o kvs) [it] it (λi h=>∃ok ov,IsItemIter h it d i vs.length ep ok ov) where
 mem:=by simp
 obj:=λi h st b hb=>by
  have e:b=it:=by simpa using hb
  subst e;obtain⟨ok,ov,e⟩:=st;exact⟨_,e,λv z=>by
   have z':Data.fields _=Data.cell v:=z;cases z'⟩
 keep:=λi h h' st k=>let ⟨ok,ov,e⟩:=st;⟨ok,ov,k it (by simp) _ e⟩
 item:=by
  intro X hP hw hK hc i pins s σ H E I hf st hg;subst hP hw hK;obtain⟨S_,hi⟩:=hg;obtain⟨ok,ov,st⟩:=st;obtain⟨f0,f1,f2,f3,f4,f5⟩:=hf it (by simp);have dat:=D.at_ s.heap (I.hok d _ S_).1;have hl:=KV.length D.kv;obtain⟨kv,h_⟩:∃kv,kvs[i]?=some kv:=⟨kvs[i],by simp [hi]⟩
  obtain⟨⟨k,x⟩,hx⟩:∃p,vs[i]?=some p:=⟨vs[i]'(by lia),by simp [show i<vs.length by lia]⟩
  obtain⟨TX,rx⟩:kv.1=k/\RelV kv.2 x:=by
   have q:=P6 D.kv h_;obtain⟨p,hp,r⟩:=q;rw[hx] at hp;cases hp;exact r
  refine wpAny_pyNext_items_item st dat hx λkey h' E_ Ta htup hsz hk=>?_;have Uu:it<s.heap.objs.size:=Lu st;refine⟨.ref s.heap.objs.size,rfl,wpAny_letOwnedTupleGo_items (s:={s with heap:=h'}) Ta λQL hit'' hs''=>?_⟩;have Uh:Heap.SameBut it h' QL:=hs'';have kp:∀b o,b≠it->s.heap.get? b=some o->QL.get? b=some o:=λb o hb e=>Uh.extBut b o hb (hk b o hb e);have Tb:QL.get? s.heap.objs.size=some {cls:= .type "tuple",data:= .seq #[key,x]}:=Uh.extBut _ _ (Qj Uu) htup;have fresh:H s.heap.objs.size=none:=I.hok.fresh (La _);have Zq:∀b o,s.heap.get? b=some o->b≠s.heap.objs.size:=λb o e=>Lz (Lu e);have hH:∀b u,H b=some u->b≠s.heap.objs.size/\b≠it:=λb u e=>⟨d6 e fresh,d6 e f0⟩
  have hok:HOk X.prog X.w (u9 H s.heap.objs.size (.tup [kV kv.1,kv.2])) QL:=λb u e=>by
   by_cases hb:b=s.heap.objs.size
   .subst hb;rw[b5] at e;cases e;refine⟨by show 2<=sizeLine;decide,[key,x],.cons (by rw[TX];exact ki E_) (.cons rx .nil),⟨_,Tb,rfl,_,rfl⟩⟩
   .rw[b7 hb] at e;refine(I.hok b u e).stay (λc v hc q=>kp c v ?_ q) (λc q=>by rw[b7 (hH c _ q).1];exact q) λc xs q=>by rw[b7 (hH c _ q).1];exact q
    rcases hc with z|z
    .rw[z];exact(hH b _ e).2
    .exact(hH c _ z).2
  have I1:Inv X pins σ (u9 H s.heap.objs.size (.tup [kV kv.1,kv.2])) {s with heap:=QL}:=by
   refine I.call' (s':={s with heap:=QL}) (ch:=[it]) rfl ⟨λb o e n hb hx=>kp b o (by simpa using hx) e,λb o e n hb hx=>⟨o.slots,kp b o (by simpa using hx) e⟩,λb o e n hx=>by rw[b7 (Zq b o e)];exact n,
    λb o e hx=>⟨o,kp b o (by simpa using hx) e⟩,λb xs e=>by rw[b7 (hH b _ e).1];exact e,λb ob v e=>by rw[b7 (hH b _ e).1];exact e,λb ps e=>⟨#[],by rw[b7 (hH b _ e).1];simpa using e⟩⟩ hok I.bare λb hb=>?_
   have e:b=it:=by simpa using hb
   subst e;exact⟨f3,f1,f4,f5⟩
  refine⟨.ref s.heap.objs.size,_,I1,rfl,⟨_,kv,h_,fresh,rfl,rfl⟩,⟨_,_,hit''⟩,λb hb=>?_⟩;have e:b=it:=by simpa using hb
  subst e;rw[b7 (Lz Uu)];exact f0
 done:=by
  intro X hP hw hK hc i pins s σ H E I hf st hg;subst hP hw hK;obtain⟨S_,hi⟩:=hg;obtain⟨ok,ov,st⟩:=st;obtain⟨f0,f1,f2,f3,f4,f5⟩:=hf it (by simp);have dat:=D.at_ s.heap (I.hok d _ S_).1;have hl:=KV.length D.kv;exact wpAny_pyNext_items_end (I.ok.hd hc) st dat (by simp;lia) λh' eb=>⟨rfl,I.turned (t':=s.toks) (λb o hb e=>eb b o hb e) f0 f1 f3 f4 f5⟩
 self:=λ_ _ _ _ _ st h=>by
  obtain⟨ok,ov,st⟩:=st;exact PySem.W.kcp_self st h
def rIterD (mk:Addr->Obj->am->It)(v:V)(H:Hp)(R:It->(Hp->Hp)->Hp->Prop):Prop:=
 ∃d kvs,v= .ref d/\((H d=some (.dK kvs)/\((kvs.map (·.1)).Nodup->∀o,R (mk d o kvs) (thaw d) (C7 d o kvs H)))\/(∃o,H d=some (.frz o (.dK kvs))/\((kvs.map (·.1)).Nodup->R (mk d o kvs) id H)))
def rIterD.go {mk:Addr->Obj->am->It}{σ:St}{R:It->(Hp->Hp)->Hp->Prop}(I:Inv X pins σ H s)(r:RelV x u)(h:rIterD mk x H R):
  ∃d kvs o vs ep th H',u= .ref d/\(d==sysModules)=false/\s.heap.get? d=some o/\zm X.prog X.w d o kvs vs ep/\Inv X pins σ H' s/\BY X th/\R (mk d o kvs) th H':=by
 obtain⟨d,kvs,e,h⟩:=h
 subst e
 cases r
 rcases h with⟨h,q⟩|⟨o,h,q⟩
 .obtain⟨hd,o,vs,ep,ho,D⟩:=ib I.hok (.inl h)
  refine⟨d,kvs,o,vs,ep,thaw d,_,rfl,hd,ho,D,I.freeze h ho,vX λob v z=>?_,q D.nd o⟩
  have z':=I.base.frzs d ob v z
  rw[h] at z';cases z'
 .obtain⟨hd,o',vs,ep,ho,D⟩:=ib I.hok (.inr ⟨o,h⟩)
  have e:=(I.hok d _ h).1
  rw[ho] at e;cases e
  exact⟨d,kvs,_,vs,ep,id,H,rfl,hd,ho,D,I,gB,q D.nd⟩
def rIter.mono {v:V}{R R':It->Hp->Prop}(h:rIter K v H R)(k:∀J H,R J H->R' J H):rIter K v H R':=by
 rcases h with⟨a,e,hq,q⟩|⟨a,e,hq,q⟩|⟨x,e,q⟩
 .exact .inl ⟨a,e,hq,k _ _ q⟩
 .exact .inr (.inl ⟨a,e,hq,k _ _ q⟩)
 .exact .inr (.inr ⟨x,e,k _ _ q⟩)
abbrev Kd (d:Addr)(o:Obj)(kvs:am):It:=IQ d o kvs λkv=>kV kv.1
def yu (K:Qd)(v:V)(H:Hp)(R:It->(Hp->Hp)->Hp->Prop):Prop:=rIter K v H (λJ H'=>R J id H')\/rIterD Kd v H R
def IU (K:Qd)(tl:TE):qx:=λσ H R=>tl σ H λv H1=>yu K v H1 R
def Hx {l:Expr}{tl:TE}(hl:PE X l tl):zi X tg l (IU X.K tl):=by
 intro pins s σ H R I h;refine O9 (hl pins s σ H _ I h) λv s1 ⟨x,H1,I1,r1,q1⟩=>?_;rcases q1 with q1|q1
 .exact Aw I1 r1 (q1.mono λJ H' q=>⟨id,gB,q⟩)
 .obtain⟨d,kvs,o,vs,ep,th,H',rfl,hd,ho,D,I2,Sm,q⟩:=rIterD.go I1 r1 q1;refine wpAny_pyIter_dict hd (D.at_ _ ho) ?_;refine⟨s1.heap.objs.size,[s1.heap.objs.size],_,_,H',rfl,I2.kept (t':=s1.toks) λb o e=>Lk _ e,xp D _,⟨_,LC _ rfl,rfl,rfl⟩,λb hb=>?_,th,Sm,q⟩;have e:b=s1.heap.objs.size:=by simpa using hb
  subst e;exact I2.fpOk (La _) (I2.hok.fresh (La _))
def tK (tl:TE):qx:=λσ H R=>tl σ H λv H1=>rIterD Ir v H1 R
variable {c_:Pos}
def Ay {x1}{o:Expr}{tl:TE}{apos:Pos}(ho:PE X o tl)
(j_:attributeBase o "items" X.env (eval o X.env)=eval o X.env:=by rfl)(k_:(apos.endLine==c_.line)=true:=by rfl):
  zi X (.Tuple elts x1 y_) (.Call (.Attribute o "items" apos) [] [] c_) (tK tl):=by
 intro pins s σ H R I h
 refine Om j_ k_ (O9 (ho pins s σ H _ I h) λv s1 ⟨x,H1,I1,r1,q1⟩=>?_)
 obtain⟨d,kvs,ob,vs,ep,th,H',rfl,hd,Ry,D,I2,Sm,q⟩:=rIterD.go I1 r1 q1
 have Ui:=(D.at_ _ Ry).dictOf
 refine⟨"dict","dict.items",F.plainAttrs_dict,F.slot_dict_items,F.type_dict_items,Ui.typeIs,Ui.mapOf.noDict,MZ rfl (OU ?_)⟩
 refine ML F.slot_dict_items Ui.typeIs F.entry_dict_items (F.args_dict_items_1 _) (meets_dict_items (z0 X.prog X.w) d hd) ⟨⟨vs,Ui⟩,?_⟩
 have I3:Inv X pins σ H' {s1 with heap:=s1.heap.push {cls:= .type "dict_items",data:= .fields #[.ref d]}}:=I2.kept (t':=s1.toks) λb o e=>Lk _ e
 refine wpAny_pyIter_items (s:={s1 with heap:=s1.heap.push {cls:= .type "dict_items",data:= .fields #[.ref d]}}) (knd:=z0 X.prog X.w) ⟨_,LC _ rfl,rfl,rfl⟩ (D.at_ _ (Lk _ Ry)) ?_
 generalize hG:s1.heap.push {cls:= .type "dict_items",data:= .fields #[.ref d]}=G at I3⊢
 refine⟨G.objs.size,[G.objs.size],_,_,H',rfl,I3.kept (t':=s1.toks) λb o e=>Lk _ e,tN D _,⟨.none,.none,LC _ rfl⟩,λb hb=>?_,th,Sm,q⟩
 have e:b=G.objs.size:=by simpa using hb
 subst e
 exact I3.fpOk (La _) (I3.hok.fresh (La _))
section
variable {J:It} {th:Hp->Hp} {n:Nat} {g:TG} {tb:TS} {nx bk ct:St->Hp->Prop} {rt:VK} {σ:St} {H:Hp} {own:xL} {js:List Nat} {ti:TT} {te:TE} {Q:VK} {K:Qd}
theorem uI (Pv:Nat->St->Hp->Prop)(h0:Pv 0 σ H)(H_:∀i σ H,i<n->Pv i σ H->J.go i H)
(hs:∀i x σ H H',i<n->Pv i σ H->J.yld i H x H'->g x σ H' λσ2 H2=>tb ⟨Pv (i+1),λv H=>rt v (th H),λσ H=>nx σ (th H),Pv (i+1)⟩ σ2 H2)
(hd:∀σ H,Pv n σ H->J.stop n H/\nx σ (th H)):
  xb J th g tb nx rt σ H:=by
 refine⟨λi m σ H=>m=n -i/\i<=n/\Pv i σ H,⟨n,by simp,My _,h0⟩,?_⟩
 rintro i m σ H ⟨rfl,hi,p⟩
 by_cases p_:i<n
 .exact .inr ⟨H_ i σ H p_ p,Pv (i+1),λσ' H' p'=>⟨n -(i+1),by lia,rfl,p_,p'⟩,λx H' y=>hs i x σ H H' p_ p y⟩
 .have e:i=n:=by lia
  subst e
  exact .inl (hd σ H p)
theorem vD (Pv:Nat->ap->Hp->Prop)(h0:Pv 0 [] H)(H_:∀i out H,i<n->Pv i out H->J.go i H)
(hs:∀(N:ap->Hp->Prop) i x out H H',i<n->Pv i out H->J.yld i H x H'->(∀I_ H',Pv (i+1) I_ H'->N I_ H')->g x (xW own js σ) H' λσ2 H2=>σ2.drop own.length=js.map (λj=>(σ[j]?).join)/\ti σ2 H2 λb H3=>
   if b=true then te σ2 H3 λv H4=>out.length<=sizeLine/\N (out++[v]) H4 else N out H3)
(hd:∀out H,Pv n out H->J.stop n H/\∀D,H D=none->out.length<=sizeLine/\Q (.ref D) (th (u9 H D (.lst out)))):
  vM own js J th g ti te Q σ H:=by
 refine⟨λi m out H=>m=n -i/\i<=n/\Pv i out H,⟨n,by simp,My _,h0⟩,?_⟩
 rintro i m out H ⟨rfl,hi,p⟩
 by_cases p_:i<n
 .exact .inr ⟨H_ i out H p_ p,λx H' y=>hs (λI_ H'=>∃m',m'<n -i/\m'=n -(i+1)/\i+1<=n/\Pv (i+1) I_ H') i x out H H' p_ p y λI_ H' q=>⟨n -(i+1),by lia,rfl,p_,q⟩⟩
 .have e:i=n:=by lia
  subst e
  exact .inl (hd out H p)
def B6 (Pv:Nat->ap->Hp->Prop)(h0:Pv 0 [] H)(H_:∀i out H,i<n->Pv i out H->J.go i H)
(hs:∀B:(ap->Hp->Prop)->Nat->V->ap->Hp->Prop,(∀{N i x out H'},((∀I_ H',Pv (i+1) I_ H'->N I_ H')->g x (xW own js σ) H' λσ2 H2=>σ2.drop own.length=js.map (λj=>(σ[j]?).join)/\ti σ2 H2 λb H3=>if b=true then te σ2 H3 λv H4=>out.length<=sizeLine/\N (out++[v]) H4 else N out H3)->B N i x out H')->∀N i x out H H',i<n->Pv i out H->J.yld i H x H'->B N i x out H')
(hd:∀out H,Pv n out H->J.stop n H/\∀D,H D=none->out.length<=sizeLine/\Q (.ref D) (th (u9 H D (.lst out)))):vM own js J th g ti te Q σ H:=vD Pv h0 H_ (λN i x out H H' a b c d=>hs (λN i x out H'=>(∀I_ H',Pv (i+1) I_ H'->N I_ H')->g x (xW own js σ) H' λσ2 H2=>σ2.drop own.length=js.map (λj=>(σ[j]?).join)/\ti σ2 H2 λb H3=>if b=true then te σ2 H3 λv H4=>out.length<=sizeLine/\N (out++[v]) H4 else N out H3) (λh=>h) N i x out H H' a b c d) hd
def GI {wi:qx}(q:wi σ H λJ th H1=>xb J th g tb nx rt σ H1):yq wi g tb ⟨nx,rt,bk,ct⟩ σ H:=q
def Ey {wi:qx}(q:wi σ H λJ th H1=>vM own js J th g ti te Q σ H1):kQ own js wi g ti te σ H Q:=q
def Gp {Qb:Bool->Hp->Prop}(q:Qb true H):Et σ H Qb:=q
variable {R:It->(Hp->Hp)->Hp->Prop}
def JW {tl:TE}(q:tl σ H λv H1=>yu K v H1 R):IU K tl σ H R:=q
def AE {x:Str}(q:R (Its x) id H):yu K (.str x) H R:= .inl (.inr (.inr ⟨x,rfl,q⟩))
variable {a:Addr}{xs:ap}
def C6 (h:SqL K H a xs)(q:R (Itl K a) id H):yu K (.ref a) H R:= .inl (.inl ⟨a,rfl,⟨xs,h⟩,q⟩)
variable {d:Addr}{kvs:am}
def V8 (h:H d=some (.dK kvs))(q:(kvs.map (·.1)).Nodup->∀o,R (Kd d o kvs) (thaw d) (C7 d o kvs H)):yu K (.ref d) H R:=
 .inr ⟨d,kvs,rfl,.inl ⟨h,q⟩⟩
def Bn {tl:TE}(q:tl σ H λv H1=>rIterD Ir v H1 R):tK tl σ H R:=q
def L8 (h:H d=some (.dK kvs))(q:(kvs.map (·.1)).Nodup->∀o,R (Ir d o kvs) (thaw d) (C7 d o kvs H)):rIterD Ir (.ref d) H R:=⟨d,kvs,rfl,.inl ⟨h,q⟩⟩
def EO {ta:TA}{R:It->Hp->Prop}(q:ta σ H λvs H1=>∃j:Int,vs=[.int j]/\-(2 ^ 62)<=j/\j<2 ^ 62/\R (IX 0 j.toNat) H1):Ah ta σ H R:=q
theorem X4 {i:Int}{R:Int->Prop}(h0:0<=i)(h1:i<1000000)(q:R i):∃j:Int,[V.int i]=[.int j]/\-(2 ^ 62)<=j/\j<2 ^ 62/\R j:=⟨i,rfl,by lia,by lia,q⟩
variable {p A B:Prop}
theorem J6 [Decidable p](h1:p->A)(h2:¬p->B):if decide p=true then A else B:=by grind
theorem O8 [Decidable p](h1:¬p->A)(h2:p->B):if(!decide p)=true then A else B:=by grind
variable {b:Bool}
theorem Y5 (h1:b=true->A)(h2:b=false->B):if b=true then A else B:=by grind
theorem gj (h1:b=false->A)(h2:b=true->B):if(!b)=true then A else B:=by grind
def Hl (h:A):if(!false)=true then A else B:=by rw[if_pos (by rfl)];exact h
def IL (h:B):if(!true)=true then A else B:=by rw[if_neg (by decide)];exact h
def CJ {t u:TS}(P:St->Hp->Prop)(h1:∀σ H,P σ H->u ⟨nx,rt,bk,ct⟩ σ H)(h2:∀Uj:St->Hp->Prop,(∀σ H,P σ H->Uj σ H)->t ⟨Uj,rt,bk,ct⟩ σ H):jI t u ⟨nx,rt,bk,ct⟩ σ H:=h2 _ h1
def u7 {o:HO}{p:Addr}(hp:H p=none):∃H',u9 H p o=H'/\H' p=some o/\Same H H'/\∀b,b≠p->H' b=H b:=⟨_,rfl,b5,λb u e=>by rw[b7 (d6 e hp)];exact e,λb hb=>b7 hb⟩
variable {α:Type}
theorem iX {xs:List α}{i:Int}(h0:0<=i)(h1:i<xs.length):∃v,kC xs i=some v/\xs[i.toNat]?=some v:=by
 obtain⟨j,rfl⟩:=Int.eq_ofNat_of_zero_le h0;have hj:j<xs.length:=by lia
 exact⟨xs[j],j7 (by simp [hj]),by simp [hj]⟩
def hJ (x y:Str):(x++y).length=x.length+y.length:=by
 show(x.cps++y.cps).size=_;simp [Str.length]
def aN (c:Nat):(⟨#[c]⟩:Str).length=1:=rfl
def fT (x:Str):x.length=x.cps.toList.length:=by simp [Str.length]
def d8 {n:Nat}(h:n<=1000):n<=sizeLine:=LJ h (by decide)
variable {H H':Hp}
def Same.rd {u:HO}(s:Same H H')(h:Rd H a u):Rd H' a u:=by
 rcases h with h|⟨o,h⟩
 .exact .inl (s _ _ h)
 .exact .inr ⟨o,s _ _ h⟩
def Same.tup (s:Same H H')(h:SqT K H a xs):SqT K H' a xs:=by
 rcases h with h|h
 .exact .inl (s.rd h)
 .exact .inr h
variable {v:V}
def TyB.mono {t:String}(h:TyB K H v t)(s:Same H H'):TyB K H' v t:=by
 cases v with
 |ref a=>
  rcases h with⟨e,xs,h⟩|⟨e,xs,h⟩|⟨e,kvs,h⟩
  .exact .inl ⟨e,xs,s.seq h⟩
  .exact .inr (.inl ⟨e,xs,s.tup h⟩)
  .exact .inr (.inr ⟨e,kvs,s.rd h⟩)
 |_=>exact h
variable {i:Nat}
def Its.lt {x:Str}(h:(Its x).yld i H v H'):H'=H/\∃c,x.cps.toList[i]?=some c/\v=AS c:=by
 obtain⟨e,c,hc,hv⟩:=h;exact⟨e,c,by simpa using hc,hv⟩
def Itl.get (h:(Itl K a).yld i H v H')(hx:SqL K H a xs):H'=H/\xs[i]?=some v:=⟨h.1,h.2 xs hx⟩
def N5 {β:Type}{l:List α}{a:α}(f:α->β)(h:l[i]?=some a):(l.take i).map f++[f a]=(l.take (i+1)).map f:=by
 rw[LF,h];simp
end
section
variable {X:Cx} (K:Qd) {a e:Expr} {ta te:TE} {tg:Expr} {pos:Pos}
def K3 (h:X.K=K:=by rfl):OpR X (binaryOp .Add) (qS K):=h▸Bh
def kIn (hu:X.A.units+1<cLine)(h:X.K=K:=by rfl):OpR X (compareOp .In) (xH K):=h▸DV hu
def N7 (hu:X.A.units+1<cLine)(h:X.K=K:=by rfl):OpR X (compareOp .NotIn) (jS K):=h▸xI hu
def j8 (hu:X.A.units+1<cLine)(h:X.K=K:=by rfl):IxR X (mC K):=h▸Ft hu
def yX (h:X.K=K:=by rfl):SlR X (GC K):=h▸El
def xD (hc:X.calm=true)(h:X.K=K:=by rfl):CallR X (.builtin "all") (xy K):=h▸wj hc
def JM (hc:X.calm=true)(h:X.K=K:=by rfl):CallR X (.builtin "any") (Iu K):=h▸xa hc
def Dk (ta:TE):TT:=λσ H Q=>ta σ H λx H'=>∃k,ya K x H' k/\Q k H'
def Jh (ha:PE X a ta)(h:X.K=K:=by rfl)(he:∀whole,isTrue a X.env whole=(do let v←whole;standAt a.pos;holding [v] (truthy v)):=by intro _;rfl):PT X a (Dk K ta):=h▸yx ha he
def EI {σ:St}{H:Hp}{Qb:Bool->Hp->Prop}(q:ta σ H λx H'=>∃k,ya K x H' k/\Qb k H'):Dk K ta σ H Qb:=q
def Kz (hl:PE X a ta)(h:X.K=K:=by rfl):zi X tg a (IU K ta):=h▸Hx hl
def Js {es:List Expr}{k:Nat}{t:tP}{n:Nat}(hc:X.calm=true)(hg:Ba X es t)(h:X.K=K:=by rfl)
(hn:(assignEach es X.env).length=n:=by rfl)(SV:(assignEach es X.env).findIdx? (·.1)=none:=by rfl):PG X (.Tuple es k pos) (zC K n t):=h▸FE hc hg hn SV
end
def E2:Expr->Bool
 | .Starred _ _=>false
 |_=>true
def F5 (es:List Expr):Bool:=es.all E2
variable {e:Expr}{es:List Expr}
def X8 (h:E2 e=true):starEach (e::es) env=(false,eval e env)::starEach es env:=by
 cases e<;>first|rfl|cases h
theorem dB {env:Env}{pos:Pos}:∀{es:List Expr},F5 es=true->(backTo pos (starEach es env)).any (·.1)=false
 |[],_=>rfl
 |e::es,h=>by
  have h':(E2 e&&F5 es)=true:=h;rw[LN] at h';rw[X8 h'.1];show(false||(backTo pos (starEach es env)).any (·.1))=false;rw[dB h'.2];rfl
def vL (h:E2 e=true):assignEach (e::es) env=(false,assign e env)::assignEach es env:=by
 cases e<;>first|rfl|cases h
theorem yU {env:Env}:∀{es:List Expr},F5 es=true->(assignEach es env).length=es.length
 |[],_=>rfl
 |e::es,h=>by
  have h':(E2 e&&F5 es)=true:=h;rw[LN] at h';rw[vL h'.1,Mj,yU h'.2,Mj]
theorem yJ {env:Env}:∀{es:List Expr},F5 es=true->(assignEach es env).findIdx? (·.1)=none
 |[],_=>rfl
 |e::es,h=>by
  have h':(E2 e&&F5 es)=true:=h;rw[LN] at h';rw[vL h'.1,List.findIdx?_cons];simp [yJ h'.2]
section
variable {X:Cx} {K:Qd} {e:Expr} {es:List Expr} {te:TE} {t:TA} {x:Str} {p pos:Pos} {id T:String} {r:ap->Hp->VK->Prop}
def KS (ha:PE X e te)(hr:PA X es t)(h:E2 e=true:=by rfl):PA X (e::es) (vg te t):=Bi ha hr (X8 h)
def cB (hc:CallR X (.builtin id) r)(hm:X.mg x=none)(hv:bootBuiltins x=some (.builtin id))(ha:PA X (e::es) t)(hg:Gl X x:=by rfl)(hn:x≠"__name__":=by decide)(w_:(x==("__debug__":Str))=false:=by decide)
(h:F5 (e::es)=true:=by rfl):PE X (.Call (.Name x p) (e::es) [] pos) (DO r t):=by
 have h':(E2 e&&F5 es)=true:=h
 rw[LN] at h'
 exact zP hc hg hm hv ha hn w_ (X8 h'.1) (dB h'.2)
def Kq (hc:CallR X (.type T) r)(hm:X.mg x=none)(hv:bootBuiltins x=some (.type T))(ha:PA X (e::es) t)(hg:Gl X x:=by rfl)(hn:x≠"__name__":=by decide)(w_:(x==("__debug__":Str))=false:=by decide)
(h:F5 (e::es)=true:=by rfl):PE X (.Call (.Name x p) (e::es) [] pos) (DO r t):=by
 have h':(E2 e&&F5 es)=true:=h
 rw[LN] at h'
 exact wK hc hg hm hv ha hn w_ (X8 h'.1) (dB h'.2)
def cC {CX:qz}{k:Nat}{ps:xL}{r_:ap}{sp:Sp}{E:XK}(C:U8 X.prog X.w X.K X.mg X.base CX k x ps r_ sp)(hr:Room k X.A)(hx:dy CX X E)(ha:PA X (e::es) t)(hg:Gl X x:=by rfl)
(w_:(x==("__debug__":Str))=false:=by decide)(h:F5 (e::es)=true:=by rfl):PE X (.Call (.Name x p) (e::es) [] pos) (qF sp r_ E t):=by
 have h':(E2 e&&F5 es)=true:=h
 rw[LN] at h'
 exact zV C hr hx ha hg w_ (X8 h'.1) (dB h'.2)
def gT {tg:Expr}{k:Nat}{u:tP}(hc:X.calm=true)(hg:Ba X es u)(hK:X.K=K:=by rfl)(h:F5 es=true:=by rfl):PG X (.Tuple es k pos) (zC K es.length u):=Js K hc hg hK (yU h) (yJ h)
def gC {g:TG}{u:tP}(h1:PG X e g)(h2:Ba X es u)(h:E2 e=true:=by rfl):Ba X (e::es) (vA g u):=zb h1 h2 (by rw[vL h];rfl)
end
structure QE (X:Cx) (e:Expr) (t:TE):Prop where
 r:PE X e t
structure QT (X:Cx) (e:Expr) (t:TT):Prop where
 r:PT X e t
structure QW (X:Cx) (e:Expr) (t:TT):Prop where
 r:PW X e t
structure QA (X:Cx) (es:List Expr) (t:TA):Prop where
 r:PA X es t
structure QS (X:Cx) (st:Stmt) (t:TS):Prop where
 r:PS X st t
structure QSs (X:Cx) (st:List Stmt) (t:TS):Prop where
 r:PSs X st t
structure QG (X:Cx) (tg:Expr) (t:TG):Prop where
 r:PG X tg t
structure IW (X:Cx) (tg:List Expr) (t:tP):Prop where
 r:Ba X tg t
structure QI (X:Cx) (tg iter:Expr) (t:qx):Prop where
 r:zi X tg iter t
structure IV (X:Cx) (ifs:List Expr) (t:TT):Prop where
 r:uF X ifs t
structure QO (X:Cx) (e:Option Expr) (t:TO):Prop where
 r:PO X e t
structure QP (X:Cx) (pos:Pos) (keys:List (Option Expr)) (values:List Expr) (QK:List (TE×TE)):Prop where
 r:Ib X pos keys values QK
section
variable {X:Cx} {a b c e o:Expr} {es:List Expr} {ta tb tc te to:TE} {tA Ub:TT} {t:TA} {aI:List Expr} {pos apos c_ p2:Pos} {x:Str} {p:Pos} {Uv T:String}
def uv {j}:QE X (.Constant .none j pos) (tC .non):=⟨DZ⟩
def uk {b:Bool}{j}:QE X (.Constant (.bool b) j pos) (tC (.bl b)):=⟨Io⟩
def d9 {i:Int}{j}:QE X (.Constant (.int i) j pos) (tC (.int i)):=⟨Ep⟩
def jE {x:Str}{j}:QE X (.Constant (.str x) j pos) (tC (.str x)):=⟨Fp⟩
def qV (i:Nat)(hN:X.N[i]?=some x:=by rfl)(hv:JX X.env.scope x:=by first|exact Or.inl rfl|exact Or.inr (Or.inl rfl)|exact Or.inr (Or.inr rfl))(hd:(x==("__debug__":Str))=false:=by decide)
(RR:(x==("__classdict__":Str))=false:=by decide):QE X (.Name x pos) (BB i):=⟨DW hN hv hd RR⟩
def DD {v:V}(h:BL X.mg x v)(hg:Gl X x:=by rfl)(hd:(x==("__debug__":Str))=false:=by decide):QE X (.Name x pos) (tC v):=⟨FT h hg hd⟩
def Bl (n:String)(hm:X.mg x=none)(hv:bootBuiltins x=some (.type n))(hg:Gl X x:=by rfl)(hn:x≠"__name__":=by decide)(hd:(x==("__debug__":Str))=false:=by decide):QE X (.Name x pos) (tC (.ty n)):=⟨BX hg hm hv rfl hn hd⟩
def E1 {op:Operator}{r:R2}(ho:OpR X (binaryOp op) r)(ha:QE X a ta)(hb:QE X b tb):QE X (.BinOp a op b pos) (Bv r ta tb):=⟨II ho ha.r hb.r⟩
def Ja {op:UnaryOp}{r:V->Hp->VK->Prop}(ho:IZ X (unaryOp op) r)(ha:QE X a ta):QE X (.UnaryOp op a pos) (Kb r ta):=⟨GX ho ha.r⟩
def Jt (ha:QE X a ta):QE X (.UnaryOp .Not a pos) (yk ta):=⟨Fc ha.r⟩
def EN {op}(h:QE X a ta):QE X (.BoolOp op [a] pos) ta:=⟨FG h.r⟩
def DJ (ha:QE X a ta)(hb:QE X (.BoolOp .And (b::aI) pos) tb):QE X (.BoolOp .And (a::b::aI) pos) (zB ta tb):=⟨DT ha.r hb.r⟩
def KN (ha:QE X a ta)(hb:QE X (.BoolOp .Or (b::aI) pos) tb):QE X (.BoolOp .Or (a::b::aI) pos) (EB ta tb):=⟨Ig ha.r hb.r⟩
variable {op:CmpOp}
def bo {r:R2}(ho:OpR X (compareOp op) r)(ha:QE X a ta)(hb:QE X b tb)(hm:behindInMarks op b=false):QE X (.Compare a [op] [b] pos) (Bv r ta tb):=⟨Bq ho ha.r hb.r hm⟩
def u6 {r:R2}(ho:OpR X (compareOp op) r)(ha:QE X a ta)(hb:QE X b tb)(hm:behindInMarks op b=false):QT X (.Compare a [op] [b] pos) (xY (Bv r ta tb)):=⟨BS ho ha.r hb.r hm⟩
def HL (hc:QT X c tA)(ha:QE X a ta)(hb:QE X b tb):QE X (.IfExp c a b pos) (JV tA ta tb):=⟨AD hc.r ha.r hb.r⟩
def AM:QO X none pD:=⟨Cb⟩
def xU (h:QE X e te):QO X (some e) (zt te):=⟨BH h.r⟩
def zI {lo hi:Option Expr}{tl th:TO}{r:V->Option Int->Option Int->Hp->VK->Prop}(hr:SlR X r)(he:QE X e te)(hl:QO X lo tl)(hu:QO X hi th):QE X (.Subscript e (.Slice lo hi none p2) pos) (JH r te tl th):=⟨yT hr he.r hl.r hu.r⟩
def j9 {r:R2}(hr:IxR X r)(ha:QE X a ta)(hb:QE X b tb)(hs:vQ b):QE X (.Subscript a b pos) (Bv r ta tb):=⟨Ih hr ha.r hb.r hs⟩
def Q6 (h:QA X es t):QE X (.List es pos) (BJ t):=⟨FC h.r⟩
def M8 {x1}(h:QA X es t):QE X (.Tuple es x1 pos) (FD t):=⟨Dt h.r⟩
def pY:QE X (.Dict [] [] pos) Ap:=⟨zX⟩
def Kg:QP X pos [] [] []:=⟨Cr⟩
variable {QK:List (TE×TE)}
def Ke {k v:Expr}{ks:List (Option Expr)}{vs:List Expr}{tk tv:TE}(hk:QE X k tk)(hv:QE X v tv)(hr:QP X pos ks vs QK):QP X pos (some k::ks) (v::vs) ((tk,tv)::QK):=⟨zZ hk.r hv.r hr.r⟩
def Di {keys:List (Option Expr)}{values:List Expr}(h:QP X pos keys values QK)(n_:keys.all (·.isSome)=true)(hl:keys.length=values.length)(h0:keys≠[])(WR:keys.length<=15):QE X (.Dict keys values pos) (Dd QK):=⟨BG h.r n_ hl h0 WR⟩
def j4:QA X [] zT:=⟨DR⟩
def g5 (ha:QE X e te)(hr:QA X es t)(h:E2 e=true:=by rfl):QA X (e::es) (vg te t):=⟨KS ha.r hr.r h⟩
variable {r:ap->Hp->VK->Prop}
def qB (hc:CallR X (.builtin Uv) r)(hm:X.mg x=none)(hv:bootBuiltins x=some (.builtin Uv))(ha:QA X (e::es) t)(hg:Gl X x:=by rfl)(hn:x≠"__name__":=by decide)(w_:(x==("__debug__":Str))=false:=by decide)
(h:F5 (e::es)=true:=by rfl):QE X (.Call (.Name x p) (e::es) [] pos) (DO r t):=⟨cB hc hm hv ha.r hg hn w_ h⟩
def iw (hc:CallR X (.type T) r)(hm:X.mg x=none)(hv:bootBuiltins x=some (.type T))(ha:QA X (e::es) t)(hg:Gl X x:=by rfl)(hn:x≠"__name__":=by decide)(w_:(x==("__debug__":Str))=false:=by decide)
(h:F5 (e::es)=true:=by rfl):QE X (.Call (.Name x p) (e::es) [] pos) (DO r t):=⟨Kq hc hm hv ha.r hg hn w_ h⟩
def qC {CX:qz}{k:Nat}{ps:xL}{r_:ap}{sp:Sp}{E:XK}(C:U8 X.prog X.w X.K X.mg X.base CX k x ps r_ sp)(hr:Room k X.A)(hx:dy CX X E)(ha:QA X (e::es) t)(hg:Gl X x:=by rfl)
(w_:(x==("__debug__":Str))=false:=by decide)(h:F5 (e::es)=true:=by rfl):QE X (.Call (.Name x p) (e::es) [] pos) (qF sp r_ E t):=⟨cC C hr hx ha.r hg w_ h⟩
variable {r:V->ap->Hp->VK->Prop}{name:Str}
def qM (pa:PlainAttrs T)(slot:Slot T name Uv)(Ue:typeOf (.builtin Uv)=pure (.type "method_descriptor"))(hm:xV X Uv r)(K:Qd)(ho:QE X o to)(ha:QA X (e::es) t)(hK:X.K=K:=by rfl)
(j_:attributeBase o name X.env (eval o X.env)=eval o X.env:=by rfl)
(h:F5 (e::es)=true:=by rfl)(h2:decide ((e::es).length<30)=true:=by rfl)(k_:(apos.endLine==c_.line)=true:=by rfl):QE X (.Call (.Attribute o name apos) (e::es) [] c_) (JT K T r to t):=by
 have h':(E2 e&&F5 es)=true:=h
 rw[LN] at h'
 have n_:∀{l:List Expr},F5 l=true->(backTo c_ (starEach l X.env)).all (λx=>!x.1)=true:=fun{l} hl=>by
  have q:=dB (env:=X.env) (pos:=c_) hl;rw[LU];intro y hy;rw[RH] at q;simpa using q y hy
 subst hK
 refine⟨Gn pa slot Ue hm ho.r ha.r j_ ?_ k_ (X8 h'.1) (dB h'.2)⟩
 rw[n_ h]
 show(true&&true&&decide ((e::es).length+0+0<30))=true
 simpa using h2
def Gh (pa:PlainAttrs T)(slot:Slot T name Uv)(Ue:typeOf (.builtin Uv)=pure (.type "method_descriptor"))(hm:xV X Uv r)(K:Qd)(ho:QE X o to)(hK:X.K=K:=by rfl)
(j_:attributeBase o name X.env (eval o X.env)=eval o X.env:=by rfl)(k_:(apos.endLine==c_.line)=true:=by rfl):QE X (.Call (.Attribute o name apos) [] [] c_) (Ej K T r to):=⟨hK▸FV pa slot Ue hm ho.r j_ k_⟩
variable {tg iter:Expr}
def O6 {own:xL}{js:List Nat}{scope:Scope}{elt:Expr}{ifs:List Expr}{g:TG}{ti:TT}{wi:qx}(S:Gk X own js scope=true)(hc:X.calm=true)(hit:QI X tg iter wi)
(hg:∀C s H fp,QG (eU X own js scope C s H fp) tg g)(hi:∀C s H fp,IV (eU X own js scope C s H fp) ifs ti)(he:∀C s H fp,QE (eU X own js scope C s H fp) elt te)
(hs:∀x,foldedSetIterable iter X.env x=pure x:=by intro _;rfl):QE X (.ListComp elt [⟨tg,iter,ifs,0⟩] scope pos) (kQ own js wi g ti te):=
 ⟨wG S hc hit.r (λC s H fp=>(hg C s H fp).r) (λC s H fp=>(hi C s H fp).r) (λC s H fp=>(he C s H fp).r) hs⟩
def bV:IV X [] Et:=⟨Iz⟩
def eQ (h:QT X c tA):IV X [c] tA:=⟨Jn h.r⟩
def ax (ha:QT X a tA):QT X (.UnaryOp .Not a pos) (Fg tA):=⟨Em ha.r⟩
def V0 (K:Qd)(ha:QE X a ta)(h:X.K=K:=by rfl)(he:∀whole,isTrue a X.env whole=(do let v←whole;standAt a.pos;holding [v] (truthy v)):=by intro _;rfl):QT X a (Dk K ta):=⟨Jh K ha.r h he⟩
def jh (h:QW X a tA):QT X a tA:=⟨h.r.pt⟩
def Y3 (ha:QT X a tA):QW X (.BoolOp .And [a] pos) tA:=⟨BQ ha.r⟩
def bD (ha:QT X a tA):QW X (.BoolOp .Or [a] pos) tA:=⟨FY ha.r⟩
def aC (ha:QT X a tA)(hb:QW X (.BoolOp .And (b::aI) pos) Ub):QW X (.BoolOp .And (a::b::aI) pos) (DF tA Ub):=⟨FX ha.r hb.r⟩
def dm (ha:QT X a tA)(hb:QW X (.BoolOp .Or (b::aI) pos) Ub):QW X (.BoolOp .Or (a::b::aI) pos) (Ka tA Ub):=⟨Hv ha.r hb.r⟩
def K0 {i:Nat}(hN:X.N.Nodup)(hi:X.N[i]?=some x)(hx:CH X.env.scope x)(hf:X.fn x=true\/X.env.scope.names.lookup x=some .local:=by first|exact .inl rfl|exact .inr rfl|assumption):QG X (.Name x pos) (ah i):=⟨BM hN hi hx hf⟩
def jn:IW X [] Ei:=⟨BZ⟩
def V3 {g:TG}{u:tP}(h1:QG X e g)(h2:IW X es u)(h:E2 e=true:=by rfl):IW X (e::es) (vA g u):=⟨gC h1.r h2.r h⟩
def jw (K:Qd){k:Nat}{u:tP}(hc:X.calm=true)(hg:IW X es u)(hK:X.K=K:=by rfl)(h:F5 es=true:=by rfl):QG X (.Tuple es k pos) (zC K es.length u):=⟨gT (tg:= .Name Str.empty pos) hc hg.r hK h⟩
def ke {i:Expr}{ti:TE}{u:uH}(ho:QE X o to)(hi:QE X i ti)(hs:wN X u)
(ha:∀v,assign (.Subscript o i pos) X.env v=(do
   let ov←holding [v] (eval o X.env)
   let iv←holding [v,ov] (eval i X.env)
   standAt pos
   holding [v,ov,iv] (setItem ov iv v)
   release [v,ov,iv] []):=by intro _;rfl):QG X (.Subscript o i pos) (Ds to ti u):=⟨Fu ho.r hi.r hs ha⟩
def R0 (K:Qd)(hl:QE X a ta)(h:X.K=K:=by rfl):QI X tg a (IU K ta):=⟨Kz K hl.r h⟩
def Gu (wi:TI):qx:=λσ H R=>wi σ H λJ H'=>R J id H'
def IP {wi:TI}{σ:St}{H:Hp}{R:It->(Hp->Hp)->Hp->Prop}(q:wi σ H λJ H'=>R J id H'):Gu wi σ H R:=q
def kz (hm:X.mg "range"=none)(ha:QA X [a] t)(hg:Gl X "range":=by rfl)(h:E2 a=true:=by rfl):QI X tg (.Call (.Name "range" p) [a] [] pos) (Gu (Ah t)):=⟨(wc hg hm ha.r (X8 h)).two⟩
def Z2 {elts:List Expr}{x1}{y_:Pos}(ho:QE X o to)
(j_:attributeBase o "items" X.env (eval o X.env)=eval o X.env:=by rfl)(k_:(apos.endLine==c_.line)=true:=by rfl):QI X (.Tuple elts x1 y_) (.Call (.Attribute o "items" apos) [] [] c_) (tK to):=⟨Ay ho.r j_ k_⟩
variable {st:Stmt} {sts body orelse:List Stmt} {u u':TS} {g:TG}
def cH:QSs X [] zz:=⟨Cw⟩
def E6 (h:QS X st u):QSs X [st] u:=⟨Bs h.r⟩
def A9 (h1:QS X st u)(h2:QSs X sts u'):QSs X (st::sts) (jI u u'):=⟨yQ h1.r h2.r⟩
def A7 {i:Nat}{pos':Pos}(hN:X.N.Nodup)(hi:X.N[i]?=some x)(hx:CH X.env.scope x)(he:QE X e te)(hs:swapsWith e (some (.Name x pos')) pos.line X.env=pure false:=by rfl)(hf:X.fn x=true\/X.env.scope.names.lookup x=some .local:=by first|exact .inl rfl|exact .inr rfl):
  QS X (.Assign [.Name x pos'] e pos) (um te (ah i)):=⟨Fh hN hi hx he.r hs hf⟩
def R7 (he:QE X e te)(hg:QG X tg g)(hs:swapsWithSole [tg] e pos.line X.env=pure false:=by rfl)(hw:swappedStores [tg] e X.env=pure none:=by rfl)(h:E2 tg=true:=by rfl):QS X (.Assign [tg] e pos) (um te g):=
 ⟨DH he.r hg.r hs hw (by rw[vL h];rfl)⟩
def aT (hc:QT X c tA)(ht:QSs X body u)(he:QSs X orelse u'):QS X (.If c body orelse pos) (Ef tA u u'):=⟨Ia hc.r ht.r he.r⟩
def C4 (he:QE X e te):QS X (.Return (some e) pos) (zg te):=⟨EY he.r⟩
def oJ (he:QE X e te)(hs:swapsWith e none pos.line X.env=pure false:=by rfl):QS X (.Expr e pos) (yV te):=⟨Cj he.r hs⟩
def V6 {wi:qx}(hp:PassesOwn (model X.prog X.w) X.A X.env X.xe)(hc:X.calm=true)(hi:QI X tg iter wi)(hg:QG X tg g)(hb:QSs X body u)(hs:∀x,foldedSetIterable iter X.env x=pure x:=by intro _;rfl):QS X (.For tg iter body [] pos) (yq wi g u):=
 ⟨AO hp hc hi.r hg.r hb.r hs⟩
def EJ (hp:PassesOwn (model X.prog X.w) X.A X.env X.xe)(hc:QT X c tA)(hb:QSs X body u):QS X (.While c body [] pos) (zM tA u):=⟨Ag hp hc.r hb.r⟩
end
theorem cm:∀{ss:xL} {us:jp},Vals (ss.map V.str) us->StrsAre us ss
 |[],_,.nil=> .nil
 |x::ss,_,.cons r t=>by
  obtain⟨k,rfl⟩:=r;exact .cons x k (cm t)
theorem bW:∀{us:jp} {ss:xL},StrsAre us ss->Vals (ss.map V.str) us
 |_,_,.nil=> .nil
 |_,_,.cons y t r=> .cons ⟨t,rfl⟩ (bW r)
theorem aP:∀{xs:ap} {us:jp},xs.length=us.length->(∀(i:Nat) x u,xs[i]?=some x->us[i]?=some u->RelV x u)->Vals xs us
 |[],[],_,_=> .nil
 |[],_::_,h,_=>by simp at h
 |_::_,[],h,_=>by simp at h
 |x::xs,u::us,h,k=> .cons (k 0 x u rfl rfl) (aP (by simpa using h) λi y v e1 e2=>k (i+1) y v (by simpa using e1) (by simpa using e2))
variable {e tk:Nat}
def Inv.newL {σ:St}{xs:ap}{out:Array Value}(I:Inv X pins σ H s)(k:∀b u,s.heap.get? b=some u->h'.get? b=some u)(ha:s.heap.objs.size<=a)
(ho:h'.get? a=some {cls:= .type "list",data:= .seq out e})(rv:Vals xs out.toList)(hz:xs.length<=sizeLine):Inv X pins σ (u9 H a (.lst xs)) {s with heap:=h',toks:=tk}:=
 I.laid k ha ⟨hz,out.toList,e,rv,by rw[ho]⟩
def ObjOk.live {o:HO}(x:ObjOk P w H h a o):∃ob,h.get? a=some ob:=by
 cases o with
 |lst xs=>obtain⟨_,_,_,_,e⟩:=x;exact⟨_,e⟩
 |tup xs=>obtain⟨_,_,_,o,e,_⟩:=x;exact⟨_,e⟩
 |dK kvs=>obtain⟨_,_,_,_,o,_,_,e,_⟩:=x;exact⟨_,e⟩
 |dT kvs=>obtain⟨_,_,_,_,o,_,_,e,_⟩:=x;exact⟨_,e⟩
 |set S n=>obtain⟨o,_,_,_,e,_⟩:=x;exact⟨_,e⟩
 |ins C dx fs=>obtain⟨_,_,_,e,_⟩:=x;exact⟨_,e⟩
 |own y=>exact x
 |xd fs=>obtain⟨_,⟨_,_,_,e,_⟩,_⟩:=x;exact⟨_,e⟩
 |rng lo hi=>obtain⟨_,_,_,e⟩:=x;exact⟨_,e⟩
 |frz ob u=>obtain⟨e,_⟩:=x;exact⟨_,e⟩
 |tbl ps=>exact⟨_,(show h.get? a=some _ from x)⟩
 |met f y=>exact⟨_,(show h.get? a=some _ from x)⟩
 |ext φ=>obtain⟨_,e,_⟩:=x;exact e
def Inv.newN {σ:St}{xs:ap}{out:Array Value}(I:Inv X pins σ H s)(k:∀b u,s.heap.get? b=some u->h'.get? b=some u)(hn:s.heap.get? a=none)
(ho:h'.get? a=some {cls:= .type "list",data:= .seq out e})(rv:Vals xs out.toList)(hz:xs.length<=sizeLine):H a=none/\Inv X pins σ (u9 H a (.lst xs)) {s with heap:=h',toks:=tk}:=by
 have hH:H a=none:=by
  cases q:H a with
  |none=>rfl
  |some u=>
   obtain⟨ob,z⟩:=(I.hok a u q).live
   rw[hn] at z;cases z
 have na:∀b o,s.heap.get? b=some o->b≠a:=λb o z w=>by rw[w,hn] at z;cases z
 have nh:∀b u,H b=some u->b≠a:=λb u z=>d6 z hH
 refine⟨hH,I.un ⟨λb o z n _ _=>k b o z,λb o z n _ _=>⟨o.slots,k b o z⟩,λb o z n _=>by rw[b7 (na b o z)];exact n,λb o z _=>⟨o,k b o z⟩,λb ys z=>by rw[b7 (nh b _ z)];exact z,
  λb ob u z=>by rw[b7 (nh b _ z)];exact z,λb ps z=>⟨#[],by rw[b7 (nh b _ z)];simpa using z⟩⟩ λb u z=>?_⟩
 by_cases hb:b=a
 .subst hb
  rw[b5] at z;cases z
  exact⟨hz,out.toList,e,rv,by rw[ho]⟩
 .rw[b7 hb] at z
  exact(I.hok b u z).stay (λc v _ y=>k c v y) (λc y=>by rw[b7 (nh c _ y)];exact y) λc ys y=>by rw[b7 (nh c _ y)];exact y
def qh (K:Qd):ap->Hp->VK->Prop:=λxs H Q=>∃(p:Addr) (ss:xL),xs=[.ref p]/\(SqL K H p (ss.map V.str)\/∃kvs:am,Rd H p (.dK kvs)/\kvs.map (·.1)=ss.map Sum.inr)/\ss.length<64/\
 ∀Qe:xL,Qe.Perm ss->sortedS Qe=true->∀l,H l=none->Q (.ref l) (u9 H l (.lst (Qe.map V.str)))
def xP {M:Program}{vs:jp}{ss:xL}{n:Nat}{Q:XV}(ho:s.heap.get? a=some (seqObj "list" vs.toArray n))(hS:StrsAre vs ss)(Yq:vs.length<64)
(h:∀(out:Array Value) (Qe:xL),StrsAre out.toList Qe->Qe.Perm ss->sortedS Qe=true->Q .none {s with heap:=sortedHeap s.heap a vs out}):
  wpAny (model M w) A (call (.builtin "list.sort") [.ref a]) Q E s:=by
 refine OP PySem.F.slot_list_sort ⟨_,ho,rfl⟩ PySem.F.entry_list_sort ?_ (PySem.F.args_list_sort_1 _)
 refine list_sort_treeK strKind_oneLt ho hS.keysOf (λv₁ v₂ aI e=>keyKind_strs (by rw[←e];exact hS)) Yq λG' hp hs=>?_
 obtain⟨Qe,h1,h2,h3⟩:=sorted_out_str hS hp hs
 exact⟨_,rfl,h _ Qe h1 h2 h3⟩
theorem pQ (hc:X.calm=true):CallR X (.builtin "sorted") (qh X.K):=by
 intro pins s σ H xs us Q I r h;obtain⟨p,ss,rfl,hx,Yq,q⟩:=h;obtain⟨u,rfl,ru⟩:=X3 r;cases ru;have hsl:(64:Nat)<=sizeLine:=by decide
 rcases hx with hx|⟨kvs,hx,hk⟩
 .obtain⟨a_,rv,ht,hz⟩:=I.list hx;have hS:=cm rv;have hl:a_.length=ss.length:=by have:=rv.length;simpa using this.symm
  refine sorted_strs ht.isList hS (by lia) λout Qe a1 a2 a3=>?_;obtain⟨e,he⟩:=sortedAll_at s.heap a_ out;have UO:=a2.length_eq;exact⟨.ref (s.heap.objs.size+1),_,I.newL (tk:=s.toks) (λ_ _=>sortedAll_old) (NF _) he (bW a1) (by rw[KW];lia),rfl,q Qe a2 a3 _ (I.hok.fresh (NF _))⟩
 .obtain⟨hd,o,vs,ep,ho,D⟩:=ib I.hok hx;have dat:=D.at_ _ ho;have hlen:kvs.length=ss.length:=by have:=MG List.length hk;simpa using this
  have QM:=KV.length D.kv;refine Calls.call_function_entry kind_sorted plain_sorted entry_sorted (args_sorted1 _) ?_;unfold Builtin.«sorted»;refine Lj (m:=checkCount "sorted" 1 1 _) (Lw ?_);refine Lj (PySem.W.kdu_collect (A:=X.A.in1) (PySem.W.kdl_dict (knd:=z0 X.prog X.w) (kvs:=vs) (ep:=ep) hd) (I.ok.hd hc) dat (by lia) λh' tk acc hkp D_=>?_);have hl:acc.toList.length=vs.length:=by rw[Oe];exact D_.1
  have hS:StrsAre acc.toList ss:=by
   refine cm (aP (by rw[KW];lia) λi x u e1 e2=>?_);obtain⟨k,y,hy,Zr⟩:=D_.2 i u (by rw[←NO];exact e2);have e3:(kvs.map (·.1))[i]?=some k:=by rw[KV.keys D.kv,Lc,hy];rfl
   rw[hk,Lc] at e3;rw[Lc] at e1;cases e4:ss[i]? with
   |none=>rw[e4] at e1;cases e1
   |some z=>
    rw[e4] at e1 e3
    cases e1
    cases e3
    exact ki Zr
  refine Lj (wpAny_newList ?_ (by rw[hl];lia));refine Lj (Mv (xP (s:={s with heap:=h'.push {cls:= .type "list",data:= .seq acc.toList.toArray},toks:=tk}) (n:=0) (LC _ rfl) hS (by lia) λout Qe a1 a2 a3=>?_));obtain⟨e,he⟩:=sortedHeap_at (h:=h'.push {cls:= .type "list",data:= .seq acc.toList.toArray}) (a:=h'.objs.size) (vs:=acc.toList) (n:=0) (out:=out) (LC _ rfl);have i_:s.heap.get? h'.objs.size=none:=by
   cases z:s.heap.get? h'.objs.size with
   |none=>rfl
   |some ob=>exact absurd (Lu (hkp _ _ z)) (MQ _)
  have UO:=a2.length_eq;obtain⟨hH,I2⟩:=I.newN (tk:=tk) (h':=sortedHeap (h'.push {cls:= .type "list",data:= .seq acc.toList.toArray}) h'.objs.size acc.toList out) (xs:=Qe.map V.str) (λb u eb=>by
   have hb:=Lu (hkp b u eb);rw[sortedHeap_old (b:=b) (Lz hb) (by rw[QX];exact Nat.lt_succ_of_lt hb)];exact Lk _ (hkp b u eb)) i_ he (bW a1) (by rw[KW];lia)
  exact Lw ⟨_,rfl,.ref h'.objs.size,_,I2,rfl,q Qe a2 a3 _ hH⟩
def CY (K:Qd):ap->Hp->VK->Prop:=λxs H Q=>(∃p ys,xs=[.ref p]/\(SqL K H p ys\/SqT K H p ys)/\∀l,H l=none->Q (.ref l) (u9 H l (.lst ys)))\/
 (∃(p:Addr) (kvs:am),xs=[.ref p]/\Rd H p (.dK kvs)/\∀l,H l=none->Q (.ref l) (u9 H l (.lst (kvs.map λkv=>kV kv.1))))
theorem tR (hc:X.calm=true):CallR X (.type "list") (CY X.K):=by
 refine call_list_of.or ?_;intro pins s σ H xs us Q I r h;obtain⟨p,kvs,rfl,hx,q⟩:=h;obtain⟨u,rfl,ru⟩:=X3 r;cases ru;obtain⟨hd,o,vs,ep,ho,D⟩:=ib I.hok hx;have QM:=KV.length D.kv;have hz:kvs.length<=sizeLine:=(U5 I.hok hx).1;refine PySem.W.kdl_call (PySem.W.kdl_dict (knd:=z0 X.prog X.w) (kvs:=vs) (ep:=ep) hd) (I.ok.hd hc) (D.at_ _ ho) (by lia) λh' tk acc c hkp hS D_=>?_;refine⟨.ref s.heap.objs.size,_,I.newL (tk:=tk) hkp (La _) hS (aP (by have:=D_.1;simp;lia) λi x u e1 e2=>?_) (by rw[KW];exact hz),rfl,q _ (I.hok.fresh (La _))⟩;obtain⟨k,y,hy,Zr⟩:=D_.2 i u (by rw[←NO];exact e2);rw[Lc] at e1;cases e4:kvs[i]? with
 |none=>rw[e4] at e1;cases e1
 |some kv=>
  rw[e4] at e1
  cases e1
  have e3:(kvs.map (·.1))[i]?=some kv.1:=by rw[Lc,e4];rfl
  rw[KV.keys D.kv,Lc,hy] at e3
  cases e3
  exact ki Zr
def CT:ap->Hp->VK->Prop:=λxs H Q=>∃(p:Addr) (kvs:am),xs=[.ref p]/\Rd H p (.dK kvs)/\∀l,H l=none->Q (.ref l) (u9 H l (.dK kvs))
def tM:CallR X (.type "dict") CT:=by
 intro pins s σ H xs us Q I r h;obtain⟨p,kvs,rfl,hx,q⟩:=h;obtain⟨u,rfl,ru⟩:=X3 r;cases ru;exact Ao I hx λl s' hl I'=>⟨.ref l,_,I',rfl,q l hl⟩
def CI:R2:=λx y H Q=>rI CMul (λi j=> .int (i*j)) x y H Q\/(∃z n,x= .str z/\y= .int n/\z.length<=1000/\-1000<=n/\n<=1000/\Q (.str (Txt.mul z n)) H)
theorem Y9:OpR X (binaryOp .Mult) CI:=by
 refine op_mul.or ?_;intro pins s σ H x y v u Q I rx ry h;obtain⟨z,n,rfl,rfl,h1,h2,h3,q⟩:=h;obtain⟨t,rfl⟩:=rx;obtain⟨t',rfl⟩:=ry;exact SB.mul (mulOk_of 1000 1000 h1 h3 (by lia) (by decide) (by decide)) λt2 k=>⟨.str _,H,I.tok _,⟨t2,rfl⟩,q⟩
def vC:uH:=λo i v H Q=>CV o i v H Q\/(∃a H',o= .ref a/\DPut H a i v H'/\Q H')
def Bj (hu:X.A.units+1<cLine):wN X vC:=by
 intro pins s σ H o i v ov iv u Q I ro ri rv h;rcases h with h|⟨a,H',rfl,g,q⟩
 .exact yC pins s σ H o i v ov iv u Q I ro ri rv h
 .cases ro;exact wZ hu I g ri rv λs' I'=>⟨H',I',q⟩
def Inv.pairNew {σ:St}{y:V}{v:Value}(I:Inv X pins σ H s)(hf:∀b∈fp,ij X pins H b)
(kp:∀b o,b∉fp->s.heap.get? b=some o->h'.get? b=some o)(there:∀b∈fp,b<s.heap.objs.size)(tup:h'.get? s.heap.objs.size=some {cls:= .type "tuple",data:= .seq #[u,v] e})(rx:RelV x u)(ry:RelV y v):
  H s.heap.objs.size=none/\Inv X pins σ (u9 H s.heap.objs.size (.tup [x,y])) {s with heap:=h',toks:=tk}/\∀b∈fp,u9 H s.heap.objs.size (.tup [x,y]) b=none:=by
 have fresh:H s.heap.objs.size=none:=I.hok.fresh (La _)
 have Zq:∀b o,s.heap.get? b=some o->b≠s.heap.objs.size:=λb o z=>Lz (Lu z)
 have hH:∀b w,H b=some w->b≠s.heap.objs.size/\b∉fp:=λb w z=>⟨d6 z fresh,λm=>by rw[(hf b m).1] at z;cases z⟩
 have hok:HOk X.prog X.w (u9 H s.heap.objs.size (.tup [x,y])) h':=λb w z=>by
  by_cases hb:b=s.heap.objs.size
  .subst hb;rw[b5] at z;cases z;exact⟨by show 2<=sizeLine;decide,[u,v],.cons rx (.cons ry .nil),⟨_,tup,rfl,_,rfl⟩⟩
  .rw[b7 hb] at z;refine(I.hok b w z).stay (λc ob hc q=>kp c ob ?_ q) (λc q=>by rw[b7 (hH c _ q).1];exact q) λc ys q=>by rw[b7 (hH c _ q).1];exact q
   rcases hc with m|m
   .rw[m];exact(hH b _ z).2
   .exact(hH c _ m).2
 refine⟨fresh,I.call' (s':={s with heap:=h',toks:=tk}) (ch:=fp) rfl ⟨λb o z n _ hx=>kp b o hx z,λb o z n _ hx=>⟨o.slots,kp b o hx z⟩,λb o z n _=>by rw[b7 (Zq b o z)];exact n,
  λb o z hx=>⟨o,kp b o hx z⟩,λb ys z=>by rw[b7 (hH b _ z).1];exact z,λb ob w z=>by rw[b7 (hH b _ z).1];exact z,λb ps z=>⟨#[],by rw[b7 (hH b _ z).1];simpa using z⟩⟩ hok I.bare λb hb=>?_,λb hb=>?_⟩
 .obtain⟨f0,f1,f2,f3,f4,f5⟩:=hf b hb
  exact⟨f3,f1,f4,f5⟩
 .rw[b7 (Lz (there b hb))];exact(hf b hb).1
def Inv.turnedAll {σ:St}(I:Inv X pins σ H s)(hf:∀b∈fp,ij X pins H b)
(kp:∀b o,b∉fp->s.heap.get? b=some o->h'.get? b=some o):Inv X pins σ H {s with heap:=h',toks:=tk}:=by
 have hH:∀b w,H b=some w->b∉fp:=λb w z m=>by rw[(hf b m).1] at z;cases z
 refine I.call' (s':={s with heap:=h',toks:=tk}) (ch:=fp) rfl ⟨λb o z n _ hx=>kp b o hx z,λb o z n _ hx=>⟨o.slots,kp b o hx z⟩,λb o z n _=>n,
  λb o z hx=>⟨o,kp b o hx z⟩,λb ys z=>z,λb ob w z=>z,λb ps z=>⟨#[],by simpa using z⟩⟩ (λb w z=>?_) I.bare λb hb=>?_
 .refine(I.hok b w z).stay (λc ob hc q=>kp c ob ?_ q) (λc q=>q) λc ys q=>q
  rcases hc with m|m
  .rw[m];exact hH b _ z
  .exact hH c _ m
 .obtain⟨f0,f1,f2,f3,f4,f5⟩:=hf b hb
  exact⟨f3,f1,f4,f5⟩
def Jw (K:Qd)(l:Addr):It:=
 ⟨λi H=>∃xs x,SqL K H l xs/\xs[i]?=some x,λi H x H'=>∃t v,(∀xs,SqL K H l xs->xs[i]?=some v)/\H t=none/\x= .ref t/\H'=u9 H t (.tup [.int i,v]),λi H=>∃xs,SqL K H l xs/\xs.length<=i⟩
variable {l:Addr}
theorem xQ {x1}{en:Addr}(x_:en≠it):iJ P w K (.Tuple elts x1 y_) (Jw K l) [en,it] en (λi h=>∃old,IsEnum h en it i old/\h.IsListIter it l i) where
 mem:=by simp
 obj:=λi h st b hb=>by
  obtain⟨old,h1,o,e,c,d⟩:=st;have RF:b=en\/b=it:=by simpa using hb
  rcases RF with rfl|rfl
  .exact⟨_,h1,λv z=>by
    have z':Data.fields _=Data.cell v:=z;cases z'⟩
  .exact⟨o,e,λv z=>by rw[d] at z;cases z⟩
 keep:=λi h h' st k=>by
  obtain⟨old,h1,h2⟩:=st;exact⟨old,k en (by simp) _ h1,h2.at λo e=>k it (by simp) o e⟩
 item:=by
  intro X hP hw hK hc i pins s σ H E I hf st hg;subst hP hw hK;obtain⟨old,Tc,K_⟩:=st;obtain⟨xs,x,hq,hx⟩:=hg;obtain⟨a_,rv,p,hz⟩:=I.list hq;obtain⟨u,hu,ru⟩:=rv.get hx;have Td:en<s.heap.objs.size:=Lu Tc;have hit:it<s.heap.objs.size:=by obtain⟨o,e,_⟩:=K_;exact Lu e
  refine wpAny_pyNext_enum_item Tc K_ p.isList (x:=u) (by simpa using hu) x_ λh' Ur hit1 ht1 Zs Vb=>?_;refine⟨.ref s.heap.objs.size,rfl,wpAny_letOwnedTupleGo_enum (s:={s with heap:=h',toks:=s.toks+1}) Ur λQL he'' hs''=>?_⟩;have Uh:Heap.SameBut en h' QL:=hs'';have Tb:QL.get? s.heap.objs.size=some {cls:= .type "tuple",data:= .seq #[.int i s.toks,u]}:=Uh.extBut _ _ (Qj Td) ht1;obtain⟨fr,I1,fr2⟩:=I.pairNew (fp:=[en,it]) (h':=QL) (tk:=s.toks+1) (x:= .int i) (y:=x) hf (λb o hb e=>by
   have RF:b≠en/\b≠it:=by simpa using hb
   exact Uh.extBut b o RF.1 (Vb b o RF.1 RF.2 e)) (λb hb=>by
   have RF:b=en\/b=it:=by simpa using hb
   rcases RF with rfl|rfl
   .exact Td
   .exact hit) Tb ⟨_,rfl⟩ ru
  refine⟨.ref s.heap.objs.size,_,I1,rfl,⟨_,x,λys hy=>by rw[I.list_inj hy hq];exact hx,fr,rfl,rfl⟩,⟨_,he'',?_⟩,fr2⟩;exact hit1.at λo e=>Uh.extBut it o (MY x_) e
 done:=by
  intro X hP hw hK hc i pins s σ H E I hf st hg;subst hP hw hK;obtain⟨old,Tc,K_⟩:=st;obtain⟨xs,hq,hx⟩:=hg;obtain⟨a_,rv,p,hz⟩:=I.list hq;have hl:=rv.length;exact wpAny_pyNext_enum_end (I.ok.hd hc) Tc K_ p.isList (by simp;lia) λh' eb=>⟨rfl,I.turnedAll (fp:=[en,it]) (tk:=s.toks) hf λb o hb e=>eb b o (by
   have RF:b≠en/\b≠it:=by simpa using hb
   exact RF.2) e⟩
 self:=λ_ _ _ _ _ st h=>by
  obtain⟨old,Tc,K_⟩:=st;exact wpAny_pyIter_enum Tc h
section
variable {X:Cx} {a b:Expr} {t:TA} {p pos:Pos}
end
section
variable {X:Cx} {a b:Expr} {t:TA} {p pos:Pos}
end
section
variable {X:Cx} (K:Qd) {a b:Expr} {t:TA} {p pos:Pos}
def Q5 (hc:X.calm=true)(h:X.K=K:=by rfl):CallR X (.builtin "sorted") (qh K):=h▸pQ hc
end
def A6:xV X "list.append" uN:=xu
section
variable {K:Qd} {σ:St} {H:Hp} {Q:VK}
variable {p:Addr}{kvs:am}
def D0 {ss:xL}(h:Rd H p (.dK kvs))(hk:kvs.map (·.1)=ss.map Sum.inr)(Yq:ss.length<64)(q:∀Qe:xL,Qe.Perm ss->sortedS Qe=true->∀l H2,H l=none->Same H H2->H2 l=some (.lst (Qe.map V.str))->Q (.ref l) H2):qh K [.ref p] H Q:=⟨p,ss,rfl,.inr ⟨kvs,h,hk⟩,Yq,λs z1 z2 l n=>q s z1 z2 l _ n (nwS n) b5⟩
def xB {i j:Int}(h:CMul i j)(q:Q (.int (i*j)) H):CI (.int i) (.int j) H Q:= .inl ⟨i,j,rfl,rfl,h,q⟩
variable {to:TE}{v:V}
def Dy {ti:TE}{t:uH}{Qs:St->Hp->Prop}(q:to σ H λo H1=>ti σ H1 λi H2=>t o i v H2 λH3=>Qs σ H3):Ds to ti t v σ H Qs:=q
variable {a:Addr}
def C5 {k:j0}{Qh:Hp->Prop}(h:H a=some (.dK kvs))(hl:kvs.length<sizeLine)(q:Qh (u9 H a (.dK (F7 kvs k v)))):vC (.ref a) (kV k) v H Qh:= .inr ⟨a,_,rfl,DPut.k h hl,q⟩
variable {xs:ap}
def K2 {n:Nat}{t:tP}{Qs:St->Hp->Prop}(h:SqT K H a xs)(hl:xs.length=n)(q:t xs σ H Qs):zC K n t (.ref a) σ H Qs:=⟨a,xs,rfl,h,hl,q⟩
def Br {t:TG}{u:tP}{r:ap}{Qs:St->Hp->Prop}(q:t v σ H λσ' H'=>u r σ' H' Qs):vA t u (v::r) σ H Qs:=⟨v,r,rfl,q⟩
def Fq {Qs:St->Hp->Prop}(q:Qs σ H):Ei [] σ H Qs:=⟨rfl,q⟩
variable {r:V->ap->Hp->VK->Prop}{T:String}
def JK {t:TA}(q:to σ H λx H1=>Il K T x H1/\t σ H1 λxs H2=>r x xs H2 Q):JT K T r to t σ H Q:=q
def Iw (q:to σ H λx H1=>Il K T x H1/\r x [] H1 Q):Ej K T r to σ H Q:=q
variable {x:V}{o:Option V}
def az (g:DGet H p x o)(q:Q (.bl o.isSome) H):xH K x (.ref p) H Q:= .inr (.inr ⟨p,o,rfl,g,q⟩)
def O7 (g:DGet H p x o)(q:Q (.bl (!o.isSome)) H):jS K x (.ref p) H Q:= .inr (.inr ⟨p,o,rfl,g,q⟩)
def qL (h:SqL K H p xs\/SqT K H p xs)(h1:K7 x=true)(h2:xs.all K7=true)(q:Q (.bl (HJ x xs)) H):xH K x (.ref p) H Q:= .inr (.inl ⟨p,xs,rfl,h,h1,h2,q⟩)
def ic {lo hi:Option Int}(h:SqT K H p xs)(hw:¬(HT.sIx xs.length 0 lo=0/\HT.sIx xs.length xs.length hi=xs.length))(q:∀p,H p=none->Q (.ref p) (u9 H p (.tup (bj xs lo hi)))):GC K (.ref p) lo hi H Q:= .inr (.inl ⟨p,xs,rfl,h,hw,q⟩)
def J2 {k:j0}(e:Rd H a (.dK kvs)):DGet H a (kV k) (A8 kvs k):= .inl ⟨kvs,k,e,rfl,rfl⟩
end
open PySem.AutoSeq1 (wpAny_loadPart')
def EqP (P:Program)(w:World)(A:Around)(s:Shared)(y x:Value)(b:Bool):Prop:=∀(E:XV) (Q:Bool->Shared->Prop),Q b s->wpAny (model P w) A (eqBool y x) Q E s
def RcP (P:Program)(w:World)(A:Around)(s:Shared)(y x:Value)(b:Bool):Prop:=∀(E:XV) (Q:XV),Q (.bool b) s->wpAny (model P w) A (richCompare .Eq y x) Q E s
def EqP.of {y x:Value}{b:Bool}(h:SeqAt.EqAt A s y x b):EqP P w A s y x b:=λE Q q=>h P w E Q q
variable {m:Addr}
def EqP.refs {k:Bool}(x_:l≠m)(h:RcP P w A s (.ref l) (.ref m) k):EqP P w A s (.ref l) (.ref m) k:=λE Q q=>by
 unfold eqBool;refine Mv (wpAny_ite_split (λz=>absurd (Value.ref.inj (eq_of_beq z)) x_) λ_=>Lj (h E _ (Na q)))
def DE (l m:Addr)(xs ys:Array Value)(n1 n2:Nat)(d1 d2:Option Addr)(s1 s2:Array ad)(f:Nat->Bool):
  MeetsIn P w (Builtin.«tuple.__eq__» ⟨[.ref l,.ref m],[]⟩) (λA R s=>
   s.heap.get? l=some {cls:= .type "tuple",dict:=d1,data:= .seq xs n1,slots:=s1}/\s.heap.get? m=some {cls:= .type "tuple",dict:=d2,data:= .seq ys n2,slots:=s2}/\
   (∀j (g1:j<xs.size) (g2:j<ys.size),EqP P w A.in1 s xs[j] ys[j] (f j))/\
   R (.ok (.ret (.bool ((List.range (min xs.size ys.size)).all f&&xs.size==ys.size)))) s):=
 .of_wp λA R s hyp=>by
  obtain⟨hp,gg,dr,tk,os⟩:=s;obtain⟨e1,e2,he,fin⟩:=hyp;have sub:=Pq;have len:(xs.toList.zip ys.toList).length=min xs.size ys.size:=by simp
  wp_walk using wpAny_loadPart' e1,wpAny_loadPart' e2,wpAny_forIn_list _ (λmore acc st=>acc.1=none/\st=⟨hp,gg,dr,tk,os⟩/\∃i,more=(xs.toList.zip ys.toList).drop i/\
   R (.ok (.ret (.bool (((List.range (min xs.size ys.size)).drop i).all f&&xs.size==ys.size)))) ⟨hp,gg,dr,tk,os⟩) _
  case turn=>
   rintro⟨y,x⟩ more acc st ⟨ha,rfl,i,hi,hR⟩
   have lt:i<(xs.toList.zip ys.toList).length:=by
    rcases Nn i (xs.toList.zip ys.toList).length with z|z
    .exact z
    .rw[NJ z] at hi;cases hi
   have lm:i<min xs.size ys.size:=len▸lt
   have lx:i<xs.size:=Lv lm (Nat.min_le_left _ _)
   have ly:i<ys.size:=Lv lm (PK _ _)
   rw[ME lt] at hi
   injection hi with h1 h2
   have q1:y=xs[i]:=by simpa using MG Prod.fst h1
   have q2:x=ys[i]:=by simpa using MG Prod.snd h1
   subst q1 q2
   have Zt:(List.range (min xs.size ys.size)).drop i=i::(List.range (min xs.size ys.size)).drop (i+1):=by simp [ME,lm]
   rw[Zt,NB] at hR
   refine Lj (he i lx ly _ _ ?_)
   cases hf:f i with
   |true=>
    rw[hf] at hR
    wp_walk
    exact⟨rfl,rfl,i+1,h2,by simpa using hR⟩
   |false=>
    rw[hf] at hR
    wp_walk
    exact⟨_,rfl,by simpa using hR⟩
  case fin=>
   rintro⟨c1,c2⟩ st ⟨ha,rfl,i,hi,hR⟩
   simp only at ha
   subst ha
   have ge:min xs.size ys.size<=i:=by
    rcases Nn i (xs.toList.zip ys.toList).length with z|z
    .rw[ME z] at hi;cases hi
    .exact len▸z
   rw[NJ (by simpa using ge)] at hR
   wp_walk
   exact⟨_,rfl,by simpa [Builtin.Tuple.tupleCompareSizes] using hR⟩
  case h=>
   exact⟨rfl,rfl,0,rfl,by simpa using fin⟩
variable {f:Nat->Bool}
def RcP.tup {xs ys:Array Value}(hl:s.heap.IsTuple l xs)(hm:s.heap.IsTuple m ys)(hu:A.units<cLine)
(he:∀j (g1:j<xs.size) (g2:j<ys.size),EqP P w A.in1 s xs[j] ys[j] (f j)):RcP P w A s (.ref l) (.ref m) ((List.range (min xs.size ys.size)).all f&&xs.size==ys.size):=λE Q q=>by
 obtain⟨⟨c1,d1,a1,s1⟩,o1,k1,n1,t1⟩:=id hl
 obtain⟨⟨c2,d2,a2,s2⟩,o2,k2,n2,t2⟩:=id hm
 simp only at k1 t1 k2 t2
 subst k1 t1 k2 t2
 refine MM (op:= .Eq) ⟨_,o1,rfl⟩ ⟨_,o2,rfl⟩ Qt (ML Qt ⟨_,o1,rfl⟩ PySem.F.entry_tuple_eq (PySem.F.args_tuple_eq_2 _ _) (DE l m xs ys n1 n2 d1 d2 s1 s2 f) ⟨o1,o2,he,?_⟩) hu
 exact⟨(λz=>nomatch z),q⟩
def V1:ap->ap->Bool
 |[],[]=>true
 |x::xs,y::ys=>eV x y&&V1 xs ys
 |_,_=>false
inductive Eq1 (K:Qd) (H:Hp):V->V->Bool->Prop
 |flat {x y:V}:K7 x=true->K7 y=true->Eq1 K H x y (eV x y)
 |tup {a b:Addr} {xs ys:ap}:SqT K H a xs->SqT K H b ys->xs.all K7=true->ys.all K7=true->Eq1 K H (.ref a) (.ref b) (V1 xs ys)
 |nt {a:Addr} {xs:ap}:SqT K H a xs->Eq1 K H .non (.ref a) false
 |tn {a:Addr} {xs:ap}:SqT K H a xs->Eq1 K H (.ref a) .non false
theorem hZ:∀{x:V},K7 x=true->eV x x=true
 | .non,_=>rfl
 | .bl b,_=>by simp [eV]
 | .int i,_=>by simp [eV]
 | .str x,_=>by simp [eV]
theorem eM:∀{xs:ap},xs.all K7=true->V1 xs xs=true
 |[],_=>rfl
 |x::xs,h=>by
  rw[NB,LN] at h;show(eV x x&&V1 xs xs)=true;rw[hZ h.1,eM h.2];rfl
theorem Y4:∀(xs ys:ap),((List.range (min xs.length ys.length)).all (λj=>eV (xs.getD j .non) (ys.getD j .non))&&xs.length==ys.length)=V1 xs ys
 |[],[]=>rfl
 |[],_::_=>by simp [V1]
 |_::_,[]=>by simp [V1]
 |x::xs,y::ys=>by
  have ih:=Y4 xs ys;have e:min (x::xs).length (y::ys).length=min xs.length ys.length+1:=by simp
  rw[e,OB,NB,Nk];show((eV x y&&(List.range (min xs.length ys.length)).all _)&&(xs.length+1==ys.length+1))=(eV x y&&V1 xs ys);rw[←ih,Bool.and_assoc];congr 1;congr 1;simp
section
variable {X:Cx} {pins:XL} {σ:St} {H:Hp} {s:Shared} {A:Around}
theorem Eq1.at_ {x y:V}{u v:Value}{b:Bool}(I:Inv X pins σ H s)(h:Eq1 X.K H x y b)(rx:RelV x u)(ry:RelV y v)(hu:A.units+8<cLine):SeqAt.EqAt A s u v b:=by
 cases h with
 |flat fx fy=>exact fU rx ry fx fy
 | @tup a c xs ys ha hc fx fy=>
  cases rx
  cases ry
  obtain⟨a_,r1,p1,z1⟩:=I.tuple ha
  obtain⟨its',r2,p2,z2⟩:=I.tuple hc
  by_cases hac:a=c
  .subst hac
   have e:=I.tuple_inj ha hc
   subst e
   rw[eM fx]
   exact OT _
  .have l1:=r1.length
   have l2:=r2.length
   have q:=SeqAt.RcAt.tuples (A:=A) (e:=λj=>eV (xs.getD j .non) (ys.getD j .non)) (show s.heap.IsTuple a a_.toArray from p1) (show s.heap.IsTuple c its'.toArray from p2) (by lia) λj g1 g2=>by
    have RY:j<a_.length:=by simpa using g1
    have RZ:j<its'.length:=by simpa using g2
    have x1:xs[j]?=some (xs[j]'(by lia)):=by simp [show j<xs.length by lia]
    have y1:ys[j]?=some (ys[j]'(by lia)):=by simp [show j<ys.length by lia]
    obtain⟨u1,Te,Tf⟩:=r1.get x1;obtain⟨u2,RG,Tg⟩:=r2.get y1;have e1:a_.toArray[j]=u1:=by
     have:=KY RY;rw[Te] at this;simpa using(Ly this).symm
    have e2:its'.toArray[j]=u2:=by
     have:=KY RZ;rw[RG] at this;simpa using(Ly this).symm
    rw[e1,e2];have d1:xs.getD j .non=xs[j]'(by lia):=by rw[LL,x1];rfl
    have d2:ys.getD j .non=ys[j]'(by lia):=by rw[LL,y1];rfl
    rw[d1,d2];exact fU Tf Tg (LU.mp fx _ (LH _)) (LU.mp fy _ (LH _))
   have e3:a_.toArray.size=xs.length:=by simp [l1]
   have e4:its'.toArray.size=ys.length:=by simp [l2]
   rw[e3,e4,Y4] at q
   exact .of_refs hac q
 | @nt a xs ha=>
  cases rx
  cases ry
  obtain⟨a_,r1,p1,z1⟩:=I.tuple ha
  exact SeqAt.EqAt.none_tuple (show s.heap.IsTuple a a_.toArray from p1) (by lia)
 | @tn a xs ha=>
  cases rx
  cases ry
  obtain⟨a_,r1,p1,z1⟩:=I.tuple ha
  exact SeqAt.EqAt.tuple_none (show s.heap.IsTuple a a_.toArray from p1) (by lia)
end
inductive EqH (K:Qd) (H:Hp) (kb:am):am->Bool->Prop
 |nil:EqH K H kb [] true
 |miss {k:j0} {v:V} {r:am}:A8 kb k=none->EqH K H kb ((k,v)::r) false
 |hit {k:j0} {v y:V} {r:am} {e b:Bool}:A8 kb k=some y->Eq1 K H v y e->EqH K H kb r b->EqH K H kb ((k,v)::r) (e&&b)
def EqD (K:Qd)(H:Hp)(a b:Addr)(r:Bool):Prop:=(a=b/\r=true)\/(a≠b/\∃ka kb r0,Rd H a (.dK ka)/\Rd H b (.dK kb)/\EqH K H kb ka r0/\r=(ka.length==kb.length&&r0))
section
variable {X:Cx} {pins:XL} {σ:St} {H:Hp} {s:Shared} {A:Around}
variable {r:Bool}
def EqH.hits {kb:am}{vb:List (j0×Value)}(I:Inv X pins σ H s)(hu:A.units+8<cLine)(rb:KV kb vb){ka:am}(h:EqH X.K H kb ka r):∀{va:List (j0×Value)},KV ka va->PySem.W.KeqHits A s vb va r:=by
 induction h with
 |nil=>
  intro va t
  cases t
  exact .nil
 | @miss k v r hn=>
  intro va t
  cases t with
  | @cons _ q _ l e t=>
   obtain⟨k',u⟩:=q
   have Xb:k=k':=e.1
   subst Xb
   refine .miss ?_
   have z:=KV.val rb k
   rw[hn] at z
   cases e:valueAt vb k with
   |none=>rfl
   |some y=>rw[e] at z;exact False.elim z
 | @hit k v y r e b hy h1 hr ih=>
  intro va t
  cases t with
  | @cons _ q _ l e t=>
   obtain⟨k',u⟩:=q
   have Xb:k=k':=e.1
   subst Xb
   have z:=KV.val rb k
   rw[hy] at z
   cases e5:valueAt vb k with
   |none=>rw[e5] at z;exact False.elim z
   |some y'=>
    rw[e5] at z
    exact .hit e5 (h1.at_ I e.2 z hu) (ih t)
theorem EqD.at_ {a b:Addr}(I:Inv X pins σ H s)(h:EqD X.K H a b r)(hu:A.units+16<cLine):EqP X.prog X.w A s (.ref a) (.ref b) r:=by
 rcases h with⟨rfl,rfl⟩|⟨x_,ka,kb,r0,h1,h2,h3,rfl⟩
 .exact .of (OT _)
 .obtain⟨z1,d1,va,ra,da⟩:=U5 I.hok h1;obtain⟨z2,d2,vb,rb,db⟩:=U5 I.hok h2;refine .refs x_ λE Q q=>?_;have l1:=KV.length ra;have l2:=KV.length rb;exact PySem.W.keq_eq (knd:=z0 X.prog X.w) d1 d2 da db (by lia) (λ_=>h3.hits (A:=A.in1) I (by show A.units+1+8<_;lia) rb ra) (by rw[←l1,←l2];exact q)
def IE (K:Qd):R2:=λx y H Q=>∃a b p q p' q' r r',x= .ref a/\y= .ref b/\SqT K H a [.ref p,.ref q]/\SqT K H b [.ref p',.ref q']/\EqD K H p p' r/\EqD K H q q' r'/\Q (.bl (r&&r')) H
theorem Dw (hu:X.A.units+64<cLine):OpR X (compareOp .Eq) (IE X.K):=by
 intro pins s σ H x y v u Q I rx ry h;obtain⟨a,b,p,q,p',q',r,r',rfl,rfl,ha,hb,h1,h2,k⟩:=h;cases rx;cases ry;obtain⟨a_,v1,t1,_⟩:=I.tuple ha;obtain⟨its',v2,t2,_⟩:=I.tuple hb;obtain⟨_,_,rfl,e1,e2⟩:=gy v1;obtain⟨_,_,rfl,e3,e4⟩:=gy v2;cases e1;cases e2;cases e3;cases e4;refine RcP.tup (P:=X.prog) (w:=X.w) (f:=λj=>if j=0 then r else r') (show s.heap.IsTuple a _ from t1) (show s.heap.IsTuple b _ from t2) (by lia) (λj g1 g2=>?_) _ _ ⟨.bl (r&&r'),H,I,by show Value.bool _=Value.bool _;simp [Nv],k⟩;have g:j<2:=by simpa using g1
 match j,g with
 |0,_=>exact h1.at_ I (by show X.A.units+1+16<_;lia)
 |1,_=>exact h2.at_ I (by show X.A.units+1+16<_;lia)
def Gq (K:Qd):R2:=λx y H Q=>∃a b xs ys,x= .ref a/\y= .ref b/\SqL K H a xs/\SqL K H b ys/\xs.all K7=true/\ys.all K7=true/\Q (.bl (V1 xs ys)) H
theorem gu:∀{xs ys:ap},xs.length≠ys.length->V1 xs ys=false
 |[],[],h=>absurd rfl h
 |[],_::_,_=>rfl
 |_::_,[],_=>rfl
 |x::xs,y::ys,h=>by
  show(eV x y&&V1 xs ys)=false;rw[gu (by simpa using h),Bool.and_false]
theorem Ea (hu:X.A.units+64<cLine):OpR X (compareOp .Eq) (Gq X.K):=by
 intro pins s σ H x y v u Q I rx ry h;obtain⟨a,b,xs,ys,rfl,rfl,ha,hb,fx,fy,k⟩:=h;cases rx;cases ry;obtain⟨a_,r1,p1,z1⟩:=I.list ha;obtain⟨its',r2,p2,z2⟩:=I.list hb;have l1:=r1.length;have l2:=r2.length;have e3:a_.toArray.size=xs.length:=by simp [l1]
 have e4:its'.toArray.size=ys.length:=by simp [l2]
 by_cases hl:xs.length=ys.length
 .have q:=SeqAt.RcAt.lists (A:=X.A) (e:=λj=>eV (xs.getD j .non) (ys.getD j .non)) p1.isList p2.isList (by rw[e3,e4];exact hl) (by lia) λj g1 g2=>by
   have RY:j<a_.length:=by simpa using g1
   have RZ:j<its'.length:=by simpa using g2
   have x1:xs[j]?=some (xs[j]'(by lia)):=by simp [show j<xs.length by lia]
   have y1:ys[j]?=some (ys[j]'(by lia)):=by simp [show j<ys.length by lia]
   obtain⟨u1,Te,Tf⟩:=r1.get x1;obtain⟨u2,RG,Tg⟩:=r2.get y1;have e1:a_.toArray[j]=u1:=by
    have:=KY RY;rw[Te] at this;simpa using(Ly this).symm
   have e2:its'.toArray[j]=u2:=by
    have:=KY RZ;rw[RG] at this;simpa using(Ly this).symm
   rw[e1,e2];have d1:xs.getD j .non=xs[j]'(by lia):=by rw[LL,x1];rfl
   have d2:ys.getD j .non=ys[j]'(by lia):=by rw[LL,y1];rfl
   rw[d1,d2];exact fU Tf Tg (LU.mp fx _ (LH _)) (LU.mp fy _ (LH _))
  have e5:=Y4 xs ys;rw[hl,Nat.min_self,PQ,Ov] at e5;rw[e3,hl,e5] at q;exact q X.prog X.w _ _ ⟨.bl _,H,I,rfl,k⟩
 .refine Pr (A:=X.A) p1.isList p2.isList (by rw[e3,e4];simpa using hl) (by lia) X.prog X.w _ _ ⟨.bl _,H,I,?_,k⟩;rw[gu hl];rfl
def Ij (K:Qd):R2:=λx y H Q=>(∃a b xs ys,x= .ref a/\y= .ref b/\SqT K H a xs/\SqT K H b ys/\xs.all K7=true/\ys.all K7=true/\Q (.bl (V1 xs ys)) H)\/(∃a xs,x= .non/\y= .ref a/\SqT K H a xs/\Q (.bl false) H)
theorem Fy (hu:X.A.units+64<cLine):OpR X (compareOp .Eq) (Ij X.K):=by
 intro pins s σ H x y v u Q I rx ry h;rcases h with⟨a,b,xs,ys,rfl,rfl,ha,hb,fx,fy,k⟩|⟨a,xs,rfl,rfl,ha,k⟩
 .cases rx;cases ry;obtain⟨a_,r1,p1,z1⟩:=I.tuple ha;obtain⟨its',r2,p2,z2⟩:=I.tuple hb;have l1:=r1.length;have l2:=r2.length;have q:=SeqAt.RcAt.tuples (A:=X.A) (e:=λj=>eV (xs.getD j .non) (ys.getD j .non)) (show s.heap.IsTuple a a_.toArray from p1) (show s.heap.IsTuple b its'.toArray from p2) (by lia) λj g1 g2=>by
   have RY:j<a_.length:=by simpa using g1
   have RZ:j<its'.length:=by simpa using g2
   have x1:xs[j]?=some (xs[j]'(by lia)):=by simp [show j<xs.length by lia]
   have y1:ys[j]?=some (ys[j]'(by lia)):=by simp [show j<ys.length by lia]
   obtain⟨u1,Te,Tf⟩:=r1.get x1;obtain⟨u2,RG,Tg⟩:=r2.get y1;have e1:a_.toArray[j]=u1:=by
    have:=KY RY;rw[Te] at this;simpa using(Ly this).symm
   have e2:its'.toArray[j]=u2:=by
    have:=KY RZ;rw[RG] at this;simpa using(Ly this).symm
   rw[e1,e2];have d1:xs.getD j .non=xs[j]'(by lia):=by rw[LL,x1];rfl
   have d2:ys.getD j .non=ys[j]'(by lia):=by rw[LL,y1];rfl
   rw[d1,d2];exact fU Tf Tg (LU.mp fx _ (LH _)) (LU.mp fy _ (LH _))
  have e3:a_.toArray.size=xs.length:=by simp [l1]
  have e4:its'.toArray.size=ys.length:=by simp [l2]
  rw[e3,e4,Y4] at q;exact q X.prog X.w _ _ ⟨.bl _,H,I,rfl,k⟩
 .cases rx;cases ry;obtain⟨a_,r1,p1,z1⟩:=I.tuple ha;exact SeqAt.RcAt.none_tuple (A:=X.A) (show s.heap.IsTuple a a_.toArray from p1) (by lia) X.prog X.w _ _ ⟨.bl false,H,I,rfl,k⟩
def me (K:Qd):R2:=λx y H Q=>Je x y H Q\/Gq K x y H Q\/Ij K x y H Q\/IE K x y H Q
def KD (K:Qd){k:Nat}(hr:Room k X.A)(h:X.K=K:=by rfl):OpR X (compareOp .Eq) (me K):=h▸op_eq.or ((Ea hr.units).or ((Fy hr.units).or (Dw hr.units)))
end
variable {Q:VK}
def yt {i j:Int}(q:Q (.bl (decide (i=j))) H):me K (.int i) (.int j) H Q:= .inl (qE q)
def Ai {i j:Str}(q:Q (.bl (decide (i=j))) H):me K (.str i) (.str j) H Q:= .inl (qH q)
variable {b:Addr}
def kO {xs ys:ap}(ha:SqL K H a xs)(hb:SqL K H b ys)(fx:xs.all K7=true)(fy:ys.all K7=true)(q:Q (.bl (V1 xs ys)) H):me K (.ref a) (.ref b) H Q:= .inr (.inl ⟨a,b,xs,ys,rfl,rfl,ha,hb,fx,fy,q⟩)
def sC {xs ys:ap}(ha:SqT K H a xs)(hb:SqT K H b ys)(fx:xs.all K7=true)(fy:ys.all K7=true)(q:Q (.bl (V1 xs ys)) H):me K (.ref a) (.ref b) H Q:= .inr (.inr (.inl (.inl ⟨a,b,xs,ys,rfl,rfl,ha,hb,fx,fy,q⟩)))
variable {p:Addr}
def AI {q p' q':Addr}{r r':Bool}(ha:SqT K H a [.ref p,.ref q])(hb:SqT K H b [.ref p',.ref q'])(h1:EqD K H p p' r)(h2:EqD K H q q' r')(k:Q (.bl (r&&r')) H):me K (.ref a) (.ref b) H Q:= .inr (.inr (.inr ⟨a,b,p,q,p',q',r,r',rfl,rfl,ha,hb,h1,h2,k⟩))
section
variable {K:Qd} {σ:St} {H H' H1:Hp} {Q:VK} {d:Addr} {kvs:am} {o:Obj}
def qI {i j:Int}(q:Q (.bl (!decide (i=j))) H):Jm (.int i) (.int j) H Q:=⟨rfl,by rw[jW];rw[show(i==j)=decide (i=j) from OL i j];exact q⟩
def Jx {r:V->Hp->VK->Prop}{ta:TE}(q:ta σ H λx H1=>r x H1 Q):Kb r ta σ H Q:=q
def IA {i:Int}(q:Q (.int (-i)) H):rU (λi=> .int (-i)) (.int i) H Q:=⟨i,rfl,q⟩
def nf:HO->Bool
 | .frz _ _=>false
 |_=>true
def Le (H H':Hp):Prop:=∀a u,nf u=true->Rd H a u->Rd H' a u
def Le.trans (a:Le H H1)(b:Le H1 H'):Le H H':=λx u n h=>b x u n (a x u n h)
def Same.le (s:Same H H'):Le H H':=λa u _ h=>s.rd h
def N4 (h:H d=some (.dK kvs)):Le H (C7 d o kvs H):=λa u n r=>by
 by_cases e:a=d
 .subst e;rcases r with r|⟨o',r⟩
  .rw[h] at r;cases r;exact .inr ⟨o,b5⟩
  .rw[h] at r;cases r
 .unfold C7 Rd;rw[b7 e];exact r
def oM:Le H (thaw d H):=λa u n r=>by
 by_cases e:a=d
 .subst e;rcases r with r|⟨o',r⟩
  .rw[vR λo v z=>by rw[r] at z;cases z;cases n];exact .inl r
  .exact .inl (thaw_at r)
 .unfold Rd;rw[S8 e];exact r
variable {a:Addr}
def Le.tup {xs:ap}(l:Le H H')(h:SqT K H a xs):SqT K H' a xs:=by
 rcases h with h|h
 .exact .inl (l _ _ rfl h)
 .exact .inr h
def Le.lst {xs:ap}(l:Le H H')(h:SqL K H a xs):SqL K H' a xs:=by
 rcases h with h|h
 .exact .inl (l _ _ rfl h)
 .exact .inr h
def Le.dic (l:Le H H')(h:Rd H a (.dK kvs)):Rd H' a (.dK kvs):=l _ _ rfl h
abbrev N3:=Str×Str×Str
structure C3 where
 pts:xz
 ts:List (Str×N3)
def i6 (pts:xz):am:=pts.map λx=>(Sum.inr x.1,.str x.2)
def ao (t:N3):ap:=[.str t.1,.str t.2.1,.str t.2.2]
def TieAt (K:Qd)(H:Hp)(kv:j0×V)(x:Str×N3):Prop:=kv.1=Sum.inr x.1/\∃a,kv.2= .ref a/\SqT K H a (ao x.2)
def TiesIs (K:Qd)(H:Hp)(kvs:am)(ts:List (Str×N3)):Prop:=Paired (TieAt K H) kvs ts
structure WebAt (K:Qd) (H:Hp) (a p q:Addr) (kvs:am) (W:C3):Prop where
 tup:SqT K H a [.ref p,.ref q]
 pts:Rd H p (.dK (i6 W.pts))
 ties:Rd H q (.dK kvs)
 ts:TiesIs K H kvs W.ts
variable {kv:j0×V}
def TieAt.mono {x:Str×N3}(l:Le H H')(h:TieAt K H kv x):TieAt K H' kv x:=let ⟨e,a,ea,s⟩:=h;⟨e,a,ea,l.tup s⟩
variable {ts:List (Str×N3)}
def TiesIs.mono (l:Le H H')(h:TiesIs K H kvs ts):TiesIs K H' kvs ts:=Paired.imp' (λ_ _ z=>z.mono l) h
def WebAt.mono {p q:Addr}{W:C3}(l:Le H H')(h:WebAt K H a p q kvs W):WebAt K H' a p q kvs W:=⟨l.tup h.tup,l.dic h.pts,l.dic h.ties,h.ts.mono l⟩
def TiesIs.length (h:TiesIs K H kvs ts):kvs.length=ts.length:=LP h
def TiesIs.keys (h:TiesIs K H kvs ts):kvs.map (·.1)=ts.map λx=>Sum.inr x.1:=by
 unfold TiesIs at h;induction h with
 |nil=>rfl
 |cons r _ ih=>rw[Mg,Mg,ih,r.1]
def TiesIs.get {i:Nat}(h:TiesIs K H kvs ts)(e:kvs[i]?=some kv):∃x,ts[i]?=some x/\TieAt K H kv x:=P6 h e
theorem TiesIs.val {n:Str}:∀{kvs:am} {ts:List (Str×N3)},TiesIs K H kvs ts->n∈ts.map (·.1)->∃a x,A8 kvs (Sum.inr n:j0)=some (.ref a)/\(n,x)∈ts/\SqT K H a (ao x)
 |_,_,.nil,h=>by simp at h
 |kv::r,x::ts,.cons t u,h=>by
  obtain⟨e,a,ea,s⟩:=t;by_cases hn:x.1=n
  .subst hn;refine⟨a,x.2,?_,Lx,s⟩;rw[K9 e,ea]
  .have h':n∈ts.map (·.1):=by
    rcases LZ.mp h with z|z
    .exact absurd z.symm hn
    .exact z
   obtain⟨b,y,h1,h2,h3⟩:=TiesIs.val (ts:=ts) u h';refine⟨b,y,?_,LD _ h2,h3⟩;rw[K6 (by rw[e];intro z;exact hn (MX z))];exact h1
def K5 (pts:xz):(i6 pts).map (·.1)=pts.map λx=>Sum.inr x.1:=by
 unfold i6;rw[LY];rfl
def lt (a b:Str):Bool:=decide (a.cps.toList<b.cps.toList)
def yP (ss:xL):Bool:=(ss.dropLast.zip ss.tail).all λp=>lt p.1 p.2
theorem uU:∀a b:List Nat,ltCps a b=true\/a=b\/ltCps b a=true
 |[],[]=> .inr (.inl rfl)
 |[],_::_=> .inl rfl
 |_::_,[]=> .inr (.inr rfl)
 |x::r,y::t=>by
  rcases RK x y with h|h|h
  .exact .inl (by simp [ltCps,h])
  .subst h;rcases uU r t with z|z|z
   .exact .inl (by simp [ltCps,z])
   .exact .inr (.inl (by rw[z]))
   .exact .inr (.inr (by simp [ltCps,z]))
  .exact .inr (.inr (by simp [ltCps,h]))
def IG {a b:Str}(h:ltCps b.cps.toList a.cps.toList=false)(x_:a≠b):lt a b=true:=by
 unfold lt;rw[←ltCps_eq];rcases uU a.cps.toList b.cps.toList with z|z|z
 .exact z
 .exfalso;apply x_;obtain⟨⟨l⟩⟩:=a;obtain⟨⟨m⟩⟩:=b;have z':l=m:=z;rw[z']
 .rw[z] at h;cases h
def nU (x y:Str)(r:xL):yP (x::y::r)=(lt x y&&yP (y::r)):=by
 unfold yP;simp [List.dropLast]
theorem kh:∀{ss:xL},sortedS ss=true->ss.Nodup->yP ss=true
 |[],_,_=>rfl
 |[_],_,_=>rfl
 |x::y::r,h,n=>by
  have h':(!ltCps y.cps.toList x.cps.toList&&risingS y r)=true:=h;rw[LN] at h';have n':=Mt.mp n;rw[nU,IG (by simpa using h'.1) (λz=>n'.1 (by rw[z];exact Lx)),kh (ss:=y::r) h'.2 n'.2];rfl
end
def Eg (xs:ap)(n:Nat):bj xs none (some (n:Int))=xs.take n:=by
 unfold bj;have e1:HT.sIx xs.length 0 none=0:=rfl;have e2:HT.sIx xs.length xs.length (some (n:Int))=min n xs.length:=HT.sIx_nat _ _ _;rw[e1,e2,OG,Nat.sub_zero,List.take_eq_take_min];simp
def Inv.off {σ:St}(I:Inv X pins σ H s)(hH:H C=none)(h0:X.s₀.heap.objs.size<=C)(h1:C≠X.env.locals)(h2:∀x c,X.env.cells.lookup x=some c->c≠C)(h3:∀p∈X.pn++pins,p.1≠C)(sb:Heap.SameBut C s.heap h'):Inv X pins σ H {s with heap:=h'}:=by
 refine I.call' (s':={s with heap:=h'}) (ch:=[C]) rfl ?_ ?_ I.bare λb hb=>?_
 .have same:∀b,b∉[C]->h'.get? b=s.heap.get? b:=λb hb=>sb.2 b λz=>hb (by rw[z];exact Lx);refine⟨λb o q n hb hx=>?_,λb o q n hb hx=>?_,λb o q n hx=>n,λb o q hx=>?_,λb xs q=>q,λb o u q=>q,λb ps q=>⟨#[],by rw[Array.append_empty];exact q⟩⟩
  .show h'.get? b=_;rw[same b hx];exact q
  .exact⟨o.slots,(same b hx).trans q⟩
  .exact⟨o,(same b hx).trans q⟩
 .refine λb ob e=>(I.hok b ob e).stay (λc w' hc q=>(sb.2 c ?_).trans q) (λ_ q=>q) λ_ _ q=>q;rintro rfl;rcases hc with rfl|hc
  .rw[hH] at e;cases e
  .rw[hH] at hc;cases hc
 .rw[Li.mp hb];exact⟨.inr h0,h1,h2,h3⟩
variable {Th py:Pos}
def uG {own:xL}{scope:Scope}{i:Nat}{y:Str}(hN:X.N.Nodup)(hy:X.N[i]?=some y)(hl:CH X.env.scope y)(S:Gk X own js scope=true)(hc:X.calm=true)(hit:zi X tg iter wi)
(hg:∀C s H fp,PG (eU X own js scope C s H fp) tg g)(hi:∀C s H fp,uF (eU X own js scope C s H fp) ifs ti)(he:∀C s H fp,PE (eU X own js scope C s H fp) elt te)
(Zu:swapsWith (.ListComp elt [⟨tg,iter,ifs,0⟩] scope pos) (some (.Name y py)) Th.line X.env=pure true)
(hf:X.fn y=true\/X.env.scope.names.lookup y=some .local)
(hs:∀x,foldedSetIterable iter X.env x=pure x):
  PS X (.Assign [.Name y py] (.ListComp elt [⟨tg,iter,ifs,0⟩] scope pos) Th) (um (kQ own js wi g ti te) (ah i)):=by
 have SB:=yN S
 intro pins s σ H D I h
 rw[exec_Assign_Name_used _ _ _ _ Zu]
 refine Lj (Rj (Lj ?_))
 show wpAny _ X.A (do let _←comprehension (.ListComp elt [⟨tg,iter,ifs,0⟩] scope pos) scope X.env _ (newList []) false (eval iter X.env) (some (assign (.Name y py) X.env))) _ _ s
 refine Lj (OS (Pp (use:=some (assign (.Name y py) X.env)) (Q:=λ_ s'=>SP X pins D .next s') rfl hs (mn (SB.cells I)) SB.kind SB.names (O9 (hit pins s σ H _ I h) λv s1 h1=>O9 h1 λWK s2 h2=>?_)) (λ_ s' hq=>Lw (Lw hq)) λ_ _ e=>e)
 obtain⟨it,fp,tn,J,H2,e,I2,T,K_,f2,th,Sm,W,⟨m0,w0⟩,turn⟩:=h2
 subst e
 refine Nt (wpAny_newFunctionEnv SB.nocell (by intro y hy;simp at hy) (λh₁ hns₁ hsb₁=>?_) SB.kind)
 dsimp only at hns₁ hsb₁⊢
 generalize Va:s2.heap.push {cls:= .type "list",dict:=none,data:= .seq ([]:jp).toArray}=G2 at hns₁ hsb₁⊢
 have Xa:G2.objs.size=s2.heap.objs.size+1:=by rw[←Va,QX]
 have Sk:s2.heap.objs.size≠G2.objs.size:=by rw[Xa];exact Lz (Mw _)
 have hC:s2.heap.objs.size<=G2.objs.size:=by rw[Xa];exact NF _
 have old:∀b o,s2.heap.get? b=some o->h₁.get? b=some o:=λb o e=>
  hsb₁.extBut b o (Lz (Lv (Lu e) hC)) (Lk _ (Va▸Lk _ e))
 have off:∀b o,s2.heap.get? b=some o->b≠G2.objs.size:=λb o e=>Lz (Lv (Lu e) hC)
 have Ry:∀b∈fp,∃o,s2.heap.get? b=some o:=λb hb=>let ⟨o,e,_⟩:=T.obj _ _ K_ b hb;⟨o,e⟩
 have D_:h₁.get? s2.heap.objs.size=some {cls:= .type "list",data:= .seq ([]:jp).toArray}:=
  hsb₁.extBut _ _ Sk (Lk _ (Va▸LC _ rfl))
 have loop:∀s3:Shared,s3={s2 with heap:=h₁,toks:=s2.toks+([]:List (Str×Value)).length}->
   codeAny (model X.prog X.w) X.A (.compLoop (.ListComp elt [⟨tg,iter,ifs,0⟩] scope pos) 0 (.ref it) (.ref s2.heap.objs.size) (compEnvC scope (jL scope X.env) G2.objs.size X.env))
    (compPost (model X.prog X.w) X.A X.xe (some (assign (.Name y py) X.env)) (λ_ s'=>SP X pins D .next s') (.ref s2.heap.objs.size) G2.objs.size) s3:=by
  rintro s3 rfl
  refine ng (K:=λout H'=>ah i (.ref s2.heap.objs.size) σ (th (u9 H' s2.heap.objs.size (.lst out))) D.nx) SB hc T I2 f2 (La _) hC Sk Ry (hg _ _ _ _) (hi _ _ _ _) (he _ _ _ _) W (λi m out H' w=>?_) (λout H' s' B UO k=>?_) w0
   ⟨Inv.block SB I2 f2 Ry hC hns₁ old,I2.hok.fresh (La _),[],_,.nil,D_⟩ (T.keep _ _ _ K_ λb _ o e=>old b o e) (λb hb=>(f2 b hb).1)
  .rcases turn i m out H' w with⟨a,b⟩|c
   .exact .inl ⟨a,λn=>b _ n⟩
   .exact .inr c
  .obtain⟨mm,hn,_⟩:=B.inv.loc
   have Zk:H' G2.objs.size=none:=B.inv.free
   have IJ:=B.out I2 f2 (La _) hC Sk UO (h':=s'.heap) (Heap.SameBut.refl _ _)
   show wpAny _ X.A (assign (.Name y py) X.env (.ref s2.heap.objs.size)) _ _ s'
   refine wpAny_assign_Name (nI IJ hN hy hl (v:= .ref s2.heap.objs.size) rfl (λYn I'' hx=>?_) hf)
   obtain⟨a,sa,ha⟩:=hx
   have haC:G2.objs.size≠a:=by
    rcases ha with rfl|ha
    .exact MY (Lz (Lv I2.lt hC))
    .obtain⟨_,o,ho,_⟩:=I2.cell _ _ ha;exact MY (off _ _ ho)
   refine⟨mm,hn.sameBut sa haC,λh' sb=>⟨_,_,Sm _ _ _ _ (I''.off (by rw[b7 (MY Sk)];exact Zk) (LJ I2.sz hC) (MY (Lz (Lv I2.lt hC))) (λx c e=>?_) (λp hp=>off _ _ (I2.pin p hp).1) sb),k⟩⟩
   obtain⟨_,o,ho,_⟩:=I2.cell _ _ e
   exact off _ _ ho
 exact codeAny_compStart_list (loop _ rfl) (T.self _ 0 _ _ _ (T.keep _ _ _ K_ λb _ o e=>old b o e) (loop _ rfl))
def V7 {own:xL}{scope:Scope}{i:Nat}{y:Str}(hN:X.N.Nodup)(hy:X.N[i]?=some y)(hl:CH X.env.scope y)(S:Gk X own js scope=true)(hc:X.calm=true)(hit:QI X tg iter wi)
(hg:∀C s H fp,QG (eU X own js scope C s H fp) tg g)(hi:∀C s H fp,IV (eU X own js scope C s H fp) ifs ti)(he:∀C s H fp,QE (eU X own js scope C s H fp) elt te)
(Zu:swapsWith (.ListComp elt [⟨tg,iter,ifs,0⟩] scope pos) (some (.Name y py)) Th.line X.env=pure true:=by rfl)
(hf:X.fn y=true\/X.env.scope.names.lookup y=some .local:=by first|exact .inl rfl|exact .inr rfl)
(hs:∀x,foldedSetIterable iter X.env x=pure x:=by intro _;rfl):QS X (.Assign [.Name y py] (.ListComp elt [⟨tg,iter,ifs,0⟩] scope pos) Th) (um (kQ own js wi g ti te) (ah i)):=
 ⟨uG hN hy hl S hc hit.r (λC s H fp=>(hg C s H fp).r) (λC s H fp=>(hi C s H fp).r) (λC s H fp=>(he C s H fp).r) Zu hf hs⟩
open PySem.AutoSeq1 (wpAny_loadPart')
def NcP (P:Program)(w:World)(A:Around)(s:Shared)(y x:Value)(b:Bool):Prop:=∀(E:XV) (Q:XV),Q (.bool b) s->wpAny (model P w) A (richCompare .NotEq y x) Q E s
def Er (l m:Addr)(xs ys:Array Value)(n1 n2:Nat)(d1 d2:Option Addr)(s1 s2:Array ad)(f:Nat->Bool):
  MeetsIn P w (Builtin.«tuple.__ne__» ⟨[.ref l,.ref m],[]⟩) (λA R s=>
   s.heap.get? l=some {cls:= .type "tuple",dict:=d1,data:= .seq xs n1,slots:=s1}/\s.heap.get? m=some {cls:= .type "tuple",dict:=d2,data:= .seq ys n2,slots:=s2}/\
   (∀j (g1:j<xs.size) (g2:j<ys.size),EqP P w A.in1 s xs[j] ys[j] (f j))/\
   R (.ok (.ret (.bool (!((List.range (min xs.size ys.size)).all f&&xs.size==ys.size))))) s):=
 .of_wp λA R s hyp=>by
  obtain⟨hp,gg,dr,tk,os⟩:=s;obtain⟨e1,e2,he,fin⟩:=hyp;have sub:=Pq;have len:(xs.toList.zip ys.toList).length=min xs.size ys.size:=by simp
  wp_walk using wpAny_loadPart' e1,wpAny_loadPart' e2,wpAny_forIn_list _ (λmore acc st=>acc.1=none/\st=⟨hp,gg,dr,tk,os⟩/\∃i,more=(xs.toList.zip ys.toList).drop i/\
   R (.ok (.ret (.bool (!(((List.range (min xs.size ys.size)).drop i).all f&&xs.size==ys.size))))) ⟨hp,gg,dr,tk,os⟩) _
  case turn=>
   rintro⟨y,x⟩ more acc st ⟨ha,rfl,i,hi,hR⟩
   have lt:i<(xs.toList.zip ys.toList).length:=by
    rcases Nn i (xs.toList.zip ys.toList).length with z|z
    .exact z
    .rw[NJ z] at hi;cases hi
   have lm:i<min xs.size ys.size:=len▸lt
   have lx:i<xs.size:=Lv lm (Nat.min_le_left _ _)
   have ly:i<ys.size:=Lv lm (PK _ _)
   rw[ME lt] at hi
   injection hi with h1 h2
   have q1:y=xs[i]:=by simpa using MG Prod.fst h1
   have q2:x=ys[i]:=by simpa using MG Prod.snd h1
   subst q1 q2
   have Zt:(List.range (min xs.size ys.size)).drop i=i::(List.range (min xs.size ys.size)).drop (i+1):=by simp [ME,lm]
   rw[Zt,NB] at hR
   refine Lj (he i lx ly _ _ ?_)
   cases hf:f i with
   |true=>
    rw[hf] at hR
    wp_walk
    exact⟨rfl,rfl,i+1,h2,by simpa using hR⟩
   |false=>
    rw[hf] at hR
    wp_walk
    exact⟨_,rfl,by simpa using hR⟩
  case fin=>
   rintro⟨c1,c2⟩ st ⟨ha,rfl,i,hi,hR⟩
   simp only at ha
   subst ha
   have ge:min xs.size ys.size<=i:=by
    rcases Nn i (xs.toList.zip ys.toList).length with z|z
    .rw[ME z] at hi;cases hi
    .exact len▸z
   rw[NJ (by simpa using ge)] at hR
   wp_walk
   exact⟨_,rfl,by simpa [Builtin.Tuple.tupleCompareSizes,bne] using hR⟩
  case h=>
   exact⟨rfl,rfl,0,rfl,by simpa using fin⟩
def NcP.tup {xs ys:Array Value}(hl:s.heap.IsTuple l xs)(hm:s.heap.IsTuple m ys)(hu:A.units<cLine)
(he:∀j (g1:j<xs.size) (g2:j<ys.size),EqP P w A.in1 s xs[j] ys[j] (f j)):NcP P w A s (.ref l) (.ref m) (!((List.range (min xs.size ys.size)).all f&&xs.size==ys.size)):=λE Q q=>by
 obtain⟨⟨c1,d1,a1,s1⟩,o1,k1,n1,t1⟩:=id hl
 obtain⟨⟨c2,d2,a2,s2⟩,o2,k2,n2,t2⟩:=id hm
 simp only at k1 t1 k2 t2
 subst k1 t1 k2 t2
 refine MM (op:= .NotEq) ⟨_,o1,rfl⟩ ⟨_,o2,rfl⟩ Qu (ML Qu ⟨_,o1,rfl⟩ PySem.F.entry_tuple_ne (PySem.F.args_tuple_ne_2 _ _) (Er l m xs ys n1 n2 d1 d2 s1 s2 f) ⟨o1,o2,he,?_⟩) hu
 exact⟨(λz=>nomatch z),q⟩
section
variable {X:Cx} {pins:XL} {σ:St} {H:Hp} {s:Shared} {A:Around}
def Hi (K:Qd):R2:=λ_ _ _ _=>False
def En (hu:X.A.units+64<cLine):OpR X (compareOp .NotEq) (Hi X.K):=by
 intro pins s σ H x y v u Q I rx ry h;exact h.elim
def Ik (K:Qd):R2:=λx y H Q=>∃a b xs ys,x= .ref a/\y= .ref b/\SqL K H a xs/\SqL K H b ys/\xs.all K7=true/\ys.all K7=true/\Q (.bl (!V1 xs ys)) H
theorem Fo (hu:X.A.units+64<cLine):OpR X (compareOp .NotEq) (Ik X.K):=by
 intro pins s σ H x y v u Q I rx ry h;obtain⟨a,b,xs,ys,rfl,rfl,ha,hb,fx,fy,k⟩:=h;cases rx;cases ry;obtain⟨a_,r1,p1,z1⟩:=I.list ha;obtain⟨its',r2,p2,z2⟩:=I.list hb;have l1:=r1.length;have l2:=r2.length;have e3:a_.toArray.size=xs.length:=by simp [l1]
 have e4:its'.toArray.size=ys.length:=by simp [l2]
 by_cases hl:xs.length=ys.length
 .have q:=SeqAt.RcNeAt.lists (A:=X.A) (e:=λj=>eV (xs.getD j .non) (ys.getD j .non)) p1.isList p2.isList (by rw[e3,e4];exact hl) (by lia) λj g1 g2=>by
   have RY:j<a_.length:=by simpa using g1
   have RZ:j<its'.length:=by simpa using g2
   have x1:xs[j]?=some (xs[j]'(by lia)):=by simp [show j<xs.length by lia]
   have y1:ys[j]?=some (ys[j]'(by lia)):=by simp [show j<ys.length by lia]
   obtain⟨u1,Te,Tf⟩:=r1.get x1;obtain⟨u2,RG,Tg⟩:=r2.get y1;have e1:a_.toArray[j]=u1:=by
    have:=KY RY;rw[Te] at this;simpa using(Ly this).symm
   have e2:its'.toArray[j]=u2:=by
    have:=KY RZ;rw[RG] at this;simpa using(Ly this).symm
   rw[e1,e2];have d1:xs.getD j .non=xs[j]'(by lia):=by rw[LL,x1];rfl
   have d2:ys.getD j .non=ys[j]'(by lia):=by rw[LL,y1];rfl
   rw[d1,d2];exact fU Tf Tg (LU.mp fx _ (LH _)) (LU.mp fy _ (LH _))
  have e5:=Y4 xs ys;rw[hl,Nat.min_self,PQ,Ov] at e5;rw[e3,hl,e5] at q;exact q X.prog X.w _ _ ⟨.bl _,H,I,rfl,k⟩
 .refine SeqAt.RcNeAt.lists_lengths (A:=X.A) p1.isList p2.isList (by rw[e3,e4];simpa using hl) (by lia) X.prog X.w _ _ ⟨.bl _,H,I,?_,k⟩;rw[gu hl];rfl
def HH (K:Qd):R2:=λ_ _ _ _=>False
def Eh (hu:X.A.units+64<cLine):OpR X (compareOp .NotEq) (HH X.K):=by
 intro pins s σ H x y v u Q I rx ry h;exact h.elim
def CP (K:Qd):R2:=λx y H Q=>∃a b ka kb r0,x= .ref a/\y= .ref b/\Rd H a (.dK ka)/\Rd H b (.dK kb)/\EqH K H kb ka r0/\Q (.bl (ka.length==kb.length&&r0)) H
def CK (K:Qd):R2:=λ_ _ _ _=>False
theorem AW (hu:X.A.units+64<cLine):OpR X (compareOp .Eq) (CP X.K):=by
 intro pins s σ H x y v u Q I rx ry h;obtain⟨a,b,ka,kb,r0,rfl,rfl,h1,h2,h3,k⟩:=h;cases rx;cases ry;obtain⟨z1,d1,va,ra,da⟩:=U5 I.hok h1;obtain⟨z2,d2,vb,rb,db⟩:=U5 I.hok h2;have l1:=KV.length ra;have l2:=KV.length rb;exact PySem.W.keq_eq (knd:=z0 X.prog X.w) d1 d2 da db (by lia) (λ_=>h3.hits (A:=X.A.in1) I (by show X.A.units+1+8<_;lia) rb ra) ⟨.bl _,H,I,rfl,by rw[←l1,←l2];exact k⟩
def Be (hu:X.A.units+64<cLine):OpR X (compareOp .NotEq) (CK X.K):=by
 intro pins s σ H x y v u Q I rx ry h;exact h.elim
def Fv (K:Qd):R2:=λx y H Q=>me K x y H Q\/CP K x y H Q
def JO (K:Qd){k:Nat}(hr:Room k X.A)(h:X.K=K:=by rfl):OpR X (compareOp .Eq) (Fv K):=(KD K hr h).or (h▸AW hr.units)
def wz (K:Qd):R2:=λx y H Q=>Jm x y H Q\/Ik K x y H Q\/HH K x y H Q\/Hi K x y H Q\/CK K x y H Q
def KG (K:Qd){k:Nat}(hr:Room k X.A)(h:X.K=K:=by rfl):OpR X (compareOp .NotEq) (wz K):=h▸op_ne.or ((Fo hr.units).or ((Eh hr.units).or ((En hr.units).or (Be hr.units))))
end
def Jf {x y:V}(q:me K x y H Q):Fv K x y H Q:= .inl q
def sU {i j:Int}(q:Q (.bl (!decide (i=j))) H):wz K (.int i) (.int j) H Q:= .inl (qI q)
def kS {xs ys:ap}(ha:SqL K H a xs)(hb:SqL K H b ys)(fx:xs.all K7=true)(fy:ys.all K7=true)(q:Q (.bl (!V1 xs ys)) H):wz K (.ref a) (.ref b) H Q:= .inr (.inl ⟨a,b,xs,ys,rfl,rfl,ha,hb,fx,fy,q⟩)
def pG {j:Str}(q:Q (.bl false) H):me K .non (.str j) H Q:= .inl ⟨rfl,by rw[show decide (V.non=V.str j)=false by simp];exact q⟩
def oQ {xs:ap}(ha:SqT K H a xs)(q:Q (.bl false) H):me K .non (.ref a) H Q:= .inr (.inr (.inl (.inr ⟨a,xs,rfl,rfl,ha,q⟩)))
section
variable {X:Cx} {o e f:Expr} {apos c_:Pos} {td ty tx:TE} {name:Str}
def Hg (hb:attributeBase o name X.env (eval o X.env)=eval o X.env)(hl:(apos.endLine==c_.line)=true)(h:E2 e=true):M1 X o name apos e c_:=by
 have z:starEach [e] X.env=[(false,eval e X.env)]:=X8 (es:=[]) h;have z2:backTo c_ (starEach [e] X.env)=[(false,eval e X.env)]:=by rw[z];rfl
 exact⟨hb,by rw[z2];rfl,hl,z2⟩
def Ip (hb:attributeBase o name X.env (eval o X.env)=eval o X.env)(hl:(apos.endLine==c_.line)=true)(h:E2 e=true)(h':E2 f=true):M2 X o name apos e f c_:=by
 have z:starEach [e,f] X.env=[(false,eval e X.env),(false,eval f X.env)]:=by rw[X8 (es:=[f]) h,X8 (es:=[]) h'];rfl
 have z2:backTo c_ (starEach [e,f] X.env)=[(false,eval e X.env),(false,eval f X.env)]:=by rw[z];rfl
 exact⟨hb,by rw[z2];rfl,hl,z2⟩
def vy (hu:X.A.units+1<cLine)(ho:QE X o td)(he:QE X e ty)(hb:attributeBase o "get" X.env (eval o X.env)=eval o X.env:=by rfl)(hl:(apos.endLine==c_.line)=true:=by rfl)(h:E2 e=true:=by rfl):
  QE X (.Call (.Attribute o "get" apos) [e] [] c_) (tU td ty):=⟨Am hu ho.r he.r (Hg hb hl h)⟩
def HY (hu:X.A.units+1<cLine)(ho:QE X o td)(he:QE X e ty)(hf:QE X f tx)(hb:attributeBase o "get" X.env (eval o X.env)=eval o X.env:=by rfl)(hl:(apos.endLine==c_.line)=true:=by rfl)(h:E2 e=true:=by rfl)(h':E2 f=true:=by rfl):
  QE X (.Call (.Attribute o "get" apos) [e,f] [] c_) (uf td ty tx):=⟨Ad hu ho.r he.r hf.r (Ip hb hl h h')⟩
end
section
variable {σ:St} {H:Hp} {Q:VK} {td ty tx:TE}
def HG (q:td σ H λx H1=>∃a,x= .ref a/\HD H1 a/\ty σ H1 λy H2=>∃o,DGet H2 a y o/\Q (o.getD .non) H2):tU td ty σ H Q:=q
end
open Sem (wp)
section
variable {prog:Program} {w:World} {KT:Type} [DecidableEq KT] {knd:KeyKind prog w KT} {A:Around} {E:XV} {s:Shared}
end
section
variable {prog:Program} {w:World} {KT:Type} [DecidableEq KT] {knd:KeyKind prog w KT} {A:Around} {E:XV} {s:Shared}
open PySem.AutoSeq1 (wpAny_loadPart')
end
section
variable {X:Cx} {a:Expr} {t:TA} {p pos:Pos}
def tu (K:Qd)(ta:TA):qx:=λσ H R=>ta σ H λvs H1=>∃v,vs=[v]/\((∃l xs,v= .ref l/\SqL K H1 l xs/\R (Jw K l) id H1)\/False)
variable {elts:List Expr}{y_:Pos}
def yW {x1}(hg:Gl X "enumerate")(hm:X.mg "enumerate"=none)(ha:PA X [a] t)(hs:starEach [a] X.env=[(false,eval a X.env)]):zi X (.Tuple elts x1 y_) (.Call (.Name "enumerate" p) [a] [] pos) (tu X.K t):=by
 intro pins s σ H R I h;refine Call_ (cT I hg hm Boot.«enumerate» (MK (O9 (ha pos pins s σ H _ I h) λus s1 ⟨vs,H1,I1,r1,q1⟩=>?_) hs rfl));obtain⟨v,e,q⟩:=q1;subst e;obtain⟨u,rfl,ru⟩:=X3 r1;rcases q with⟨l,xs,rfl,hq,q⟩|q
 .cases ru;obtain⟨a_,rv,pl,hz⟩:=I1.list hq;refine call_enumerate_list pl.isList λh' he hit hsz hk=>?_;have I2:Inv X pins σ H1 {s1 with heap:=h'}:=I1.kept (t':=s1.toks) hk;refine wpAny_pyIter_enum (s:={s1 with heap:=h'}) he ?_;refine⟨s1.heap.objs.size+1,[s1.heap.objs.size+1,s1.heap.objs.size],_,_,H1,rfl,I2,xQ (l:=l) (Nat.succ_ne_self _),⟨_,he,hit⟩,λb hb=>?_,id,gB,q⟩;have RF:b=s1.heap.objs.size+1\/b=s1.heap.objs.size:=by simpa using hb
  rcases RF with rfl|rfl
  .exact I1.fpOk (NF _) (I1.hok.fresh (NF _))
  .exact I1.fpOk (La _) (I1.hok.fresh (La _))
 .exact q.elim
def bF (K:Qd){x1}(hm:X.mg "enumerate"=none)(ha:QA X [a] t)(hg:Gl X "enumerate":=by rfl)(h:E2 a=true:=by rfl)(hK:X.K=K:=by rfl):QI X (.Tuple elts x1 y_) (.Call (.Name "enumerate" p) [a] [] pos) (tu K t):=
 ⟨hK▸yW hg hm ha.r (X8 h)⟩
end
section
variable {K:Qd} {σ:St} {H:Hp} {ta:TA} {R:It->(Hp->Hp)->Hp->Prop}
def AY (q:ta σ H λvs H1=>∃v,vs=[v]/\((∃l xs,v= .ref l/\SqL K H1 l xs/\R (Jw K l) id H1)\/False)):tu K ta σ H R:=q
end
open Sem (wp)
def qa:typeLookup (.type "list") "keys"=pure none:=by rw[Qv,OM];kernel_rfl
def wY {prog:Program}{o:Obj}{xs:Array Value}{k:Nat}{Q:ad->Shared->Prop}
(hx:s.heap.get? a=some o)(hc:o.cls= .type "list")(O':o.data= .seq xs k)(hd:o.dict=none)(hA:A.handled=none)
(h:∀h' tk,(∀b ob,s.heap.get? b=some ob->h'.get? b=some ob)->Q none {s with heap:=h',toks:=tk}):
  wpAny (model prog w) A (getAttr? (.ref a) "keys") Q E s:=by
 obtain⟨c,dct,dat,sl⟩:=o
 simp only at hc O' hd
 subst hc O' hd
 obtain⟨hp,g,d,tk,os⟩:=s
 have hT:∀tk',(⟨hp,g,d,tk',os⟩:Shared).TypeIs (.ref a) "list":=λ_=>⟨_,hx,rfl⟩
 have f1:=sub_AttributeError
 have f3:=Og.lookup
 have f4:=Og.bind (.ref a)
 have f5:=am_list_getattr_none
 unfold getAttr? getAttrBy? getAttrBy
 repeat(any_goals (first|assumption|exact hT _|((with_reducible show wpAny _ _ (call (Value.builtin "list.__getattribute__") _ _) _ _ _);refine QJ Og (hT _) am_entry_list_getattribute (F.args_list_getattribute_2 _ _) (meets_getattribute_miss_list a xs k sl "keys" _ qa (by decide+kernel) (by decide+kernel)) ⟨hx,hA,λh' tk' e l_=>?_⟩)|wp_step))
 obtain⟨t',u',he⟩:=l_.there
 show wpAny _ _ (getattributeRaised _ _ _ _ _ _ _) _ _ _
 unfold getattributeRaised
 repeat(any_goals (first|assumption|wp_step))
 exact h _ _ l_.keeps
def X1:entryFor table "dict.update.loop"=some Builtin.«dict.update.loop»:=entryFor_of_tree (by kernel_rfl)
def K4:plainId "dict.update.loop"=true:=by decide+kernel
section
variable {prog:Program} {w:World} {KT:Type} [DecidableEq KT] {knd:KeyKind prog w KT} {A:Around} {E:XV}
def PairAt (knd:KeyKind prog w KT)(h:Heap)(d it:Addr)(u:Value)(kv:KT×Value):Prop:=∃t key,u= .ref t/\h.IsTuple t #[key,kv.2]/\knd.is kv.1 key=true/\t≠d/\t≠it
variable {d it:Addr}
def PairAt.keep {h h':Heap}{u:Value}{kv:KT×Value}(p:PairAt knd h d it u kv)(k:∀b o,b≠d->b≠it->h.get? b=some o->h'.get? b=some o):PairAt knd h' d it u kv:=by
 obtain⟨t,key,e,⟨o,ho,r⟩,hk,h1,h2⟩:=p;exact⟨t,key,e,⟨o,k t o h1 h2 ho,r⟩,hk,h1,h2⟩
variable {l:Addr}
theorem vW {items:jp}{res:Value}(hh:A.handled=none)(Vc:d≠it)(Zv:l≠it)(Zw:l≠d):
  ∀(more:List (KT×Value)) (i:Nat) (s:Shared) (kvs:List (KT×Value)) (R:Result->Shared->Prop),
   s.heap.IsListIter it l i->s.heap.IsList l items.toArray->Paired (PairAt knd s.heap d it) (items.drop i) more->s.heap.DictOf knd d kvs->kvs.length+more.length<=sizeLine->
   (∀h' tk,(∀b o,b≠d->b≠it->s.heap.get? b=some o->h'.get? b=some o)->h'.DictOf knd d (more.foldl (λa x=>stored a x.1 x.2) kvs)->R (.ok (.ret res)) {s with heap:=h',toks:=tk})->
   codeAny (model prog w) A (.builtin "dict.update.loop" ⟨[.ref d,.ref it,rawInt (i:Int),res],[]⟩) R s:=by
 intro more
 induction more with
 |nil=>
  intro i s kvs R hit hl hp hd hz hR
  have hx:items.toArray[i]?=none:=by
   have hn:items.drop i=[]:=by cases z_:items.drop i with
    |nil=>rfl
    |cons x r=>rw[z_] at hp;cases hp
   have:=OQ.mp hn;simp;lia
  refine MN X1 ?_
  rw[MH K4 _]
  show wpAny _ A.in1 (pyNext (.ref it)>>=_) _ _ s
  refine Lj (OJ (A:=A.in1) hh hit hl hx λh' eb=>?_)
  show wpAny _ A.in1 (Builtin.Dict.addKeywords d []>>=_) _ _ _
  refine Lj (Lw (Lw ?_))
  exact hR h' s.toks (λb o h1 h2 e=>eb b o h2 e) (hd.extBut eb Vc)
 |cons kv more ih=>
  intro i s kvs R hit hl hp hd hz hR
  obtain⟨x,hx,Zx,Sn⟩:∃x,items.toArray[i]?=some x/\PairAt knd s.heap d it x kv/\Paired (PairAt knd s.heap d it) (items.drop (i+1)) more:=by
   cases z_:items.drop i with
   |nil=>rw[z_] at hp;cases hp
   |cons x r=>
    rw[z_] at hp
    cases hp with
    |cons h1 h2=>
     refine⟨x,?_,h1,?_⟩
     .have z:=MG List.head? z_
      simpa using z
     .have z:=MG List.tail z_
      rw[QY] at z
      rw[z];exact h2
  obtain⟨t,key,rfl,⟨ot,Xc,hct,nt,hdt⟩,E_,h1,h2⟩:=Zx
  refine MN X1 ?_
  rw[MH K4 _]
  show wpAny _ A.in1 (pyNext (.ref it)>>=_) _ _ s
  refine Lj (OA hit hl hx λh' hit' hs'=>?_)
  have Xd:h'.get? t=some ot:=hs'.extBut _ _ h2 Xc
  refine Lj (Mv (Lj (wpAny_tryCatch ?_)))
  unfold Builtin.Dict.pairItems
  refine Lj (Pf (s:={s with heap:=h'}) ⟨_,Xd,hct⟩ ?_)
  rw[if_pos (by decide)]
  refine Lj (Ph (s:={s with heap:=h'}) Xd hdt ?_)
  refine Lw ?_
  show wpAny _ A.in1 (holding [key,kv.2] (dictSet d key kv.2)) _ _ _
  refine Mv (wpAny_dictSet_pairs (s:={s with heap:=h'}) (kvs:=kvs) E_ (hd.extBut hs'.extBut Vc) (λQL dd hs''=>?_) (by simp only[Mj] at hz;lia))
  have kp:∀b o,b≠d->b≠it->s.heap.get? b=some o->QL.get? b=some o:=λb o hb1 QN e=>hs''.extBut b o hb1 (hs'.extBut b o QN e)
  refine Lw ⟨Np K4 _,?_⟩
  refine ih (i+1) _ (stored kvs kv.1 kv.2) R ?_ ?_ (Paired.imp' (λ_ _ z=>z.keep kp) Sn) dd ?_ (λh3 tk k3 d3=>hR h3 tk (λb o e1 e2 e=>k3 b o e1 e2 (kp b o e1 e2 e)) d3)
  .exact hit'.at λo e=>hs''.extBut it o (MY Vc) e
  .obtain⟨ol,J',r⟩:=hl
   exact⟨ol,kp l ol Zw Zv J',r⟩
  .have z:=stored_length_le kvs kv.1 kv.2
   simp only[Mj] at hz
   lia
def jP {items:jp}{o:Obj}{n:Nat}{more:List (KT×Value)}{s:Shared}{Q:XV}(hh:A.handled=none)(ho:s.heap.get? l=some o)(hc:o.cls= .type "list")(O':o.data= .seq items.toArray n)(Xe:o.dict=none)(hz:more.length<=sizeLine)
(hp:Paired (λu kv=>∃t key,u= .ref t/\s.heap.IsTuple t #[key,kv.2]/\knd.is kv.1 key=true) items more)
(h:∀h' tk,h'.DictOf knd s.heap.objs.size (more.foldl (λa x=>stored a x.1 x.2) [])->(∀b o,s.heap.get? b=some o->h'.get? b=some o)->Q (.ref s.heap.objs.size) {s with heap:=h',toks:=tk}):
  wpAny (model prog w) A (call (.type "dict") [.ref l]) Q E s:=by
 refine callType_codes (Q₁:=λobj s₁=>obj= .ref s.heap.objs.size/\s₁={s with heap:=s.heap.push {cls:= .type "dict",data:= .dict #[]}}) F.kt_called_dict (F.kt_typeCall_dict_1 _) F.entry_dict_init (kt_code_dict_new _ ⟨rfl,rfl⟩) ?_
 rintro obj s₁ ⟨rfl,rfl⟩
 have J_:(s.heap.push {cls:= .type "dict",data:= .dict #[]}).DictOf knd s.heap.objs.size []:=Qn s.heap
 have WV:l≠s.heap.objs.size:=Lz (Lu ho)
 refine⟨J_.typeIs,F.args_dict_init_2 _ _,?_⟩
 unfold Builtin.«dict.__init__»
 refine Lj ?_
 unfold Builtin.Dict.selfAndRest
 refine Lj (ON J_.typeIs ?_)
 show wpAny _ _ (pure (s.heap.objs.size,[Value.ref l])) _ _ _
 refine Lw ?_
 show wpAny _ _ (Builtin.Dict.updateFrom "dict.__init__" s.heap.objs.size (.ref l) [] .none) _ _ _
 unfold Builtin.Dict.updateFrom
 have So:(s.heap.push {cls:= .type "dict",data:= .dict #[]}).get? l=some o:=Lk _ ho
 refine Lj (Pf (s:={s with heap:=s.heap.push {cls:= .type "dict",data:= .dict #[]}}) ⟨_,So,hc⟩ ?_)
 rw[if_pos (by decide)]
 refine Lj (wY (s:={s with heap:=s.heap.push {cls:= .type "dict",data:= .dict #[]}}) So hc O' Xe hh λh2 Yr k2=>?_)
 rw[if_pos (show((none:ad).isNone)=true from rfl)]
 have RW:h2.get? l=some o:=k2 l o So
 have hd2:h2.DictOf knd s.heap.objs.size []:=let ⟨od,es,ep,e,r⟩:=J_;⟨od,es,ep,k2 _ _ e,r⟩
 have p_:s.heap.objs.size<h2.objs.size:=by obtain⟨od,es,ep,e,r⟩:=hd2;exact Lu e
 have up:∀b ob,s.heap.get? b=some ob->(h2.push {cls:= .type "list_iterator",data:= .fields #[.ref l,.int 0 0]}).get? b=some ob:=λb ob e=>Lk _ (k2 b ob (Lk _ e))
 refine Lj (RN (Lj (NT (l:=l) (items:=items.toArray) ⟨o,RW,hc,n,O'⟩ ?_)))
 refine Lw ⟨Np K4 _,?_⟩
 refine vW (knd:=knd) (l:=l) (items:=items) (A:=A.in1) hh (Lz p_) (Lz (Lu RW)) WV more 0 _ [] _ ⟨_,LC _ rfl,rfl,rfl⟩ ⟨o,Lk _ RW,hc,n,O'⟩ ?_ (hd2.push _) (by simpa using hz) λh3 tk k3 d3=>⟨rfl,h h3 tk d3 λb ob e=>k3 b ob (Lz (Lu e)) (Lz (Qm (Lu e) p_)) (up b ob e)⟩
 rw[OG]
 refine Paired.imp' (λu kv z=>?_) hp
 obtain⟨t,key,rfl,⟨ot,Xc,r⟩,hk⟩:=z
 exact⟨t,key,rfl,⟨ot,up t ot Xc,r⟩,hk,Lz (Lu Xc),Lz (Qm (Lu Xc) p_)⟩
end
def PrV (K:Qd)(H:Hp)(x:V)(kv:j0×V):Prop:=∃t,x= .ref t/\SqT K H t [kV kv.1,kv.2]
def bE (kvs:am):am:=kvs.foldl (λa x=>F7 a x.1 x.2) []
theorem KV.puts:∀{ps:am} {qs:List (j0×Value)} {a:am} {b:List (j0×Value)},KV ps qs->KV a b->KV (ps.foldl (λa x=>F7 a x.1 x.2) a) (qs.foldl (λa x=>stored a x.1 x.2) b)
 |_,_,_,_,.nil,h=>h
 |_::_,_::_,a,b,.cons r t,h=>by
  obtain⟨e,rv⟩:=r;rw[NR,NR];refine KV.puts t ?_;rw[←e];exact KV.put h _ rv
theorem du:∀(ps:am) (a:am),(ps.foldl (λa x=>F7 a x.1 x.2) a).length<=a.length+ps.length
 |[],a=>La _
 |p::r,a=>by
  rw[NR,Mj];have z:=du r (F7 a p.1 p.2);have z2:=R5 a p.1 p.2;lia
def ER {pins : List (Addr × Obj)}{σ : L2.St}(I : Inv X pins σ H s) : ∀ {xs : ap} {kvs : List (j0 × V)} {us : jp}, Paired (PrV X.K H) xs kvs -> Vals xs us -> ∃ more : List (j0 × Value), KV kvs more /\ Paired (λu kv => ∃ t key, u = Value.ref t /\ s.heap.IsTuple t #[key, kv.2] /\ (z0 X.prog X.w).is kv.1 key = true) us more
 := by
  intro xs kvs us hp hv;induction hp generalizing us with
  | nil => cases hv; exact ⟨[], .nil, .nil⟩
  | @cons x kv l m r t ih => cases hv with
    | cons r' t' =>
      obtain ⟨tt, rfl, sq⟩ := r
      cases r'
      obtain ⟨a_, v1, t1, _⟩ := I.tuple sq
      obtain ⟨key, v, rfl, rk, rv⟩ := gy v1
      obtain ⟨more, h1, h2⟩ := ih t'
      exact ⟨(kv.1, v) :: more, .cons ⟨rfl, rv⟩ h1, .cons ⟨tt, key, rfl, t1, fh rk⟩ h2⟩
def zF (K:Qd):ap->Hp->VK->Prop:=λxs H Q=>∃(p:Addr) (ys:ap) (kvs:am),xs=[.ref p]/\SqL K H p ys/\Paired (PrV K H) ys kvs/\kvs.length<=sizeLine/\∀l,H l=none->Q (.ref l) (u9 H l (.dK (bE kvs)))
theorem tI (hc:X.calm=true):CallR X (.type "dict") (zF X.K):=by
 intro pins s σ H xs us Q I r h;obtain⟨p,ys,kvs,rfl,hq,hp,hz,q⟩:=h;obtain⟨u,rfl,ru⟩:=X3 r;cases ru;obtain⟨a_,rv,pl,_⟩:=I.list hq;obtain⟨more,kv,pr⟩:=ER I hp rv;obtain⟨o,n,e,c,hd,dt⟩:=pl;have hl:more.length=kvs.length:=(KV.length kv).symm;refine jP (knd:=z0 X.prog X.w) (I.ok.hd hc) e c dt hd (by lia) pr λh' tk dd k=>?_;refine⟨.ref s.heap.objs.size,_,?_,rfl,q _ (I.hok.fresh (La _))⟩;refine I.laid (a:=s.heap.objs.size) (o:= .dK (bE kvs)) (t':=tk) k (La _) (fX ?_ (NC.mpr (MY (Lz I.big))) (KV.puts kv .nil) dd);have z:=du kvs [];unfold bE;simp only[Oq] at z;lia
def qv (K:Qd):ap->Hp->VK->Prop:=λxs H Q=>CT xs H Q\/zF K xs H Q
def U6 (K:Qd)(hc:X.calm=true)(h:X.K=K:=by rfl):CallR X (.type "dict") (qv K):=by
 subst h;intro pins s σ H xs us Q I r h;rcases h with h|h
 .exact tM pins s σ H xs us Q I r h
 .exact tI hc pins s σ H xs us Q I r h
def F8 {Q:VK}(h:Rd H p (.dK kvs))(q:∀l H2,H l=none->Same H H2->H2 l=some (.dK kvs)->Q (.ref l) H2):qv K [.ref p] H Q:= .inl ⟨p,kvs,rfl,h,λl n=>q l _ n (nwS n) b5⟩
def Y1 {Q:VK}{xs:ap}(h:SqL K H p xs)(hp:Paired (PrV K H) xs kvs)(hz:kvs.length<=sizeLine)(q:∀l H2,H l=none->Same H H2->H2 l=some (.dK (bE kvs))->Q (.ref l) H2):qv K [.ref p] H Q:= .inr ⟨p,xs,kvs,rfl,h,hp,hz,λl n=>q l _ n (nwS n) b5⟩
def ObjOk.there {o:HO}(x:ObjOk P w H h a o):∃u,h.get? a=some u:=by
 induction o with
 |lst xs=>obtain⟨_,_,_,_,e⟩:=x;exact⟨_,e⟩
 |tup xs=>obtain⟨_,_,_,o,e,_⟩:=x;exact⟨_,e⟩
 |dK kvs=>obtain⟨_,_,_,_,o,_,_,e,_⟩:=x;exact⟨_,e⟩
 |dT kvs=>obtain⟨_,_,_,_,o,_,_,e,_⟩:=x;exact⟨_,e⟩
 |set S n=>obtain⟨o,_,_,_,e,_⟩:=x;exact⟨_,e⟩
 |ins C dx fs=>obtain⟨_,_,_,e,_⟩:=x;exact⟨_,e⟩
 |own y=>exact x
 |xd fs=>obtain⟨_,⟨_,_,_,e,_⟩,_⟩:=x;exact⟨_,e⟩
 |rng lo hi=>obtain⟨_,_,_,e⟩:=x;exact⟨_,e⟩
 |frz ob u=>obtain⟨e,_⟩:=x;exact⟨_,e⟩
 |tbl ps=>exact⟨_,show h.get? a=some _ from x⟩
 |met f y=>exact⟨_,show h.get? a=some _ from x⟩
 |ext φ=>obtain⟨_,e,_⟩:=x;exact e
structure Fly (P:Program) (w:World) (outer:List Env) (H:Hp) (s:Shared) (a C:Addr) (a0:Value) (B:Heap) (H':Hp) (s':Shared):Prop where
 fl:Heap.FlyingW B outer a (.ref C) a0 s'.heap
 os:s'.os=s.os
 bare:AllBare s'.gens
 un:Un (bN outer) [] H H' s.heap s'.heap
 hok:HOk P w H' s'.heap
 kp:∀b o,s.heap.get? b=some o->H b=none->b∉bN outer->B.get? b=some o
 th:∀b o,s.heap.get? b=some o->b∉bN outer->∃o',B.get? b=some o'
 tr:∀b o,H' b=some o->∃u,B.get? b=some u
 nw:H' a=none
def qy (P:Program)(w:World):qz:=λouter H s E e s'=>∃(a C:Addr) (a0:Value) (B:Heap) (H':Hp),e= .ref a/\Fly P w outer H s a C a0 B H' s'/\E (.ref C) (some a) H'
def tZ {B:Heap}(ok:HOk P w H h)(tr:∀b o,H b=some o->∃u,B.get? b=some u)(k1:B.StaysIn h)(k2:B.StaysIn h'):HOk P w H h':=λa o e=>
 (ok a o e).stay (λb u hb q=>by
  have hH:∃o',H b=some o':=by
   rcases hb with rfl|hb
   .exact⟨_,e⟩
   .exact⟨_,hb⟩
  obtain⟨o',Ua⟩:=hH;obtain⟨u',hu'⟩:=tr b o' Ua;have z:=k1 b u' hu';rw[q] at z;cases z;exact k2 b _ hu') (λ_ z=>z) λ_ _ z=>z
section
variable {X:Cx} {pins:XL} {σ:St} {H:Hp} {s s':Shared}
def Q8 {base h:Heap}{l:List Env}(F:h.FunFrames base l){b:Addr}{o:Obj}(hb:b∈bN l)(e:h.get? b=some o):∀vs,o.data≠ .fields vs:=by
 obtain⟨_,o',h1,h2⟩:=F.mem hb;rw[e] at h1;cases h1;exact h2
def Fly.land {a C:Addr}{a0:Value}{B:Heap}{H':Hp}{h':Heap}(I:Inv X pins σ H s)(F:Fly X.prog X.w X.stack H s a C a0 B H' s')(k:B.StaysIn h')(sl:s'.heap.UpToSlots h')(t':Nat):
  Inv X pins σ H' {s' with heap:=h',toks:=t'}:=by
 have fr:=F.fl.2.2.1
 have u:Un (bN X.stack) [] H H' s.heap h':=by
  refine⟨λb o e n hb _=>k b o (F.kp b o e n hb),λb o e n hb _=>?_,F.un.free,λb o e _=>?_,F.un.tups,F.un.frzs,F.un.tbls⟩
  .obtain⟨s1,e1⟩:=F.un.slot b o e n hb (by simp);obtain⟨s2,e2⟩:=sl b _ e1 (Q8 fr hb e1);exact⟨s2,e2⟩
  .by_cases hb:b∈bN X.stack
   .obtain⟨o',e1⟩:=F.un.there b o e (by simp);obtain⟨s2,e2⟩:=sl b _ e1 (Q8 fr hb e1);exact⟨_,e2⟩
   .obtain⟨o',e1⟩:=F.th b o e hb;exact⟨o',k b o' e1⟩
 have hok:=tZ F.hok F.tr F.fl.1 k
 exact I.call' (s':={s' with heap:=h',toks:=t'}) (ch:=[]) F.os u hok F.bare (λb z=>absurd z (by simp))
end
section
variable {P:Program} {w:World} {K:Qd} {mg:Str->ad} {base:Heap} {N:xL} {qual:Str} {scope:Scope} {f:Addr} {cd:Value} {A:Around} {outer:List Env} {s0:Shared} {H0:Hp} {E:XK}
variable {b:Addr}
theorem gM (hb:b∈bN outer):b∈bN (envOfC qual scope s0.heap.objs.size f cd::outer):=by grind [bN]
def jT {o:Obj}(e:s0.heap.get? b=some o)(hb:b∉bN outer):b∉bN (envOfC qual scope s0.heap.objs.size f cd::outer):=λz=>by
 unfold bN at z hb;rw[Od] at z;have hl:=Lu e;rcases LZ.mp z with z|z
 .rw[z] at hl;exact absurd hl (MQ _)
 .exact hb z
def pq {pins:XL}{σ:St}{H:Hp}{s:Shared}{h1:Heap}{e C:Addr}{vs:jp}(I:Inv (ky (qy P w) P w K mg base N qual scope f cd A outer s0 H0 E) pins σ H s)
(hx:Heap.MadeExcOf s.heap h1 e (.ref C) vs)(q:E (.ref C) (some e) H):(ky (qy P w) P w K mg base N qual scope f cd A outer s0 H0 E).xe (.ref e) {s with heap:=h1}:=by
 have SV:∀env∈(envOfC qual scope s0.heap.objs.size f cd::outer),∀b,env.frame=some b->b∈bN (envOfC qual scope s0.heap.objs.size f cd::outer):=λenv he b hb=>Oi.mpr ⟨env,he,hb⟩
 have fr:s.heap.FunFrames base (envOfC qual scope s0.heap.objs.size f cd::outer):=I.stack
 have tr:∀b o,H b=some o->∃u,(PySem.W.hideAll s.heap (bN (envOfC qual scope s0.heap.objs.size f cd::outer))).get? b=some u:=λb o z=>by
  obtain⟨u,hu⟩:=(I.hok b o z).there;refine⟨u,Oc _ hu λhb=>?_⟩;have:=I.stkFree b hb;rw[z] at this;cases this
 have nw:H e=none:=by
  cases z:H e with
  |none=>rfl
  |some o=>
   obtain⟨u,hu⟩:=(I.hok e o z).there
   rw[hx.new] at hu;cases hu
 have L_:Un (bN outer) [] H0 H s0.heap s.heap:=I.base
 refine wpAny_leaves_madeW (base:=PySem.W.hideAll s.heap (bN (envOfC qual scope s0.heap.objs.size f cd::outer))) I.ok.frames rfl (λb o z=>Pe _ z) (PySem.W.funFrames_hide fr SV) hx λh' t x1 x2 x3 x4=>?_
 have kp:∀b o,s0.heap.get? b=some o->H0 b=none->b∉bN outer->(PySem.W.hideAll s.heap (bN (envOfC qual scope s0.heap.objs.size f cd::outer))).get? b=some o:=λb o z n hb=>
  Oc _ (L_.keep b o z n hb (by simp)) (jT z hb)
 have th:∀b o,s0.heap.get? b=some o->b∉bN outer->∃o',(PySem.W.hideAll s.heap (bN (envOfC qual scope s0.heap.objs.size f cd::outer))).get? b=some o':=λb o z hb=>by
  obtain⟨o',z'⟩:=L_.there b o z (by simp);exact⟨o',Oc _ z' (jT z hb)⟩
 have hk:=x1.1
 refine⟨e,C,_,_,H,rfl,⟨x1,I.os,I.bare,⟨λb o z n hb _=>hk b o (kp b o z n hb),λb o z n hb _=>?_,λb o z n _=>L_.free b o z n (by simp),λb o z _=>?_,L_.tups,L_.frzs,L_.tbls⟩,?_,kp,th,tr,nw⟩,q⟩
 .obtain⟨s1,e1⟩:=L_.slot b o z n hb (by simp)
  have nf:=Q8 fr (gM hb) e1
  obtain⟨s2,e2⟩:=x4 b _ (hx.keeps _ _ e1) nf
  exact⟨s2,e2⟩
 .by_cases hb:b∈bN outer
  .obtain⟨o',e1⟩:=L_.there b o z (by simp)
   obtain⟨s2,e2⟩:=x4 b _ (hx.keeps _ _ e1) (Q8 fr (gM hb) e1)
   exact⟨_,e2⟩
  .obtain⟨o',e1⟩:=th b o z hb
   exact⟨o',hk b o' e1⟩
 .exact tZ I.hok tr (λb o z=>Pe _ z) hk
def AF:dy (qy P w) (ky (qy P w) P w K mg base N qual scope f cd A outer s0 H0 E) E:=by
 intro pins σ H s e s' I h;obtain⟨a,C,a0,B,H',rfl,F,q⟩:=h;have fr:=F.fl.2.2.1;have L_:Un (bN outer) [] H0 H s0.heap s.heap:=I.base;refine wpAny_leaves_onW I.ok.frames rfl F.fl λh' x1 x2=>?_;have hk:=x1.1;have kp:∀b o,s0.heap.get? b=some o->H0 b=none->b∉bN outer->B.get? b=some o:=λb o z n hb=>
  F.kp b o (L_.keep b o z n hb (by simp)) (L_.free b o z n (by simp)) (jT z hb)
 have th:∀b o,s0.heap.get? b=some o->b∉bN outer->∃o',B.get? b=some o':=λb o z hb=>by
  obtain⟨o',z'⟩:=L_.there b o z (by simp);exact F.th b o' z' (jT z hb)
 have ub:Un (bN (envOfC qual scope s0.heap.objs.size f cd::outer)) [] H H' s.heap s'.heap:=F.un;refine⟨a,C,a0,B,H',rfl,⟨x1,F.os.trans I.os,F.bare,⟨λb o z n hb _=>hk b o (kp b o z n hb),λb o z n hb _=>?_,λb o z n _=>?_,λb o z _=>?_,λb xs z=>ub.tups b xs (L_.tups b xs z),λb o u z=>ub.frzs b o u (L_.frzs b o u z),λb ps z=>?_⟩,tZ F.hok F.tr F.fl.1 hk,kp,th,F.tr,F.nw⟩,q⟩
 .obtain⟨s1,e1⟩:=L_.slot b o z n hb (by simp);obtain⟨s2,e2⟩:=ub.slot b _ e1 (L_.free b o z n (by simp)) (gM hb) (by simp);obtain⟨s3,e3⟩:=x2 b _ e2 (Q8 fr (gM hb) e2);exact⟨s3,e3⟩
 .obtain⟨o',e1⟩:=L_.there b o z (by simp);exact ub.free b o' e1 (L_.free b o z n (by simp)) (by simp)
 .by_cases hb:b∈bN outer
  .obtain⟨o',e1⟩:=L_.there b o z (by simp);obtain⟨o2,e2⟩:=ub.there b o' e1 (by simp);obtain⟨s3,e3⟩:=x2 b _ e2 (Q8 fr (gM hb) e2);exact⟨_,e3⟩
  .obtain⟨o',e1⟩:=th b o z hb;exact⟨o',hk b o' e1⟩
 .obtain⟨m1,e1⟩:=L_.tbls b ps z;obtain⟨m2,e2⟩:=ub.tbls b _ e1;exact⟨m1++m2,by rw[e2,Ri]⟩
end
def Gi:jp:=[.type "ValueError",.type "Exception",.type "BaseException",.type "object"]
structure ExC (K:Qd) (mg:Str->ad) (x:Str) (C:Addr):Prop where
 bound:mg x=some (.ref C)
 exc:PySem.W.excIn K C Gi "ValueError.__new__"=true
variable {x:Str}{mg:Str->ad}
def ExC.own (O:ExC K mg x C)(X:K.In h):OwnCls x C Gi "ValueError.__new__" mg h:=by
 have q:=O.exc;refine⟨O.bound,?_⟩;unfold PySem.W.excIn at q;split at q
 .rename_i g1 g2 g3 lk
  split at q
  .rename_i c2 l2 i0 i1 i2 i3 nn i5 em es
   simp only[LN,RD,Mm] at q;obtain⟨⟨⟨⟨⟨ea,eb⟩,q1⟩,q2⟩,q3⟩,q4⟩:=q;subst ea;subst eb;obtain⟨y1,y2,y3,y4,y5,y6,y7,y8,y9,y10,y11⟩:=g2;dsimp only at em q1 q3 q4;subst em q1;have e3:g3= #[i0,i1,i2,i3,some (.builtin "ValueError.__new__"),i5]:=by
    cases g3 with
    |mk l=>
     have WJ:l=[i0,i1,i2,i3,some (.builtin "ValueError.__new__"),i5]:=es
     rw[WJ]
   subst e3;exact⟨l2,y4,y1,y5,y2,y6,y7,y8,y9,y10,g1,i0,i1,i2,i3,i5,h.nsMap y4,X _ _ lk,Heap.Ns.of_isNs (PySem.W.isNs_of_in X q3),PySem.W.nsMap_none_of_in X q3 q4,PySem.W.tail_of_in X q2⟩
  .cases q
 .cases q
def tT (X:Cx)(E:XK):Prop:=∀(pins:XL) (σ:St) (H:Hp) (s:Shared) (h1:Heap) (e C:Addr) (vs:jp),Inv X pins σ H s->Heap.MadeExcOf s.heap h1 e (.ref C) vs->E (.ref C) (some e) H->X.xe (.ref e) {s with heap:=h1}
variable {E:XK}{f:Addr}{base:Heap}{qual:Str}
def jV {N:xL}{scope:Scope}{cd:Value}{outer:List Env}{s0:Shared}{H0:Hp}:
  tT (ky (qy P w) P w K mg base N qual scope f cd A outer s0 H0 E) E:=λ_ _ _ _ _ _ _ _ I hx q=>pq I hx q
def ua (C:Addr)(E:XK)(ta:TA):TS:=λ_ σ H=>ta σ H λvs H1=>vs.length<=sizeLine/\∀e,H1 e=none->E (.ref C) (some e) H1
variable {e:Expr}{np:Pos}
def zQ {ta:TA}(R:tT X E)(O:ExC X.K X.mg x C)(hc:X.calm=true)(ha:PA X (e::es) ta)(hg:Gl X x:=by rfl)(w_:(x==("__debug__":Str))=false:=by decide)(h:F5 (e::es)=true:=by rfl):
  PS X (.Raise (some (.Call (.Name x np) (e::es) [] c_)) none pos) (ua C E ta):=by
 intro pins s σ H D I hw
 have h':(E2 e&&F5 es)=true:=h
 rw[LN] at h'
 have h1:starEach (e::es) X.env=(false,eval e X.env)::starEach es X.env:=X8 h'.1
 have h2:(backTo c_ (starEach es X.env)).any (·.1)=false:=dB h'.2
 obtain⟨tl,y0,y1,y2,y3,y4,y5,y6,y7,y8,y9,u0,u1,u2,u3,u5,mN,hC,hN,RI,T⟩:=(O.own I.ok.mod.kin).obj
 refine wpAny_Raise_call_subT (k5:=u5) (k3:=u3) (k2:=u2) (k1:=u1) (k0:=u0) (dd:=y9) (col:=y8) (ab:=y7) (sub:=y6) (sn:=y5) (hdct:=y4) (bs:=y3) (q:=y2) (nm:=y1) (N:=y0) (C:=C) (bm:=tl) (mN:=mN) PySem.F.excBase_ValueError (T.hasType (by decide)) (I.ok.hd hc) ?_ RI (gF I hg O.bound ⟨rfl,?_⟩ w_)
 .rw[h1]
  show(false||(backTo c_ (starEach es X.env)).any (·.1))=false
  rw[h2];rfl
 .have hw':=ha c_ pins s σ H _ I hw
  rw[h1] at hw'⊢
  refine NX (O9 hw' λus s1 ⟨vs,H1,I1,r,q1,q2⟩=>?_)
  refine⟨rfl,by rw[←r.length];exact q1,I1.bk _ _ hC,hN.keeps I1.bk,T.keeps I1.bk,λh2 e2 hm=>?_⟩
  have nw:H1 e2=none:=by
   cases z:H1 e2 with
   |none=>rfl
   |some o=>
    obtain⟨u,hu⟩:=(I1.hok e2 o z).there
    rw[hm.new] at hu;cases hu
  exact R pins σ H1 s1 h2 e2 C us I1 hm (q2 e2 nw)
def ql {ta:TA}(R:tT X E)(O:ExC X.K X.mg x C)(hc:X.calm=true)(ha:QA X (e::es) ta)(hg:Gl X x:=by rfl)(w_:(x==("__debug__":Str))=false:=by decide)(h:F5 (e::es)=true:=by rfl):
  QS X (.Raise (some (.Call (.Name x np) (e::es) [] c_)) none pos) (ua C E ta):=⟨zQ R O hc ha.r hg w_ h⟩
def Ki (te:TE)(c:Str):TE:=λσ H Q=>te σ H λv H1=>∃y:Str,v= .str y/\y.length+c.length<=1000/\∀z:Str,Q (.str z) H1
theorem KA {c:Str}{p1 p2:Pos}{j}(he:QE X e te):QE X (.JoinedStr [.FormattedValue e (-1) none p1,.Constant (.str c) j p2] pos) (Ki te c):=⟨by
 intro pins s σ H Q I h;refine JoinedStr_many (joinParts_cons (FormattedValue_plain (O9 (he.r pins s σ H _ I h) λu s1 ⟨v,H1,I1,r,y,ev,hl,q⟩=>?_)));subst ev;obtain⟨t,rfl⟩:=(show ∃t,u=Value.str y t from r)
 refine formatField_str (λt' tk=>?_) (d8 (by lia));refine⟨d8 (by rw[Rr];show 0+_<=1000;lia),joinParts_cons ?_⟩;have hc:=(jE (X:=X) (x:=c) (j:=j) (pos:=p2)).r pins {s1 with toks:=tk} σ H1 (λv H2=>v= .str c/\H2=H1) (I1.tok tk) ⟨rfl,rfl⟩;refine O9 hc λu2 s2 ⟨v2,H2,I2,r2,e2,e3⟩=>?_;subst e2 e3;obtain⟨t2,rfl⟩:=(show ∃t,u2=Value.str c t from r2)
 have hz:(Str.empty++y++c).length<=sizeLine:=d8 (by rw[Rr,Rr];show 0+_+_<=1000;lia);refine⟨hz,joinParts_nil ⟨.str (Str.empty++y++c),H2,I2.tok _,⟨_,rfl⟩,q _⟩ hz⟩⟩
def Fun.okE {st:Stmt}{fd:FuncData}{N ps:xL}{k:Nat}{sp:Sp}(F:Fun K x qual st f fd)(S:j5 N ps (i7 st))(len:∀vs H Q E,sp vs H Q E->vs.length=ps.length)
(Qy:∀(d_:Value) (A:Around) (outer:List Env) (s:Shared) (H:Hp) (vs:ap) (Q:VK) (E:XK),Room k (A.deeper (envOfC qual (i7 st) s.heap.objs.size f d_))->sp vs H Q E->
   ∃t,PSs (ky (qy P w) P w K mg base N qual (i7 st) f d_ A outer s H E) (Y7 st) t/\t {nx:=λ_ H'=>Q .non H',rt:=Q} (gX N vs) H):E4 P w K mg base (qy P w) (k+1) f fd ps sp:=by
 obtain⟨oc,od,kV,doc,pm,an,d_,ct,RV,rfl,lk,RR⟩:=F.ex
 exact CO lk RR S len λA outer s H vs Q E hr TU=>Qy d_ A outer s H vs Q E hr TU
abbrev Cx.pinned (X:Cx)(pins:XL):Cx:={X with pn:=X.pn++pins}
def Ky (X:Cx)(pins:XL)(Es:St->XK):XV:=λe s'=>∃(o_:XL) (σ:St) (H:Hp) (s:Shared),Inv (X.pinned pins) o_ σ H s/\qy X.prog X.w X.stack H s (Es σ) e s'
abbrev Cx.tried (X:Cx)(pins:XL)(Es:St->XK):Cx:={X with pn:=X.pn++pins,xe:=Ky X pins Es}
abbrev Cx.suite (X:Cx)(e:Addr):Cx:={X with A:=X.A.mark (some (.ref e)),calm:=false,xe:=λ_ _=>False}
section
variable {X:Cx} {pins o_:XL} {Es:St->XK} {σ:St} {H:Hp} {s:Shared} {e:Addr}
def Inv.toTried (I:Inv X pins σ H s):Inv (X.tried pins Es) [] σ H s:=
 ⟨⟨I.ok.mod,I.ok.kind,I.ok.glob,I.ok.blt,I.ok.above,I.ok.inj,I.ok.has,I.ok.cab,I.ok.hd,I.ok.frames,I.ok.stk,I.ok.exf,I.ok.bs,I.ok.bsz,I.ok.noex,I.ok.exfs,I.ok.funs,I.ok.frf⟩,
  I.os,I.bare,I.base,I.loc,I.cell,I.free,I.freeC,λp hp=>I.pin p (by simpa using hp),I.hok,I.len⟩
def Inv.ofTried (I:Inv (X.tried pins Es) o_ σ H s):Inv X pins σ H s:=
 ⟨⟨I.ok.mod,I.ok.kind,I.ok.glob,I.ok.blt,I.ok.above,I.ok.inj,I.ok.has,I.ok.cab,I.ok.hd,I.ok.frames,I.ok.stk,I.ok.exf,I.ok.bs,I.ok.bsz,I.ok.noex,I.ok.exfs,I.ok.funs,I.ok.frf⟩,
  I.os,I.bare,I.base,I.loc,I.cell,I.free,I.freeC,λp hp=>I.pin p (Lb _ hp),I.hok,I.len⟩
def Inv.ofPinned (I:Inv (X.pinned pins) o_ σ H s):Inv X pins σ H s:=
 ⟨⟨I.ok.mod,I.ok.kind,I.ok.glob,I.ok.blt,I.ok.above,I.ok.inj,I.ok.has,I.ok.cab,I.ok.hd,I.ok.frames,I.ok.stk,I.ok.exf,I.ok.bs,I.ok.bsz,I.ok.noex,I.ok.exfs,I.ok.funs,I.ok.frf⟩,
  I.os,I.bare,I.base,I.loc,I.cell,I.free,I.freeC,λp hp=>I.pin p (Lb _ hp),I.hok,I.len⟩
def Inv.triedPinned (I:Inv (X.tried pins Es) o_ σ H s):Inv (X.pinned pins) o_ σ H s:=
 ⟨⟨I.ok.mod,I.ok.kind,I.ok.glob,I.ok.blt,I.ok.above,I.ok.inj,I.ok.has,I.ok.cab,I.ok.hd,I.ok.frames,I.ok.stk,I.ok.exf,I.ok.bs,I.ok.bsz,I.ok.noex,I.ok.exfs,I.ok.funs,I.ok.frf⟩,
  I.os,I.bare,I.base,I.loc,I.cell,I.free,I.freeC,I.pin,I.hok,I.len⟩
def qN (A:Around)(h:ad):(A.mark h).frames=A.frames:=rfl
def Inv.toSuite (I:Inv X pins σ H s):Inv (X.suite e) pins σ H s:=
 ⟨⟨I.ok.mod,I.ok.kind,I.ok.glob,I.ok.blt,I.ok.above,I.ok.inj,I.ok.has,I.ok.cab,(λz=>nomatch z),(qN _ _).trans I.ok.frames,I.ok.stk,I.ok.exf,I.ok.bs,I.ok.bsz,I.ok.noex,I.ok.exfs,I.ok.funs,I.ok.frf⟩,
  I.os,I.bare,I.base,I.loc,I.cell,I.free,I.freeC,I.pin,I.hok,I.len⟩
def Inv.ofSuite (ok:X.Ok)(I:Inv (X.suite e) pins σ H s):Inv X pins σ H s:=
 ⟨ok,I.os,I.bare,I.base,I.loc,I.cell,I.free,I.freeC,I.pin,I.hok,I.len⟩
def IsExc (a C:Addr)(h:Heap):Prop:=∃o vs,h.get? a=some o/\o.cls= .ref C/\o.data= .fields vs
variable {a C:Addr}
theorem yd {P:Program}{w:World}{H:Hp}{h:Heap}(x:IsExc a C h):ObjOk P w H h a (.ext (IsExc a C)):=by grind [IsExc,ObjOk]
def Inv.track (I:Inv X pins σ H s)(hn:H a=none)(x:IsExc a C s.heap)(h0:X.s₀.heap.get? a=none)(hp:∀p∈X.pn++pins,p.1≠a):Inv X pins σ (u9 H a (.ext (IsExc a C))) s:=by
 obtain⟨o,vs,e,c,d⟩:=id x;have ne0:∀b ob,X.s₀.heap.get? b=some ob->b≠a:=λb ob z q=>by rw[q,h0] at z;cases z
 refine⟨I.ok,I.os,I.bare,⟨I.base.keep,I.base.slot,λb ob z n hx=>?_,I.base.there,λb xs z=>?_,λb ob u z=>?_,λb ps z=>?_⟩,I.loc,I.cell,?_,λy c' z=>?_,λp hq=>?_,λb u z=>?_,I.len⟩
 .rw[b7 (ne0 b ob z)];exact I.base.free b ob z n hx
 .have z':=I.base.tups b xs z;rw[b7 λq=>by rw[q,hn] at z';cases z'];exact z'
 .have z':=I.base.frzs b ob u z;rw[b7 λq=>by rw[q,hn] at z';cases z'];exact z'
 .obtain⟨more,z'⟩:=I.base.tbls b ps z;exact⟨more,by rw[b7 λq=>by rw[q,hn] at z';cases z'];exact z'⟩
 .obtain⟨m,⟨oL,es,ep,hL,dL,_⟩,_⟩:=I.loc;rw[b7 λq=>?_]
  .exact I.free
  .rw[q,e] at hL;cases hL;rw[d] at dL;cases dL
 .obtain⟨v,oc,US,hod⟩:=I.cell y c' z;rw[b7 λq=>?_]
  .exact I.freeC y c' z
  .rw[q,e] at US;cases US;rw[d] at hod;cases hod
 .obtain⟨p1,p2,p3,p4,p5⟩:=I.pin p hq;exact⟨p1,by rw[b7 (hp p hq)];exact p2,p3,p4,p5⟩
 .by_cases q:b=a
  .subst q;rw[b5] at z;cases z;exact yd x
  .rw[b7 q] at z;refine(I.hok b u z).stay (λ_ _ _ q=>q) (λb' q'=>?_) λb' xs q'=>?_
   .rw[b7 λk=>by rw[k,hn] at q';cases q'];exact q'
   .rw[b7 λk=>by rw[k,hn] at q';cases q'];exact q'
def ej {M:Model}{A:Around}{E:XV}{i:Nat}{n:Str}{pos:Pos}{Q:Unit->Shared->Prop}(I:Inv X pins σ H s)(hN:X.N.Nodup)(hi:X.N[i]?=some n)(hl:X.env.scope.names.lookup n=some .local)
(h:∀s',Inv X pins (σ.set i none) H s'->Q () s'):wpAny M A (do bindName X.env n .none;unbindBehindTheSuite X.env n pos) Q E s:=by
 obtain⟨m,hn,hm⟩:=id I.loc
 have UQ:(X.env.scope.kind== .class||(X.env.scope.kind== .module&&X.env.locals !=X.env.globals))=false:=by rw[I.ok.kind];rfl
 have Ym:i<σ.length:=by rw[I.len];exact(Mq.mp hi).1
 refine wpAny_nameGoes_keeps hl hn UQ λh' v SU hs=>h _ ?_
 have nL:∀b o,X.s₀.heap.get? b=some o->b≠X.env.locals:=λb o e=>Lz (Lv (Lu e) I.ok.above)
 refine⟨I.ok,I.os,I.bare,⟨λb o e n hb hx=>?_,λb o e n hb hx=>?_,I.base.free,λb o e hx=>?_,I.base.tups,I.base.frzs,I.base.tbls⟩,⟨_,SU,λj y v' e1 e2 e3=>?_⟩,λy c e=>?_,I.free,I.freeC,λp hp=>?_,λb ob e=>?_,by simpa using I.len⟩
 .exact(hs.2 b (nL b o e)).trans (I.base.keep b o e n hb hx)
 .obtain⟨sl,e1⟩:=I.base.slot b o e n hb hx
  exact⟨sl,(hs.2 b (nL b o e)).trans e1⟩
 .obtain⟨o',e1⟩:=I.base.there b o e hx
  exact⟨o',(hs.2 b (nL b o e)).trans e1⟩
 .by_cases hj:j=i
  .subst hj
   rw[Nl Ym] at e2
   cases e2
  .rw[MS (MY hj)] at e2
   obtain⟨u',r',q⟩:=hm j y v' e1 e2 e3
   refine⟨u',r',?_⟩
   rcases q with⟨k,e⟩|⟨k,c,e,z⟩
   .refine .inl ⟨k,?_⟩
    have hy:y≠n:=λe=>hj (kD hN e1 (e▸hi))
    show(if y=n then v else m y)=some u'
    rw[if_neg hy];exact e
   .exact .inr ⟨k,c,e,z.sameBut hs (I.cne y c e)⟩
 .obtain⟨w',z⟩:=I.cell y c e
  exact⟨w',z.sameBut hs (I.cne y c e)⟩
 .obtain⟨e,n,ne,nf,d⟩:=I.pin p hp
  exact⟨(hs.2 p.1 ne).trans e,n,ne,nf,d⟩
 .refine(I.hok b ob e).stay (λc w' hc q=>(hs.2 c ?_).trans q) (λ_ q=>q) λ_ _ q=>q
  rintro rfl
  have f:=I.free
  rcases hc with rfl|hc
  .rw[f] at e;cases e
  .rw[f] at hc;cases hc
end
def yE (sp:Sp)(r_:ap)(Es:St->XK)(t:TA):TE:=λσ H Q=>t σ H λvs H1=>sp (vs++r_) H1 Q (Es σ)
section
variable {X:Cx} {pins:XL} {Es:St->XK} {k:Nat} {ps:xL} {r_:ap} {sp:Sp} {x:Str} {p pos:Pos} {e:Expr} {es:List Expr} {t:TA}
def KL (C:U8 X.prog X.w X.K X.mg X.base (qy X.prog X.w) k x ps r_ sp)(hr:Room k X.A)(ha:QA (X.tried pins Es) (e::es) t)(hg:Gl X x:=by rfl)
(w_:(x==("__debug__":Str))=false:=by decide)(h:F5 (e::es)=true:=by rfl):QE (X.tried pins Es) (.Call (.Name x p) (e::es) [] pos) (yE sp r_ Es t):=⟨by
 have h':(E2 e&&F5 es)=true:=h
 rw[LN] at h'
 obtain⟨f,fd,ds,F,hm,hk,hb,hd⟩:=C
 intro o_ s σ H Q I hw
 refine Nm (gF I hg hm ?_ w_)
 refine Rk (h₀:=X.base) I.ok.mod.kin hk (O9 (ha.r pos o_ s σ H _ I hw) λus s1 ⟨vs,H1,I1,r,q⟩=>⟨I1.kIn,?_⟩) (X8 h'.1) (dB h'.2)
 have r2:Vals (vs++r_) (us++ds):=r.append hd
 have hl:(us++ds).length=ps.length:=by rw[←r2.length];exact F.len _ _ _ _ q
 refine QD (OK (F.run X.A X.stack s1 H1 ⟨us,[]⟩ (us++ds) (vs++r_) Q (Es σ) hr I1.env0 (hb s1 us I1.kIn hl) r2 q) λr s' hq=>?_)
 cases r with
 |error e=>exact⟨o_,σ,H1,s1,I1.triedPinned,hq⟩
 |ok fl=>
  cases fl with
  |ret u=>exact I1.after hq
  |next=>exact False.elim hq
  |brk=>exact False.elim hq
  |cont=>exact False.elim hq⟩
end
def qD {M:Model}{E:XV}{T:Addr}{b:Bool}{Q:Bool->Shared->Prop}(X:K.In s.heap)(x:IsExc a C s.heap)(hm:PySem.W.typeIn K (.ref T)=some (.type "type"))
(he:PySem.W.subIn K (.ref T) (.type "BaseException")=some true)(hc:(PySem.W.clsIn K T).isSome=true)(hs:PySem.W.subIn K (.ref C) (.ref T)=some b)(q:Q b s):wpAny M A (excMatches (.ref a) (.ref T)) Q E s:=by
 obtain⟨oe,vs,ex,ec,ed⟩:=x
 have L1:PySem.W.Looks M s.heap (isInstance (.ref T) (.type "tuple")) false:=(PySem.W.looks_typeIn X hm).andThen (PySem.W.Looks.of_pure tc_notTuple)
 have L2:PySem.W.Looks M s.heap (isType (.ref T)) true:=by
  unfold PySem.W.clsIn at hc;split at hc
  .rename_i lk
   intro A' Q' E' s' k q';unfold isType loadHead;exact Lj (wpAny_loadPart (k _ _ (X _ _ lk)) (Lw q'))
  .cases hc
 have L3:=Rb (M:=M) X he
 have L4:PySem.W.Looks M s.heap (typeOf (.ref a)) (.ref C):=by
  have z:PySem.W.Looks M s.heap (typeOf (.ref a)) oe.cls:=(PySem.W.Looks.ld ex).andThen .now;rw[ec] at z;exact z
 have L5:=Rb (M:=M) X hs
 unfold excMatches
 refine Lj (L1.here ?_)
 simp only[Ou,QF]
 have LX:PySem.W.Looks M s.heap (isExcClass (.ref T)) true:=by
  unfold isExcClass;exact L2.andThen (by simpa using L3)
 refine Lj (Lw ?_)
 refine Lj ?_
 rw[Ot]
 refine Lj (Lj (LX.here ?_))
 simp only[Bool.not_true,Ou,QF]
 refine Lw ?_
 simp only[Pj]
 refine Lw ?_
 refine Lj (L4.here ?_)
 refine Lj ?_
 rw[Ot]
 refine Lj (Lj (L5.here ?_))
 cases b with
 |true=>
  simp only[Pw]
  exact Lw (Lw (Lw q))
 |false=>
  simp only[Ou,QF]
  refine Lw ?_
  simp only[Pj]
  exact Lw (Lw q)
structure JN (K:Qd) (mg:Str->ad) (x:Str) (T:Addr):Prop where
 bound:mg x=some (.ref T)
 ty:PySem.W.typeIn K (.ref T)=some (.type "type")
 exc:PySem.W.subIn K (.ref T) (.type "BaseException")=some true
 cls:(PySem.W.clsIn K T).isSome=true
def Ge (K:Qd)(T:Addr)(i:Nat)(tb:(St->XK)->TS)(ts:TS):TS:=λD σ H=>
 tb (λσ' c oa H'=>∃C a,c= .ref C/\oa=some a/\PySem.W.subIn K (.ref C) (.ref T)=some true/\
  ts {nx:=λσ2 H2=>D.nx (σ2.set i none) H2,rt:=D.rt,bk:=λσ2 H2=>D.bk (σ2.set i none) H2,ct:=λσ2 H2=>D.ct (σ2.set i none) H2} (σ'.set i (some (.ref a))) (u9 H' a (.ext (IsExc a C)))) D σ H
section
variable {X:Cx} {x n:Str} {T:Addr} {np RJ pos:Pos} {i:Nat} {b₀:Stmt} {body suite:List Stmt} {tb:(St->XK)->TS} {ts:TS}
def FI (O:JN X.K X.mg x T)(hN:X.N.Nodup)(hi:X.N[i]?=some n)(hl:X.env.scope.names.lookup n=some .local)(hb:∀pins Es,PSs (X.tried pins Es) body (tb Es))(hs:∀e,PSs (X.suite e) (b₀::suite) ts)
(SV:X.stack=X.env::X.outer)(Q_:X.env.frame=some X.env.locals)(hex:X.ex=[])(hg:Gl X x:=by rfl)(w_:(x==("__debug__":Str))=false:=by decide):
  PS X (.Try body [.ExceptHandler (some (.Name x np)) (some n) (b₀::suite) RJ] [] [] pos) (Ge X.K T i tb ts):=by
 intro pins s σ H D I hw
 refine wpAny_Try_except (OS (hb pins _ [] s σ H D I.toTried hw) (λf s1 q=>?_) λe s1 q=>?_)
 .cases f with
  |next=>obtain⟨σ',H',I',q'⟩:=q;exact Oh ⟨σ',H',I'.ofTried,q'⟩
  |brk=>obtain⟨σ',H',I',q'⟩:=q;exact⟨σ',H',I'.ofTried,q'⟩
  |cont=>obtain⟨σ',H',I',q'⟩:=q;exact⟨σ',H',I'.ofTried,q'⟩
  |ret u=>obtain⟨v,σ',H',I',r',q'⟩:=q;exact⟨v,σ',H',I'.ofTried,r',q'⟩
 .obtain⟨o_,σ',H1,s2,I2',a,C',a0,B,H',rfl,F,C,a',ec,ea,Vd,Zy⟩:=q
  cases ec
  cases ea
  have I2:=I2'.ofPinned
  have F':=F.fl
  rw[SV] at F'
  refine wpAny_looks_onW (by rw[I.ok.frames,SV]) Q_ F' λh4 held4 sm4=>?_
  refine wpAny_landsW held4 λh5 Ti sm5=>?_
  have I5:Inv X pins σ' H' {s1 with heap:=h5}:=F.land I2 Ti.1 (sm4.trans sm5) s1.toks
  have Zz:IsExc a C' h5:=by
   obtain⟨oe,vs,z1,z2,z3,_⟩:=Ti.first;exact⟨oe,vs,z1,z2,z3⟩
  refine wpAny_handleBy_cons (codeAny_handlers_test ?_) (by intro q;cases q)
  refine gF (X:=X.suite a) (I5.toSuite (e:=a)) hg O.bound ?_ w_
  refine qD I5.kIn Zz O.ty O.exc O.cls Vd ?_
  refine codeAny_handlers_suite_as ?_
  refine lands_againW Ti λh6 hfl6 sm6=>?_
  have I6:Inv X pins σ' H' {s1 with heap:=h6}:=F.land I2 hfl6.1 ((sm4.trans sm5).trans sm6) s1.toks
  have Ys:IsExc a C' h6:=by
   obtain⟨oe,vs,z1,z2,z3,_⟩:=hfl6.first;exact⟨oe,vs,z1,z2,z3⟩
  have nB:B.get? a=none:=hfl6.2.1
  have nfr:a∉bN X.stack:=λhb=>by
   obtain⟨oe,vs,z1,z2,z3⟩:=Ys;rw[SV] at hb;exact Q8 hfl6.2.2.1 hb z1 vs z3
  have n2:s2.heap.get? a=none:=by
   cases z:s2.heap.get? a with
   |none=>rfl
   |some o=>
    obtain⟨o',z'⟩:=F.th a o z nfr
    rw[nB] at z';cases z'
  have n0:X.s₀.heap.get? a=none:=by
   cases z:X.s₀.heap.get? a with
   |none=>rfl
   |some o=>
    obtain⟨o',z'⟩:=I2.base.there a o z (by rw[hex];simp)
    rw[n2] at z';cases z'
  have I7:=(I6.track F.nw Ys n0 λp hp q=>by
   have z:=(I2.pin p hp).1;rw[q,n2] at z;cases z).toSuite (e:=a)
  refine mj (X:=X.suite a) I7 hN hi (.inl hl) (v:= .ref a) rfl (λs8 I8=>?_) (.inr hl)
  refine OS (hs a pins s8 _ _ _ I8 Zy) (λf s9 q=>?_) λ_ _ z=>z.elim
  cases f with
  |next=>
   obtain⟨σ9,H9,I9,q9⟩:=q
   exact ej (I9.ofSuite I.ok) hN hi hl λZA I10=>⟨_,_,I10,q9⟩
  |brk=>
   obtain⟨σ9,H9,I9,q9⟩:=q
   exact ej (I9.ofSuite I.ok) hN hi hl λZA I10=>⟨_,_,I10,q9⟩
  |cont=>
   obtain⟨σ9,H9,I9,q9⟩:=q
   exact ej (I9.ofSuite I.ok) hN hi hl λZA I10=>⟨_,_,I10,q9⟩
  |ret u=>
   obtain⟨v9,σ9,H9,I9,r9,q9⟩:=q
   exact ej (I9.ofSuite I.ok) hN hi hl λZA I10=>⟨_,_,_,I10,r9,q9⟩
def Jq (O:JN X.K X.mg x T)(hN:X.N.Nodup)(hi:X.N[i]?=some n)(hb:∀pins Es,QSs (X.tried pins Es) body (tb Es))(hs:∀e,QSs (X.suite e) (b₀::suite) ts)(hl:X.env.scope.names.lookup n=some .local:=by rfl)
(SV:X.stack=X.env::X.outer:=by rfl)(Q_:X.env.frame=some X.env.locals:=by rfl)(hex:X.ex=[]:=by rfl)(hg:Gl X x:=by rfl)(w_:(x==("__debug__":Str))=false:=by decide):
  QS X (.Try body [.ExceptHandler (some (.Name x np)) (some n) (b₀::suite) RJ] [] [] pos) (Ge X.K T i tb ts):=⟨FI O hN hi hl (λp E=>(hb p E).r) (λe=>(hs e).r) SV Q_ hex hg w_⟩
end
end L2
namespace L2
open PySem PySem.Spec PyProof.Rows PySem.W
def cV:Value->V->Prop
 | .ref T,v=>v= .ref T
 | .type n,v=>v= .ty n
 |_,_=>False
def cA (K:Frag)(x:Str):Addr:=match nsIn K mainGlobals x with
 |some (some (.ref C))=>C
 |_=>0
variable {P:Program}{w:World}{X:Cx}
def Cz:dy (qy P w) X E0:=λ_ _ _ _ _ _ _ ⟨_,_,_,_,_,_,_,z⟩=>z.elim
section
variable {K:Frag} {σ:St} {H:Hp} {Q:VK} {D:tE}
def AU {C:Addr}{E:XK}{ta:TA}(q:ta σ H λvs H1=>vs.length<=sizeLine/\∀e,H1 e=none->E (.ref C) (some e) H1):ua C E ta D σ H:=q
def Ji {te:TE}{c:Str}(q:te σ H λv H1=>∃y:Str,v= .str y/\y.length+c.length<=1000/\∀z:Str,Q (.str z) H1):Ki te c σ H Q:=q
def HX {T:Addr}{i:Nat}{tb:(St->XK)->TS}{ts:TS}(q:tb (λσ' c oa H'=>∃C a,c= .ref C/\oa=some a/\PySem.W.subIn K (.ref C) (.ref T)=some true/\
  ts {nx:=λσ2 H2=>D.nx (σ2.set i none) H2,rt:=D.rt,bk:=λσ2 H2=>D.bk (σ2.set i none) H2,ct:=λσ2 H2=>D.ct (σ2.set i none) H2} (σ'.set i (some (.ref a))) (u9 H' a (.ext (IsExc a C)))) D σ H):Ge K T i tb ts D σ H:=q
def Cv {sp:Sp}{r_:ap}{Es:St->XK}{t:TA}(q:t σ H λvs H1=>sp (vs++r_) H1 Q (Es σ)):yE sp r_ Es t σ H Q:=q
end
def GB (K:Frag):R2:=λ_ _ _ _=>False
def ED (hu:X.A.units+64<cLine):OpR X (compareOp .NotEq) (GB X.K):=by
 intro pins s σ H x y v u Q I rx ry h;exact h.elim
def BP (K:Frag):R2:=λx y H Q=>wz K x y H Q\/GB K x y H Q
def JR (K:Frag){k:Nat}(hr:Room k X.A)(h:X.K=K:=by rfl):OpR X (compareOp .NotEq) (BP K):=(KG K hr h).or (h▸ED hr.units)
def Ca:V->ap->Hp->VK->Prop:=λx vs H Q=>∃a kvs,x= .ref a/\vs=[]/\H a=some (.dK kvs)/\Q .non (u9 H a (.dK []))
def kT:xV X "dict.clear" Ca:=by
 intro pins s σ H x vs v us Q I rx rv h;obtain⟨a,kvs,rfl,rfl,hH,q⟩:=h;cases rx;have UZ:=rv.zero;subst UZ;exact BR I hH λs' I'=>⟨.non,_,I',rfl,q⟩
variable {K:Frag}{H:Hp}
def Jv {Q:VK}{x y:V}(q:wz K x y H Q):BP K x y H Q:= .inl q
def Al {Q:VK}{i j:Int}(q:Q (.bl (!decide (i=j))) H):BP K (.int i) (.int j) H Q:= .inl (sU q)
def U3 (ka kb:am):am:=kb.foldl (λa x=>F7 a x.1 x.2) ka
theorem oi:∀{kb ka:am},(U3 ka kb).length<=ka.length+kb.length
 |[],ka=>La _
 |p::r,ka=>by
  show(U3 (F7 ka p.1 p.2) r).length<=_;have z:=oi (kb:=r) (ka:=F7 ka p.1 p.2);have z2:=R5 ka p.1 p.2;rw[Mj];lia
def BU:V->ap->Hp->VK->Prop:=λx vs H Q=>∃a b ka kb,x= .ref a/\vs=[.ref b]/\H a=some (.dK ka)/\Rd H b (.dK kb)/\a≠b/\ka.length+kb.length<=1000/\Q .non (u9 H a (.dK (U3 ka kb)))
def U1:xV X "dict.update" BU:=by
 intro pins s σ H x vs v us Q I rx rv h;obtain⟨a,b,ka,kb,rfl,rfl,hA,hB,x_,hl,q⟩:=h;cases rx;obtain⟨u,rfl,ru⟩:=X3 rv;cases ru;obtain⟨z,hd,va,ra,da⟩:=vK I.hok hA;obtain⟨z2,hd2,vb,rb,db⟩:=U5 I.hok hB;have lz:ka.length+kb.length<=sizeLine:=d8 hl;refine ML Ng da.typeIs PySem.F.entry_dict_update (PySem.F.args_dict_update_2 _ _) (meets_dict_update (z0 X.prog X.w) a b x_ hd2) ⟨va,vb,da,db,by rw[←ra.length,←rb.length];exact lz,λh' dd' _ hs=>?_⟩;have he:∃q,h'.get? a=some q:=let ⟨q,_,_,hq,_⟩:=dd';⟨q,hq⟩
 have TV:=oi (kb:=kb) (ka:=ka);refine⟨.non,_,eI (t':=s.toks) I (by rw[hA];exact True.intro) hs he (fX (kvs:=U3 ka kb) (LJ TV lz) hd (KV.puts rb ra) dd'),rfl,q⟩
section
open PySem.Builtin PySem.Builtin.Str
theorem rC (x:Str)(l u:Option Int):(Txt.slice x l u).length<=(strSliceIndices l u 1 x.length).length:=by
 unfold Txt.slice;split
 .next h=>
  have h':(strSliceIndices l u 1 x.length).length=x.length:=by simpa using h
  lia
 .show(List.filterMap _ (strSliceIndices l u 1 x.length)).toArray.size<=_;rw[LG];exact List.length_filterMap_le _ _
theorem su (x:Str)(i:Int)(h0:0<=i)(h1:i<=x.length):(Txt.slice x none (some i)).length<=i.toNat:=by
 refine LJ (rC x none (some i)) ?_;unfold strSliceIndices sliceRange;simp only[show(1:Int)>0 by decide,Pw,KW,MW];repeat(first|split|lia)
theorem lN (x:Str)(i:Int)(h0:0<=i)(h1:i<=x.length):(Txt.slice x (some i) none).length<=x.length -i.toNat:=by
 refine LJ (rC x (some i) none) ?_;unfold strSliceIndices sliceRange;simp only[show(1:Int)>0 by decide,Pw,KW,MW];repeat(first|split|lia)
end
def cN (σ:xL)(x:Str):xL:=if x∈σ then σ else σ++[x]
def jb (ss:xL):xL:=ss.foldl cN []
theorem uK (σ:xL)(x:Str):(cN σ x).length<=σ.length+1:=by
 unfold cN;split
 .lia
 .rw[Lg];simp
theorem yv {σ:xL}{x y:Str}:y∈cN σ x↔y∈σ\/y=x:=by grind [cN]
theorem lq:∀(ss σ:xL),(ss.foldl cN σ).length<=σ.length+ss.length
 |[],σ=>La _
 |x::r,σ=>by
  have z:=lq r (cN σ x);have z2:=uK σ x;rw[NR,Mj];lia
theorem oI:∀(ss σ:xL),σ.Nodup->((ss.foldl cN σ).length=σ.length+ss.length↔(σ++ss).Nodup)
 |[],σ,nd=>by simp [nd]
 |x::r,σ,nd=>by
  rw[NR,Mj];by_cases h:x∈σ
  .have e:cN σ x=σ:=by unfold cN;rw[if_pos h]
   rw[e];have z:=lq r σ;constructor
   .intro q;lia
   .intro q;exact absurd rfl ((Ls.mp q).2.2 x h x (by simp))
  .have e:cN σ x=σ++[x]:=by unfold cN;rw[if_neg h]
   have nd':(σ++[x]).Nodup:=Ls.mpr ⟨nd,by simp,λa ha b hb e=>h (by
    have hbx:b=x:=by simpa using hb
    rw[←hbx,←e];exact ha)⟩
   have z:=oI r (σ++[x]) nd';rw[e];rw[Lg,Lq] at z;rw[Mi] at z;show _↔(σ++([x]++r)).Nodup;rw[←z];lia
def qW (ss:xL):(jb ss).length=ss.length↔ss.Nodup:=by
 have z:=oI ss [] Mz;simpa [jb] using z
def StrsAre:jp->xL->Prop:=Paired λu x=>∃t,u= .str x t
variable {prog:Program}{A:Around}{d l:Addr}
theorem yD {it:Addr}{items:jp}(hh:A.handled=none)(Vc:d≠it)(Zv:l≠it)(Zw:l≠d):
  ∀(more:xL) (i:Nat) (s:Shared) (σ:xL) (R:Result->Shared->Prop),
   s.heap.IsListIter it l i->s.heap.IsList l items.toArray->StrsAre (items.drop i) more->s.heap.SetOf (strKind prog w) d (λk=>decide (k∈σ)) σ.length->σ.length+more.length<2000->
   (∀h' tk,(∀b o,b≠d->b≠it->s.heap.get? b=some o->h'.get? b=some o)->h'.SetOf (strKind prog w) d (λk=>decide (k∈more.foldl cN σ)) (more.foldl cN σ).length->R (.ok (.ret .none)) {s with heap:=h',toks:=tk})->
   codeAny (model prog w) A (.builtin "set.update.loop" ⟨[.ref d,.ref it],[]⟩) R s:=by
 intro more
 induction more with
 |nil=>
  intro i s σ R hit hl hp hd hz hR
  have hx:items.toArray[i]?=none:=by
   have hn:items.drop i=[]:=by cases z_:items.drop i with
    |nil=>rfl
    |cons x r=>rw[z_] at hp;cases hp
   have:=OQ.mp hn;simp;lia
  refine MN F.entry_set_update_loop ?_
  rw[MH Ow _]
  show wpAny _ A.in1 (pyNext (.ref it)>>=_) _ _ s
  refine Lj (OJ (A:=A.in1) hh hit hl hx λh' eb=>?_)
  show wpAny _ A.in1 (ret Value.none) _ _ _
  refine Lw (hR h' s.toks (λb o h1 h2 e=>eb b o h2 e) ?_)
  obtain⟨o,es,ep,t,ho,r⟩:=hd
  exact⟨o,es,ep,t,eb d o Vc ho,r⟩
 |cons x more ih=>
  intro i s σ R hit hl hp hd hz hR
  obtain⟨u,hx,⟨t,rfl⟩,Sn⟩:∃u,items.toArray[i]?=some u/\(∃t,u=Value.str x t)/\StrsAre (items.drop (i+1)) more:=by
   cases z_:items.drop i with
   |nil=>rw[z_] at hp;cases hp
   |cons u r=>
    rw[z_] at hp
    cases hp with
    |cons h1 h2=>
     refine⟨u,?_,h1,?_⟩
     .have z:=MG List.head? z_
      simpa using z
     .have z:=MG List.tail z_
      rw[QY] at z
      rw[z];exact h2
  simp only[Mj] at hz
  refine MN F.entry_set_update_loop ?_
  rw[MH Ow _]
  show wpAny _ A.in1 (pyNext (.ref it)>>=_) _ _ s
  refine Lj (OA hit hl hx λh' hit' hs'=>?_)
  have WH:h'.SetOf (strKind prog w) d (λk=>decide (k∈σ)) σ.length:=by
   obtain⟨o,es,ep,tb,ho,r⟩:=hd;exact⟨o,es,ep,tb,hs'.extBut d o Vc ho,r⟩
  refine Lj (Mv ?_)
  unfold setAdd
  refine Mv (Lj ((strKind prog w).pyHash (k:=x) (strKind_is _ _ _ _) ?_))
  refine wpAny_setAddHashed_of (knd:=strKind prog w) (s:={s with heap:=h',toks:=s.toks+1}) (strKind_is _ _ _ _) rfl WH (by unfold scanBound;lia) λQL hs'' ZC=>?_
  have hS3:QL.SetOf (strKind prog w) d (λk=>decide (k∈cN σ x)) (cN σ x).length:=by
   refine SetOf_congr ZC (λk=>?_) ?_
   .rw[Mh];simp [yv]
   .unfold cN;by_cases h:x∈σ
    .rw[if_pos (by simpa using h),if_pos h]
    .rw[if_neg (by simpa using h),if_neg h,Lg];rfl
  have kp:∀b o,b≠d->b≠it->s.heap.get? b=some o->QL.get? b=some o:=λb o hb1 QN e=>(hs''.2 b hb1).trans (hs'.extBut b o QN e)
  have hle:=uK σ x
  refine Lw ⟨Np Ow _,?_⟩
  refine ih (i+1) _ (cN σ x) R ?_ ?_ Sn hS3 (by lia) (λh3 tk k3 d3=>hR h3 tk (λb o e1 e2 e=>k3 b o e1 e2 (kp b o e1 e2 e)) d3)
  .exact hit'.at λo e=>(hs''.2 it (MY Vc)).trans e
  .obtain⟨ol,J',r⟩:=hl
   exact⟨ol,kp l ol Zw Zv J',r⟩
variable {E:XV}{n:Nat}{s:Shared}
set_option maxHeartbeats 3200000 in
theorem mU {items:jp}{o:Obj}{ss:xL}{Q:XV}(hh:A.handled=none)(ho:s.heap.get? l=some o)(hc:o.cls= .type "list")(O':o.data= .seq items.toArray n)(hz:ss.length<1000)(hp:StrsAre items ss)
(h:∀h' tk,h'.SetOf (strKind prog w) s.heap.objs.size (λk=>decide (k∈jb ss)) (jb ss).length->(∀b o,s.heap.get? b=some o->h'.get? b=some o)->Q (.ref s.heap.objs.size) {s with heap:=h',toks:=tk}):
  wpAny (model prog w) A (call (.type "set") [.ref l]) Q E s:=by
 obtain⟨c1,c2,c3⟩:=NS.mro
 have c4:=NS.made;have c5:=NS.sub;have c6:=NS.notType;have c7:=NS.canCreate;have c8:=F.typeCall_set_1 (.ref l)
 refine QD (codeAny_of_tree (show wpAny _ _ (callAny (.type "set") _) _ _ _ from Lw ⟨Code.quiet_builtin _ (by decide+kernel),MN F.entry_type_call ?_⟩))
 rw[Around.under_plain (weight_type_call_type "set" [Value.ref l] []) rfl]
 repeat(any_goals first|assumption|wp_step)
 refine OK (code_set_new_1 (E:=E) (.ref l) (Q₁:=λob st=>∃led:Bool,ob= .ref s.heap.objs.size/\st={s with heap:=s.heap.push {cls:= .type "set",dict:=none,data:= .set #[] 0 (.fresh 0 0 led)}}) λled=>⟨led,rfl,rfl⟩) λr1 Tc hr1=>?_
 match r1,hr1 with
 | .error _,hr1=>exact hr1
 | .ok .next,hr1=>exact hr1.elim
 | .ok .brk,hr1=>exact hr1.elim
 | .ok .cont,hr1=>exact hr1.elim
 | .ok (.ret ob),hr1=>
  obtain⟨led,rfl,rfl⟩:=hr1
  have Yt:(s.heap.push {cls:= .type "set",dict:=none,data:= .set #[] 0 (.fresh 0 0 led)}).get? s.heap.objs.size=some {cls:= .type "set",dict:=none,data:= .set #[] 0 (.fresh 0 0 led)}:=LC _ rfl
  have So:(s.heap.push {cls:= .type "set",dict:=none,data:= .set #[] 0 (.fresh 0 0 led)}).get? l=some o:=Lk _ ho
  have WV:l≠s.heap.objs.size:=Lz (Lu ho)
  generalize hP:s.heap.push {cls:= .type "set",dict:=none,data:= .set #[] 0 (.fresh 0 0 led)}=Sn at Yt So
  have c9:Shared.TypeIs {s with heap:=Sn} (.ref s.heap.objs.size) "set":=⟨_,Yt,rfl⟩
  have c10:=NS.init.lookup;have c11:=NS.init.bind (.ref s.heap.objs.size)
  repeat(any_goals first|assumption|wp_step)
  refine OK (OR (R:=wants (λr st=>r= .none/\∃h2 Yr,st={s with heap:=h2,toks:=Yr}/\h2.SetOf (strKind prog w) s.heap.objs.size (λk=>decide (k∈jb ss)) (jb ss).length/\(∀b o,s.heap.get? b=some o->h2.get? b=some o)) E) NS.init.plain F.entry_set_init (check_set_init_1 c9 ?_)) λr2 K_ hr2=>?_
  .obtain⟨k1,k2,k3,k4⟩:=o
   dsimp only at hc O'
   subst hc O'
   have d1:=F.sub_list_set;have d2:=F.sub_list_frozenset;have d3:(Value.type "list"==Value.type "dict")=false:=by decide
   have Tj:Sn.IsList l items.toArray:=⟨_,So,rfl,n,rfl⟩
   unfold Builtin.«set.__init__» noKeywords Builtin.Frozenset.updateFrom
   generalize hPI:pyIter=PI
   wp_walk
   subst hPI
   refine NT Tj (Lj (wpAny_runValue ?_))
   have hsz:s.heap.objs.size<Sn.objs.size:=Lu Yt
   refine yD (l:=l) (items:=items) (A:=A.in1.in1) (by simpa using hh) (Lz hsz) (Lz (Lu So)) WV ss 0 _ [] _ ⟨_,LC _ rfl,rfl,rfl⟩ (Tj.push _) (by rw[OG];exact hp) ?_ (by simpa using(show ss.length<2000 by lia)) λh3 tk3 VZ d3'=>?_
   .have hg:(Sn.push {cls:= .type "list_iterator",data:= .fields #[.ref l,.int 0 0]}).get? s.heap.objs.size=some {cls:= .type "set",dict:=none,data:= .set #[] 0 (.fresh 0 0 led)}:=Lk _ Yt
    exact SetOf_congr ((setObjOf_fresh (knd:=strKind prog w) led).setOf hg (by unfold scanBound;lia)) (λ_=>by simp) rfl
   .show wpAny _ _ _ _ _ _
    refine Lw (show wpAny _ _ (ret Value.none) _ _ _ from Lw ⟨rfl,h3,tk3,rfl,d3',λb ob e=>?_⟩)
    have e1:Sn.get? b=some ob:=by rw[←hP];exact Lk _ e
    exact VZ b ob (Lz (Lu e)) (Lz (Lu e1)) (Lk _ e1)
  .match r2,hr2 with
   | .error _,hr2=>exact hr2
   | .ok .next,hr2=>exact hr2.elim
   | .ok .brk,hr2=>exact hr2.elim
   | .ok .cont,hr2=>exact hr2.elim
   | .ok (.ret r),hr2=>
    obtain⟨rfl,h2,Yr,rfl,ZC,Ve⟩:=hr2
    repeat(any_goals first|assumption|wp_step)
    exact h _ _ ZC Ve
def dU (a:Addr)(n:Nat)(h:Heap):Prop:=∃o es ep t,h.get? a=some o/\o.ExactSet/\o.data= .set es ep t/\t.fits es.size=true/\es.size=n
variable {h:Heap}{a:Addr}
theorem xM (x:dU a n h):ObjOk P w H h a (.ext (dU a n)):=by grind [dU,ObjOk]
theorem oz:∀{ss:xL} {us:jp},Vals (ss.map V.str) us->StrsAre us ss
 |[],_,.nil=> .nil
 |x::r,_,.cons h t=> .cons h (oz t)
def Dg (K:Qd):ap->Hp->VK->Prop:=λxs H Q=>∃(p:Addr) (ss:xL),xs=[.ref p]/\SqL K H p (ss.map V.str)/\ss.length<1000/\∀l,H l=none->Q (.ref l) (u9 H l (.ext (dU l (jb ss).length)))
def xc (hc:X.calm=true):CallR X (.type "set") (Dg X.K):=by
 intro pins s σ H xs us Q I r h;obtain⟨p,ss,rfl,hq,hz,q⟩:=h;obtain⟨u,rfl,ru⟩:=X3 r;cases ru;obtain⟨a_,rv,⟨o,n,e,c,hd,dt⟩,_⟩:=I.list hq;refine mU (I.ok.hd hc) e c dt hz (oz rv) λh' tk hS k=>?_;refine⟨.ref s.heap.objs.size,_,?_,rfl,q _ (I.hok.fresh (La _))⟩;obtain⟨o',es,ep,t,h1,h2,h3,_,_,_,h7,h8⟩:=hS;exact I.laid (a:=s.heap.objs.size) (t':=tk) k (La _) (xM ⟨o',es,ep,t,h1,h2,h3,h7,h8⟩)
def CM (K:Qd):ap->Hp->VK->Prop:=λxs H Q=>tG K xs H Q\/∃p n,xs=[V.ref p]/\H p=some (.ext (dU p n))/\n<=1000/\Q (.int n) H
theorem call_lenS:CallR X (.builtin "len") (CM X.K):=by
 refine call_lenX.or ?_;intro pins s σ H xs us Q I r h;obtain⟨p,n,rfl,hp,hn,q⟩:=h;obtain⟨u,rfl,ru⟩:=X3 r;cases ru;obtain⟨o,es,ep,t,h1,h2,h3,h4,h5⟩:=(I.hok p _ hp).1;exact call_len_set h1 h2 h3 h4 (by lia) ⟨.int n,H,I.tok _,⟨_,by rw[h5]⟩,q⟩
def Hs (K:Qd)(hc:X.calm=true)(h:X.K=K:=by rfl):CallR X (.type "set") (Dg K):=h▸xc hc
open PySem.AutoSeq1 (wpAny_loadPart')
open PySem.MeetsSeq PySem.MeetsSeq2 PySem.MeetsSeq3
def rp:plainId "list.__eq__.loop"=true:=plain_eq_loop
def rT (l m:Addr)(xs ys:Array Value)(n1 n2:Nat)(d1 d2:Option Addr)(s1 s2:Array ad)(hz:xs.size=ys.size)(f:Nat->Bool)(md:Int)(V':md=2\/md=3):∀(k i:Nat),xs.size -i=k->
  MeetsIn P w (Builtin.«list.__eq__.loop» ⟨[.ref l,.ref m,rawInt i,rawInt md],[]⟩) (λA R s=>
   s.heap.get? l=some {cls:= .type "list",dict:=d1,data:= .seq xs n1,slots:=s1}/\s.heap.get? m=some {cls:= .type "list",dict:=d2,data:= .seq ys n2,slots:=s2}/\
   (∀j (g1:j<xs.size) (g2:j<ys.size),EqP P w A.in1 s xs[j] ys[j] (f j))/\
   R (.ok (.ret (.bool (if md=2 then((List.range xs.size).drop i).all f else !((List.range xs.size).drop i).all f)))) s):=by
 intro k
 induction k with
 |zero=>
  intro i hk
  intro A R s hyp
  obtain⟨hp,gg,dr,tk,os⟩:=s
  obtain⟨e1,e2,he,fin⟩:=hyp
  have x1:xs[((i:Nat):Int).toNat]?=none:=by simpa using OO hk
  have x2:ys[((i:Nat):Int).toNat]?=none:=by simpa [←hz] using OO hk
  have x3:(List.range xs.size).drop i=[]:=by simpa using OO hk
  rw[x3] at fin
  rcases V' with rfl|rfl
  .wp_walk using wpAny_loadPart' e1,wpAny_loadPart' e2
   rw[x1,x2]
   wp_walk using wpAny_loadPart' e1,wpAny_loadPart' e2
   show R (.ok (.ret (.bool (xs.size==ys.size)))) _
   rw[hz];simpa using fin
  .wp_walk using wpAny_loadPart' e1,wpAny_loadPart' e2
   rw[x1,x2]
   wp_walk using wpAny_loadPart' e1,wpAny_loadPart' e2
   show R (.ok (.ret (.bool (xs.size !=ys.size)))) _
   rw[hz];simpa using fin
 |succ k ih=>
  intro i hk
  intro A R s hyp
  have ih:=ih (i+1) (by rw[Nat.sub_add_eq,hk];rfl)
  obtain⟨hp,gg,dr,tk,os⟩:=s
  obtain⟨e1,e2,he,fin⟩:=hyp
  have l1:i<xs.size:=Nat.sub_pos_iff_lt.mp (hk▸RU k)
  have l2:i<ys.size:=hz▸l1
  have x1:xs[((i:Nat):Int).toNat]?=some xs[i]:=by simp [l1]
  have x2:ys[((i:Nat):Int).toNat]?=some ys[i]:=by simp [l2]
  have x3:(List.range xs.size).drop i=i::(List.range xs.size).drop (i+1):=by simp [ME,l1]
  have x4:((i:Int)+1)=((i+1:Nat):Int):=by push_cast;rfl
  rw[x3,NB] at fin
  rcases V' with rfl|rfl
  .wp_walk using wpAny_loadPart' e1,wpAny_loadPart' e2
   rw[x1,x2]
   refine Lj (he i l1 l2 _ _ ?_)
   cases hf:f i with
   |true=>
    rw[hf] at fin
    wp_walk
    rw[x4]
    refine⟨Np rp _,MN PD ?_⟩
    rw[MH rp _]
    exact ih A R _ ⟨e1,e2,he,by simpa using fin⟩
   |false=>
    rw[hf] at fin
    wp_walk using wpAny_loadPart' e1,wpAny_loadPart' e2
    rw[x1,x2]
    wp_walk
    simpa using fin
  .wp_walk using wpAny_loadPart' e1,wpAny_loadPart' e2
   rw[x1,x2]
   refine Lj (he i l1 l2 _ _ ?_)
   cases hf:f i with
   |true=>
    rw[hf] at fin
    wp_walk
    rw[x4]
    refine⟨Np rp _,MN PD ?_⟩
    rw[MH rp _]
    exact ih A R _ ⟨e1,e2,he,by simpa using fin⟩
   |false=>
    rw[hf] at fin
    wp_walk using wpAny_loadPart' e1,wpAny_loadPart' e2
    rw[x1,x2]
    wp_walk
    simpa using fin
def Fn (l m:Addr)(xs ys:Array Value)(n1 n2:Nat)(d1 d2:Option Addr)(s1 s2:Array ad)(hz:xs.size=ys.size)(f:Nat->Bool):
  MeetsIn P w (Builtin.«list.__eq__» ⟨[.ref l,.ref m],[]⟩) (λA R s=>
   s.heap.get? l=some {cls:= .type "list",dict:=d1,data:= .seq xs n1,slots:=s1}/\s.heap.get? m=some {cls:= .type "list",dict:=d2,data:= .seq ys n2,slots:=s2}/\
   (∀j (g1:j<xs.size) (g2:j<ys.size),EqP P w A.in1 s xs[j] ys[j] (f j))/\R (.ok (.ret (.bool ((List.range xs.size).all f)))) s):=by
 intro A R s hyp
 obtain⟨hp,gg,dr,tk,os⟩:=s
 obtain⟨e1,e2,he,fin⟩:=hyp
 have q1:=NK;have q2:¬(xs.size !=ys.size)=true:=by simp [hz]
 wp_walk using wpAny_loadPart' e1,wpAny_loadPart' e2
 refine⟨Np rp _,MN PD ?_⟩
 rw[MH rp _]
 exact rT l m xs ys n1 n2 d1 d2 s1 s2 hz f 2 (.inl rfl) _ 0 rfl A R _ ⟨e1,e2,he,by simpa using fin⟩
def Fx (l m:Addr)(xs ys:Array Value)(n1 n2:Nat)(d1 d2:Option Addr)(s1 s2:Array ad)(hz:xs.size=ys.size)(f:Nat->Bool):
  MeetsIn P w (Builtin.«list.__ne__» ⟨[.ref l,.ref m],[]⟩) (λA R s=>
   s.heap.get? l=some {cls:= .type "list",dict:=d1,data:= .seq xs n1,slots:=s1}/\s.heap.get? m=some {cls:= .type "list",dict:=d2,data:= .seq ys n2,slots:=s2}/\
   (∀j (g1:j<xs.size) (g2:j<ys.size),EqP P w A.in1 s xs[j] ys[j] (f j))/\R (.ok (.ret (.bool (!(List.range xs.size).all f)))) s):=by
 intro A R s hyp
 obtain⟨hp,gg,dr,tk,os⟩:=s
 obtain⟨e1,e2,he,fin⟩:=hyp
 have q1:=NK;have q2:¬(xs.size !=ys.size)=true:=by simp [hz]
 wp_walk using wpAny_loadPart' e1,wpAny_loadPart' e2
 refine⟨Np rp _,MN PD ?_⟩
 rw[MH rp _]
 exact rT l m xs ys n1 n2 d1 d2 s1 s2 hz f 3 (.inr rfl) _ 0 rfl A R _ ⟨e1,e2,he,by simpa using fin⟩
variable {m:Addr}{xs ys:Array Value}{f:Nat->Bool}
def RcP.lst (hl:s.heap.IsList l xs)(hm:s.heap.IsList m ys)(hz:xs.size=ys.size)(hu:A.units<cLine)
(he:∀j (g1:j<xs.size) (g2:j<ys.size),EqP P w A.in1 s xs[j] ys[j] (f j)):RcP P w A s (.ref l) (.ref m) ((List.range xs.size).all f):=λE Q q=>by
 obtain⟨⟨c1,d1,a1,s1⟩,o1,k1,n1,t1⟩:=id hl
 obtain⟨⟨c2,d2,a2,s2⟩,o2,k2,n2,t2⟩:=id hm
 simp only at k1 t1 k2 t2
 subst k1 t1 k2 t2
 refine MM (op:= .Eq) ⟨_,o1,rfl⟩ ⟨_,o2,rfl⟩ NY (ML NY ⟨_,o1,rfl⟩ Qw (Qg _ _) (Fn l m xs ys n1 n2 d1 d2 s1 s2 hz f) ⟨o1,o2,he,?_⟩) hu
 exact⟨(λz=>nomatch z),q⟩
def NcP.lst (hl:s.heap.IsList l xs)(hm:s.heap.IsList m ys)(hz:xs.size=ys.size)(hu:A.units<cLine)
(he:∀j (g1:j<xs.size) (g2:j<ys.size),EqP P w A.in1 s xs[j] ys[j] (f j)):NcP P w A s (.ref l) (.ref m) (!(List.range xs.size).all f):=λE Q q=>by
 obtain⟨⟨c1,d1,a1,s1⟩,o1,k1,n1,t1⟩:=id hl
 obtain⟨⟨c2,d2,a2,s2⟩,o2,k2,n2,t2⟩:=id hm
 simp only at k1 t1 k2 t2
 subst k1 t1 k2 t2
 refine MM (op:= .NotEq) ⟨_,o1,rfl⟩ ⟨_,o2,rfl⟩ NZ (ML NZ ⟨_,o1,rfl⟩ Qx (Qi _ _) (Fx l m xs ys n1 n2 d1 d2 s1 s2 hz f) ⟨o1,o2,he,?_⟩) hu
 exact⟨(λz=>nomatch z),q⟩
def EqN (K:Qd)(H:Hp):Nat->V->V->Bool->Prop
 |0,x,y,b=>Eq1 K H x y b\/∃a c,x= .ref a/\y= .ref c/\EqD K H a c b
 |n+1,x,y,b=>EqN K H n x y b\/∃(a c:Addr) (xs ys:ap) (bs:List Bool),x= .ref a/\y= .ref c/\a≠c/\((SqT K H a xs/\SqT K H c ys)\/(SqL K H a xs/\SqL K H c ys))/\xs.length=ys.length/\bs.length=xs.length/\
   (∀(j:Nat) (x' y':V) (b':Bool),xs[j]?=some x'->ys[j]?=some y'->bs[j]?=some b'->EqN K H n x' y' b')/\b=bs.all id
theorem P5:∀(bs:List Bool),(List.range bs.length).all (λj=>bs.getD j true)=bs.all id
 |[]=>rfl
 |b::r=>by
  rw[Mj,OB,NB,Nk];show(b&&(List.range r.length).all λj=>r.getD j true)=(b&&r.all id);rw[P5 r]
section
variable {X:Cx} {pins:XL} {σ:St} {H:Hp} {s:Shared}
theorem iU {n:Nat}{xs ys:ap}{bs:List Bool}{us vs:jp}{A:Around}(r1:Vals xs us)(r2:Vals ys vs)(hl:xs.length=ys.length)(hb:bs.length=xs.length)
(he:∀(j:Nat) (x' y':V) (b':Bool),xs[j]?=some x'->ys[j]?=some y'->bs[j]?=some b'->EqN X.K H n x' y' b')
(at_:∀{x y:V} {u v:Value} {b:Bool},EqN X.K H n x y b->RelV x u->RelV y v->EqP X.prog X.w A.in1 s u v b):
  ∀j (g1:j<us.toArray.size) (g2:j<vs.toArray.size),EqP X.prog X.w A.in1 s us.toArray[j] vs.toArray[j] (bs.getD j true):=λj g1 g2=>by
 have l1:=r1.length
 have l2:=r2.length
 have RY:j<us.length:=by simpa using g1
 have RZ:j<vs.length:=by simpa using g2
 have x1:xs[j]?=some (xs[j]'(by lia)):=KY _
 have y1:ys[j]?=some (ys[j]'(by lia)):=KY _
 have b1:bs[j]?=some (bs[j]'(by lia)):=KY _
 obtain⟨u1,Te,Tf⟩:=r1.get x1
 obtain⟨u2,RG,Tg⟩:=r2.get y1
 have e1:us.toArray[j]=u1:=by
  have:=KY RY;rw[Te] at this;simpa using(Ly this).symm
 have e2:vs.toArray[j]=u2:=by
  have:=KY RZ;rw[RG] at this;simpa using(Ly this).symm
 rw[e1,e2,LL,b1]
 exact at_ (he j _ _ _ x1 y1 b1) Tf Tg
theorem EqN.at_ (I:Inv X pins σ H s):∀{n:Nat} {A:Around} {x y:V} {u v:Value} {b:Bool},EqN X.K H n x y b->RelV x u->RelV y v->A.units+32+n<cLine->EqP X.prog X.w A s u v b:=by
 intro n;induction n with
 |zero=>
  intro A x y u v b h rx ry hu
  rcases h with h|⟨a,c,rfl,rfl,h⟩
  .exact .of (h.at_ I rx ry (by lia))
  .cases rx
   cases ry
   exact h.at_ I (by lia)
 |succ n ih=>
  intro A x y u v b h rx ry hu
  rcases h with h|⟨a,c,xs,ys,bs,rfl,rfl,x_,hh,hl,hb,he,rfl⟩
  .exact ih h rx ry (by lia)
  .cases rx
   cases ry
   have m_:A.in1.units=A.units+1:=rfl
   rcases hh with⟨h1,h2⟩|⟨h1,h2⟩
   .obtain⟨us,r1,p1,z1⟩:=I.tuple h1
    obtain⟨vs,r2,p2,z2⟩:=I.tuple h2
    have l1:=r1.length
    have l2:=r2.length
    have q:=RcP.tup (P:=X.prog) (w:=X.w) (A:=A) (f:=λj=>bs.getD j true) (show s.heap.IsTuple a us.toArray from p1) (show s.heap.IsTuple c vs.toArray from p2) (by lia) (iU r1 r2 hl hb he λz q1 q2=>ih z q1 q2 (by lia))
    have e3:min us.toArray.size vs.toArray.size=bs.length:=by simp;lia
    have e4:(us.toArray.size==vs.toArray.size)=true:=by simp;lia
    rw[e3,e4,P5,Ov] at q
    exact .refs x_ q
   .obtain⟨us,r1,p1,z1⟩:=I.list h1
    obtain⟨vs,r2,p2,z2⟩:=I.list h2
    have l1:=r1.length
    have l2:=r2.length
    have q:=RcP.lst (P:=X.prog) (w:=X.w) (A:=A) (f:=λj=>bs.getD j true) p1.isList p2.isList (by simp;lia) (by lia) (iU r1 r2 hl hb he λz q1 q2=>ih z q1 q2 (by lia))
    have e3:us.toArray.size=bs.length:=by simp;lia
    rw[e3,P5] at q
    exact .refs x_ q
end
def Gf (K:Qd)(H:Hp)(x y:V)(bs:List Bool):Prop:=∃(a c:Addr) (xs ys:ap),x= .ref a/\y= .ref c/\((SqT K H a xs/\SqT K H c ys)\/(SqL K H a xs/\SqL K H c ys))/\xs.length=ys.length/\bs.length=xs.length/\
 ∀(j:Nat) (x' y':V) (b':Bool),xs[j]?=some x'->ys[j]?=some y'->bs[j]?=some b'->EqN K H 8 x' y' b'
def Hh (K:Qd):R2:=λx y H Q=>∃bs,Gf K H x y bs/\Q (.bl (bs.all id)) H
def HS (K:Qd):R2:=λx y H Q=>∃bs,Gf K H x y bs/\Q (.bl (!bs.all id)) H
theorem EG (hu:X.A.units+64<cLine):OpR X (compareOp .Eq) (Hh X.K):=by
 intro pins s σ H x y v u Q I rx ry h;obtain⟨bs,⟨a,c,xs,ys,rfl,rfl,hh,hl,hb,he⟩,k⟩:=h;cases rx;cases ry;have m_:X.A.in1.units=X.A.units+1:=rfl;rcases hh with⟨h1,h2⟩|⟨h1,h2⟩
 .obtain⟨us,r1,p1,z1⟩:=I.tuple h1;obtain⟨vs,r2,p2,z2⟩:=I.tuple h2;have l1:=r1.length;have l2:=r2.length;have q:=RcP.tup (P:=X.prog) (w:=X.w) (A:=X.A) (f:=λj=>bs.getD j true) (show s.heap.IsTuple a us.toArray from p1) (show s.heap.IsTuple c vs.toArray from p2) (by lia) (iU r1 r2 hl hb he λz q1 q2=>EqN.at_ I z q1 q2 (by lia));have e3:min us.toArray.size vs.toArray.size=bs.length:=by simp;lia
  have e4:(us.toArray.size==vs.toArray.size)=true:=by simp;lia
  rw[e3,e4,P5,Ov] at q;exact q _ _ ⟨.bl _,H,I,rfl,k⟩
 .obtain⟨us,r1,p1,z1⟩:=I.list h1;obtain⟨vs,r2,p2,z2⟩:=I.list h2;have l1:=r1.length;have l2:=r2.length;have q:=RcP.lst (P:=X.prog) (w:=X.w) (A:=X.A) (f:=λj=>bs.getD j true) p1.isList p2.isList (by simp;lia) (by lia) (iU r1 r2 hl hb he λz q1 q2=>EqN.at_ I z q1 q2 (by lia));have e3:us.toArray.size=bs.length:=by simp;lia
  rw[e3,P5] at q;exact q _ _ ⟨.bl _,H,I,rfl,k⟩
theorem Eb (hu:X.A.units+64<cLine):OpR X (compareOp .NotEq) (HS X.K):=by
 intro pins s σ H x y v u Q I rx ry h;obtain⟨bs,⟨a,c,xs,ys,rfl,rfl,hh,hl,hb,he⟩,k⟩:=h;cases rx;cases ry;have m_:X.A.in1.units=X.A.units+1:=rfl;rcases hh with⟨h1,h2⟩|⟨h1,h2⟩
 .obtain⟨us,r1,p1,z1⟩:=I.tuple h1;obtain⟨vs,r2,p2,z2⟩:=I.tuple h2;have l1:=r1.length;have l2:=r2.length;have q:=NcP.tup (P:=X.prog) (w:=X.w) (A:=X.A) (f:=λj=>bs.getD j true) (show s.heap.IsTuple a us.toArray from p1) (show s.heap.IsTuple c vs.toArray from p2) (by lia) (iU r1 r2 hl hb he λz q1 q2=>EqN.at_ I z q1 q2 (by lia));have e3:min us.toArray.size vs.toArray.size=bs.length:=by simp;lia
  have e4:(us.toArray.size==vs.toArray.size)=true:=by simp;lia
  rw[e3,e4,P5,Ov] at q;exact q _ _ ⟨.bl _,H,I,rfl,k⟩
 .obtain⟨us,r1,p1,z1⟩:=I.list h1;obtain⟨vs,r2,p2,z2⟩:=I.list h2;have l1:=r1.length;have l2:=r2.length;have q:=NcP.lst (P:=X.prog) (w:=X.w) (A:=X.A) (f:=λj=>bs.getD j true) p1.isList p2.isList (by simp;lia) (by lia) (iU r1 r2 hl hb he λz q1 q2=>EqN.at_ I z q1 q2 (by lia));have e3:us.toArray.size=bs.length:=by simp;lia
  rw[e3,P5] at q;exact q _ _ ⟨.bl _,H,I,rfl,k⟩
def qK (K:Qd):R2:=λx y H Q=>BP K x y H Q\/HS K x y H Q
def aV (K:Qd){k:Nat}(hr:Room k X.A)(h:X.K=K:=by rfl):OpR X (compareOp .NotEq) (qK K):=(JR K hr h).or (h▸Eb hr.units)
def lU (K:Qd):R2:=λx y H Q=>Fv K x y H Q\/Hh K x y H Q
def N2 (K:Qd){k:Nat}(hr:Room k X.A)(h:X.K=K:=by rfl):OpR X (compareOp .Eq) (lU K):=(JO K hr h).or (h▸EG hr.units)
def mF (v d:Addr)(h:Heap):Prop:=h.IsValuesView v d
variable {v:Addr}
def Bx (x:mF v d h):ObjOk P w H h v (.ext (mF v d)):=by
 obtain⟨o,e,r⟩:=x;exact⟨⟨o,e,r⟩,⟨o,e⟩,λh1 h2 ⟨o',e',r'⟩ k=>⟨o',k _ e',r'⟩⟩
def AZ:V->ap->Hp->VK->Prop:=λx vs H Q=>∃d kvs,x= .ref d/\vs=[]/\Rd H d (.dK kvs)/\∀v,H v=none->Q (.ref v) (u9 H v (.ext (mF v d)))
def U2:xV X "dict.values" AZ:=by
 intro pins s σ H x vs v us Q I rx rv h;obtain⟨d,kvs,rfl,rfl,hd,q⟩:=h;cases rx;have UZ:=rv.zero;subst UZ;obtain⟨z,hs,ws,rel,dd⟩:=U5 I.hok hd;refine ML Nh dd.typeIs PySem.F.entry_dict_values (PySem.F.args_dict_values_1 _) (meets_dict_values (z0 X.prog X.w) d hs) ⟨⟨ws,dd⟩,?_⟩;refine⟨.ref s.heap.objs.size,_,?_,rfl,q _ (I.hok.fresh (La _))⟩;exact I.laid (a:=s.heap.objs.size) (t':=s.toks) (λb u e=>Lk _ e) (La _) (Bx ⟨_,LC _ rfl,rfl,rfl⟩)
def tS (K:Qd):ap->Hp->VK->Prop:=λxs H Q=>CY K xs H Q\/∃(v d:Addr) (kvs:am),xs=[.ref v]/\H v=some (.ext (mF v d))/\Rd H d (.dK kvs)/\∀l,H l=none->Q (.ref l) (u9 H l (.lst (kvs.map (·.2))))
theorem ui (hc:X.calm=true):CallR X (.type "list") (tS X.K):=by
 refine(tR hc).or ?_;intro pins s σ H xs us Q I r h;obtain⟨v,d,kvs,rfl,hv,hx,q⟩:=h;obtain⟨u,rfl,ru⟩:=X3 r;cases ru;have hvv:mF v d s.heap:=(I.hok v _ hv).1;obtain⟨hd,o,vs,ep,ho,D⟩:=ib I.hok hx;have QM:=KV.length D.kv;have hz:kvs.length<=sizeLine:=(U5 I.hok hx).1;refine PySem.W.kdl_call (PySem.W.kdl_values (knd:=z0 X.prog X.w) (kvs:=vs) (ep:=ep)) (I.ok.hd hc) ⟨hvv,D.at_ _ ho⟩ (by lia) λh' tk acc c hkp hS D_=>?_;refine⟨.ref s.heap.objs.size,_,I.newL (tk:=tk) hkp (La _) hS (aP (by have:=D_.1;simp;lia) λi x u e1 e2=>?_) (by rw[KW];exact hz),rfl,q _ (I.hok.fresh (La _))⟩;obtain⟨k,hy⟩:=D_.2 i u (by rw[←NO];exact e2);rw[Lc] at e1;obtain⟨kv,e4,rfl⟩:=LB.mp e1;obtain⟨q1,hq1,q2,q3⟩:=P6 (show Paired _ kvs vs from D.kv) e4;rw[hy] at hq1;cases hq1;exact q3
def oP (K:Qd)(hc:X.calm=true)(h:X.K=K:=by rfl):CallR X (.type "list") (tS K):=h▸ui hc
variable {K:Qd}{Q:VK}{kvs:am}
def aS (hv:H v=some (.ext (mF v d)))(hd:Rd H d (.dK kvs))(q:∀l H2,H l=none->Same H H2->H2 l=some (.lst (kvs.map (·.2)))->Q (.ref l) H2):tS K [.ref v] H Q:= .inr ⟨v,d,kvs,rfl,hv,hd,λl n=>q l _ n (nwS n) b5⟩
def uP (P:Program)(w:World):uH:=λo i v H Q=>vC o i v H Q\/False
def yo (hu:X.A.units+1<cLine):wN X (uP X.prog X.w):=by
 intro pins s σ H o i v ov iv u Q I ro ri rv h;exact Bj hu pins s σ H o i v ov iv u Q I ro ri rv (h.resolve_right id)
def rj (K:Qd)(P:Program)(w:World):ap->Hp->VK->Prop:=λxs H Q=>CM K xs H Q\/False
def xJ:CallR X (.builtin "len") (rj X.K X.prog X.w):=by
 refine call_lenS.or ?_;intro pins s σ H xs us Q I r h;exact h.elim
def Im (K:Qd)(h:X.K=K:=by rfl):CallR X (.builtin "len") (rj K X.prog X.w):=h▸xJ
def vc (K:Qd)(P:Program)(w:World):ap->Hp->VK->Prop:=λxs H Q=>Cd K xs H Q\/False
def xn:CallR X (.builtin "isinstance") (vc X.K X.prog X.w):=by
 refine call_isi.or ?_;intro pins s σ H xs us Q I r h;exact h.elim
def IK (K:Qd)(h:X.K=K:=by rfl):CallR X (.builtin "isinstance") (vc K X.prog X.w):=h▸xn
def F0 {xs:ap}(h:tG K xs H Q):rj K P w xs H Q:= .inl (.inl h)
def oD {p:Addr}(h:H p=some (.ext (dU p n)))(hn:n<=1000)(q:Q (.int n) H):rj K P w [.ref p] H Q:= .inl (.inr ⟨p,n,rfl,h,hn,q⟩)
def dI {xs:ap}(h:Cd K xs H Q):vc K P w xs H Q:= .inl h
def P9 {o i v:V}{Qh:Hp->Prop}(h:vC o i v H Qh):uP P w o i v H Qh:= .inl h
def mO {x y:V}(h:me K x y H Q):lU K x y H Q:= .inl (Jf h)
def Aj {i j:Int}(q:Q (.bl (decide (i=j))) H):lU K (.int i) (.int j) H Q:=mO (yt q)
def gh {i j:Str}(q:Q (.bl (decide (i=j))) H):lU K (.str i) (.str j) H Q:=mO (Ai q)
def Dz {x y:V}(h:wz K x y H Q):qK K x y H Q:= .inl (Jv h)
def qG {i j:Int}(q:Q (.bl (!decide (i=j))) H):qK K (.int i) (.int j) H Q:= .inl (Al q)
def jo (K:Qd)(P:Program)(w:World)(h:X.K=K:=by rfl)(hp:X.prog=P:=by rfl)(hw:X.w=w:=by rfl):CallR X (.builtin "isinstance") (vc K P w):=by subst hp hw;exact IK K h
def E8 (K:Qd)(P:Program)(w:World)(h:X.K=K:=by rfl)(hp:X.prog=P:=by rfl)(hw:X.w=w:=by rfl):CallR X (.builtin "len") (rj K P w):=by subst hp hw;exact Im K h
def B7 (P:Program)(w:World)(hu:X.A.units+1<cLine)(hp:X.prog=P:=by rfl)(hw:X.w=w:=by rfl):wN X (uP P w):=by subst hp hw;exact yo hu
section
variable {σ:St} {H:Hp} {nx:St->Hp->Prop} {rt:VK} {bk ct:St->Hp->Prop} {ta:TA}
end
variable {tg:Expr}
theorem wV {o:Obj}{vs:List (j0×Value)}{ep:Nat}(D:zm P w d o kvs vs ep)(it:Addr):
  iJ P w K tg (IQ d o kvs λkv=>kv.2) [it] it (λi h=>h.IsValIter it d i vs.length ep) where
 mem:=by simp
 obj:=λi h st b hb=>by
  have e:b=it:=by simpa using hb
  subst e;obtain⟨o,e,c,dd⟩:=st;exact⟨o,e,λv z=>by rw[dd] at z;cases z⟩
 keep:=λi h h' st k=>let ⟨o,e,r⟩:=st;⟨o,k it (by simp) o e,r⟩
 item:=by
  intro X hP hw hK hc i pins s σ H E I hf st hg;subst hP hw hK;obtain⟨S_,hi⟩:=hg;obtain⟨f0,f1,f2,f3,f4,f5⟩:=hf it (by simp);have dat:=D.at_ s.heap (I.hok d _ S_).1;have hl:=KV.length D.kv;obtain⟨kv,h_⟩:∃kv,kvs[i]?=some kv:=⟨kvs[i],by simp [hi]⟩
  obtain⟨⟨k,x⟩,hx⟩:∃p,vs[i]?=some p:=⟨vs[i]'(by lia),by simp [show i<vs.length by lia]⟩
  obtain⟨TX,rx⟩:kv.1=k/\RelV kv.2 x:=by
   have q:=P6 D.kv h_;obtain⟨p,hp,r⟩:=q;rw[hx] at hp;cases hp;exact r
  refine wpAny_pyNext_values_item st dat hx λh' G' hs'=>?_;have I1:Inv X pins σ H {s with heap:=h'}:=I.turned (t':=s.toks) (λb o hb e=>hs'.extBut b o hb e) f0 f1 f3 f4 f5;obtain⟨oo,e,c,dd⟩:=id G';exact⟨x,rfl,rG (s:={s with heap:=h'}) e c dd (by decide) ⟨kv.2,H,I1,rx,⟨rfl,kv,h_,rfl⟩,G',λb hb=>(hf b hb).1⟩⟩
 done:=by
  intro X hP hw hK hc i pins s σ H E I hf st hg;subst hP hw hK;obtain⟨S_,hi⟩:=hg;obtain⟨f0,f1,f2,f3,f4,f5⟩:=hf it (by simp);have dat:=D.at_ s.heap (I.hok d _ S_).1;have hl:=KV.length D.kv;exact wpAny_pyNext_values_end (I.ok.hd hc) st dat (by simp;lia) λh' eb=>⟨rfl,I.turned (t':=s.toks) (λb o hb e=>eb b o hb e) f0 f1 f3 f4 f5⟩
 self:=λ_ _ _ _ _ st h=>wpAny_pyIter_valiter st h
abbrev Kf (d:Addr)(o:Obj)(kvs:am):It:=IQ d o kvs λkv=>kv.2
def pV (tl:TE):qx:=λσ H R=>tl σ H λv H1=>rIterD Kf v H1 R
variable {o:Expr}{apos c_:Pos}
def wg {tl:TE}(ho:PE X o tl)
(j_:attributeBase o "values" X.env (eval o X.env)=eval o X.env:=by rfl)(k_:(apos.endLine==c_.line)=true:=by rfl):
  zi X tg (.Call (.Attribute o "values" apos) [] [] c_) (pV tl):=by
 intro pins s σ H R I h
 refine Om j_ k_ (O9 (ho pins s σ H _ I h) λv s1 ⟨x,H1,I1,r1,q1⟩=>?_)
 obtain⟨d,kvs,ob,vs,ep,th,H',rfl,hd,Ry,D,I2,Sm,q⟩:=rIterD.go I1 r1 q1
 have Ui:=(D.at_ _ Ry).dictOf
 refine⟨"dict","dict.values",F.plainAttrs_dict,F.slot_dict_values,F.type_dict_values,Ui.typeIs,Ui.mapOf.noDict,MZ rfl (OU ?_)⟩
 refine ML F.slot_dict_values Ui.typeIs F.entry_dict_values (F.args_dict_values_1 _) (meets_dict_values (z0 X.prog X.w) d hd) ⟨⟨vs,Ui⟩,?_⟩
 have I3:Inv X pins σ H' {s1 with heap:=s1.heap.push {cls:= .type "dict_values",data:= .fields #[.ref d]}}:=I2.kept (t':=s1.toks) λb o e=>Lk _ e
 refine wpAny_pyIter_values (s:={s1 with heap:=s1.heap.push {cls:= .type "dict_values",data:= .fields #[.ref d]}}) (knd:=z0 X.prog X.w) ⟨_,LC _ rfl,rfl,rfl⟩ (D.at_ _ (Lk _ Ry)) ?_
 generalize hG:s1.heap.push {cls:= .type "dict_values",data:= .fields #[.ref d]}=G at I3⊢
 refine⟨G.objs.size,[G.objs.size],_,_,H',rfl,I3.kept (t':=s1.toks) λb o e=>Lk _ e,wV D _,⟨_,LC _ rfl,rfl,rfl⟩,λb hb=>?_,th,Sm,q⟩
 have e:b=G.objs.size:=by simpa using hb
 subst e
 exact I3.fpOk (La _) (I3.hok.fresh (La _))
def xZ {to:TE}(ho:QE X o to)
(j_:attributeBase o "values" X.env (eval o X.env)=eval o X.env:=by rfl)(k_:(apos.endLine==c_.line)=true:=by rfl):QI X tg (.Call (.Attribute o "values" apos) [] [] c_) (pV to):=⟨wg ho.r j_ k_⟩
variable {R:It->(Hp->Hp)->Hp->Prop}
def xg {tl:TE}{σ:St}(q:tl σ H λv H1=>rIterD Kf v H1 R):pV tl σ H R:=q
variable {σ:L2.St}
def DA {J:It}{th:Hp->Hp}{g:TG}{tb:TS}{nx:L2.St->Hp->Prop}{rt:VK}(Pv:Nat->L2.St->Hp->Prop)(h0:Pv 0 σ H)(H_:∀i σ H,i<n->Pv i σ H->J.go i H)
(hs:∀(bk:L2.St->Hp->Prop) i x σ H H',i<n->Pv i σ H->J.yld i H x H'->g x σ H' λσ2 H2=>tb ⟨Pv (i+1),λv H=>rt v (th H),bk,Pv (i+1)⟩ σ2 H2)
(hd:∀σ H,Pv n σ H->J.stop n H/\nx σ (th H)):xb J th g tb nx rt σ H:=uI Pv h0 H_ (hs λσ H=>nx σ (th H)) hd
theorem jd {α β:Type}{F:α->β->Prop}:∀{l:List α} {m:List β} {b:β},Paired F l m->b∈m->∃a∈l,F a b
 |_,_,_,.cons r t,h=>by
  rcases LZ.mp h with e|e
  .exact⟨_,Lx,e▸r⟩
  .obtain⟨a,h1,h2⟩:=jd t e;exact⟨a,LD _ h1,h2⟩
def Dl:Value->V
 | .none=> .non
 | .bool b=> .bl b
 | .int i _=> .int i
 | .str x _=> .str x
 | .bytes b _=> .byt b
 | .float b _=> .flt b
 | .ref a=> .ref a
 | .type n=> .ty n
 |_=> .non
theorem AA {v:V}{u:Value}(r:RelV v u):Dl u=v:=by grind [cases V,RelV,Dl]
theorem ID {f:V->Bool}:∀{xs:ap} {us:jp},Vals xs us->us.countP (f∘Dl)=xs.countP f
 |_,_,.nil=>rfl
 |_,_,.cons r t=>by rw[PX,PX,ID t,Function.comp,AA r]
def yH (K:Qd)(a:Addr)(xs:ap):It:=
 ⟨λi H=>SqL K H a xs/\i<xs.length,λi H x H'=>H'=H/\xs[xs.length -1 -i]?=some x,λi _=>i=xs.length⟩
theorem yg (a it:Addr)(xs:ap):iJ P w K tg (yH K a xs) [it] it (λi h=>h.IsRevIter it a ((xs.length:Int) -1 -(i:Int))) where
 mem:=by simp
 obj:=λi h st b hb=>by
  have e:b=it:=by simpa using hb
  subst e;obtain⟨o,e,c,d⟩:=st;exact⟨o,e,λv z=>by rw[d] at z;cases z⟩
 keep:=λi h h' st k=>st.at λo e=>k it (by simp) o e
 item:=by
  intro X hP hw hK hc i pins s σ H E I hf st hg;subst hP hw hK;obtain⟨hq,hi⟩:=hg;obtain⟨a_,rv,p,hz⟩:=I.list hq;have hj:xs.length -1 -i<xs.length:=Nf (Nat.sub_le _ _) (Nat.sub_one_lt_of_lt hi);obtain⟨u,hu,ru⟩:=rv.get (KY hj);obtain⟨f0,f1,f2,f3,f4,f5⟩:=hf it (by simp);have Tc:s.heap.IsRevIter it a ((xs.length -1 -i:Nat):Int):=by
   have e:((xs.length -1 -i:Nat):Int)=(xs.length:Int) -1 -(i:Int):=by lia
   rw[e];exact st
  refine wpAny_pyNext_rev_item Tc p.isList (x:=u) (by simpa using hu) λh' G' sb=>?_;have I1:Inv X pins σ H {s with heap:=h'}:=I.turned (t':=s.toks) (λb o hb e=>(sb.2 b hb).trans e) f0 f1 f3 f4 f5;obtain⟨o,e,c,d⟩:=id G';have K_:h'.IsRevIter it a ((xs.length:Int) -1 -((i+1:Nat):Int)):=by
   have e:(xs.length:Int) -1 -((i+1:Nat):Int)=((xs.length -1 -i:Nat):Int) -1:=by lia
   rw[e];exact G'
  exact⟨u,rfl,rG (s:={s with heap:=h'}) e c d (by decide) ⟨_,H,I1,ru,⟨rfl,KY hj⟩,K_,λb hb=>(hf b hb).1⟩⟩
 done:=by
  intro X hP hw hK hc i pins s σ H E I hf st hg;subst hP hw hK;have V_:i=xs.length:=hg;obtain⟨f0,f1,f2,f3,f4,f5⟩:=hf it (by simp);have Tc:s.heap.IsRevIter it a (-1):=by
   have e:(-1:Int)=(xs.length:Int) -1 -(i:Int):=by lia
   rw[e];exact st
  exact wpAny_pyNext_rev_end (I.ok.hd hc) Tc λh' eb=>⟨rfl,I.turned (t':=s.toks) (λb o hb e=>eb b o hb e) f0 f1 f3 f4 f5⟩
 self:=λ_ _ _ _ _ st h=>wpAny_pyIter_revIter st h
section
variable {X:Cx} {a:Expr} {t:TA} {p pos:Pos} {tg:Expr}
def FP (K:Qd)(ta:TA):qx:=λσ H R=>ta σ H λvs H1=>∃l xs,vs=[.ref l]/\SqL K H1 l xs/\R (yH K l xs) id H1
theorem Fz (hg:Gl X "reversed")(hm:X.mg "reversed"=none)(ha:PA X [a] t)(hs:starEach [a] X.env=[(false,eval a X.env)]):zi X tg (.Call (.Name "reversed" p) [a] [] pos) (FP X.K t):=by
 intro pins s σ H R I h;refine Call_ (cT I hg hm Boot.«reversed» (MK (O9 (ha pos pins s σ H _ I h) λus s1 ⟨vs,H1,I1,r1,q1⟩=>?_) hs rfl));obtain⟨l,xs,e,hq,q⟩:=q1;subst e;obtain⟨u,rfl,ru⟩:=X3 r1;cases ru;obtain⟨a_,rv,pl,hz⟩:=I1.list hq;have hl:=rv.length;refine call_reversed_list pl.isList ?_;have I2:Inv X pins σ H1 {s1 with heap:=s1.heap.push (revObj l ((a_.toArray.size:Int) -1))}:=I1.kept (t':=s1.toks) λb o e=>Lk _ e;have st:(s1.heap.push (revObj l ((a_.toArray.size:Int) -1))).IsRevIter s1.heap.objs.size l ((xs.length:Int) -1 -((0:Nat):Int)):=by
  refine⟨_,LC _ rfl,rfl,?_⟩;show Data.fields #[.ref l,rawInt ((a_.toArray.size:Int) -1)]=_;rw[show(a_.toArray.size:Int) -1=(xs.length:Int) -1 -((0:Nat):Int) by rw[LG];lia]
 refine wpAny_pyIter_revIter (s:={s1 with heap:=s1.heap.push (revObj l ((a_.toArray.size:Int) -1))}) st ?_;refine⟨s1.heap.objs.size,[s1.heap.objs.size],_,_,H1,rfl,I2,yg l _ xs,st,λb hb=>?_,id,gB,q⟩;have e:b=s1.heap.objs.size:=by simpa using hb
 subst e;exact I1.fpOk (La _) (I1.hok.fresh (La _))
def sI (K:Qd)(hm:X.mg "reversed"=none)(ha:QA X [a] t)(hg:Gl X "reversed":=by rfl)(h:E2 a=true:=by rfl)(hK:X.K=K:=by rfl):QI X tg (.Call (.Name "reversed" p) [a] [] pos) (FP K t):=
 ⟨hK▸Fz hg hm ha.r (X8 h)⟩
end
def Ha {ta:TA}(q:ta σ H λvs H1=>∃l xs,vs=[V.ref l]/\SqL K H1 l xs/\R (yH K l xs) id H1):FP K ta σ H R:=q
abbrev oq (h:Heap)(z TI TO:Addr)(f0:Value)(b:Bool):Prop:=h.get? z=some {cls:= .type "zip",dict:=none,data:= .fields #[f0,.bool b,.bool false,.ref TI,.ref TO],slots:= #[]}
variable {z T:Addr}{b:Bool}{ot:Obj}
def rl {TI TO:Addr}{Q:Bool->Shared->Prop}(hz:oq s.heap z TI TO (rawInt T) b)(hT:s.heap.get? T=some ot)
(hQ:∀h',oq h' z TI TO (rawInt T) true->Heap.SameBut z s.heap h'->Q false {s with heap:=h'}):wpAny (model prog w) A (Builtin.SmallTypes.ownedTupleIsFree (.ref z)) Q E s:=by
 unfold Builtin.SmallTypes.ownedTupleIsFree
 refine Lj (NN hz rfl (x:=rawInt T) rfl ?_)
 refine Lj (PySem.W.kdx_alive (show s.heap.get? ((T:Int).toNat)=some ot by rw[Rz];exact hT) ?_)
 rw[if_neg (by simp)]
 refine Lj (NN hz rfl (x:= .bool b) rfl ?_)
 cases b with
 |true=>
  rw[if_neg (by decide)]
  exact Lw (hQ s.heap hz (Heap.SameBut.refl _ _))
 |false=>
  rw[if_pos (by decide)]
  exact Lj (wpAny_setField_rec hz (by simp) λh' g' s'=>Lw (hQ h' g' s'))
variable {Q:ad->Shared->Prop}{x y:Value}{xs:Array Value}{i1 i2 l1 l2:Addr}{k1:Nat}
def xq {TI TO:Addr}{k2:Nat}(D:ZipApart z TI TO i1 i2 l1 l2)
(hz:oq s.heap z TI TO (rawInt T) b)(ZD:s.heap.get? T=some ot)(Wa:IsPair s.heap TI (.ref i1) (.ref i2))
(h1:s.heap.IsListIter i1 l1 k1)(h2:s.heap.IsListIter i2 l2 k2)(Tj:s.heap.IsList l1 xs)(TV:s.heap.IsList l2 ys)(hx:xs[k1]?=some x)(hy:ys[k2]?=some y)
(hQ:∀h',oq h' z TI TO (rawInt T) true->h'.IsListIter i1 l1 (k1+1)->h'.IsListIter i2 l2 (k2+1)->IsPair h' s.heap.objs.size x y->
   (∀c o,c≠z->c≠i1->c≠i2->s.heap.get? c=some o->h'.get? c=some o)->Q (some (.ref s.heap.objs.size)) {s with heap:=h'}):wpAny (model prog w) A (pyNext (.ref z)) Q E s:=by
 have hT:s.TypeIs (.ref z) "zip":=⟨_,hz,rfl⟩
 unfold pyNext
 refine Lj (PF (Oj (name:=Str.ofString "__next__") hT OW (OP OW hT F.entry_zip_next ?_ (F.args_zip_next_1 _))))
 show wpAny (model prog w) _ (field (.ref z) 2>>=_) _ _ _
 refine Lj (NN hz rfl (x:= .bool false) rfl ?_)
 show wpAny (model prog w) _ (field (.ref z) 3>>=_) _ _ _
 refine Lj (NN hz rfl (x:= .ref TI) rfl (Lj (Ph Wa rfl ?_)))
 show wpAny (model prog w) _ (Builtin.SmallTypes.ownedTupleIsFree (.ref z)>>=_) _ _ _
 refine Lj (rl hz ZD λk1' g1 s1=>?_)
 rw[if_neg (by decide)]
 dsimp only
 refine Lj ?_
 rw[←Rv]
 simp only[Ot,Pj]
 refine Lj (Lj (Mv ?_))
 show wpAny (model prog w) _ (Builtin.SmallTypes.nextOf (.ref i1)>>=_) _ _ _
 refine Lj (OC (h1.extBut s1.extBut D.i1z) (Tj.extBut s1.extBut D.l1z) hx λk2' g2 s2=>Lw (Lw ?_))
 refine Lj (Lj (Mv ?_))
 show wpAny (model prog w) _ (Builtin.SmallTypes.nextOf (.ref i2)>>=_) _ _ _
 refine Lj (OC ((h2.extBut s1.extBut D.i2z).extBut s2.extBut D.i12.symm) ((TV.extBut s1.extBut D.l2z).extBut s2.extBut D.l2i1) hy λVZ g3 s3=>Lw (Lw (Lw ?_)))
 have sz:VZ.objs.size=s.heap.objs.size:=by rw[s3.1,s2.1,s1.1]
 have up:∀c o,c≠z->c≠i1->c≠i2->s.heap.get? c=some o->VZ.get? c=some o:=λc o c1 c2 c3 e=>s3.extBut _ _ c3 (s2.extBut _ _ c2 (s1.extBut _ _ c1 e))
 refine Lj (wpAny_newTuple (Lw ⟨_,rfl,?_⟩) (by show 2<=sizeLine;decide))
 refine Lw ?_
 show Q (some (.ref VZ.objs.size)) _
 rw[sz]
 refine hQ _ (Lk _ (s3.extBut _ _ D.i2z.symm (s2.extBut _ _ D.i1z.symm g1))) ((g2.extBut s3.extBut D.i12).at λo e=>Lk _ e) (g3.at λo e=>Lk _ e) ?_ λc o c1 c2 c3 e=>Lk _ (up c o c1 c2 c3 e)
 rw[←sz]
 exact LC _ rfl
def Ax {TI TO:Addr}{k2:Nat}(hh:A.handled=none)(D:ZipApart z TI TO i1 i2 l1 l2)
(hz:oq s.heap z TI TO (rawInt T) b)(ZD:s.heap.get? T=some ot)(Wa:IsPair s.heap TI (.ref i1) (.ref i2))
(h1:s.heap.IsListIter i1 l1 k1)(h2:s.heap.IsListIter i2 l2 k2)(Tj:s.heap.IsList l1 xs)(TV:s.heap.IsList l2 ys)(Sq:xs[k1]?=none\/ys[k2]?=none)
(hQ:∀h',(∀c o,c≠z->c≠i1->c≠i2->s.heap.get? c=some o->h'.get? c=some o)->Q none {s with heap:=h'}):wpAny (model prog w) A (pyNext (.ref z)) Q E s:=by
 have hT:s.TypeIs (.ref z) "zip":=⟨_,hz,rfl⟩
 unfold pyNext
 refine Lj (PF (Oj (name:=Str.ofString "__next__") hT OW (OP OW hT F.entry_zip_next ?_ (F.args_zip_next_1 _))))
 show wpAny (model prog w) _ (field (.ref z) 2>>=_) _ _ _
 refine Lj (NN hz rfl (x:= .bool false) rfl ?_)
 show wpAny (model prog w) _ (field (.ref z) 3>>=_) _ _ _
 refine Lj (NN hz rfl (x:= .ref TI) rfl (Lj (Ph Wa rfl ?_)))
 show wpAny (model prog w) _ (Builtin.SmallTypes.ownedTupleIsFree (.ref z)>>=_) _ _ _
 refine Lj (rl hz ZD λk1' g1 s1=>?_)
 rw[if_neg (by decide)]
 dsimp only
 refine Lj ?_
 rw[←Rv]
 simp only[Ot,Pj]
 refine Lj (Lj (Mv ?_))
 show wpAny (model prog w) _ (Builtin.SmallTypes.nextOf (.ref i1)>>=_) _ _ _
 cases hx:xs[k1]? with
 |none=>
  refine Lj (wpAny_nextOf_list_end hh (h1.extBut s1.extBut D.i1z) (Tj.extBut s1.extBut D.l1z) hx λk2' e s2 he=>?_)
  obtain⟨oe,ZE,ZF⟩:=he
  exact Lj (wpAny_isInstance (T:="StopIteration") (b:=true) ⟨oe,ZE,ZF⟩ isSubtype_stop (Lw (hQ _ λc o c1 c2 c3 x=>s2 _ _ c2 (s1.extBut _ _ c1 x))))
 |some x=>
  have hy:ys[k2]?=none:=by
   rcases Sq with h|h
   .rw[hx] at h;cases h
   .exact h
  refine Lj (OC (h1.extBut s1.extBut D.i1z) (Tj.extBut s1.extBut D.l1z) hx λk2' g2 s2=>Lw (Lw ?_))
  refine Lj (Lj (Mv ?_))
  show wpAny (model prog w) _ (Builtin.SmallTypes.nextOf (.ref i2)>>=_) _ _ _
  refine Lj (wpAny_nextOf_list_end hh ((h2.extBut s1.extBut D.i2z).extBut s2.extBut D.i12.symm) ((TV.extBut s1.extBut D.l2z).extBut s2.extBut D.l2i1) hy λVZ e s3 he=>?_)
  obtain⟨oe,ZE,ZF⟩:=he
  exact Lj (wpAny_isInstance (T:="StopIteration") (b:=true) ⟨oe,ZE,ZF⟩ isSubtype_stop (Lw (hQ _ λc o c1 c2 c3 x=>s3 _ _ c3 (s2.extBut _ _ c2 (s1.extBut _ _ c1 x)))))
def rQ:typeLookup (.type "zip") "keys"=pure none:=by rw[Qv,OM];kernel_rfl
def xN:typeLookup (.type "zip") "__getattr__"=pure none:=by rw[Qv,OM];kernel_rfl
def yi (a:Addr)(fs:Array Value)(u:Tok):Meets (Builtin.«object.__getattribute__» ⟨[.ref a,.str "keys" u],[]⟩) (λA R s=>s.heap.get? a=some {cls:= .type "zip",dict:=none,data:= .fields fs,slots:= #[]}/\raisesAttr (.ref a) "keys" A R s):=
 Meets.of_wp λprog w A R s hs=>by
  obtain⟨hp,g,d,tk,os⟩:=s;obtain⟨hx,hs⟩:=hs;have hT:(⟨hp,g,d,tk,os⟩:Shared).TypeIs (.ref a) "zip":=⟨_,hx,rfl⟩
  have hmiss:=rQ;unfold Builtin.«object.__getattribute__»;repeat(any_goals (first|assumption|wp_step))
  exact wpAny_raiseAttrError hs.1 hs.2 (attrMsg_fits (by decide+kernel) (by decide+kernel))
def uC:entryFor table "zip.__getattribute__"=some Builtin.«object.__getattribute__»:=entryFor_alias (id':="object.__getattribute__") (by kernel_rfl) (by decide+kernel) (by decide+kernel) (by kernel_rfl)
def sS {fs:Array Value}(hx:s.heap.get? a=some {cls:= .type "zip",dict:=none,data:= .fields fs,slots:= #[]})(hA:A.handled=none)
(h:∀h' tk,(∀b ob,s.heap.get? b=some ob->h'.get? b=some ob)->Q none {s with heap:=h',toks:=tk}):wpAny (model prog w) A (getAttr? (.ref a) "keys") Q E s:=by
 obtain⟨hp,g,d,tk,os⟩:=s
 have hT:∀tk',(⟨hp,g,d,tk',os⟩:Shared).TypeIs (.ref a) "zip":=λ_=>⟨_,hx,rfl⟩
 have f1:=sub_AttributeError
 have f3:=Ox.lookup
 have f4:=Ox.bind (.ref a)
 have f5:=xN
 unfold getAttr? getAttrBy? getAttrBy
 repeat(any_goals (first|assumption|exact hT _|((with_reducible show wpAny _ _ (call (Value.builtin "zip.__getattribute__") _ _) _ _ _);refine QJ Ox (hT _) uC (F.args_zip_getattribute_2 _ _) (yi a fs _) ⟨hx,hA,λh' tk' e l_=>?_⟩)|wp_step))
 obtain⟨t',u',he⟩:=l_.there
 show wpAny _ _ (getattributeRaised _ _ _ _ _ _ _) _ _ _
 unfold getattributeRaised
 repeat(any_goals (first|assumption|wp_step))
 exact h _ _ l_.keeps
structure ZipSt (h:Heap) (d z TI TO i1 i2 l1 l2:Addr) (k:Nat) (xs ys:Array Value):Prop where
 ti:IsPair h TI (.ref i1) (.ref i2)
 a1:h.IsListIter i1 l1 k
 a2:h.IsListIter i2 l2 k
 b1:h.IsList l1 xs
 b2:h.IsList l2 ys
 st:(∃a b,IsZip h z TI TO .none/\IsPair h TO a b)\/∃(T:Addr) (b:Bool) (ot:Obj),oq h z TI TO (rawInt T) b/\h.get? T=some ot/\T≠z/\T≠i1/\T≠i2/\T≠d
structure qw (d z TI TO i1 i2 l1 l2:Addr):Prop where
 z:z≠d
 TI:TI≠d
 TO:TO≠d
 i1:i1≠d
 i2:i2≠d
 l1:l1≠d
 l2:l2≠d
def ZipSt.keep {h':Heap}{TI TO:Addr}{k:Nat}(Z:ZipSt h d z TI TO i1 i2 l1 l2 k xs ys)(O:qw d z TI TO i1 i2 l1 l2)(kp:∀c o,c≠d->h.get? c=some o->h'.get? c=some o):ZipSt h' d z TI TO i1 i2 l1 l2 k xs ys:=by
 refine⟨kp _ _ O.TI Z.ti,Z.a1.at λo e=>kp _ o O.i1 e,Z.a2.at λo e=>kp _ o O.i2 e,?_,?_,?_⟩
 .obtain⟨o,ho,r⟩:=Z.b1;exact⟨o,kp _ _ O.l1 ho,r⟩
 .obtain⟨o,ho,r⟩:=Z.b2;exact⟨o,kp _ _ O.l2 ho,r⟩
 .rcases Z.st with⟨a,b,h1,h2⟩|⟨T,b,ot,h1,h2,h3⟩
  .exact .inl ⟨a,b,kp _ _ O.z h1,kp _ _ O.TO h2⟩
  .exact .inr ⟨T,b,ot,kp _ _ O.z h1,kp _ _ h3.2.2.2 h2,h3⟩
def wC {TI TO:Addr}{k:Nat}{od:Obj}(D:ZipApart z TI TO i1 i2 l1 l2)(O:qw d z TI TO i1 i2 l1 l2)(hd:s.heap.get? d=some od)
(Z:ZipSt s.heap d z TI TO i1 i2 l1 l2 k xs ys)(hx:xs[k]?=some x)(hy:ys[k]?=some y)
(hQ:∀h',ZipSt h' d z TI TO i1 i2 l1 l2 (k+1) xs ys->IsPair h' s.heap.objs.size x y->(∀c o,c≠z->c≠TO->c≠i1->c≠i2->s.heap.get? c=some o->h'.get? c=some o)->Q (some (.ref s.heap.objs.size)) {s with heap:=h'}):
  wpAny (model prog w) A (pyNext (.ref z)) Q E s:=by
 have lt:∀{c:Addr} {o:Obj},s.heap.get? c=some o->s.heap.objs.size≠c:=fun{c o} e=>Qj (Lu e)
 rcases Z.st with⟨a,b,h1,h2⟩|⟨T,b,ot,h1,h2,h3,h4,h5,h6⟩
 .refine wpAny_pyNext_zip_item D h1 Z.ti h2 Z.a1 Z.a2 Z.b1 Z.b2 hx hy λh' q1 q2 q3 q4 q5 q6 q7=>hQ h' ⟨q7 _ _ D.TIz D.TITO D.TIi1 D.TIi2 Z.ti,q3,q4,?_,?_,?_⟩ q5 q7
  .obtain⟨o,ho,r⟩:=Z.b1;exact⟨o,q7 _ _ D.l1z D.l1TO D.l1i1 D.l1i2 ho,r⟩
  .obtain⟨o,ho,r⟩:=Z.b2;exact⟨o,q7 _ _ D.l2z D.l2TO D.l2i1 D.l2i2 ho,r⟩
  .obtain⟨o1,e1,_⟩:=Z.a1
   obtain⟨o2,e2,_⟩:=Z.a2
   exact .inr ⟨_,false,_,q1,q5,lt h1,lt e1,lt e2,lt hd⟩
 .refine xq D h1 h2 Z.ti Z.a1 Z.a2 Z.b1 Z.b2 hx hy λh' q1 q3 q4 q5 q7=>hQ h' ⟨q7 _ _ D.TIz D.TIi1 D.TIi2 Z.ti,q3,q4,?_,?_,.inr ⟨T,true,ot,q1,q7 _ _ h3 h4 h5 h2,h3,h4,h5,h6⟩⟩ q5 λc o c1 _ c3 c4 e=>q7 c o c1 c3 c4 e
  .obtain⟨o,ho,r⟩:=Z.b1;exact⟨o,q7 _ _ D.l1z D.l1i1 D.l1i2 ho,r⟩
  .obtain⟨o,ho,r⟩:=Z.b2;exact⟨o,q7 _ _ D.l2z D.l2i1 D.l2i2 ho,r⟩
def zr {TI TO:Addr}{k:Nat}(hh:A.handled=none)(D:ZipApart z TI TO i1 i2 l1 l2)
(Z:ZipSt s.heap d z TI TO i1 i2 l1 l2 k xs ys)(Sq:xs[k]?=none\/ys[k]?=none)
(hQ:∀h',(∀c o,c≠z->c≠TO->c≠i1->c≠i2->s.heap.get? c=some o->h'.get? c=some o)->Q none {s with heap:=h'}):wpAny (model prog w) A (pyNext (.ref z)) Q E s:=by
 rcases Z.st with⟨a,b,h1,h2⟩|⟨T,b,ot,h1,h2,h3,h4,h5,h6⟩
 .exact wpAny_pyNext_zip_end hh D h1 Z.ti h2 Z.a1 Z.a2 Z.b1 Z.b2 Sq hQ
 .exact Ax hh D h1 h2 Z.ti Z.a1 Z.a2 Z.b1 Z.b2 Sq λh' q=>hQ h' λc o c1 _ c3 c4 e=>q c o c1 c3 c4 e
section
variable {prog:Program} {w:World} {KT:Type} [DecidableEq KT] {knd:KeyKind prog w KT} {A:Around} {E:XV}
def lS (knd:KeyKind prog w KT)(u:Value×Value)(kv:KT×Value):Prop:=knd.is kv.1 u.1=true/\u.2=kv.2
theorem tH {d z TI TO i1 i2 l1 l2:Addr}{xs ys:jp}{res:Value}(hh:A.handled=none)(D:ZipApart z TI TO i1 i2 l1 l2)(O:qw d z TI TO i1 i2 l1 l2):
  ∀(more:List (KT×Value)) (i:Nat) (s:Shared) (kvs:List (KT×Value)) (R:Result->Shared->Prop),
   ZipSt s.heap d z TI TO i1 i2 l1 l2 i xs.toArray ys.toArray->Paired (lS knd) ((xs.zip ys).drop i) more->s.heap.DictOf knd d kvs->kvs.length+more.length<=sizeLine->
   (∀h' tk,(∀b o,b≠d->b≠z->b≠TO->b≠i1->b≠i2->s.heap.get? b=some o->h'.get? b=some o)->h'.DictOf knd d (more.foldl (λa x=>stored a x.1 x.2) kvs)->R (.ok (.ret res)) {s with heap:=h',toks:=tk})->
   codeAny (model prog w) A (.builtin "dict.update.loop" ⟨[.ref d,.ref z,rawInt (i:Int),res],[]⟩) R s:=by
 intro more
 induction more with
 |nil=>
  intro i s kvs R Z hp hd hz hR
  have Sq:xs.toArray[i]?=none\/ys.toArray[i]?=none:=by
   have hn:(xs.zip ys).drop i=[]:=by cases z_:(xs.zip ys).drop i with
    |nil=>rfl
    |cons x r=>rw[z_] at hp;cases hp
   have hl:=OQ.mp hn;rw[OX] at hl;by_cases h:xs.length<=i
   .exact .inl (by simp;lia)
   .exact .inr (by simp;lia)
  refine MN X1 ?_
  rw[MH K4 _]
  show wpAny _ A.in1 (pyNext (.ref z)>>=_) _ _ s
  refine Lj (zr (A:=A.in1) hh D Z Sq λh' kp=>?_)
  show wpAny _ A.in1 (Builtin.Dict.addKeywords d []>>=_) _ _ _
  refine Lj (Lw (Lw ?_))
  refine hR h' s.toks (λb o _ h1 h2 h3 h4 e=>kp b o h1 h2 h3 h4 e) ?_
  obtain⟨od,es,ep,e,r⟩:=hd
  exact⟨od,es,ep,kp d od (MY O.z) (MY O.TO) (MY O.i1) (MY O.i2) e,r⟩
 |cons kv more ih=>
  intro i s kvs R Z hp hd hz hR
  obtain⟨x,y,hx,hy,hk,Sn⟩:∃x y,xs.toArray[i]?=some x/\ys.toArray[i]?=some y/\lS knd (x,y) kv/\Paired (lS knd) ((xs.zip ys).drop (i+1)) more:=by
   cases z_:(xs.zip ys).drop i with
   |nil=>rw[z_] at hp;cases hp
   |cons u r=>
    rw[z_] at hp
    cases hp with
    |cons h1 h2=>
     have z1:(xs.zip ys)[i]?=some u:=by
      have z:=MG List.head? z_;simpa using z
     obtain⟨q1,q2⟩:=Pk.mp z1
     refine⟨u.1,u.2,by simpa using q1,by simpa using q2,h1,?_⟩
     have z:=MG List.tail z_
     rw[QY] at z
     rw[z];exact h2
  obtain⟨E_,hv⟩:=hk
  obtain⟨od,es,ep,eod,rod⟩:=id hd
  refine MN X1 ?_
  rw[MH K4 _]
  show wpAny _ A.in1 (pyNext (.ref z)>>=_) _ _ s
  refine Lj (wC D O eod Z hx hy λh' Z' hT kp=>?_)
  refine Lj (Mv (Lj (wpAny_tryCatch ?_)))
  unfold Builtin.Dict.pairItems
  refine Lj (Pf (s:={s with heap:=h'}) ⟨_,hT,rfl⟩ ?_)
  rw[if_pos (by decide)]
  refine Lj (Ph (s:={s with heap:=h'}) hT rfl ?_)
  refine Lw ?_
  show wpAny _ A.in1 (holding [x,y] (dictSet d x y)) _ _ _
  have WH:h'.DictOf knd d kvs:=⟨od,es,ep,kp d od (MY O.z) (MY O.TO) (MY O.i1) (MY O.i2) eod,rod⟩
  refine Mv (wpAny_dictSet_pairs (s:={s with heap:=h'}) (kvs:=kvs) E_ WH (λQL dd hs''=>?_) (by simp only[Mj] at hz;lia))
  have kp2:∀b o,b≠d->b≠z->b≠TO->b≠i1->b≠i2->s.heap.get? b=some o->QL.get? b=some o:=λb o h0 h1 h2 h3 h4 e=>hs''.extBut b o h0 (kp b o h1 h2 h3 h4 e)
  refine Lw ⟨Np K4 _,?_⟩
  have ey:y=kv.2:=hv
  rw[ey] at dd
  refine ih (i+1) _ (stored kvs kv.1 kv.2) R (Z'.keep O λc o hc e=>hs''.extBut c o hc e) Sn dd ?_ (λh3 tk k3 d3=>hR h3 tk (λb o h0 h1 h2 h3 h4 e=>k3 b o h0 h1 h2 h3 h4 (kp2 b o h0 h1 h2 h3 h4 e)) d3)
  have z:=stored_length_le kvs kv.1 kv.2
  simp only[Mj] at hz
  lia
end
section
variable {prog:Program} {w:World} {KT:Type} [DecidableEq KT] {knd:KeyKind prog w KT} {A:Around} {E:XV}
def mJ {z TI TO i1 i2 l1 l2:Addr}{xs ys:jp}{more:List (KT×Value)}{a b:Value}{s:Shared}{Q:XV}(hh:A.handled=none)(D:ZipApart z TI TO i1 i2 l1 l2)
(hz:IsZip s.heap z TI TO .none)(Wa:IsPair s.heap TI (.ref i1) (.ref i2))(hTO:IsPair s.heap TO a b)(h1:s.heap.IsListIter i1 l1 0)(h2:s.heap.IsListIter i2 l2 0)(Tj:s.heap.IsList l1 xs.toArray)(TV:s.heap.IsList l2 ys.toArray)
(hlen:more.length<=sizeLine)(hp:Paired (lS knd) (xs.zip ys) more)
(h:∀h' tk,h'.DictOf knd s.heap.objs.size (more.foldl (λa x=>stored a x.1 x.2) [])->(∀b o,b≠z->b≠TO->b≠i1->b≠i2->s.heap.get? b=some o->h'.get? b=some o)->Q (.ref s.heap.objs.size) {s with heap:=h',toks:=tk}):
  wpAny (model prog w) A (call (.type "dict") [.ref z]) Q E s:=by
 refine callType_codes (Q₁:=λobj s₁=>obj= .ref s.heap.objs.size/\s₁={s with heap:=s.heap.push {cls:= .type "dict",data:= .dict #[]}}) F.kt_called_dict (F.kt_typeCall_dict_1 _) F.entry_dict_init (kt_code_dict_new _ ⟨rfl,rfl⟩) ?_
 rintro obj s₁ ⟨rfl,rfl⟩
 have J_:(s.heap.push {cls:= .type "dict",data:= .dict #[]}).DictOf knd s.heap.objs.size []:=Qn s.heap
 have ne:∀{c:Addr} {o:Obj},s.heap.get? c=some o->c≠s.heap.objs.size:=fun{c o} e=>Lz (Lu e)
 obtain⟨o1,e1,r1⟩:=id h1
 obtain⟨o2,e2,r2⟩:=id h2
 obtain⟨o3,e3,r3⟩:=id Tj
 obtain⟨o4,e4,r4⟩:=id TV
 have O:qw s.heap.objs.size z TI TO i1 i2 l1 l2:=⟨ne hz,ne Wa,ne hTO,ne e1,ne e2,ne e3,ne e4⟩
 refine⟨J_.typeIs,F.args_dict_init_2 _ _,?_⟩
 unfold Builtin.«dict.__init__»
 refine Lj ?_
 unfold Builtin.Dict.selfAndRest
 refine Lj (ON J_.typeIs ?_)
 show wpAny _ _ (pure (s.heap.objs.size,[Value.ref z])) _ _ _
 refine Lw ?_
 show wpAny _ _ (Builtin.Dict.updateFrom "dict.__init__" s.heap.objs.size (.ref z) [] .none) _ _ _
 unfold Builtin.Dict.updateFrom
 have Zs:(s.heap.push {cls:= .type "dict",data:= .dict #[]}).get? z=some _:=Lk _ hz
 refine Lj (Pf (s:={s with heap:=s.heap.push {cls:= .type "dict",data:= .dict #[]}}) ⟨_,Zs,rfl⟩ ?_)
 rw[if_pos (by decide)]
 refine Lj (sS (s:={s with heap:=s.heap.push {cls:= .type "dict",data:= .dict #[]}}) Zs hh λh2 Yr k2=>?_)
 rw[if_pos (show((none:ad).isNone)=true from rfl)]
 have up:∀b ob,s.heap.get? b=some ob->h2.get? b=some ob:=λb ob e=>k2 b ob (Lk _ e)
 have hd2:h2.DictOf knd s.heap.objs.size []:=let ⟨od,es,ep,e,r⟩:=J_;⟨od,es,ep,k2 _ _ e,r⟩
 refine Lj (RN (Lj (wpAny_pyIter_zip (f0:= .none) (up _ _ hz) ?_)))
 refine Lw ⟨Np K4 _,?_⟩
 refine tH (knd:=knd) (xs:=xs) (ys:=ys) (A:=A.in1) hh D O more 0 _ [] _ ⟨up _ _ Wa,⟨o1,up _ _ e1,r1⟩,⟨o2,up _ _ e2,r2⟩,⟨o3,up _ _ e3,r3⟩,⟨o4,up _ _ e4,r4⟩,.inl ⟨a,b,up _ _ hz,up _ _ hTO⟩⟩ (by rw[OG];exact hp) hd2 (by simpa using hlen) λh3 tk k3 d3=>⟨rfl,h h3 tk d3 λb ob c1 c2 c3 c4 e=>k3 b ob (ne e) c1 c2 c3 c4 (up b ob e)⟩
end
section
variable {X:Cx} {a b:Expr} {t:TA} {p pos p2 Sr:Pos}
def JE (K:Qd)(t:TA):TE:=λσ H Q=>t σ H λvs H1=>∃(l m:Addr) (ks:List j0) (ys:ap),vs=[.ref l,.ref m]/\SqL K H1 l (ks.map kV)/\SqL K H1 m ys/\∀d,H1 d=none->Q (.ref d) (u9 H1 d (.dK (bE (ks.zip ys))))
def xO {P : Program}{w : World} : ∀ {ks : List j0} {ys : ap} {us vs : jp}, Vals (ks.map kV) us -> Vals ys vs -> ∃ more, Paired (lS (z0 P w)) (us.zip vs) more /\ KV (ks.zip ys) more
 := by
  intro ks ys us vs hu hv;induction ks generalizing ys us vs with
  | nil => cases hu; exact ⟨[], .nil, .nil⟩
  | cons k ks ih => cases hu with
    | cons r t => cases hv with
      | nil => exact ⟨[], .nil, .nil⟩
      | cons r' t' =>
        obtain ⟨more, h1, h2⟩ := ih t t'
        exact ⟨(k, _) :: more, .cons ⟨fh r, rfl⟩ h1, .cons ⟨rfl, r'⟩ h2⟩
theorem GO (Wc:Gl X "dict")(V':X.mg "dict"=none)(ZG:Gl X "zip")(ZH:X.mg "zip"=none)(hc:X.calm=true)(ha:PA X [a,b] t)(hs:starEach [a,b] X.env=[(false,eval a X.env),(false,eval b X.env)])(Uh:starEach [b] X.env=[(false,eval b X.env)])
(hs3:starEach [Expr.Call (.Name "zip" p2) [a,b] [] Sr] X.env=[(false,eval (Expr.Call (.Name "zip" p2) [a,b] [] Sr) X.env)]):PE X (.Call (.Name "dict" p) [.Call (.Name "zip" p2) [a,b] [] Sr] [] pos) (JE X.K t):=by
 intro pins s σ H Q I h
 refine Nm (cT I Wc V' Boot.«dict» (MK ?_ hs3 rfl) (by decide) (by decide))
 rw[hs3]
 show wpAny _ _ (spliced [(false,eval (Expr.Call (.Name "zip" p2) [a,b] [] Sr) X.env)]) _ _ s
 refine NL ?_
 refine Nm (cT I ZG ZH Boot.«zip» (MK (O9 (ha Sr pins s σ H _ I h) λus s1 ⟨vs,H1,I1,r1,q1⟩=>?_) (by rw[hs,Uh]) (by rw[Uh];rfl)) (by decide) (by decide))
 obtain⟨l,m,ks,ys,e,hq,hq',q⟩:=q1
 subst e
 obtain⟨u,v,rfl,ru,rv⟩:=gy r1
 cases ru
 cases rv
 obtain⟨a_,rv,pl,hz⟩:=I1.list hq
 obtain⟨its',rv',ZI,Tn⟩:=I1.list hq'
 obtain⟨more,g1,g2⟩:=xO (P:=X.prog) (w:=X.w) rv rv'
 refine call_zip_2 pl.isList ZI.isList λh' z1 z2 z3 z4 z5 hsz hk=>?_
 refine OE ?_
 have ll:(l:Nat)<(s1.heap.objs.size:Nat):=by obtain⟨o,e,_⟩:=pl.isList;exact Lu e
 have lm:(m:Nat)<(s1.heap.objs.size:Nat):=by obtain⟨o,e,_⟩:=ZI.isList;exact Lu e
 have D:ZipApart (s1.heap.objs.size+4) (s1.heap.objs.size+2) (s1.heap.objs.size+3) s1.heap.objs.size (s1.heap.objs.size+1) l m:=by
  constructor<;>first|exact Lz (Lv ll (by lia))|exact Lz (Lv lm (by lia))|(intro z;have z':(_:Nat)=(_:Nat):=z;lia)
 have Yu:more.length<=sizeLine:=by
  have e1:=KV.length g2;rw[OX] at e1;lia
 refine mJ (knd:=z0 X.prog X.w) (s:={s1 with heap:=h'}) (I.ok.hd hc) D z1 z2 z3 z4 z5 ?_ ?_ Yu g1 λh3 tk d3 k3=>?_
 .obtain⟨o,e,r⟩:=pl.isList;exact⟨o,hk _ _ e,r⟩
 .obtain⟨o,e,r⟩:=ZI.isList;exact⟨o,hk _ _ e,r⟩
 have Xe:s1.heap.objs.size<=h'.objs.size:=by rw[hsz];lia
 refine⟨.ref h'.objs.size,_,I1.laid (a:=h'.objs.size) (t':=tk) (λb o e=>?_) Xe (fX (kvs:=bE (ks.zip ys)) ?_ ?_ (KV.puts g2 .nil) d3),rfl,q _ (I1.hok.fresh Xe)⟩
 .have hb:(b:Nat)<(s1.heap.objs.size:Nat):=Lu e
  exact k3 b o (Lz (Lv hb (by lia))) (Lz (Lv hb (by lia))) (Lz (Lv hb (by lia))) (Lz (Lv hb (by lia))) (hk _ _ e)
 .have z:=du (ks.zip ys) []
  unfold bE
  have e1:=KV.length g2
  simp only[Oq] at z
  lia
 .exact NC.mpr (MY (Lz (Lv I1.big Xe)))
def Kn (K:Qd)(V':X.mg "dict"=none)(ZH:X.mg "zip"=none)(hc:X.calm=true)(ha:QA X [a,b] t)(Wc:Gl X "dict":=by rfl)(ZG:Gl X "zip":=by rfl)(h:E2 a=true:=by rfl)(h':E2 b=true:=by rfl)(hK:X.K=K:=by rfl):
  QE X (.Call (.Name "dict" p) [.Call (.Name "zip" p2) [a,b] [] Sr] [] pos) (JE K t):=⟨hK▸GO Wc V' ZG ZH hc ha.r (by rw[X8 h,X8 h'];rfl) (X8 h') (X8 rfl)⟩
def JJ {K:Qd}{σ:L2.St}{H:Hp}{Q:VK}{t:TA}(q:t σ H λvs H1=>∃(l m:Addr) (ks:List j0) (ys:ap),vs=[.ref l,.ref m]/\SqL K H1 l (ks.map kV)/\SqL K H1 m ys/\∀d,H1 d=none->Q (.ref d) (u9 H1 d (.dK (bE (ks.zip ys))))):JE K t σ H Q:=q
end
open PySem.AutoSeq1 (wpAny_loadPart')
open PySem.MeetsSeq PySem.MeetsSeq2 PySem.MeetsSeq3
def EqL (K:Qd)(H:Hp)(x y:V)(b:Bool):Prop:=∃(a c:Addr) (xs ys:ap),x= .ref a/\y= .ref c/\SqL K H a xs/\SqL K H c ys/\xs.all K7=true/\ys.all K7=true/\b=V1 xs ys
section
variable {X:Cx} {pins:XL} {σ:St} {H:Hp} {s:Shared} {A:Around}
theorem EqL.at_ {x y:V}{u v:Value}{b:Bool}(I:Inv X pins σ H s)(h:EqL X.K H x y b)(rx:RelV x u)(ry:RelV y v)(hu:A.units+8<cLine):SeqAt.EqAt A s u v b:=by
 obtain⟨a,c,xs,ys,rfl,rfl,ha,hc,fx,fy,rfl⟩:=h;cases rx;cases ry;obtain⟨a_,r1,p1,z1⟩:=I.list ha;obtain⟨its',r2,p2,z2⟩:=I.list hc;by_cases hac:a=c
 .subst hac;have e:=I.list_inj ha hc;subst e;rw[eM fx];exact OT _
 .have l1:=r1.length;have l2:=r2.length;by_cases hl:xs.length=ys.length
  .have q:=SeqAt.RcAt.lists (A:=A) (e:=λj=>eV (xs.getD j .non) (ys.getD j .non)) p1.isList p2.isList (by simp;lia) (by lia) λj g1 g2=>by
    have RY:j<a_.length:=by simpa using g1
    have RZ:j<its'.length:=by simpa using g2
    have x1:xs[j]?=some (xs[j]'(by lia)):=by simp [show j<xs.length by lia]
    have y1:ys[j]?=some (ys[j]'(by lia)):=by simp [show j<ys.length by lia]
    obtain⟨u1,Te,Tf⟩:=r1.get x1;obtain⟨u2,RG,Tg⟩:=r2.get y1;have e1:a_.toArray[j]=u1:=by
     have:=KY RY;rw[Te] at this;simpa using(Ly this).symm
    have e2:its'.toArray[j]=u2:=by
     have:=KY RZ;rw[RG] at this;simpa using(Ly this).symm
    rw[e1,e2];have d1:xs.getD j .non=xs[j]'(by lia):=by rw[LL,x1];rfl
    have d2:ys.getD j .non=ys[j]'(by lia):=by rw[LL,y1];rfl
    rw[d1,d2];exact fU Tf Tg (LU.mp fx _ (LH _)) (LU.mp fy _ (LH _))
   have e3:a_.toArray.size=min xs.length ys.length:=by simp;lia
   have z:=Y4 xs ys;rw[show(xs.length==ys.length)=true by simpa using hl,Ov] at z;rw[e3,z] at q;exact .of_refs hac q
  .rw[gu hl];exact .of_refs hac (Pr p1.isList p2.isList (by simp;lia) (by lia))
end
def vG (K:Qd):V->ap->Hp->VK->Prop:=λx vs H Q=>∃(l:Addr) (xs:ap) (y:V) (f:V->Bool),x= .ref l/\vs=[y]/\H l=some (.lst xs)/\(∀z∈xs,EqL K H z y (f z))/\Q (.int (xs.countP f:Nat)) H
theorem jG {k:Nat}(hr:Room k X.A):xV X "list.count" (vG X.K):=by
 intro pins s σ H x vs v us Q I rx rv h;obtain⟨l,xs,y,f,rfl,rfl,hl,he,q⟩:=h;cases rx;obtain⟨u,rfl,ru⟩:=X3 rv;obtain⟨hz,a_,n,r,hle,e⟩:=I.lstM hl;refine QJ F.slot_list_count ⟨_,e,rfl⟩ F.entry_list_count (F.args_list_count_2 _ _) (SeqAt.list_countAt l a_.toArray n _ _ u (f∘Dl)) ⟨e,λw hw=>?_,?_⟩
 .obtain⟨z,Tn,rz⟩:=jd r (show w∈a_ by simpa using hw);have g:=EqL.at_ (A:=X.A.in1) I (he z Tn) rz ru (by have:=hr.un;show X.A.units+1+8<cLine;lia);rw[show(f∘Dl) w=f z by show f (Dl w)=f z;rw[AA rz]];exact g
 .refine⟨.int (xs.countP f:Nat),H,I.tok _,⟨s.toks,?_⟩,q⟩;show Value.int (a_.countP (f∘Dl):Nat) _=_;rw[ID r]
def jF {k:Nat}(K:Qd)(hr:Room k X.A)(h:X.K=K:=by rfl):xV X "list.count" (vG K):=h▸jG hr
def oX:xV X "list.pop" GG:=EK
def JU {pos:Pos}:QE X (.Dict [] [] pos) zu:=⟨yZ⟩
end L2
namespace PySem
section
variable {prog:Program} {w:World} {K:Type} [DecidableEq K] {A:Around} {E:XV} {s:Shared}
theorem aH {knd:HeapKind prog w K}{d a:Addr}{xs:List (K×Addr×Value)}{k:K}{v:Value}{Q:XV}(hu:knd.room A)(E_:knd.is s.heap k a)(hm:s.heap.DictOfH knd d xs)
(Vf:∀p,atKey xs k=some p->Q p.2 {s with toks:=s.toks+knd.draws k})
(hQ:atKey xs k=none->∀h',h'.DictOfH knd d (storedH xs k a v)->Heap.SameBut d s.heap h'->Q v {s with heap:=h',toks:=s.toks+knd.draws k})
(hsz:xs.length<=sizeLine):
  wpAny (model prog w) A (dictSetDefault d (.ref a) v) Q E s:=by
 obtain⟨o,es,ep,ho,hc,hd,he,his,hn⟩:=hm
 unfold dictSetDefault
 try with_reducible refine Mv ?_
 refine Lj (knd.pyHash hu E_ ?_)
 refine Lj (wpAny_dictFind_heap (s:={s with toks:=s.toks+knd.draws k}) hu E_ ho hd he his hn ?_ ?_)
 .intro i_
  have Vg:k∉xs.map (·.1):=not_mem_keys_of_get i_
  refine Lj (RN (Lj (wpAny_updateDictKeys (hz:=by have e:=size_of_entries he;lia) (s:={s with toks:=s.toks+knd.draws k}) ho hd (Lw (hQ (OF i_) _ ⟨_,_,ep+1,Heap.get?_update_self _ ho (Obj.isFreed_of_dict (Obj.data_mapDictKeys hd _)),
   hc.mapDictKeys _,Obj.data_mapDictKeys hd _,?_,?_,?_⟩ (OY ..))))))
  .rw[storedH_new (OF i_)]
   simp [he,entryOfKey]
  .rw[storedH_new (OF i_)]
   intro x hx
   rcases Ld.mp hx with hx|hx
   .exact knd.keeps (his x hx) ho hd (OY ..)
   .simp only[Li] at hx
    subst hx
    exact knd.keeps E_ ho hd (OY ..)
  .rw[storedH_new (OF i_)]
   rw[Lh,Ls]
   refine⟨hn,by simp,?_⟩
   intro x hx y hy
   simp only[Mg,Nz,Li] at hy
   subst hy
   exact λe=>Vg (e▸hx)
 .intro j p hj
  refine Lj (wpAny_dictEntries (s:={s with toks:=s.toks+knd.draws k}) ho hd ?_)
  rw[entry_at he j,hj]
  exact Lj (RN (Lw (Vf _ (atKey_of_get hn hj))))
def ck (knd:HeapKind prog w K)(d a:Addr)(hd:(d==sysModules)=false)(dflt:Value):
  MeetsIn prog w (Builtin.«dict.setdefault» ⟨[.ref d,.ref a,dflt],[]⟩) (λA R s=>knd.room A.in1/\∃k xs,knd.is s.heap k a/\s.heap.DictOfH knd d xs/\xs.length<=sizeLine/\
   (∀p,atKey xs k=some p->R (.ok (.ret p.2)) {s with toks:=s.toks+knd.draws k})/\
   (atKey xs k=none->∀h',h'.DictOfH knd d (storedH xs k a dflt)->Heap.SameBut d s.heap h'->R (.ok (.ret dflt)) {s with heap:=h',toks:=s.toks+knd.draws k})):=
 .of_wp λA R s ⟨hu,k,xs,hk,hm,hz,h1,h2⟩=>by
  unfold Builtin.«dict.setdefault»;refine Lj ?_;unfold Builtin.Dict.keyAndDefault;refine Lj (ON hm.typeIs ?_);show wpAny _ _ (pure (d,Value.ref a,some dflt)) _ _ s;refine Lw ?_;show wpAny _ _ (if(d==sysModules)=true then _ else(dictSetDefault d (.ref a) dflt>>=_)) _ _ s;rw[if_neg (by rw[hd];exact Ma)];exact Lj (aH hu hk hm (λp hp=>Lw ⟨_,rfl,h1 p hp⟩) (λhn h' hm' hs'=>Lw ⟨dflt,rfl,h2 hn h' hm' hs'⟩) hz)
end
end PySem
namespace L2
open PySem PySem.Spec PyProof.Rows
def Ce:V->ap->Hp->VK->Prop:=λx vs H Q=>∃(d t:Addr) (kvs:List (List j0×V)) (k:List j0) (v:V),x= .ref d/\vs=[.ref t,v]/\H d=some (.dT kvs)/\H t=some (.tup (k.map kV))/\kvs.length<sizeLine/\
 (match A8 kvs k with|some u=>Q u H|none=>Q v (u9 H d (.dT (F7 kvs k v))))
variable {X:Cx}
theorem eT {k:Nat}(hr:Room k X.A):xV X "dict.setdefault" Ce:=by
 intro pins s σ H x vs v us Q I rx rv h;obtain⟨d,t,kvs,k',y,rfl,rfl,e,et,hl,q⟩:=h;cases rx;obtain⟨u1,u2,rfl,r1,r2⟩:=gy rv;cases r1;obtain⟨z,hd,xs,rel,dd⟩:=CQ I.hok e;have hz:xs.length<=sizeLine:=by rw[←LP rel];exact z
 have UO:(F7 kvs k' y).length<=sizeLine:=by have:=R5 kvs k' y;lia
 refine ML F.slot_dict_setdefault dd.typeIs F.entry_dict_setdefault (F.args_dict_setdefault_3 _ _ _) (ck (tupleKind (z0 X.prog X.w)) d t hd u2) ⟨Nd (by have:=hr.un;lia),k',xs,dX I.hok et,dd,hz,λp hp=>?_,λhn h' dd' hs=>?_⟩
 .have hw:(atKey xs k').map (·.2)=some p.2:=by rw[hp];rfl
  have ro:=rel.val k';rw[hw] at ro;cases hv:A8 kvs k' with
  |none=>rw[hv] at ro;cases ro
  |some w'=>
   rw[hv] at ro q
   exact⟨w',H,I.tok _,ro,q⟩
 .have ro:=rel.val k';rw[hn] at ro;cases hv:A8 kvs k' with
  |some w'=>rw[hv] at ro;cases ro
  |none=>
   rw[hv] at q
   refine⟨y,_,?_,r2,q⟩
   obtain⟨o',es,ep,hq,h2,h3,h4,_,h5⟩:=dd'
   refine eI I (by rw[e];exact True.intro) hs ⟨o',hq⟩ ⟨UO,hd,_,(rel.put k' et r2).keeps λc ys ec=>?_,o',es,ep,hq,h2,h3,h4,h5⟩
   rw[b7 (CZ ec e (λz=>nomatch z))]
   exact ec
def zf (K:Qd):ap->Hp->VK->Prop:=λxs H Q=>∃(t:Addr) (a b:Str),xs=[.ref t]/\SqT K H t [.str a,.str b]/\Q (.str (if a.cps.toList<b.cps.toList then b else a)) H
def xA (hc:X.calm=true):CallR X (.builtin "max") (zf X.K):=by
 intro pins s σ H xs us Q I r h;obtain⟨t,a,b,rfl,ht,q⟩:=h;obtain⟨u,rfl,ru⟩:=X3 r;cases ru;obtain⟨a_,rv,p,hz⟩:=I.tuple ht;obtain⟨_,_,rfl,⟨t1,rfl⟩,⟨t2,rfl⟩⟩:=gy rv;refine call_max_walk (wpAny_pyIter_tuple (show s.heap.IsTuple t #[Value.str a t1,Value.str b t2] from p) ?_);have p_:t<s.heap.objs.size:=by
  obtain⟨o,e,_⟩:=(show s.heap.IsTuple t #[Value.str a t1,Value.str b t2] from p)
  exact Lu e
 have kp:∀c o,s.heap.get? c=some o->(s.heap.push {cls:= .type "tuple_iterator",data:= .fields #[.ref t,.int 0 0]}).get? c=some o:=λc o e=>Lk _ e;refine⟨s.heap.objs.size,[s.heap.objs.size,t],[s.heap.objs.size],2,_,_,λi j=>decide ((if j=0 then a else b).cps.toList<(if i=0 then a else b).cps.toList),rfl,Walks.tuple (A:=X.A.in1) (show X.A.in1.handled=none from I.ok.hd hc) s.heap.objs.size t (Lz p_) #[Value.str a t1,Value.str b t2],⟨⟨_,LC _ rfl,rfl,rfl⟩,let ⟨o,e,r⟩:=p;⟨o,kp _ _ e,r⟩⟩,λc Sh=>?_,by decide,?_,?_⟩
 .show c<(s.heap.push _).objs.size;rcases LZ.mp Sh with rfl|Sh
  .simp [Heap.push]
  .rw[Li.mp Sh];have z:s.heap.objs.size<(s.heap.push {cls:= .type "tuple_iterator",data:= .fields #[.ref t,.int 0 0]}).objs.size:=by simp [Heap.push]
   exact Qm p_ z
 .intro i j vi vj s' Q' E' hi hj hQ;have key:∀(i:Nat) (v:Value),(#[Value.str a t1,Value.str b t2]:Array Value)[i]?=some v->∃tk,v= .str (if i=0 then a else b) tk:=λi v h=>by
   match i,h with
   |0,h=>exact⟨t1,by simpa using h.symm⟩
   |1,h=>exact⟨t2,by simpa using h.symm⟩
   |n+2,h=>simp at h
  obtain⟨k1,rfl⟩:=key i vi hi;obtain⟨k2,rfl⟩:=key j vj hj;exact richCompare_gives (op:= .Gt) (QH _ _ _) (QH _ _ _) F.slot_str_gt F.entry_str_gt (F.args_str_gt_2 _ _) (gives_str_gt _ _ _ _) (λe=>nomatch e) hQ
 .intro v h' tk hv hk;have I2:Inv X pins σ H {s with heap:=h',toks:=tk}:=I.kept λc o e=>hk c o (λz=>by rw[Li.mp z] at e;exact absurd (Lu e) (MQ _)) (kp c o e);refine⟨_,H,I2,?_,q⟩;by_cases hl:a.cps.toList<b.cps.toList
  .have e:argBest (λi j=>decide ((if j=0 then a else b).cps.toList<(if i=0 then a else b).cps.toList)) (2 -1)=1:=by show(if decide (a.cps.toList<b.cps.toList)=true then 1 else 0)=1;rw[if_pos (LA hl)]
   rw[e] at hv;rw[if_pos hl];exact⟨t2,by simpa using hv.symm⟩
  .have e:argBest (λi j=>decide ((if j=0 then a else b).cps.toList<(if i=0 then a else b).cps.toList)) (2 -1)=0:=by show(if decide (a.cps.toList<b.cps.toList)=true then 1 else 0)=0;rw[if_neg (by rw[LM hl];decide)]
   rw[e] at hv;rw[if_neg hl];exact⟨t1,by simpa using hv.symm⟩
def HI (K:Qd)(hc:X.calm=true)(h:X.K=K:=by rfl):CallR X (.builtin "max") (zf K):=h▸xA hc
variable {K:Qd}{H:Hp}
def Dx {Q:VK}{t:Addr}{a b:Str}(h:SqT K H t [.str a,.str b])(q:Q (.str (if a.cps.toList<b.cps.toList then b else a)) H):zf K [.ref t] H Q:=⟨t,a,b,rfl,h,q⟩
structure Ks (K:Qd) (x qual:Str) (st:Stmt) (T:Addr) (f:Addr) (fd:FuncData):Prop where
 ex:∃(oc:Value) (od:Option Addr) (kV doc pm:Value) (an:Option Addr) (d_ ct:Value) (RV:Array ad),
  fd=PySem.W.fnOf x qual (aM st) (Y7 st) (i7 st) (.ref T) kV doc pm an d_ ct/\K.lookup f=some ⟨oc,od,.func fd,RV⟩/\PySem.W.codeIn K d_ qual=true
 kp:PySem.W.keepIn K (.ref f)=true
open PySem.AutoSeq1 (wpAny_loadPart')
open PySem.MeetsSeq PySem.MeetsSeq2 PySem.MeetsSeq3
def Kt (rk:Value->Int)(p:Keyed):Keyed:=(.int (rk p.1) 0,p.2)
def kA (rk:Value->Int)(st:SortSt)(i:Nat):Int:=PyProof.Rows.K ((arrOf st).map (Kt rk)) i
structure TB (kd:SortKind) (base:Array Keyed) (st:SortSt):Prop where
 pm:(arrOf st).Perm base
 kd:kindOf st=kd
 fl:failedOf st=none
 pe:pendingOf st= #[]
def KQ (rk:Value->Int)(st:SortSt)(n:Nat):Prop:=∀i j,i<=j->j<n->kA rk st i<=kA rk st j
structure TD (rk:Value->Int) (base:Array Keyed) (st:SortSt):Prop where
 pm:(arrOf st).Perm base
 fl:failedOf st=none
 pe:pendingOf st= #[(0,base.size,0)]
 up:KQ rk st base.size
def Jz:V->List Nat
 | .str a=>a.cps.toList
 | .bl b=>[b.toNat]
 |_=>[]
abbrev Ju (xs:ap):List (List Nat):=xs.map Jz
abbrev KP:=List (List Nat)
structure Kp (h:Heap) (kf:Value->KP) (v:Value):Prop where
 at_:∃(a:Addr) (us:jp) (xs:ap) (x:Str) (r:ap),v= .ref a/\h.IsTuple a us.toArray/\Vals xs us/\xs= .str x::r/\kf v=Ju xs
section
variable {X:Cx} {pins:XL} {σ:St} {H:Hp} {s:Shared}
end
def CN (K:Qd):R2:=λ_ _ _ _=>False
def BV (hu:X.A.units+64<cLine):OpR X (compareOp .Eq) (CN X.K):=by
 intro pins s σ H x y v u Q I rx ry h;exact h.elim
def CL (K:Qd):R2:=λx y H Q=>lU K x y H Q\/CN K x y H Q
def Gm (K:Qd){k:Nat}(hr:Room k X.A)(h:X.K=K:=by rfl):OpR X (compareOp .Eq) (CL K):=(N2 K hr h).or (h▸BV hr.units)
def EqA (K:Qd)(H:Hp)(x y:V)(b:Bool):Prop:=(∃a c,x= .str a/\y= .str c/\b=decide (a=c))\/False
variable {b:Bool}
def GL {Q:VK}{x y:V}(h:EqA K H x y b)(q:Q (.bl b) H):CL K x y H Q:=by
 rcases h with⟨a,c,rfl,rfl,rfl⟩|h
 .exact .inl (gh q)
 .exact h.elim
def EqA.mono {H':Hp}{x y:V}(l:Le H H')(h:EqA K H x y b):EqA K H' x y b:=h
open PySem.AutoSeq1 (wpAny_loadPart')
open PySem.MeetsSeq PySem.MeetsSeq2 PySem.MeetsSeq3
variable {P:Program}{w:World}
def ES (l m:Addr)(xs ys:Array Value)(n1 n2:Nat)(d1 d2:Option Addr)(s1 s2:Array ad)(hz:xs.size≠ys.size):
  MeetsIn P w (Builtin.«list.__ne__» ⟨[.ref l,.ref m],[]⟩) (λA R s=>
   s.heap.get? l=some {cls:= .type "list",dict:=d1,data:= .seq xs n1,slots:=s1}/\s.heap.get? m=some {cls:= .type "list",dict:=d2,data:= .seq ys n2,slots:=s2}/\
   R (.ok (.ret (.bool true))) s):=by
 intro A R s hyp
 obtain⟨hp,gg,dr,tk,os⟩:=s
 obtain⟨e1,e2,fin⟩:=hyp
 have q1:=NK;have q2:(xs.size !=ys.size)=true:=by simp [hz]
 wp_walk using wpAny_loadPart' e1,wpAny_loadPart' e2
 exact fin
def HR (K:Qd):R2:=λx y H Q=>∃(p q:Addr) (xs:ap),x= .ref p/\y= .ref q/\SqL K H p xs/\SqL K H q []/\Q (.bl (!xs.isEmpty)) H
theorem Fj (hu:X.A.units+64<cLine):OpR X (compareOp .NotEq) (HR X.K):=by
 intro pins s σ H x y v u Q I rx ry h;obtain⟨p,q,xs,rfl,rfl,hp,hq,k⟩:=h;cases rx;cases ry;obtain⟨us,r1,p1,z1⟩:=I.list hp;obtain⟨vs,r2,p2,z2⟩:=I.list hq;have le1:=r1.length;have Xf:=r2.length;obtain rfl:vs=[]:=MC (by simpa using Xf.symm);cases xs with
 |nil=>
  obtain rfl:us=[]:=MC (by simpa using le1.symm)
  have q:=NcP.lst (P:=X.prog) (w:=X.w) (A:=X.A) (f:=λ_=>true) p1.isList p2.isList rfl (by lia) (λj g1 _=>absurd g1 (by simp))
  exact q _ _ ⟨.bl _,H,I,rfl,k⟩
 |cons x r=>
  obtain⟨⟨c1,d1,a1,s1⟩,o1,k1,n1,w1⟩:=id p1.isList
  obtain⟨⟨c2,d2,a2,s2⟩,o2,k2,n2,w2⟩:=id p2.isList
  simp only at k1 w1 k2 w2
  subst k1 w1 k2 w2
  show wpAny _ X.A (richCompare .NotEq (.ref p) (.ref q)) _ _ s
  refine MM (op:= .NotEq) ⟨_,o1,rfl⟩ ⟨_,o2,rfl⟩ NZ (ML NZ ⟨_,o1,rfl⟩ Qx (Qi _ _) (ES p q us.toArray #[] n1 n2 d1 d2 s1 s2 (by simp;intro z;rw[z] at le1;simp at le1)) ⟨o1,o2,?_⟩) (by lia)
  exact⟨(λz=>nomatch z),⟨.bl _,H,I,rfl,k⟩⟩
def Hb (K:Qd){k:Nat}(hr:Room k X.A)(h:X.K=K:=by rfl):OpR X (compareOp .NotEq) (HR K):=h▸Fj hr.units
structure FnIn (K:Qd) (n:Str) (st:Stmt) (f:Addr):Prop where
 a:PySem.W.nsIn K mainGlobals n=some (some (.ref f))
 F:∃fd,Fun K n n st f fd
variable {st:Stmt}{f:Addr}
def FnIn.mk' {n:Str}{oc:Value}{od an:Option Addr}{RV:Array ad}{kV doc pm d_ ct:Value}(a:PySem.W.nsIn K mainGlobals n=some (some (.ref f)))(l:K.lookup f=some ⟨oc,od,.func (PySem.W.fnOf n n (aM st) (Y7 st) (i7 st) .none kV doc pm an d_ ct),RV⟩)
(c:PySem.W.codeIn K d_ n=true)(k:PySem.W.keepIn K (.ref f)=true):FnIn K n st f:=⟨a,_,FR l c k⟩
variable {mg:Str->ad}{h:Heap}{ps:xL}
def r6 {base:Heap}{CX:qz}{k:Nat}{n:Str}{sp:Sp}(X:K.In h)(G:h.Ns mainGlobals mg)(a:FnIn K n st f)(ok:∀{f fd},Fun K n n st f fd->E4 P w K mg base CX k f fd ps sp)
(b:∀(kV doc pm:Value) (an:Option Addr) (d_ ct:Value) (us:jp),us.length=ps.length->bindArgs (PySem.W.fnOf n n (aM st) (Y7 st) (i7 st) .none kV doc pm an d_ ct) ⟨us,[]⟩=pure (ps.zip us)):U8 P w K mg base CX k n ps [] sp:=by
 obtain⟨fd,F⟩:=a.F
 exact⟨f,_,[],ok F,MR X G a.a,F.kp,F.binds b,.nil⟩
def FH {CX:qz}{k:Nat}{p:Str}{sp:Sp}{fa:Addr}(X:K.In h)(G:h.Ns mainGlobals mg)(ZJ:mg "law"=some (.ref fa))(a:FnIn K "law" st f)(ok:∀{base f fd},Fun K "law" "law" st f fd->E4 P w K mg base CX k f fd [p] sp)
(b:∀(kV doc pm:Value) (an:Option Addr) (d_ ct:Value) (s:Shared) (v:Value),BindsTo s (PySem.W.fnOf "law" "law" (aM st) (Y7 st) (i7 st) .none kV doc pm an d_ ct) ⟨[v],[]⟩ [(p,v)]):
  ∃fd:FuncData,(∀(s:Shared) (v:Value),BindsTo s fd ⟨[v],[]⟩ [(p,v)])/\∀base:Heap,K.In base->base.Ns mainGlobals mg->E4 P w K mg base CX k fa fd [p] sp:=by
 obtain⟨fd,F⟩:=a.F
 have e:=ZJ.symm.trans (MR X G a.a)
 cases e
 obtain⟨oc,od,kV,doc,pm,an,d_,ct,RV,rfl,lk,RR⟩:=id F.ex
 exact⟨_,λs v=>b _ _ _ _ _ _ s v,λbase _ _=>ok F⟩
variable {us:jp}
def uc {n:Nat}(h:us.length=n+1):∃a r,us=a::r/\r.length=n:=by
 cases us with
 |nil=>cases h
 |cons a r=>exact⟨a,r,rfl,Nat.succ.inj h⟩
variable {fd:FuncData}
def Kv (h:us.length=1)(g:∀a:Value,bindArgs fd ⟨[a],[]⟩=pure (ps.zip [a])):bindArgs fd ⟨us,[]⟩=pure (ps.zip us):=by
 obtain⟨a,us,rfl,h1⟩:=uc h;cases us with
 |nil=>exact g a
 |cons _ _=>cases h1
def Kw (h:us.length=2)(g:∀a b:Value,bindArgs fd ⟨[a,b],[]⟩=pure (ps.zip [a,b])):bindArgs fd ⟨us,[]⟩=pure (ps.zip us):=by
 obtain⟨a,us,rfl,h1⟩:=uc h;obtain⟨b,us,rfl,h2⟩:=uc h1;cases us with
 |nil=>exact g a b
 |cons _ _=>cases h2
def Ku (h:us.length=3)(g:∀a b c:Value,bindArgs fd ⟨[a,b,c],[]⟩=pure (ps.zip [a,b,c])):bindArgs fd ⟨us,[]⟩=pure (ps.zip us):=by
 obtain⟨a,us,rfl,h1⟩:=uc h;obtain⟨b,us,rfl,h2⟩:=uc h1;obtain⟨c,us,rfl,h3⟩:=uc h2;cases us with
 |nil=>exact g a b c
 |cons _ _=>cases h3
def Kr (h:us.length=4)(g:∀a b c d:Value,bindArgs fd ⟨[a,b,c,d],[]⟩=pure (ps.zip [a,b,c,d])):bindArgs fd ⟨us,[]⟩=pure (ps.zip us):=by
 obtain⟨a,us,rfl,h1⟩:=uc h;obtain⟨b,us,rfl,h2⟩:=uc h1;obtain⟨c,us,rfl,h3⟩:=uc h2;obtain⟨d,us,rfl,h4⟩:=uc h3;cases us with
 |nil=>exact g a b c d
 |cons _ _=>cases h4
def KC (h:us.length=5)(g:∀a b c d e:Value,bindArgs fd ⟨[a,b,c,d,e],[]⟩=pure (ps.zip [a,b,c,d,e])):bindArgs fd ⟨us,[]⟩=pure (ps.zip us):=by
 obtain⟨a,us,rfl,h1⟩:=uc h;obtain⟨b,us,rfl,h2⟩:=uc h1;obtain⟨c,us,rfl,h3⟩:=uc h2;obtain⟨d,us,rfl,h4⟩:=uc h3;obtain⟨e,us,rfl,h5⟩:=uc h4;cases us with
 |nil=>exact g a b c d e
 |cons _ _=>cases h5
def KH (h:us.length=6)(g:∀a b c d e f:Value,bindArgs fd ⟨[a,b,c,d,e,f],[]⟩=pure (ps.zip [a,b,c,d,e,f])):bindArgs fd ⟨us,[]⟩=pure (ps.zip us):=by
 obtain⟨a,us,rfl,h1⟩:=uc h;obtain⟨b,us,rfl,h2⟩:=uc h1;obtain⟨c,us,rfl,h3⟩:=uc h2;obtain⟨d,us,rfl,h4⟩:=uc h3;obtain⟨e,us,rfl,h5⟩:=uc h4;obtain⟨f,us,rfl,h6⟩:=uc h5;cases us with
 |nil=>exact g a b c d e f
 |cons _ _=>cases h6
def Gg (a u:St->Hp->Prop):Prop:=∀σ H,u σ H->a σ H
def HQ {t u:TS}{nx:St->Hp->Prop}{rt:V->Hp->Prop}{bk ct:St->Hp->Prop}{σ:St}(h:∀a:St->Hp->Prop,Gg a (u ⟨nx,rt,bk,ct⟩)->t ⟨a,rt,bk,ct⟩ σ H):jI t u ⟨nx,rt,bk,ct⟩ σ H:=h _ λ_ _ z=>z
def gJ {a u:St->Hp->Prop}{σ:St}(h:Gg a u)(q:u σ H):a σ H:=h σ H q
section
variable {J:It} {th:Hp->Hp} {g:V->St->Hp->(St->Hp->Prop)->Prop} {tb:TS} {nx:St->Hp->Prop} {rt:V->Hp->Prop} {σ:St} {H:Hp} {n:Nat}
def M9 (Pv:Nat->St->Hp->Prop)(h0:Pv 0 σ H)(H_:∀i σ H,i<n->Pv i σ H->J.go i H)
(hs:∀B:Nat->V->St->Hp->Prop,(∀{i x σ H'},(∀a:St->Hp->Prop,Gg a (Pv (i+1))->g x σ H' λσ2 H2=>tb ⟨a,λv H=>rt v (th H),λσ H=>nx σ (th H),a⟩ σ2 H2)->B i x σ H')->∀i x σ H H',i<n->Pv i σ H->J.yld i H x H'->B i x σ H')
(hd:∀σ H,Pv n σ H->J.stop n H/\nx σ (th H)):xb J th g tb nx rt σ H:=uI Pv h0 H_ (λi x σ H H' a b c=>hs (λi x σ H'=>∀a:St->Hp->Prop,Gg a (Pv (i+1))->g x σ H' λσ2 H2=>tb ⟨a,λv H=>rt v (th H),λσ H=>nx σ (th H),a⟩ σ2 H2) (λh=>h) i x σ H H' a b c _ λ_ _ z=>z) hd
def eA (Pv:Nat->St->Hp->Prop)(h0:Pv 0 σ H)(H_:∀i σ H,i<n->Pv i σ H->J.go i H)
(hs:∀(bk:St->Hp->Prop) (B:Nat->V->St->Hp->Prop),(∀{i x σ H'},(∀a:St->Hp->Prop,Gg a (Pv (i+1))->g x σ H' λσ2 H2=>tb ⟨a,λv H=>rt v (th H),bk,a⟩ σ2 H2)->B i x σ H')->∀i x σ H H',i<n->Pv i σ H->J.yld i H x H'->B i x σ H')
(hd:∀σ H,Pv n σ H->J.stop n H/\nx σ (th H)):xb J th g tb nx rt σ H:=DA Pv h0 H_ (λk i x σ H H' a b c=>hs k (λi x σ H'=>∀a:St->Hp->Prop,Gg a (Pv (i+1))->g x σ H' λσ2 H2=>tb ⟨a,λv H=>rt v (th H),k,a⟩ σ2 H2) (λh=>h) i x σ H H' a b c _ λ_ _ z=>z) hd
end
section
variable {X:Cx} {x:Str} {T:Addr} {np RJ pos:Pos} {b₀:Stmt} {body suite:List Stmt} {tb:(St->XK)->TS} {ts:TS}
end
section
variable {X:Cx} {pins:XL} {σ:St} {H:Hp} {s:Shared} {h':Heap}
end
end L2
namespace L2
open PySem PySem.Spec PyProof.Rows PySem.W
section
open PySem.Calls PySem.Builtin PySem.Builtin.ObjectAttr PySem.Builtin.Getset_descriptor
variable {K:Frag}{M:Model}{h:Heap}{C:Addr}
def wI {x:Addr}{n:Str}{a g:Value}(X:K.In h)(h1:findIn K (.ref C) n=some (some a))(h2:specialIn K a "__get__"=some (some g))(h3:takesIn K a=some true):Looks M h (find (.ref x) (.ref C) n) (.bind g a):=
 (looks_findIn X h1).andThen ((looks_specialIn X h2).andThen ((show Looks M h (dataDescriptor? (some a) (some g)) (some (g,a)) from(looks_takesIn X h3).andThen .now).andThen (Looks.tag .now)))
structure ExN (K:Frag) (C:Addr):Prop where
 g:findIn K (.ref C) "__getattribute__"=some (some (.builtin "BaseException.__getattribute__"))
 h:findIn K (.ref C) "__getattr__"=some none
 a:findIn K (.ref C) "__class__"=some (some (.builtin "object.__class__"))
 n:specialIn K (.builtin "object.__class__") "__get__"=some (some (.builtin "getset_descriptor.__get__"))
 t:takesIn K (.builtin "object.__class__")=some true
 m:mroIn K C (.type "object")=some true
 e:mroIn K C (.type "BaseException")=some true
variable {a:Addr}
def IsExc.ty (x:IsExc a C h):Looks M h (typeOf (.ref a)) (.ref C):=by
 obtain⟨o,vs,e,c,d⟩:=x;exact c▸(Looks.ld e).andThen .now
variable {P:Program}{w:World}{A:Around}{s:Shared}
def Co {R:Result->Shared->Prop}{tp:Value}(N:ExN K C)(X:K.In s.heap)(x:IsExc a C s.heap)(k:R (.ok (.ret (.ref C))) s):codeAny (model P w) A (.call (.builtin "getset_descriptor.__get__") ⟨[.builtin "object.__class__",.ref a,tp],[]⟩) R s:=by
 obtain⟨h0,g0,d0,t0,o0⟩:=s;have l0:=IsExc.ty (M:=model P w) x;have l1:=looks_mroIn (M:=model P w) X N.m;refine OR KF.slot_gs.plain KF.entry_gs (KF.slot_gs.check _ _ _ _ _ _ _ _ KF.type_class (KF.args_gs _ _ _) ?_);unfold Builtin.«getset_descriptor.__get__» descrGet;rw[dga_obj];refine Lj (Lw ?_);unfold descrGetter descrCheckInstance descrNameAndClass isInstance;simp only[KF.owner_class];repeat lk
 refine⟨Code.quiet_builtin _ (by decide+kernel),MN KF.entry_class ?_⟩;unfold Builtin.«object.__class__» shownTypeOf;repeat lk
 exact k
variable {E:XV}
def Cf {tk:Tok}{Q:Fin->Shared->Prop}(N:ExN K C)(X:K.In s.heap)(x:IsExc a C s.heap)(k:Q (.done (.ret (.ref C))) s):wpAny (model P w) A (Builtin.«object.__getattribute__» ⟨[.ref a,.str "__class__" tk],[]⟩) Q E s:=by
 obtain⟨h0,g0,d0,t0,o0⟩:=s;have l0:=IsExc.ty (M:=model P w) x;have l1:=wI (M:=model P w) (x:=a) X N.a N.n N.t;unfold Builtin.«object.__getattribute__»;repeat(first|with_reducible refine Looks.at (by assumption) ?_|with_reducible refine Lj ?_|with_reducible refine Mv ?_|with_reducible refine QD ?_|k_node)
 exact Co N X x (Lw k)
def BW {v:Value}{Q:Unit->Shared->Prop}(N:ExN K C)(X:K.In s.heap)(x:IsExc a C s.heap)(k:Q () s):wpAny M A (checkBuiltinCall "BaseException.__getattribute__" ⟨[.ref a,v],[]⟩) Q E s:=by
 obtain⟨h0,g0,d0,t0,o0⟩:=s;have l0:=IsExc.ty (M:=M) x;have l1:=looks_mroIn (M:=M) X N.e;have z1:builtinKind "BaseException.__getattribute__"=some .slot:=by decide+kernel
 have z2:splitId "BaseException.__getattribute__"=some ("BaseException","__getattribute__"):=by decide+kernel
 have z3:=PySem.F.args_bexc_ga (.ref a) v;simp only[checkBuiltinCall,z1,z2];refine Lj ?_;unfold isInstance;repeat lk
 exact k
def BC {Q:ad->Shared->Prop}(N:ExN K C)(X:K.In s.heap)(x:IsExc a C s.heap)(k:Q (some (.ref C)) {s with toks:=s.toks+1}):wpAny (model P w) A (getAttr? (.ref a) "__class__") Q E s:=by
 obtain⟨h0,g0,d0,t0,o0⟩:=s;have l0:=IsExc.ty (M:=model P w) x;have l1:=looks_findIn (M:=model P w) X N.g;have l2:=looks_findIn (M:=model P w) X N.h;have f3:=Pb.ga.bind (.ref a);unfold getAttr? getAttrBy? getAttrBy;refine Lj (wpAny_mkText (Lj (PF (Mv (Lj (l0.at (Lj (l1.at ?_))))))));show wpAny _ _ (getAttrByItsOwn _ _ _ _ _ _) _ _ _;unfold getAttrByItsOwn hookBefore callGetattribute boundAndCalled;refine Lj (l2.at (Lj (PF (Mv ?_))));rw[if_neg (by decide),f3];refine Lj (Lw (QD (OR Pb.ga.plain PySem.F.entry_bexc_ga (BW N X x (Cf (s:=⟨h0,g0,d0,t0+1,o0⟩) N X x ?_)))));exact handed_on rfl (Lw k)
def BK (N:ExN K C):KitX K (.ref a) (.ref C) (IsExc a C):=by
 obtain⟨cd,hc,_⟩:=Option.bind_eq_some_iff.mp N.m;refine⟨λ_ _ _ x=>IsExc.ty x,λM h X _=>?_,λh tp dd a_ n sl X htp=>?_,λX x k=>BC N X x k⟩
 .unfold clsIn at hc;split at hc
  .rename_i ho;intro A' Q' E' s' k q;unfold isType loadHead
   exact Lj (wpAny_loadPart (k _ _ (X _ _ ho)) (Lw q))
  .cases hc
 .refine Bool.eq_false_iff.mpr λq=>?_;cases Value.ref.inj (RD.mp q);unfold clsIn at hc;split at hc
  .rename_i ho;rw[X _ _ ho] at htp;cases htp
  .cases hc
end
def CC (K:Frag):ap->Hp->VK->Prop:=λxs H Q=>∃(a C:Addr) (c:Value) (v:V) (b:Bool),xs=[.ref a,v]/\cV c v/\H a=some (.ext (IsExc a C))/\ExN K C/\kitOne K (.ref C) c=some b/\Q (.bl b) H
def vU {X:Cx}:CallR X (.builtin "isinstance") (CC X.K):=by
 intro pins s σ H xs us Q I r h;obtain⟨a,C,c,v,b,rfl,hc,hH,N,hk,q⟩:=h;obtain⟨u,c',rfl,rx,rc⟩:=gy r;cases (show u=Value.ref a from rx);have he:IsExc a C s.heap:=(I.hok a _ hH).1;have ec:c'=c:=by
  cases c with
  |ref T=>cases (show v= .ref T from hc);exact rc
  |type n=>cases (show v= .ty n from hc);exact rc
  |_=>exact hc.elim
 subst ec;exact kia_one (BK N) I.kIn he hk (λz=>nomatch z) λtk=>⟨.bl b,H,I.tok tk,rfl,q⟩
def rN (K:Frag){X:Cx}(h:X.K=K:=by rfl):CallR X (.builtin "isinstance") (CC K):=h▸vU
end L2
set_option maxHeartbeats 1000000
namespace K31
open PySem PySem.Spec PyProof.Rows L2
def X6 (i:Nat):Stmt:=PySem.Challenge.pw_gluework_k31_rows_gone_through.main.body.getD i (.Pass ⟨0,0,0,0⟩)
abbrev cq:Stmt:=X6 10
local macro_rules|`(tactic|walk_at "g")=>`(tactic|exact⟨rfl,rfl,rfl,by decide+kernel,rfl,by decide+kernel,by decide+kernel⟩)
def sc_is_text_of:j5 ["thing","signs","most"] ["thing","signs","most"] (i7 cq):=by walk_at "g"
abbrev ja:Stmt:=X6 11
def sc_is_name:j5 ["thing"] ["thing"] (i7 ja):=by walk_at "g"
abbrev fZ:Stmt:=X6 12
def sc_in_order:j5 ["named"] ["named"] (i7 fZ):=by walk_at "g"
abbrev mr:Stmt:=X6 13
def sc_copied:j5 ["web"] ["web"] (i7 mr):=by walk_at "g"
abbrev lH:Stmt:=X6 14
def sc_things:j5 ["web"] ["web"] (i7 lH):=by walk_at "g"
abbrev iT:Stmt:=X6 15
def sc_without:j5 ["web","names","points","ties","name"] ["web","names"] (i7 iT):=by walk_at "g"
abbrev kG:Stmt:=X6 16
def sc_united:j5 ["web","more","points","ties"] ["web","more"] (i7 kG):=by walk_at "g"
abbrev aY:Stmt:=X6 17
def sc_tie_renamed:j5 ["tie","names"] ["tie","names"] (i7 aY):=by walk_at "g"
abbrev iZ:Stmt:=X6 18
def sc_renamed:j5 ["web","names","points","ties"] ["web","names"] (i7 iZ):=by walk_at "g"
abbrev fV:Stmt:=X6 20
def sc_is_match:j5 ["piece","web","match","names"] ["piece","web","match"] (i7 fV):=by walk_at "g"
abbrev tB:Stmt:=X6 21
def sc_line:j5 ["piece","match"] ["piece","match"] (i7 tB):=by walk_at "g"
abbrev bA:Stmt:=X6 22
def sc_first_match:j5 ["piece","web","fixed"] ["piece","web","fixed"] (i7 bA):=by walk_at "g"
abbrev bf:Stmt:=X6 23
def sc_first_found:j5 ["piece","web","piece_looks","web_looks","fixed","told"] ["piece","web","piece_looks","web_looks","fixed"] (i7 bf):=by walk_at "g"
abbrev pS:Stmt:=X6 24
def sc_found:j5 ["piece","web","piece_looks","web_looks","fixed","most","told","choices","places","names"] ["piece","web","piece_looks","web_looks","fixed","most"] (i7 pS):=by walk_at "g"
abbrev lC:Stmt:=X6 25
def sc_may_be:j5 ["name","image","fixed"] ["name","image","fixed"] (i7 lC):=by walk_at "g"
abbrev af:Stmt:=X6 26
def sc_point_choices:j5 ["piece_looks","web_looks","fixed","choices","name","look","alike"] ["piece_looks","web_looks","fixed"] (i7 af):=by walk_at "g"
abbrev bU:Stmt:=X6 27
def sc_tie_places:j5 ["piece","web","fixed","places","name","tie","there","image","other"] ["piece","web","fixed"] (i7 bU):=by walk_at "g"
abbrev kM:Stmt:=X6 28
def sc_enough:j5 ["lists"] ["lists"] (i7 kM):=by walk_at "g"
abbrev qc:Stmt:=X6 29
def sc_lines:j5 ["piece","choices","places","most","names","told","waiting","begun","image"] ["piece","choices","places","most"] (i7 qc):=by walk_at "g"
abbrev lI:Stmt:=X6 30
def sc_images:j5 ["piece","choices","places","begun","names","name","put","unlike"] ["piece","choices","places","begun"] (i7 lI):=by walk_at "g"
abbrev bu:Stmt:=X6 31
def sc_tie_choices:j5 ["piece","places","put","name","ends"] ["piece","places","put","name"] (i7 bu):=by walk_at "g"
abbrev fG:Stmt:=X6 32
def sc_has_room:j5 ["piece","places","put","name","image","longer","due"] ["piece","places","put","name","image"] (i7 fG):=by walk_at "g"
abbrev tD:Stmt:=X6 34
def sc_both:j5 ["web","other"] ["web","other"] (i7 tD):=by walk_at "g"
abbrev pJ:Stmt:=X6 35
def sc_alone:j5 ["web","other"] ["web","other"] (i7 pJ):=by walk_at "g"
abbrev tw:Stmt:=X6 36
def sc_kept:j5 ["rule"] ["rule"] (i7 tw):=by walk_at "g"
abbrev pP:Stmt:=X6 37
def sc_taken:j5 ["rule"] ["rule"] (i7 pP):=by walk_at "g"
abbrev fP:Stmt:=X6 38
def sc_fresh_of:j5 ["rule"] ["rule"] (i7 fP):=by walk_at "g"
abbrev kn:Stmt:=X6 40
def sc_picked:j5 ["put","names"] ["put","names"] (i7 kn):=by walk_at "g"
abbrev kr:Stmt:=X6 41
def sc_barred:j5 ["web","rule","match","number","bar","told"] ["web","rule","match"] (i7 kr):=by walk_at "g"
abbrev dD:Stmt:=X6 42
def sc_taken_out:j5 ["step"] ["step"] (i7 dD):=by walk_at "g"
abbrev aZ:Stmt:=X6 43
def sc_names_serve:j5 ["web","rule","fresh","names"] ["web","rule","fresh"] (i7 aZ):=by walk_at "g"
abbrev iS:Stmt:=X6 44
def sc_rest_of:j5 ["web","step","rule","rest"] ["web","step"] (i7 iS):=by walk_at "g"
abbrev uz:Stmt:=X6 45
def sc_done:j5 ["web","step","rule","rest"] ["web","step"] (i7 uz):=by walk_at "g"
abbrev mf:Stmt:=X6 46
def sc_behind:j5 ["step","rule","put"] ["step"] (i7 mf):=by walk_at "g"
abbrev au:Stmt:=X6 48
def sc_gone_through:j5 ["web","row","webs","step"] ["web","row"] (i7 au):=by walk_at "g"
abbrev av:Stmt:=X6 50
def sc__law_cell_at:j5 ["_law_script","_law_k"] ["_law_script","_law_k"] (i7 av):=by walk_at "g"
abbrev bR:Stmt:=X6 51
def sc__law_mixed:j5 ["_law_cell","_law_k","_law_number"] ["_law_cell","_law_k"] (i7 bR):=by walk_at "g"
abbrev bx:Stmt:=X6 52
def sc__law_stream:j5 ["_law_cell","_law_many","_law_number","_law_found","_law_k"] ["_law_cell","_law_many"] (i7 bx):=by walk_at "g"
abbrev cY:Stmt:=X6 53
def sc__law_name:j5 ["_law_number","_law_k","_law_letters","_law_base","_law_j","_law_at","_law_tag"] ["_law_number","_law_k"] (i7 cY):=by walk_at "g"
abbrev cx:Stmt:=X6 54
def sc__law_words:j5 ["_law_number","_law_many","_law_letters","_law_base","_law_j","_law_at"] ["_law_number","_law_many"] (i7 cx):=by walk_at "g"
abbrev fS:Stmt:=X6 55
def sc__law_web:j5 ["_law_script","_law_number","_law_kinds_here","_law_points","_law_ties","_law_k","_law_x","_law_names","_law_ends"] ["_law_script","_law_number","_law_kinds_here"] (i7 fS):=by walk_at "g"
abbrev bg:Stmt:=X6 56
def sc__law_picked:j5 ["_law_web_here","_law_xs","_law_names","_law_points","_law_j","_law_ties","_law_k","_law_name_here","_law_tie"] ["_law_web_here","_law_xs"] (i7 bg):=by walk_at "g"
abbrev fH:Stmt:=X6 57
def sc__law_out:j5 ["_law_web_here","_law_points","_law_ties","_law_xs","_law_out_here","_law_k","_law_name_here","_law_loose_here"] ["_law_web_here","_law_points","_law_ties","_law_xs"] (i7 fH):=by walk_at "g"
abbrev dC:Stmt:=X6 58
def sc__law_rule:j5 ["_law_web_here","_law_xs","_law_words_here","_law_kinds_here","_law_points","_law_ties","_law_out_here","_law_word_of","_law_left","_law_right","_law_k","_law_name_here","_law_kind","_law_begin","_law_end","_law_ends","_law_match","_law_word"] ["_law_web_here","_law_xs","_law_words_here","_law_kinds_here"] (i7 dC):=by walk_at "g"
abbrev di:Stmt:=X6 59
def sc__law_step:j5 ["_law_web_here","_law_xs","_law_words_here","_law_kinds_here","_law_names","_law_rule_here","_law_match","_law_fresh","_law_word"] ["_law_web_here","_law_xs","_law_words_here","_law_kinds_here","_law_names"] (i7 di):=by walk_at "g"
abbrev cS:Stmt:=X6 60
def sc__law_done:j5 ["_law_web_here","_law_step_here","_law_rule_here","_law_match","_law_fresh","_law_out_here","_law_points","_law_name_here","_law_ties","_law_names","_law_word","_law_kind","_law_begin","_law_end"] ["_law_web_here","_law_step_here"] (i7 cS):=by walk_at "g"
abbrev cQ:Stmt:=X6 61
def sc__law_copy:j5 ["_law_step_here","_law_rule_here","_law_match","_law_fresh","_law_pieces"] ["_law_step_here"] (i7 cQ):=by walk_at "g"
abbrev dH:Stmt:=X6 62
def sc__law_same:j5 ["_law_found","_law_web_here"] ["_law_found","_law_web_here"] (i7 dH):=by walk_at "g"
abbrev fY:Stmt:=X6 63
def sc__law_met:j5 ["_law_web_here","_law_bar","_law_match","_law_held","_law_word","_law_tie"] ["_law_web_here","_law_bar","_law_match"] (i7 fY):=by walk_at "g"
abbrev dj:Stmt:=X6 64
def sc__law_bars:j5 ["_law_left","_law_xs","_law_words_here","_law_kinds_here","_law_bars_here","_law_k","_law_x","_law_bar","_law_ends","_law_kind"] ["_law_left","_law_xs","_law_words_here","_law_kinds_here"] (i7 dj):=by walk_at "g"
abbrev cc:Stmt:=X6 65
def sc__law_drawn:j5 ["_law_web_here","_law_cell","_law_first","_law_kinds_here","_law_at","_law_xs","_law_words_here","_law_names","_law_rule_here","_law_match","_law_fresh","_law_bars_here"] ["_law_web_here","_law_cell","_law_first","_law_kinds_here","_law_at"] (i7 cc):=by walk_at "g"
abbrev fJ:Stmt:=X6 66
def sc__law_row:j5 ["_law_web_here","_law_cells","_law_first","_law_kinds_here","_law_row_here","_law_webs_here","_law_cell"] ["_law_web_here","_law_cells","_law_first","_law_kinds_here"] (i7 fJ):=by walk_at "g"
abbrev fR:Stmt:=X6 67
def sc__law_set:j5 ["_law_script","_law_first","_law_second","_law_kinds_here"] ["_law_script"] (i7 fR):=by walk_at "g"
abbrev aF:Stmt:=X6 68
def sc__law_spoiled:j5 ["_law_step_here","_law_way","_law_rule_here","_law_match","_law_fresh"] ["_law_step_here","_law_way"] (i7 aF):=by walk_at "g"
abbrev cw:Stmt:=X6 69
def sc__law_kinds:j5 ["_law_web_here","_law_row_here","_law_told","e"] ["_law_web_here","_law_row_here"] (i7 cw):=by walk_at "g"
abbrev cf:Stmt:=X6 70
def sc__law_loose:j5 ["_law_web_here","_law_x","_law_some","_law_point"] ["_law_web_here","_law_x"] (i7 cf):=by walk_at "g"
abbrev cW:Stmt:=X6 71
def sc__law_webs:j5 ["_law_found","_law_webs_here"] ["_law_found","_law_webs_here"] (i7 cW):=by walk_at "g"
abbrev zY:Stmt:=X6 72
def sc_law:j5 ["_law_script","_law_first","_law_kinds_here","_law_web_here","_law_row_here","_law_webs_here","_law_handed","_law_given","_law_found","_law_told","_law_x","_law_at","_law_way","_law_later"] ["_law_script"] (i7 zY):=by walk_at "g"
abbrev cI:Str:="abcdefghijklmnopqrstuvwxyz"
abbrev gx:Str:="abcdefghijklmnopqrstuvwxyz0123456789."
structure Txt (K:Qd) (mg:Str->ad):Prop where
 r_Barred:ExC K mg "Barred" (cA K "Barred")
 r_Loose:ExC K mg "Loose" (cA K "Loose")
 r_NoMatch:ExC K mg "NoMatch" (cA K "NoMatch")
 r_NoNames:ExC K mg "NoNames" (cA K "NoNames")
 t_GlueError:JN K mg "GlueError" (cA K "GlueError")
 g_Barred:BL mg "Barred" (.ref (cA K "Barred"))
 g_Loose:BL mg "Loose" (.ref (cA K "Loose"))
 g_NoMatch:BL mg "NoMatch" (.ref (cA K "NoMatch"))
 g_NoNames:BL mg "NoNames" (.ref (cA K "NoNames"))
 s_Barred_GlueError:PySem.W.subIn K (.ref (cA K "Barred")) (.ref (cA K "GlueError"))=some true
 e_Barred:ExN K (cA K "Barred")
 i_Barred_Barred:PySem.W.kitOne K (.ref (cA K "Barred")) (.ref (cA K "Barred"))=some true
 i_Barred_Loose:PySem.W.kitOne K (.ref (cA K "Barred")) (.ref (cA K "Loose"))=some false
 i_Barred_NoMatch:PySem.W.kitOne K (.ref (cA K "Barred")) (.ref (cA K "NoMatch"))=some false
 i_Barred_NoNames:PySem.W.kitOne K (.ref (cA K "Barred")) (.ref (cA K "NoNames"))=some false
 i_Barred_ValueError:PySem.W.kitOne K (.ref (cA K "Barred")) (.type "ValueError")=some true
 s_Loose_GlueError:PySem.W.subIn K (.ref (cA K "Loose")) (.ref (cA K "GlueError"))=some true
 e_Loose:ExN K (cA K "Loose")
 i_Loose_Barred:PySem.W.kitOne K (.ref (cA K "Loose")) (.ref (cA K "Barred"))=some false
 i_Loose_Loose:PySem.W.kitOne K (.ref (cA K "Loose")) (.ref (cA K "Loose"))=some true
 i_Loose_NoMatch:PySem.W.kitOne K (.ref (cA K "Loose")) (.ref (cA K "NoMatch"))=some false
 i_Loose_NoNames:PySem.W.kitOne K (.ref (cA K "Loose")) (.ref (cA K "NoNames"))=some false
 i_Loose_ValueError:PySem.W.kitOne K (.ref (cA K "Loose")) (.type "ValueError")=some true
 s_NoMatch_GlueError:PySem.W.subIn K (.ref (cA K "NoMatch")) (.ref (cA K "GlueError"))=some true
 e_NoMatch:ExN K (cA K "NoMatch")
 i_NoMatch_Barred:PySem.W.kitOne K (.ref (cA K "NoMatch")) (.ref (cA K "Barred"))=some false
 i_NoMatch_Loose:PySem.W.kitOne K (.ref (cA K "NoMatch")) (.ref (cA K "Loose"))=some false
 i_NoMatch_NoMatch:PySem.W.kitOne K (.ref (cA K "NoMatch")) (.ref (cA K "NoMatch"))=some true
 i_NoMatch_NoNames:PySem.W.kitOne K (.ref (cA K "NoMatch")) (.ref (cA K "NoNames"))=some false
 i_NoMatch_ValueError:PySem.W.kitOne K (.ref (cA K "NoMatch")) (.type "ValueError")=some true
 s_NoNames_GlueError:PySem.W.subIn K (.ref (cA K "NoNames")) (.ref (cA K "GlueError"))=some true
 e_NoNames:ExN K (cA K "NoNames")
 i_NoNames_Barred:PySem.W.kitOne K (.ref (cA K "NoNames")) (.ref (cA K "Barred"))=some false
 i_NoNames_Loose:PySem.W.kitOne K (.ref (cA K "NoNames")) (.ref (cA K "Loose"))=some false
 i_NoNames_NoMatch:PySem.W.kitOne K (.ref (cA K "NoNames")) (.ref (cA K "NoMatch"))=some false
 i_NoNames_NoNames:PySem.W.kitOne K (.ref (cA K "NoNames")) (.ref (cA K "NoNames"))=some true
 i_NoNames_ValueError:PySem.W.kitOne K (.ref (cA K "NoNames")) (.type "ValueError")=some true
 b_ValueError:mg "ValueError"=none
 b_all:mg "all"=none
 b_any:mg "any"=none
 b_dict:mg "dict"=none
 b_enumerate:mg "enumerate"=none
 b_int:mg "int"=none
 b_isinstance:mg "isinstance"=none
 b_len:mg "len"=none
 b_list:mg "list"=none
 b_max:mg "max"=none
 b_min:mg "min"=none
 b_range:mg "range"=none
 b_reversed:mg "reversed"=none
 b_set:mg "set"=none
 b_sorted:mg "sorted"=none
 b_str:mg "str"=none
 b_tuple:mg "tuple"=none
 b_zip:mg "zip"=none
 c_MOST_NAME_SIGNS:BL mg "MOST_NAME_SIGNS" (.int 24)
 c_NAME_SIGNS:BL mg "NAME_SIGNS" (.str gx)
 c_SMALL_LETTERS:BL mg "SMALL_LETTERS" (.str cI)
abbrev kSL:Str:="abcdefghijklmnopqrstuvwxyz"
abbrev kNS:Str:="abcdefghijklmnopqrstuvwxyz0123456789."
def rZ (x signs:Str):Bool:=x.cps.toList.all λc=>decide (c∈signs.cps.toList)
def U9 (x signs:Str)(most:Int):Bool:=decide (1<=(x.length:Int))&&decide ((x.length:Int)<=most)&&rZ x signs
def Jb (x signs:Str):Bool:=decide (x.cps.toList.headD 0∈signs.cps.toList)
def V4 (x:Str):Bool:=U9 x kNS 24&&Jb x kSL
def N1 (x:Str):Bool:=U9 x kSL 8
def He (K:Qd)(H:Hp)(v:V):Prop:=∃t,TyB K H v t/\t≠"str"
def Dc (K:Qd)(f:Str->Bool)(v:V)(H:Hp)(Q:VK):Prop:=
 (∃x,v= .str x/\x.length<=1000/\∀H',Same H H'->Q (.bl (f x)) H')\/(He K H v/\∀H',Same H H'->Q (.bl false) H')
def fq (K:Qd):Sp:=λvs H Q _=>∃v signs most,vs=[v,.str signs,.int most]/\Dc K (λx=>U9 x signs most) v H Q
def mh (K:Qd):Sp:=λvs H Q _=>∃v,vs=[v]/\Dc K V4 v H Q
def eZ (K:Qd):Sp:=λvs H Q _=>∃c k:Int,vs=[.int c,.int k]/\0<=k/\k<=1000/\∀m:Int,0<=m->Q (.int m) H
def Gz (H:Hp)(Q:VK)(P:xL->Prop):Prop:=∀(p:Addr) (H':Hp) (ss:xL),H p=none->Same H H'->H' p=some (.lst (ss.map V.str))->P ss->Q (.ref p) H'
def b9 (W:C3):xL:=W.pts.map (·.1)++W.ts.map (·.1)
structure WebIs (n:Nat) (K:Qd) (H:Hp) (a p q:Addr) (kvs:am) (W:C3):Prop where
 at_:WebAt K H a p q kvs W
 hp:H p=some (.dK (i6 W.pts))
 hq:H q=some (.dK kvs)
 ne:p≠q
 nd:(b9 W).Nodup
 len:(b9 W).length<=n
 ends:∀x∈W.ts,x.2.2.1∈W.pts.map (·.1)/\x.2.2.2∈W.pts.map (·.1)
 nl:∀x∈b9 W,x.length<=100
variable {K:Qd}{H H':Hp}{p q:Addr}{kvs:am}{W:C3}
def WebIs.same {n:Nat}{a:Addr}(h:WebIs n K H a p q kvs W)(s:Same H H'):WebIs n K H' a p q kvs W:=⟨h.at_.mono s.le,s _ _ h.hp,s _ _ h.hq,h.ne,h.nd,h.len,h.ends,h.nl⟩
set_option hygiene false
def zzW (c:Char):StateT (List (List Char)) Lean.MacroM String:=do match (←get) with
 |l::r=>set ((l.dropWhile (·≠c)).tail::r);return String.ofList (l.takeWhile (·≠c))
 |_=>throw .unsupportedSyntax
def zzO (a:StateT (List (List Char)) Lean.MacroM Lean.Term):StateT (List (List Char)) Lean.MacroM Lean.Term:=do match (←get) with
 |('$'::l)::r=>set r;let b←a;modify (l::·);return b
 |_=>a
def zzT:Nat→StateT (List (List Char)) Lean.MacroM Lean.Term
|0=>throw .unsupportedSyntax
|n+1=>do
 let x:=do match (←get) with
  |(c::l)::r=>set (l::r);return c
  |_=>throw .unsupportedSyntax
 let g:=zzT n
 let d:=zzO do return Lean.quote ((←x).toNat-48)
 let s:=zzO do let a:Array Lean.Term:=(((←zzW ';').splitOn ",").map fun z=>⟨Lean.Syntax.mkStrLit z⟩).toArray;`([$a,*])
 let j:=zzO do let a:Array Lean.Term:=((←zzW ';').toList.map fun z=>Lean.quote (z.toNat-48)).toArray;`([$a,*])
 let f:=fun (k:Char) (m:String)=>do return Lean.Syntax.mkApp (Lean.mkIdent m.toName) (←(Array.range (k.toNat-48)).mapM fun _=>g)
 let q:=fun (m:String) (v:Lean.Term)=>(⟨Lean.mkNode `Lean.Parser.Term.namedArgument #[Lean.mkAtom "(",Lean.mkIdent m.toName,Lean.mkAtom ":=",v,Lean.mkAtom ")"]⟩:Lean.Term)
 match (←x) with
 |'\''=>f (←x) (←zzW ' ')
 |'$'=>do match (←get) with
  |s::r=>set r;let b←g;modify (s::·);return b
  |_=>throw .unsupportedSyntax
 |'!'=>do match (←x) with
  |'a'=>`(λ_ _=>rfl)
  |'b'=>`(by walk_at "l")
  |'c'=>`(by kernel_rfl)
  |'d'=>`(by rfl)
  |'e'=>`(by decide)
  |'f'=>`(_)
  |'g'=>`(λ_ _ _ _=>$(←g))
  |'h'=>`(show List.Nodup ($(←s) :xL) by decide+kernel)
  |'i'=>return q "i" (←d)
  |'j'=>return q "j" (←d)
  |'n'=>d
  |'o'=>return q "own" (←s)
  |'s'=>return q "js" (←j)
  |_=>return ⟨Lean.Syntax.mkStrLit (←zzW ';')⟩
 |c=>do
  let b:=c='~'
  let c←if b then x else pure c
  for e in (if b then "00hr
10T.b_dict
2='3bF %'0T.b_enumerate $
3='4bo $$$!d
40Boot.«list»
50T.b_list
6='2V0 %$
7='4qC $'1hr.mono !e$$
80U2
90Nx
a0Nh
b='2oP %$
c0F4
d0J3
e0pN
f0Q0
g='4ql '0jV $$$
h='3vy '0hu $$
i0Boot.«dict»
j=!qdict;
k0U1
l0Ny
m0Ng
n='2Ja '0ph 1
o='5A7 !i$aM!b$
p0Boot.«int»
q0T.b_int
r0Boot.«str»
s=!qstr;
t='5Kn $$'0T.b_zip $$
u0Boot.«min»
v0PassesOwn.leaving
w0Boot.«set»
x='4HY '0hu $$$
y='3sI $'0T.b_reversed $
z=!qtuple;
A=!qlist;" else "0='1qV !n$
10d9
2='4j9 '2j8 %'0hu '1qV !n$1!a
3=q$'0j4 
4=q'1qV !n$'0j4 
5=8'5A7 !i$aM!b$$
6='4qC $'1hr.mono !e'0k7 $
7=d'1C4 $
82A9
9=q'1qV !n$$
a0hN
b='4j9 '2j8 %'0hu '1qV !n$$!a
c='2V3 '4K0 !i$$M!b$
d1E6
e=J'1K3 %$$
f='4K0 !i$$M!b
g=q$q$'0j4 
h='4j9 '2j8 %'0hu $$!a
i=J'0A5 $$
j='4u6 $$$'1o9 !f
k=s'3E8 %'0P '0w '0T.b_len '0Boot.«len» $
l=q'1qV !n$q'1qV !n$'0j4 
m=!h$
n1M8
o='3aT $$'0cH 
p='2R0 %$
q2g5
r='4u6 $$$!d
s4qB
t='5V6 $M$$$
u='2N2 %~0
v0LW
w=!g$
x='8O6 !o$!s$!cM$!g$!g$!g$
y1jh
z='3jw %M$
A0jn
B=J'0E7 $$
C='2R7 $'3ke $$'3B7 '0P '0w '0hu 
D='2N7 %'0hu 
E=('0j4 
F=:'2U6 %M~1~i$
G0bV
H='7qM $$$$%$$
I1oJ
J3E1
K='2kIn %'0hu 
L1eQ
M0rfl
N='4bo $$$'1o9 !f
O0uk
P='1ax '2V0 %$
Q0pY
R0Mb
S='2aV %~0
T='2dm $'1bD $
U0Boot.«sorted»
V0T.b_sorted
W='2Q5 %M
X='2aC $'1Y3 $
Y0A6
Z0Mf
#0Me
%0K
&1xU
(1Q6
)='4zI '1yX %$$$
*='2kz '0T.b_range $
+0Mr
,1Z2
-0AM
.0Y9
/=8'2R7 $$$
:4iw
;='<V7 !i$aM!b!o$!s$!cM$$$$
<0jE
=3Bl
>0Boot.«isinstance»
?0T.b_isinstance
@='3jo %'0P '0w 
[0D5
]0uv
^0Boot.«all»
_0T.b_all
`='2xD %M
{0iB
|='6Gh $$$$%$").splitOn "\n" do
   if let a::k::m:=e.toList then
    if a=c then
     if k.isDigit then return (←f k (String.ofList m))
     modify (m::·);let b←g;modify List.tail;return b
  throw .unsupportedSyntax
local macro_rules|`(tactic|walk_at $s:str)=>do
 match s.getString.toList with
 |'@'::l=>let (c,l)←(zzW ' ').run [l];let (x,_)←(zzT 999).run l;let c:=Lean.mkIdent (c++".nd").toName;`(tactic|(have hN:=$c;have hu:=B0 hr;refine ⟨_,QSs.r $x,?_⟩))
 |'#'::l=>let c:=Lean.mkIdent (String.ofList l).toName;`(tactic|refine F.ok $c (λvs H Q E h=>?_) (λd_ A outer s H vs Q E hr h=>?_))
 |_=>throw .unsupportedSyntax
set_option hygiene true
local macro_rules| `(tactic|walk_at "b")=> `(tactic|(intro _ _ _ _ _ _ us hl;first|exact bn0 hl rfl|exact Kv hl λ_=>rfl|exact Kw hl λ_ _=>rfl|exact Ku hl λ_ _ _=>rfl|exact Kr hl λ_ _ _ _=>rfl|exact KC hl λ_ _ _ _ _=>rfl|exact KH hl λ_ _ _ _ _ _=>rfl))
local macro_rules|`(tactic|walk_at "q")=>do let a:Array (Lean.TSyntax `Lean.Parser.Tactic.tacticSeq)←(("r_par AU Ji Cv Ho DC KO Jp HW GN EE Ed GI Ey JW Bn xg Ha JJ EO IP Gp FJ Kc Gw GS IF JL FK GP Fe JI GR FU DX Jg JA AB EH Gr r_chain xE Jo Av r_lt_str qE r_eq_bl qH yF r_notIn_sgn r_is Aj w_eq_bl gh qI qG w_ne_bl w_ne_str sU n_ne_bl n_ne_str HG AY Dy r_enum r_zip Br Fq JK Iw Jx IA Hr AE Iq GK Jy JZ Hl IL".splitOn " ").toArray).mapM fun n=>`(Lean.Parser.Tactic.tacticSeq|refine $(Lean.mkIdent n.toName) ?_);`(tactic|with_reducible first $[|$a]*)
local macro_rules| `(tactic|walk_at "E")=> `(tactic|first
 |walk_at "q"
 |((with_reducible refine' Hk ?h ?_);(case h=>rfl))
 |with_reducible refine EI _ ?_
 |((with_reducible refine' xB ?c ?_);(case c=>(unfold CMul;lia)))
 |((with_reducible refine' Kh ?c ?_);(case c=>(first|lia|lia|(dsimp only<;>lia)|(unfold CMul;lia)|(unfold GF;lia)|(unfold JF;decide)|exact Int.pow_pos (by decide))))
 |with_reducible refine gJ (by assumption) ?_)
local macro_rules| `(tactic|walk_at "X")=> `(tactic|try with_reducible refine gJ (by assumption) ?_)
local macro_rules| `(tactic|walk_at "S")=> `(tactic|with_reducible refine HQ λ_ _=>?_)
local macro_rules| `(tactic|walk_at "R")=> `(tactic|first|walk_at "S"|with_reducible refine HX ?_|walk_at "E")
local macro_rules| `(tactic|symm)=> `(tactic|repeat walk_at "R")
local macro_rules| `(tactic|rfl')=> `(tactic|repeat walk_at "E")
abbrev Re(a:Addr):Option V:=some (.ref a)
local macro_rules| `(tactic|exists $e)=> `(tactic|(symm;refine $e))
local macro_rules| `(tactic|nomatch $e)=> `(tactic|(rfl';refine $e))
local macro_rules| `(tactic|walk_at "l")=> `(tactic|first|exact Or.inl rfl|exact Or.inr rfl)
def cF (i:Int):Nat:=("abcdefghijklmnopqrstuvwxyz":Str).cps.toList.getD i.toNat 0
def tq (i:Int)(h0:0<=i)(h1:i<26):kC ("abcdefghijklmnopqrstuvwxyz":Str).cps.toList i=some (cF i):=by
 have hl:("abcdefghijklmnopqrstuvwxyz":Str).cps.toList.length=26:=by decide+kernel
 obtain⟨v,hv,Ra⟩:=iX (xs:=("abcdefghijklmnopqrstuvwxyz":Str).cps.toList) h0 (by rw[hl];exact h1);rw[hv];unfold cF;rw[LL,Ra];rfl
def sk:∀i j:Nat,i<26->j<26->cF i=cF j->i=j:=by
 have h:∀i,i<26->∀j,j<26->cF (i:Nat)=cF (j:Nat)->i=j:=by decide+kernel
 exact λi j hi hj=>h i hi j hj
def Cp {x y:Str}{c d:Nat}(h:x++(⟨#[c]⟩:Str)++y=x++(⟨#[d]⟩:Str)++y):c=d:=by
 have h':(x.cps++ #[c]++y.cps)=(x.cps++ #[d]++y.cps):=MG Str.cps h;have h2:=MG Array.toList h';simpa using h2
theorem lj {f:Nat->Str}:∀{n:Nat},(∀i j,i<n->j<n->f i=f j->i=j)->((List.range n).map f).Nodup
 |0,_=>Mz
 |n+1,h=>by
  rw[Nv,Lh];refine I0 (lj λi j hi hj=>h i j (by lia) (by lia)) λm=>?_;obtain⟨i,hi,e⟩:=KZ.mp m;have Sl:=Nb.mp hi;have z:=h i n (by lia) (by lia) e;lia
variable {σ:L2.St}
def sg {f:(Nat->Option V)->L2.St}(h:σ=f λk=>σ.getD k none):∃u,σ=f u:=⟨_,h⟩
variable {x:V}{Q:VK}{xs:ap}
def k8 (h:SqT K H p (x::xs))(q:Q x H):mC K (.ref p) (.int 0) H Q:=A0 h (j7 (j:=0) rfl) q
def j6 {y:V}(h:SqT K H p (x::y::xs))(q:Q y H):mC K (.ref p) (.int 1) H Q:=A0 h (j7 (j:=1) rfl) q
def bY {y z:V}(h:SqT K H p (x::y::z::xs))(q:Q z H):mC K (.ref p) (.int 2) H Q:=A0 h (j7 (j:=2) rfl) q
def md (x:Int){n:Int}(h:0<n):x % n=((x % n).toNat:Int):=(Int.toNat_of_nonneg (Mo x (Int.ne_of_gt h))).symm
def iN:("abcdefghijklmnopqrstuvwxyz":Str).length<=sizeLine:=by decide+kernel
def V5 (ss:xL):(ss.map V.str).all K7=true:=by
 rw[Nk,LU];intro _ _;rfl
variable {v:V}
def sr {F:j0×V->Prop}{k:j0}(h:∀kv∈kvs,F kv)(h':F (k,v)):∀kv∈F7 kvs k v,F kv:=by
 intro kv h_;unfold F7 at h_;split at h_
 .obtain⟨x,hx,e⟩:=KZ.mp h_;split at e
  .next e'=>rw[←e,e'];exact h'
  .rw[←e];exact h x hx
 .rcases Ld.mp h_ with z|z
  .exact h kv z
  .rw[Li.mp z];exact h'
def FF {k:j0}(h:(kvs.map (·.1)).Nodup):((F7 kvs k v).map (·.1)).Nodup:=by
 cases e:A8 kvs k with
 |none=>exact Bm v h e
 |some x=>
  unfold F7
  rw[if_pos (by rw[U0,e];rfl),LY]
  have e2:((λkv:j0×V=>kv.1)∘λkv=>if kv.1=k then(kv.1,v) else kv)=λkv=>kv.1:=by
   funext kv;show(if kv.1=k then(kv.1,v) else kv).1=kv.1;split<;>rfl
  rw[e2];exact h
variable {d:Addr}
def ie {k1 k2 kv:_}{x:Str×N3}(h:H d=some (.dK k1))(t:TieAt K H kv x):TieAt K (u9 H d (.dK k2)) kv x:=by
 obtain⟨e,a,ea,s⟩:=t;refine⟨e,a,ea,?_⟩;rcases s with s|s
 .refine .inl ?_;by_cases z:a=d
  .subst z;rcases s with s|⟨_,s⟩<;>(rw[h] at s;cases s)
  .unfold Rd;rw[b7 z];exact s
 .exact .inr s
variable {H1:Hp}
def E5 {o:HO}(s:Same H H1)(h:H d=none):Same H (u9 H1 d o):=λb u e=>by
 rw[b7 (d6 e h)];exact s _ _ e
variable {ss:xL}
def O2 {i:Int}(h0:0<=i)(h1:i<ss.length):∃x,kC (ss.map V.str) i=some (.str x)/\x∈ss:=by
 obtain⟨v,hv,Ra⟩:=iX (xs:=ss.map V.str) h0 (by rw[KW];exact h1);rw[Lc] at Ra;obtain⟨x,hx,e⟩:=LB.mp Ra;exact⟨x,by rw[hv,e],Ln hx⟩
variable {α:Type}
def C9 (l:List (Str×α)):(l.map (·.1)).map (Sum.inr:Str->j0)=l.map λx=>Sum.inr x.1:=by rw[LY];rfl
variable {n:Str}{l:xL}
def Z0 (h:(Sum.inr n:j0)∈l.map (Sum.inr:Str->j0)):n∈l:=by
 obtain⟨x,hx,e⟩:=KZ.mp h;rw[←MX e];exact hx
def P0 {k:j0}(h:k∉kvs.map (·.1)):A8 kvs k=none:=by
 cases e:A8 kvs k with
 |none=>rfl
 |some v=>exact absurd (vk e) h
variable {a:xz}{b:List (Str×N3)}
def Dn {t:N3}(h:(a.map (·.1)++b.map (·.1)).Nodup)(f:n∉a.map (·.1)++b.map (·.1)):(a.map (·.1)++(b++[(n,t)]).map (·.1)).Nodup:=by
 rw[Lh,←Mi];exact I0 h f
variable {s:Str}
def zv (h:(a.map (·.1)++b.map (·.1)).Nodup)(f:n∉a.map (·.1)++b.map (·.1)):((a++[(n,s)]).map (·.1)++b.map (·.1)).Nodup:=by
 have z:=I0 h f;refine(List.Perm.nodup_iff ?_).mpr z;rw[Lh,Mi,Mi];exact List.Perm.append_left _ Qz
def Bc {t:N3}(h:∀x∈a.map (·.1)++b.map (·.1),x∈l)(f:n∈l):∀x∈a.map (·.1)++(b++[(n,t)]).map (·.1),x∈l:=by
 intro x hx;rw[Lh,←Mi] at hx;rcases Ld.mp hx with h'|h'
 .exact h x h'
 .have:x=n:=by simpa using h'
  rw[this];exact f
def vH (h:∀x∈a.map (·.1)++b.map (·.1),x∈l)(f:n∈l):∀x∈(a++[(n,s)]).map (·.1)++b.map (·.1),x∈l:=by
 intro x hx;rw[Lh,Mi] at hx;rcases Ld.mp hx with h'|h'
 .exact h x (Lb _ h')
 .rcases Ld.mp h' with h2|h2
  .have:x=n:=by simpa using h2
   rw[this];exact f
  .exact h x (Lf _ h2)
variable {β:Type}
def C8 {F : α -> β -> Prop} : ∀ {l : List α} {m : List β} {a : α} {b : β}, Paired F l m -> F a b -> Paired F (l ++ [a]) (m ++ [b])
 := by
  intro l m a b hp h;induction hp with
  | nil => exact .cons h .nil
  | cons r _ ih => exact .cons r ih
def aQ: ∀ {kvs : List (j0 × V)} {kv : j0 × V}, (kvs.map (·.1)).Nodup -> kv ∈ kvs -> A8 kvs kv.1 = some kv.2
 := by
  intro kvs kv nd h;induction kvs with
  | nil => cases h
  | cons p r ih =>
    have nd' := Mt.mp (show (p.1 :: r.map (·.1)).Nodup from nd)
    rcases LZ.mp h with z | z
    . rw [z]; exact K9 rfl
    . rw [K6 λe => nd'.1 (by rw [e]; exact KZ.mpr ⟨kv, z, rfl⟩)]
      exact ih nd'.2 z
def FN (hk:kvs.map (·.1)=ss.map Sum.inr)(nd:(kvs.map (·.1)).Nodup):kvs=ss.map λs=>(Sum.inr s,(A8 kvs (Sum.inr s:j0)).getD .non):=by
 have h1:kvs=kvs.map λkv=>(kv.1,(A8 kvs kv.1).getD .non):=by
  have:∀kv∈kvs,kv=(kv.1,(A8 kvs kv.1).getD .non):=λkv h=>by rw[aQ nd h];rfl
  exact(Pg kvs).symm.trans (MF this)
 have h2:(kvs.map λkv=>(kv.1,(A8 kvs kv.1).getD V.non))=(kvs.map (·.1)).map λk=>(k,(A8 kvs k).getD .non):=by rw[LY];rfl
 rw[hk,LY] at h2;exact h1.trans h2
theorem kY:∀{r a:am},((a++r).map (·.1)).Nodup->r.foldl (λa x=>F7 a x.1 x.2) a=a++r
 |[],a,_=>by simp
 |p::r,a,nd=>by
  rw[NR];have nd':((a++[p]++r).map (·.1)).Nodup:=by rw[Mi];exact nd
  have hf:p.1∉a.map (·.1):=λm=>by
   rw[Lh] at nd;exact(Ls.mp nd).2.2 p.1 m p.1 (by simp) rfl
  rw[Q7 p.2 (P0 hf),kY (r:=r) (a:=a++[(p.1,p.2)]) nd',Mi];rfl
def aB (nd:(kvs.map (·.1)).Nodup):bE kvs=kvs:=by
 unfold bE;rw[kY (by simpa using nd)];rfl
variable {kv:j0×V}
def PrV.mono {x:V}(l:Le H H')(h:PrV K H x kv):PrV K H' x kv:=let ⟨t,e,s⟩:=h;⟨t,e,l.tup s⟩
def aU {F:α->β->Prop}{l2 m:List α}(h:l2.Perm m):∀{r:List β},Paired F m r->∃r',Paired F l2 r'/\r'.Perm r:=by
 induction h with
 |nil=>intro r p;cases p;exact⟨[],.nil,.nil⟩
 |cons x _ ih=>
  intro r p
  cases p with
  |cons a b=>
   obtain⟨r',h1,h2⟩:=ih b
   exact⟨_::r',.cons a h1,h2.cons _⟩
 |swap x y l=>
  intro r p
  cases p with
  |cons a b=>
   cases b with
   |cons c d=>exact⟨_::_::_,.cons c (.cons a d),.swap _ _ _⟩
 |trans _ _ ih1 ih2=>
  intro r p
  obtain⟨r',h1,h2⟩:=ih2 p
  obtain⟨r'',h3,h4⟩:=ih1 h1
  exact⟨r'',h3,h4.trans h2⟩
theorem bZ:∀pts:xz,Paired (fun(kv:j0×V) (x:Str×Str)=>kv=(Sum.inr x.1,.str x.2)) (i6 pts) pts
 |[]=> .nil
 |x::r=> .cons rfl (bZ r)
theorem gc:∀{kvs:am} {pts:xz},Paired (fun(kv:j0×V) (x:Str×Str)=>kv=(Sum.inr x.1,.str x.2)) kvs pts->kvs=i6 pts
 |_,_,.nil=>rfl
 |_,_,.cons e t=>by rw[e,gc t];rfl
variable {pts:xz}
def yb (h:kvs.Perm (i6 pts)):∃Rg,kvs=i6 Rg/\Rg.Perm pts:=by
 obtain⟨r,h1,h2⟩:=aU h (bZ pts);exact⟨r,gc h1,h2⟩
def k9 (pts:xz):(i6 pts).length=pts.length:=by unfold i6;rw[KW]
variable {i:Nat}
def Z3 (h:(i6 pts)[i]?=some kv):∃x,pts[i]?=some x/\kv=(Sum.inr x.1,.str x.2):=by
 unfold i6 at h;rw[Lc] at h;obtain⟨x,hx,e⟩:=LB.mp h;exact⟨x,hx,e.symm⟩
variable {o:Obj}{D:Addr}{u:HO}
def P8 (h:H d=some (.dK kvs))(s:Same (C7 d o kvs H) H1)(hD:H1 D=none):Same H (thaw d (u9 H1 D u)):=
 Same.thaw h λb v z=>by rw[b7 (d6 (s _ _ z) hD)];exact s _ _ z
def ae (s:Same (C7 d o kvs H) H1)(hD:H1 D=none):(thaw d (u9 H1 D u)) D=some u:=by
 have ZK:D≠d:=λz=>by rw[z,s _ _ b5] at hD;cases hD
 rw[S8 ZK,b5]
def qg (hD:H1 D=none):Le H1 (thaw d (u9 H1 D u)):=by
 have s:Same H1 (u9 H1 D u):=λb v z=>by rw[b7 (d6 z hD)];exact z
 exact s.le.trans oM
def aq (h:(pts.map (·.1)).Nodup):((i6 pts).map (·.1)).Nodup:=by
 rw[K5,←C9];refine NU _ ?_ h;exact λa b h z=>h (MX z)
theorem E3 {α:Type}:∀{l:List (Str×α)} {n:Str} {x y:α},(l.map (·.1)).Nodup->(n,x)∈l->(n,y)∈l->x=y
 |p::r,n,x,y,nd,hx,hy=>by
  have nd':=Mt.mp (show(p.1::r.map (·.1)).Nodup from nd);rcases LZ.mp hx with zx|zx
  .rcases LZ.mp hy with zy|zy
   .have:=zx.trans zy.symm;exact(Ni this).2
   .exact absurd (KZ.mpr ⟨(n,y),zy,by rw[←zx]⟩) nd'.1
  .rcases LZ.mp hy with zy|zy
   .exact absurd (KZ.mpr ⟨(n,x),zx,by rw[←zy]⟩) nd'.1
   .exact E3 nd'.2 zx zy
variable {ts:List (Str×N3)}
def ir {t:N3}(w:TiesIs K H kvs ts)(nd:(ts.map (·.1)).Nodup)(h:(n,t)∈ts):∃a,A8 kvs (Sum.inr n:j0)=some (.ref a)/\SqT K H a (ao t):=by
 obtain⟨a,x,h1,h2,h3⟩:=TiesIs.val (ts:=ts) w (KZ.mpr ⟨(n,t),h,rfl⟩);rw[E3 nd h h2];exact⟨a,h1,h3⟩
def N0 {k:Str}(nd:(pts.map (·.1)).Nodup)(h:(n,k)∈pts):A8 (i6 pts) (Sum.inr n:j0)=some (.str k):=
 aQ (kv:=(Sum.inr n,.str k)) (aq nd) (KZ.mpr ⟨(n,k),h,rfl⟩)
theorem la {n:Str}:∀{gs:xL},HJ (.str n) (gs.map V.str)=decide (n∈gs)
 |[]=>rfl
 |g::r=>by
  show(eV (.str g) (.str n)||HJ (.str n) (r.map V.str))=_;rw[la (gs:=r),show eV (.str g) (.str n)=decide (g=n) by unfold eV;rw[Mh];simp];rw[Mh];simp;constructor
  .rintro(h|h)
   .exact .inl h.symm
   .exact .inr h
  .rintro(h|h)
   .exact .inl h.symm
   .exact .inr h
variable {l:Addr}
def J1 {gs:xL}(h:SqL K H l (gs.map V.str))(q:Q (.bl (!decide (n∈gs))) H):jS K (.str n) (.ref l) H Q:=
 .inr (.inl ⟨l,_,rfl,.inl h,rfl,V5 _,by rw[if_pos rfl,la];exact q⟩)
def eJ {gs:xL}(h:SqL K H l (gs.map V.str))(q:Q (.bl (decide (n∈gs))) H):xH K (.str n) (.ref l) H Q:=
 qL (.inl h) rfl (V5 _) (by rw[la];exact q)
def gR (gs:xL):j0->Bool
 | .inr n=>decide (n∈gs)
 |_=>false
theorem Z1 {α β:Type}{F:α->β->Prop}{f:α->Bool}{g:β->Bool}(h:∀a b,F a b->f a=g b):∀{l:List α} {m:List β},Paired F l m->Paired F (l.filter f) (m.filter g)
 |_,_,.nil=> .nil
 |a::l,b::m,.cons r t=>by
  have z:=Z1 h t;have e:=h a b r;cases hb:g b with
  |true=>rw[LV (by rw[e,hb]),LV hb];exact .cons r z
  |false=>rw[Md (by rw[e,hb];simp),Md (by rw[hb];simp)];exact z
def T9 {f:α->β}{p:α->Bool}{l:List α}(h:(l.map f).Nodup):((l.filter p).map f).Nodup:=h.sublist ((Mp).map f)
def nH {ka kb:am}(nd:((ka++kb).map (·.1)).Nodup):U3 ka kb=ka++kb:=kY nd
def kj {F : α -> β -> Prop} : ∀ {l1 l2 : List α} {m1 m2 : List β}, Paired F l1 m1 -> Paired F l2 m2 -> Paired F (l1 ++ l2) (m1 ++ m2)
 := by
  intro l1 l2 m1 m2 hp h;induction hp with
  | nil => exact h
  | cons r _ ih => exact .cons r ih
def uO (w:TiesIs K H kvs ts)(h:(ts.map (·.1)).Nodup):(kvs.map (·.1)).Nodup:=by
 rw[w.keys,←C9];refine NU _ ?_ h;exact λa b h z=>h (MX z)
variable {k1:am}
def K8 {k2:am}(h:H d=some (.dK k1))(w:TiesIs K H kvs ts):TiesIs K (u9 H d (.dK k2)) kvs ts:=Paired.imp' (λ_ _ z=>ie h z) w
def Ec {l m:List (Str×α)}(h1:(l.map (·.1)).Nodup)(h2:(m.map (·.1)).Nodup)(h:∀n∈m.map (·.1),n∉l.map (·.1)):((l++m).map (·.1)).Nodup:=by
 rw[Lh];exact Ls.mpr ⟨h1,h2,λa ha b hb e=>h b hb (e▸ha)⟩
def N6:(A8 (i6 pts) (Sum.inr n:j0)).isSome=decide (n∈pts.map (·.1)):=by
 rw[←U0,Mh,MU,LK];constructor
 .rintro⟨kv,h_,e⟩;obtain⟨x,hx,rfl⟩:=KZ.mp h_;exact KZ.mpr ⟨x,hx,MX (MB e)⟩
 .intro m;obtain⟨x,hx,rfl⟩:=KZ.mp m;exact⟨_,KZ.mpr ⟨x,hx,rfl⟩,LA rfl⟩
def Y0 (w:TiesIs K H kvs ts):(A8 kvs (Sum.inr n:j0)).isSome=decide (n∈ts.map (·.1)):=by
 by_cases hn:n∈ts.map (·.1)
 .obtain⟨a,x,h1,_⟩:=TiesIs.val (ts:=ts) w hn;rw[h1,LA hn];rfl
 .cases e:A8 kvs (Sum.inr n:j0) with
  |none=>simp [hn]
  |some v=>
   have z:=vk e
   rw[w.keys,←C9] at z
   exact absurd (Z0 z) hn
theorem tf {K:Qd}{H:Hp}{kb:am}:∀{ka:am},(∀kv∈ka,∃y,A8 kb kv.1=some y/\Eq1 K H kv.2 y true)->EqH K H kb ka true
 |[],_=> .nil
 |kv::r,h=>by
  obtain⟨y,h1,h2⟩:=h kv Lx;exact EqH.hit (e:=true) (b:=true) h1 h2 (tf λx hx=>h x (LD _ hx))
def Ct (s:Str):Eq1 K H (.str s) (.str s) true:=by
 have z:=Eq1.flat (K:=K) (H:=H) (x:= .str s) (y:= .str s) rfl rfl;rw[hZ rfl] at z;exact z
variable {a:Addr}
def yK {b:Addr}{t:N3}(h:SqT K H a (ao t))(h':SqT K H b (ao t)):Eq1 K H (.ref a) (.ref b) true:=by
 have z:=Eq1.tup h h' rfl rfl;rw[eM rfl] at z;exact z
variable {p':Addr}
def uQ {Rg:xz}(x_:p≠p')(h1:Rd H p (.dK (i6 pts)))(h2:Rd H p' (.dK (i6 Rg)))(pm:pts.Perm Rg)(nd:(Rg.map (·.1)).Nodup):EqD K H p p' true:=
 .inr ⟨x_,_,_,true,h1,h2,tf λkv h_=>by
  obtain⟨x,hx,rfl⟩:=KZ.mp h_;exact⟨_,N0 nd (pm.mem_iff.mp hx),Ct _⟩,by rw[k9,k9,pm.length_eq];simp⟩
variable {q':Addr}{e_:am}
def lY {Xg:List (Str×N3)}(x_:q≠q')(h1:Rd H q (.dK kvs))(h2:Rd H q' (.dK e_))(w:TiesIs K H kvs ts)(w':TiesIs K H e_ Xg)(pm:ts.Perm Xg)(nd:(Xg.map (·.1)).Nodup):EqD K H q q' true:=
 .inr ⟨x_,_,_,true,h1,h2,tf λkv h_=>by
  obtain⟨i,hi⟩:=MT h_;obtain⟨x,hx,ex,b,eb,sb⟩:=w.get hi;obtain⟨c,e1,e2⟩:=ir w' nd (pm.mem_iff.mp (Ln hx));refine⟨.ref c,by rw[ex];exact e1,?_⟩;rw[eb];exact yK sb e2,by rw[w.length,w'.length,pm.length_eq];simp⟩
def S0 (h:H d=some (.dK k1))(s:SqT K H a xs):SqT K (u9 H d u) a xs:=by
 rcases s with s|s
 .refine .inl ?_;by_cases z:a=d
  .subst z;rcases s with s|⟨_,s⟩<;>(rw[h] at s;cases s)
  .unfold Rd;rw[b7 z];exact s
 .exact .inr s
def qb: ∀ {kvs : List (j0 × V)} {k : j0} {v : V}, A8 kvs k = some v -> (k, v) ∈ kvs
 := by
  intro kvs k v h;induction kvs with
  | nil => cases h
  | cons p r ih =>
    by_cases e : p.1 = k
    . rw [K9 e] at h
      rw [← e, ← Ly h]; exact Lx
    . rw [K6 e] at h
      exact LD _ (ih h)
def rH (a b:N3):V1 (ao a) (ao b)=decide (a=b):=by
 obtain⟨a1,a2,a3⟩:=a;obtain⟨b1,b2,b3⟩:=b;show(a1==b1&&(a2==b2&&(a3==b3&&true)))=_;rw[Mh];simp
def hV (a:N3):(ao a).all K7=true:=rfl
def gE (h:A8 (i6 pts) (Sum.inr n:j0)=some v):∃k,v= .str k/\(n,k)∈pts:=by
 obtain⟨x,hx,e⟩:=KZ.mp (qb h);obtain⟨x1,x2⟩:=x;have e1:=(Ni e).1;have e2:=(Ni e).2;exact⟨x2,e2.symm,by rw[←MX e1];exact hx⟩
def GH {m k:Str}(nd:(pts.map (·.1)).Nodup)(q:Q (.bl (decide ((m,k)∈pts))) H):lU K ((A8 (i6 pts) (Sum.inr m:j0)).getD .non) (.str k) H Q:=by
 cases e:A8 (i6 pts) (Sum.inr m:j0) with
 |none=>
  refine mO (pG ?_)
  rw[LM (λz=>by rw[N0 nd z] at e;cases e)] at q;exact q
 |some v=>
  obtain⟨k2,rfl,hk⟩:=gE e
  refine gh ?_
  have:decide (k2=k)=decide ((m,k)∈pts):=by
   rw[Mh,LK,LK];exact⟨λz=>z▸hk,λz=>E3 nd hk z⟩
  rw[this];exact q
def Dr {m:Str}{y:N3}(w:TiesIs K H kvs ts)(nd:(ts.map (·.1)).Nodup)(hl:SqT K H l (ao y))(q:Q (.bl (decide ((m,y)∈ts))) H):lU K ((A8 kvs (Sum.inr m:j0)).getD .non) (.ref l) H Q:=by
 by_cases hm:m∈ts.map (·.1)
 .obtain⟨a,x,h1,h2,h3⟩:=TiesIs.val (ts:=ts) w hm;rw[h1];refine mO (sC h3 hl (hV _) (hV _) ?_);rw[rH];have:decide (x=y)=decide ((m,y)∈ts):=by
   rw[Mh,LK,LK];exact⟨λz=>z▸h2,λz=>E3 nd h2 z⟩
  rw[this];exact q
 .have e:A8 kvs (Sum.inr m:j0)=none:=by
   have z:=Y0 (n:=m) w;rw[LM hm] at z;cases e:A8 kvs (Sum.inr m:j0) with
   |none=>rfl
   |some v=>rw[e] at z;cases z
  rw[e];refine mO (oQ hl ?_);rw[LM (λz=>hm (KZ.mpr ⟨_,z,rfl⟩))] at q;exact q
def F2 (h:(b9 W).Nodup):(W.pts.map (·.1)).Nodup:=(Ls.mp h).1
def O4 (h:(b9 W).Nodup):(W.ts.map (·.1)).Nodup:=(Ls.mp h).2.1
def DI {t:String}(h:t≠"str"):kJ t "str"=false:=by
 unfold kJ;have e1:(t=="str")=false:=by simpa using h
 rw[e1];simp
variable {P:Program}{w:World}{mg:Str->ad}{base:Heap}
abbrev gW:=λP w K mg base=>U8 P w K mg base J0 1 "is_text_of" ["thing","signs","most"] [] (fq K)
theorem mI {f fd}(T:Txt K mg)(F:Fun K "is_text_of" "is_text_of" cq f fd):E4 P w K mg base J0 1 f fd ["thing","signs","most"] (fq K):=by
 walk_at "#sc_is_text_of"
 .obtain⟨v,signs,most,rfl,_⟩:=h;rfl
 .obtain⟨v,signs,most,rfl,h⟩:=h;walk_at "@sc_is_text_of 8oy'2dm Ps@?>903=~s'0T.b_str ~rTj{k401j'0zw k40027O7s`_^3xsign;1;p00f0msign,signs;G~3K0001"
  rcases h with⟨x,rfl,hx,k⟩|⟨⟨t,ty,ht⟩,k⟩
  .exists dI (dz (t:="str") rfl (by simp) ?_);symm;rw[if_neg (by decide)];exists F0 (eN (d8 hx) ?_);exists J6 (λh1=>?_) (λh1=>?_)
   .symm;have e:U9 x signs most=false:=by
     unfold U9;rw[LM (by lia)];rfl
    rw[←e];exact k H (Same.refl H)
   .exists F0 (eN (d8 hx) ?_);exists J6 (λh2=>?_) (λh2=>?_)
    .symm;have e:U9 x signs most=false:=by
      unfold U9;rw[LM (show ¬((x.length:Int)<=most) by lia)];simp
     rw[←e];exact k H (Same.refl H)
    .exists vD (n:=x.cps.size) (λi out H'=>H'=H/\out=(x.cps.toList.take i).map λc=>V.bl (decide (c∈signs.cps.toList))) ⟨rfl,rfl⟩ (λi out H' hi _=>by exact hi) ?_ ?_
     .rintro N i v out H1 H2 hi ⟨rfl,rfl⟩ y hN;obtain⟨rfl,c,hc,rfl⟩:=Its.lt y;exists⟨rfl,?_⟩;exists⟨d8 (by rw[KW,Lp,←fT];lia),hN _ _ ⟨rfl,?_⟩⟩;exact N5 (λc=>V.bl (decide (c∈signs.cps.toList))) hc
     .rintro out H1 ⟨rfl,rfl⟩;refine⟨La _,λD hD=>⟨d8 (by rw[KW,Lp,←fT];lia),?_⟩⟩;exists nz (bs:=x.cps.toList.map λc=>decide (c∈signs.cps.toList)) (SqL.of ?_) ?_
      .show u9 H1 D _ D=_;rw[b5,Ll (by simp),LY];rfl
      .have e:U9 x signs most=(x.cps.toList.map λc=>decide (c∈signs.cps.toList)).all id:=by
        unfold U9 rZ;rw[LA (show 1<=(x.length:Int) by lia),LA (show(x.length:Int)<=most by lia),Nk];rfl
       rw[←e];exact k _ λb o q=>by
        show u9 H1 D _ b=_;rw[b7 (d6 q hD)];exact q
  .exists dI (dz ty (by simp) ?_);rw[DI ht];symm;exact k H (Same.refl H)
variable {x:Str}
theorem zp (h:1<=(x.length:Int)):kC x.cps.toList 0=some (x.cps.toList.headD 0):=by
 refine j7 (j:=0) ?_;have hl:=fT x;cases e:x.cps.toList with
 |nil=>rw[e] at hl;simp at hl;lia
 |cons c r=>rfl
abbrev nE:=λP w K mg base=>U8 P w K mg base J0 2 "is_name" ["thing"] [] (mh K)
def uu {f fd}(T:Txt K mg)(cv:gW P w K mg base)(F:Fun K "is_name" "is_name" ja f fd):E4 P w K mg base J0 2 f fd ["thing"] (mh K):=by
 walk_at "#sc_is_name"
 .obtain⟨v,rfl,_⟩:=h;rfl
 .obtain⟨v,rfl,h⟩:=h;walk_at "@sc_is_name 7'2DJ 6'0cv 90g'1DD '0T.c_NAME_SIGNS '1DD '0T.c_MOST_NAME_SIGNS '1EN ~3K20'1DD '0T.c_SMALL_LETTERS ";exists⟨v,_,_,rfl,?_⟩;rcases h with⟨x,rfl,hx,k⟩|⟨no,k⟩
  .refine .inl ⟨x,rfl,hx,λH' sm=>?_⟩;exists Y5 (λe=>?_) (λe=>?_)
   .symm;have h1:1<=(x.length:Int):=by
     unfold U9 at e;simp only[LN,LK] at e;exact e.1.1
    refine bM (d8 hx) (zp h1) ?_;symm;have e2:V4 x=Jb x kSL:=by
     unfold V4;rw[show U9 x kNS 24=true from e,NV]
    have q:=k H' sm;rw[e2] at q;exact q
   .have e2:V4 x=false:=by
     unfold V4;rw[show U9 x kNS 24=false from e,Bool.false_and]
    have q:=k H' sm;rw[e2] at q;exact q
  .refine .inr ⟨no,λH' sm=>?_⟩;symm;exact k H' sm
def JC (a b:Str):Prop:=a.cps.toList<b.cps.toList
theorem iA:∀{ss:xL},yP ss=true->ss.Pairwise JC
 |[],_=> .nil
 |[_],_=>List.pairwise_singleton _ _
 |x::y::r,h=>by
  rw[nU,LN] at h;have ih:=iA h.2;have hxy:x.cps.toList<y.cps.toList:=MB h.1;refine Oy.mpr ⟨λz hz=>?_,ih⟩;rcases LZ.mp hz with e|e
  .rw[e];exact hxy
  .exact List.lt_trans hxy ((Oy.mp ih).1 z e)
theorem qP:∀{a b:xL},a.Pairwise JC->b.Pairwise JC->a.Perm b->a=b
 |[],b,_,_,p=>(List.Perm.nil_eq p)
 |x::r,[],_,_,p=>(List.Perm.eq_nil p)
 |x::r,y::t,h1,h2,p=>by
  have R_:=Oy.mp h1;have We:=Oy.mp h2;have e:x=y:=MJ λne=>by
   have m1:x∈y::t:=p.mem_iff.mp Lx;have m2:y∈x::r:=p.mem_iff.mpr Lx;rcases LZ.mp m1 with z|z
   .exact ne z
   .rcases LZ.mp m2 with z'|z'
    .exact ne z'.symm
    .have q1:y.cps.toList<x.cps.toList:=We.1 x z;have q2:x.cps.toList<y.cps.toList:=R_.1 y z';exact PH q1 q2
  subst e;rw[qP R_.2 We.2 (List.Perm.cons_inv p)]
def O5 {a b:xL}(h1:sortedS a=true)(h2:sortedS b=true)(nd:a.Nodup)(p:a.Perm b):a=b:=
 qP (iA (kh h1 nd)) (iA (kh h2 (p.nodup_iff.mp nd))) p
structure Ordr (W:C3) (s1 s2:xL):Prop where
 p1:s1.Perm (W.pts.map (·.1))
 p2:s2.Perm (W.ts.map (·.1))
 o1:sortedS s1=true
 o2:sortedS s2=true
def Ordr.mem {s1 s2:xL}(h:Ordr W s1 s2):n∈s1++s2↔n∈b9 W:=by
 unfold b9;rw[Ld,Ld,h.p1.mem_iff,h.p2.mem_iff]
def Ordr.perm {s1 s2:xL}(h:Ordr W s1 s2):(s1++s2).Perm (b9 W):=h.p1.append h.p2
def Ordr.len {s1 s2:xL}(h:Ordr W s1 s2):(s1++s2).length=(b9 W).length:=h.perm.length_eq
def i8 (kvm:am)(n:Str):Str:=match A8 kvm (Sum.inr n:j0) with
 |some (.str s)=>s
 |_=>""
variable {kvm:am}
def gN (h:A8 kvm (Sum.inr n:j0)=some (.str s)):i8 kvm n=s:=by unfold i8;rw[h]
def TxtAt (kvm:am)(n:Str):Prop:=∃s,A8 kvm (Sum.inr n:j0)=some (.str s)
def TxtAt.at_ (h:TxtAt kvm n):A8 kvm (Sum.inr n:j0)=some (.str (i8 kvm n)):=by
 obtain⟨s,hs⟩:=h;rw[gN hs];exact hs
def Aq (hD:Rd H d (.dK kvm))(h:TxtAt kvm n)(q:Q (.str (i8 kvm n)) H):mC K (.ref d) (.str n) H Q:=
 u4 (by have z:=J2 (k:=Sum.inr n) hD;rw[h.at_] at z;exact z) q
def nK (K:Qd):Sp:=λvs H Q _=>∃(a p q:Addr) (kvs:am) (W:C3),vs=[.ref a]/\WebAt K H a p q kvs W/\(b9 W).length<=60/\∀(l:Addr) (H':Hp) (s1 s2:xL),H l=none->Same H H'->H' l=some (.lst ((s1++s2).map V.str))->Ordr W s1 s2->Q (.ref l) H'
def C0 (W:C3):(b9 W).length=W.pts.length+W.ts.length:=by unfold b9;rw[Lg,KW,KW]
abbrev V9:=λP w K mg base=>U8 P w K mg base J0 1 "things" ["web"] [] (nK K)
theorem wU {f fd}(T:Txt K mg)(F:Fun K "things" "things" lH f fd):E4 P w K mg base J0 1 f fd ["web"] (nK K):=by
 walk_at "#sc_things"
 .obtain⟨a,p,q,kvs,W,rfl,_⟩:=h;rfl
 .obtain⟨a,p,q,kvs,W,rfl,hW,h1,k⟩:=h;rw[C0] at h1;walk_at "@sc_things 7esWVU320sWVU320";exists k8 hW.tup ?_;exists D0 (ss:=W.pts.map (·.1)) hW.pts (by rw[K5,C9]) (by rw[KW];lia) (λs1 a1 a2 l1 H1 n1 m1 f1=>?_);have W1:=hW.mono m1.le;exists j6 W1.tup ?_;exists D0 (ss:=W.ts.map (·.1)) W1.ties (by rw[W1.ts.keys,C9]) (by rw[KW];lia) (λs2 b1 b2 l2 H2 n2 m2 f2=>?_);have g1:=a1.length_eq;have g2:=b1.length_eq;rw[KW] at g1 g2;refine mZ (m2 _ _ f1) f2 (d8 (by rw[KW,KW];lia)) (λl3 H3 n3 m3 f3=>?_);refine k l3 H3 s1 s2 (m1.free (m2.free n3)) (m1.trans (m2.trans m3)) ?_ ⟨a1,b1,a2,b2⟩;rw[f3,Lh]
def jq (K:Qd):Sp:=λvs H Q _=>∃(d:Addr) (kvs:am) (ss:xL),vs=[.ref d]/\Rd H d (.dK kvs)/\kvs.map (·.1)=ss.map Sum.inr/\ss.Nodup/\ss.length<=60/\∀(l:Addr) (H':Hp) (e_:am),H l=none->Same H H'->H' l=some (.dK e_)->e_.Perm kvs->Q (.ref l) H'
def NewP (K:Qd)(H:Hp)(Q:VK)(W:C3):Prop:=∀(a p q:Addr) (kvs:am) (W':C3) (H':Hp),Same H H'->WebAt K H' a p q kvs W'->H' p=some (.dK (i6 W'.pts))->H' q=some (.dK kvs)->p≠q->H p=none->H q=none->W'.pts.Perm W.pts->W'.ts.Perm W.ts->Q (.ref a) H'
def iC (K:Qd):Sp:=λvs H Q _=>∃(a p q:Addr) (kvs:am) (W:C3),vs=[.ref a]/\WebAt K H a p q kvs W/\(W.pts.map (·.1)).Nodup/\(W.ts.map (·.1)).Nodup/\W.pts.length<=60/\W.ts.length<=60/\NewP K H Q W
abbrev mq:=λP w K mg base=>U8 P w K mg base J0 1 "in_order" ["named"] [] (jq K)
theorem sV {f fd}(T:Txt K mg)(F:Fun K "in_order" "in_order" fZ f fd):E4 P w K mg base J0 1 f fd ["named"] (jq K):=by
 walk_at "#sc_in_order"
 .obtain⟨d,kvs,ss,rfl,_⟩:=h;rfl
 .obtain⟨d,kvs,ss,rfl,hd,hk,O_,hl,k⟩:=h;have nd:(kvs.map (·.1)).Nodup:=by
   rw[hk];refine NU _ ?_ O_;exact λa b h z=>h (MX z)
  walk_at "@sc_in_order 7F3xname;0;psWVU40f0mname,named;Gn903b100";exists D0 (ss:=ss) hd hk (by lia) (λs1 a1 a2 l1 H1 n1 m1 f1=>?_);have hd1:=m1.rd hd;have Tj:=a1.length_eq;refine C6 (SqL.of f1) ?_;refine B6 (n:=s1.length) (λi out H'=>Same H1 H'/\Paired (PrV K H') out ((s1.take i).map λs=>(Sum.inr s,(A8 kvs (Sum.inr s:j0)).getD .non))) ⟨Same.refl _,.nil⟩ (λi out H' hi hp=>⟨_,.str (s1[i]),SqL.of (hp.1 _ _ f1),by rw[Lc,KY hi];rfl⟩) ?_ ?_
  .rintro B9 b_ N i v out H2 H3 hi ⟨s2,pr⟩ y;refine b_ λf_=>?_;obtain⟨rfl,hx⟩:=Itl.get y (SqL.of (s2 _ _ f1));rw[Lc] at hx;obtain⟨x,l_,rfl⟩:=LB.mp hx;have hxk:(Sum.inr x:j0)∈kvs.map (·.1):=by
    rw[hk];exact KZ.mpr ⟨x,a1.mem_iff.mp (Ln l_),rfl⟩
   obtain⟨kv,h_,ekv⟩:=KZ.mp hxk;have ev:=aQ nd h_;rw[ekv] at ev;have e7:s1.take (i+1)=s1.take i++[x]:=by rw[LF,l_];rfl
   exists⟨rfl,?_⟩;exists u4 (v:=kv.2) (by have z':=J2 (k:=Sum.inr x) (s2.rd hd1);rw[ev] at z';exact z') ?_;exists⟨d8 (by simp),λt H4 nt m4 f4=>?_⟩;have J':=LP pr;rw[KW,Lp] at J';refine⟨d8 (by lia),f_ _ _ ⟨s2.trans m4,?_⟩⟩;rw[e7,Lh];refine C8 (Paired.imp' (λ_ _ z=>PrV.mono m4.le z) pr) ⟨t,rfl,?_⟩;show SqT K _ t [V.str x,(A8 kvs (Sum.inr x:j0)).getD V.non];rw[ev];exact SqT.of f4
  .rintro out H2 ⟨s2,pr⟩;have J':=LP pr;rw[KW,Lp] at J';refine⟨⟨_,SqL.of (s2 _ _ f1),by rw[KW];exact La _⟩,λD hD=>⟨d8 (by lia),?_⟩⟩;obtain⟨H5,e5,f5,m5,_⟩:=u7 (o:= .lst out) hD;show zT _ (u9 _ D _) _;rw[e5];symm;rw[Ll (La _)] at pr;refine Y1 (SqL.of f5) (Paired.imp' (λ_ _ z=>PrV.mono m5.le z) pr) (d8 (by rw[KW];lia)) (λl H6 nl m6 f6=>?_);have mA:=m1.trans (s2.trans (m5.trans m6));have Uw:(s1.map λs=>((Sum.inr s:j0),(A8 kvs (Sum.inr s:j0)).getD V.non)).Perm kvs:=by
    refine List.Perm.trans (a1.map _) ?_;rw[←FN hk nd]
   rw[aB ((Uw.map _).nodup_iff.mpr nd)] at f6;exact k l H6 _ ((m1.trans (s2.trans m5)).free nl) mA f6 Uw
abbrev dY:=λP w K mg base=>U8 P w K mg base J0 2 "copied" ["web"] [] (iC K)
def xh {f fd}(T:Txt K mg)(cz:mq P w K mg base)(F:Fun K "copied" "copied" mr f fd):E4 P w K mg base J0 2 f fd ["web"] (iC K):=by
 walk_at "#sc_copied"
 .obtain⟨a,p,q,kvs,W,rfl,_⟩:=h;rfl
 .obtain⟨a,p,q,kvs,W,rfl,hW,d1,d2,l1,l2,k⟩:=h;walk_at "@sc_copied 7ng6'0cz 3206'0cz 320";exists k8 hW.tup ?_;exists⟨p,i6 W.pts,W.pts.map (·.1),rfl,hW.pts,by rw[K5,C9],d1,by rw[KW];exact l1,λp' H1 kp np' m1 f1 pm1=>?_⟩;have W1:=hW.mono m1.le;exists j6 W1.tup ?_;exists⟨q,kvs,W.ts.map (·.1),rfl,W1.ties,by rw[W1.ts.keys,C9],d2,by rw[KW];exact l2,λq' H2 kq nq' m2 f2 pm2=>?_⟩;exists⟨d8 (by simp),λl9 H9 n9 m9 f9=>?_⟩;obtain⟨Rg,rfl,pp⟩:=yb pm1;have W2:=hW.mono (m1.trans (m2.trans m9)).le;obtain⟨Xg,w',pt⟩:=aU pm2 W2.ts;have g1:=m9 _ _ (m2 _ _ f1);have g2:=m9 _ _ f2;exact k l9 p' q' kq ⟨Rg,Xg⟩ H9 (m1.trans (m2.trans m9)) ⟨SqT.of f9,.inl g1,.inl g2,w'⟩ g1 g2 (d6 f1 nq') np' (m1.free nq') pp pt
structure gS (W:C3):Prop where
 nm:∀x∈b9 W,V4 x=true
 kd:∀x∈W.pts,N1 x.2=true
 tk:∀x∈W.ts,N1 x.2.1=true
def eu {m:Int}(h:U9 x s m=true):(x.length:Int)<=m:=by
 unfold U9 at h;simp only[LN,LK] at h;exact h.1.2
theorem Az (h:V4 x=true):x.length<=1000:=by
 unfold V4 at h;have:=eu (LN _ _▸h).1;lia
def Dq:kJ "dict" "dict"=true:=rfl
structure pT (m:Nat) (W:C3):Prop where
 good:gS W
 kds:∀n∈b9 W,N1 n=true
 l1:W.pts.length<=m
 l2:W.ts.length<=m
def vF (K:Qd):Sp:=λvs H Q _=>∃(a p q a' p' q':Addr) (kvs e_:am) (W O:C3),vs=[.ref a,.ref a']/\WebIs 60 K H a p q kvs W/\WebIs 60 K H a' p' q' e_ O/\∀(l:Addr) (H':Hp) (s1 s2:xL),H l=none->Same H H'->Ordr W s1 s2->H' l=some (.lst (((s1++s2).filter λn=>decide (n∈b9 O)).map V.str))->Q (.ref l) H'
def rB (K:Qd):Sp:=λvs H Q _=>∃(a p q a' p' q':Addr) (kvs e_:am) (W O:C3),vs=[.ref a,.ref a']/\WebIs 60 K H a p q kvs W/\WebIs 60 K H a' p' q' e_ O/\∀(l:Addr) (H':Hp) (s1 s2:xL),H l=none->Same H H'->Ordr W s1 s2->H' l=some (.lst (((s1++s2).filter λn=>!decide (n∈b9 O)).map V.str))->Q (.ref l) H'
def jX (n:Nat):(List.replicate n true).all id=true:=by rw[LU];intro b hb;exact(Rw.mp hb).2
abbrev zW:=λP w K mg base=>U8 P w K mg base J0 2 "both" ["web","other"] [] (vF K)
theorem Cs {f fd}(T:Txt K mg)(D5:V9 P w K mg base)(F:Fun K "both" "both" tD f fd):E4 P w K mg base J0 2 f fd ["web","other"] (vF K):=by
 walk_at "#sc_both"
 .obtain⟨a,p,q,a',p',q',kvs,e_,W,O,rfl,_⟩:=h;rfl
 .obtain⟨a,p,q,a',p',q',kvs,e_,W,O,rfl,hW,hO,k⟩:=h;have hWl:=hW.len;walk_at "@sc_both 7xname;1;p6[40f0mname,other;LyTrK0021rK002100";exists⟨a,p,q,kvs,W,rfl,hW.at_,by lia,λl1 H1 s1 s2 n1 m1 f1 or=>?_⟩;have hlen:=or.len;refine C6 (SqL.of f1) ?_;refine B6 (n:=(s1++s2).length) (λi out H'=>Same H1 H'/\out=(((s1++s2).take i).filter λn=>decide (n∈b9 O)).map V.str) ⟨Same.refl _,rfl⟩ (λi out H' hi hp=>⟨_,.str ((s1++s2)[i]),SqL.of (hp.1 _ _ f1),by rw[Lc,KY hi];rfl⟩) ?_ ?_
  .rintro B9 b_ N i v out To H3 hi ⟨s3,rfl⟩ y;refine b_ λf_=>?_;obtain⟨rfl,hx⟩:=Itl.get y (SqL.of (s3 _ _ f1));rw[Lc,KY hi] at hx;cases hx;have O3:=hO.at_.mono (m1.trans s3).le;have e7:(s1++s2).take (i+1)=(s1++s2).take i++[(s1++s2)[i]]:=by rw[LF,KY hi];rfl
   have F':=Lm (λn=>decide (n∈b9 O)) ((s1++s2).take i);rw[Lp] at F';have yes:(decide ((s1++s2)[i]∈b9 O))=true->((((s1++s2).take i).filter λn=>decide (n∈b9 O)).map V.str).length<=sizeLine/\N ((((s1++s2).take i).filter λn=>decide (n∈b9 O)).map V.str++[V.str (s1++s2)[i]]) H3:=λhb=>by
    refine⟨d8 (by rw[KW];lia),f_ _ _ ⟨s3,?_⟩⟩;rw[e7,LO,LV (p:=λn=>decide (n∈b9 O)) hb,Mu,Lh];rfl
   have no:(decide ((s1++s2)[i]∈b9 O))=false->N ((((s1++s2).take i).filter λn=>decide (n∈b9 O)).map V.str) H3:=λhb=>by
    refine f_ _ _ ⟨s3,?_⟩;rw[e7,LO,Md (p:=λn=>decide (n∈b9 O)) (by rw[hb];simp),Mu,Mn]
   exists⟨rfl,?_⟩;exists k8 O3.tup ?_;refine az (J2 (k:=Sum.inr (s1++s2)[i]) O3.pts) ?_;rw[N6];exists J6 (λb1=>?_) (λb1=>?_)
   .exists yes (by rw[LA (show(s1++s2)[i]∈b9 O from Lb _ b1)])
   .exists j6 O3.tup ?_;refine az (J2 (k:=Sum.inr (s1++s2)[i]) O3.ties) ?_;rw[Y0 O3.ts];exists J6 (λb2=>?_) (λb2=>?_)
    .exists yes (by rw[LA (show(s1++s2)[i]∈b9 O from Lf _ b2)])
    .exact no (by rw[LM (show(s1++s2)[i]∉b9 O from λz=>(Ld.mp z).elim b1 b2)])
  .rintro out H3 ⟨s3,rfl⟩;have F':=Lm (λn=>decide (n∈b9 O)) ((s1++s2).take (s1++s2).length);rw[Lp] at F';refine⟨⟨_,SqL.of (s3 _ _ f1),by rw[KW];exact La _⟩,λD hD=>⟨d8 (by rw[KW];lia),?_⟩⟩;rw[Ll (La _)];obtain⟨H4,e4,f4,m4,_⟩:=u7 (H:=H3) (o:= .lst (((s1++s2).filter λn=>decide (n∈b9 O)).map V.str)) hD;refine k D _ s1 s2 ((m1.trans s3).free hD) ?_ or ?_
   .show Same _ (u9 _ D _);rw[e4];exact m1.trans (s3.trans m4)
   .show u9 _ D _ D=_;rw[b5]
abbrev pM:=λP w K mg base=>U8 P w K mg base J0 2 "alone" ["web","other"] [] (rB K)
theorem zD {f fd}(T:Txt K mg)(D5:V9 P w K mg base)(F:Fun K "alone" "alone" pJ f fd):E4 P w K mg base J0 2 f fd ["web","other"] (rB K):=by
 walk_at "#sc_alone"
 .obtain⟨a,p,q,a',p',q',kvs,e_,W,O,rfl,_⟩:=h;rfl
 .obtain⟨a,p,q,a',p',q',kvs,e_,W,O,rfl,hW,hO,k⟩:=h;have hWl:=hW.len;walk_at "@sc_alone 7xname;1;p6[40f0mname,other;LyXrD0021rD002100";exists⟨a,p,q,kvs,W,rfl,hW.at_,by lia,λl1 H1 s1 s2 n1 m1 f1 or=>?_⟩;have hlen:=or.len;refine C6 (SqL.of f1) ?_;refine B6 (n:=(s1++s2).length) (λi out H'=>Same H1 H'/\out=(((s1++s2).take i).filter λn=>!decide (n∈b9 O)).map V.str) ⟨Same.refl _,rfl⟩ (λi out H' hi hp=>⟨_,.str ((s1++s2)[i]),SqL.of (hp.1 _ _ f1),by rw[Lc,KY hi];rfl⟩) ?_ ?_
  .rintro B9 b_ N i v out To H3 hi ⟨s3,rfl⟩ y;refine b_ λf_=>?_;obtain⟨rfl,hx⟩:=Itl.get y (SqL.of (s3 _ _ f1));rw[Lc,KY hi] at hx;cases hx;have O3:=hO.at_.mono (m1.trans s3).le;have e7:(s1++s2).take (i+1)=(s1++s2).take i++[(s1++s2)[i]]:=by rw[LF,KY hi];rfl
   have F':=Lm (λn=>!decide (n∈b9 O)) ((s1++s2).take i);rw[Lp] at F';have yes:(!decide ((s1++s2)[i]∈b9 O))=true->((((s1++s2).take i).filter λn=>!decide (n∈b9 O)).map V.str).length<=sizeLine/\N ((((s1++s2).take i).filter λn=>!decide (n∈b9 O)).map V.str++[V.str (s1++s2)[i]]) H3:=λhb=>by
    refine⟨d8 (by rw[KW];lia),f_ _ _ ⟨s3,?_⟩⟩;rw[e7,LO,LV (p:=λn=>!decide (n∈b9 O)) hb,Mu,Lh];rfl
   have no:(!decide ((s1++s2)[i]∈b9 O))=false->N ((((s1++s2).take i).filter λn=>!decide (n∈b9 O)).map V.str) H3:=λhb=>by
    refine f_ _ _ ⟨s3,?_⟩;rw[e7,LO,Md (p:=λn=>!decide (n∈b9 O)) (by rw[hb];simp),Mu,Mn]
   exists⟨rfl,?_⟩;exists k8 O3.tup ?_;refine O7 (J2 (k:=Sum.inr (s1++s2)[i]) O3.pts) ?_;rw[N6];exists O8 (λb1=>?_) (λb1=>?_)
   .exists j6 O3.tup ?_;refine O7 (J2 (k:=Sum.inr (s1++s2)[i]) O3.ties) ?_;rw[Y0 O3.ts];exists O8 (λb2=>?_) (λb2=>?_)
    .exists yes (by rw[LM (show(s1++s2)[i]∉b9 O from λz=>(Ld.mp z).elim b1 b2)];rfl)
    .exact no (by rw[LA (show(s1++s2)[i]∈b9 O from Lf _ b2)];rfl)
   .exact no (by rw[LA (show(s1++s2)[i]∈b9 O from Lb _ b1)];rfl)
  .rintro out H3 ⟨s3,rfl⟩;have F':=Lm (λn=>!decide (n∈b9 O)) ((s1++s2).take (s1++s2).length);rw[Lp] at F';refine⟨⟨_,SqL.of (s3 _ _ f1),by rw[KW];exact La _⟩,λD hD=>⟨d8 (by rw[KW];lia),?_⟩⟩;rw[Ll (La _)];obtain⟨H4,e4,f4,m4,_⟩:=u7 (H:=H3) (o:= .lst (((s1++s2).filter λn=>!decide (n∈b9 O)).map V.str)) hD;refine k D _ s1 s2 ((m1.trans s3).free hD) ?_ or ?_
   .show Same _ (u9 _ D _);rw[e4];exact m1.trans (s3.trans m4)
   .show u9 _ D _ D=_;rw[b5]
structure Sd where
 a:Addr
 p:Addr
 q:Addr
 kvs:am
 W:C3
def SdIs (K:Qd)(H:Hp)(s:Sd):Prop:=WebIs 60 K H s.a s.p s.q s.kvs s.W
def SdIs.same {s:Sd}(h:SdIs K H s)(m:Same H H'):SdIs K H' s:=WebIs.same h m
structure RuleIs (K:Qd) (H:Hp) (r bl:Addr) (L R:Sd) (bs:List Sd):Prop where
 tup:SqT K H r [.ref L.a,.ref R.a,.ref bl]
 l:SdIs K H L
 r:SdIs K H R
 bl:SqL K H bl (bs.map λs=>V.ref s.a)
 bars:∀b∈bs,SdIs K H b
variable {r bl:Addr}
def RuleIs.same {L R:Sd}{bs:List Sd}(h:RuleIs K H r bl L R bs)(m:Same H H'):RuleIs K H' r bl L R bs:=⟨m.tup h.tup,h.l.same m,h.r.same m,m.seq h.bl,λb hb=>(h.bars b hb).same m⟩
structure CW (n:Str) (L R:C3):Prop where
 p:∀k,(n,k)∈L.pts↔(n,k)∈R.pts
 t:∀t,(n,t)∈L.ts↔(n,t)∈R.ts
structure iK (L R:C3) (bs:List Sd):Prop where
 l:pT 4 L
 r:pT 4 R
 ag:∀n∈b9 L,n∈b9 R->CW n L R
 len:bs.length<=3
 bars:∀b∈bs,pT 6 b.W/\(∀x∈L.pts,x∈b.W.pts)/\∀x∈L.ts,x∈b.W.ts
def vx (K:Qd):Sp:=λvs H Q _=>∃(r bl:Addr) (L R:Sd) (bs:List Sd),vs=[.ref r]/\RuleIs K H r bl L R bs/\∀(l:Addr) (H':Hp) (s1 s2:xL),H l=none->Same H H'->Ordr L.W s1 s2->H' l=some (.lst (((s1++s2).filter λn=>decide (n∈b9 R.W)).map V.str))->Q (.ref l) H'
def sJ (K:Qd):Sp:=λvs H Q _=>∃(r bl:Addr) (L R:Sd) (bs:List Sd),vs=[.ref r]/\RuleIs K H r bl L R bs/\∀(l:Addr) (H':Hp) (s1 s2:xL),H l=none->Same H H'->Ordr L.W s1 s2->H' l=some (.lst (((s1++s2).filter λn=>!decide (n∈b9 R.W)).map V.str))->Q (.ref l) H'
def jm (K:Qd):Sp:=λvs H Q _=>∃(r bl:Addr) (L R:Sd) (bs:List Sd),vs=[.ref r]/\RuleIs K H r bl L R bs/\∀(l:Addr) (H':Hp) (s1 s2:xL),H l=none->Same H H'->Ordr R.W s1 s2->H' l=some (.lst (((s1++s2).filter λn=>!decide (n∈b9 L.W)).map V.str))->Q (.ref l) H'
abbrev Af:=λP w K mg base=>U8 P w K mg base J0 3 "kept" ["rule"] [] (vx K)
def Bw {f fd}(T:Txt K mg)(tQ:zW P w K mg base)(F:Fun K "kept" "kept" tw f fd):E4 P w K mg base J0 3 f fd ["rule"] (vx K):=by
 walk_at "#sc_kept"
 .obtain⟨r,bl,L,R,bs,rfl,_⟩:=h;rfl
 .obtain⟨r,bl,L,R,bs,rfl,hr',k⟩:=h;walk_at "@sc_kept 76'0tQ g2020";exists k8 hr'.tup ?_;exists j6 hr'.tup ?_;symm;exact⟨_,_,_,_,_,_,_,_,_,_,rfl,hr'.l,hr'.r,λl H' s1 s2 n m o f=>k l H' s1 s2 n m o f⟩
abbrev uL:=λP w K mg base=>U8 P w K mg base J0 3 "taken" ["rule"] [] (sJ K)
def xX {f fd}(T:Txt K mg)(eE:pM P w K mg base)(F:Fun K "taken" "taken" pP f fd):E4 P w K mg base J0 3 f fd ["rule"] (sJ K):=by
 walk_at "#sc_taken"
 .obtain⟨r,bl,L,R,bs,rfl,_⟩:=h;rfl
 .obtain⟨r,bl,L,R,bs,rfl,hr',k⟩:=h;walk_at "@sc_taken 76'0eE g2020";exists k8 hr'.tup ?_;exists j6 hr'.tup ?_;symm;exact⟨_,_,_,_,_,_,_,_,_,_,rfl,hr'.l,hr'.r,λl H' s1 s2 n m o f=>k l H' s1 s2 n m o f⟩
abbrev fI:=λP w K mg base=>U8 P w K mg base J0 3 "fresh_of" ["rule"] [] (jm K)
def sd {f fd}(T:Txt K mg)(eE:pM P w K mg base)(F:Fun K "fresh_of" "fresh_of" fP f fd):E4 P w K mg base J0 3 f fd ["rule"] (jm K):=by
 walk_at "#sc_fresh_of"
 .obtain⟨r,bl,L,R,bs,rfl,_⟩:=h;rfl
 .obtain⟨r,bl,L,R,bs,rfl,hr',k⟩:=h;walk_at "@sc_fresh_of 76'0eE g2020";exists j6 hr'.tup ?_;exists k8 hr'.tup ?_;symm;exact⟨_,_,_,_,_,_,_,_,_,_,rfl,hr'.r,hr'.l,λl H' s1 s2 n m o f=>k l H' s1 s2 n m o f⟩
def dq (K:Qd):Sp:=λvs H Q _=>∃(t d:Addr) (x:N3) (kvm:am),vs=[.ref t,.ref d]/\SqT K H t (ao x)/\Rd H d (.dK kvm)/\TxtAt kvm x.2.1/\TxtAt kvm x.2.2/\∀(l:Addr) (H':Hp),H l=none->Same H H'->H' l=some (.tup (ao (x.1,i8 kvm x.2.1,i8 kvm x.2.2)))->Q (.ref l) H'
structure bK (P W:C3) (kvm:am):Prop where
 len:kvm.length=(b9 P).length
 txt:∀n∈b9 P,TxtAt kvm n
 nd:((b9 P).map (i8 kvm)).Nodup
 pts:∀x∈P.pts,(i8 kvm x.1,x.2)∈W.pts
 ts:∀x∈P.ts,(i8 kvm x.1,(x.2.1,i8 kvm x.2.2.1,i8 kvm x.2.2.2))∈W.ts
def BI {s:Str}(h:n∉pts.map (·.1)):F7 (i6 pts) (Sum.inr n:j0) (.str s)=i6 (pts++[(n,s)]):=by
 rw[Q7 _ (P0 (by rw[K5,←C9];exact λm=>h (Z0 m)))];unfold i6;rw[Lh];rfl
variable {ms:xz}
def Q3 {m:Str}(nd:(ms.map (·.1)).Nodup)(h:(n,m)∈ms):i8 (i6 ms) n=m:=gN (N0 nd h)
abbrev Z4:=λP w K mg base=>U8 P w K mg base J0 1 "tie_renamed" ["tie","names"] [] (dq K)
def mz {f fd}(T:Txt K mg)(F:Fun K "tie_renamed" "tie_renamed" aY f fd):E4 P w K mg base J0 1 f fd ["tie","names"] (dq K):=by
 walk_at "#sc_tie_renamed"
 .obtain⟨t,d,x,kvm,rfl,_⟩:=h;rfl
 .obtain⟨t,d,⟨x1,x2,x3⟩,kvm,rfl,hT,hD,k1,k2,k⟩:=h;walk_at "@sc_tie_renamed 7nq20gb120b120";exists k8 hT ?_;exists j6 hT ?_;refine Aq hD k1 ?_;exists bY hT ?_;refine Aq hD k2 ?_;exists⟨d8 (by simp),λl9 H9 n9 m9 f9=>?_⟩;exact k l9 H9 n9 m9 f9
def mG (x:Str):xL->xL
 |[]=>[x]
 |y::r=>if ltCps y.cps.toList x.cps.toList=true then y::mG x r else x::y::r
def uy:xL->xL
 |[]=>[]
 |x::r=>mG x (uy r)
theorem nW (x:Str):∀l,(mG x l).Perm (x::l)
 |[]=> .refl _
 |y::r=>by
  unfold mG;split
  .exact((nW x r).cons y).trans (.swap _ _ _)
  .exact .refl _
theorem iG:∀l,(uy l).Perm l
 |[]=> .refl _
 |x::r=>(nW x _).trans ((iG r).cons x)
def sf {a b:Str}(h:ltCps a.cps.toList b.cps.toList=true):ltCps b.cps.toList a.cps.toList=false:=by
 rw[ltCps_eq] at h⊢;exact LM (PH (MB h))
theorem qO {x:Str}:∀{l:xL} {p:Str},risingS p l=true->ltCps x.cps.toList p.cps.toList=false->risingS p (mG x l)=true
 |[],p,_,h=>by unfold mG;unfold risingS;rw[h];rfl
 |y::r,p,h1,h=>by
  have R_:(!ltCps y.cps.toList p.cps.toList&&risingS y r)=true:=h1;rw[LN] at R_;unfold mG;split
  .next e=>
   show(!ltCps y.cps.toList p.cps.toList&&risingS y (mG x r))=true;rw[R_.1,qO R_.2 (sf e)];rfl
  .next e=>
   show(!ltCps x.cps.toList p.cps.toList&&(!ltCps y.cps.toList x.cps.toList&&risingS y r))=true;rw[h,R_.2];simpa using e
theorem qf:∀l,sortedS (uy l)=true
 |[]=>rfl
 |x::r=>by
  have ih:=qf r;show sortedS (mG x (uy r))=true;cases e:uy r with
  |nil=>rfl
  |cons y t=>
   rw[e] at ih
   unfold mG
   split
   .next z=>exact qO ih (sf z)
   .next z=>
    show(!ltCps y.cps.toList x.cps.toList&&risingS y t)=true
    rw[show risingS y t=true from ih];simpa using z
def O1 (ts:List (Str×N3))(n:Str):N3:=match ts.find? (λx=>decide (x.1=n)) with
 |some x=>x.2
 |none=>("","","")
theorem jc:∀{ts:List (Str×N3)} {n:Str} {t:N3},(ts.map (·.1)).Nodup->(n,t)∈ts->O1 ts n=t
 |[],_,_,_,h=>nomatch h
 |x::r,n,t,nd,h=>by
  unfold O1;have nd':=Mt.mp (show(x.1::r.map (·.1)).Nodup from nd);by_cases e:x.1=n
  .rw[List.find?_cons_of_pos (by simpa using e)];rcases LZ.mp h with z|z
   .rw[←z]
   .exact absurd (KZ.mpr ⟨_,z,rfl⟩) (e▸nd'.1)
  .rw[List.find?_cons_of_neg (by simpa using e)];rcases LZ.mp h with z|z
   .exact absurd (by rw[←z]) e
   .exact jc nd'.2 z
def dN (h:n∈ts.map (·.1)):(n,O1 ts n)∈ts:=by
 unfold O1;cases e:ts.find? (λx=>decide (x.1=n)) with
 |none=>
  obtain⟨x,hx,z⟩:=KZ.mp h
  exact absurd (List.find?_eq_none.mp e x hx) (by simpa using z)
 |some x=>
  have z:x.1=n:=by simpa using List.find?_some e
  rw[←z];exact List.mem_of_find?_eq_some e
def X7 (fx:xz)(n im:Str):Bool:=if n∈fx.map (·.1) then decide (im=i8 (i6 fx) n) else !decide (im∈fx.map (·.2))
def ue (L:Str->Str->Bool)(gp:xL)(fx:xz)(n:Str):xL:=(gp.filter (L n)).filter (X7 fx n)
def ve (W:C3)(gt:xL)(fx:xz)(n:Str)(t:N3):xL:=gt.filter λim=>decide (O1 W.ts im=t)&&X7 fx n im
def gv (nm b:xL)(x:Str):Str:=i8 (i6 (nm.zip b)) x
def we (W:C3)(gt:xL)(fx:xz)(nm b:xL)(x:Str×N3):xL:=ve W gt fx x.1 (x.2.1,gv nm b x.2.2.1,gv nm b x.2.2.2)
def Cm (a b:Str):Str:=if a.cps.toList<b.cps.toList then b else a
def dS (ts:List (Str×N3))(n:Str):List (Str×N3):=ts.filter λx=>decide (Cm x.2.2.1 x.2.2.2=n)
def ye (ls:ZB):Bool:=ls.all λd=>decide (ls.count d<=d.length)
def aA (L:Str->Str->Bool)(Pc W:C3)(gp gt:xL)(fx:xz)(nm b:xL):xL:=match nm[b.length]? with
 |none=>[]
 |some n=>if n∈Pc.ts.map (·.1) then(we W gt fx nm b (n,O1 Pc.ts n)).filter (λx=>!decide (x∈b))
  else((ue L gp fx n).filter (λx=>!decide (x∈b))).filter λim=>ye ((dS Pc.ts n).map (we W gt fx nm (b++[im])))
def iE (img:xL->xL):Nat->xL->ZB
 |0,b=>[b]
 |k+1,b=>(img b).flatMap λx=>iE img k (b++[x])
def dW:ZB->xL->ZB
 |[],b=>[b]
 |c::r,b=>c.flatMap λx=>dW r (b++[x])
def Jd (img:xL->xL)(j:Nat)(row:xL):Prop:=∀(i:Nat) (x:Str),j<=i->row[i]?=some x->x∈img (row.take i)
theorem iy:∀{bs:ZB} {b row:xL},row∈dW bs b->∃t,row=b++t/\t.length=bs.length/\∀(i:Nat) (x:Str) (c:xL),t[i]?=some x->bs[i]?=some c->x∈c
 |[],b,row,h=>by
  rw[Li.mp h];exact⟨[],by simp,rfl,λi x c hx _=>by simp at hx⟩
 |c::r,b,row,h=>by
  obtain⟨x,hx,h'⟩:=List.mem_flatMap.mp h;obtain⟨t,e,hl,hm⟩:=iy h';refine⟨x::t,by rw[e];simp,by simp [hl],λi y d hy hd=>?_⟩;cases i with
  |zero=>cases hy;cases hd;exact hx
  |succ i=>exact hm i y d hy hd
theorem uS:∀{bs:ZB} {b t:xL},t.length=bs.length->(∀(i:Nat) (x:Str) (c:xL),t[i]?=some x->bs[i]?=some c->x∈c)->b++t∈dW bs b
 |[],b,[],_,_=>by simp [dW]
 |c::r,b,x::t,hl,hm=>by
  refine List.mem_flatMap.mpr ⟨x,hm 0 x c rfl rfl,?_⟩;have z:=uS (bs:=r) (b:=b++[x]) (t:=t) (by simpa using hl) λi y d hy hd=>hm (i+1) y d hy hd;simpa using z
theorem cX {α β:Type}(p:α->Bool)(F:α->List β):∀l:List α,(l.filter p).flatMap F=l.flatMap λx=>if p x=true then F x else []
 |[]=>rfl
 |a::l=>by
  cases e:p a with
  |true=>rw[LV e,Nw,Nw,if_pos e,cX p F l]
  |false=>rw[Md (by rw[e];decide),Nw,if_neg (by rw[e];decide),cX p F l];rfl
theorem fE {α β:Type}{F G:α->List β}:∀{l:List α},(∀x∈l,F x=G x)->l.flatMap F=l.flatMap G
 |[],_=>rfl
 |a::l,h=>by rw[Nw,Nw,h a Lx,fE λx hx=>h x (LD _ hx)]
theorem Y8 {α:Type}{p q:α->Bool}:∀{l:List α},(∀x∈l,p x=q x)->l.filter p=l.filter q
 |[],_=>rfl
 |a::l,h=>by
  have z:=Y8 (l:=l) λx hx=>h x (LD _ hx);rw[NH,NH,h a Lx,z]
open Classical in
theorem yL {img:xL->xL}:∀{bs:ZB} {b:xL},(∀(j:Nat) (c:xL),bs[j]?=some c->∀b':xL,b'.length=b.length+j->img b'=c.filter λx=>decide (x∈img b'))->
  iE img bs.length b=(dW bs b).filter λrow=>decide (Jd img b.length row)
 |[],b,_=>by
  show [b]=[b].filter _;rw[LV (by
   refine LA λi x hi hx=>?_;rw[MD hi] at hx;cases hx)];rfl
 |c::r,b,h=>by
  show(img b).flatMap (λx=>iE img r.length (b++[x]))=(c.flatMap λx=>dW r (b++[x])).filter _;have h0:=h 0 c rfl b (by lia);have hF:∀x,iE img r.length (b++[x])=(dW r (b++[x])).filter λrow=>decide (Jd img (b++[x]).length row):=λx=>
   yL λj d hd b' hb=>h (j+1) d hd b' (by rw[hb,Lg,Lq];lia)
  rw[List.filter_flatMap,h0,cX];refine fE λx hx=>?_;rw[hF x];by_cases m_:x∈img b
  .rw[if_pos (LA m_)];refine Y8 λrow RL=>?_;obtain⟨t,e,_⟩:=iy RL;rw[Mh,LK,LK];constructor
   .intro ok i y hi hy;by_cases z:i=b.length
    .have e1:row[i]?=some x:=by rw[e,z];simp
     rw[e1] at hy;cases hy;have e2:row.take i=b:=by rw[e,z];simp
     rw[e2];exact m_
    .exact ok i y (by rw[Lg,Lq];lia) hy
   .intro ok i y hi hy;exact ok i y (by rw[Lg,Lq] at hi;lia) hy
  .rw[if_neg (by rw[LM m_];decide)];refine(OD.mpr λrow RL=>?_).symm;obtain⟨t,e,_⟩:=iy RL;intro ok;have z:=MB ok b.length x (La _) (by rw[e];simp);rw[show row.take b.length=b by rw[e];simp] at z;exact m_ z
variable {p:Str->Bool}
def si {c:xL}:c.filter p=c.filter λx=>decide (x∈c.filter p):=Y8 λx hx=>by
 rw[Mh,LK,Lo];exact⟨λh=>⟨hx,h⟩,λh=>h.2⟩
theorem vB:∀(nm b:xL),((nm.zip b).map (·.1)).Sublist nm
 |[],_=> .slnil
 |_::_,[]=>List.nil_sublist _
 |n::nm,x::b=>(vB nm b).cons_cons n
def kZ {nm:xL}(b:xL)(nd:nm.Nodup):((nm.zip b).map (·.1)).Nodup:=nd.sublist (vB nm b)
def kc {nm b:xL}(h1:nm[i]?=some n)(h2:b[i]?=some x):(n,x)∈nm.zip b:=by
 have z:(nm.zip b)[i]?=some (n,x):=by rw[Pk];exact⟨h1,h2⟩
 exact Ln z
def sO {nm b:xL}(nd:nm.Nodup)(h1:nm[i]?=some n)(h2:b[i]?=some x):gv nm b n=x:=Q3 (kZ b nd) (kc h1 h2)
variable {row:xL}
theorem yS {nm:xL}(nd:nm.Nodup)(hl:row.length=nm.length):nm.map (gv nm row)=row:=by
 refine List.ext_getElem? λi=>?_;rw[Lc];by_cases hi:i<nm.length
 .rw[KY hi,KY (show i<row.length by lia)];exact MG some (sO nd (KY hi) (KY (by lia)))
 .rw[MD (by lia),MD (by lia)];rfl
theorem ny:∀{l m:xL},l.Nodup->(∀x∈l,x∈m)->l.length<=m.length
 |[],m,_,_=>My _
 |x::r,m,nd,h=>by
  have nd':=Mt.mp nd;have hx:=h x Lx;have z:=ny (l:=r) (m:=m.erase x) nd'.2 λy hy=>(List.mem_erase_of_ne (λe:y=x=>nd'.1 (by rw[←e];exact hy))).mpr (h y (LD _ hy));rw[List.length_erase_of_mem hx] at z;have:0<m.length:=List.length_pos_of_mem hx;rw[Mj];lia
theorem ow {α:Type}(f:α->xL)(d:xL):∀ts:List α,(ts.map f).count d=(ts.filter λt=>decide (f t=d)).length
 |[]=>rfl
 |t::r=>by
  rw[Mg,List.count_cons,ow f d r,NH];by_cases e:f t=d
  .rw[if_pos (by simpa using e),if_pos (by simpa using e)];rfl
  .rw[if_neg (by simpa using e),if_neg (by simpa using e)];rfl
def CF {ts:List α}{f:α->xL}{r:α->Str}(hm:∀t∈ts,r t∈f t)(nd:(ts.map r).Nodup):ye (ts.map f)=true:=by
 unfold ye;rw[LU];intro d hd;rw[LK,ow];have z:((ts.filter λt=>decide (f t=d)).map r).length<=d.length:=by
  refine ny (nd.sublist (Mp.map r)) λx hx=>?_;obtain⟨t,ht,rfl⟩:=KZ.mp hx;rw[Lo] at ht;rw[←MB ht.2];exact hm t ht.1
 rw[KW] at z;exact z
def qd (fx:xz)(nm row:xL):Prop:=∀x∈fx,gv nm row x.1=x.2
structure SrchP (L:Str->Str->Bool) (Pc W:C3) (s1 s2 gp gt:xL) (fx:xz):Prop where
 o:Ordr Pc s1 s2
 o':Ordr W gp gt
 nd:(b9 Pc).Nodup
 nd':(b9 W).Nodup
 ends:∀x∈Pc.ts,x.2.2.1∈Pc.pts.map (·.1)/\x.2.2.2∈Pc.pts.map (·.1)
 fnd:(fx.map (·.1)).Nodup
 fin:∀x∈fx,x.1∈b9 Pc
 ls:∀n x,n∈Pc.pts.map (·.1)->x∈W.pts.map (·.1)->L n x=true->i8 (i6 W.pts) x=i8 (i6 Pc.pts) n
 lc:∀row,bK Pc W (i6 ((s1++s2).zip row))->∀x∈Pc.pts,L x.1 (gv (s1++s2) row x.1)=true
section
variable {L:Str->Str->Bool} {Pc W:C3} {s1 s2 gp gt:xL} {fx:xz}
def jJ (s1 s2 gp gt:xL):ZB:=List.replicate s1.length gp++List.replicate s2.length gt
def gZ:(jJ s1 s2 gp gt).length=(s1++s2).length:=by unfold jJ;simp
def SrchP.nn (S:SrchP L Pc W s1 s2 gp gt fx):(s1++s2).Nodup:=S.o.perm.nodup_iff.mpr S.nd
variable {i:Nat}{n:Str}
theorem SrchP.is1 (S:SrchP L Pc W s1 s2 gp gt fx)(h:(s1++s2)[i]?=some n):(n∉Pc.ts.map (·.1)/\i<s1.length)\/(n∈Pc.ts.map (·.1)/\s1.length<=i):=by
 by_cases hi:i<s1.length
 .refine .inl ⟨λz=>?_,hi⟩;rw[LS hi] at h;have m1:n∈s1:=Ln h;exact(Ls.mp S.nn).2.2 n m1 n (S.o.p2.mem_iff.mpr z) rfl
 .rw[Ms (by lia)] at h;exact .inr ⟨S.o.p2.mem_iff.mp (Ln h),by lia⟩
def Bf {L c:xL}{p:Str->Bool}(e:L=c.filter p):L=c.filter λx=>decide (x∈L):=by subst e;exact si
theorem AH (S:SrchP L Pc W s1 s2 gp gt fx){j:Nat}{c b:xL}(h:(jJ s1 s2 gp gt)[j]?=some c)(hb:b.length=j):aA L Pc W gp gt fx (s1++s2) b=c.filter λx=>decide (x∈aA L Pc W gp gt fx (s1++s2) b):=by
 have hj:j<(s1++s2).length:=by
  rw[←gZ (gp:=gp) (gt:=gt)];rcases Nn j (jJ s1 s2 gp gt).length with z|z
  .exact z
  .rw[MD z] at h;cases h
 have hn:(s1++s2)[b.length]?=some ((s1++s2)[j]):=by rw[hb];exact KY hj
 have hc:c=if j<s1.length then gp else gt:=by
  unfold jJ at h;by_cases z:j<s1.length
  .rw[LS (by simpa using z),Nj,if_pos z] at h;rw[if_pos z];exact(Ly h).symm
  .rw[Ms (by simpa using z),MI,Nj,if_pos (by rw[Lg] at hj;lia)] at h;rw[if_neg z];exact(Ly h).symm
 obtain⟨p,e⟩:∃p,aA L Pc W gp gt fx (s1++s2) b=c.filter p:=by
  unfold aA;rw[hn];dsimp only;rcases S.is1 (i:=j) (KY hj) with⟨h1,h2⟩|⟨h1,h2⟩
  .rw[if_neg h1,hc,if_pos h2];unfold ue;rw[NM,NM,NM];exact⟨_,rfl⟩
  .rw[if_pos h1,hc,if_neg (by lia)];unfold we ve;rw[NM];exact⟨_,rfl⟩
 exact Bf e
def iY {l:xL}(h:n∈l):∃i:Nat,l[i]?=some n:=MT h
def SrchP.pt_idx (S:SrchP L Pc W s1 s2 gp gt fx)(h:n∈Pc.pts.map (·.1)):∃i:Nat,i<s1.length/\(s1++s2)[i]?=some n:=by
 obtain⟨i,hi⟩:=iY (S.o.p1.mem_iff.mpr h);have hl:i<s1.length:=by
  rcases Nn i s1.length with z|z
  .exact z
  .rw[MD z] at hi;cases hi
 exact⟨i,hl,by rw[LS hl];exact hi⟩
variable {row:xL}
theorem jZ {nm:xL}{j:Nat}(nd:nm.Nodup)(hl:row.length=nm.length)(h:nm[i]?=some n)(ZL:i<j):gv nm (row.take j) n=gv nm row n:=by
 have hi:i<nm.length:=by
  rcases Nn i nm.length with z|z
  .exact z
  .rw[MD z] at h;cases h
 have h2:row[i]?=some row[i]:=KY (by lia);rw[sO nd h h2,sO nd h (b:=row.take j) (x:=row[i]) (by rw[Oz,if_pos ZL];exact h2)]
variable {x:Str}
def EM {nm:xL}(fnd:(fx.map (·.1)).Nodup)(d:qd fx nm row)(inj:∀y∈fx,gv nm row y.1=gv nm row n->y.1=n)(e:gv nm row n=x):X7 fx n x=true:=by
 unfold X7;split
 .next h=>
  obtain⟨y,hy,rfl⟩:=KZ.mp h;rw[Q3 fnd (show(y.1,y.2)∈fx from hy),←e];exact LA (d y hy)
 .next h=>
  have z:x∉fx.map (·.2):=λz=>by
   obtain⟨y,hy,ey⟩:=KZ.mp z;have z1:=d y hy;rw[ey,←e] at z1;exact h (by rw[←inj y hy z1];exact KZ.mpr ⟨y,hy,rfl⟩)
  simpa using z
def Hd {pts:xz}{g:xL}{kd:Str}(nd:(pts.map (·.1)).Nodup)(p:g.Perm (pts.map (·.1)))(h:x∈g)(hk:i8 (i6 pts) x=kd):(x,kd)∈pts:=by
 obtain⟨y,hy,rfl⟩:=KZ.mp (p.mem_iff.mp h);rw[Q3 nd (show(y.1,y.2)∈pts from hy)] at hk;rw[←hk];exact hy
def zJ {Q:C3}{kvm:am}{y:Str}(nd:((b9 Q).map (i8 kvm)).Nodup)(hx:x∈b9 Q)(hy:y∈b9 Q)(e:i8 kvm x=i8 kvm y):x=y:=by
 obtain⟨i,hi⟩:=iY hx;obtain⟨j,hj⟩:=iY hy;have e1:((b9 Q).map (i8 kvm))[i]?=some (i8 kvm x):=by rw[Lc,hi];rfl
 have e2:((b9 Q).map (i8 kvm))[j]?=some (i8 kvm x):=by rw[Lc,hj,e];rfl
 have li:i<((b9 Q).map (i8 kvm)).length:=by
  rcases Nn i ((b9 Q).map (i8 kvm)).length with z|z
  .exact z
  .rw[MD z] at e1;cases e1
 have z:=(RQ li nd).mp (e1.trans e2.symm);rw[z,hj] at hi;exact(Ly hi).symm
variable {w:World}
def jQ (S:SrchP L Pc W s1 s2 gp gt fx){e:Str}(hi:i<s1.length)(he:e∈Pc.pts.map (·.1))(hle:¬(s1[i].cps.toList<e.cps.toList)):∃j:Nat,j<=i/\(s1++s2)[j]?=some e:=by
 obtain⟨j,hj,ZM⟩:=S.pt_idx he;refine⟨j,?_,ZM⟩;rcases Nn i j with z|z
 .exfalso;have nd1:s1.Nodup:=(Ls.mp S.nn).1;have pw:=iA (kh S.o.o1 nd1);have w:=Oa.mp pw i j hi hj z;rw[LS hj,KY hj] at ZM;rw[Ly ZM] at w;exact hle w
 .exact z
end
section
variable {L:Str->Str->Bool} {Pc W:C3} {s1 s2 gp gt:xL} {fx:xz}
theorem DY {j:Nat}{c:xL}(h:(jJ s1 s2 gp gt)[j]?=some c):(j<s1.length/\c=gp)\/(s1.length<=j/\c=gt):=by
 unfold jJ at h;by_cases z:j<s1.length
 .rw[LS (by simpa using z),Nj,if_pos z] at h;exact .inl ⟨z,(Ly h).symm⟩
 .rw[Ms (by simpa using z),MI,Nj] at h;split at h
  .exact .inr ⟨by lia,(Ly h).symm⟩
  .cases h
def bL {α:Type}{l:List α}{i:Nat}{x:α}(h:l[i]?=some x):i<l.length:=by
 rcases Nn i l.length with z|z
 .exact z
 .rw[MD z] at h;cases h
variable {n:Str}
def mem_ch {x:Str}:x∈ue L gp fx n↔x∈gp/\L n x=true/\X7 fx n x=true:=by
 unfold ue;rw[Lo,Lo,and_assoc]
def mem_pl {x:Str}{t:N3}:x∈ve W gt fx n t↔x∈gt/\O1 W.ts x=t/\X7 fx n x=true:=by
 unfold ve;rw[Lo,LN,LK]
variable {row:xL}
theorem DN (S:SrchP L Pc W s1 s2 gp gt fx)(hl:row.length=(s1++s2).length)(ok:Jd (aA L Pc W gp gt fx (s1++s2)) 0 row):bK Pc W (i6 ((s1++s2).zip row))/\qd fx (s1++s2) row:=by
 have nn:=S.nn;have key:∀(i:Nat) (n x:Str),(s1++s2)[i]?=some n->row[i]?=some x->x∉row.take i/\X7 fx n x=true/\(n∉Pc.ts.map (·.1)->(x,i8 (i6 Pc.pts) n)∈W.pts)/\(n∈Pc.ts.map (·.1)->(x,((O1 Pc.ts n).1,gv (s1++s2) row (O1 Pc.ts n).2.1,gv (s1++s2) row (O1 Pc.ts n).2.2))∈W.ts):=by
  intro i n x hn hx;have Yv:=bL hn;have h0:=ok i x (My _) hx;have p_:(row.take i).length=i:=by rw[Lp];lia
  unfold aA at h0;rw[p_,hn] at h0;dsimp only at h0;rcases S.is1 hn with⟨h1,h2⟩|⟨h1,h2⟩
  .rw[if_neg h1,Lo,Lo,mem_ch] at h0;refine⟨by simpa using h0.1.2,h0.1.1.2.2,λ_=>Hd (F2 S.nd') S.o'.p1 h0.1.1.1 (S.ls n x ((Ld.mp (S.o.mem.mp (Ln hn))).resolve_right h1) (S.o'.p1.mem_iff.mp h0.1.1.1) h0.1.1.2.1),λz=>absurd z h1⟩
  .rw[if_pos h1,Lo] at h0;have hm:=mem_pl.mp (show x∈ve W gt fx n _ from h0.1);refine⟨by simpa using h0.2,hm.2.2,λz=>absurd h1 z,λ_=>?_⟩;have m_:=dN h1;have he:=S.ends _ m_;obtain⟨j1,ZN,Vb⟩:=S.pt_idx he.1;obtain⟨j2,hj2,Ve⟩:=S.pt_idx he.2;have e1:=jZ (j:=i) nn hl Vb (by lia);have e2:=jZ (j:=i) nn hl Ve (by lia);have z:=dN (S.o'.p2.mem_iff.mp hm.1);rw[hm.2.1] at z;dsimp only at z e1 e2;rw[e1,e2] at z;exact z
 have ZO:row.Nodup:=by
  refine Oa.mpr λi j hi hj ZL e=>?_;have z:=(key j ((s1++s2)[j]'(by lia)) row[j] (KY (by lia)) (KY hj)).1;refine z (Ln (i:=i) ?_);rw[Oz,if_pos ZL,KY hi,e]
 have Yw:∀n∈s1++s2,∃(i:Nat) (x:Str),(s1++s2)[i]?=some n/\row[i]?=some x/\gv (s1++s2) row n=x:=λn hn=>by
  obtain⟨i,hi⟩:=iY hn;have Yv:=bL hi;exact⟨i,row[i],hi,KY (by lia),sO nn hi (KY (by lia))⟩
 refine⟨⟨?_,λn hn=>?_,?_,λx hx=>?_,λx hx=>?_⟩,λx hx=>?_⟩
 .rw[k9,OX,←S.o.len];lia
 .obtain⟨i,x,h1,h2,_⟩:=Yw n (S.o.mem.mpr hn);exact⟨x,N0 (kZ row nn) (kc h1 h2)⟩
 .have e:=yS nn hl;exact((S.o.perm.map (gv (s1++s2) row)).nodup_iff).mp (by rw[e];exact ZO)
 .have hm:x.1∈b9 Pc:=Lb _ (KZ.mpr ⟨x,hx,rfl⟩);obtain⟨i,y,h1,h2,h3⟩:=Yw x.1 (S.o.mem.mpr hm);have i_:x.1∉Pc.ts.map (·.1):=λz=>(Ls.mp S.nd).2.2 x.1 (KZ.mpr ⟨x,hx,rfl⟩) x.1 z rfl;have z:=(key i x.1 y h1 h2).2.2.1 i_;rw[Q3 (F2 S.nd) (show(x.1,x.2)∈Pc.pts from hx)] at z;rw[show i8 (i6 ((s1++s2).zip row)) x.1=y from h3];exact z
 .have hm:x.1∈Pc.ts.map (·.1):=KZ.mpr ⟨x,hx,rfl⟩;obtain⟨i,y,h1,h2,h3⟩:=Yw x.1 (S.o.mem.mpr (Lf _ hm));have z:=(key i x.1 y h1 h2).2.2.2 hm;rw[jc (O4 S.nd) (show(x.1,x.2)∈Pc.ts from hx)] at z;rw[show i8 (i6 ((s1++s2).zip row)) x.1=y from h3];exact z
 .obtain⟨i,y,h1,h2,h3⟩:=Yw x.1 (S.o.mem.mpr (S.fin x hx));have z:=(key i x.1 y h1 h2).2.1;unfold X7 at z;rw[if_pos (KZ.mpr ⟨x,hx,rfl⟩),Q3 S.fnd (show(x.1,x.2)∈fx from hx)] at z;rw[h3];exact MB z
def uM (S:SrchP L Pc W s1 s2 gp gt fx)(f:bK Pc W (i6 ((s1++s2).zip row)))(d:qd fx (s1++s2) row)(hn:n∈b9 Pc):X7 fx n (gv (s1++s2) row n)=true:=
 EM S.fnd d (λy hy e=>zJ f.nd (S.fin y hy) hn e) rfl
def zE (S:SrchP L Pc W s1 s2 gp gt fx)(f:bK Pc W (i6 ((s1++s2).zip row)))(d:qd fx (s1++s2) row){x:Str×Str}(hx:x∈Pc.pts):gv (s1++s2) row x.1∈ue L gp fx x.1:=by
 have z:=f.pts x hx;exact mem_ch.mpr ⟨S.o'.p1.mem_iff.mpr (KZ.mpr ⟨_,z,rfl⟩),S.lc row f x hx,uM S f d (Lb _ (KZ.mpr ⟨x,hx,rfl⟩))⟩
variable {x:Str×N3}
def yG (S:SrchP L Pc W s1 s2 gp gt fx)(f:bK Pc W (i6 ((s1++s2).zip row)))(d:qd fx (s1++s2) row)(hx:x∈Pc.ts):gv (s1++s2) row x.1∈we W gt fx (s1++s2) row x:=by
 have z:=f.ts x hx;exact mem_pl.mpr ⟨S.o'.p2.mem_iff.mpr (KZ.mpr ⟨_,z,rfl⟩),jc (O4 S.nd') z,uM S f d (Lf _ (KZ.mpr ⟨x,hx,rfl⟩))⟩
def EC (S:SrchP L Pc W s1 s2 gp gt fx)(f:bK Pc W (i6 ((s1++s2).zip row)))(d:qd fx (s1++s2) row):ye (Pc.pts.map λx=>ue L gp fx x.1)=true:=by
 refine CF (r:=λx=>gv (s1++s2) row x.1) (λx hx=>zE S f d hx) ?_;have z:=f.nd;unfold b9 at z;rw[Lh,LY] at z;exact(Ls.mp z).1
def vw (S:SrchP L Pc W s1 s2 gp gt fx)(hl:row.length=(s1++s2).length){i:Nat}(h1:∃j:Nat,j<i/\(s1++s2)[j]?=some x.2.2.1)(h2:∃j:Nat,j<i/\(s1++s2)[j]?=some x.2.2.2):we W gt fx (s1++s2) (row.take i) x=we W gt fx (s1++s2) row x:=by
 obtain⟨j1,a1,b1⟩:=h1;obtain⟨j2,a2,b2⟩:=h2;unfold we;rw[jZ S.nn hl b1 a1,jZ S.nn hl b2 a2]
theorem FL (S:SrchP L Pc W s1 s2 gp gt fx)(hl:row.length=(s1++s2).length)(f:bK Pc W (i6 ((s1++s2).zip row)))(d:qd fx (s1++s2) row):Jd (aA L Pc W gp gt fx (s1++s2)) 0 row:=by
 have nn:=S.nn;have e:=yS nn hl;have ZO:row.Nodup:=by
  rw[←e];exact((S.o.perm.map (gv (s1++s2) row)).nodup_iff).mpr f.nd
 intro i x _ hx;have Yv:=bL hx;have hn:(s1++s2)[i]?=some ((s1++s2)[i]'(by lia)):=KY (by lia);generalize (s1++s2)[i]'(by lia)=n at hn;have hg:gv (s1++s2) row n=x:=sO nn hn hx;have p_:(row.take i).length=i:=by rw[Lp];lia
 have RI:x∉row.take i:=λz=>by
  obtain⟨j,hj⟩:=iY z;rw[Oz] at hj;split at hj
  .next hji=>
   have z2:=(RQ (bL hj) ZO).mp (hj.trans hx.symm);lia
  .cases hj
 unfold aA;rw[p_,hn];dsimp only;rcases S.is1 hn with⟨h1,h2⟩|⟨h1,h2⟩
 .rw[if_neg h1];have hm:n∈Pc.pts.map (·.1):=by
   rcases Ld.mp (S.o.mem.mp (Ln hn)) with z|z
   .exact z
   .exact absurd z h1
  obtain⟨y,hy,ey⟩:=KZ.mp hm;have hc:=zE S f d hy;rw[ey,hg] at hc;refine Lo.mpr ⟨Lo.mpr ⟨hc,by simpa using RI⟩,?_⟩;have et:row.take i++[x]=row.take (i+1):=by rw[LF,hx];rfl
  rw[et];have Vh:s1[i]=n:=by
   rw[LS h2,KY h2] at hn;exact Ly hn
  refine CF (r:=λt=>gv (s1++s2) row t.1) (λt ht=>?_) ?_
  .unfold dS at ht;rw[Lo,LK] at ht;have he:=S.ends t ht.1;have m1:¬(s1[i].cps.toList<t.2.2.1.cps.toList):=by
    rw[Vh,←ht.2];unfold Cm;split
    .next z=>exact PH z
    .exact Pl _
   have m2:¬(s1[i].cps.toList<t.2.2.2.cps.toList):=by
    rw[Vh,←ht.2];unfold Cm;split
    .exact Pl _
    .next z=>exact z
   obtain⟨j1,a1,b1⟩:=jQ S h2 he.1 m1;obtain⟨j2,a2,b2⟩:=jQ S h2 he.2 m2;rw[vw S hl ⟨j1,by lia,b1⟩ ⟨j2,by lia,b2⟩];exact yG S f d ht.1
  .have z:=f.nd;unfold b9 at z;rw[Lh,LY,LY] at z;exact((Ls.mp z).2.1).sublist (Mp.map _)
 .rw[if_pos h1];have m_:=dN h1;have he:=S.ends _ m_;obtain⟨j1,ZN,Vb⟩:=S.pt_idx he.1;obtain⟨j2,hj2,Ve⟩:=S.pt_idx he.2;have hp:=yG S f d m_;rw[←vw S hl (i:=i) ⟨j1,by lia,Vb⟩ ⟨j2,by lia,Ve⟩] at hp;refine Lo.mpr ⟨?_,by simpa using RI⟩;have V_:gv (s1++s2) row (n,O1 Pc.ts n).1=x:=hg;rw[V_] at hp;exact hp
open Classical in
noncomputable def iu (Pc W:C3)(s1 s2 gp gt:xL)(fx:xz):ZB:=(dW (jJ s1 s2 gp gt) []).filter λrow=>decide (bK Pc W (i6 ((s1++s2).zip row))/\qd fx (s1++s2) row)
def Ak (h:row∈dW (jJ s1 s2 gp gt) []):row.length=(s1++s2).length:=by
 obtain⟨t,e,hl,_⟩:=iy h;rw[e,Qq,hl,gZ]
open Classical in
def ym (S:SrchP L Pc W s1 s2 gp gt fx):iE (aA L Pc W gp gt fx (s1++s2)) (s1++s2).length []=iu Pc W s1 s2 gp gt fx:=by
 rw[←gZ (gp:=gp) (gt:=gt),yL λj c hc b' hb=>AH S hc (by rw[hb];simp)];unfold iu;refine Y8 λrow RL=>?_;have hl:=Ak RL;rw[Mh,LK,LK];exact⟨λok=>DN S hl ok,λh=>FL S hl h.1 h.2⟩
open Classical in
def xm (S:SrchP L Pc W s1 s2 gp gt fx)(h:ye (Pc.pts.map λx=>ue L gp fx x.1)=false):iu Pc W s1 s2 gp gt fx=[]:=by
 unfold iu;refine OD.mpr λrow _ z=>?_;have z:=MB z;rw[EC S z.1 z.2] at h;cases h
end
def oA (K:Qd):Sp:=λvs H Q _=>∃(d:Addr) (n im:Str) (fx:xz),vs=[.str n,.str im,.ref d]/\H d=some (.dK (i6 fx))/\∀H',Same H H'->Q (.bl (X7 fx n im)) H'
def qY (h:n∈pts.map (·.1)):A8 (i6 pts) (Sum.inr n:j0)=some (.str (i8 (i6 pts) n)):=by
 cases e:A8 (i6 pts) (Sum.inr n:j0) with
 |none=>have z:=N6 (pts:=pts) (n:=n);rw[e,LA h] at z;cases z
 |some v=>
  obtain⟨k',rfl,_⟩:=gE e
  rw[gN e]
def rm:(i6 pts).map (·.2)=(pts.map (·.2)).map V.str:=by unfold i6;rw[LY,LY];rfl
abbrev my:=λP w K mg base=>U8 P w K mg base J0 1 "may_be" ["name","image","fixed"] [] (oA K)
def wB {f fd}(T:Txt K mg)(F:Fun K "may_be" "may_be" lC f fd):E4 P w K mg base J0 1 f fd ["name","image","fixed"] (oA K):=by
 walk_at "#sc_may_be"
 .obtain⟨d,n,im,fx,rfl,_⟩:=h;rfl
 .obtain⟨d,n,im,fx,rfl,hd,k⟩:=h;walk_at "@sc_may_be 8orK00027Nu01b2007~3D01:~bM~5~43|+~a~9~802"
  exists az (J2 (k:=Sum.inr n) (.inl hd)) ?_;rw[N6];exists J6 (λh1=>?_) (λh1=>?_)
  .exists u4 (v:= .str (i8 (i6 fx) n)) (by have z:=J2 (k:=Sum.inr n) (.inl hd);rw[qY h1] at z;exact z) ?_;symm;have e:X7 fx n im=decide (im=i8 (i6 fx) n):=by unfold X7;rw[if_pos h1]
   rw[←e];exact k H (Same.refl H)
  .exists⟨.inr (.inr (.inl ⟨rfl,.inl ⟨_,hd⟩⟩)),?_⟩;exists⟨d,_,rfl,rfl,.inl hd,λv1 n1=>?_⟩;obtain⟨H1,e1,f1,m1,_⟩:=u7 (o:= .ext (mF v1 d)) n1;rw[e1];exists aS f1 (.inl (m1 _ _ hd)) (λl2 H2 n2 m2 f2=>?_);refine J1 (gs:=fx.map (·.2)) (SqL.of (by rw[f2,rm])) ?_;have e:X7 fx n im=!decide (im∈fx.map (·.2)):=by unfold X7;rw[if_neg h1]
   rw[←e];exact k H2 (m1.trans m2)
def LstAt (H:Hp)(v:V)(l:xL):Prop:=∃a,v= .ref a/\H a=some (.lst (l.map V.str))
def LstAt.same {l:xL}(h:LstAt H v l)(s:Same H H'):LstAt H' v l:=let ⟨a,e,z⟩:=h;⟨a,e,s _ _ z⟩
def ChAt (H:Hp)(F:Str×Str->xL)(kvs:am)(pts:xz):Prop:=Paired (λkv x=>kv.1=Sum.inr x.1/\LstAt H kv.2 (F x)) kvs pts
variable {F:Str×Str->xL}
def ChAt.same (h:ChAt H F kvs pts)(s:Same H H'):ChAt H' F kvs pts:=Paired.imp' (λ_ _ z=>⟨z.1,z.2.same s⟩) h
theorem ChAt.keys:∀{kvs:am} {pts:xz},ChAt H F kvs pts->kvs.map (·.1)=(pts.map (·.1)).map Sum.inr
 |_,_,.nil=>rfl
 |_,_,.cons a t=>by rw[Mg,a.1,ChAt.keys t];rfl
variable {s:xL}
def xo (h:s[i]?=some x)(hp:p x=true):(s.take (i+1)).filter p=(s.take i).filter p++[x]:=by
 rw[LF,h,LO];show _++List.filter p [x]=_;rw[LV hp];rfl
def tF (h:s[i]?=some x)(hp:p x=false):(s.take (i+1)).filter p=(s.take i).filter p:=by
 rw[LF,h,LO];show _++List.filter p [x]=_;rw[Md (by rw[hp];decide)];simp
theorem iH:((s.take i).filter p).length<=s.length:=LJ (Lm _ _) (by rw[Lp];lia)
variable {p:Addr}
def fD {b:Addr}(h:b≠p):C7 p o kvs H b=H b:=b7 h
def Fd:C7 p o kvs H p=some (.frz o (.dK kvs)):=b5
def se (s:Same H H1):Same (C7 p o kvs H) (C7 p o kvs H1):=λb u hb=>by
 by_cases z:b=p
 .rw[z,Fd] at hb⊢;exact hb
 .rw[fD z] at hb⊢;exact s _ _ hb
def Bo {pp:xz}(h:kvs.map (·.1)=(pp.map (·.1)).map Sum.inr)(e:kvs[i]?=some kv):∃x,pp[i]?=some x/\kv.1=Sum.inr x.1:=by
 have z:(kvs.map (·.1))[i]?=some kv.1:=by rw[Lc,e];rfl
 rw[h,Lc,Lc] at z;cases e2:pp[i]? with
 |none=>rw[e2] at z;cases z
 |some x=>rw[e2] at z;exact⟨x,rfl,(Ly z).symm⟩
def AV {k:j0}(h:k∈kvs.map (·.1)):∃u,A8 kvs k=some u:=by
 induction kvs with
 |nil=>cases h
 |cons p r ih=>
  by_cases e:p.1=k
  .exact⟨p.2,K9 e⟩
  .rw[K6 e]
   exact ih ((LZ.mp h).resolve_left λz=>e z.symm)
def bI (K:Qd):Sp:=λvs H Q _=>∃(p g d:Addr) (g_ C_:am) (pp gg fx:xz) (L:Str->Str->Bool) (gp:xL),vs=[.ref p,.ref g,.ref d]/\H p=some (.dK g_)/\g_.map (·.1)=(pp.map (·.1)).map Sum.inr/\(pp.map (·.1)).Nodup/\pp.length<=60/\Rd H g (.dK C_)/\C_.map (·.1)=(gg.map (·.1)).map Sum.inr/\(gg.map (·.1)).Nodup/\gg.length<=60/\gp.Perm (gg.map (·.1))/\sortedS gp=true/\
 (∀(n:Str) (v:V) (m:Str) (u:V),(Sum.inr n,v)∈g_->A8 C_ (Sum.inr m:j0)=some u->EqA K H u v (L n m))/\H d=some (.dK (i6 fx))/\d≠p/\
 ∀(c:Addr) (H':Hp) (kvs:am),H c=none->Same H H'->H' c=some (.dK kvs)->ChAt H' (λx=>ue L gp fx x.1) kvs pp->Q (.ref c) H'
abbrev cJ:=λP w K mg base=>U8 P w K mg base J0 2 "point_choices" ["piece_looks","web_looks","fixed"] [] (bI K)
theorem iV {f fd}(T:Txt K mg)(bH:my P w K mg base)(F:Fun K "point_choices" "point_choices" af f fd):E4 P w K mg base J0 2 f fd ["piece_looks","web_looks","fixed"] (bI K):=by
 walk_at "#sc_point_choices"
 .obtain⟨p,g,d,g_,C_,pp,gg,fx,L,gp,rfl,_⟩:=h;rfl
 .obtain⟨p,g,d,g_,C_,pp,gg,fx,L,gp,rfl,hp,hkp,npp,lpp,hg,hkg,ngg,lgg,pgp,ogp,hEq,hd,Vi,k⟩:=h;have lkp:g_.length=pp.length:=by have z:=MG List.length hkp;rwa [KW,KW,KW] at z
  have ngp:gp.Nodup:=pgp.nodup_iff.mpr ngg;have ZP:gp.length<=60:=by rw[pgp.length_eq,KW];exact lgg
  walk_at "@sc_point_choices 53Q8tv,00zc4ac5aA8;6image;51;psWVU41wf0mimage,look,web_looks;wLj'2Gm %~0b20001w00dCximage;42;p06f0mimage,name,fixed;L~66'0bH 91l02000304703"
  symm;intro c H1 nc m1 f1;symm;have Sn:=m1 _ _ hp;have ZQ:c≠p:=(d6 hp nc).symm;refine L8 Sn (λVj o1=>?_);refine eA (n:=g_.length) (λi σ H'=>∃(kvs:am) (v1 v2 v3:Option V),σ=[Re p,Re g,Re d,Re c,v1,v2,v3]/\Same (C7 p o1 g_ H) H'/\H' c=some (.dK kvs)/\ChAt H' (λx=>ue L gp fx x.1) kvs (pp.take i)) ⟨[],none,none,none,rfl,?_,?_,.nil⟩ (λi σ H' hi hp=>?_) ?_ ?_
  .exact se m1
  .rw[fD ZQ];exact f1
  .obtain⟨_,_,_,_,_,s,_⟩:=hp;exact⟨s _ _ b5,hi⟩
  .rintro bk B9 b_ i v σ H2' H2 hi ⟨kvs,v1,v2,v3,rfl,s2,SM,ch2⟩ ⟨t,kv,h_,nt,rfl,rfl⟩;refine b_ λ_ _=>?_;obtain⟨x,hx,ex⟩:=Bo hkp h_;obtain⟨kk,look⟩:=kv;have P_:kk=Sum.inr x.1:=ex;subst P_;have Qf:=Ln h_;obtain⟨H3,e3,f3,m3,_⟩:=u7 (o:= .tup _) nt;rw[e3];have s3:=s2.trans m3;have hg3:Rd H3 g (.dK C_):=((N4 hp).trans s3.le) _ _ rfl hg;have Ux:H3 d=some (.dK (i6 fx)):=s3 _ _ (by rw[fD Vi];exact hd);refine K2 (SqT.of f3) rfl ?_;exists D0 (ss:=gg.map (·.1)) hg3 hkg (by rw[KW];lia) (λg1 a1 a2 l4 H4 n4 m4 f4=>?_);have eg:g1=gp:=O5 a2 ogp (a1.nodup_iff.mpr ngg) (a1.trans pgp.symm);subst eg;refine C6 (SqL.of f4) ?_;refine B6 (n:=g1.length) (λi out H'=>H'=H4/\out=((g1.take i).filter λim=>L x.1 im).map V.str) ⟨rfl,rfl⟩ (λi out H' hi hp=>⟨g1.map V.str,.str (g1[i]),SqL.of (by rw[hp.1];exact f4),by rw[Lc,KY hi];rfl⟩) ?_ ?_
   .rintro B9 b_ N j v out H5 H5' hj ⟨rfl,rfl⟩ y;refine b_ λf_=>?_;obtain⟨rfl,hy⟩:=Itl.get y (SqL.of f4);rw[Lc] at hy;obtain⟨im,Sa,rfl⟩:=LB.mp hy;have m_:im∈gg.map (·.1):=a1.mem_iff.mp (Ln Sa);exists⟨rfl,?_⟩;symm;obtain⟨u,hu⟩:=AV (kvs:=C_) (k:=Sum.inr im) (by rw[hkg];exact KZ.mpr ⟨im,m_,rfl⟩);refine u4 (v:=u) (by have z:=J2 (k:=Sum.inr im) (m4.rd hg3);rw[hu] at z;exact z) ?_;exists GL (((hEq x.1 look im u Qf hu).mono (N4 hp)).mono (s3.trans m4).le) ?_;exists Y5 (λh1=>?_) (λh1=>?_)
    .exists⟨d8 (by rw[KW];have:=iH (p:=λim=>L x.1 im) (s:=g1) (i:=j);lia),f_ _ _ ⟨rfl,?_⟩⟩;rw[xo Sa h1,Lh];rfl
    .exact f_ _ _ ⟨rfl,by rw[tF Sa h1]⟩
   .rintro out H5 ⟨rfl,rfl⟩;refine⟨⟨_,SqL.of f4,by rw[KW];exact La _⟩,λD hD=>⟨d8 (by rw[KW];have:=iH (p:=λim=>L x.1 im) (s:=g1) (i:=g1.length);lia),?_⟩⟩;rw[Ll (La _)];obtain⟨H6,e6,f6,m6,_⟩:=u7 (H:=H5) (o:= .lst ((g1.filter λim=>L x.1 im).map V.str)) hD;generalize ZR:(g1.filter λim=>L x.1 im)=al at e6 f6⊢;have n_:al.length<=60:=by rw[←ZR];exact LJ (Lm _ _) ZP
    change ah _ _ _ (u9 H5 D _) _;rw[e6];exists C6 (SqL.of f6) ?_;refine B6 (n:=al.length) (λi out H'=>Same H6 H'/\out=((al.take i).filter (X7 fx x.1)).map V.str) ⟨Same.refl _,rfl⟩ (λi out H' hi hp=>⟨_,.str (al[i]),SqL.of (hp.1 _ _ f6),by rw[Lc,KY hi];rfl⟩) ?_ ?_
    .rintro B9 b_ N j v out H7 H7' hj ⟨s7,rfl⟩ y;refine b_ λf_=>?_;obtain⟨rfl,hy⟩:=Itl.get y (SqL.of (s7 _ _ f6));rw[Lc] at hy;obtain⟨im,Sa,rfl⟩:=LB.mp hy;exists⟨rfl,?_⟩;exists⟨d,x.1,im,fx,rfl,s7 _ _ (m6 _ _ (m4 _ _ Ux)),λH8 m8=>?_⟩;exists Y5 (λh1=>?_) (λh1=>?_)
     .exists⟨d8 (by rw[KW];have:=iH (p:=X7 fx x.1) (s:=al) (i:=j);lia),f_ _ _ ⟨s7.trans m8,?_⟩⟩;rw[xo Sa h1,Lh];rfl
     .exact f_ _ _ ⟨s7.trans m8,by rw[tF Sa h1]⟩
    .rintro out H7 ⟨s7,rfl⟩;refine⟨⟨_,SqL.of (s7 _ _ f6),by rw[KW];exact La _⟩,λD2 hD2=>⟨d8 (by rw[KW];have:=iH (p:=X7 fx x.1) (s:=al) (i:=al.length);lia),?_⟩⟩;rw[Ll (La _)];obtain⟨H8,e8,f8,m8,_⟩:=u7 (H:=H7) (o:= .lst ((al.filter (X7 fx x.1)).map V.str)) hD2;have ZS:=m4.trans (m6.trans (s7.trans m8));change BB _ _ (u9 H7 D2 _) _;rw[e8];have hc8:H8 c=some (.dK kvs):=ZS _ _ (m3 _ _ SM);have ZT:=LP ch2;rw[Lp] at ZT;exists P9 (C5 (k:=Sum.inr x.1) hc8 (d8 (by lia)) ?_);have fr:x.1∉(pp.take i).map (·.1):=λz=>by
      have e7:pp.take (i+1)=pp.take i++[x]:=by rw[LF,hx];rfl
      have w:((pp.take (i+1)).map (·.1)).Nodup:=npp.sublist ((MA _ _).map _);rw[e7,Lh] at w;exact(Ls.mp w).2.2 x.1 z x.1 (by simp) rfl
     have ek:F7 kvs (Sum.inr x.1:j0) (.ref D2)=kvs++[(Sum.inr x.1,.ref D2)]:=Q7 _ (P0 (by rw[ch2.keys];exact λm=>fr (Z0 m)));have ZU:(C7 p o1 g_ H) c=none:=by rw[fD ZQ];exact nc
     have cUp:∀{v:V} {l:xL},LstAt H8 v l->LstAt (u9 H8 c (.dK (kvs++[(Sum.inr x.1,V.ref D2)]))) v l:=fun{v l} ⟨a,ea,z⟩=>⟨a,ea,by rw[b7 (λq=>by rw[q,hc8] at z;cases z)];exact z⟩
     walk_at "X";refine⟨kvs++[(Sum.inr x.1,.ref D2)],_,_,_,rfl,E5 (s3.trans ZS) ZU,by rw[b5,ek],?_⟩;rw[ek,show pp.take (i+1)=pp.take i++[x] by rw[LF,hx];rfl];refine C8 (Paired.imp' (λ_ _ z=>⟨z.1,cUp (z.2.same (m3.trans ZS))⟩) ch2) ⟨rfl,cUp ⟨D2,rfl,?_⟩⟩;rw[f8];show _=some (HO.lst ((ue L g1 fx x.1).map V.str));unfold ue;rw[show(List.filter (L x.1) g1)=al from ZR]
  .rintro σ H2 ⟨kvs,v1,v2,v3,rfl,s2,SM,ch2⟩;refine⟨⟨s2 _ _ b5,La _⟩,?_⟩;symm;have ZV:thaw p H2 c=some (.dK kvs):=by rw[S8 ZQ];exact SM
   rw[Ll (by rw[lkp];exact La _)] at ch2;refine k c _ kvs nc (Same.thaw hp s2) ZV (Paired.imp' (λkv x z=>⟨z.1,?_⟩) ch2);obtain⟨a,ea,za⟩:=z.2;have hap:a≠p:=λq=>by rw[q,s2 _ _ b5] at za;cases za
   exact⟨a,ea,by rw[S8 hap];exact za⟩
abbrev k2 (a b:Str):List j0:=[Sum.inr a,Sum.inr b]
structure TH (HB H:Hp) (t:Addr) (kvs:List (List j0×V)) (F:Str->Str->xL):Prop where
 at_:H t=some (.dT kvs)
 no:∀a b,A8 kvs (k2 a b)=none->F a b=[]
 so:∀a b v,A8 kvs (k2 a b)=some v->∃l,v= .ref l/\H l=some (.lst ((F a b).map V.str))/\HB l=none
 inj:∀a b a' b' v,A8 kvs (k2 a b)=some v->A8 kvs (k2 a' b')=some v->a=a'/\b=b'
variable {kvs:List (List j0×V)}{F:Str->Str->xL}{HB:Hp}
def TH.same {H2:Hp}{t:Addr}(h:TH HB H t kvs F)(s:Same H H2):TH HB H2 t kvs F:=
 ⟨s _ _ h.at_,h.no,λa b v e=>let ⟨l,q,z,f⟩:=h.so a b v e;⟨l,q,s _ _ z,f⟩,h.inj⟩
variable {G:Str->Str->xL}
def TH.ext {t:Addr}(h:TH HB H t kvs F)(e:∀a b,G a b=F a b):TH HB H t kvs G:=by
 have:G=F:=funext λa=>funext λb=>e a b;rw[this];exact h
variable {l:Addr}{a' b' im:Str}
def TH.hit {t:Addr}(h:TH HB H t kvs F)(hv:A8 kvs (k2 a' b')=some (.ref l))(h1:G a' b'=F a' b'++[im])(h2:∀a b,¬(a=a'/\b=b')->G a b=F a b):
  TH HB (u9 H l (.lst ((F a' b').map V.str++[.str im]))) t kvs G:=by
 obtain⟨l',e',z',f'⟩:=h.so _ _ _ hv
 cases e'
 have Wf:t≠l:=λq=>by rw[←q,h.at_] at z';cases z'
 refine⟨by rw[b7 Wf];exact h.at_,λa b e=>?_,λa b v e=>?_,h.inj⟩
 .by_cases q:a=a'/\b=b'
  .rw[q.1,q.2,hv] at e;cases e
  .rw[h2 a b q];exact h.no a b e
 .by_cases q:a=a'/\b=b'
  .obtain⟨rfl,rfl⟩:=q
   rw[hv] at e
   cases e
   exact⟨l,rfl,by rw[b5,h1,Lh];rfl,f'⟩
  .obtain⟨l2,e2,z2,f2⟩:=h.so a b v e
   refine⟨l2,e2,?_,f2⟩
   have:l2≠l:=λw=>q (by
    rw[e2,w] at e;exact h.inj a b a' b' _ e hv)
   rw[b7 this,h2 a b q];exact z2
def TH.miss {t:Addr}(h:TH HB H t kvs F)(hv:A8 kvs (k2 a' b')=none)(hl:HB l=none)(i_:∀a b,A8 kvs (k2 a b)≠some (.ref l))(p_:l≠t)(h1:G a' b'=F a' b'++[im])(h2:∀a b,¬(a=a'/\b=b')->G a b=F a b):
  TH HB (u9 (u9 H t (.dT (F7 kvs (k2 a' b') (.ref l)))) l (.lst ([]++[.str im]))) t (F7 kvs (k2 a' b') (.ref l)) G:=by
 have hk:∀{a b:Str},¬(a=a'/\b=b')->k2 a b≠k2 a' b':=fun{a b} q w=>by
  have w1:=List.cons.inj w;have w2:=List.cons.inj w1.2;exact q ⟨MX w1.1,MX w2.1⟩
 refine⟨by rw[b7 p_.symm,b5],λa b e=>?_,λa b v e=>?_,λa b c d v e e'=>?_⟩
 .by_cases q:a=a'/\b=b'
  .rw[O0,if_pos (by rw[q.1,q.2])] at e;cases e
  .rw[O0,if_neg (hk q)] at e
   rw[h2 a b q];exact h.no a b e
 .by_cases q:a=a'/\b=b'
  .obtain⟨rfl,rfl⟩:=q
   rw[O0,if_pos rfl] at e
   cases e
   exact⟨l,rfl,by rw[b5,h1,h.no _ _ hv];rfl,hl⟩
  .rw[O0,if_neg (hk q)] at e
   obtain⟨l2,e2,z2,f2⟩:=h.so a b v e
   have w1:l2≠l:=λw=>i_ a b (by rw[e,e2,w])
   have w2:l2≠t:=λw=>by rw[w,h.at_] at z2;cases z2
   exact⟨l2,e2,by rw[b7 w1,b7 w2,h2 a b q];exact z2,f2⟩
 .by_cases q:a=a'/\b=b'
  .by_cases q':c=a'/\d=b'
   .exact⟨q.1.trans q'.1.symm,q.2.trans q'.2.symm⟩
   .rw[O0,if_pos (by rw[q.1,q.2])] at e
    rw[O0,if_neg (hk q')] at e'
    cases e
    exact absurd e' (i_ c d)
  .by_cases q':c=a'/\d=b'
   .rw[O0,if_pos (by rw[q'.1,q'.2])] at e'
    rw[O0,if_neg (hk q)] at e
    cases e'
    exact absurd e (i_ a b)
   .rw[O0,if_neg (hk q)] at e
    rw[O0,if_neg (hk q')] at e'
    exact h.inj a b c d v e e'
def PlAt (H:Hp)(v:V)(F:Str->Str->xL):Prop:=∃(t:Addr) (kvs:List (List j0×V)),v= .ref t/\H t=some (.dT kvs)/\(∀a b,A8 kvs (k2 a b)=none->F a b=[])/\∀a b v,A8 kvs (k2 a b)=some v->LstAt H v (F a b)
def PlAt.same (h:PlAt H v F)(s:Same H H'):PlAt H' v F:=
 let ⟨t,kvs,e,a,n,z⟩:=h;⟨t,kvs,e,s _ _ a,n,λx y v q=>(z x y v q).same s⟩
def PlsAt (H:Hp)(F:Str×N3->Str->Str->xL)(kvs:am)(ts:List (Str×N3)):Prop:=Paired (λkv x=>kv.1=Sum.inr x.1/\PlAt H kv.2 (F x)) kvs ts
variable {F:Str×N3->Str->Str->xL}
theorem PlsAt.keys:∀{kvs:am} {ts:List (Str×N3)},PlsAt H F kvs ts->kvs.map (·.1)=(ts.map (·.1)).map Sum.inr
 |_,_,.nil=>rfl
 |_,_,.cons a t=>by rw[Mg,a.1,PlsAt.keys t];rfl
variable {kvs:am}
def PlsAt.same (h:PlsAt H F kvs ts)(s:Same H H'):PlsAt H' F kvs ts:=Paired.imp' (λ_ _ z=>⟨z.1,z.2.same s⟩) h
variable {a:Addr}{w:HO}
theorem thaw_at (hq:H q=some (.frz o w))(ha:H a=some u)(hu:∀o' w',u≠ .frz o' w'):thaw q H a=some u:=by
 have:a≠q:=λz=>by rw[z,hq] at ha;cases ha;exact hu _ _ rfl
 rw[S8 this];exact ha
def LstAt.thaw {l:xL}(hq:H q=some (.frz o w))(h:LstAt H v l):LstAt (thaw q H) v l:=let ⟨a,e,z⟩:=h;⟨a,e,thaw_at hq z (λ_ _ z=>nomatch z)⟩
def PlAt.thaw {F:Str->Str->xL}(hq:H q=some (.frz o w))(h:PlAt H v F):PlAt (thaw q H) v F:=
 let ⟨t,kvs,e,a,n,z⟩:=h;⟨t,kvs,e,thaw_at hq a (λ_ _ z=>nomatch z),n,λx y v q=>(z x y v q).thaw hq⟩
def eY (K:Qd):Sp:=λvs H Q _=>∃(a p q a' p' q' d:Addr) (kvs e_:am) (Pc W:C3) (fx:xz) (gt:xL),vs=[.ref a,.ref a',.ref d]/\WebAt K H a p q kvs Pc/\H q=some (.dK kvs)/\(Pc.ts.map (·.1)).Nodup/\Pc.ts.length<=60/\WebAt K H a' p' q' e_ W/\(W.ts.map (·.1)).Nodup/\W.ts.length<=60/\gt.Perm (W.ts.map (·.1))/\sortedS gt=true/\H d=some (.dK (i6 fx))/\d≠q/\
 ∀(c:Addr) (H':Hp) (g_:am),H c=none->Same H H'->H' c=some (.dK g_)->PlsAt H' (λx a b=>ve W gt fx x.1 (x.2.1,a,b)) g_ Pc.ts->Q (.ref c) H'
variable {w:World}
abbrev gn:=λP w K mg base=>U8 P w K mg base J0 2 "tie_places" ["piece","web","fixed"] [] (eY K)
theorem mV {f fd}(T:Txt K mg)(bH:my P w K mg base)(F:Fun K "tie_places" "tie_places" bU f fd):E4 P w K mg base J0 2 f fd ["piece","web","fixed"] (eY K):=by
 walk_at "#sc_tie_places"
 .obtain⟨a,p,q,a',p',q',d,kvs,e_,Pc,W,fx,gt,rfl,_⟩:=h;rfl
 .obtain⟨a,p,q,a',p',q',d,kvs,e_,Pc,W,fx,gt,rfl,hP,hq,Ud,lP,hW,ndW,lW,pgt,ogt,hd,Vk,k⟩:=h;have lgt:gt.length<=60:=by rw[pgt.length_eq,KW];exact lW
  have RA:=hP.ts.length;walk_at "@sc_tie_places 53Q8tv,20zc4ac5aA56'0JU 8tvpsWVU321f7a58h2107doyXju2825~66'0bH 94l72dIHR#ZYH+'0PySem.F.slot_dict_setdefault '0PySem.F.type_dict_setdefault '1eT ~006g)08&1-E47dC060304703"
  symm;intro c H1 nc m1 f1;have hcq:c≠q:=(d6 hq nc).symm;exists j6 (m1.tup hP.tup) ?_;refine L8 (m1 _ _ hq) (λTp o1=>?_);refine eA (n:=kvs.length) (λi σ H'=>∃(g_:am) (v1 v2 v3 v4 v5:Option V),σ=[Re a,Re a',Re d,Re c,v1,v2,v3,v4,v5]/\Same (C7 q o1 kvs H) H'/\H' c=some (.dK g_)/\PlsAt H' (λx a b=>ve W gt fx x.1 (x.2.1,a,b)) g_ (Pc.ts.take i)) ⟨[],none,none,none,none,none,rfl,se m1,by rw[fD hcq];exact f1,.nil⟩ (λi σ H' hi hp=>?_) ?_ ?_
  .obtain⟨_,_,_,_,_,_,_,s,_⟩:=hp;exact⟨s _ _ b5,hi⟩
  .rintro bk B9 b_ i v σ H2' H2 hi ⟨g_,v1,v2,v3,v4,v5,rfl,s2,SM,Vl⟩ ⟨t,kv,h_,nt,rfl,rfl⟩;refine b_ λ_ _=>?_;obtain⟨H3,e3,f3,m3,_⟩:=u7 (o:= .tup _) nt;rw[e3];have s3:=s2.trans m3;have SN:=(N4 (o:=o1) hq).trans s3.le;have P3:=hP.mono SN;have W3:=hW.mono SN;have Ux:H3 d=some (.dK (i6 fx)):=s3 _ _ (by rw[fD Vk];exact hd);obtain⟨x,hx,ex,tb,eb,sb⟩:=P3.ts.get h_;obtain⟨kk,Ss⟩:=kv;have P_:kk=Sum.inr x.1:=ex;have Su:Ss= .ref tb:=eb;subst P_ Su;refine K2 (SqT.of f3) rfl ?_;symm;intro th nth;obtain⟨H4,e4,f4,m4,_⟩:=u7 (o:= .dT []) nth;rw[e4];exists j6 (m4.tup W3.tup) ?_;exists D0 (ss:=W.ts.map (·.1)) (m4.rd W3.ties) (by rw[W3.ts.keys,C9]) (by rw[KW];lia) (λg1 a1 a2 l5 H5 n5 m5 f5=>?_);have eg:g1=gt:=O5 a2 ogt (a1.nodup_iff.mpr ndW) (a1.trans pgt.symm);subst eg;refine C6 (SqL.of f5) ?_;have hl5:H3 l5=none:=m4.free n5;refine eA (n:=g1.length) (λj σ H'=>∃(kt:List (List j0×V)) (w1 w2:Option V),σ=[Re a,Re a',Re d,Re c,some (.str x.1),Re tb,Re th,w1,w2]/\Same H3 H'/\H' l5=some (.lst (g1.map V.str))/\kt.length<=j/\(∀A B,A8 kt (k2 A B)≠some (.ref l5))/\TH H3 H' th kt λA B=>(g1.take j).filter λim=>decide (O1 W.ts im=(x.2.1,A,B))&&X7 fx x.1 im) ⟨[],v4,v5,rfl,m4.trans m5,f5,La _,(λ_ _ z=>nomatch z),⟨m5 _ _ f4,(λ_ _ _=>rfl),(λ_ _ _ z=>nomatch z),λ_ _ _ _ _ z _=>nomatch z⟩⟩ (λj σ H' hj hp=>?_) ?_ ?_
   .obtain⟨_,_,_,_,_,z,_⟩:=hp;walk_at "X";exact⟨g1.map V.str,.str (g1[j]),SqL.of z,by rw[Lc,KY hj];rfl⟩
   .rintro bk2 B9 b_ j v σ H6' H6 hj ⟨kt,w1,w2,rfl,s6,Vm,lk6,nl6,th6⟩ y;refine b_ λ_ _=>?_;obtain⟨rfl,hy⟩:=Itl.get y (SqL.of Vm);rw[Lc] at hy;obtain⟨im,Sa,rfl⟩:=LB.mp hy;have m_:im∈W.ts.map (·.1):=a1.mem_iff.mp (Ln Sa);have W6:=W3.mono s6.le;obtain⟨aa,hv,hT⟩:=ir W6.ts ndW (dN m_);generalize ZW:O1 W.ts im=to at hT;obtain⟨t1,t2,t3⟩:=to;exists j6 W6.tup ?_;exists u4 (v:= .ref aa) (by have z:=J2 (k:=Sum.inr im) W6.ties;rw[hv] at z;exact z) ?_;exists k8 hT ?_;exists k8 (s6.tup sb) ?_;symm;have stay:(∀A B,(decide (O1 W.ts im=(x.2.1,A,B))&&X7 fx x.1 im)=false)->∀H7,Same H6 H7->∃(kt:List (List j0×V)) (w1 w2:Option V),[Re a,Re a',Re d,Re c,some (.str x.1),Re tb,Re th,some (.str im),Re aa]=[Re a,Re a',Re d,Re c,some (.str x.1),Re tb,Re th,w1,w2]/\Same H3 H7/\H7 l5=some (.lst (g1.map V.str))/\kt.length<=j+1/\(∀A B,A8 kt (k2 A B)≠some (.ref l5))/\TH H3 H7 th kt λA B=>(g1.take (j+1)).filter λim=>decide (O1 W.ts im=(x.2.1,A,B))&&X7 fx x.1 im:=λhf H7 m7=>
     ⟨kt,_,_,rfl,s6.trans m7,m7 _ _ Vm,by lia,nl6,(th6.same m7).ext λA B=>tF Sa (hf A B)⟩
    refine J6 (λh1=>?_) (λh1=>?_)
    .exists⟨d,x.1,im,fx,rfl,s6 _ _ Ux,λH7 m7=>?_⟩;exists Y5 (λh2=>?_) (λh2=>?_)
     .symm;have ZX:=th6.same m7;refine⟨.inr (.inr (.inl ⟨rfl,.inr ⟨_,ZX.at_⟩⟩)),?_⟩;exists ic (m7.tup hT) (by rintro⟨z,_⟩;exact absurd (show(1:Nat)=0 from z) (by decide)) (λl8 n8=>?_);obtain⟨H8,e8,f8,m8,_⟩:=u7 (o:= .tup [.str t2,.str t3]) n8;rw[show bj (ao (t1,t2,t3)) (some 1) none=[V.str t2,.str t3] from rfl,e8];exists⟨d8 (by simp),λl9 H9 n9 m9 f9=>?_⟩;have Wg:=ZX.same (m8.trans m9);have s39:=s6.trans (m7.trans (m8.trans m9));have hl9:H3 l9=none:=(s6.trans (m7.trans m8)).free n9;have Uk:=(m7.trans (m8.trans m9)) _ _ Vm;have RY:((g1.take (j+1)).filter λim=>decide (O1 W.ts im=(x.2.1,t2,t3))&&X7 fx x.1 im)=((g1.take j).filter λim=>decide (O1 W.ts im=(x.2.1,t2,t3))&&X7 fx x.1 im)++[im]:=xo Sa (by rw[ZW,h2,LA (by rw[show t1=x.2.1 from h1])];rfl);have RZ:∀A B,¬(A=t2/\B=t3)->((g1.take (j+1)).filter λim=>decide (O1 W.ts im=(x.2.1,A,B))&&X7 fx x.1 im)=((g1.take j).filter λim=>decide (O1 W.ts im=(x.2.1,A,B))&&X7 fx x.1 im):=λA B i_=>tF Sa (by
       rw[ZW,LM (λz=>i_ ?_)];rfl;have z2:=(Ni z).2;walk_at "X";exact⟨(Ni z2).1.symm,(Ni z2).2.symm⟩)
      refine⟨th,l8,kt,k2 t2 t3,.ref l9,rfl,rfl,Wg.at_,m9 _ _ f8,d8 (by lia),?_⟩;cases hvk:A8 kt (k2 t2 t3) with
      |some v=>
       obtain⟨l,rfl,hl,ZY⟩:=Wg.so _ _ _ hvk
       refine⟨.inl ⟨rfl,_,SqL.of hl⟩,?_⟩
       symm
       refine⟨l,_,.str im,rfl,rfl,hl,d8 (by rw[KW];have:=iH (p:=λim=>decide (O1 W.ts im=(x.2.1,t2,t3))&&X7 fx x.1 im) (s:=g1) (i:=j);lia),?_⟩
       have Xh:l5≠l:=λz=>nl6 t2 t3 (by rw[hvk,z])
       walk_at "X"
       exact⟨kt,_,_,rfl,E5 s39 ZY,by rw[b7 Xh];exact Uk,by lia,nl6,Wg.hit hvk RY RZ⟩
      |none=>
       have p_:l9≠th:=λz=>by rw[z,Wg.at_] at f9;cases f9
       have i_:∀A B,A8 kt (k2 A B)≠some (.ref l9):=λA B z=>by
        obtain⟨l,e,hl,_⟩:=(ZX.same m8).so _ _ _ z;cases e;rw[n9] at hl;cases hl
       have h59:l5≠l9:=λz=>by
        have:=(m7.trans m8) _ _ Vm;rw[z,n9] at this;cases this
       have h5t:l5≠th:=λz=>by rw[z,Wg.at_] at Uk;cases Uk
       refine⟨.inl ⟨rfl,[],SqL.of (by rw[b7 p_];exact f9)⟩,?_⟩
       symm
       refine⟨l9,[],.str im,rfl,rfl,by rw[b7 p_];exact f9,d8 (by simp),?_⟩
       have ZZ:H3 th=none:=nth
       walk_at "X"
       refine⟨F7 kt (k2 t2 t3) (.ref l9),_,_,rfl,E5 (E5 s39 ZZ) hl9,by rw[b7 h59,b7 h5t];exact Uk,?_,λA B z=>?_,Wg.miss hvk hl9 i_ p_ RY RZ⟩
       .have:=R5 kt (k2 t2 t3) (.ref l9);lia
       .rw[O0] at z
        split at z
        .cases z;exact h59 rfl
        .exact nl6 A B z
     .symm;exact stay (λA B=>by rw[h2,Bool.and_false]) H7 m7
    .symm;exact stay (λA B=>by rw[ZW,LM (λz=>h1 (Ni z).1)];rfl) H6 (Same.refl _)
   .rintro σ H6 ⟨kt,w1,w2,rfl,s6,Vm,lk6,nl6,th6⟩;refine⟨⟨_,SqL.of Vm,by rw[KW];exact La _⟩,?_⟩;rw[Ll (La _)] at th6;have Z_:H6 c=some (.dK g_):=s6 _ _ (m3 _ _ SM);have ZT:=LP Vl;rw[Lp] at ZT;exists P9 (C5 (k:=Sum.inr x.1) Z_ (d8 (by lia)) ?_);have e7:Pc.ts.take (i+1)=Pc.ts.take i++[x]:=by rw[LF,hx];rfl
    have fr:x.1∉(Pc.ts.take i).map (·.1):=λz=>by
     have w:((Pc.ts.take (i+1)).map (·.1)).Nodup:=Ud.sublist ((MA _ _).map _);rw[e7,Lh] at w;exact(Ls.mp w).2.2 x.1 z x.1 (by simp) rfl
    have ek:F7 g_ (Sum.inr x.1:j0) (.ref th)=g_++[(Sum.inr x.1,.ref th)]:=Q7 _ (P0 (by rw[Vl.keys];exact λm=>fr (Z0 m)));have ZU:(C7 q o1 kvs H) c=none:=by rw[fD hcq];exact nc
    have cL:∀{v:V} {l:xL},LstAt H6 v l->LstAt (u9 H6 c (.dK (g_++[(Sum.inr x.1,V.ref th)]))) v l:=fun{v l} ⟨a,ea,z⟩=>⟨a,ea,by rw[b7 (λq=>by rw[q,Z_] at z;cases z)];exact z⟩
    have cP:∀{v:V} {F:Str->Str->xL},PlAt H6 v F->PlAt (u9 H6 c (.dK (g_++[(Sum.inr x.1,V.ref th)]))) v F:=fun{v F} ⟨t,kk,e,z,n,so⟩=>⟨t,kk,e,by rw[b7 (λq=>by rw[q,Z_] at z;cases z)];exact z,n,λA B v e=>cL (so A B v e)⟩
    walk_at "X";refine⟨g_++[(Sum.inr x.1,.ref th)],_,_,_,_,_,rfl,E5 (s3.trans s6) ZU,by rw[b5,ek],?_⟩;rw[ek,e7];refine C8 (Paired.imp' (λ_ _ z=>⟨z.1,cP (z.2.same (m3.trans s6))⟩) Vl) ⟨rfl,cP ⟨th,kt,rfl,th6.at_,th6.no,λA B v e=>?_⟩⟩;obtain⟨l,e1,e2,_⟩:=th6.so A B v e;walk_at "X";exact⟨l,e1,e2⟩
  .rintro σ H2 ⟨g_,v1,v2,v3,v4,v5,rfl,s2,SM,Vl⟩;refine⟨⟨s2 _ _ b5,La _⟩,?_⟩;symm;have Wh:H2 q=some (.frz o1 (.dK kvs)):=s2 _ _ b5;rw[Ll (by lia)] at Vl;exact k c _ g_ nc (Same.thaw hq s2) (thaw_at Wh SM (λ_ _ z=>nomatch z)) (Paired.imp' (λkv x z=>⟨z.1,z.2.thaw Wh⟩) Vl)
def dZ (fx:xz)(n:Str):Bool:=!decide (n∈fx.map (·.1))
def EF {td ty tx:TE}(q:td σ H λx H1=>∃a,x= .ref a/\HD H1 a/\ty σ H1 λy H2=>tx σ H2 λz H3=>∃o,DGet H3 a y o/\Q (o.getD z) H3):uf td ty tx σ H Q:=q
abbrev LsAt (H:Hp)(xs:ap)(ls:ZB):Prop:=Paired (LstAt H) xs ls
variable {ls:ZB}
def LsAt.same (h:LsAt H xs ls)(s:Same H H'):LsAt H' xs ls:=Paired.imp' (λ_ _ z=>z.same s) h
theorem oE:∀l d:xL,V1 (l.map V.str) (d.map V.str)=decide (l=d)
 |[],[]=>rfl
 |[],_::_=>by simp [V1]
 |_::_,[]=>by simp [V1]
 |x::l,y::d=>by
  show(eV (.str x) (.str y)&&V1 (l.map V.str) (d.map V.str))=_;rw[oE l d,Mh];simp [eV]
def uR (H:Hp):V->ap
 | .ref a=>match H a with
  |some (.lst xs)=>xs
  |_=>[]
 |_=>[]
def qU {l:xL}(h:LstAt H v l):uR H v=l.map V.str:=by
 obtain⟨a,rfl,z⟩:=h;show(match H a with|some (.lst xs)=>xs|_=>[])=_;rw[z]
theorem rD {H:Hp}{d:xL}:∀{xs:ap} {ls:ZB},LsAt H xs ls->xs.countP (λz=>V1 (uR H z) (d.map V.str))=ls.count d
 |_,_,.nil=>rfl
 |_,l::_,.cons a t=>by
  rw[PX,List.count_cons,rD t,qU a,oE];by_cases e:l=d
  .rw[if_pos (LA e),if_pos (by simpa using e)]
  .rw[if_neg (by rw[LM e];decide),if_neg (by simpa using e)]
def oG (K:Qd):Sp:=λvs H Q _=>∃(l:Addr) (xs:ap) (ls:ZB),vs=[.ref l]/\H l=some (.lst xs)/\LsAt H xs ls/\ls.length<=60/\∀H',Same H H'->Q (.bl (ye ls)) H'
abbrev ma:=λP w K mg base=>U8 P w K mg base J0 1 "enough" ["lists"] [] (oG K)
theorem wF {f fd}(T:Txt K mg)(F:Fun K "enough" "enough" kM f fd):E4 P w K mg base J0 1 f fd ["lists"] (oG K):=by
 walk_at "#sc_enough"
 .obtain⟨l,xs,ls,rfl,_⟩:=h;rfl
 .obtain⟨l,xs,ls,rfl,hl,hx,hn,k⟩:=h;have t_:=LP hx;walk_at "@sc_enough 7s`_^3xdrawn;0;p00f0mdrawn,lists;GN'0Ic HR'0PySem.F.slot_list_count '0PySem.F.type_list_count '2jF %~00140k40";exists C6 (SqL.of hl) ?_;refine B6 (n:=xs.length) (λi out H'=>H'=H/\out=(ls.take i).map λd=>V.bl (decide (ls.count d<=d.length))) ⟨rfl,rfl⟩ (λi out H' hi hp=>⟨xs,xs[i],SqL.of (by rw[hp.1];exact hl),KY hi⟩) ?_ ?_
  .rintro B9 b_ N i v out H1' H1 hi ⟨rfl,rfl⟩ y;refine b_ λf_=>?_;obtain⟨rfl,hy⟩:=Itl.get y (SqL.of hl);obtain⟨d,hd,a,rfl,hda⟩:=P6 hx hy;exists⟨rfl,?_⟩;exists⟨.inl ⟨rfl,_,SqL.of hl⟩,?_⟩;exists⟨l,xs,.ref a,λz=>V1 (uR H1 z) (d.map V.str),rfl,rfl,hl,λz hz=>?_,?_⟩
   .obtain⟨j,hj⟩:=MT hz;obtain⟨e,he,b,rfl,hb⟩:=P6 hx hj;exact⟨b,a,_,_,rfl,rfl,SqL.of hb,SqL.of hda,V5 _,V5 _,by show V1 (uR H1 (V.ref b)) _=_;rw[qU ⟨b,rfl,hb⟩]⟩
   .rw[rD hx];exists F0 (p0 (SqL.of hda) ?_);rw[KW];exists⟨d8 (by rw[KW,Lp];lia),f_ _ _ ⟨rfl,?_⟩⟩;have e:decide ((ls.count d:Int)<=(d.length:Int))=decide (ls.count d<=d.length):=by rw[Mh];simp
    rw[e];exact N5 (λd=>V.bl (decide (ls.count d<=d.length))) hd
  .rintro out H1 ⟨rfl,rfl⟩;refine⟨⟨_,SqL.of hl,La _⟩,λD hD=>⟨d8 (by rw[KW,Lp];lia),?_⟩⟩;rw[Ll (by lia)];obtain⟨H2,e2,f2,m2,_⟩:=u7 (H:=H1) (o:= .lst (ls.map λd=>V.bl (decide (ls.count d<=d.length)))) hD;symm;change xy K _ (u9 H1 D _) _;rw[e2];refine nz (bs:=ls.map λd=>decide (ls.count d<=d.length)) (SqL.of (by rw[f2,LY];rfl)) ?_;have e:(ls.map λd=>decide (ls.count d<=d.length)).all id=ye ls:=by unfold ye;rw[Nk];rfl
   rw[e];exact k H2 m2
structure Sx (K:Qd) (H:Hp) (a p q c pl:Addr) (kvs A_ g_:am) (L:Str->Str->Bool) (Pc W:C3) (s1 s2 gp gt:xL) (fx:xz):Prop where
 S:SrchP L Pc W s1 s2 gp gt fx
 at_:WebAt K H a p q kvs Pc
 hq:H q=some (.dK kvs)
 l1:(b9 Pc).length<=60
 l2:(b9 W).length<=60
 big:((b9 Pc).length+1)*(max W.pts.length W.ts.length+1) ^ ((b9 Pc).filter (dZ fx)).length<=7000000
 hc:H c=some (.dK A_)
 ch:ChAt H (λx=>ue L gp fx x.1) A_ Pc.pts
 hl:H pl=some (.dK g_)
 pls:PlsAt H (λx a b=>ve W gt fx x.1 (x.2.1,a,b)) g_ Pc.ts
variable {L:Str->Str->Bool}{pl:Addr}{g_:am}{Pc:C3}{gp gt:xL}{fx:xz}
def Sx.same {c:Addr}{A_:am}{s1 s2:xL}(h:Sx K H a p q c pl kvs A_ g_ L Pc W s1 s2 gp gt fx)(s:Same H H'):Sx K H' a p q c pl kvs A_ g_ L Pc W s1 s2 gp gt fx:=
 ⟨h.S,h.at_.mono s.le,s _ _ h.hq,h.l1,h.l2,h.big,s _ _ h.hc,h.ch.same s,s _ _ h.hl,h.pls.same s⟩
def rM {R : V -> Str × α -> Prop} : ∀ {kvs : List (j0 × V)} {ts : List (Str × α)} {x : Str × α}, Paired (λkv x => kv.1 = Sum.inr x.1 /\ R kv.2 x) kvs ts -> (ts.map (·.1)).Nodup -> x ∈ ts -> ∃ v, A8 kvs (Sum.inr x.1 : j0) = some v /\ R v x
 := by
  intro kvs ts x hp nd hx;induction hp with
  | nil => cases hx
  | @cons kv y r ts a t ih =>
    have nd' := Mt.mp (show (y.1 :: ts.map (·.1)).Nodup from nd)
    rcases LZ.mp hx with z | z
    . subst z
      exact ⟨kv.2, K9 a.1, a.2⟩
    . obtain ⟨v, h1, h2⟩ := ih nd'.2 z
      refine ⟨v, ?_, h2⟩
      rw [K6 (by rw [a.1]; exact λe => nd'.1 (KZ.mpr ⟨x, z, (MX e).symm⟩))]; exact h1
def dP (K:Qd):Sp:=λvs H Q _=>∃(a p q c pl d:Addr) (kvs A_ g_ kvm:am) (L:Str->Str->Bool) (Pc W:C3) (s1 s2 gp gt:xL) (fx:xz) (x:Str×N3),vs=[.ref a,.ref pl,.ref d,.str x.1]/\Sx K H a p q c pl kvs A_ g_ L Pc W s1 s2 gp gt fx/\x∈Pc.ts/\Rd H d (.dK kvm)/\TxtAt kvm x.2.2.1/\TxtAt kvm x.2.2.2/\
 ∀(v:V) (H':Hp),Same H H'->LstAt H' v (ve W gt fx x.1 (x.2.1,i8 kvm x.2.2.1,i8 kvm x.2.2.2))->Q v H'
abbrev bz:=λP w K mg base=>U8 P w K mg base J0 2 "tie_choices" ["piece","places","put","name"] [] (dP K)
def mD {f fd}(T:Txt K mg)(J5:Z4 P w K mg base)(F:Fun K "tie_choices" "tie_choices" bu f fd):E4 P w K mg base J0 2 f fd ["piece","places","put","name"] (dP K):=by
 walk_at "#sc_tie_choices"
 .obtain⟨a,p,q,c,pl,d,kvs,A_,g_,kvm,L,Pc,W,s1,s2,gp,gt,fx,x,rfl,_⟩:=h;rfl
 .obtain⟨a,p,q,c,pl,d,kvs,A_,g_,kvm,L,Pc,W,s1,s2,gp,gt,fx,x,rfl,X0,hx,hd,t1,t2,k⟩:=h;obtain⟨aa,hv,hT⟩:=ir X0.at_.ts (O4 X0.S.nd) (show(x.1,x.2)∈Pc.ts from hx);walk_at "@sc_tie_choices 54)6'0J5 qh200342&1-7~xb10304E"
  exists j6 X0.at_.tup ?_;exists u4 (v:= .ref aa) (by have z:=J2 (k:=Sum.inr x.1) X0.at_.ties;rw[hv] at z;exact z) ?_;exists⟨aa,d,x.2,kvm,rfl,hT,hd,t1,t2,λl1 H1 n1 m1 f1=>?_⟩;exists ic (SqT.of f1) (by rintro⟨z,_⟩;exact absurd (show(1:Nat)=0 from z) (by decide)) (λl2 n2=>?_);obtain⟨H2,e2,f2,m2,_⟩:=u7 (o:= .tup [.str (i8 kvm x.2.2.1),.str (i8 kvm x.2.2.2)]) n2;rw[show bj (ao (x.2.1,i8 kvm x.2.2.1,i8 kvm x.2.2.2)) (some 1) none=[V.str (i8 kvm x.2.2.1),.str (i8 kvm x.2.2.2)] from rfl,e2];have X2:=X0.same (m1.trans m2);obtain⟨v,Ra,t,kt,rfl,ht,i_,hso⟩:=rM (R:=λv (x:Str×N3)=>PlAt H2 v λa b=>ve W gt fx x.1 (x.2.1,a,b)) (show Paired _ _ _ from X2.pls) (O4 X0.S.nd) hx;exists EF ?_;exists u4 (v:= .ref t) (by have z:=J2 (k:=Sum.inr x.1) (.inl X2.hl);rw[Ra] at z;exact z) ?_;refine⟨t,rfl,.inr ⟨_,.inl ht⟩,?_⟩;exists⟨d8 (by simp),λl3 H3 n3 m3 f3=>?_⟩;refine⟨_,DGet.t (k:=k2 (i8 kvm x.2.2.1) (i8 kvm x.2.2.2)) (m3 _ _ ht) (m3 _ _ f2),?_⟩;have Rh:=m1.trans (m2.trans m3);cases hvk:A8 kt (k2 (i8 kvm x.2.2.1) (i8 kvm x.2.2.2)) with
  |none=>exact k _ H3 Rh ⟨l3,rfl,by rw[f3];have z:=i_ _ _ hvk;dsimp only at z;rw[z];rfl⟩
  |some v=>exact k _ H3 Rh ((hso _ _ _ hvk).same m3)
theorem gU:∀{nm b:xL} {n x:Str},nm[b.length]?=some n->nm.zip (b++[x])=nm.zip b++[(n,x)]
 |[],b,n,x,h=>by simp at h
 |m::nm,[],n,x,h=>by
  have e:m=n:=by simpa using h
  subst e;simp
 |m::nm,y::b,n,x,h=>by
  have z:=gU (nm:=nm) (b:=b) (n:=n) (x:=x) (by simpa using h);show(m,y)::nm.zip (b++[x])=(m,y)::nm.zip b++[(n,x)];rw[z];rfl
def vv (nm:xL):nm.map V.str=(nm.map (Sum.inr:Str->j0)).map kV:=by rw[LY];rfl
variable {b:xL}
def sh {nm:xL}(nd:nm.Nodup):bE ((nm.map (Sum.inr:Str->j0)).zip (b.map V.str))=i6 (nm.zip b):=by
 have e:(nm.map (Sum.inr:Str->j0)).zip (b.map V.str)=i6 (nm.zip b):=by rw[List.zip_map];rfl
 rw[e,aB];rw[K5,←C9];exact NU _ (λa b h z=>h (MX z)) (kZ b nd)
def oU {mm:xz}(h:n∈mm.map (·.1)):TxtAt (i6 mm) n:=⟨_,qY h⟩
def pZ {nm:xL}(h:nm[i]?=some n)(hi:i<b.length):n∈(nm.zip b).map (·.1):=KZ.mpr ⟨(n,b[i]),kc h (KY hi),rfl⟩
def vV {nm:xL}(nd:nm.Nodup)(h:nm[b.length]?=some n):n∉(nm.zip b).map (·.1):=λz=>by
 have w:=kZ (b++[n]) nd;rw[gU h,Lh] at w;exact(Ls.mp w).2.2 n z n (by simp) rfl
def jy (K:Qd):Sp:=λvs H Q _=>∃(a p q c pl d:Addr) (kvs A_ g_:am) (L:Str->Str->Bool) (Pc W:C3) (s1 s2 gp gt:xL) (fx mm:xz) (n im:Str),vs=[.ref a,.ref pl,.ref d,.str n,.str im]/\Sx K H a p q c pl kvs A_ g_ L Pc W s1 s2 gp gt fx/\H d=some (.dK (i6 mm))/\mm.length<=60/\n∉mm.map (·.1)/\
 (∀x∈dS Pc.ts n,x.2.2.1∈(mm++[(n,im)]).map (·.1)/\x.2.2.2∈(mm++[(n,im)]).map (·.1))/\
 ∀H',Same H H'->Q (.bl (ye ((dS Pc.ts n).map λx=>ve W gt fx x.1 (x.2.1,i8 (i6 (mm++[(n,im)])) x.2.2.1,i8 (i6 (mm++[(n,im)])) x.2.2.2)))) H'
def Hc {p:α->Bool}{s:List α}{x:α}(h:s[i]?=some x)(hp:p x=true):(s.take (i+1)).filter p=(s.take i).filter p++[x]:=by
 rw[LF,h,LO];show _++List.filter p [x]=_;rw[LV hp];rfl
def Gs {p:α->Bool}{s:List α}{x:α}(h:s[i]?=some x)(hp:p x=false):(s.take (i+1)).filter p=(s.take i).filter p:=by
 rw[LF,h,LO];show _++List.filter p [x]=_;rw[Md (by rw[hp];decide)];simp
theorem CD {p:α->Bool}{s:List α}:((s.take i).filter p).length<=s.length:=LJ (Lm _ _) (by rw[Lp];lia)
abbrev lZ:=λP w K mg base=>U8 P w K mg base J0 3 "has_room" ["piece","places","put","name","image"] [] (jy K)
theorem rK {f fd}(T:Txt K mg)(bJ:ma P w K mg base)(Q4:bz P w K mg base)(F:Fun K "has_room" "has_room" fG f fd):E4 P w K mg base J0 3 f fd ["piece","places","put","name","image"] (jy K):=by
 walk_at "#sc_has_room"
 .obtain⟨a,p,q,c,pl,d,kvs,A_,g_,L,Pc,W,s1,s2,gp,gt,fx,mm,n,im,rfl,_⟩:=h;rfl
 .obtain⟨a,p,q,c,pl,d,kvs,A_,g_,L,Pc,W,s1,s2,gp,gt,fx,mm,n,im,rfl,X0,hd,lm,nn,he,k⟩:=h;have RA:=X0.at_.ts.length;have l1:=X0.l1;rw[C0] at l1;walk_at "@sc_has_room 55F428C0405038;6tie,told;3;,20wzc0mtie,told,name;c1mtie,told,name;AwLjus'2HI %M'0T.b_max '0Boot.«max» 3)01&1-02w0076'0bJ 3xtie;015;p06f0mtie,piece,places,longer;G6'0Q4 9192l30"
  exists F8 (.inl hd) (λl1 H1 n1 m1 f1=>?_);exists P9 (C5 (k:=Sum.inr n) f1 (d8 (by rw[k9];lia)) ?_);rw[BI nn];have f2:(u9 H1 l1 (.dK (i6 (mm++[(n,im)])))) l1=some (.dK (i6 (mm++[(n,im)]))):=b5;have m2:Same H (u9 H1 l1 (.dK (i6 (mm++[(n,im)])))):=E5 m1 n1;generalize u9 H1 l1 (.dK (i6 (mm++[(n,im)])))=H2 at f2 m2⊢;have X2:=X0.same m2;exists j6 X2.at_.tup ?_;refine L8 X2.hq (λTp o3=>?_);refine B6 (n:=kvs.length) (λi out H'=>Same (C7 q o3 kvs H2) H'/\out=((Pc.ts.take i).filter λx=>decide (Cm x.2.2.1 x.2.2.2=n)).map λx=>V.str x.1) ⟨Same.refl _,rfl⟩ (λi out H' hi hp=>⟨hp.1 _ _ b5,hi⟩) ?_ ?_
  .rintro B9 b_ N i v out To H3 hi ⟨s3,rfl⟩ ⟨t,kv,h_,nt,rfl,rfl⟩;refine b_ λf_=>?_;obtain⟨H4,e4,f4,m4,_⟩:=u7 (o:= .tup _) nt;rw[e4];have Sv:=(N4 (o:=o3) X2.hq).trans (s3.trans m4).le;have P4:=X2.at_.mono Sv;obtain⟨x,hx,ex,tb,eb,sb⟩:=P4.ts.get h_;obtain⟨kk,Ss⟩:=kv;have P_:kk=Sum.inr x.1:=ex;have Su:Ss= .ref tb:=eb;subst P_ Su;refine K2 (SqT.of f4) rfl ?_;exists⟨rfl,?_⟩;exists ic sb (by rintro⟨z,_⟩;exact absurd (show(1:Nat)=0 from z) (by decide)) (λl5 n5=>?_);obtain⟨H5,e5,f5,m5,_⟩:=u7 (o:= .tup [.str x.2.2.1,.str x.2.2.2]) n5;rw[show bj (ao x.2) (some 1) none=[V.str x.2.2.1,.str x.2.2.2] from rfl,e5];exists Dx (SqT.of f5) ?_;symm;rw[show(if x.2.2.1.cps.toList<x.2.2.2.cps.toList then x.2.2.2 else x.2.2.1)=Cm x.2.2.1 x.2.2.2 from rfl];refine J6 (λh1=>?_) (λh1=>?_)
   .exists⟨d8 (by rw[KW];have:=CD (p:=λx:Str×N3=>decide (Cm x.2.2.1 x.2.2.2=n)) (s:=Pc.ts) (i:=i);lia),f_ _ _ ⟨s3.trans (m4.trans m5),?_⟩⟩;rw[Hc hx (LA h1),Lh];rfl
   .exact f_ _ _ ⟨s3.trans (m4.trans m5),by rw[Gs hx (LM h1)]⟩
  .rintro out H3 ⟨s3,rfl⟩;refine⟨⟨s3 _ _ b5,La _⟩,λD hD=>⟨d8 (by rw[KW];have:=CD (p:=λx:Str×N3=>decide (Cm x.2.2.1 x.2.2.2=n)) (s:=Pc.ts) (i:=kvs.length);lia),?_⟩⟩;rw[Ll (by lia)];change ah _ _ _ (thaw q (u9 H3 D (.lst ((dS Pc.ts n).map λx=>V.str x.1)))) _;have sM:=P8 X2.hq s3 hD (u:= .lst ((dS Pc.ts n).map λx=>V.str x.1));have fM:=ae s3 hD (u:= .lst ((dS Pc.ts n).map λx=>V.str x.1));generalize thaw q (u9 H3 D (.lst ((dS Pc.ts n).map λx=>V.str x.1)))=HM at sM fM⊢;have XM:=X2.same sM;have Xi:∀x∈dS Pc.ts n,x∈Pc.ts:=λx hx=>(Lo.mp hx).1;have Ql:(dS Pc.ts n).length<=60:=LJ (Lm _ _) (by lia);generalize dS Pc.ts n=due at fM Xi Ql he k;exists C6 (SqL.of fM) ?_;refine B6 (n:=due.length) (λi out H'=>Same HM H'/\LsAt H' out ((due.take i).map λx=>ve W gt fx x.1 (x.2.1,i8 (i6 (mm++[(n,im)])) x.2.2.1,i8 (i6 (mm++[(n,im)])) x.2.2.2))) ⟨Same.refl _,.nil⟩ (λi out H' hi hp=>⟨_,.str (due[i]).1,SqL.of (hp.1 _ _ fM),by rw[Lc,KY hi];rfl⟩) ?_ ?_
   .rintro B9 b_ N i v out H4' H4 hi ⟨s4,ls⟩ y;refine b_ λf_=>?_;obtain⟨rfl,hy⟩:=Itl.get y (SqL.of (s4 _ _ fM));rw[Lc] at hy;obtain⟨x,hx,rfl⟩:=LB.mp hy;have u_:=Ln hx;exists⟨rfl,?_⟩;exists⟨a,p,q,c,pl,l1,kvs,A_,g_,_,L,Pc,W,s1,s2,gp,gt,fx,x,rfl,XM.same s4,Xi x u_,.inl (s4 _ _ (sM _ _ f2)),oU (he x u_).1,oU (he x u_).2,λv H5 m5 hv=>?_⟩;have Xh:=LP ls;rw[KW,Lp] at Xh;refine⟨d8 (by lia),f_ _ _ ⟨s4.trans m5,?_⟩⟩;rw[show due.take (i+1)=due.take i++[x] by rw[LF,hx];rfl,Lh];exact C8 (LsAt.same ls m5) hv
   .rintro out H4 ⟨s4,ls⟩;have Xh:=LP ls;rw[KW,Lp] at Xh;refine⟨⟨_,SqL.of (s4 _ _ fM),by rw[KW];exact La _⟩,λD2 hD2=>⟨d8 (by lia),?_⟩⟩;rw[Ll (La _)] at ls;obtain⟨H5,e5,f5,m5,_⟩:=u7 (H:=H4) (o:= .lst out) hD2;change zT _ (u9 H4 D2 _) _;rw[e5];symm;exact⟨D2,out,_,rfl,f5,LsAt.same ls m5,by rw[KW];lia,λH6 m6=>k H6 (m2.trans (sM.trans (s4.trans (m5.trans m6))))⟩
def nZ (K:Qd):Sp:=λvs H Q _=>∃(a p q c pl bl:Addr) (kvs A_ g_:am) (L:Str->Str->Bool) (Pc W:C3) (s1 s2 gp gt:xL) (fx:xz) (b:xL),vs=[.ref a,.ref c,.ref pl,.ref bl]/\Sx K H a p q c pl kvs A_ g_ L Pc W s1 s2 gp gt fx/\H bl=some (.lst (b.map V.str))/\b.length<(s1++s2).length/\Gz H Q λss=>ss=aA L Pc W gp gt fx (s1++s2) b
abbrev rn:=λP w K mg base=>U8 P w K mg base J0 4 "images" ["piece","choices","places","begun"] [] (nZ K)
theorem xl {f fd}(T:Txt K mg)(D5:V9 P w K mg base)(Q4:bz P w K mg base)(fF:lZ P w K mg base)(F:Fun K "images" "images" lI f fd):E4 P w K mg base J0 4 f fd ["piece","choices","places","begun"] (nZ K):=by
 walk_at "#sc_images"
 .obtain⟨a,p,q,c,pl,bl,kvs,A_,g_,L,Pc,W,s1,s2,gp,gt,fx,b,rfl,_⟩:=h;rfl
 .obtain⟨a,p,q,c,pl,bl,kvs,A_,g_,L,Pc,W,s1,s2,gp,gt,fx,b,rfl,X0,hb,ZY,k⟩:=h;have S:=X0.S;have nn:=S.nn;have Wi:=S.o.len;have l1:=X0.l1;have l2:=X0.l2;have lgt:gt.length<=60:=by rw[S.o'.p2.length_eq,KW];rw[C0] at l2;lia
  have ZP:gp.length<=60:=by rw[S.o'.p1.length_eq,KW];rw[C0] at l2;lia
  obtain⟨n,hn⟩:∃n,(s1++s2)[b.length]?=some n:=⟨_,KY ZY⟩
  walk_at "@sc_images 546[4055b4k4356~t%~1Ml438orK05207ximage;3;p6'0Q4 9092l65f0mimage,begun;LrD0001008;7image;3;pb105wf0mimage,begun;wLrD0001w007ximage;0265;p07f0mimage,piece,places,put,name;L~66'0fF 919293l4000"
  exists⟨a,p,q,kvs,Pc,rfl,X0.at_,by lia,λln H1 r1 r2 n1 m1 f1 or=>?_⟩;have Xj:r1=s1:=O5 or.o1 S.o.o1 (or.p1.nodup_iff.mpr (F2 S.nd)) (or.p1.trans S.o.p1.symm);have Xk:r2=s2:=O5 or.o2 S.o.o2 (or.p2.nodup_iff.mpr (O4 S.nd)) (or.p2.trans S.o.p2.symm);subst Xj Xk;exists F0 (p0 (SqL.of (m1 _ _ hb)) ?_);rw[KW];refine i9 (SqL.of f1) (i:=(b.length:Int)) (v:= .str n) (j7 (j:=b.length) (by rw[Lc,hn];rfl)) ?_;exists⟨ln,bl,(r1++r2).map Sum.inr,b.map V.str,rfl,by rw[←vv];exact SqL.of f1,SqL.of (m1 _ _ hb),λd nd=>?_⟩;rw[sh nn];obtain⟨H2,e2,f2,m2,_⟩:=u7 (o:= .dK (i6 ((r1++r2).zip b))) nd;rw[e2];have M':=m1.trans m2;have X2:=X0.same M';have QN:=M' _ _ hb;exists j6 X2.at_.tup ?_;exists az (J2 (k:=Sum.inr n) X2.at_.ties) ?_;rw[Y0 X2.at_.ts];symm;have Sw:∀(p:Str->Bool) (l:xL),l.length<=60->∀i,((l.take i).filter p).length<=1000:=λp l hl i=>LJ iH (by lia);refine J6 (λh1=>?_) (λh1=>?_)
  .have hle:r1.length<=b.length:=by
    rcases S.is1 hn with⟨z,_⟩|⟨_,z⟩
    .exact absurd h1 z
    .exact z
   have m_:=dN h1;have he:=S.ends _ m_;obtain⟨j1,ZN,Vb⟩:=S.pt_idx he.1;obtain⟨j2,hj2,Ve⟩:=S.pt_idx he.2;exists⟨a,p,q,c,pl,d,kvs,A_,g_,_,L,Pc,W,r1,r2,gp,gt,fx,(n,O1 Pc.ts n),rfl,X2,m_,.inl f2,oU (pZ Vb (by lia)),oU (pZ Ve (by lia)),λv H3 m3 hv=>?_⟩;obtain⟨lv,rfl,QM⟩:=hv;have etc:ve W gt fx n ((O1 Pc.ts n).1,i8 (i6 ((r1++r2).zip b)) (O1 Pc.ts n).2.1,i8 (i6 ((r1++r2).zip b)) (O1 Pc.ts n).2.2)=we W gt fx (r1++r2) b (n,O1 Pc.ts n):=rfl;dsimp only at QM;rw[etc] at QM;have G_:(we W gt fx (r1++r2) b (n,O1 Pc.ts n)).length<=60:=LJ (Lm _ _) lgt;generalize htc:we W gt fx (r1++r2) b (n,O1 Pc.ts n)=tc at QM G_;refine C6 (SqL.of QM) ?_;refine B6 (n:=tc.length) (λi out H'=>Same H3 H'/\out=((tc.take i).filter λx=>!decide (x∈b)).map V.str) ⟨Same.refl _,rfl⟩ (λi out H' hi hp=>⟨_,.str (tc[i]),SqL.of (hp.1 _ _ QM),by rw[Lc,KY hi];rfl⟩) ?_ ?_
   .rintro B9 b_ N i v out H4' H4 hi ⟨s4,rfl⟩ y;refine b_ λf_=>?_;obtain⟨rfl,hy⟩:=Itl.get y (SqL.of (s4 _ _ QM));rw[Lc] at hy;obtain⟨x,hx,rfl⟩:=LB.mp hy;exists⟨rfl,?_⟩;exists J1 (gs:=b) (SqL.of (s4 _ _ (m3 _ _ QN))) ?_;exists Y5 (λh2=>?_) (λh2=>?_)
    .exists⟨d8 (by rw[KW];exact Sw _ _ G_ _),f_ _ _ ⟨s4,?_⟩⟩;rw[xo hx h2,Lh];rfl
    .exact f_ _ _ ⟨s4,by rw[tF hx h2]⟩
   .rintro out H4 ⟨s4,rfl⟩;refine⟨⟨_,SqL.of (s4 _ _ QM),by rw[KW];exact La _⟩,λD hD=>⟨d8 (by rw[KW];exact Sw _ _ G_ _),?_⟩⟩;rw[Ll (La _)];obtain⟨H5,e5,f5,m5,_⟩:=u7 (H:=H4) (o:= .lst ((tc.filter λx=>!decide (x∈b)).map V.str)) hD;show Q _ (u9 H4 D _);rw[e5];refine k D H5 _ (M'.free (m3.free (s4.free hD))) (M'.trans (m3.trans (s4.trans m5))) f5 ?_;unfold aA;rw[hn];dsimp only;rw[if_pos h1,htc]
  .have p_:b.length<r1.length:=by
    rcases S.is1 hn with⟨_,z⟩|⟨z,_⟩
    .exact z
    .exact absurd z h1
   have hm:n∈Pc.pts.map (·.1):=by
    rcases Ld.mp (S.o.mem.mp (Ln hn)) with z|z
    .exact z
    .exact absurd z h1
   obtain⟨y,hy,ey⟩:=KZ.mp hm;obtain⟨v,hv,lv,rfl,QM⟩:=rM (R:=λv (x:Str×Str)=>LstAt H2 v (ue L gp fx x.1)) (show Paired _ _ _ from X2.ch) (F2 S.nd) hy;rw[ey] at hv QM;have G_:(ue L gp fx n).length<=60:=LJ (Lm _ _) (LJ (Lm _ _) ZP);generalize htc:ue L gp fx n=tc at QM G_;exists u4 (v:= .ref lv) (by have z:=J2 (k:=Sum.inr n) (.inl X2.hc);rw[hv] at z;exact z) ?_;refine C6 (SqL.of QM) ?_;refine B6 (n:=tc.length) (λi out H'=>Same H2 H'/\out=((tc.take i).filter λx=>!decide (x∈b)).map V.str) ⟨Same.refl _,rfl⟩ (λi out H' hi hp=>⟨_,.str (tc[i]),SqL.of (hp.1 _ _ QM),by rw[Lc,KY hi];rfl⟩) ?_ ?_
   .rintro B9 b_ N i v out H4' H4 hi ⟨s4,rfl⟩ y;refine b_ λf_=>?_;obtain⟨rfl,hy⟩:=Itl.get y (SqL.of (s4 _ _ QM));rw[Lc] at hy;obtain⟨x,hx,rfl⟩:=LB.mp hy;exists⟨rfl,?_⟩;exists J1 (gs:=b) (SqL.of (s4 _ _ QN)) ?_;exists Y5 (λh2=>?_) (λh2=>?_)
    .exists⟨d8 (by rw[KW];exact Sw _ _ G_ _),f_ _ _ ⟨s4,?_⟩⟩;rw[xo hx h2,Lh];rfl
    .exact f_ _ _ ⟨s4,by rw[tF hx h2]⟩
   .rintro out H4 ⟨s4,rfl⟩;refine⟨⟨_,SqL.of (s4 _ _ QM),by rw[KW];exact La _⟩,λD hD=>⟨d8 (by rw[KW];exact Sw _ _ G_ _),?_⟩⟩;rw[Ll (La _)];obtain⟨H5,e5,f5,m5,_⟩:=u7 (H:=H4) (o:= .lst ((tc.filter λx=>!decide (x∈b)).map V.str)) hD;have Wj:(tc.filter λx=>!decide (x∈b)).length<=60:=LJ (Lm _ _) G_;generalize hun:(tc.filter λx=>!decide (x∈b))=un at e5 f5 Wj⊢;change ah _ _ _ (u9 H4 D _) _;rw[e5];have RB:=s4.trans m5;have X5:=X2.same RB;exists C6 (SqL.of f5) ?_;refine B6 (n:=un.length) (λi out H'=>Same H5 H'/\out=((un.take i).filter λim=>ye ((dS Pc.ts n).map (we W gt fx (r1++r2) (b++[im])))).map V.str) ⟨Same.refl _,rfl⟩ (λi out H' hi hp=>⟨_,.str (un[i]),SqL.of (hp.1 _ _ f5),by rw[Lc,KY hi];rfl⟩) ?_ ?_
    .rintro B9 b_ N i v out H6' H6 hi ⟨s6,rfl⟩ y;refine b_ λf_=>?_;obtain⟨rfl,hy⟩:=Itl.get y (SqL.of (s6 _ _ f5));rw[Lc] at hy;obtain⟨x,hx,rfl⟩:=LB.mp hy;exists⟨rfl,?_⟩;symm;have Vh:r1[b.length]=n:=by
      rw[LS p_,KY p_] at hn;exact Ly hn
     have ends:∀t∈dS Pc.ts n,t.2.2.1∈((r1++r2).zip b++[(n,x)]).map (·.1)/\t.2.2.2∈((r1++r2).zip b++[(n,x)]).map (·.1):=λt ht=>by
      unfold dS at ht;rw[Lo,LK] at ht;have he:=S.ends t ht.1;rw[←gU hn];have q1:¬(r1[b.length].cps.toList<t.2.2.1.cps.toList):=by
       rw[Vh,←ht.2];unfold Cm;split
       .next z=>exact PH z
       .exact Pl _
      have q2:¬(r1[b.length].cps.toList<t.2.2.2.cps.toList):=by
       rw[Vh,←ht.2];unfold Cm;split
       .exact Pl _
       .next z=>exact z
      obtain⟨j1,a1,b1⟩:=jQ S p_ he.1 q1;obtain⟨j2,a2,b2⟩:=jQ S p_ he.2 q2;exact⟨pZ b1 (by rw[Lg,Lq];lia),pZ b2 (by rw[Lg,Lq];lia)⟩
     refine⟨a,p,q,c,pl,d,kvs,A_,g_,L,Pc,W,r1,r2,gp,gt,fx,(r1++r2).zip b,n,x,rfl,X5.same s6,s6 _ _ (RB _ _ f2),by rw[OX];lia,vV nn hn,ends,λH7 m7=>?_⟩;have een:((dS Pc.ts n).map λt=>ve W gt fx t.1 (t.2.1,i8 (i6 ((r1++r2).zip b++[(n,x)])) t.2.2.1,i8 (i6 ((r1++r2).zip b++[(n,x)])) t.2.2.2))=(dS Pc.ts n).map (we W gt fx (r1++r2) (b++[x])):=by
      rw[←gU hn];rfl
     rw[een];exists Y5 (λh2=>?_) (λh2=>?_)
     .exists⟨d8 (by rw[KW];exact Sw _ _ Wj _),f_ _ _ ⟨s6.trans m7,?_⟩⟩;rw[xo hx h2,Lh];rfl
     .exact f_ _ _ ⟨s6.trans m7,by rw[tF hx h2]⟩
    .rintro out H6 ⟨s6,rfl⟩;refine⟨⟨_,SqL.of (s6 _ _ f5),by rw[KW];exact La _⟩,λD2 hD2=>⟨d8 (by rw[KW];exact Sw _ _ Wj _),?_⟩⟩;rw[Ll (La _)];obtain⟨H7,e7,f7,m7,_⟩:=u7 (H:=H6) (o:= .lst ((un.filter λim=>ye ((dS Pc.ts n).map (we W gt fx (r1++r2) (b++[im])))).map V.str)) hD2;show Q _ (u9 H6 D2 _);rw[e7];refine k D2 H7 _ (M'.free (RB.free (s6.free hD2))) (M'.trans (RB.trans (s6.trans m7))) f7 ?_;unfold aA;rw[hn];dsimp only;rw[if_neg h1,htc,hun]
def ndL (img:xL->xL):Nat->xL->Nat
 |0,_=>1
 |k+1,b=>1+((img b).map λx=>ndL img k (b++[x])).sum
theorem Ab {α:Type}{f:α->Nat}{B:Nat}:∀{l:List α},(∀x∈l,f x<=B)->(l.map f).sum<=l.length*B
 |[],_=>by simp
 |x::l,h=>by
  have z:=Ab (l:=l) λy hy=>h y (LD _ hy);have z1:=h x Lx;rw[Mg,PJ,Mj,SF];lia
theorem DP {img:xL->xL}{k:Nat}:1<=ndL img k b:=by
 cases k with
 |zero=>exact La _
 |succ k=>show 1<=1+_;lia
theorem uT {α:Type}{f:α->Nat}:∀{l:List α},(∀x∈l,1<=f x)->l.length<=(l.map f).sum
 |[],_=>La _
 |x::l,h=>by
  have z:=uT (l:=l) λy hy=>h y (LD _ hy);have z1:=h x Lx;rw[Mg,PJ,Mj];lia
theorem vo {s1 s2:xL}(S:SrchP L Pc W s1 s2 gp gt fx)(b:xL):(aA L Pc W gp gt fx (s1++s2) b).length<=max W.pts.length W.ts.length:=by
 have h1:=S.o'.p1.length_eq;have h2:=S.o'.p2.length_eq;rw[KW] at h1 h2;unfold aA;split
 .simp
 .split
  .exact LJ (Lm _ _) (LJ (Lm _ _) (by lia))
  .exact LJ (Lm _ _) (LJ (Lm _ _) (LJ (Lm _ _) (LJ (Lm _ _) (by lia))))
theorem vE {c:Str}:∀{l:xL},l.Nodup->(∀x∈l,x=c)->l.length<=1
 |[],_,_=>My _
 |[_],_,_=>La _
 |x::y::l,nd,h=>by
  have e1:=h x (by simp);have e2:=h y (by simp);rw[e1,e2] at nd;exact absurd Lx (Mt.mp nd).1
def Cc {s1 s2:xL}(S:SrchP L Pc W s1 s2 gp gt fx)(hn:(s1++s2)[b.length]?=some n)(hf:n∈fx.map (·.1)):(aA L Pc W gp gt fx (s1++s2) b).length<=1:=by
 have Vj:gp.Nodup:=S.o'.p1.nodup_iff.mpr (F2 S.nd');have ndt:gt.Nodup:=S.o'.p2.nodup_iff.mpr (O4 S.nd');have hm:∀im,X7 fx n im=true->im=i8 (i6 fx) n:=λim h=>by
  unfold X7 at h;rw[if_pos hf] at h;exact MB h
 unfold aA;rw[hn];show(if _ then _ else _:xL).length<=1;split
 .refine vE (c:=i8 (i6 fx) n) ((ndt.sublist Mp).sublist Mp) λx hx=>?_;have z:=(Lo.mp (Lo.mp hx).1).2;exact hm x (QQ.mp z).2
 .refine vE (c:=i8 (i6 fx) n) ((((Vj.sublist Mp).sublist Mp).sublist Mp).sublist Mp) λx hx=>?_;exact hm x (Lo.mp (Lo.mp (Lo.mp hx).1).1).2
theorem zU {L:Str->Str->Bool}{Pc W:C3}{s1 s2 gp gt:xL}{fx:xz}(S:SrchP L Pc W s1 s2 gp gt fx):∀(k:Nat) (b:xL),b.length+k=(s1++s2).length->ndL (aA L Pc W gp gt fx (s1++s2)) k b<=(k+1)*(max W.pts.length W.ts.length+1) ^ (((s1++s2).drop b.length).filter (dZ fx)).length
 |0,b,_=>by
  show 1<=_;rw[Nat.zero_add,Nat.one_mul];exact Nat.one_le_pow _ _ (by lia)
 |k+1,b,hk=>by
  obtain⟨n,hn⟩:∃n,(s1++s2)[b.length]?=some n:=⟨_,KY (by lia)⟩
  have hd:(s1++s2).drop b.length=n::(s1++s2).drop (b.length+1):=by
   rw[ME (by lia)];rw[KY (by lia)] at hn;rw[Ly hn]
  have hM:=vo S b;generalize hMM:max W.pts.length W.ts.length=M at*;have ih:∀x∈aA L Pc W gp gt fx (s1++s2) b,ndL (aA L Pc W gp gt fx (s1++s2)) k (b++[x])<=(k+1)*(M+1) ^ (((s1++s2).drop (b.length+1)).filter (dZ fx)).length:=λx _=>by
   have z:=zU S k (b++[x]) (by rw[Lg,Lq];lia);rw[Lg,Lq,hMM] at z;exact z
  have z:=Ab (f:=λx=>ndL (aA L Pc W gp gt fx (s1++s2)) k (b++[x])) ih;have z2:1<=(M+1) ^ (((s1++s2).drop (b.length+1)).filter (dZ fx)).length:=Nat.one_le_pow _ _ (by lia);show 1+_<=(k+1+1)*_;rw[hd,NH];generalize hc:(((s1++s2).drop (b.length+1)).filter (dZ fx)).length=c at*;by_cases hf:n∈fx.map (·.1)
  .have h1:=Cc S hn hf;rw[if_neg (by unfold dZ;simp [hf]),hc];have z3:(aA L Pc W gp gt fx (s1++s2) b).length*((k+1)*(M+1) ^ c)<=1*((k+1)*(M+1) ^ c):=QR _ h1;rw[SF (k+1) 1];lia
  .rw[if_pos (by unfold dZ;simp [hf]),Mj,hc,Nat.pow_succ];have z3:(aA L Pc W gp gt fx (s1++s2) b).length*((k+1)*(M+1) ^ c)<=M*((k+1)*(M+1) ^ c):=QR _ hM;have e1:(k+1+1)*((M+1) ^ c*(M+1))=M*((k+1)*(M+1) ^ c)+((k+1)*(M+1) ^ c+((M+1) ^ c*(M+1))):=by
    rw[SF (k+1) 1,Nat.one_mul,←Nat.mul_assoc (k+1),Nat.mul_add ((k+1)*(M+1) ^ c) M 1,Nat.mul_one,Nat.mul_comm ((k+1)*(M+1) ^ c) M];lia
   rw[e1];have z4:1<=(k+1)*(M+1) ^ c:=Nat.mul_pos (by lia) z2;lia
def AJ (mo:Option Nat)(rows:ZB):ZB:=match mo with
 |none=>rows
 |some k=>rows.take k
def KI (mo:Option Nat)(n:Int):Bool:=match mo with
 |none=>true
 |some k=>!decide (n=(k:Int))
def FW (mv:V)(mo:Option Nat):Prop:=(mv= .non/\mo=none)\/(mv= .int 1/\mo=some 1)
def LoAt (H:Hp)(t w:Addr)(xs:ap)(ls:ZB):Prop:=Paired (λv l=>∃a,v=V.ref a/\a≠t/\a≠w/\H a=some (.lst (l.map V.str))) xs ls
variable {w:Addr}
def LoAt.same {t:Addr}(h:LoAt H t w xs ls)(s:Same H H'):LoAt H' t w xs ls:=Paired.imp' (λ_ _ ⟨a,e,n,m,z⟩=>⟨a,e,n,m,s _ _ z⟩) h
def LoAt.upT {t:Addr}(h:LoAt H t w xs ls):LoAt (u9 H t u) t w xs ls:=Paired.imp' (λ_ _ ⟨a,e,n,m,z⟩=>⟨a,e,n,m,by rw[b7 n];exact z⟩) h
def LoAt.upW {t:Addr}(h:LoAt H t w xs ls):LoAt (u9 H w u) t w xs ls:=Paired.imp' (λ_ _ ⟨a,e,n,m,z⟩=>⟨a,e,n,m,by rw[b7 m];exact z⟩) h
def qi {F : α -> β -> Prop} : ∀ {xs : List α} {ls : List β}, Paired F xs ls -> xs ≠ [] -> ∃ Yx x Yy l, xs = Yx ++ [x] /\ ls = Yy ++ [l] /\ Paired F Yx Yy /\ F x l
 := by
  intro xs ls hp x_;induction hp with
  | nil => exact absurd rfl x_
  | @cons x l xs ls a t ih =>
    cases t with
    | nil => exact ⟨[], x, [], l, rfl, rfl, .nil, a⟩
    | cons b t' =>
      obtain ⟨Yx, x', Yy, l', e1, e2, h1, h2⟩ := ih (by simp)
      exact ⟨x :: Yx, x', l :: Yy, l', by rw [e1]; rfl, by rw [e2]; rfl, .cons a h1, h2⟩
structure LI (mo:Option Nat) (K:Qd) (img:xL->xL) (n:Nat) (H0 H':Hp) (tl wl:Addr) (xt xw:ap) (rows bs:ZB) (m:Nat):Prop where
 s:Same H0 H'
 ht:H' tl=some (.lst xt)
 hw:H' wl=some (.lst xw)
 lt:LoAt H' tl wl xt rows
 lw:LoAt H' tl wl xw bs
 bl:∀b∈bs,b.length<=n
 sum:m=(bs.map λb=>ndL img (n -b.length) b).sum
 all:rows++bs.reverse.flatMap (λb=>iE img (n -b.length) b)=iE img n []
 big:rows.length+m<=7000000
 le1:mo=some 1->rows.length<=1
def qT (K:Qd):Sp:=λvs H Q _=>∃(a p q c pl:Addr) (kvs A_ g_:am) (L:Str->Str->Bool) (Pc W:C3) (s1 s2 gp gt:xL) (fx:xz) (mv:V) (mo:Option Nat),vs=[.ref a,.ref c,.ref pl,mv]/\FW mv mo/\Sx K H a p q c pl kvs A_ g_ L Pc W s1 s2 gp gt fx/\
 ∀(l:Addr) (H':Hp) (xs:ap),H l=none->Same H H'->H' l=some (.lst xs)->LsAt H' xs (AJ mo (iu Pc W s1 s2 gp gt fx))->(iu Pc W s1 s2 gp gt fx).length<=7000000->Q (.ref l) H'
def oN {n:Nat}(h:n<=16000000):n<sizeLine:=Nf h (by decide)
def oR {i:Int}(q:Q (.bl true) H):qK K (.int i) .non H Q:= .inl (.inl (.inl ⟨rfl,by simpa using q⟩))
variable {mo:Option Nat}
def xi {i:Int}{mv:V}(h:FW mv mo)(q:Q (.bl (KI mo i)) H):qK K (.int i) mv H Q:=by
 rcases h with⟨rfl,rfl⟩|⟨rfl,rfl⟩
 .exact oR q
 .exact qG q
theorem uW {img:xL->xL}:∀{k:Nat} {b:xL},(iE img k b).length<=ndL img k b
 |0,_=>La _
 |k+1,b=>by
  show((img b).flatMap λx=>iE img k (b++[x])).length<=1+((img b).map λx=>ndL img k (b++[x])).sum;rw[List.length_flatMap];have z:((img b).map λx=>(iE img k (b++[x])).length).sum<=((img b).map λx=>ndL img k (b++[x])).sum:=by
   generalize img b=l;induction l with
   |nil=>exact La _
   |cons x l ih=>
    rw[Mg,Mg,PJ,PJ]
    exact Nat.add_le_add uW ih
  lia
variable {w:World}
abbrev uZ:=λP w K mg base=>U8 P w K mg base J0 5 "lines" ["piece","choices","places","most"] [] (qT K)
theorem zq {f fd}(T:Txt K mg)(D5:V9 P w K mg base)(lX:rn P w K mg base)(F:Fun K "lines" "lines" qc f fd):E4 P w K mg base J0 5 f fd ["piece","choices","places","most"] (qT K):=by
 walk_at "#sc_lines"
 .obtain⟨a,p,q,c,pl,kvs,A_,g_,Lr,Pc,W,s1,s2,gp,gt,fx,mv,mo,rfl,_⟩:=h;rfl
 .obtain⟨a,p,q,c,pl,kvs,A_,g_,Lr,Pc,W,s1,s2,gp,gt,fx,mv,mo,rfl,Tq,X0,k⟩:=h;have S:=X0.S;have Wi:=S.o.len;have l1:=X0.l1;have l2:=X0.l2;have l2':=l2;rw[C0] at l2';have Vn:=ym S;have hM:=vo S;have hnd0:=zU S (s1++s2).length [] (by simp);have Tr:=X0.big;rw[←Wi,←(S.o.perm.filter (dZ fx)).length_eq] at Tr;rw[show([]:xL).length=0 from rfl,OG] at hnd0;walk_at "@sc_lines 546[4055E56(3E8'3EJ vyX~606jSk450357|R'0PySem.F.slot_list_pop '0PySem.F.type_list_pop '0oX 06d'3aT juk47k44dIHR#ZY0547dtv~y%36'0lX 9091l27f8adIHR#ZY063e07(48705"
  exists⟨a,p,q,kvs,Pc,rfl,X0.at_,by lia,λln H1 r1 r2 n1 m1 f1 or=>?_⟩;have Xj:r1=s1:=O5 or.o1 S.o.o1 (or.p1.nodup_iff.mpr (F2 S.nd)) (or.p1.trans S.o.p1.symm);have Xk:r2=s2:=O5 or.o2 S.o.o2 (or.p2.nodup_iff.mpr (O4 S.nd)) (or.p2.trans S.o.p2.symm);subst Xj Xk;exists⟨d8 (by simp),λtl H2 ntl m2 f2=>?_⟩;exists⟨d8 (by simp),λl3 H3 n3 m3 f3=>?_⟩;exists⟨d8 (by simp),λwl H4 nwl m4 f4=>?_⟩;symm;have Yz:=m4 _ _ (m3 _ _ f2);have f3':=m4 _ _ f3;have h3t:l3≠tl:=(d6 f2 n3).symm;have h3w:l3≠wl:=d6 f3 nwl;have htw:tl≠wl:=d6 (m3 _ _ f2) nwl;have Wk:=m2.trans (m3.trans m4);have Xl:H1 wl=none:=m2.free (m3.free nwl);generalize hN:(r1++r2).length=n at*;generalize himg:aA Lr Pc W gp gt fx (r1++r2)=img at*;refine⟨λm σ H'=>∃(xt xw:ap) (rows bs:ZB) (v1 v2:Option V),σ=[Re a,Re c,Re pl,some mv,Re ln,Re tl,Re wl,v1,v2]/\LI mo K img n H1 H' tl wl xt xw rows bs m,⟨_,[],[.ref l3],[],[[]],none,none,rfl,⟨Wk,Yz,f4,.nil,.cons ⟨l3,rfl,h3t,h3w,f3'⟩ .nil,(λb hb=>by rw[Li.mp hb];exact My _),rfl,by simp,?_,λ_=>My _⟩⟩,?_⟩
  .show 0+(ndL img n []+0)<=7000000;lia
  rintro m σ H5 ⟨xt,xw,rows,bs,v1,v2,rfl,L⟩;have TY:bs.length<=m:=by rw[L.sum];exact uT λ_ _=>DP
  have WS:=LP L.lw;have Wf:=LP L.lt;have hb5:=L.big;exists⟨!xw.isEmpty,.inl ⟨_,SqL.of L.hw,rfl⟩,?_⟩;cases Uy:xw.isEmpty with
  |true=>
   symm
   have v_:xw=[]:=by simpa using Uy
   have L_:bs=[]:=by
    have:bs.length=0:=by rw[←WS,v_];rfl
    exact MC this
   have ha:=L.all
   rw[L_] at ha
   simp only[List.reverse_nil,List.flatMap_nil,Mn] at ha
   rw[Vn] at ha
   have hle:=L.le1
   refine k tl H5 xt (m1.free ntl) (m1.trans L.s) L.ht ?_ ?_
   .rw[←ha]
    have e:AJ mo rows=rows:=by
     rcases Tq with⟨_,rfl⟩|⟨_,rfl⟩
     .rfl
     .exact Ll (hle rfl)
    rw[e]
    exact Paired.imp' (λ_ _ ⟨a,e,_,_,z⟩=>⟨a,e,z⟩) L.lt
   .rw[←ha];lia
  |false=>
   have hxne:xw≠[]:=by
    intro z;rw[z] at Uy;cases Uy
   symm
   refine F0 (p0 (SqL.of L.ht) ?_)
   symm
   refine xi Tq ?_
   symm
   refine Y5 (λH_=>?_) (λH_=>?_)
   case refine_2=>
    symm
    have n_:=L.all
    rw[Vn] at n_
    have h1:mo=some 1/\rows.length=1:=by
     rcases Tq with⟨_,rfl⟩|⟨_,rfl⟩
     .cases H_
     .refine⟨rfl,?_⟩;have z:(!decide ((xt.length:Int)=((1:Nat):Int)))=false:=H_;simp at z;lia
    have hel:=uW (img:=img) (k:=n) (b:=[])
    rw[Vn] at hel
    refine k tl H5 xt (m1.free ntl) (m1.trans L.s) L.ht ?_ (by lia)
    rw[h1.1,←n_]
    show LsAt H5 xt (List.take 1 _)
    rw[List.take_append_of_le_length (by lia),Ll (by lia)]
    exact Paired.imp' (λ_ _ ⟨a,e,_,_,z⟩=>⟨a,e,z⟩) L.lt
   have hgo0:mo=some 1->rows.length=0:=λe=>by
    have z:=L.le1 e;subst e;have z2:(!decide ((xt.length:Int)=((1:Nat):Int)))=true:=H_;simp at z2;lia
   refine⟨λσ' H'=>∃m',m'<m/\∃(xt xw:ap) (rows bs:ZB) (v1 v2:Option V),σ'=[Re a,Re c,Re pl,some mv,Re ln,Re tl,Re wl,v1,v2]/\LI mo K img n H1 H' tl wl xt xw rows bs m',λσ' H' z=>z,?_⟩
   obtain⟨Sy,xv,SO,b,exw,Wl,lw',a5,rfl,YA,haw,hb⟩:=qi L.lw hxne
   have hmb:b∈bs:=by rw[Wl];simp
   have hbn:=L.bl b hmb
   have Sz:=L.sum
   rw[Wl,Lh,List.sum_append] at Sz
   have Vh:([b].map λb=>ndL img (n -b.length) b).sum=ndL img (n -b.length) b:=by simp
   rw[Vh] at Sz
   have n_:=L.all
   rw[Wl,Rc,List.reverse_singleton,List.singleton_append,Nw] at n_
   have hb'l:SO.length<=m:=by rw[Wl,Lg] at TY;lia
   have hxw':=LP lw'
   symm
   refine⟨.inl ⟨rfl,_,SqL.of L.hw⟩,?_⟩
   symm
   refine⟨wl,xw,.ref a5,rfl,rfl,L.hw,by rw[exw];simp,?_⟩
   rw[show xw.dropLast=Sy by rw[exw];simp]
   have s6:Same H1 (u9 H5 wl (.lst Sy)):=E5 L.s Xl
   have f6:(u9 H5 wl (.lst Sy)) wl=some (.lst Sy):=b5
   have t6:(u9 H5 wl (.lst Sy)) tl=some (.lst xt):=by rw[b7 htw];exact L.ht
   have b6:(u9 H5 wl (.lst Sy)) a5=some (.lst (b.map V.str)):=by rw[b7 haw];exact hb
   have lt6:LoAt (u9 H5 wl (.lst Sy)) tl wl xt rows:=L.lt.upW
   have lw6:LoAt (u9 H5 wl (.lst Sy)) tl wl Sy SO:=LoAt.upW (show LoAt H5 tl wl Sy SO from lw')
   generalize u9 H5 wl (.lst Sy)=H6 at s6 f6 t6 b6 lt6 lw6⊢
   symm
   refine F0 (p0 (SqL.of b6) ?_)
   rw[KW]
   symm
   refine F0 (p0 (SqL.of (s6 _ _ f1)) ?_)
   rw[KW,hN]
   symm
   refine J6 (λh1=>?_) (λh1=>?_)
   .have R_:b.length=n:=by lia
    symm
    refine⟨.inl ⟨rfl,_,SqL.of t6⟩,?_⟩
    symm
    refine⟨tl,xt,.ref a5,rfl,rfl,t6,oN (by lia),?_⟩
    rw[R_,Nat.sub_self] at Sz n_
    have e1:ndL img 0 b=1:=rfl
    have e2:iE img 0 b=[b]:=rfl
    rw[e1] at Sz
    rw[e2] at n_
    have ntl1:H1 tl=none:=ntl
    refine⟨m -1,by lia,xt++[.ref a5],Sy,rows++[b],SO,_,_,rfl,⟨E5 s6 ntl1,b5,by rw[b7 htw.symm];exact f6,C8 lt6.upT ⟨a5,rfl,YA,haw,by rw[b7 YA];exact b6⟩,lw6.upT,λb' RF=>L.bl b' (by rw[Wl];exact Lb _ RF),by lia,by rw[Mi];exact n_,by rw[Lg,Lq];lia,λe=>by rw[Lg,Lq,hgo0 e];exact La _⟩⟩
   .have R_:b.length<n:=by lia
    obtain⟨kk,TX⟩:∃kk,n -b.length=kk+1:=⟨n -b.length -1,by lia⟩
    symm
    refine⟨a,p,q,c,pl,a5,kvs,A_,g_,Lr,Pc,W,r1,r2,gp,gt,fx,b,rfl,X0.same (m1.trans s6),b6,by lia,λli H7 ss n7 m7 f7 hss=>?_⟩
    rw[himg] at hss
    subst hss
    symm
    refine⟨li,_,rfl,SqL.of f7,?_⟩
    have Yv:=hM b
    have hlit:li≠tl:=(d6 t6 n7).symm
    have hliw:li≠wl:=(d6 f6 n7).symm
    refine eA (n:=(img b).length) (λi σ H'=>∃(Vo:ap) (v2:Option V),σ=[Re a,Re c,Re pl,some mv,Re ln,Re tl,Re wl,Re a5,v2]/\Same H1 H'/\H' li=some (.lst ((img b).map V.str))/\H' tl=some (.lst xt)/\H' wl=some (.lst Vo)/\H' a5=some (.lst (b.map V.str))/\LoAt H' tl wl xt rows/\LoAt H' tl wl Vo (SO++((img b).reverse.take i).map λx=>b++[x])) ⟨Sy,v2,rfl,s6.trans m7,f7,m7 _ _ t6,m7 _ _ f6,m7 _ _ b6,lt6.same m7,by simpa using lw6.same m7⟩ (λi σ H' hi hp=>?_) ?_ ?_
    .obtain⟨_,_,_,_,z,_⟩:=hp
     exact⟨SqL.of z,by rw[KW];exact hi⟩
    .rintro bk B9 b_ i v σ H8' H8 hi ⟨Vo,v2',rfl,s8,g8,t8,w8,b8,lt8,lw8⟩ ⟨rfl,hv⟩
     refine b_ λ_ _=>?_
     rw[KW] at hv
     have hrev:(img b).reverse[i]?=(img b)[(img b).length -1 -i]?:=List.getElem?_reverse hi
     rw[Lc,←hrev] at hv
     obtain⟨x,hx,rfl⟩:=LB.mp hv
     have hl8:=LP lw8
     rw[Lg,KW,Lp] at hl8
     symm
     refine⟨.inl ⟨rfl,_,SqL.of w8⟩,?_⟩
     symm
     refine⟨d8 (by simp),λl9 H9 n9 m9 f9=>?_⟩
     refine mZ (m9 _ _ b8) f9 (OI (d8 (by rw[KW];simp;lia))) (λUl Ro n10 K' SA=>?_)
     have F_:=m9.trans K'
     have ht10:Ul≠tl:=(d6 (m9 _ _ t8) n10).symm
     have Xm:Ul≠wl:=(d6 (m9 _ _ w8) n10).symm
     symm
     refine⟨wl,Vo,.ref Ul,rfl,rfl,F_ _ _ w8,oN (by lia),?_⟩
     walk_at "X"
     refine⟨Vo++[.ref Ul],_,rfl,E5 (s8.trans F_) Xl,by rw[b7 hliw];exact F_ _ _ g8,by rw[b7 htw];exact F_ _ _ t8,b5,by rw[b7 haw];exact F_ _ _ b8,(lt8.same F_).upW,?_⟩
     rw[LF,hx,Lh,←Mi]
     refine C8 (lw8.same F_).upW ⟨Ul,rfl,ht10,Xm,?_⟩
     rw[b7 Xm,SA,Lh];rfl
    .rintro σ H8 ⟨Vo,v2',rfl,s8,g8,t8,w8,b8,lt8,lw8⟩
     rw[Ll (by rw[List.length_reverse];exact La _)] at lw8
     refine⟨by show(img b).length=((img b).map V.str).length;rw[KW],?_⟩
     rw[TX] at Sz n_
     have e1:ndL img (kk+1) b=1+((img b).map λx=>ndL img kk (b++[x])).sum:=rfl
     have e2:iE img (kk+1) b=(img b).flatMap λx=>iE img kk (b++[x]):=rfl
     rw[e1] at Sz
     rw[e2] at n_
     have ek:∀x:Str,n -(b++[x]).length=kk:=λx=>by rw[Lg,Lq];lia
     have eS:(((img b).reverse.map λx=>b++[x]).map λb=>ndL img (n -b.length) b).sum=((img b).map λx=>ndL img kk (b++[x])).sum:=by
      rw[LY,List.map_reverse,List.sum_reverse];exact MG List.sum (MF λx _=>by show ndL img (n -(b++[x]).length) (b++[x])=_;rw[ek x])
     refine⟨m -1,by lia,xt,Vo,rows,SO++(img b).reverse.map λx=>b++[x],_,_,rfl,⟨s8,t8,w8,lt8,lw8,λb' RF=>?_,?_,?_,by lia,L.le1⟩⟩
     .rcases Ld.mp RF with z|z
      .exact L.bl b' (by rw[Wl];exact Lb _ z)
      .obtain⟨x,_,rfl⟩:=KZ.mp z
       rw[Lg,Lq];lia
     .rw[Lh,List.sum_append,eS];lia
     .rw[Rc,←List.map_reverse,List.reverse_reverse,List.flatMap_append,List.flatMap_map]
      rw[←n_]
      congr 1
      congr 1
      exact fE λx _=>by rw[ek x]
def nF (W:C3):xL:=uy (W.pts.map (·.1))
def oK (W:C3):xL:=uy (W.ts.map (·.1))
def jY (W:C3):xL:=nF W++oK W
noncomputable def N9 (Pc W:C3)(fx:xz):ZB:=iu Pc W (nF Pc) (oK Pc) (nF W) (oK W) fx
def Z6 (W:C3):Ordr W (nF W) (oK W):=⟨iG _,iG _,qf _,qf _⟩
def DcAt (H:Hp)(nm:xL)(xs:ap)(rows:ZB):Prop:=Paired (λv row=>∃d,v=V.ref d/\H d=some (.dK (i6 (nm.zip row)))) xs rows
variable {rows:ZB}
def DcAt.same {nm:xL}(h:DcAt H nm xs rows)(s:Same H H'):DcAt H' nm xs rows:=Paired.imp' (λ_ _ ⟨d,e,z⟩=>⟨d,e,s _ _ z⟩) h
def Ht (H:Hp)(p q:Addr)(fv:V)(fx:xz):Prop:=(fv= .non/\fx=[])\/∃d,fv= .ref d/\H d=some (.dK (i6 fx))/\d≠p/\d≠q
structure Mx (K:Qd) (H:Hp) (a p q a' p' q':Addr) (kvs e_:am) (Pc W:C3) (fx:xz):Prop where
 P:WebIs 60 K H a p q kvs Pc
 G:WebIs 60 K H a' p' q' e_ W
 big:((b9 Pc).length+1)*(max W.pts.length W.ts.length+1) ^ ((b9 Pc).filter (dZ fx)).length<=7000000
 fnd:(fx.map (·.1)).Nodup
 fin:∀x∈fx,x.1∈b9 Pc
structure LkP (K:Qd) (H:Hp) (pl wl:Addr) (g_ C_:am) (L:Str->Str->Bool) (Pc W:C3):Prop where
 hp:H pl=some (.dK g_)
 kp:g_.map (·.1)=(Pc.pts.map (·.1)).map Sum.inr
 hg:Rd H wl (.dK C_)
 kg:C_.map (·.1)=(W.pts.map (·.1)).map Sum.inr
 eq:∀(n:Str) (v:V) (m:Str) (u:V),(Sum.inr n,v)∈g_->A8 C_ (Sum.inr m:j0)=some u->EqA K H u v (L n m)
 ls:∀n x,n∈Pc.pts.map (·.1)->x∈W.pts.map (·.1)->L n x=true->i8 (i6 W.pts) x=i8 (i6 Pc.pts) n
 lc:∀row,bK Pc W (i6 ((jY Pc).zip row))->∀x∈Pc.pts,L x.1 (gv (jY Pc) row x.1)=true
variable {wl:Addr}
def LkP.same {C_:am}(h:LkP K H pl wl g_ C_ L Pc W)(s:Same H H'):LkP K H' pl wl g_ C_ L Pc W:=⟨s _ _ h.hp,h.kp,s.rd h.hg,h.kg,λn v m u a b=>(h.eq n v m u a b).mono s.le,h.ls,h.lc⟩
def JP (H:Hp)(Q:VK)(mo:Option Nat)(Pc W:C3)(fx:xz):Prop:=∀(l:Addr) (H':Hp) (xs:ap),H l=none->Same H H'->H' l=some (.lst xs)->DcAt H' (jY Pc) xs (AJ mo (N9 Pc W fx))->(N9 Pc W fx).length<=7000000->(∀x∈xs,∃d,x=V.ref d/\H d=none)->Q (.ref l) H'
def sE (K:Qd):Sp:=λvs H Q _=>∃(a p q a' p' q' pl wl:Addr) (kvs e_ g_ C_:am) (L:Str->Str->Bool) (Pc W:C3) (fx:xz) (fv mv:V) (mo:Option Nat),vs=[.ref a,.ref a',.ref pl,.ref wl,fv,mv]/\Mx K H a p q a' p' q' kvs e_ Pc W fx/\LkP K H pl wl g_ C_ L Pc W/\FW mv mo/\Ht H pl q fv fx/\JP H Q mo Pc W fx
variable {a':Addr}
def Bt {C_:am}(h:Mx K H a p q a' p' q' kvs e_ Pc W fx)(l:LkP K H pl wl g_ C_ L Pc W):SrchP L Pc W (nF Pc) (oK Pc) (nF W) (oK W) fx:=
 ⟨Z6 _,Z6 _,h.P.nd,h.G.nd,h.P.ends,h.fnd,h.fin,l.ls,l.lc⟩
theorem CG {H:Hp}{F:Str×Str->xL}:∀{kvs:am} {pts:xz},ChAt H F kvs pts->LsAt H (kvs.map (·.2)) (pts.map F)
 |_,_,.nil=> .nil
 |_,_,.cons a t=> .cons a.2 (CG t)
def Mx.same {H0:Hp}(h:Mx K H0 a p q a' p' q' kvs e_ Pc W fx)(s:Same H0 H1):Mx K H1 a p q a' p' q' kvs e_ Pc W fx:=⟨h.P.same s,h.G.same s,h.big,h.fnd,h.fin⟩
def CU:(AJ mo rows).length<=rows.length:=by
 cases mo with
 |none=>exact La _
 |some k=>exact List.length_take_le' _ _
def IC (Pc W:C3)(n m:Str):Bool:=decide (i8 (i6 W.pts) m=i8 (i6 Pc.pts) n)
def AR (M:Mx K H a p q a' p' q' kvs e_ Pc W fx):LkP K H p p' (i6 Pc.pts) (i6 W.pts) (IC Pc W) Pc W:=by
 refine⟨M.P.hp,by rw[K5,C9],M.G.at_.pts,by rw[K5,C9],λn v m u h1 h2=>?_,λn x _ _ h=>MB h,λrow f x hx=>?_⟩
 .obtain⟨y,hy,e⟩:=KZ.mp h1;have e1:y.1=n:=MX (Ni e).1;have e2:V.str y.2=v:=(Ni e).2;obtain⟨k',rfl,hk'⟩:=gE h2;refine .inl ⟨k',y.2,rfl,e2.symm,?_⟩;unfold IC;rw[gN h2,←e1,Q3 (F2 M.P.nd) (show(y.1,y.2)∈Pc.pts from hy)]
 .have z:=f.pts x hx;refine LA ?_;rw[Q3 (F2 M.P.nd) (show(x.1,x.2)∈Pc.pts from hx)];exact Q3 (F2 M.G.nd) z
abbrev vS:=λP w K mg base=>U8 P w K mg base J0 6 "found" ["piece","web","piece_looks","web_looks","fixed","most"] [] (sE K)
theorem As {f fd}(T:Txt K mg)(Z9:cJ P w K mg base)(bJ:ma P w K mg base)(cD:gn P w K mg base)(D5:V9 P w K mg base)(pj:uZ P w K mg base)(F:Fun K "found" "found" pS f fd):E4 P w K mg base J0 6 f fd ["piece","web","piece_looks","web_looks","fixed","most"] (sE K):=by
 walk_at "#sc_found"
 .obtain⟨a,p,q,a',p',q',pl,wl,kvs,e_,g_,C_,L,Pc,W,fx,fv,mv,mo,rfl,_⟩:=h;rfl
 .obtain⟨a,p,q,a',p',q',pl,wl,kvs,e_,g_,C_,L,Pc,W,fx,fv,mv,mo,rfl,M0,L0,Tq,hf,k⟩:=h;have S:=Bt M0 L0;have lP:=M0.P.len;have lW:=M0.G.len;have lP2:=lP;have lW2:=lW;rw[C0] at lP2 lW2;walk_at "@sc_found 56'3HL j'0HU 04]Q04576'0Z9 92l368oP6'0bJ 3:~bM~5~43|+~a~9~8077E586'0cD 90l16596[407xrow;9;p6'0pj 9097l85f0mrow,names;G~t%~1Ml10"
  refine CJ (λσ H'=>∃d,σ=[Re a,Re a',Re pl,Re wl,some fv,some mv,Re d,none,none,none]/\Same H H'/\H' d=some (.dK (i6 fx))/\d≠pl/\d≠q) ?_ ?_
  .rintro σ H1 ⟨d,rfl,m1,hd,Vi,Vk⟩;have M1:=M0.same m1;have L1:=L0.same m1;exists⟨pl,wl,d,g_,C_,Pc.pts,W.pts,fx,L,nF W,rfl,L1.hp,L1.kp,F2 M1.P.nd,by lia,L1.hg,L1.kg,F2 M1.G.nd,by lia,(Z6 W).p1,(Z6 W).o1,L1.eq,hd,Vi,λc H2 A_ nc m2 hc ch=>?_⟩;have M2:=M1.same m2;exists⟨.inr (.inr (.inl ⟨rfl,.inl ⟨_,hc⟩⟩)),?_⟩;exists⟨c,_,rfl,rfl,.inl hc,λv3 n3=>?_⟩;obtain⟨H3,e3,f3,m3,_⟩:=u7 (o:= .ext (mF v3 c)) n3;rw[e3];exists aS f3 (.inl (m3 _ _ hc)) (λl4 H4 n4 m4 f4=>?_);symm;have m24:=m3.trans m4;refine⟨l4,_,_,rfl,f4,LsAt.same (CG ch) m24,by rw[KW];lia,λH5 m5=>?_⟩;have RB:=m24.trans m5;have M5:=M2.same RB;exists gj (λh1=>?_) (λh1=>?_)
   .exists⟨d8 (by simp),λl6 H6 n6 m6 f6=>?_⟩;have e0:N9 Pc W fx=[]:=xm S h1;refine k l6 H6 [] (m1.free (m2.free (RB.free n6))) (m1.trans (m2.trans (RB.trans m6))) f6 (by rw[e0];rcases Tq with⟨_,rfl⟩|⟨_,rfl⟩<;>exact .nil) (by rw[e0];exact My _) (λ_ h=>nomatch h)
   .exists⟨a,p,q,a',p',q',d,kvs,e_,Pc,W,fx,oK W,rfl,M5.P.at_,M5.P.hq,O4 M5.P.nd,by lia,M5.G.at_,O4 M5.G.nd,by lia,(Z6 W).p2,(Z6 W).o2,RB _ _ (m2 _ _ hd),Vk,λps H6 kvq nps m6 hps pls=>?_⟩;have M6:=M5.same m6;have m26:=RB.trans m6;exists⟨a,p,q,kvs,Pc,rfl,M6.P.at_,by lia,λln H7 r1 r2 n7 m7 f7 or=>?_⟩;have Xj:r1=nF Pc:=O5 or.o1 (Z6 Pc).o1 (or.p1.nodup_iff.mpr (F2 S.nd)) (or.p1.trans (Z6 Pc).p1.symm);have Xk:r2=oK Pc:=O5 or.o2 (Z6 Pc).o2 (or.p2.nodup_iff.mpr (O4 S.nd)) (or.p2.trans (Z6 Pc).p2.symm);subst Xj Xk;have M7:=M6.same m7;have Xn:=m26.trans m7;exists⟨a,p,q,c,ps,kvs,A_,kvq,L,Pc,W,nF Pc,oK Pc,nF W,oK W,fx,mv,mo,rfl,Tq,⟨S,M7.P.at_,M7.P.hq,by lia,by lia,M0.big,Xn _ _ hc,ch.same Xn,m7 _ _ hps,pls.same m7⟩,λlr H8 xs n8 m8 f8 ls Tr=>?_⟩;have hrl:=LP ls;refine C6 (SqL.of f8) ?_;refine B6 (n:=xs.length) (λi out H'=>Same H8 H'/\DcAt H' (jY Pc) out ((AJ mo (N9 Pc W fx)).take i)/\∀x∈out,∃d,x=V.ref d/\H d=none) ⟨Same.refl _,.nil,λ_ h=>nomatch h⟩ (λi out H' hi hp=>⟨xs,xs[i],SqL.of (hp.1 _ _ f8),KY hi⟩) ?_ ?_
    .rintro B9 b_ N i v out H9' H9 hi ⟨s9,dc,Q_⟩ y;refine b_ λf_=>?_;obtain⟨rfl,hy⟩:=Itl.get y (SqL.of (s9 _ _ f8));obtain⟨row,RL,ar,rfl,har⟩:=P6 ls hy;have Ql:=LP dc;rw[Lp] at Ql;exists⟨rfl,?_⟩;exists⟨ln,ar,(jY Pc).map Sum.inr,row.map V.str,rfl,by rw[←vv];exact SqL.of (s9 _ _ (m8 _ _ f7)),SqL.of (s9 _ _ har),λd2 Ts=>?_⟩;rw[sh (nm:=jY Pc) S.nn];obtain⟨Ro,Vp,SA,K',_⟩:=u7 (o:= .dK (i6 ((jY Pc).zip row))) Ts;change _/\N _ (u9 H9 d2 (.dK (i6 ((jY Pc).zip row))));rw[Vp];have Xo:(N9 Pc W fx).length<=7000000:=Tr;have Wf:(AJ mo (N9 Pc W fx)).length<=(N9 Pc W fx).length:=CU;refine⟨OI (oN (by lia)),f_ _ _ ⟨s9.trans K',?_,λx hx=>?_⟩⟩
     .rw[show(AJ mo (N9 Pc W fx)).take (i+1)=(AJ mo (N9 Pc W fx)).take i++[row] by rw[LF,show(AJ mo (N9 Pc W fx))[i]?=some row from RL];rfl];exact C8 (DcAt.same dc K') ⟨d2,rfl,SA⟩
     .rcases Ld.mp hx with z|z
      .exact Q_ x z
      .exact⟨d2,Li.mp z,m1.free (m2.free (Xn.free (m8.free (s9.free Ts))))⟩
    .rintro out H9 ⟨s9,dc,Q_⟩;have Ql:=LP dc;rw[Lp] at Ql;have Xo:(N9 Pc W fx).length<=7000000:=Tr;have Wf:(AJ mo (N9 Pc W fx)).length<=(N9 Pc W fx).length:=CU;refine⟨⟨_,SqL.of (s9 _ _ f8),La _⟩,λD hD=>⟨OI (oN (by lia)),?_⟩⟩;rw[Ll (by rw[hrl];exact La _)] at dc;obtain⟨Ro,Vp,SA,K',_⟩:=u7 (H:=H9) (o:= .lst out) hD;show Q _ (u9 H9 D _);rw[Vp];exact k D Ro out (m1.free (m2.free (Xn.free (m8.free (s9.free hD))))) (m1.trans (m2.trans (Xn.trans (m8.trans (s9.trans K'))))) SA (dc.same K') Tr Q_
  .intro nx hnx;symm;rcases hf with⟨rfl,rfl⟩|⟨d,rfl,hd,Vi,Vk⟩
   .rw[if_pos (by simp)];symm;intro d H1 nd m1 f1;symm;exact hnx _ _ ⟨d,rfl,m1,f1,(d6 L0.hp nd).symm,(d6 M0.P.hq nd).symm⟩
   .rw[if_neg (by simp)];symm;exact hnx _ _ ⟨d,rfl,Same.refl _,hd,Vi,Vk⟩
def Dh (H:Hp)(nm:xL)(v:V)(rows:ZB):Prop:=(rows=[]/\v= .non)\/∃(row:xL) (r:ZB) (d:Addr),rows=row::r/\v= .ref d/\H d=some (.dK (i6 (nm.zip row)))
def dM (K:Qd):Sp:=λvs H Q _=>∃(a p q a' p' q' pl wl:Addr) (kvs e_ g_ C_:am) (L:Str->Str->Bool) (Pc W:C3) (fx:xz) (fv:V),vs=[.ref a,.ref a',.ref pl,.ref wl,fv]/\Mx K H a p q a' p' q' kvs e_ Pc W fx/\LkP K H pl wl g_ C_ L Pc W/\Ht H pl q fv fx/\∀(v:V) (H':Hp),Same H H'->Dh H' (jY Pc) v (N9 Pc W fx)->(∀d,v= .ref d->H d=none)->Q v H'
abbrev fu:=λP w K mg base=>U8 P w K mg base J0 7 "first_found" ["piece","web","piece_looks","web_looks","fixed"] [] (dM K)
def lQ {f fd}(T:Txt K mg)(pI:vS P w K mg base)(F:Fun K "first_found" "first_found" bf f fd):E4 P w K mg base J0 7 f fd ["piece","web","piece_looks","web_looks","fixed"] (dM K):=by
 walk_at "#sc_first_found"
 .obtain⟨a,p,q,a',p',q',pl,wl,kvs,e_,g_,C_,L,Pc,W,fx,fv,rfl,_⟩:=h;rfl
 .obtain⟨a,p,q,a',p',q',pl,wl,kvs,e_,g_,C_,L,Pc,W,fx,fv,rfl,M0,L0,hf,k⟩:=h;walk_at "@sc_first_found 556'0pI 9091929394317'3HL ~60525]"
  exists⟨a,p,q,a',p',q',pl,wl,kvs,e_,g_,C_,L,Pc,W,fx,fv,.int 1,some 1,rfl,M0,L0,.inr ⟨rfl,rfl⟩,hf,λl H1 xs nl m1 f1 dc _ Q_=>?_⟩;have YB:DcAt H1 (jY Pc) xs ((N9 Pc W fx).take 1):=dc;have t_:=LP YB;exists⟨!xs.isEmpty,.inl ⟨_,SqL.of f1,rfl⟩,?_⟩;cases hr:N9 Pc W fx with
  |nil=>
   rw[hr] at YB t_
   have v_:xs=[]:=MC (by simpa using t_)
   subst v_
   rw[if_neg (by decide)]
   symm
   exact k .non H1 m1 (.inl ⟨hr,rfl⟩) λ_ z=>nomatch z
  |cons row r=>
   rw[hr] at YB t_
   obtain⟨x,rfl⟩:∃x,xs=[x]:=by
    match xs,t_ with
    |[x],_=>exact⟨x,rfl⟩
   obtain⟨row',Xp,d,rfl,hd⟩:=P6 (i:=0) YB rfl
   have er:row=row':=Ly Xp
   subst er
   rw[if_pos (by rfl)]
   symm
   refine i9 (SqL.of f1) (j7 (j:=0) rfl) ?_
   symm
   exact k (.ref d) H1 m1 (.inr ⟨row,r,d,hr,rfl,hd⟩) λd' e=>by
    obtain⟨d2,e2,z⟩:=Q_ (.ref d) (by simp);have e3:d=d2:=by injection e2
    have e4:d=d':=by injection e
    rw[←e4,e3];exact z
def cU (K:Qd):Sp:=λvs H Q _=>∃(a p q a' p' q' d:Addr) (kvs e_:am) (Pc W:C3) (fx:xz),vs=[.ref a,.ref a',.ref d]/\Mx K H a p q a' p' q' kvs e_ Pc W fx/\H d=some (.dK (i6 fx))/\d≠p/\d≠q/\∀(v:V) (H':Hp),Same H H'->Dh H' (jY Pc) v (N9 Pc W fx)->(∀d,v= .ref d->H d=none)->Q v H'
abbrev fb:=λP w K mg base=>U8 P w K mg base J0 8 "first_match" ["piece","web","fixed"] [] (cU K)
def lJ {f fd}(T:Txt K mg)(bc:fu P w K mg base)(F:Fun K "first_match" "first_match" bA f fd):E4 P w K mg base J0 8 f fd ["piece","web","fixed"] (cU K):=by
 walk_at "#sc_first_match"
 .obtain⟨a,p,q,a',p',q',d,kvs,e_,Pc,W,fx,rfl,_⟩:=h;rfl
 .obtain⟨a,p,q,a',p',q',d,kvs,e_,Pc,W,fx,rfl,M0,hd,n1,n2,k⟩:=h;walk_at "@sc_first_match 76'0bc 9091q20q2142";exists k8 M0.P.at_.tup ?_;exists k8 M0.G.at_.tup ?_;symm;exact⟨a,p,q,a',p',q',p,p',kvs,e_,_,_,_,Pc,W,fx,.ref d,rfl,M0,AR M0,.inr ⟨d,rfl,hd,n1,n2⟩,k⟩
def L7 {t u:TS}{nx:L2.St->Hp->Prop}{rt:V->Hp->Prop}{bk ct:L2.St->Hp->Prop}(h:∀Uj:L2.St->Hp->Prop,(∀σ H,u ⟨nx,rt,bk,ct⟩ σ H->Uj σ H)->t ⟨Uj,rt,bk,ct⟩ σ H):jI t u ⟨nx,rt,bk,ct⟩ σ H:=h _ λ_ _ z=>z
def WebIs.up {n m:Nat}(h:WebIs n K H a p q kvs W)(l:n<=m):WebIs m K H a p q kvs W:=⟨h.at_,h.hp,h.hq,h.ne,h.nd,LJ h.len l,h.ends,h.nl⟩
structure EU (B W:C3) (fx:xz):Prop where
 big:((b9 B).length+1)*(max W.pts.length W.ts.length+1) ^ ((b9 B).filter (dZ fx)).length<=7000000
 fnd:(fx.map (·.1)).Nodup
 fin:∀x∈fx,x.1∈b9 B
def Hu (H H':Hp)(v:V)(bs:List Sd)(W:C3)(fx:xz):Prop:=
 ((∀b∈bs,N9 b.W W fx=[])/\v= .non)\/∃(i:Nat) (b:Sd) (row:xL) (r:ZB) (t d:Addr),bs[i]?=some b/\(∀b'∈bs.take i,N9 b'.W W fx=[])/\N9 b.W W fx=row::r/\v= .ref t/\H' t=some (.tup [.int (i:Int),.ref d])/\H' d=some (.dK (i6 ((jY b.W).zip row)))/\H d=none
def nN (K:Qd):Sp:=λvs H Q _=>∃(S L R:Sd) (r bl m:Addr) (bs:List Sd) (fx:xz),vs=[.ref S.a,.ref r,.ref m]/\SdIs K H S/\RuleIs K H r bl L R bs/\bs.length<=10/\H m=some (.dK (i6 fx))/\(∀b∈bs,m≠b.p/\m≠b.q/\EU b.W S.W fx)/\∀(v:V) (H':Hp),Same H H'->Hu H H' v bs S.W fx->Q v H'
abbrev rY:=λP w K mg base=>U8 P w K mg base J0 9 "barred" ["web","rule","match"] [] (nN K)
theorem xk {f fd}(T:Txt K mg)(aX:fb P w K mg base)(F:Fun K "barred" "barred" kr f fd):E4 P w K mg base J0 9 f fd ["web","rule","match"] (nN K):=by
 walk_at "#sc_barred"
 .obtain⟨S,L,R,r,bl,m,bs,fx,rfl,_⟩:=h;rfl
 .obtain⟨S,L,R,r,bl,m,bs,fx,rfl,hS,hR,TY,hm,hb,k⟩:=h;walk_at "@sc_barred 8tv~2321zc3ac4aA556'0aX 94l02doj'0rL 05]7nl357]"
  refine L7 λYC hx=>?_;nomatch bY hR.tup ?_;refine⟨_,rfl,.inl ⟨bl,_,rfl,hR.bl,?_⟩⟩;refine eA (n:=bs.length) (λi σ H'=>Same H H'/\(∃v3 v4 v5,σ=[Re S.a,Re r,Re m,v3,v4,v5])/\∀b∈bs.take i,N9 b.W S.W fx=[]) ⟨Same.refl _,⟨_,_,_,rfl⟩,λb h=>by simp at h⟩ (λi σ H' hi hp=>⟨_,.ref (bs[i]).a,hp.1.seq hR.bl,by rw[Lc,KY hi];rfl⟩) ?_ ?_
  .rintro bk B9 b_ i v σ H1 H1' hi ⟨s1,⟨v3,v4,v5,rfl⟩,i_⟩ ⟨t,x,Vq,nt,rfl,rfl⟩;refine b_ λ_ _=>?_;have l_:=Vq _ (s1.seq hR.bl);rw[Lc,KY hi] at l_;cases l_;have Xq:=LH hi;obtain⟨n1,n2,B⟩:=hb _ Xq;obtain⟨H2,e2,f2,m2,_⟩:=u7 (o:= .tup _) nt;rw[e2];have s2:=s1.trans m2;have R2:=hR.same s2;refine K2 (SqT.of f2) rfl ?_;nomatch L7 λUz hx2=>?_;nomatch⟨_,_,_,_,_,_,m,_,_,_,_,fx,rfl,⟨WebIs.up (R2.bars _ Xq) (by lia),WebIs.up (hS.same s2) (by lia),B.big,B.fnd,B.fin⟩,s2 _ _ hm,n1,n2,λv' H3 m3 fst nw=>?_⟩;refine hx2 [Re S.a,Re r,Re m,some (.int (i:Int)),some (.ref (bs[i]).a),some v'] _ ?_;rcases fst with⟨e,rfl⟩|⟨row,rr,d,e,rfl,hd⟩
   .rfl';rw[if_neg (by simp)];nomatch⟨s2.trans m3,⟨_,_,_,rfl⟩,λb h=>?_⟩;rw[LF,KY hi] at h;rcases Ld.mp h with z|z
    .exact i_ b z
    .rw[show b=bs[i] by simpa using z];exact e
   .rfl';rw[if_pos (by simp)];nomatch⟨d8 (by simp),λt4 H4 n4 m4 f4=>?_⟩;exact k _ _ (s2.trans (m3.trans m4)) (.inr ⟨i,_,row,rr,t4,d,KY hi,i_,e,rfl,f4,m4 _ _ hd,s2.free (nw d rfl)⟩)
  rintro σ H1 ⟨s1,⟨v3,v4,v5,rfl⟩,i_⟩;refine⟨⟨_,s1.seq hR.bl,by rw[KW];exact La _⟩,?_⟩;rw[Ll (La _)] at i_;refine hx [Re S.a,Re r,Re m,v3,v4,v5] H1 ?_;rfl';exact k _ _ s1 (.inl ⟨i_,rfl⟩)
def eB {l u:Option Int}{c:Nat}(h:c∈(Txt.slice x l u).cps.toList):c∈x.cps.toList:=by
 unfold Txt.slice at h;split at h
 .exact h
 .simp only[Oi] at h;obtain⟨i,_,hi⟩:=h;exact Array.mem_toList_iff.mpr (Array.mem_of_getElem? hi)
theorem pE (i:Int)(h0:0<=i)(h1:i<26):cF i∈kSL.cps.toList:=by
 have hl:kSL.cps.toList.length=26:=by decide+kernel
 unfold cF;rw[LL,KY (show i.toNat<kSL.cps.toList.length by lia)];exact LH _
def nv (b:Str)(at_ c:Int)(k:Nat):Str:=Txt.slice b none (some at_)++(⟨#[cF ((c+(0+(k:Int))) % 26)]⟩:Str)++Txt.slice b (some at_) none
theorem Bd (b:Str)(at_ c:Int)(n:Nat)(hn:n<=26):((List.range n).map (nv b at_ c)).Nodup:=lj λi j hi hj e=>by
 have z:=Cp e;have e1:(c+(0+(i:Int))) % 26=(((c+(0+(i:Int))) % 26).toNat:Int):=md _ (by decide);have e2:(c+(0+(j:Int))) % 26=(((c+(0+(j:Int))) % 26).toNat:Int):=md _ (by decide);rw[e1,e2] at z;have z2:=sk _ _ (by lia) (by lia) z;lia
variable {c:Int}
theorem xF {b:Str}{at_:Int}{k:Nat}(h:∀x∈b.cps.toList,x∈kSL.cps.toList)(hb:b.length<=7)(h0:0<=at_)(h1:at_<=b.length):N1 (nv b at_ c k)=true:=by
 have g1:=su b at_ h0 h1;have g2:=lN b at_ h0 h1;have hl:(nv b at_ c k).length=(Txt.slice b none (some at_)).length+1+(Txt.slice b (some at_) none).length:=by
  unfold nv;rw[hJ,hJ,aN]
 unfold N1 U9;rw[hl,LA (by lia),LA (by lia),NV,NV];unfold rZ;rw[LU];intro x hx;refine LA ?_;have l_:x∈((Txt.slice b none (some at_)).cps++ #[cF ((c+(0+(k:Int))) % 26)]++(Txt.slice b (some at_) none).cps).toList:=hx;simp only[Rf,Ld] at l_;rcases l_ with(z|z)|z
 .exact h x (eB z)
 .have:x=cF ((c+(0+(k:Int))) % 26):=by simpa using z
  rw[this];exact pE _ (by lia) (by lia)
 .exact h x (eB z)
def cM (K:Qd):Sp:=λvs H Q _=>∃(a:Addr) (ns:List Int) (k:Int),vs=[.ref a,.int k]/\SqL K H a (ns.map V.int)/\ns.length<=63/\0<=k/\∀m:Int,Q (.int m) H
def dw (K:Qd):Sp:=λvs H Q _=>∃c:Int,vs=[.int c,.int 16]/\∀(p:Addr) (H':Hp) (xs:List Int),H p=none->Same H H'->H' p=some (.lst (xs.map V.int))->xs.length=16->(∀x∈xs,0<=x)->Q (.ref p) H'
def fi (K:Qd):Sp:=λvs H Q _=>∃c n:Int,vs=[.int c,.int n]/\0<=n/\n<=26/\Gz H Q λss=>ss.length=n.toNat/\ss.Nodup/\∀s∈ss,N1 s=true
abbrev ak:=λP w K mg base=>U8 P w K mg base J0 1 "_law_mixed" ["_law_cell","_law_k"] [] (eZ K)
theorem mW {f fd}(T:Txt K mg)(F:Fun K "_law_mixed" "_law_mixed" bR f fd):E4 P w K mg base J0 1 f fd ["_law_cell","_law_k"] (eZ K):=by
 walk_at "#sc__law_mixed"
 .obtain⟨c,k,rfl,_⟩:=h;rfl
 .obtain⟨c,k,rfl,h0,h1,q⟩:=h;walk_at "@sc__law_mixed 52iei001J.1e011152ieeJ.0202J.101117iJ.02021"
  symm;exact q _ (by lia)
abbrev W8:=λP w K mg base=>U8 P w K mg base J0 1 "_law_cell_at" ["_law_script","_law_k"] [] (cM K)
def jK {f fd}(T:Txt K mg)(F:Fun K "_law_cell_at" "_law_cell_at" av f fd):E4 P w K mg base J0 1 f fd ["_law_script","_law_k"] (cM K):=by
 walk_at "#sc__law_cell_at"
 .obtain⟨a,ns,k',rfl,_⟩:=h;rfl
 .obtain⟨a,ns,k',rfl,hA,hl,h0,k⟩:=h;walk_at "@sc__law_cell_at 8oj{01k407b00171"
  exists F0 (p0 hA ?_);rw[KW];exists J6 (λh1=>?_) (λh1=>?_)
  .symm;obtain⟨v,hv,Ra⟩:=iX (xs:=ns.map V.int) h0 (by rw[KW];exact h1);rw[Lc] at Ra;obtain⟨x,hx,rfl⟩:=LB.mp Ra;exact i9 hA hv (k _)
  .symm;exact k 0
abbrev fm:=λP w K mg base=>U8 P w K mg base J0 1 "_law_stream" ["_law_cell","_law_many"] [] (dw K)
theorem mi {f fd}(T:Txt K mg)(F:Fun K "_law_stream" "_law_stream" bx f fd):E4 P w K mg base J0 1 f fd ["_law_cell","_law_many"] (dw K):=by
 walk_at "#sc__law_stream"
 .obtain⟨c,rfl,_⟩:=h;rfl
 .obtain⟨c,rfl,k⟩:=h;walk_at "@sc__law_stream 52ei001153E8tv*41f4a52ieeJ.0202J.10411dIHR#ZY033iJ.02021703"
  exists⟨d8 (by simp),λlo H1 no m1 f1=>?_⟩;exists X4 (by lia) (by lia) ?_;refine M9 (n:=16) (λi σ H'=>(∃(m:Int) (v:Option V),σ=[some (.int c),some (.int 16),some (.int m),Re lo,v]/\0<=m/\m<=2200000000)/\Same H H'/\∃xs:List Int,H' lo=some (.lst (xs.map V.int))/\xs.length=i/\∀x∈xs,0<=x)
   ⟨⟨_,_,rfl,by lia,by lia⟩,m1,[],f1,rfl,λ_ h=>nomatch h⟩ (λi σ H' hi _=>by exact hi) ?_ ?_
  .rintro B9 b_ i v σ H2' H2 hi ⟨⟨m,v',rfl,h0,h1⟩,s2,xs,g2,hl,hx⟩ ⟨rfl,rfl⟩;refine b_ λ_ _=>?_;symm;have b0:0<=(m*m+69621*(0+(i:Int))+11) % 2147483647:=by lia
   have b1:(m*m+69621*(0+(i:Int))+11) % 2147483647<2147483647:=by lia
   generalize (m*m+69621*(0+(i:Int))+11) % 2147483647=m' at b0 b1⊢;refine⟨.inl ⟨rfl,_,SqL.of g2⟩,?_⟩;exists⟨lo,_,_,rfl,rfl,g2,U4 (by rw[KW];lia),?_⟩;walk_at "X";refine⟨⟨m',_,rfl,b0,by lia⟩,E5 s2 no,xs++[m'*m' % 2147483587],?_,by rw[Lg,hl];rfl,λx l_=>?_⟩
   .rw[b5,Lh];rfl
   .rcases Ld.mp l_ with z|z
    .exact hx x z
    .rw[Li.mp z];lia
  .rintro σ H2 ⟨⟨m,v',rfl,h0,h1⟩,s2,xs,g2,hl,hx⟩;refine⟨La _,?_⟩;symm;exact k lo H2 xs no s2 g2 hl hx
abbrev bO:=λP w K mg base=>U8 P w K mg base J0 1 "_law_words" ["_law_number","_law_many"] [] (fi K)
theorem mK {f fd}(T:Txt K mg)(F:Fun K "_law_words" "_law_words" cx f fd):E4 P w K mg base J0 1 f fd ["_law_number","_law_many"] (fi K):=by
 walk_at "#sc__law_words"
 .obtain⟨c,n,rfl,_⟩:=h;rfl
 .obtain⟨c,n,rfl,h0,h1,k⟩:=h;walk_at "@sc__law_words 52<53<8tv*3h(q1q1q1g11i001f4ad~o3e03b2iB00e041155iB001ek4317x_law_k;3250;*41f0m_law_k,_law_base,_law_letters,_law_at,_law_number;Gee)01-&03b2ie04001)01&03-"
  exists⟨d8 (by simp),λl1 H1 n1 m1 f1=>?_⟩;symm;obtain⟨v,hv,Ra⟩:=iX (xs:=([0,0,2,5,7]:List Int).map V.int) (i:=c % 5) (by lia) (by show _<((5:Nat):Int);lia);rw[Lc] at Ra;obtain⟨z,hz,rfl⟩:=LB.mp Ra;have Tn:0<=z/\z<=7:=by
   have hm:=Ln hz;simp only[LZ,List.not_mem_nil,or_false] at hm;lia
  refine i9 (SqL.of f1) hv ?_;refine X4 (by lia) (by lia) ?_;refine M9 (n:=z.toNat) (λi σ H'=>H'=H1/\∃(b:Str) (v:Option V),σ=[some (.int c),some (.int n),some (.str kSL),some (.str b),v,none]/\b.length=i/\∀x∈b.cps.toList,x∈kSL.cps.toList) ⟨rfl,_,none,rfl,rfl,λx hx=>by cases hx⟩ (λi σ H' hi _=>by exact hi) ?_ ?_
  .rintro B9 b_ i v σ H2' H2 hi ⟨rfl,b,v',rfl,hb,hbi⟩ ⟨rfl,rfl⟩;refine b_ λ_ _=>?_;exists bM iN (tq (c/(0+(i:Int)+3) % 26) (by lia) (by lia)) ?_;refine U7 (j:=⟨#[cF (c/(0+(i:Int)+3) % 26)]⟩) (d8 (by rw[aN];lia)) ?_;exists⟨rfl,_,_,rfl,by rw[hJ,aN];lia,λx hx=>?_⟩;have l_:x∈(b.cps++ #[cF (c/(0+(i:Int)+3) % 26)]).toList:=hx;simp only[Rf,Ld] at l_;rcases l_ with z|z
   .exact hbi x z
   .have:x=cF (c/(0+(i:Int)+3) % 26):=by simpa using z
    rw[this];exact pE _ (by lia) (by lia)
  .rintro σ H2 ⟨rfl,b,v',rfl,hb,hbi⟩;refine⟨La _,?_⟩;exists F0 (eN (d8 (by lia)) ?_);symm;have q0:0<=c/5 % ((b.length:Int)+1):=Mo _ (by lia);have q1:c/5 % ((b.length:Int)+1)<(b.length:Int)+1:=Mc _ (by lia);generalize c/5 % ((b.length:Int)+1)=at_ at q0 q1⊢;refine X4 h0 (by lia) ?_;refine B6 (n:=n.toNat) (λi out H'=>H'=H2/\out=(List.range i).map λk=>V.str (nv b at_ c k)) ⟨rfl,rfl⟩ (λi out H' hi _=>by exact hi) ?_ ?_
   .rintro B9 b_ N i v out To H3 hi ⟨rfl,rfl⟩ ⟨rfl,rfl⟩;refine b_ λf_=>?_;exists⟨rfl,?_⟩;exists iz (d8 (by lia)) ?_;symm;have hc3:=tq ((c+(0+(i:Int))) % 26) (by lia) (by lia);refine bM iN hc3 ?_;have g1:=NQ b Option.none (some at_);have g2:=NQ b (some at_) Option.none;refine U7 (j:=⟨#[cF ((c+(0+(i:Int))) % 26)]⟩) (d8 (by rw[aN];lia)) ?_;exists iz (d8 (by lia)) ?_;refine U7 (d8 (by rw[hJ,aN];lia)) ?_;refine⟨d8 (by rw[KW,MW];lia),f_ _ _ ⟨rfl,?_⟩⟩;rw[Nv,Lh];rfl
   .rintro out H3 ⟨rfl,rfl⟩;refine⟨La _,λD hD=>⟨d8 (by rw[KW,MW];lia),?_⟩⟩;obtain⟨H5,e5,f5,m5,_⟩:=u7 (o:= .lst _) hD;refine k D _ ((List.range n.toNat).map (nv b at_ c)) (m1.free hD) ?_ ?_ ⟨by rw[KW,MW],Bd _ _ _ _ (by lia),λs hs=>?_⟩
    .show Same _ (u9 _ D _);rw[e5];exact m1.trans m5
    .show u9 _ D _ D=_;rw[b5,LY];rfl
    .obtain⟨i,_,rfl⟩:=KZ.mp hs;exact xF hbi (by lia) q0 (by lia)
section
open PySem.Builtin PySem.Builtin.Str
theorem vJ (l:List Nat):∀n,(List.range n).filterMap (λk=>l[k]?)=l.take n
 |0=>by simp
 |n+1=>by
  rw[Nv,List.filterMap_append,vJ l n,LF];congr 1
theorem Ii (n:Nat)(i:Int)(h0:0<=i)(h1:i<=n):strSliceIndices none (some i) 1 n=List.range i.toNat:=by
 unfold strSliceIndices sliceRange;simp only[show(1:Int)>0 by decide,Pw];rw[if_neg (show ¬i<0 by lia),show max 0 (min i (n:Int))=i by lia];have e:(if(0:Int)<i then(i -0+1 -1)/1 else 0)=i:=by split<;>lia
 rw[e];refine(MF λk _=>?_).trans (List.map_id _);show(0+1*(k:Int)).toNat=k;lia
theorem uA (x:Str)(i:Int)(h0:0<=i)(h1:i<=x.length):(Txt.slice x none (some i)).cps.toList=x.cps.toList.take i.toNat:=by
 unfold Txt.slice;rw[Ii x.length i h0 h1];split
 .next h=>
  have h':i.toNat=x.length:=by simpa using h
  have hl:x.cps.toList.length=x.length:=by show _=x.cps.size;simp
  rw[Ll (by lia)]
 .have e:(λk:Nat=>x.cps[k]?)=λk=>x.cps.toList[k]?:=by funext k;simp
  show(List.filterMap (λk=>x.cps[k]?) (List.range i.toNat)).toArray.toList=_;rw[e,vJ]
end
def qk (l:List Nat):Str:=⟨l.toArray⟩
def xG (l:List Nat)(c:Nat):qk l++(⟨#[c]⟩:Str)=qk (l++[c]):=by
 unfold qk;show(⟨l.toArray++ #[c]⟩:Str)=_;congr 1;simp
def gr (l:List Nat):(qk l).length=l.length:=by
 show l.toArray.size=_;simp
def eO (s:Str)(i:Int):Nat:=s.cps.toList.getD i.toNat 0
def yB (s:Str)(i:Int)(h0:0<=i)(h1:i<s.cps.toList.length):kC s.cps.toList i=some (eO s i):=by
 obtain⟨v,hv,Ra⟩:=iX (xs:=s.cps.toList) h0 h1;rw[hv];unfold eO;rw[LL,Ra];rfl
abbrev kSM:Str:=kSL++("0123456789.":Str)
def yM (c:Int):Int:=([0,0,3,9,22]:List Int).getD (c % 5).toNat 0
def aG (j:Nat):Int:=if 0<j then 37 else 26
def jO (c:Int)(i:Nat):List Nat:=(List.range i).map λj:Nat=>eO kSM (c/((j:Int)+3) % aG j)
def Q1 (c:Int):Str:=qk (jO c (yM c).toNat)
def DU (c:Int)(k:Nat):Str:=(⟨#[cF ((c+(k:Int)) % 26)]⟩:Str)++(⟨#[eO "0123456789." ((k:Int) % 11)]⟩:Str)
def bQ (c:Int)(k:Nat):Str:=Txt.slice (Q1 c) none (some (c/5 % (((Q1 c).length:Int)+1)))++DU c k++Txt.slice (Q1 c) (some (c/5 % (((Q1 c).length:Int)+1))) none
def vZ (c:Int)(i:Nat):jO c (i+1)=jO c i++[eO kSM (c/((i:Int)+3) % aG i)]:=by
 unfold jO;rw[Nv,Lh];rfl
def gL (c:Int)(i:Nat):(jO c i).length=i:=by unfold jO;rw[KW,MW]
def An (c:Int):0<=yM c/\yM c<=22:=by
 unfold yM;generalize (c % 5).toNat=k;rcases k with _|_|_|_|_|k<;>first|decide|exact⟨Int.le_refl 0,(by decide:(0:Int)<=22)⟩
def gI (K:Qd):Sp:=λvs H Q _=>∃(c:Int) (k:Nat),vs=[.int c,.int k]/\k<=300/\∀H',Same H H'->Q (.str (bQ c k)) H'
abbrev dk:=λP w K mg base=>U8 P w K mg base J0 1 "_law_name" ["_law_number","_law_k"] [] (gI K)
theorem pR {f fd}(T:Txt K mg)(F:Fun K "_law_name" "_law_name" cY f fd):E4 P w K mg base J0 1 f fd ["_law_number","_law_k"] (gI K):=by
 walk_at "#sc__law_name"
 .obtain⟨c,k',rfl,_⟩:=h;rfl
 .obtain⟨c,k',rfl,hk,k⟩:=h;walk_at "@sc__law_name 52<53<8tv*3h(q1q1q1g11i001f4ad~o3e03he02<iB00e041h(g11:'0iF ~q~p3N'0zw 04155iB001ek43156eb2ie00011h<i0117ee)03-&0506)03&05-"
  exists⟨d8 (by simp),λl1 H1 n1 m1 f1=>?_⟩;symm;obtain⟨v,hv,Ra⟩:=iX (xs:=([0,0,3,9,22]:List Int).map V.int) (i:=c % 5) (by lia) (by show _<((5:Nat):Int);lia);rw[Lc] at Ra;obtain⟨z,hz,rfl⟩:=LB.mp Ra;have ez:yM c=z:=by unfold yM;rw[LL,hz];rfl
  have Tn:=An c;rw[ez] at Tn;refine i9 (SqL.of f1) hv ?_;refine X4 (by lia) (by lia) ?_;refine M9 (n:=z.toNat) (λi σ H'=>Same H H'/\∃(v:Option V),σ=[some (.int c),some (.int k'),some (.str kSL),some (.str (qk (jO c i))),v,none,none]) ⟨m1,none,rfl⟩ (λi σ H' hi _=>by exact hi) ?_ ?_
  .rintro B9 b_ i v σ H2' H2 hi ⟨s2,v',rfl⟩ ⟨rfl,rfl⟩;refine b_ λ_ _=>?_;have TY:=gr (jO c i);rw[gL] at TY;exists U7 (by decide+kernel) ?_;exists⟨d8 (by simp),λl3 H3 n3 m3 f3=>?_⟩;exists .inr ⟨_,rfl,?_⟩;have hmod:aG i=26\/aG i=37:=by unfold aG;split<;>simp
   have hix:kC [V.int 26,V.int 37] (if decide (0<0+(i:Int))=true then(1:Int) else 0)=some (.int (aG i)):=by
    unfold aG;by_cases h:0<i
    .rw[if_pos (LA (by lia)),if_pos h];rfl
    .rw[if_neg (by rw[LM (by lia)];simp),if_neg h];rfl
   refine i9 (SqL.of f3) hix ?_;have hmp:0<aG i:=by lia
   refine Kh hmp ?_;have q0:0<=c/(0+(i:Int)+3) % aG i:=Mo _ (by lia);have q1:c/(0+(i:Int)+3) % aG i<aG i:=Mc _ hmp;have Tt:kSM.cps.toList.length=37:=by decide+kernel
   refine bM (by decide+kernel) (yB kSM _ q0 (by rw[Tt];lia)) ?_;refine U7 (j:=⟨#[eO kSM (c/(0+(i:Int)+3) % aG i)]⟩) (d8 (by rw[aN];lia)) ?_;exists⟨s2.trans m3,some (.int (0+(i:Int))),?_⟩;rw[vZ,←xG,QB (i:Int)];rfl
  .rintro σ H2 ⟨s2,v',rfl⟩;refine⟨La _,?_⟩;have eb:qk (jO c z.toNat)=Q1 c:=by unfold Q1;rw[ez]
   rw[eb];have TY:(Q1 c).length<=22:=by rw[←eb,gr,gL];lia
   exists F0 (eN (d8 (by lia)) ?_);exists bM iN (tq ((c+(k':Int)) % 26) (by lia) (by lia)) ?_;symm;have Ql:("0123456789.":Str).cps.toList.length=11:=by decide+kernel
   refine bM (by decide+kernel) (yB "0123456789." ((k':Int) % 11) (by lia) (by rw[Ql];lia)) ?_;refine U7 (i:=⟨#[cF ((c+(k':Int)) % 26)]⟩) (j:=⟨#[eO "0123456789." ((k':Int) % 11)]⟩) (d8 (by rw[aN,aN];lia)) ?_;symm;have g1:=NQ (Q1 c) Option.none (some (c/5 % (((Q1 c).length:Int)+1)));have g2:=NQ (Q1 c) (some (c/5 % (((Q1 c).length:Int)+1))) Option.none;have gt:(DU c k').length=2:=rfl;refine iz (d8 (by lia)) ?_;exists U7 (j:=DU c k') (d8 (by lia)) ?_;exists iz (d8 (by lia)) ?_;refine U7 (d8 (by rw[hJ];lia)) ?_;exact k _ s2
def rA (c:Int)(k:Nat):(bQ c k).cps.toList=(Txt.slice (Q1 c) none (some (c/5 % (((Q1 c).length:Int)+1)))).cps.toList++[cF ((c+(k:Int)) % 26),eO "0123456789." ((k:Int) % 11)]++(Txt.slice (Q1 c) (some (c/5 % (((Q1 c).length:Int)+1))) none).cps.toList:=by
 show((Txt.slice (Q1 c) none (some (c/5 % (((Q1 c).length:Int)+1)))).cps++(#[cF ((c+(k:Int)) % 26)]++ #[eO "0123456789." ((k:Int) % 11)])++(Txt.slice (Q1 c) (some (c/5 % (((Q1 c).length:Int)+1))) none).cps).toList=_;simp
def xx:∀i j:Nat,i<11->j<11->eO "0123456789." i=eO "0123456789." j->i=j:=by
 have h:∀i,i<11->∀j,j<11->eO "0123456789." (i:Nat)=eO "0123456789." (j:Nat)->i=j:=by decide+kernel
 exact λi j hi hj=>h i hi j hj
variable {i j:Nat}
theorem qo (hi:i<286)(hj:j<286)(h:bQ c i=bQ c j):i=j:=by
 have z:=MG (λs:Str=>s.cps.toList) h;simp only[rA,Mi,List.append_cancel_left_eq,NG,List.cons.injEq] at z;have z1:=z.1;have e1:(c+(i:Int)) % 26=(((c+(i:Int)) % 26).toNat:Int):=md _ (by decide);have e2:(c+(j:Int)) % 26=(((c+(j:Int)) % 26).toNat:Int):=md _ (by decide);rw[e1,e2] at z1;have z2:=sk _ _ (by lia) (by lia) z1;have z3:=z.2.1;have e3:(i:Int) % 11=(((i:Int) % 11).toNat:Int):=md _ (by decide);have e4:(j:Int) % 11=(((j:Int) % 11).toNat:Int):=md _ (by decide);rw[e3,e4] at z3;have z4:=xx _ _ (by lia) (by lia) z3;lia
theorem yR (s:Str)(i:Int)(h0:0<=i)(h1:i<s.cps.toList.length):eO s i∈s.cps.toList:=by
 unfold eO;rw[LL,KY (show i.toNat<s.cps.toList.length by lia)];exact LH _
def HV:kSM.cps.toList=kNS.cps.toList:=by decide+kernel
def Df:∀x∈kSL.cps.toList,x∈kNS.cps.toList:=by decide+kernel
def Hy:∀x∈("0123456789.":Str).cps.toList,x∈kNS.cps.toList:=by decide+kernel
def Cu:∀i:Nat,i<26->eO kSM (i:Nat)∈kSL.cps.toList:=by decide+kernel
theorem AG {x:Nat}(h:x∈(Q1 c).cps.toList):x∈kNS.cps.toList:=by
 have h':x∈jO c (yM c).toNat:=by simpa [Q1,qk] using h
 obtain⟨j,_,rfl⟩:=KZ.mp h';rw[←HV];have hl:kSM.cps.toList.length=37:=by decide+kernel
 have hm:aG j=26\/aG j=37:=by unfold aG;split<;>simp
 have q0:0<=c/((j:Int)+3) % aG j:=Mo _ (by lia);have q1:c/((j:Int)+3) % aG j<aG j:=Mc _ (by lia);exact yR _ _ q0 (by rw[hl];lia)
theorem BN (c:Int):(Q1 c).length<=22:=by
 have:=An c;unfold Q1;rw[gr,gL];lia
theorem rO (c:Int)(k:Nat):V4 (bQ c k)=true:=by
 have hb:=BN c;have q0:0<=c/5 % (((Q1 c).length:Int)+1):=Mo _ (by lia);have q1:c/5 % (((Q1 c).length:Int)+1)<((Q1 c).length:Int)+1:=Mc _ (by lia);have Sb:=rA c k;have g1:=su (Q1 c) _ q0 (by lia);have g2:=lN (Q1 c) _ q0 (by lia);have UW:=uA (Q1 c) _ q0 (by lia);generalize c/5 % (((Q1 c).length:Int)+1)=at_ at q0 q1 Sb g1 g2 UW;have hl:(bQ c k).length=(bQ c k).cps.toList.length:=fT _;have e1:=fT (Txt.slice (Q1 c) none (some at_));have e2:=fT (Txt.slice (Q1 c) (some at_) none);have hlen:(bQ c k).length=(Txt.slice (Q1 c) none (some at_)).length+2+(Txt.slice (Q1 c) (some at_) none).length:=by
  rw[hl,Sb,Lg,Lg,e1,e2];rfl
 have dl:("0123456789.":Str).cps.toList.length=11:=by decide+kernel
 unfold V4;rw[LN];constructor
 .unfold U9;rw[hlen,LA (by lia),LA (by lia),NV,NV];unfold rZ;rw[LU,Sb];intro x hx;refine LA ?_;rcases Ld.mp hx with z|z
  .rcases Ld.mp z with z|z
   .exact AG (eB z)
   .simp only[LZ,List.not_mem_nil,or_false] at z;rcases z with rfl|rfl
    .exact Df _ (pE _ (by lia) (by lia))
    .exact Hy _ (yR _ _ (by lia) (by rw[dl];lia))
  .exact AG (eB z)
 .unfold Jb;refine LA ?_;rw[Sb,UW];by_cases h0:at_=0
  .rw[h0];exact pE _ (by lia) (by lia)
  .have Se:(Q1 c).cps.toList=jO c (yM c).toNat:=by simp [Q1,qk]
   have TY:(Q1 c).length=(yM c).toNat:=by unfold Q1;rw[gr,gL]
   obtain⟨m,hm⟩:∃m,(yM c).toNat=m+1:=⟨(yM c).toNat -1,by lia⟩
   obtain⟨t,ht⟩:∃t,at_.toNat=t+1:=⟨at_.toNat -1,by lia⟩
   rw[Se,hm,ht];unfold jO;rw[OB,Mg,List.take_succ_cons,NG,NG,List.headD_cons];have q2:(c/(((0:Nat):Int)+3) % aG 0)=(((c/(((0:Nat):Int)+3) % aG 0).toNat:Nat):Int):=by
    have:aG 0=26:=rfl;rw[this];lia
   rw[q2];exact Cu _ (by have:aG 0=26:=rfl;rw[this];lia)
def ji (K:Qd):Sp:=λvs H Q _=>∃(a b:Addr) (c:Int) (ns:List Int) (ks:xL),vs=[.ref a,.int c,.ref b]/\SqL K H a (ns.map V.int)/\ns.length<=63/\SqL K H b (ks.map V.str)/\0<ks.length/\ks.length<=3/\(∀s∈ks,N1 s=true)/\∀(a p q:Addr) (kvs:am) (W:C3) (H':Hp),Same H H'->WebIs 60 K H' a p q kvs W->gS W->W.pts.length+W.ts.length<=12->(∀x∈b9 W,∃j,j<13/\x=bQ c j)->Q (.ref a) H'
abbrev ml:=λP w K mg base=>U8 P w K mg base J0 2 "_law_web" ["_law_script","_law_number","_law_kinds_here"] [] (ji K)
theorem sv {f fd}(T:Txt K mg)(J3:ak P w K mg base)(F4:W8 P w K mg base)(Q9:dk P w K mg base)(F:Fun K "_law_web" "_law_web" fS f fd):E4 P w K mg base J0 2 f fd ["_law_script","_law_number","_law_kinds_here"] (ji K):=by
 walk_at "#sc__law_web"
 .obtain⟨a,b,c,ns,ks,rfl,_⟩:=h;rfl
 .obtain⟨a,b,c,ns,ks,rfl,hA,hl,hC,hk0,hk3,TX,k⟩:=h;walk_at "@sc__law_web 53Q54Q8tv*3e1iB0111f5a566~dq6~c903e1054557sWVU43d'3aT yTju07Ejui0611dCb2iB061k42036'0Q9 l1558ngb7iB061k47b7iB061k47dCen3b2iB061k4208046'0Q9 l157nl34"
  symm;intro p H1 np m1 f1;symm;intro q H2 nq m2 f2;have YD:p≠q:=λz=>by rw[←z,f1] at nq;cases nq
  have nq0:H q=none:=m1.free nq;exists X4 (by lia) (by lia) ?_;refine M9 (n:=(3+c/7 % 10).toNat) (λi σ H'=>∃(pts:xz) (kvs:am) (ts:List (Str×N3)) (v1 v2 v3 v4:Option V),σ=[Re a,some (.int c),Re b,Re p,Re q,v1,v2,v3,v4]/\Same H H'/\H' p=some (.dK (i6 pts))/\H' q=some (.dK kvs)/\TiesIs K H' kvs ts/\(pts.map (·.1)++ts.map (·.1)).Nodup/\(∀x∈pts.map (·.1)++ts.map (·.1),x∈(List.range i).map (bQ c))/\pts.length+ts.length=i/\(∀x∈ts,x.2.2.1∈pts.map (·.1)/\x.2.2.2∈pts.map (·.1))/\(∀x∈pts,N1 x.2=true)/\∀x∈ts,N1 x.2.1=true)
   ⟨[],[],[],_,_,_,_,rfl,m1.trans m2,m2 _ _ f1,f2,.nil,Mz,(λ_ h=>nomatch h),rfl,(λ_ h=>nomatch h),(λ_ h=>nomatch h),λ_ h=>nomatch h⟩ (λi σ H' hi _=>by exact hi) ?_ ?_
  .rintro B9 b_ i v σ To H3 hi ⟨pts,kvs,ts,v1,v2,v3,v4,rfl,s3,g3,t3,w3,d1,d2,l1,l2,k1,k2⟩ ⟨rfl,rfl⟩;refine b_ λ_ _=>?_;replace hi:i<=12:=by lia
   have e7:(List.range (i+1)).map (bQ c)=(List.range i).map (bQ c)++[bQ c i]:=by rw[Nv,Lh];rfl
   have nin:bQ c i∉(List.range i).map (bQ c):=λm=>by
    obtain⟨j,hj,e⟩:=KZ.mp m;have Xr:=Nb.mp hj;have:=qo (by lia) (by lia) e;lia
   have fresh:bQ c i∉pts.map (·.1)++ts.map (·.1):=λm=>nin (d2 _ m);have Vr:∀x∈pts.map (·.1)++ts.map (·.1),x∈(List.range (i+1)).map (bQ c):=λx hx=>by rw[e7];exact Lb _ (d2 x hx)
   have here:bQ c i∈(List.range (i+1)).map (bQ c):=by rw[e7];simp
   exists⟨a,ns,_,rfl,s3.seq hA,hl,by lia,λm=>?_⟩;exists⟨_,_,rfl,by lia,by lia,λx v_=>?_⟩;exists D0 (ss:=pts.map (·.1)) (.inl g3) (by rw[K5,C9]) (by rw[KW];lia) (λs1 a1 a2 l5 H5 n5 m5 f5=>?_);have Tu:=a1.length_eq;rw[KW] at Tu;exists⟨d8 (by simp),λl6 H6 n6 m6 f6=>?_⟩;have h6:=m6 _ _ f5;have s6:=s3.trans (m5.trans m6);have g6:=m6 _ _ (m5 _ _ g3);have t6:=m6 _ _ (m5 _ _ t3);have w6:=w3.mono (m5.trans m6).le;refine mO (kO (SqL.of h6) (SqL.of f6) (V5 _) rfl ?_);exists Y5 (λhz=>?_) (λhz=>?_)
   .exists F0 (p0 (s6.seq hC) ?_);rw[KW];symm;obtain⟨kd,Rp,Tv⟩:=O2 (ss:=ks) (i:=x/3 % (ks.length:Int)) (Mo _ (by lia)) (Mc _ (by lia));refine i9 (s6.seq hC) Rp ?_;exists⟨c,i,by rw[QB];rfl,by lia,λH7 m7=>?_⟩;have s7:=s6.trans m7;have g7:=m7 _ _ g6;have t7:=m7 _ _ t6;have w7:=w6.mono m7.le;refine P9 (C5 (k:=Sum.inr (bQ c i)) g7 (d8 (by unfold i6;rw[KW];lia)) ?_);have ep:F7 (i6 pts) (Sum.inr (bQ c i):j0) (.str kd)=i6 (pts++[(bQ c i,kd)]):=by
     rw[Q7 _ (P0 (by rw[K5,←C9];exact λm=>fresh (Lb _ (Z0 m))))];unfold i6;rw[Lh];rfl
    walk_at "X";refine⟨pts++[(bQ c i,kd)],kvs,ts,_,_,_,_,rfl,E5 s7 np,by rw[b5,ep],by rw[b7 (MY YD)];exact t7,Paired.imp' (λ_ _ z=>ie g7 z) w7,zv d1 fresh,vH Vr here,?_,?_,?_,λy hy=>k2 y hy⟩
    .rw[Lg,Lq];lia
    .intro x hx;rw[Lh];walk_at "X";exact⟨Lb _ (l2 x hx).1,Lb _ (l2 x hx).2⟩
    .intro y hy;rcases Ld.mp hy with h'|h'
     .exact k1 y h'
     .rw[Li.mp h'];exact TX _ Tv
   .exists J6 (λh3=>?_) (λh3=>?_)
    .exists F0 (p0 (s6.seq hC) ?_);rw[KW];symm;obtain⟨kd,Rp,Tv⟩:=O2 (ss:=ks) (i:=x/3 % (ks.length:Int)) (Mo _ (by lia)) (Mc _ (by lia));refine i9 (s6.seq hC) Rp ?_;exists⟨c,i,by rw[QB];rfl,by lia,λH7 m7=>?_⟩;have s7:=s6.trans m7;have g7:=m7 _ _ g6;have t7:=m7 _ _ t6;have w7:=w6.mono m7.le;refine P9 (C5 (k:=Sum.inr (bQ c i)) g7 (d8 (by unfold i6;rw[KW];lia)) ?_);have ep:F7 (i6 pts) (Sum.inr (bQ c i):j0) (.str kd)=i6 (pts++[(bQ c i,kd)]):=by
      rw[Q7 _ (P0 (by rw[K5,←C9];exact λm=>fresh (Lb _ (Z0 m))))];unfold i6;rw[Lh];rfl
     walk_at "X";refine⟨pts++[(bQ c i,kd)],kvs,ts,_,_,_,_,rfl,E5 s7 np,by rw[b5,ep],by rw[b7 (MY YD)];exact t7,Paired.imp' (λ_ _ z=>ie g7 z) w7,zv d1 fresh,vH Vr here,?_,?_,?_,λy hy=>k2 y hy⟩
     .rw[Lg,Lq];lia
     .intro x hx;rw[Lh];walk_at "X";exact⟨Lb _ (l2 x hx).1,Lb _ (l2 x hx).2⟩
     .intro y hy;rcases Ld.mp hy with h'|h'
      .exact k1 y h'
      .rw[Li.mp h'];exact TX _ Tv
    .have RJ:0<pts.length:=by
      cases pts with
      |nil=>exact absurd hz (by rw[List.Perm.eq_nil a1];decide)
      |cons _ _=>simp
     exists F0 (p0 (SqL.of h6) ?_);rw[KW,Tu];symm;obtain⟨o1,So,YE⟩:=O2 (ss:=s1) (i:=x/9 % (pts.length:Int)) (Mo _ (by lia)) (by rw[Tu];exact Mc _ (by lia));refine i9 (SqL.of h6) So ?_;exists F0 (p0 (SqL.of h6) ?_);rw[KW,Tu];symm;obtain⟨o2,RW,hm2⟩:=O2 (ss:=s1) (i:=x/101 % (pts.length:Int)) (Mo _ (by lia)) (by rw[Tu];exact Mc _ (by lia));refine i9 (SqL.of h6) RW ?_;exists⟨d8 (by simp),λl8 H8 n8 m8 f8=>?_⟩;have s8:=s6.trans m8;exists F0 (p0 (s8.seq hC) ?_);rw[KW];symm;obtain⟨kd,Rp,Tv⟩:=O2 (ss:=ks) (i:=x/3 % (ks.length:Int)) (Mo _ (by lia)) (Mc _ (by lia));refine i9 (s8.seq hC) Rp ?_;exists⟨d8 (by simp),λl9 H9 n9 m9 f9=>?_⟩;exists .inr (.inr (.inr ⟨l9,l8,_,_,rfl,rfl,SqT.of f9,SqT.of (m9 _ _ f8),by simp,d8 (by simp),(λz=>by cases z),λ_ Ul n10=>?_⟩));obtain⟨Ro,Vp,SA,K',_⟩:=u7 (o:= .tup (ao (kd,o1,o2))) n10;rw[show([V.str kd]++[V.str o1,V.str o2]:ap)=ao (kd,o1,o2) from rfl,Vp];exists⟨c,i,by rw[QB];rfl,by lia,λRC SD=>?_⟩;have M:=m8.trans (m9.trans (K'.trans SD));have SQ:=s6.trans M;have g11:=M _ _ g6;have t11:=M _ _ t6;have w11:=w6.mono M.le;refine P9 (C5 (k:=Sum.inr (bQ c i)) t11 (d8 (by have z:=w11.length;lia)) ?_);have ek:F7 kvs (Sum.inr (bQ c i):j0) (.ref Ul)=kvs++[(Sum.inr (bQ c i),.ref Ul)]:=Q7 _ (P0 (by rw[w11.keys,←C9];exact λm=>fresh (Lf _ (Z0 m))));walk_at "X";refine⟨pts,_,ts++[(bQ c i,(kd,o1,o2))],_,_,_,_,rfl,E5 SQ nq0,by rw[b7 YD];exact g11,b5,?_,Dn d1 fresh,Bc Vr here,?_,?_,k1,?_⟩
     .rw[ek];exact C8 (Paired.imp' (λ_ _ z=>ie t11 z) w11) (ie t11 ⟨rfl,Ul,rfl,SqT.of (SD _ _ SA)⟩)
     .rw[Lg,Lq];lia
     .intro x hx;rcases Ld.mp hx with h'|h'
      .exact l2 x h'
      .rw[Li.mp h'];exact⟨a1.mem_iff.mp YE,a1.mem_iff.mp hm2⟩
     .intro y hy;rcases Ld.mp hy with h'|h'
      .exact k2 y h'
      .rw[Li.mp h'];exact TX _ Tv
  .rintro σ H3 ⟨pts,kvs,ts,v1,v2,v3,v4,rfl,s3,g3,t3,w3,d1,d2,l1,l2,k1,k2⟩;refine⟨La _,?_⟩;exists⟨d8 (by simp),λl9 H9 n9 m9 f9=>?_⟩;replace f9:H9 l9=some (.tup [.ref p,.ref q]):=f9;have hgn:∀x∈pts.map (·.1)++ts.map (·.1),V4 x=true:=λx hx=>by
    obtain⟨j,_,rfl⟩:=KZ.mp (d2 x hx);exact rO c j
   have Wi:∀x∈pts.map (·.1)++ts.map (·.1),x.length<=100:=λx hx=>by
    have z:=hgn x hx;unfold V4 at z;have:=eu (LN _ _▸z).1;lia
   exact k l9 p q kvs ⟨pts,ts⟩ H9 (s3.trans m9) ⟨⟨SqT.of f9,.inl (m9 _ _ g3),.inl (m9 _ _ t3),w3.mono m9.le⟩,m9 _ _ g3,m9 _ _ t3,YD,d1,by show(pts.map (·.1)++ts.map (·.1)).length<=60;rw[Lg,KW,KW];lia,l2,Wi⟩ ⟨hgn,k1,k2⟩ (by show pts.length+ts.length<=12;lia) (λx hx=>by
    obtain⟨j,hj,rfl⟩:=KZ.mp (d2 x hx);have:=Nb.mp hj;exact⟨j,by lia,rfl⟩)
def jr (K:Qd):Sp:=λvs H Q _=>∃(a:Addr) (ns:List Int),vs=[.ref a]/\SqL K H a (ns.map V.int)/\ns.length<=63/\∀(t lk b p q:Addr) (kvs:am) (W:C3) (c:Int) (ks:xL) (H':Hp),Same H H'->H' t=some (.tup [.int c,.ref lk,.ref b])->H' lk=some (.lst (ks.map V.str))->0<ks.length->ks.length<=3->(∀s∈ks,N1 s=true)->0<=c->WebIs 60 K H' b p q kvs W->gS W->W.pts.length+W.ts.length<=12->(∀x∈b9 W,∃j,j<13/\x=bQ c j)->Q (.ref t) H'
abbrev mw:=λP w K mg base=>U8 P w K mg base J0 3 "_law_set" ["_law_script"] [] (jr K)
theorem qZ {f fd}(T:Txt K mg)(J3:ak P w K mg base)(F4:W8 P w K mg base)(R8:bO P w K mg base)(fL:ml P w K mg base)(F:Fun K "_law_set" "_law_set" fR f fd):E4 P w K mg base J0 3 f fd ["_law_script"] (jr K):=by
 walk_at "#sc__law_set"
 .obtain⟨a,ns,rfl,_⟩:=h;rfl
 .obtain⟨a,ns,rfl,hA,hl,k⟩:=h;walk_at "@sc__law_set 516~dg6~c90311526~dg6~c90311536'0R8 gB021e1i0217n919336'0fL 90l13"
  exists⟨a,ns,0,rfl,hA,hl,by lia,λc0=>?_⟩;exists⟨c0,20,rfl,by lia,by lia,λm0 hm0=>?_⟩;exists⟨a,ns,1,rfl,hA,hl,by lia,λc1=>?_⟩;exists⟨c1,21,rfl,by lia,by lia,λm1 YE=>?_⟩;exists⟨_,_,rfl,by lia,by lia,λlk H1 ks n1 s1 f1 ⟨h1,h2,h3⟩=>?_⟩;exists⟨a,lk,m0,ns,ks,rfl,s1.seq hA,hl,SqL.of f1,by lia,by lia,h3,λb p q kvs W H2 s2 hW hG hz RE=>?_⟩;exists⟨d8 (by simp),λt H3 nt s3 f3=>?_⟩;exact k t lk b p q kvs W m0 ks H3 (s1.trans (s2.trans s3)) f3 (s3 _ _ (s2 _ _ f1)) (by lia) (by lia) h3 hm0 (hW.same s3) hG hz RE
structure Hw (W:C3) (ps ts:xL):Prop where
 n1:ps.Nodup
 n2:ts.Nodup
 l1:ps.length<=4
 l2:ts.length<=4
 p:∀n∈ps,n∈W.pts.map (·.1)
 t:∀n∈ts,∃x,(n,x)∈W.ts/\x.2.1∈ps/\x.2.2∈ps
def dO (K:Qd):Sp:=λvs H Q _=>∃(S:Sd) (lx:Addr) (xs:List Int),vs=[.ref S.a,.ref lx]/\SdIs K H S/\SqL K H lx (xs.map V.int)/\xs.length=16/\(∀x∈xs,0<=x)/\∀(t lp lt:Addr) (ps ts:xL) (H':Hp),Same H H'->H' t=some (.tup [.ref lp,.ref lt])->H' lp=some (.lst (ps.map V.str))->H' lt=some (.lst (ts.map V.str))->Hw S.W ps ts->Q (.ref t) H'
theorem aK {xs:List Int}(hl:xs.length=16)(h0:∀x∈xs,0<=x)(i:Nat)(hi:i<16):∃x,kC (xs.map V.int) (i:Int)=some (.int x)/\0<=x:=
 ⟨xs[i]'(by lia),j7 (j:=i) (by rw[Lc,KY (by lia)];rfl),h0 _ (LH _)⟩
abbrev eX:=λP w K mg base=>U8 P w K mg base J0 1 "_law_picked" ["_law_web_here","_law_xs"] [] (dO K)
theorem lA {f fd}(T:Txt K mg)(F:Fun K "_law_picked" "_law_picked" bg f fd):E4 P w K mg base J0 1 f fd ["_law_web_here","_law_xs"] (dO K):=by
 walk_at "#sc__law_picked"
 .obtain⟨S,lx,xs,rfl,_⟩:=h;rfl
 .obtain⟨S,lx,xs,rfl,hS,hX,t_,v_,k⟩:=h;have Tt:=hS.len;rw[C0] at Tt;walk_at "@sc__law_picked 52sWVU32053E8tv*3J.i211:'0iF ~q~p3NS02Ef4adorDb2ib1e104k4203dIHR#ZY033b2ib1e104k4255E8tv~23sWVU320zc6ac7aA58h2007doy'2aC rK2803'2aC rK2803Xj{k451j'0zw iB21e06111dIHR#ZY05477nl35"
  refine R4 ?_;nomatch k8 hS.at_.tup ?_;nomatch D0 (ss:=S.W.pts.map (·.1)) hS.at_.pts (by rw[K5,C9]) (by rw[KW];lia) (λs1 a1 a2 l1 H1 n1 m1 f1=>?_);have g1:=a1.length_eq;rw[KW] at g1;nomatch R4 ?_;nomatch⟨d8 (by simp),λlp H2 np m2 f2=>?_⟩;nomatch R4 ?_;rfl';obtain⟨x0,hx,l_⟩:=aK t_ v_ 0 (by lia);refine i9 ((m1.trans m2).seq hX) hx ?_;nomatch⟨d8 (by simp),λl3 H3 n3 m3 f3=>?_⟩;refine Dz (kS (SqL.of (m3 _ _ (m2 _ _ f1))) (SqL.of f3) (V5 _) rfl ?_);refine .inr ⟨_,rfl,?_⟩;have Xs:V1 (s1.map V.str) []=decide (s1=[]):=by cases s1<;>rfl
  rw[Xs];generalize hn:(if(!decide (s1=[]))=true then(1:Int) else 0)=n;have SE:(n=0\/n=1)/\(n=1->0<s1.length):=by
   subst hn;cases s1 with
   |nil=>simp
   |cons _ _=>simp
  have Zx:lp≠l1:=d6 f1 np|>.symm;rfl';have hmul:0<=x0 % 5*n/\x0 % 5*n<=4/\(0<x0 % 5*n->n=1):=by
   rcases SE.1 with rfl|rfl<;>lia
  generalize x0 % 5*n=cnt at hmul⊢;refine X4 (by lia) (by lia) ?_;have M3:=m1.trans (m2.trans m3);refine M9 (n:=cnt.toNat) (λi σ H'=>Same H H'/\H' l1=some (.lst (s1.map V.str))/\(∃v4,σ=[Re S.a,Re lx,Re l1,Re lp,v4,none,none,none,none])/\∃ps:xL,H' lp=some (.lst (ps.map V.str))/\ps.Nodup/\ps.length<=i/\∀n∈ps,n∈s1)
   ⟨M3,m3 _ _ (m2 _ _ f1),⟨_,rfl⟩,[],m3 _ _ f2,Mz,La _,λ_ h=>nomatch h⟩ (λi σ H' hi _=>by exact hi) ?_ ?_
  .rintro B9 b_ i v σ H4' H4 hi ⟨s4,h4,⟨v4,rfl⟩,ps,g4,nd4,hl4,in4⟩ ⟨rfl,rfl⟩;refine b_ λ_ _=>?_;have RJ:0<s1.length:=SE.2 (hmul.2.2 (by lia));obtain⟨xj,hxj,hxj'⟩:=aK t_ v_ (1+i) (by lia);have Uy:((1+i:Nat):Int)=1+(0+(i:Int)):=by lia
   rw[Uy] at hxj;obtain⟨nm,RE,hnm'⟩:=O2 (ss:=s1) (i:=xj % (s1.length:Int)) (Mo _ (by lia)) (Mc _ (by lia));nomatch i9 (s4.seq hX) hxj ?_;nomatch F0 (p0 (SqL.of h4) ?_);rw[KW];nomatch i9 (SqL.of h4) RE ?_;nomatch J1 (SqL.of g4) ?_;nomatch O8 (λhb=>?_) (λhb=>?_)
   .nomatch⟨.inl ⟨rfl,_,SqL.of g4⟩,?_⟩;nomatch i9 (s4.seq hX) hxj ?_;nomatch F0 (p0 (SqL.of h4) ?_);rw[KW];nomatch i9 (SqL.of h4) RE ?_;nomatch⟨lp,_,_,rfl,rfl,g4,U4 (by rw[KW];lia),?_⟩;walk_at "X";refine⟨E5 s4 (m1.free np),by rw[b7 Zx.symm];exact h4,⟨_,rfl⟩,ps++[nm],?_,I0 nd4 hb,by rw[Lg,Lq];lia,λn hn=>?_⟩
    .rw[b5,Lh];rfl
    .rcases Ld.mp hn with z|z
     .exact in4 n z
     .rw[Li.mp z];exact hnm'
   .rfl';walk_at "X";exact⟨s4,h4,⟨_,rfl⟩,ps,g4,nd4,by lia,in4⟩
  .rintro σ H4 ⟨s4,h4,⟨v4,rfl⟩,ps,g4,nd4,hl4,in4⟩;refine⟨La _,?_⟩;have S4:=hS.same s4;refine R4 ?_;nomatch⟨d8 (by simp),λlt H5 nt m5 f5=>?_⟩;replace f5:H5 lt=some (.lst []):=f5;nomatch R4 ?_;rfl';have S5:=S4.same m5;refine j6 S5.at_.tup ?_;nomatch D0 (ss:=S.W.ts.map (·.1)) S5.at_.ties (by rw[S5.at_.ts.keys,C9]) (by rw[KW];lia) (λs2 b1 b2 l6 H6 n6 m6 f6=>?_);have g2:=b1.length_eq;rw[KW] at g2;have Ts:s2.Nodup:=b1.nodup_iff.mpr (O4 hS.nd);have hlt6:lt≠l6:=d6 f5 n6;have hlpt:lp≠lt:=d6 g4 nt;nomatch⟨_,rfl,.inl ⟨l6,_,rfl,SqL.of f6,?_⟩⟩;have M6:=m5.trans m6;refine M9 (n:=s2.length) (λi σ H'=>Same H4 H'/\H' l6=some (.lst (s2.map V.str))/\(∃v4 v6 v7 v8,σ=[Re S.a,Re lx,Re l1,Re lp,v4,Re lt,v6,v7,v8])/\∃ts:xL,H' lt=some (.lst (ts.map V.str))/\ts.Nodup/\ts.length<=4/\(∀n∈ts,n∈s2.take i)/\∀n∈ts,∃x,(n,x)∈S.W.ts/\x.2.1∈ps/\x.2.2∈ps)
    ⟨M6,f6,⟨_,_,_,_,rfl⟩,[],m6 _ _ f5,Mz,My _,(λ_ h=>nomatch h),λ_ h=>nomatch h⟩ (λi σ H' hi hp=>⟨_,.str (s2[i]),SqL.of hp.2.1,by rw[Lc,KY hi];rfl⟩) ?_ ?_
   .rintro B9 b_ i v σ H7 H8 hi ⟨s7,h7,⟨v4,v6,v7,v8,rfl⟩,ts,g7,nd7,hl7,in7,ok7⟩ ⟨t,x,hx,nt',rfl,rfl⟩;refine b_ λ_ _=>?_;have l_:=hx _ (SqL.of h7);rw[Lc,KY hi] at l_;cases l_;obtain⟨H9,e9,f9,m9,_⟩:=u7 (o:= .tup _) nt';rw[e9];have e7:s2.take (i+1)=s2.take i++[s2[i]]:=by rw[LF,KY hi];rfl
    have nin:s2[i]∉ts:=λm=>by
     have z:(s2.take (i+1)).Nodup:=Ts.sublist (MA _ _);rw[e7] at z;exact(Ls.mp z).2.2 _ (in7 _ m) _ (by simp) rfl
    have m_:s2[i]∈S.W.ts.map (·.1):=b1.mem_iff.mp (LH hi);have s9:=s7.trans m9;have S9:=S4.same s9;have p9:=s9 _ _ g4;have g9:=m9 _ _ g7;have h9:=m9 _ _ h7;obtain⟨aa,⟨y1,y2,y3⟩,q1,q2,q3⟩:=TiesIs.val (ts:=S.W.ts) S9.at_.ts m_;refine K2 (SqT.of f9) rfl ?_;exists j6 S9.at_.tup ?_;exists u4 (v:= .ref aa) (by have z:=J2 (k:=Sum.inr s2[i]) S9.at_.ties;rw[q1] at z;exact z) ?_;have stay:Same H4 H9/\H9 l6=some (.lst (s2.map V.str))/\(∃v4' v6 v7 v8,[some (V.ref S.a),some (.ref lx),some (.ref l1),some (.ref lp),v4,some (.ref lt),some (.int (i:Int)),some (.str s2[i]),some (.ref aa)]=[Re S.a,Re lx,Re l1,Re lp,v4',Re lt,v6,v7,v8])/\∃ts:xL,H9 lt=some (.lst (ts.map V.str))/\ts.Nodup/\ts.length<=4/\(∀n∈ts,n∈s2.take (i+1))/\∀n∈ts,∃x,(n,x)∈S.W.ts/\x.2.1∈ps/\x.2.2∈ps:=
     ⟨s9,h9,⟨_,_,_,_,rfl⟩,ts,g9,nd7,hl7,λn hn=>by rw[e7];exact Lb _ (in7 n hn),ok7⟩
    exists j6 q3 ?_;exists eJ (SqL.of p9) ?_;exists J6 (λc1=>?_) (λc1=>?_)
    .exists bY q3 ?_;exists eJ (SqL.of p9) ?_;exists J6 (λc2=>?_) (λc2=>?_)
     .exists F0 (p0 (SqL.of g9) ?_);rw[KW];exists J6 (λc3=>?_) (λc3=>?_)
      .obtain⟨x5,Zz,hx5'⟩:=aK t_ v_ 5 (by lia);exists i9 ((s4.trans s9).seq hX) Zz ?_;exists J6 (λc4=>?_) (λc4=>?_)
       .exists⟨.inl ⟨rfl,_,SqL.of g9⟩,?_⟩;exists⟨lt,_,_,rfl,rfl,g9,U4 (by rw[KW];lia),?_⟩;walk_at "X";refine⟨E5 s9 nt,by rw[b7 hlt6.symm];exact h9,⟨_,_,_,_,rfl⟩,ts++[s2[i]],?_,I0 nd7 nin,by rw[Lg,Lq];lia,λn hn=>?_,λn hn=>?_⟩
        .rw[b5,Lh];rfl
        .rw[e7];rcases Ld.mp hn with z|z
         .exact Lb _ (in7 n z)
         .exact Lf _ z
        .rcases Ld.mp hn with z|z
         .exact ok7 n z
         .rw[Li.mp z];exact⟨_,q2,c1,c2⟩
       .symm;exact stay
      .symm;exact stay
     .symm;exact stay
    .symm;exact stay
   .rintro σ H7 ⟨s7,h7,⟨v4,v6,v7,v8,rfl⟩,ts,g7,nd7,hl7,in7,ok7⟩;refine⟨⟨_,SqL.of h7,by rw[KW];exact La _⟩,?_⟩;exists⟨d8 (by simp),λt H9 nt' m9 f9=>?_⟩;replace f9:H9 t=some (.tup [.ref lp,.ref lt]):=f9;exact k t lp lt ps ts H9 (s4.trans (s7.trans m9)) f9 (m9 _ _ (s7 _ _ g4)) (m9 _ _ g7) ⟨nd4,nd7,by lia,hl7,λn hn=>a1.mem_iff.mp (in4 n hn),ok7⟩
structure Gy (W:C3) (ps ts os:xL):Prop where
 sub:∀n∈os,n∈ps++ts
 len:os.length<=8
 ok:∀n∈ts,n∉os->∀x,(n,x)∈W.ts->x.2.1∉os/\x.2.2∉os
 lo:∀n x,(n,x)∈W.ts->(x.2.1∈os\/x.2.2∈os)->n∈os
def jC (K:Qd):Sp:=λvs H Q _=>∃(S:Sd) (lp lt lx:Addr) (ps ts:xL) (xs:List Int),vs=[.ref S.a,.ref lp,.ref lt,.ref lx]/\SdIs K H S/\SqL K H lp (ps.map V.str)/\SqL K H lt (ts.map V.str)/\Hw S.W ps ts/\SqL K H lx (xs.map V.int)/\xs.length=16/\(∀x∈xs,0<=x)/\∀(l:Addr) (os:xL) (H':Hp),H l=none->Same H H'->H' l=some (.lst (os.map V.str))->Gy S.W ps ts os->Q (.ref l) H'
abbrev kB:=λP w K mg base=>U8 P w K mg base J0 1 "_law_out" ["_law_web_here","_law_points","_law_ties","_law_xs"] [] (jC K)
theorem qR {f fd}(T:Txt K mg)(F:Fun K "_law_out" "_law_out" fH f fd):E4 P w K mg base J0 1 f fd ["_law_web_here","_law_points","_law_ties","_law_xs"] (jC K):=by
 walk_at "#sc__law_out"
 .obtain⟨S,lp,lt,lx,ps,ts,xs,rfl,_⟩:=h;rfl
 .obtain⟨S,lp,lt,lx,ps,ts,xs,rfl,hS,hP,hT,pk,hX,t_,v_,k⟩:=h;have Tt:=hS.len;rw[C0] at Tt;have RA:=hS.at_.ts.length;have pl1:=pk.l1;have Vl:=pk.l2;walk_at "@sc__law_out 54E8tv~241zc5ac6aA8;7_law_tie;620;p20wf0m_law_tie,_law_name_here,_law_ties,_law_web_here;wLyXrK01)h2300&1-rD0002w00doyXjuJ'0yc J'0zo 230511ju07EdIHR#ZY04468tv~242zc5ac6aAdoy'2dm rKhh2006104TrKhh2006104juJ'0yc J'0zo 230511dIHR#ZY0446704"
  refine R4 ?_;nomatch⟨d8 (by simp),λlo H1 no m1 f1=>?_⟩;nomatch R4 ?_;nomatch⟨_,rfl,.inl ⟨lp,_,rfl,m1.seq hP,?_⟩⟩;refine M9 (n:=ps.length) (λi σ H'=>Same H H'/\(∃v5 v6 v7,σ=[Re S.a,Re lp,Re lt,Re lx,Re lo,v5,v6,v7])/\∃os:xL,H' lo=some (.lst (os.map V.str))/\os.length<=i/\(∀n∈os,n∈ps)/\∀n∈os,∀y∈S.W.ts,(n=y.2.2.1\/n=y.2.2.2)->y.1∈ts)
   ⟨m1,⟨_,_,_,rfl⟩,[],f1,La _,(λ_ h=>nomatch h),λ_ h=>nomatch h⟩ (λi σ H' hi hp=>⟨_,.str (ps[i]),hp.1.seq hP,by rw[Lc,KY hi];rfl⟩) ?_ ?_
  .rintro B9 b_ i v σ H2 H2' hi ⟨s2,⟨v5,v6,v7,rfl⟩,os,g2,TV,in2,lo2⟩ ⟨t,x,hx,nt,rfl,rfl⟩;refine b_ λ_ _=>?_;have l_:=hx _ (s2.seq hP);rw[Lc,KY hi] at l_;cases l_;obtain⟨H3,e3,f3,m3,_⟩:=u7 (o:= .tup _) nt;rw[e3];have s3:=s2.trans m3;have S3:=hS.same s3;refine K2 (SqT.of f3) rfl ?_;exists j6 S3.at_.tup ?_;refine V8 S3.hq (λTp o4=>?_);refine B6 (n:=S.kvs.length) (λj out H'=>Same (C7 S.q o4 S.kvs H3) H'/\∃ls:xL,out=ls.map V.str/\ls.length<=j/\∀y∈S.W.ts.take j,(ps[i]=y.2.2.1\/ps[i]=y.2.2.2)->y.1∉ts->y.1∈ls) ⟨Same.refl _,[],rfl,La _,λ_ h=>by simp at h⟩ (λj out H' hj hp=>⟨hp.1 _ _ b5,hj⟩) ?_ ?_
   .rintro B9 b_ N j v out H5' H5 hj ⟨s5,ls,rfl,hls,loo⟩ ⟨rfl,kv,h_,rfl⟩;refine b_ λf_=>?_;have TZ:=(N4 (o:=o4) S3.hq).trans s5.le;have S5:=S3.at_.mono TZ;obtain⟨x,hx,ex,bb,eb,sb⟩:=S5.ts.get h_;have Qf:=Ln h_;obtain⟨kk,Ss⟩:=kv;have P_:kk=Sum.inr x.1:=ex;have Su:Ss= .ref bb:=eb;subst P_ Su;obtain⟨x0,x1,x2,x3⟩:=x;have e9:S.W.ts.take (j+1)=S.W.ts.take j++[(x0,x1,x2,x3)]:=by rw[LF,hx];rfl
    have no:∀{HZ:Hp},((ps[i]=x2\/ps[i]=x3)->x0∉ts->False)->Same H5 HZ->N (ls.map V.str) HZ:=λhf sz=>f_ _ _ ⟨s5.trans sz,ls,rfl,by lia,λy hy h1 h2=>by
     rw[e9] at hy;rcases Ld.mp hy with z|z
     .exact loo y z h1 h2
     .have ez:=Li.mp z;subst ez;exact(hf h1 h2).elim⟩
    exists⟨rfl,?_⟩;exists j6 S5.tup ?_;exists u4 (v:= .ref bb) (by have z:=J2 (k:=Sum.inr x0) S5.ties;rw[aQ (kv:=(Sum.inr x0,.ref bb)) Tp Qf] at z;exact z) ?_;exists ic sb (by rintro⟨z,_⟩;exact absurd (show(1:Nat)=0 from z) (by decide)) (λl6 n6=>?_);obtain⟨H6,e6,f6,m6,_⟩:=u7 (o:= .tup [.str x2,.str x3]) n6;rw[show bj (ao (x1,x2,x3)) (some 1) none=[V.str x2,.str x3] from rfl,e6];refine qL (.inr (SqT.of f6)) rfl rfl ?_;exists Y5 (λb1=>?_) (λb1=>?_)
    .exists J1 ((((Same.le s3).trans TZ).trans m6.le).lst hT) ?_;exists O8 (λb2=>?_) (λb2=>?_)
     .exists⟨d8 (by rw[KW];lia),f_ _ _ ⟨s5.trans m6,ls++[x0],by rw[Lh];rfl,by rw[Lg,Lq];lia,λy hy h1 h2=>by
       rw[e9] at hy;rcases Ld.mp hy with z|z
       .exact Lb _ (loo y z h1 h2)
       .have ez:=Li.mp z;subst ez;exact Lf _ Lx⟩⟩
     .exact no (λ_ h=>h b2) m6
    .refine no (λh _=>?_) m6;have Wm:(eV (.str x2) (.str ps[i])||(eV (.str x3) (.str ps[i])||false))=false:=b1;rcases h with h|h
     .rw[h] at Wm;rw[hZ rfl] at Wm;cases Wm
     .rw[h] at Wm;rw[show eV (.str x3) (.str x3)=true from hZ rfl] at Wm;simp at Wm
   .rintro out H5 ⟨s5,ls,rfl,hls,loo⟩;rw[RA,Ll (La _)] at loo;refine⟨⟨s5 _ _ b5,La _⟩,λD hD=>⟨d8 (by rw[KW];lia),?_⟩⟩;have sM:=P8 S3.hq s5 hD (u:= .lst (ls.map V.str));have fM:=ae s5 hD (u:= .lst (ls.map V.str));generalize thaw S.q (u9 H5 D (.lst (ls.map V.str)))=HM at sM fM⊢;have s6:=s3.trans sM;have g6:=sM _ _ (m3 _ _ g2);have stay:∀{HZ:Hp} {v:Option V},Same HM HZ->Same H HZ/\(∃v5 v6 v7,[some (V.ref S.a),some (.ref lp),some (.ref lt),some (.ref lx),some (.ref lo),some (.int (i:Int)),some (.str ps[i]),v]=[Re S.a,Re lp,Re lt,Re lx,Re lo,v5,v6,v7])/\∃os:xL,HZ lo=some (.lst (os.map V.str))/\os.length<=i+1/\(∀n∈os,n∈ps)/\∀n∈os,∀y∈S.W.ts,(n=y.2.2.1\/n=y.2.2.2)->y.1∈ts:=λsz=>⟨s6.trans sz,⟨_,_,_,rfl⟩,os,sz _ _ g6,by lia,in2,lo2⟩
    obtain⟨x6,Ys,hx6'⟩:=aK t_ v_ 6 (by lia);exists i9 (s6.seq hX) Ys ?_;exists J6 (λc1=>?_) (λc1=>?_)
    .exists⟨d8 (by simp),λl8 H8 n8 m8 f8=>?_⟩;refine mO (kO (SqL.of (m8 _ _ fM)) (SqL.of f8) (V5 _) rfl ?_);exists Y5 (λc2=>?_) (λc2=>?_)
     .have g8:=m8 _ _ g6;exists⟨.inl ⟨rfl,_,SqL.of g8⟩,?_⟩;exists⟨lo,_,_,rfl,rfl,g8,U4 (by rw[KW];lia),?_⟩;walk_at "X";refine⟨E5 (s6.trans m8) no,⟨_,_,_,rfl⟩,os++[ps[i]],by rw[b5,Lh];rfl,by rw[Lg,Lq];lia,λn hn=>?_,λn hn y hy he=>?_⟩
      .rcases Ld.mp hn with z|z
       .exact in2 n z
       .rw[Li.mp z];exact LH hi
      .rcases Ld.mp hn with z|z
       .exact lo2 n z y hy he
       .rw[Li.mp z] at he;have hls0:ls=[]:=by
         cases ls with
         |nil=>rfl
         |cons _ _=>exact absurd c2 (by simp [V1])
        refine MJ λi_=>?_;have:=loo y hy he i_;rw[hls0] at this;cases this
     .symm;exact stay m8
    .symm;exact stay (Same.refl _)
  .rintro σ H2 ⟨s2,⟨v5,v6,v7,rfl⟩,os,g2,TV,in2,lo2⟩;refine⟨⟨_,s2.seq hP,by rw[KW];exact La _⟩,?_⟩;refine R4 ?_;nomatch⟨_,rfl,.inl ⟨lt,_,rfl,s2.seq hT,?_⟩⟩;refine M9 (n:=ts.length) (λi σ H'=>Same H H'/\(∃v5 v6 v7,σ=[Re S.a,Re lp,Re lt,Re lx,Re lo,v5,v6,v7])/\∃os:xL,H' lo=some (.lst (os.map V.str))/\os.length<=ps.length+i/\(∀n∈os,n∈ps++ts)/\(∀n∈ts.take i,n∉os->∀x,(n,x)∈S.W.ts->x.2.1∉os/\x.2.2∉os)/\∀n∈os,n∈S.W.pts.map (·.1)->∀y∈S.W.ts,(n=y.2.2.1\/n=y.2.2.2)->y.1∈ts)
    ⟨s2,⟨_,_,_,rfl⟩,os,g2,by lia,λn hn=>Lb _ (in2 n hn),(λ_ h=>by simp at h),λn hn _=>lo2 n hn⟩ (λi σ H' hi hp=>⟨_,.str (ts[i]),hp.1.seq hT,by rw[Lc,KY hi];rfl⟩) ?_ ?_
   .rintro B9 b_ i v σ H3 To hi ⟨s3,⟨v5,v6,v7,rfl⟩,os,g3',hl3,in3,ok3,lo3⟩ ⟨t,x,hx,nt,rfl,rfl⟩;refine b_ λ_ _=>?_;have l_:=hx _ (s3.seq hT);rw[Lc,KY hi] at l_;cases l_;obtain⟨H4,e4,f4,m4,_⟩:=u7 (o:= .tup _) nt;rw[e4];have s4:=s3.trans m4;have S4:=hS.same s4;have g3:=m4 _ _ g3';have RE:=pk.t _ (LH hi);have m_:ts[i]∈S.W.ts.map (·.1):=by
     obtain⟨x,hx,_⟩:=RE;exact KZ.mpr ⟨_,hx,rfl⟩
    obtain⟨aa,⟨y1,y2,y3⟩,q1,q2,q3⟩:=TiesIs.val (ts:=S.W.ts) S4.at_.ts m_;have ix:∀{Q:VK},Q (.ref aa) H4->mC K (.ref S.q) (.str ts[i]) H4 Q:=λz=>u4 (v:= .ref aa) (by have z:=J2 (k:=Sum.inr ts[i]) S4.at_.ties;rw[q1] at z;exact z) z;have e7:ts.take (i+1)=ts.take i++[ts[i]]:=by rw[LF,KY hi];rfl
    have Vs:∀m∈S.W.pts.map (·.1),m≠ts[i]:=λm hm e=>(Ls.mp hS.nd).2.2 m hm ts[i] m_ e;have fin:Same H (u9 H4 lo (.lst (os.map V.str++[V.str ts[i]])))/\(∃v5 v6 v7',[some (V.ref S.a),some (.ref lp),some (.ref lt),some (.ref lx),some (.ref lo),some (.int (i:Int)),some (.str ts[i]),v7]=[Re S.a,Re lp,Re lt,Re lx,Re lo,v5,v6,v7'])/\∃Uc:xL,(u9 H4 lo (.lst (os.map V.str++[V.str ts[i]]))) lo=some (.lst (Uc.map V.str))/\Uc.length<=ps.length+(i+1)/\(∀n∈Uc,n∈ps++ts)/\(∀n∈ts.take (i+1),n∉Uc->∀x,(n,x)∈S.W.ts->x.2.1∉Uc/\x.2.2∉Uc)/\∀n∈Uc,n∈S.W.pts.map (·.1)->∀y∈S.W.ts,(n=y.2.2.1\/n=y.2.2.2)->y.1∈ts:=by
     refine⟨E5 s4 no,⟨_,_,_,rfl⟩,os++[ts[i]],by rw[b5,Lh];rfl,by rw[Lg,Lq];lia,λn hn=>?_,λn hn i_ x hx=>?_,λn hn hp y hy he=>?_⟩
     .rcases Ld.mp hn with z|z
      .exact in3 n z
      .rw[Li.mp z];exact Lf _ (LH hi)
     .rw[e7] at hn;rcases Ld.mp hn with z|z
      .have h':=ok3 n z (λm=>i_ (Lb _ m)) x hx;have he:=hS.ends (n,x) hx;walk_at "X";exact⟨λm=>(Ld.mp m).elim h'.1 (λm=>Vs _ he.1 (Li.mp m)),λm=>(Ld.mp m).elim h'.2 (λm=>Vs _ he.2 (Li.mp m))⟩
      .exact absurd (Lf _ z) i_
     .rcases Ld.mp hn with z|z
      .exact lo3 n z hp y hy he
      .exact absurd (Li.mp z) (Vs n hp)
    refine K2 (SqT.of f4) rfl ?_;exists j6 S4.at_.tup ?_;exists ix ?_;refine j6 q3 ?_;exists eJ (SqL.of g3) ?_;exists J6 (λc1=>?_) (λc1=>?_)
    .exists⟨.inl ⟨rfl,_,SqL.of g3⟩,?_⟩;exists⟨lo,_,_,rfl,rfl,g3,U4 (by rw[KW];lia),?_⟩;walk_at "X";exact fin
    exists j6 S4.at_.tup ?_;exists ix ?_;refine bY q3 ?_;exists eJ (SqL.of g3) ?_;exists J6 (λc2=>?_) (λc2=>?_)
    .exists⟨.inl ⟨rfl,_,SqL.of g3⟩,?_⟩;exists⟨lo,_,_,rfl,rfl,g3,U4 (by rw[KW];lia),?_⟩;walk_at "X";exact fin
    symm;obtain⟨x7,hx7,hx7'⟩:=aK t_ v_ 7 (by lia);refine i9 (s4.seq hX) hx7 ?_;exists J6 (λc3=>?_) (λc3=>?_)
    .exists⟨.inl ⟨rfl,_,SqL.of g3⟩,?_⟩;exists⟨lo,_,_,rfl,rfl,g3,U4 (by rw[KW];lia),?_⟩;walk_at "X";exact fin
    exists⟨s4,⟨_,_,_,rfl⟩,os,g3,by lia,in3,λn hn i_ x hx=>?_,lo3⟩;rw[e7] at hn;rcases Ld.mp hn with z|z
    .exact ok3 n z i_ x hx
    .have hnn:n=ts[i]:=Li.mp z;subst hnn;have:x=(y1,y2,y3):=E3 (O4 hS.nd) hx q2;subst this;walk_at "X";exact⟨c1,c2⟩
   .rintro σ H3 ⟨s3,⟨v5,v6,v7,rfl⟩,os,g3,hl3,in3,ok3,lo3⟩;refine⟨⟨_,s3.seq hT,by rw[KW];exact La _⟩,?_⟩;rw[Ll (La _)] at ok3;symm;exact k lo os H3 no s3 g3 ⟨in3,by lia,ok3,λn x hx he=>MJ λi_=>by
     have Td:=hS.ends (n,x) hx;have Zy:n∈ts:=by
      rcases he with he|he
      .exact lo3 _ he Td.1 (n,x) hx (.inl rfl)
      .exact lo3 _ he Td.2 (n,x) hx (.inr rfl)
     have z:=ok3 n Zy i_ x hx;exact he.elim z.1 z.2⟩
def Wd (ws:xL)(lo hi:Nat)(n:Str):Prop:=∃j,lo<=j/\j<hi/\ws[j]?=some n
variable {n:Str}{ws:xL}
def yf (nd:ws.Nodup)(h1:ws[i]?=some n)(h2:ws[j]?=some n):i=j:=by
 obtain⟨hi,e1⟩:=Mq.mp h1;obtain⟨hj,e2⟩:=Mq.mp h2;have z:=Oa.mp nd;rcases RK i j with h|h|h
 .exact absurd (e1.trans e2.symm) (z i j hi hj h)
 .exact h
 .exact absurd (e2.trans e1.symm) (z j i hj hi h)
variable {a b:Nat}
theorem Wd.no {c d:Nat}(nd:ws.Nodup)(h1:Wd ws a b n)(h2:Wd ws c d n)(h:b<=c\/d<=a):False:=by
 obtain⟨i,i1,i2,i3⟩:=h1;obtain⟨j,j1,j2,j3⟩:=h2;have:=yf nd i3 j3;lia
theorem Wd.up {c d:Nat}(h:Wd ws a b n)(h1:c<=a)(h2:b<=d):Wd ws c d n:=by
 obtain⟨i,i1,i2,i3⟩:=h;exact⟨i,by lia,by lia,i3⟩
def Wd.in_ (h:Wd ws a b n):n∈ws:=by
 obtain⟨i,_,_,h⟩:=h;exact Ln h
structure LR (ws:xL) (i1 i2 i3 i4:Nat) (PL:xz) (TL:List (Str×N3)) (PR:xz) (TR:List (Str×N3)):Prop where
 pl:∀x∈PL,Wd ws 0 i1 x.1/\N1 x.2=true
 tl:∀x∈TL,Wd ws 4 (4+i2) x.1/\N1 x.2.1=true/\x.2.2.1∈PL.map (·.1)/\x.2.2.2∈PL.map (·.1)
 ndl:(PL.map (·.1)).Nodup
 ndt:(TL.map (·.1)).Nodup
 ll:PL.length<=i1
 lt:TL.length<=i2
 pr:∀x∈PR,(x∈PL\/Wd ws 8 (8+i3) x.1)/\N1 x.2=true
 tr:∀x∈TR,(x∈TL\/Wd ws 10 (10+i4) x.1)/\N1 x.2.1=true/\x.2.2.1∈PR.map (·.1)/\x.2.2.2∈PR.map (·.1)
 ndr:(PR.map (·.1)).Nodup
 ndu:(TR.map (·.1)).Nodup
 lr:PR.length<=i1+i3
 lu:TR.length<=i2+i4
def LR.new:LR ws 0 0 0 0 [] [] [] []:=
 ⟨(λ_ h=>nomatch h),(λ_ h=>nomatch h),Mz,Mz,La _,La _,(λ_ h=>nomatch h),(λ_ h=>nomatch h),Mz,Mz,La _,La _⟩
def B8 (l:List (Str×α))(x:Str×α):(l++[x]).map (·.1)=l.map (·.1)++[x.1]:=by rw[Lh];rfl
variable {PL PR:xz}
theorem LR.f1 (h:LR ws i 0 0 0 PL [] PR [])(nd:ws.Nodup)(hn:ws[i]?=some n):n∉PL.map (·.1)/\n∉PR.map (·.1):=by
 have a:n∉PL.map (·.1):=λz=>by
  obtain⟨x,hx,rfl⟩:=KZ.mp z;exact Wd.no nd (h.pl x hx).1 ⟨i,La _,Mw _,hn⟩ (.inl (La _))
 refine⟨a,λz=>?_⟩;obtain⟨x,hx,rfl⟩:=KZ.mp z;rcases(h.pr x hx).1 with z|z
 .exact a (KZ.mpr ⟨x,z,rfl⟩)
 .obtain⟨j,j1,j2,_⟩:=z;lia
variable {kd:Str}
theorem LR.s1 (h:LR ws i 0 0 0 PL [] PR [])(nd:ws.Nodup)(hn:ws[i]?=some n)(hk:N1 kd=true)(b:Bool):LR ws (i+1) 0 0 0 (PL++[(n,kd)]) [] (if b then PR++[(n,kd)] else PR) []:=by
 obtain⟨f1,f2⟩:=h.f1 nd hn;refine⟨λx hx=>?_,(λ_ h=>nomatch h),?_,Mz,?_,La _,λx hx=>?_,(λ_ h=>nomatch h),?_,Mz,?_,La _⟩
 .rcases Ld.mp hx with z|z
  .exact⟨(h.pl x z).1.up (La _) (NF _),(h.pl x z).2⟩
  .rw[Li.mp z];exact⟨⟨i,My _,Mw _,hn⟩,hk⟩
 .rw[B8];exact I0 h.ndl f1
 .rw[Lg,Lq];have:=h.ll;lia
 .have old:∀x∈PR,(x∈PL++[(n,kd)]\/Wd ws 8 (8+0) x.1)/\N1 x.2=true:=λx hx=>⟨(h.pr x hx).1.elim (λz=> .inl (Lb _ z)) .inr,(h.pr x hx).2⟩
  cases b with
  |false=>exact old x hx
  |true=>
   rcases Ld.mp (show x∈PR++[(n,kd)] from hx) with z|z
   .exact old x z
   .rw[Li.mp z];exact⟨.inl (Lf _ Lx),hk⟩
 .cases b with
  |false=>exact h.ndr
  |true=>show((PR++[(n,kd)]).map (·.1)).Nodup;rw[B8];exact I0 h.ndr f2
 .cases b with
  |false=>show PR.length<=_;have:=h.lr;lia
  |true=>show(PR++[(n,kd)]).length<=_;rw[Lg,Lq];have:=h.lr;lia
variable {i1:Nat}{TL TR:List (Str×N3)}
theorem LR.f2 (h:LR ws i1 i 0 0 PL TL PR TR)(nd:ws.Nodup)(hn:ws[4+i]?=some n):n∉TL.map (·.1)/\n∉TR.map (·.1):=by
 have a:n∉TL.map (·.1):=λz=>by
  obtain⟨x,hx,rfl⟩:=KZ.mp z;exact Wd.no nd (h.tl x hx).1 ⟨4+i,La _,Mw _,hn⟩ (.inl (La _))
 refine⟨a,λz=>?_⟩;obtain⟨x,hx,rfl⟩:=KZ.mp z;rcases(h.tr x hx).1 with z|z
 .exact a (KZ.mpr ⟨x,z,rfl⟩)
 .obtain⟨j,j1,j2,_⟩:=z;lia
variable {o1 o2:Str}
theorem LR.s2 (h:LR ws i1 i 0 0 PL TL PR TR)(nd:ws.Nodup)(hn:ws[4+i]?=some n)(hk:N1 kd=true)(h1:o1∈PL.map (·.1))(h2:o2∈PL.map (·.1))(b:Bool)(hb:b=true->o1∈PR.map (·.1)/\o2∈PR.map (·.1)):
  LR ws i1 (i+1) 0 0 PL (TL++[(n,(kd,o1,o2))]) PR (if b then TR++[(n,(kd,o1,o2))] else TR):=by
 obtain⟨f1,f2⟩:=h.f2 nd hn
 refine⟨h.pl,λx hx=>?_,h.ndl,?_,h.ll,?_,h.pr,λx hx=>?_,h.ndr,?_,h.lr,?_⟩
 .rcases Ld.mp hx with z|z
  .exact⟨(h.tl x z).1.up (La _) (NF _),(h.tl x z).2⟩
  .rw[Li.mp z];exact⟨⟨4+i,PY _ _,Mw _,hn⟩,hk,h1,h2⟩
 .rw[B8];exact I0 h.ndt f1
 .rw[Lg,Lq];have:=h.lt;lia
 .have old:∀x∈TR,(x∈TL++[(n,(kd,o1,o2))]\/Wd ws 10 (10+0) x.1)/\N1 x.2.1=true/\x.2.2.1∈PR.map (·.1)/\x.2.2.2∈PR.map (·.1):=λx hx=>⟨(h.tr x hx).1.elim (λz=> .inl (Lb _ z)) .inr,(h.tr x hx).2⟩
  cases b with
  |false=>exact old x hx
  |true=>
   rcases Ld.mp (show x∈TR++[(n,(kd,o1,o2))] from hx) with z|z
   .exact old x z
   .rw[Li.mp z];exact⟨.inl (Lf _ Lx),hk,hb rfl⟩
 .cases b with
  |false=>exact h.ndu
  |true=>show((TR++[(n,(kd,o1,o2))]).map (·.1)).Nodup;rw[B8];exact I0 h.ndu f2
 .cases b with
  |false=>show TR.length<=_;have:=h.lu;lia
  |true=>show(TR++[(n,(kd,o1,o2))]).length<=_;rw[Lg,Lq];have:=h.lu;lia
variable {i2:Nat}
theorem LR.f3 (h:LR ws i1 i2 i 0 PL TL PR TR)(nd:ws.Nodup)(h4:i1<=4)(hn:ws[8+i]?=some n):n∉PR.map (·.1):=λz=>by
 obtain⟨x,hx,rfl⟩:=KZ.mp z;have w:Wd ws (8+i) (8+i+1) x.1:=⟨8+i,La _,Mw _,hn⟩
 rcases(h.pr x hx).1 with z|z
 .exact Wd.no nd (h.pl x z).1 w (.inl (by lia))
 .exact Wd.no nd z w (.inl (La _))
theorem LR.s3 (h:LR ws i1 i2 i 0 PL TL PR TR)(nd:ws.Nodup)(h4:i1<=4)(hn:ws[8+i]?=some n)(hk:N1 kd=true):LR ws i1 i2 (i+1) 0 PL TL (PR++[(n,kd)]) TR:=by
 refine⟨h.pl,h.tl,h.ndl,h.ndt,h.ll,h.lt,λx hx=>?_,λx hx=>?_,?_,h.ndu,?_,h.lu⟩
 .rcases Ld.mp hx with z|z
  .exact⟨(h.pr x z).1.imp id λw=>w.up (La _) (NF _),(h.pr x z).2⟩
  .rw[Li.mp z];exact⟨.inr ⟨8+i,PY _ _,Mw _,hn⟩,hk⟩
 .have z:=h.tr x hx;refine⟨z.1,z.2.1,?_,?_⟩<;>rw[B8]
  .exact Lb _ z.2.2.1
  .exact Lb _ z.2.2.2
 .rw[B8];exact I0 h.ndr (h.f3 nd h4 hn)
 .rw[Lg,Lq];have:=h.lr;lia
variable {i3:Nat}
theorem LR.f4 (h:LR ws i1 i2 i3 i PL TL PR TR)(nd:ws.Nodup)(h4:i2<=4)(hn:ws[10+i]?=some n):n∉TR.map (·.1):=λz=>by
 obtain⟨x,hx,rfl⟩:=KZ.mp z;have w:Wd ws (10+i) (10+i+1) x.1:=⟨10+i,La _,Mw _,hn⟩
 rcases(h.tr x hx).1 with z|z
 .exact Wd.no nd (h.tl x z).1 w (.inl (by lia))
 .exact Wd.no nd z w (.inl (La _))
theorem LR.s4 (h:LR ws i1 i2 i3 i PL TL PR TR)(nd:ws.Nodup)(h4:i2<=4)(hn:ws[10+i]?=some n)(hk:N1 kd=true)(h1:o1∈PR.map (·.1))(h2:o2∈PR.map (·.1)):LR ws i1 i2 i3 (i+1) PL TL PR (TR++[(n,(kd,o1,o2))]):=by
 refine⟨h.pl,h.tl,h.ndl,h.ndt,h.ll,h.lt,h.pr,λx hx=>?_,h.ndr,?_,h.lr,?_⟩
 .rcases Ld.mp hx with z|z
  .exact⟨(h.tr x z).1.imp id λw=>w.up (La _) (NF _),(h.tr x z).2⟩
  .rw[Li.mp z];exact⟨.inr ⟨10+i,PY _ _,Mw _,hn⟩,hk,h1,h2⟩
 .rw[B8];exact I0 h.ndu (h.f4 nd h4 hn)
 .rw[Lg,Lq];have:=h.lu;lia
theorem om {x:Str}(h:N1 x=true):x.length<=8:=by
 have:=eu (show U9 x kSL 8=true from h);lia
theorem wm {x:Str}(h:N1 x=true):V4 x=true:=by
 have h':U9 x kSL 8=true:=h;unfold U9 at h';simp only[LN,LK] at h';unfold V4;rw[LN];have ha:∀c∈x.cps.toList,c∈kSL.cps.toList:=λc hc=>MB (LU.mp (show rZ x kSL=true from h'.2) c hc);constructor
 .unfold U9;rw[LA h'.1.1,LA (show(x.length:Int)<=24 by lia),NV,NV];exact LU.mpr λc hc=>LA (Df _ (ha c hc))
 .unfold Jb;refine LA (ha _ ?_);have hl:=fT x;cases e:x.cps.toList with
  |nil=>rw[e] at hl;simp at hl;lia
  |cons c r=>exact Lx
def rF {m:Nat}(h1:∀n∈b9 W,N1 n=true)(h2:∀x∈W.pts,N1 x.2=true)(h3:∀x∈W.ts,N1 x.2.1=true)(l1:W.pts.length<=m)(l2:W.ts.length<=m):pT m W:=
 ⟨⟨λn hn=>wm (h1 n hn),h2,h3⟩,h1,l1,l2⟩
variable {i4:Nat}
theorem LR.nmL (h:LR ws i1 i2 i3 i4 PL TL PR TR)(h1:i1<=4)(h2:i2<=4):∀n∈b9 ⟨PL,TL⟩,Wd ws 0 8 n:=λn hn=>by
 rcases Ld.mp (show n∈PL.map (·.1)++TL.map (·.1) from hn) with z|z
 .obtain⟨x,hx,rfl⟩:=KZ.mp z;exact(h.pl x hx).1.up (My _) (by lia)
 .obtain⟨x,hx,rfl⟩:=KZ.mp z;exact(h.tl x hx).1.up (My _) (by lia)
theorem LR.nmP (h:LR ws i1 i2 i3 i4 PL TL PR TR)(h1:i1<=4)(h3:i3<=2)(hn:n∈PR.map (·.1)):Wd ws 0 4 n\/Wd ws 8 10 n:=by
 obtain⟨x,hx,rfl⟩:=KZ.mp hn;rcases(h.pr x hx).1 with z|z
 .exact .inl ((h.pl x z).1.up (My _) (by lia))
 .exact .inr (z.up (by lia) (by lia))
theorem LR.nmT (h:LR ws i1 i2 i3 i4 PL TL PR TR)(h2:i2<=4)(h4:i4<=2)(hn:n∈TR.map (·.1)):Wd ws 4 8 n\/Wd ws 10 12 n:=by
 obtain⟨x,hx,rfl⟩:=KZ.mp hn;rcases(h.tr x hx).1 with z|z
 .exact .inl ((h.tl x z).1.up (by lia) (by lia))
 .exact .inr (z.up (by lia) (by lia))
def LR.ndL (h:LR ws i1 i2 i3 i4 PL TL PR TR)(nd:ws.Nodup)(h1:i1<=4):(b9 ⟨PL,TL⟩).Nodup:=
 Ls.mpr ⟨h.ndl,h.ndt,λa ha b hb e=>by
  subst e;obtain⟨x,hx,rfl⟩:=KZ.mp ha;obtain⟨y,hy,ey⟩:=KZ.mp hb;have SH:y.1=x.1:=ey;have w:=(h.tl y hy).1;rw[SH] at w;exact Wd.no nd (h.pl x hx).1 w (.inl h1)⟩
theorem LR.ndR (h:LR ws i1 i2 i3 i4 PL TL PR TR)(nd:ws.Nodup)(h1:i1<=4)(h2:i2<=4)(h3:i3<=2)(h4:i4<=2):(b9 ⟨PR,TR⟩).Nodup:=
 Ls.mpr ⟨h.ndr,h.ndu,λa ha b hb e=>by
  subst e;rcases h.nmP h1 h3 ha with z|z<;>rcases h.nmT h2 h4 hb with w|w<;>exact Wd.no nd z w (by lia)⟩
theorem LR.rule (h:LR ws i1 i2 i3 i4 PL TL PR TR)(nd:ws.Nodup)(hk:∀s∈ws,N1 s=true)(h1:i1<=4)(h2:i2<=4)(h3:i3<=2)(h4:i4<=2)(l1:PR.length<=4)(l2:TR.length<=4):iK ⟨PL,TL⟩ ⟨PR,TR⟩ []:=by
 have Si:PL.length<=4:=by have:=h.ll;lia
 have Wf:TL.length<=4:=by have:=h.lt;lia
 refine⟨rF (λn hn=>hk n (h.nmL h1 h2 n hn).in_) (λx hx=>(h.pl x hx).2) (λx hx=>(h.tl x hx).2.1) Si Wf,rF (λn hn=>hk n ?_) (λx hx=>(h.pr x hx).2) (λx hx=>(h.tr x hx).2.1) l1 l2,λn hL hR=>?_,My _,λ_ h=>nomatch h⟩
 .rcases Ld.mp (show n∈PR.map (·.1)++TR.map (·.1) from hn) with z|z
  .exact(h.nmP h1 h3 z).elim (λw=>w.in_) λw=>w.in_
  .exact(h.nmT h2 h4 z).elim (λw=>w.in_) λw=>w.in_
 .rcases Ld.mp (show n∈PL.map (·.1)++TL.map (·.1) from hL) with zL|zL
  .have wL:Wd ws 0 4 n:=by
    obtain⟨x,hx,rfl⟩:=KZ.mp zL;exact(h.pl x hx).1.up (My _) (by lia)
   have nTL:∀t,(n,t)∉TL:=λt z=>Wd.no nd wL (h.tl _ z).1 (.inl (La _));have nTR:n∉TR.map (·.1):=λz=>by rcases h.nmT h2 h4 z with w|w<;>exact Wd.no nd wL w (by lia)
   have zR:n∈PR.map (·.1):=by
    rcases Ld.mp (show n∈PR.map (·.1)++TR.map (·.1) from hR) with z|z
    .exact z
    .exact absurd z nTR
   have sub:∀k,(n,k)∈PR->(n,k)∈PL:=λk z=>by
    rcases(h.pr _ z).1 with w|w
    .exact w
    .exact(Wd.no nd wL w (.inl (by lia))).elim
   obtain⟨⟨n',k'⟩,hx,e⟩:=KZ.mp zR;have e':n'=n:=e;subst e';exact⟨λk=>⟨λz=>by rw[E3 h.ndl z (sub k' hx)];exact hx,sub k⟩,λt=>⟨λz=>(nTL t z).elim,λz=>(nTR (KZ.mpr ⟨_,z,rfl⟩)).elim⟩⟩
  .have wL:Wd ws 4 8 n:=by
    obtain⟨x,hx,rfl⟩:=KZ.mp zL;exact(h.tl x hx).1.up (La _) (by lia)
   have nPL:∀t,(n,t)∉PL:=λt z=>Wd.no nd wL (h.pl _ z).1 (.inr h1);have nPR:n∉PR.map (·.1):=λz=>by rcases h.nmP h1 h3 z with w|w<;>exact Wd.no nd wL w (by lia)
   have zR:n∈TR.map (·.1):=by
    rcases Ld.mp (show n∈PR.map (·.1)++TR.map (·.1) from hR) with z|z
    .exact absurd z nPR
    .exact z
   have sub:∀k,(n,k)∈TR->(n,k)∈TL:=λk z=>by
    rcases(h.tr _ z).1 with w|w
    .exact w
    .exact(Wd.no nd wL w (.inl (by lia))).elim
   obtain⟨⟨n',k'⟩,hx,e⟩:=KZ.mp zR;have e':n'=n:=e;subst e';exact⟨λt=>⟨λz=>(nPL t z).elim,λz=>(nPR (KZ.mpr ⟨_,z,rfl⟩)).elim⟩,λk=>⟨λz=>by rw[E3 h.ndt z (sub k' hx)];exact hx,sub k⟩⟩
structure NE (B:Hp) (wd d1 d2 d3 d4:Addr):Prop where
 b0:B wd=none
 b1:B d1=none
 b2:B d2=none
 b3:B d3=none
 b4:B d4=none
 n01:wd≠d1
 n02:wd≠d2
 n03:wd≠d3
 n04:wd≠d4
 n12:d1≠d2
 n13:d1≠d3
 n14:d1≠d4
 n23:d2≠d3
 n24:d2≠d4
 n34:d3≠d4
structure RS (K:Qd) (B H:Hp) (wd d1 d2 d3 d4 a1 a2:Addr) (kw kL kR:am) (PL PR:xz) (TL TR:List (Str×N3)):Prop where
 sm:Same B H
 t1:SqT K H a1 [.ref d1,.ref d2]
 t2:SqT K H a2 [.ref d3,.ref d4]
 w:H wd=some (.dK kw)
 h1:H d1=some (.dK (i6 PL))
 h2:H d2=some (.dK kL)
 h3:H d3=some (.dK (i6 PR))
 h4:H d4=some (.dK kR)
 tl:TiesIs K H kL TL
 tr:TiesIs K H kR TR
variable {B:Hp}{wd d1 d2 d3 d4 a1 a2:Addr}{kw kL kR:am}
def RS.mono (r:RS K B H wd d1 d2 d3 d4 a1 a2 kw kL kR PL PR TL TR)(s:Same H H'):RS K B H' wd d1 d2 d3 d4 a1 a2 kw kL kR PL PR TL TR:=
 ⟨r.sm.trans s,s.tup r.t1,s.tup r.t2,s _ _ r.w,s _ _ r.h1,s _ _ r.h2,s _ _ r.h3,s _ _ r.h4,r.tl.mono s.le,r.tr.mono s.le⟩
def RS.setW {kw':am}(e:NE B wd d1 d2 d3 d4)(r:RS K B H wd d1 d2 d3 d4 a1 a2 kw kL kR PL PR TL TR):RS K B (u9 H wd (.dK kw')) wd d1 d2 d3 d4 a1 a2 kw' kL kR PL PR TL TR:=
 ⟨E5 r.sm e.b0,S0 r.w r.t1,S0 r.w r.t2,b5,by rw[b7 e.n01.symm];exact r.h1,by rw[b7 e.n02.symm];exact r.h2,by rw[b7 e.n03.symm];exact r.h3,by rw[b7 e.n04.symm];exact r.h4,K8 r.w r.tl,K8 r.w r.tr⟩
def aE (h:n∉PL.map (·.1)):F7 (i6 PL) (Sum.inr n:j0) (.str kd)=i6 (PL++[(n,kd)]):=by
 rw[Q7 _ (P0 (by rw[K5,←C9];exact λm=>h (Z0 m)))];unfold i6;rw[Lh];rfl
def RS.set1 (e:NE B wd d1 d2 d3 d4)(r:RS K B H wd d1 d2 d3 d4 a1 a2 kw kL kR PL PR TL TR)(h:n∉PL.map (·.1)):RS K B (u9 H d1 (.dK (F7 (i6 PL) (Sum.inr n:j0) (.str kd)))) wd d1 d2 d3 d4 a1 a2 kw kL kR (PL++[(n,kd)]) PR TL TR:=by
 rw[aE h];exact⟨E5 r.sm e.b1,S0 r.h1 r.t1,S0 r.h1 r.t2,by rw[b7 e.n01];exact r.w,b5,by rw[b7 e.n12.symm];exact r.h2,by rw[b7 e.n13.symm];exact r.h3,by rw[b7 e.n14.symm];exact r.h4,K8 r.h1 r.tl,K8 r.h1 r.tr⟩
def RS.set3 (e:NE B wd d1 d2 d3 d4)(r:RS K B H wd d1 d2 d3 d4 a1 a2 kw kL kR PL PR TL TR)(h:n∉PR.map (·.1)):RS K B (u9 H d3 (.dK (F7 (i6 PR) (Sum.inr n:j0) (.str kd)))) wd d1 d2 d3 d4 a1 a2 kw kL kR PL (PR++[(n,kd)]) TL TR:=by
 rw[aE h];exact⟨E5 r.sm e.b3,S0 r.h3 r.t1,S0 r.h3 r.t2,by rw[b7 e.n03];exact r.w,by rw[b7 e.n13];exact r.h1,by rw[b7 e.n23];exact r.h2,b5,by rw[b7 e.n34.symm];exact r.h4,K8 r.h3 r.tl,K8 r.h3 r.tr⟩
variable {l:Addr}
def kK (w:TiesIs K H kL TL)(h:n∉TL.map (·.1))(hl:SqT K H l (ao (kd,o1,o2))):TiesIs K H (F7 kL (Sum.inr n:j0) (.ref l)) (TL++[(n,(kd,o1,o2))]):=by
 rw[Q7 _ (P0 (by rw[w.keys,←C9];exact λm=>h (Z0 m)))];exact C8 w ⟨rfl,l,rfl,hl⟩
def RS.set2 (e:NE B wd d1 d2 d3 d4)(r:RS K B H wd d1 d2 d3 d4 a1 a2 kw kL kR PL PR TL TR)(h:n∉TL.map (·.1))(hl:SqT K H l (ao (kd,o1,o2))):RS K B (u9 H d2 (.dK (F7 kL (Sum.inr n:j0) (.ref l)))) wd d1 d2 d3 d4 a1 a2 kw (F7 kL (Sum.inr n:j0) (.ref l)) kR PL PR (TL++[(n,(kd,o1,o2))]) TR:=
 ⟨E5 r.sm e.b2,S0 r.h2 r.t1,S0 r.h2 r.t2,by rw[b7 e.n02];exact r.w,by rw[b7 e.n12];exact r.h1,b5,by rw[b7 e.n23.symm];exact r.h3,by rw[b7 e.n24.symm];exact r.h4,K8 r.h2 (kK r.tl h hl),K8 r.h2 r.tr⟩
def RS.set4 (e:NE B wd d1 d2 d3 d4)(r:RS K B H wd d1 d2 d3 d4 a1 a2 kw kL kR PL PR TL TR)(h:n∉TR.map (·.1))(hl:SqT K H l (ao (kd,o1,o2))):RS K B (u9 H d4 (.dK (F7 kR (Sum.inr n:j0) (.ref l)))) wd d1 d2 d3 d4 a1 a2 kw kL (F7 kR (Sum.inr n:j0) (.ref l)) PL PR TL (TR++[(n,(kd,o1,o2))]):=
 ⟨E5 r.sm e.b4,S0 r.h4 r.t1,S0 r.h4 r.t2,by rw[b7 e.n04];exact r.w,by rw[b7 e.n14];exact r.h1,by rw[b7 e.n24];exact r.h2,by rw[b7 e.n34];exact r.h3,b5,K8 r.h4 r.tl,K8 r.h4 (kK r.tr h hl)⟩
structure WO (ps ws os:xL) (i:Nat) (kw:am) (PL PR:xz):Prop where
 ok:∀kv∈kw,∃n s,kv=(Sum.inr n,V.str s)
 at_:∀j n w,j<i->ps[j]?=some n->ws[j]?=some w->A8 kw (Sum.inr n:j0)=some (.str w)
 inL:∀j w,j<i->ws[j]?=some w->w∈PL.map (·.1)
 inR:∀j n w,j<i->ps[j]?=some n->n∉os->ws[j]?=some w->w∈PR.map (·.1)
variable {ps os:xL}
theorem WO.s1 {w:Str}(h:WO ps ws os i kw PL PR)(nd:ps.Nodup)(hn:ps[i]?=some n)(hw:ws[i]?=some w)(b:Bool)(hb:n∉os->b=true):
  WO ps ws os (i+1) (F7 kw (Sum.inr n:j0) (.str w)) (PL++[(w,kd)]) (if b then PR++[(w,kd)] else PR):=by
 refine⟨sr h.ok ⟨_,_,rfl⟩,λj m v hj h1 h2=>?_,λj v hj h2=>?_,λj m v hj h1 h3 h2=>?_⟩
 .rw[O0]
  by_cases e:j=i
  .subst e
   rw[h1] at hn;cases hn
   rw[h2] at hw;cases hw
   rw[if_pos rfl]
  .have x_:m≠n:=λz=>e (yf nd (z▸h1) hn)
   rw[if_neg (λz=>x_ (MX z))]
   exact h.at_ j m v (by lia) h1 h2
 .rw[B8]
  by_cases e:j=i
  .subst e
   rw[h2] at hw;cases hw
   exact Lf _ Lx
  .exact Lb _ (h.inL j v (by lia) h2)
 .by_cases e:j=i
  .subst e
   rw[h1] at hn;cases hn
   rw[h2] at hw;cases hw
   rw[hb h3,if_pos rfl,B8]
   exact Lf _ Lx
  .have z:=h.inR j m v (by lia) h1 h3 h2
   cases b with
   |false=>exact z
   |true=>show v∈(PR++[(w,kd)]).map (·.1);rw[B8];exact Lb _ z
def WO.s2 {m w:Str}(h:WO ps ws os i kw PL PR)(hm:m∉ps):WO ps ws os i (F7 kw (Sum.inr m:j0) (.str w)) PL PR:=by
 refine⟨sr h.ok ⟨_,_,rfl⟩,λj n v hj h1 h2=>?_,h.inL,h.inR⟩;rw[O0,if_neg (λz:(Sum.inr n:j0)=Sum.inr m=>hm (by rw[←MX z];exact Ln h1))];exact h.at_ j n v hj h1 h2
def AX (ws:xL):Prop:=ws.length=16/\ws.Nodup/\∀s∈ws,N1 s=true
def zO (ks:xL):Prop:=0<ks.length/\ks.length<=3/\∀s∈ks,N1 s=true
variable {w:World}
theorem rE (h:ws.length=16)(i:Nat)(hi:i<16):∃w,ws[i]?=some w/\∀j:Int,j=(i:Int)->kC (ws.map V.str) j=some (.str w):=
 ⟨ws[i]'(by lia),KY (by lia),λj hj=>by rw[hj];exact j7 (j:=i) (by rw[Lc,KY (by lia)];rfl)⟩
theorem WO.get (h:WO ps ws os ps.length kw PL PR)(hl:ws.length=16)(h4:ps.length<=4)(hn:n∈ps):∃w,A8 kw (Sum.inr n:j0)=some (.str w)/\w∈PL.map (·.1)/\(n∉os->w∈PR.map (·.1)):=by
 obtain⟨j,hj⟩:=MT hn;obtain⟨hjl,_⟩:=Mq.mp hj;obtain⟨w,hw,_⟩:=rE hl j (by lia);exact⟨w,h.at_ j n w hjl hj hw,h.inL j w hjl hw,λho=>h.inR j n w hjl hj ho hw⟩
def N8 (x:Str×Str):Str×Str:=(x.2,x.1)
structure MP (W:C3) (os:xL) (pr PL:xz) (TL:List (Str×N3)) (Rn:xL):Prop where
 n1:(pr.map (·.1)).Nodup
 n2:(pr.map (·.2)).Nodup
 wd:pr.map (·.2)=PL.map (·.1)++TL.map (·.1)
 pt:∀x∈PL,∃n,(n,x.1)∈pr/\(n,x.2)∈W.pts
 ti:∀x∈TL,∃n b e,(n,x.1)∈pr/\(b,x.2.2.1)∈pr/\(e,x.2.2.2)∈pr/\(n,(x.2.1,b,e))∈W.ts
 ko:∀x∈pr,x.2∈Rn↔x.1∉os
def Y6 (l:xz)(x:Str×Str):(l++[x]).map (·.2)=l.map (·.2)++[x.2]:=by rw[Lh];rfl
variable {w:Str}{pr:xz}{Rn Rn':xL}
def MP.ko' (h:MP W os pr PL TL Rn)(hw:w∉pr.map (·.2))(h1:∀y,y≠w->(y∈Rn'↔y∈Rn))(h2:w∈Rn'↔n∉os):∀x∈pr++[(n,w)],x.2∈Rn'↔x.1∉os:=λx hx=>by
 rcases Ld.mp hx with z|z
 .rw[h1 x.2 λq=>hw (KZ.mpr ⟨x,z,q⟩)];exact h.ko x z
 .rw[Li.mp z];exact h2
def MP.sP (h:MP W os pr PL [] Rn)(hn:n∉pr.map (·.1))(hw:w∉pr.map (·.2))(hp:(n,kd)∈W.pts)(h1:∀y,y≠w->(y∈Rn'↔y∈Rn))(h2:w∈Rn'↔n∉os):MP W os (pr++[(n,w)]) (PL++[(w,kd)]) [] Rn':=by
 refine⟨by rw[B8];exact I0 h.n1 hn,by rw[Y6];exact I0 h.n2 hw,?_,λx hx=>?_,(λ_ h=>nomatch h),h.ko' hw h1 h2⟩
 .have z:=h.wd;rw[Nz,Mn] at z;rw[Y6,B8,Nz,Mn,z]
 .rcases Ld.mp hx with z|z
  .obtain⟨n',R_,We⟩:=h.pt x z;exact⟨n',Lb _ R_,We⟩
  .rw[Li.mp z];exact⟨n,Lf _ Lx,hp⟩
def MP.sT {b e u2 u3:Str}(h:MP W os pr PL TL Rn)(hn:n∉pr.map (·.1))(hw:w∉pr.map (·.2))(hp:(n,(kd,b,e))∈W.ts)(hb:(b,u2)∈pr)(he:(e,u3)∈pr)(h1:∀y,y≠w->(y∈Rn'↔y∈Rn))(h2:w∈Rn'↔n∉os):MP W os (pr++[(n,w)]) PL (TL++[(w,(kd,u2,u3))]) Rn':=by
 refine⟨by rw[B8];exact I0 h.n1 hn,by rw[Y6];exact I0 h.n2 hw,?_,λx hx=>?_,λx hx=>?_,h.ko' hw h1 h2⟩
 .rw[Y6,B8,h.wd,Mi]
 .obtain⟨n',R_,We⟩:=h.pt x hx;exact⟨n',Lb _ R_,We⟩
 .rcases Ld.mp hx with z|z
  .obtain⟨n',b',e',q1,q2,q3,q4⟩:=h.ti x z;exact⟨n',b',e',Lb _ q1,Lb _ q2,Lb _ q3,q4⟩
  .rw[Li.mp z];exact⟨n,b,e,Lf _ Lx,Lb _ hb,Lb _ he,hp⟩
def MP.sR (h:MP W os pr PL TL Rn)(h1:∀y∈pr.map (·.2),(y∈Rn'↔y∈Rn)):MP W os pr PL TL Rn':=
 ⟨h.n1,h.n2,h.wd,h.pt,h.ti,λx hx=>by rw[h1 _ (KZ.mpr ⟨x,hx,rfl⟩)];exact h.ko x hx⟩
def ip (K:Qd):Sp:=λvs H Q _=>∃(S:Sd) (lx lw lk:Addr) (xs:List Int) (ws ks:xL),vs=[.ref S.a,.ref lx,.ref lw,.ref lk]/\SdIs K H S/\gS S.W/\SqL K H lx (xs.map V.int)/\xs.length=16/\(∀x∈xs,0<=x)/\SqL K H lw (ws.map V.str)/\AX ws/\SqL K H lk (ks.map V.str)/\zO ks/\
 ∀(t r m bl:Addr) (L R:Sd) (pr:xz) (os:xL) (H':Hp),Same H H'->H' t=some (.tup [.ref r,.ref m])->H' m=some (.dK (i6 (pr.map N8)))->H' bl=some (.lst [])->RuleIs K H' r bl L R []->iK L.W R.W []->MP S.W os pr L.W.pts L.W.ts (b9 R.W)->(∀n x,(n,x)∈S.W.ts->(x.2.1∈os\/x.2.2∈os)->n∈os)->(∀n∈os,n∈pr.map (·.1))->(∀n∈b9 R.W,n∉b9 L.W->Wd ws 8 12 n)->(∀n∈b9 L.W,Wd ws 0 8 n)->Q (.ref t) H'
variable {w:World}
abbrev jl:=λP w K mg base=>U8 P w K mg base J0 2 "_law_rule" ["_law_web_here","_law_xs","_law_words_here","_law_kinds_here"] [] (ip K)
theorem pz {f fd}(T:Txt K mg)(bw:eX P w K mg base)(gf:kB P w K mg base)(F:Fun K "_law_rule" "_law_rule" dC f fd):E4 P w K mg base J0 2 f fd ["_law_web_here","_law_xs","_law_words_here","_law_kinds_here"] (ip K):=by
 walk_at "#sc__law_rule"
 .obtain⟨S,lx,lw,lk,xs,ws,ks,rfl,_⟩:=h;rfl
 .obtain⟨S,lx,lw,lk,xs,ws,ks,rfl,hS,hG,hX,t_,v_,hW,⟨wl,wnd,wk⟩,hK,⟨kl0,kl3,kk⟩,k⟩:=h;have Tt:=hS.len;rw[C0] at Tt;walk_at "@sc__law_rule /6'0bw l01zc4ac5aA566'0gf 9094l5157Q58ngQQ59ngQQ8tv~244zc:ac;aA8Cb20:070;8Ch200;28b20:dorD0;06dCh200;29b20:8tv~245zc:ac;aA/h200;zc<ac=ac>aA8Cb2e10:070;8Cn9<gb70=b70>28b2e10:dorD0;06dCn9<gb70=b70>29b2e10:8tv*3s'1nA M'0T.b_min ~ugi211J~e1k329f:adCb3iB21e0:1k4329b2e10:5?sWVU3298tv*3J.s'1nA M'0T.b_min ~ugi211J~e1k329:'0iF ~q~p3NS0?Ef:a5<b3iB21e0:1k435=b?iB21e0:1k4?dCn9<9=3b?iB21e0:1k4?29b2e10:5@Q8tv,07zc;acAaAdC0;0@0A7nqn98993E4@"
  walk_at "S";nomatch⟨S,lx,xs,rfl,hS,hX,t_,v_,λt0 lp lt ps ts H1 s1 f1 g1 g2 pk=>?_⟩;refine K2 (SqT.of f1) rfl ?_;rfl';walk_at "S";nomatch⟨S,lp,lt,lx,ps,ts,xs,rfl,hS.same s1,SqL.of g1,SqL.of g2,pk,s1.seq hX,t_,v_,λlo os B UA s2 fo ok=>?_⟩;have UB:=s1.trans s2;have SB:=hS.same UB;have XB:=UB.seq hX;have WB:=UB.seq hW;have KB:=UB.seq hK;have PB:=s2 _ _ g1;have TB:=s2 _ _ g2;rfl';walk_at "S";rfl';intro wd H3 n0 m3 f3;rfl';walk_at "S";rfl';intro d1 H4 n1 m4 f4;rfl';intro d2 H5 n2 m5 f5;nomatch⟨d8 (by simp),λa1 H6 na1 m6 f6=>?_⟩;rfl';walk_at "S";rfl';intro d3 H7 n3 m7 f7;rfl';intro d4 H8 n4 m8 f8;nomatch⟨d8 (by simp),λa2 H9 na2 m9 f9=>?_⟩;have SI:=m4.trans (m5.trans m6);have ne:NE B wd d1 d2 d3 d4:=⟨n0,m3.free n1,m3.free (m4.free n2),m3.free (SI.free n3),m3.free (SI.free (m7.free n4)),d6 f3 n1,d6 (m4 _ _ f3) n2,d6 (SI _ _ f3) n3,d6 (m7 _ _ (SI _ _ f3)) n4,
   d6 f4 n2,d6 (m6 _ _ (m5 _ _ f4)) n3,d6 (m7 _ _ (m6 _ _ (m5 _ _ f4))) n4,d6 (m6 _ _ f5) n3,d6 (m7 _ _ (m6 _ _ f5)) n4,d6 f7 n4⟩
  have Xt:=m7.trans (m8.trans m9);have rs0:RS K B H9 wd d1 d2 d3 d4 a1 a2 [] [] [] [] [] [] []:=⟨m3.trans (SI.trans Xt),SqT.of (Xt _ _ f6),SqT.of f9,Xt _ _ (SI _ _ f3),Xt _ _ (m6 _ _ (m5 _ _ f4)),Xt _ _ (m6 _ _ f5),m9 _ _ (m8 _ _ f7),m9 _ _ f8,.nil,.nil⟩
  have Tw:=pk.l1;have Wn:=pk.l2;rfl';walk_at "S";nomatch⟨_,rfl,.inl ⟨lp,_,rfl,SqL.of (rs0.sm _ _ PB),?_⟩⟩;refine M9 (n:=ps.length) (λi σ H'=>(∃u:Nat->Option V,σ=[some (V.ref S.a),some (.ref lx),some (.ref lw),some (.ref lk),some (.ref lp),some (.ref lt),some (.ref lo),some (.ref wd),some (.ref a1),some (.ref a2),u 10,u 11,u 12,u 13,u 14,u 15,u 16,u 17])/\∃pr PL PR,RS K B H' wd d1 d2 d3 d4 a1 a2 (i6 pr) [] [] PL PR [] []/\LR ws i 0 0 0 PL [] PR []/\WO ps ws os i (i6 pr) PL PR/\pr.length<=i/\MP S.W os pr PL [] (PR.map (·.1))/\pr.map (·.1)=ps.take i)
   ⟨sg rfl,[],[],[],rs0,LR.new,⟨(λ_ h=>nomatch h),(λj _ _ h=>absurd h (QC _)),(λj _ h=>absurd h (QC _)),λj _ _ h=>absurd h (QC _)⟩,La _,⟨Mz,Mz,rfl,(λ_ h=>nomatch h),(λ_ h=>nomatch h),λ_ h=>nomatch h⟩,rfl⟩ (λi σ H' hi hp=>⟨_,.str (ps[i]),SqL.of (hp.2.choose_spec.choose_spec.choose_spec.1.sm _ _ PB),by rw[Lc,KY hi];rfl⟩) ?_ ?_
  .rintro B9 b_ i v σ Ro Vt hi ⟨⟨u,rfl⟩,pr,PL,PR,rs,lr,wo,RA,mp,SJ⟩ ⟨t,x,hx,nt,rfl,rfl⟩;refine b_ λ_ _=>?_;have l_:=hx _ (SqL.of (rs.sm _ _ PB));rw[Lc,KY hi] at l_;cases l_;have YF:ps[i]?=some ps[i]:=KY hi;obtain⟨wi,PC,Tx⟩:=rE wl i (by lia);obtain⟨⟨x0,kd⟩,u_,ex⟩:=KZ.mp (pk.p _ (LH hi));have P_:x0=ps[i]:=ex;subst P_;have Rp:=hG.kd _ u_;obtain⟨nL,nR⟩:=lr.f1 wnd PC;obtain⟨RC,Xu,P',SD,_⟩:=u7 (o:= .tup _) nt;rw[Xu];have RM:=rs.mono SD;refine K2 (SqT.of P') rfl ?_;rfl';walk_at "S";nomatch i9 (RM.sm.seq WB) (Tx _ rfl) ?_;nomatch P9 (C5 (k:=Sum.inr ps[i]) RM.w (d8 (by rw[k9];lia)) ?_);have RI:ps[i]∉pr.map (·.1):=λz=>by
    rw[SJ] at z;have z2:(ps.take (i+1)).Nodup:=pk.n1.sublist (MA _ _);rw[LF,YF] at z2;exact(Ls.mp z2).2.2 _ z _ (by simp) rfl
   have Xv:wi∉pr.map (·.2):=λz=>by
    rw[mp.wd,Nz,Mn] at z;exact nL z
   have TC:(pr++[(ps[i],wi)]).map (·.1)=ps.take (i+1):=by rw[B8,SJ,LF,YF];rfl
   have TF:(pr++[(ps[i],wi)]).length<=i+1:=by rw[Lg,Lq];lia
   rw[aE RI];have RO:=RM.setW (kw':=i6 (pr++[(ps[i],wi)])) ne;generalize u9 RC wd (.dK (i6 (pr++[(ps[i],wi)])))=UC at RO⊢;have S12:=SB.same RO.sm;refine gJ (by assumption) ?_;walk_at "S";nomatch k8 S12.at_.tup ?_;nomatch u4 (v:= .str kd) (by have z:=J2 (k:=Sum.inr ps[i]) S12.at_.pts;rw[N0 (F2 hS.nd) u_] at z;exact z) ?_;nomatch k8 RO.t1 ?_;nomatch i9 (RO.sm.seq WB) (Tx _ rfl) ?_;nomatch P9 (C5 (k:=Sum.inr wi) RO.h1 (d8 (by rw[k9];have:=lr.ll;lia)) ?_);have N_:=RO.set1 (kd:=kd) ne nL;generalize u9 UC d1 (.dK (F7 (i6 PL) (Sum.inr wi) (.str kd)))=H13 at N_⊢;have S13:=SB.same N_.sm;nomatch J1 (SqL.of (N_.sm _ _ fo)) ?_;nomatch O8 (λhb=>?_) (λhb=>?_)
   .nomatch k8 S13.at_.tup ?_;nomatch u4 (v:= .str kd) (by have z:=J2 (k:=Sum.inr ps[i]) S13.at_.pts;rw[N0 (F2 hS.nd) u_] at z;exact z) ?_;nomatch k8 N_.t2 ?_;nomatch i9 (N_.sm.seq WB) (Tx _ rfl) ?_;nomatch P9 (C5 (k:=Sum.inr wi) N_.h3 (d8 (by rw[k9];have:=lr.lr;lia)) ?_);walk_at "X";exact⟨sg rfl,_,_,_,N_.set3 (kd:=kd) ne nR,lr.s1 wnd PC Rp true,by have z:=wo.s1 (kd:=kd) pk.n1 YF PC true (λ_=>rfl);rw[aE RI] at z;exact z,TF,mp.sP RI Xv u_ (λy hy=>by show y∈(PR++[(wi,kd)]).map (·.1)↔_;rw[B8,Ld,Li];exact⟨λz=>z.elim id λq=>absurd q hy,.inl⟩) ⟨λ_=>hb,λ_=>by show wi∈(PR++[(wi,kd)]).map (·.1);rw[B8];simp⟩,TC⟩
   .rfl';walk_at "X";exact⟨sg rfl,_,_,_,N_,lr.s1 wnd PC Rp false,by have z:=wo.s1 (kd:=kd) pk.n1 YF PC false (λz=>absurd hb z);rw[aE RI] at z;exact z,TF,mp.sP RI Xv u_ (λy hy=>UR) ⟨λz=>absurd z nR,λz=>absurd hb z⟩,TC⟩
  .rintro σ Ro ⟨⟨u,rfl⟩,pr,PL,PR,rs,lr,wo,RA,mp,SJ⟩;rw[Ll (La _)] at SJ;refine⟨⟨_,SqL.of (rs.sm _ _ PB),by rw[KW];exact La _⟩,?_⟩;refine gJ (by assumption) ?_;change jI _ _ _ _ Ro;walk_at "S";nomatch⟨_,rfl,.inl ⟨lt,_,rfl,SqL.of (rs.sm _ _ TB),?_⟩⟩;refine M9 (n:=ts.length) (λi σ H'=>(∃u:Nat->Option V,σ=[some (V.ref S.a),some (.ref lx),some (.ref lw),some (.ref lk),some (.ref lp),some (.ref lt),some (.ref lo),some (.ref wd),some (.ref a1),some (.ref a2),u 10,u 11,u 12,u 13,u 14,u 15,u 16,u 17])/\∃pr kL kR TL TR,RS K B H' wd d1 d2 d3 d4 a1 a2 (i6 pr) kL kR PL PR TL TR/\LR ws ps.length i 0 0 PL TL PR TR/\WO ps ws os ps.length (i6 pr) PL PR/\pr.length<=ps.length+i/\MP S.W os pr PL TL (PR.map (·.1)++TR.map (·.1))/\pr.map (·.1)=ps++ts.take i)
    ⟨sg rfl,_,_,_,_,_,rs,lr,wo,RA,by rw[Nz,Mn];exact mp,by rw[List.take_zero,Mn];exact SJ⟩ (λi σ H' hi hp=>⟨_,.str (ts[i]),SqL.of (hp.2.choose_spec.choose_spec.choose_spec.choose_spec.choose_spec.1.sm _ _ TB),by rw[Lc,KY hi];rfl⟩) ?_ ?_
   .clear rs lr wo RA mp SJ;rintro B9 b_ i v σ Ro Vt hi ⟨⟨u,rfl⟩,pr,kL,kR,TL,TR,rs,lr,wo,RA,mp,SJ⟩ ⟨t,x,hx,nt,rfl,rfl⟩;refine b_ λ_ _=>?_;have l_:=hx _ (SqL.of (rs.sm _ _ TB));rw[Lc,KY hi] at l_;cases l_;have hti:=LH hi;have UW:ts.take (i+1)=ts.take i++[ts[i]]:=by rw[LF,KY hi];rfl
    have htn:ts[i]∉ts.take i:=λz=>by
     have z2:(ts.take (i+1)).Nodup:=pk.n2.sublist (MA _ _);rw[UW] at z2;exact(Ls.mp z2).2.2 _ z _ (by simp) rfl
    generalize ts[i]=nm at hti UW htn;obtain⟨wi,PC,Tx⟩:=rE wl (4+i) (by lia);obtain⟨⟨y1,y2,y3⟩,UD,hy2,hy3⟩:=pk.t _ hti;have Rp:=hG.tk _ UD;obtain⟨nL,nR⟩:=lr.f2 wnd PC;have hnp:nm∉ps:=λz=>(Ls.mp hS.nd).2.2 nm (pk.p _ z) nm (KZ.mpr ⟨_,UD,rfl⟩) rfl;obtain⟨RC,Xu,P',SD,_⟩:=u7 (o:= .tup _) nt;rw[Xu];have RM:=rs.mono SD;have S11:=SB.same RM.sm;obtain⟨aa,q1,q3⟩:=ir S11.at_.ts (O4 hS.nd) UD;refine K2 (SqT.of P') rfl ?_;rfl';walk_at "S";nomatch j6 S11.at_.tup ?_;nomatch u4 (v:= .ref aa) (by have z:=J2 (k:=Sum.inr nm) S11.at_.ties;rw[q1] at z;exact z) ?_;refine K2 (xs:=[.str y1,.str y2,.str y3]) q3 rfl ?_;rfl';walk_at "S";nomatch i9 (RM.sm.seq WB) (Tx _ rfl) ?_;nomatch P9 (C5 (k:=Sum.inr nm) RM.w (d8 (by rw[k9];lia)) ?_);have RI:nm∉pr.map (·.1):=λz=>by
     rw[SJ] at z;exact(Ld.mp z).elim hnp htn
    have Xv:wi∉pr.map (·.2):=λz=>by
     rw[mp.wd] at z;rcases Ld.mp z with z|z
     .obtain⟨y,hy,ey⟩:=KZ.mp z;have:=(lr.pl y hy).1;rw[show y.1=wi from ey] at this;exact Wd.no wnd this ⟨4+i,La _,Mw _,PC⟩ (.inl (by lia))
     .exact nL z
    have hwR:wi∉PR.map (·.1)++TR.map (·.1):=λz=>by
     rcases Ld.mp z with z|z
     .obtain⟨y,hy,ey⟩:=KZ.mp z;rcases(lr.pr y hy).1 with q|q
      .have:=(lr.pl y q).1;rw[show y.1=wi from ey] at this;exact Wd.no wnd this ⟨4+i,La _,Mw _,PC⟩ (.inl (by lia))
      .obtain⟨j,j1,j2,_⟩:=q;lia
     .exact nR z
    have TC:(pr++[(nm,wi)]).map (·.1)=ps++ts.take (i+1):=by rw[B8,SJ,UW,Mi]
    have TF:(pr++[(nm,wi)]).length<=ps.length+(i+1):=by rw[Lg,Lq];lia
    have Xw:=wo.s2 (w:=wi) hnp;obtain⟨u2',hu2',_,_⟩:=wo.get wl Tw hy2;obtain⟨u3',hu3',_,_⟩:=wo.get wl Tw hy3;obtain⟨_,eb2,QN⟩:=gE hu2';obtain⟨_,eb3,Um⟩:=gE hu3';rw[aE RI] at Xw⊢;have RO:=RM.setW (kw':=i6 (pr++[(nm,wi)])) ne;generalize u9 RC wd (.dK (i6 (pr++[(nm,wi)])))=UC at RO⊢;obtain⟨u2,RG,uL2,uR2⟩:=Xw.get wl Tw hy2;obtain⟨u3,hu3,uL3,uR3⟩:=Xw.get wl Tw hy3;have n1':((pr++[(nm,wi)]).map (·.1)).Nodup:=by rw[B8];exact I0 mp.n1 RI
    have Xx:(y2,u2)∈pr:=by
     have z:=N0 (k:=u2') n1' (Lb _ (by rw[V.str.inj eb2];exact QN));rw[RG] at z;rw[V.str.inj (Ly z),V.str.inj eb2];exact QN
    have Xy:(y3,u3)∈pr:=by
     have z:=N0 (k:=u3') n1' (Lb _ (by rw[V.str.inj eb3];exact Um));rw[hu3] at z;rw[V.str.inj (Ly z),V.str.inj eb3];exact Um
    refine gJ (by assumption) ?_;walk_at "S";nomatch u4 (v:= .str u2) (by have z:=J2 (k:=Sum.inr y2) (show Rd UC wd _ from .inl RO.w);rw[RG] at z;exact z) ?_;nomatch u4 (v:= .str u3) (by have z:=J2 (k:=Sum.inr y3) (show Rd UC wd _ from .inl RO.w);rw[hu3] at z;exact z) ?_;nomatch⟨d8 (by simp),λl13 H13 n13 Rh f13=>?_⟩;have N_:=RO.mono Rh;nomatch j6 N_.t1 ?_;nomatch i9 (N_.sm.seq WB) (Tx _ rfl) ?_;nomatch P9 (C5 (k:=Sum.inr wi) N_.h2 (d8 (by have:=lr.lt;have:=N_.tl.length;lia)) ?_);have Wo:=N_.set2 (kd:=y1) (o1:=u2) (o2:=u3) ne nL (SqT.of f13);generalize u9 H13 d2 (.dK (F7 kL (Sum.inr wi) (.ref l13)))=Vu at Wo⊢;nomatch J1 (SqL.of (Wo.sm _ _ fo)) ?_;nomatch O8 (λhb=>?_) (λhb=>?_)
    .obtain⟨Zp,ob3⟩:=ok.ok _ hti hb _ UD;nomatch u4 (v:= .str u2) (by have z:=J2 (k:=Sum.inr y2) (show Rd Vu wd _ from .inl Wo.w);rw[RG] at z;exact z) ?_;nomatch u4 (v:= .str u3) (by have z:=J2 (k:=Sum.inr y3) (show Rd Vu wd _ from .inl Wo.w);rw[hu3] at z;exact z) ?_;nomatch⟨d8 (by simp),λl15 H15 n15 Vv f15=>?_⟩;have Xz:=Wo.mono Vv;nomatch j6 Xz.t2 ?_;nomatch i9 (Xz.sm.seq WB) (Tx _ rfl) ?_;nomatch P9 (C5 (k:=Sum.inr wi) Xz.h4 (d8 (by have:=lr.lu;have:=Xz.tr.length;lia)) ?_);walk_at "X";exact⟨sg rfl,_,_,_,_,_,Xz.set4 (kd:=y1) (o1:=u2) (o2:=u3) ne nR (SqT.of f15),lr.s2 wnd PC Rp uL2 uL3 true (λ_=>⟨uR2 Zp,uR3 ob3⟩),Xw,TF,mp.sT RI Xv UD Xx Xy (λy hy=>by show y∈PR.map (·.1)++(TR++[(wi,(y1,u2,u3))]).map (·.1)↔_;rw[B8,←Mi,Ld,Li];exact⟨λz=>z.elim id λq=>absurd q hy,.inl⟩) ⟨λ_=>hb,λ_=>by show wi∈PR.map (·.1)++(TR++[(wi,(y1,u2,u3))]).map (·.1);rw[B8];simp⟩,TC⟩
    .rfl';exact⟨sg rfl,_,_,_,_,_,Wo,lr.s2 wnd PC Rp uL2 uL3 false (λz=>nomatch z),Xw,TF,mp.sT RI Xv UD Xx Xy (λy hy=>UR) ⟨λz=>absurd z hwR,λz=>absurd hb z⟩,TC⟩
   .clear rs lr wo RA mp SJ;rintro σ Ro ⟨⟨u,rfl⟩,pr,kL,kR,TL,TR,rs,lr,wo,RA,mp,SJ⟩;rw[Ll (La _)] at SJ;refine⟨⟨_,SqL.of (rs.sm _ _ TB),by rw[KW];exact La _⟩,?_⟩;refine gJ (by assumption) ?_;change jI _ _ _ _ Ro;have hrl:=lr.lr;have Wj:=lr.lu;have htr:=rs.tr.length;obtain⟨x8,hx8,hx8'⟩:=aK t_ v_ 8 (by lia);obtain⟨x9,Vq,hx9'⟩:=aK t_ v_ 9 (by lia);obtain⟨x10,hx10,hx10'⟩:=aK t_ v_ 10 (by lia);obtain⟨x11,Vx,XA⟩:=aK t_ v_ 11 (by lia);obtain⟨x12,hx12,hx12'⟩:=aK t_ v_ 12 (by lia);obtain⟨x13,hx13,hx13'⟩:=aK t_ v_ 13 (by lia);walk_at "S";nomatch i9 (rs.sm.seq XB) hx8 ?_;nomatch k8 rs.t2 ?_;nomatch F0 (bG (.inl rs.h3) ?_);rw[k9];nomatch⟨_,_,rfl,?_⟩;generalize Uo:(if 4 -(PR.length:Int)<x8 % 3 then 4 -(PR.length:Int) else x8 % 3)=cnt;have hc:0<=cnt/\cnt<=2/\PR.length+cnt.toNat<=4:=by subst Uo;split<;>lia
    clear Uo;nomatch X4 (by lia) (by lia) ?_;refine M9 (n:=cnt.toNat) (λi σ H'=>(∃u:Nat->Option V,σ=[some (V.ref S.a),some (.ref lx),some (.ref lw),some (.ref lk),some (.ref lp),some (.ref lt),some (.ref lo),some (.ref wd),some (.ref a1),some (.ref a2),u 10,u 11,u 12,u 13,u 14,u 15,u 16,u 17])/\∃Rq,RS K B H' wd d1 d2 d3 d4 a1 a2 (i6 pr) kL kR PL Rq TL TR/\LR ws ps.length ts.length i 0 PL TL Rq TR/\Rq.length=PR.length+i/\∀y,(Wd ws 0 8 y\/False)->(y∈Rq.map (·.1)↔y∈PR.map (·.1)))
     ⟨sg rfl,_,rs,lr,rfl,λ_ _=>UR⟩ (λi σ H' hi _=>by exact hi) ?_ ?_
    .clear rs lr;rintro B9 b_ i v σ Vt Ro hi ⟨⟨u,rfl⟩,Rq,rs,lr,hprl,bP⟩ ⟨rfl,rfl⟩;refine b_ λ_ _=>?_;replace hi:i<2/\PR.length+i<4:=by lia
     obtain⟨hi,hi4⟩:=hi;clear hc;obtain⟨wi,PC,Tx⟩:=rE wl (8+i) (by lia);have Vy:=Tx (8+(0+(i:Int))) (by lia);obtain⟨kd,Rp,Qf⟩:=O2 (ss:=ks) (i:=x9/(0+(i:Int)+1) % (ks.length:Int)) (Mo _ (by lia)) (Mc _ (by lia));nomatch i9 (rs.sm.seq XB) Vq ?_;nomatch F0 (p0 (rs.sm.seq KB) ?_);rw[KW];nomatch i9 (rs.sm.seq KB) Rp ?_;nomatch k8 rs.t2 ?_;nomatch i9 (rs.sm.seq WB) Vy ?_;nomatch P9 (C5 (k:=Sum.inr wi) rs.h3 (d8 (by rw[k9];lia)) ?_);walk_at "X";exact⟨sg rfl,_,rs.set3 (kd:=kd) ne (lr.f3 wnd Tw PC),lr.s3 wnd Tw PC (kk _ Qf),by rw[Lg,Lq];lia,λy hy=>by
      rw[B8,Ld,Li,←bP y hy];refine⟨λz=>z.elim id λq=>?_,.inl⟩;subst q;exact(Wd.no wnd (hy.elim id False.elim) ⟨8+i,La _,Mw _,PC⟩ (.inl (by lia))).elim⟩
    .clear rs lr;rintro σ Ro ⟨⟨u,rfl⟩,Rq,rs,lr,hprl,bP⟩;refine⟨La _,?_⟩;refine gJ (by assumption) ?_;change jI _ _ _ _ Ro;walk_at "S";nomatch k8 rs.t2 ?_;nomatch D0 (ss:=Rq.map (·.1)) (.inl rs.h3) (by rw[K5,C9]) (by rw[KW];lia) (λSR b1 b2 le RC nle SD P'=>?_);have ble:B le=none:=rs.sm.free nle;have RM:=rs.mono SD;have gl:=b1.length_eq;rw[KW] at gl;rfl';walk_at "S";nomatch i9 (RM.sm.seq XB) hx10 ?_;nomatch j6 RM.t2 ?_;nomatch F0 (bG (.inl RM.h4) ?_);nomatch⟨_,_,rfl,?_⟩;generalize UE:(if 4 -(kR.length:Int)<x10 % 3 then 4 -(kR.length:Int) else x10 % 3)=Rt;have SM:0<=Rt/\Rt<=2/\TR.length+Rt.toNat<=4:=by subst UE;split<;>lia
     clear UE;nomatch⟨d8 (by simp),λl3 UC n3 M' Vz=>?_⟩;refine Dz (kS (SqL.of (M' _ _ P')) (SqL.of Vz) (V5 _) rfl ?_);refine .inr ⟨_,rfl,?_⟩;have Xs:V1 (SR.map V.str) []=decide (SR=[]):=by cases SR<;>rfl
     rw[Xs];generalize hn:(if(!decide (SR=[]))=true then(1:Int) else 0)=nn;have SE:(nn=0\/nn=1)/\(nn=1->0<SR.length):=by
      subst hn;cases SR with
      |nil=>simp
      |cons _ _=>simp
     have hne4:d4≠le:=d6 rs.h4 nle;rfl';have hmul:0<=Rt*nn/\Rt*nn<=Rt/\(0<Rt*nn->nn=1):=by
      rcases SE.1 with rfl|rfl<;>lia
     generalize Rt*nn=cnt3 at hmul⊢;refine X4 (by lia) (by lia) ?_;have RO:=RM.mono M';refine M9 (n:=cnt3.toNat) (λi σ H'=>(∃u:Nat->Option V,σ=[some (V.ref S.a),some (.ref lx),some (.ref lw),some (.ref lk),some (.ref lp),some (.ref lt),some (.ref lo),some (.ref wd),some (.ref a1),some (.ref a2),u 10,u 11,u 12,u 13,u 14,some (.ref le),u 16,u 17])/\H' le=some (.lst (SR.map V.str))/\∃YG Sf,RS K B H' wd d1 d2 d3 d4 a1 a2 (i6 pr) kL YG PL Rq TL Sf/\LR ws ps.length ts.length cnt.toNat i PL TL Rq Sf/\Sf.length=TR.length+i/\∀y,(Wd ws 0 8 y\/False)->(y∈Sf.map (·.1)↔y∈TR.map (·.1)))
      ⟨sg rfl,M' _ _ P',_,_,RO,lr,rfl,λ_ _=>UR⟩ (λi σ H' hi _=>by exact hi) ?_ ?_
     .clear rs RM RO lr;rintro B9 b_ i v σ Vt Ro hi ⟨⟨u,rfl⟩,hle,YG,Sf,rs,lr,htrl,bT⟩ ⟨rfl,rfl⟩;refine b_ λ_ _=>?_;have RJ:0<SR.length:=SE.2 (hmul.2.2 (by lia));replace hi:i<2/\TR.length+i<4:=by lia
      obtain⟨hi,hi4⟩:=hi;clear SM hmul SE;obtain⟨wi,PC,Tx⟩:=rE wl (10+i) (by lia);have Vy:=Tx (10+(0+(i:Int))) (by lia);obtain⟨kd,Rp,Qf⟩:=O2 (ss:=ks) (i:=x11/(0+(i:Int)+1) % (ks.length:Int)) (Mo _ (by lia)) (Mc _ (by lia));obtain⟨o1,So,YE⟩:=O2 (ss:=SR) (i:=x12/(0+(i:Int)+1) % (SR.length:Int)) (Mo _ (by lia)) (Mc _ (by lia));obtain⟨o2,RW,hm2⟩:=O2 (ss:=SR) (i:=x13/(0+(i:Int)+1) % (SR.length:Int)) (Mo _ (by lia)) (Mc _ (by lia));rfl';walk_at "S";nomatch i9 (rs.sm.seq XB) Vx ?_;nomatch F0 (p0 (rs.sm.seq KB) ?_);rw[KW];nomatch i9 (rs.sm.seq KB) Rp ?_;rfl';walk_at "S";nomatch i9 (rs.sm.seq XB) hx12 ?_;nomatch F0 (p0 (SqL.of hle) ?_);rw[KW];nomatch i9 (SqL.of hle) So ?_;nomatch i9 (rs.sm.seq XB) hx13 ?_;nomatch F0 (p0 (SqL.of hle) ?_);rw[KW];nomatch i9 (SqL.of hle) RW ?_;nomatch⟨d8 (by simp),λl13 H13 n13 Rh f13=>?_⟩;have N_:=rs.mono Rh;have XC:=Rh _ _ hle;nomatch j6 N_.t2 ?_;nomatch i9 (N_.sm.seq WB) Vy ?_;nomatch P9 (C5 (k:=Sum.inr wi) N_.h4 (d8 (by have:=N_.tr.length;lia)) ?_);walk_at "X";exact⟨sg rfl,by rw[b7 hne4.symm];exact XC,_,_,N_.set4 (kd:=kd) (o1:=o1) (o2:=o2) ne (lr.f4 wnd Wn PC) (SqT.of f13),lr.s4 wnd Wn PC (kk _ Qf) (b1.mem_iff.mp YE) (b1.mem_iff.mp hm2),by rw[Lg,Lq];lia,λy hy=>by
       rw[B8,Ld,Li,←bT y hy];refine⟨λz=>z.elim id λq=>?_,.inl⟩;subst q;exact(Wd.no wnd (hy.elim id False.elim) ⟨10+i,La _,Mw _,PC⟩ (.inl (by lia))).elim⟩
     .clear rs RM RO lr;rintro σ G ⟨⟨u,rfl⟩,hle,YG,Sf,rs,lr,htrl,bT⟩;refine⟨La _,?_⟩;refine gJ (by assumption) ?_;change jI _ _ _ _ G;walk_at "S";rfl';intro md G1 nmd mG1 fG1;rfl';walk_at "S";rfl';have hmw:md≠wd:=(d6 rs.w nmd).symm;refine L8 (mG1 _ _ rs.w) (λndw o=>?_);have gm:C7 wd o (i6 pr) G md=none:=by unfold C7;rw[b7 hmw];exact nmd
      have sG:Same (C7 wd o (i6 pr) G) (C7 wd o (i6 pr) G1):=λb u e=>by
       unfold C7 at e⊢;by_cases hb:b=wd
       .subst hb;rw[b5] at e⊢;exact e
       .rw[b7 hb] at e⊢;exact mG1 _ _ e
      refine M9 (n:=(i6 pr).length) (λi σ H'=>(∃u:Nat->Option V,σ=[some (V.ref S.a),some (.ref lx),some (.ref lw),some (.ref lk),some (.ref lp),some (.ref lt),some (.ref lo),some (.ref wd),some (.ref a1),some (.ref a2),u 10,u 11,u 12,u 13,u 14,u 15,some (.ref md),u 17])/\Same (C7 wd o (i6 pr) G) H'/\H' md=some (.dK (i6 ((pr.take i).map N8))))
       ⟨sg rfl,sG,by unfold C7;rw[b7 hmw];exact fG1⟩ (λi σ H' hi hp=>⟨hp.2.1 _ _ b5,hi⟩) ?_ ?_
      .rintro B9 b_ i v σ G2 G2' hi ⟨⟨u,rfl⟩,s2',Qf⟩ ⟨t,kv,h_,nt,rfl,rfl⟩;refine b_ λ_ _=>?_;obtain⟨⟨n,s⟩,YH,rfl⟩:=Z3 h_;have e7:pr.take (i+1)=pr.take i++[(n,s)]:=by rw[LF,YH];rfl
       have Q_:s∉((pr.take i).map N8).map (·.1):=λz=>by
        rw[LY] at z;have z2:((pr.take (i+1)).map (·.2)).Nodup:=mp.n2.sublist ((MA _ _).map _);rw[e7,Y6] at z2;exact(Ls.mp z2).2.2 s z s (by simp) rfl
       obtain⟨G3,eG3,fG3,Wq,_⟩:=u7 (o:= .tup _) nt;rw[eG3];refine K2 (SqT.of fG3) rfl ?_;nomatch P9 (C5 (k:=Sum.inr s) (Wq _ _ Qf) (d8 (by rw[k9,KW,Lp];lia)) ?_);walk_at "X";refine⟨sg rfl,E5 (s2'.trans Wq) gm,?_⟩;rw[b5,e7,Lh];exact MG (λz=>some (HO.dK z)) ((aE (kd:=n) Q_).trans rfl)
      .rintro σ G2 ⟨⟨u,rfl⟩,s2',Qf⟩;rw[k9,Ll (La _)] at Qf;refine⟨⟨s2' _ _ b5,La _⟩,?_⟩;have sG2:=s2'.thaw rs.w;have XD:thaw wd G2 md=some (.dK (i6 (pr.map N8))):=by rw[S8 hmw];exact Qf
       have rs2:=rs.mono sG2;refine gJ (by assumption) ?_;change zg _ _ _ (thaw wd G2);generalize thaw wd G2=G3 at sG2 rs2 XD⊢;nomatch⟨d8 (by simp),λbl G4 Wr YI XE=>?_⟩;nomatch⟨d8 (by simp),λr G5 nr m5' f5'=>?_⟩;nomatch⟨d8 (by simp),λt G6 nt m6' f6'=>?_⟩;have SK:=rs2.mono (YI.trans (m5'.trans m6'));have hcn:cnt.toNat<=2:=by lia
       have hcm:cnt3.toNat<=2:=by lia
       have hTR:Sf.length<=4:=by lia
       have hPR:Rq.length<=4:=by lia
       have XF:=lr.rule wnd wk Tw Wn hcn hcm hPR hTR;have hold:∀y∈pr.map (·.2),Wd ws 0 8 y:=λy hy=>by rw[mp.wd] at hy;exact lr.nmL Tw Wn y hy
       have hRn:∀y∈pr.map (·.2),(y∈b9 ⟨Rq,Sf⟩↔y∈PR.map (·.1)++TR.map (·.1)):=λy hy=>by
        have wy:=hold y hy;show y∈Rq.map (·.1)++Sf.map (·.1)↔_;rw[Ld,Ld];exact⟨λz=>z.elim (λz=> .inl ((bP y (.inl wy)).mp z)) λz=> .inr ((bT y (.inl wy)).mp z),λz=>z.elim (λz=> .inl ((bP y (.inl wy)).mpr z)) λz=> .inr ((bT y (.inl wy)).mpr z)⟩
       have J_:∀n∈b9 ⟨Rq,Sf⟩,n∉b9 ⟨PL,TL⟩->Wd ws 8 12 n:=λn hn i_=>by
        rcases Ld.mp (show n∈Rq.map (·.1)++Sf.map (·.1) from hn) with z|z
        .obtain⟨y,hy,rfl⟩:=KZ.mp z;rcases(lr.pr y hy).1 with q|q
         .exact absurd (Lb _ (KZ.mpr ⟨y,q,rfl⟩)) i_
         .exact q.up (La _) (by lia)
        .obtain⟨y,hy,rfl⟩:=KZ.mp z;rcases(lr.tr y hy).1 with q|q
         .exact absurd (Lf _ (KZ.mpr ⟨y,q,rfl⟩)) i_
         .exact q.up (by lia) (by lia)
       have nlk:∀{x:Str},N1 x=true->x.length<=100:=λh=>by have:=om h;lia
       refine k t r md bl ⟨a1,d1,d2,kL,⟨PL,TL⟩⟩ ⟨a2,d3,d4,YG,⟨Rq,Sf⟩⟩ pr os G6 (UB.trans SK.sm) f6' (m6' _ _ (m5' _ _ (YI _ _ XD))) (m6' _ _ (m5' _ _ XE)) ⟨SqT.of (m6' _ _ f5'),?_,?_,SqL.of (m6' _ _ (m5' _ _ XE)),λ_ h=>nomatch h⟩ XF (mp.sR (Rn':=b9 ⟨Rq,Sf⟩) hRn) ok.lo (λn hn=>by rw[SJ];exact ok.sub n hn) J_ (lr.nmL Tw Wn)
       .exact⟨⟨SK.t1,.inl SK.h1,.inl SK.h2,SK.tl⟩,SK.h1,SK.h2,ne.n12,lr.ndL wnd Tw,by rw[C0];have q1:PL.length<=4:=XF.l.l1;have q2:TL.length<=4:=XF.l.l2;show PL.length+TL.length<=60;lia,λx hx=>(lr.tl x hx).2.2,λx hx=>nlk (XF.l.kds x hx)⟩
       .exact⟨⟨SK.t2,.inl SK.h3,.inl SK.h4,SK.tr⟩,SK.h3,SK.h4,ne.n34,lr.ndR wnd Tw Wn hcn hcm,by rw[C0];show Rq.length+Sf.length<=60;lia,λx hx=>(lr.tr x hx).2.2,λx hx=>nlk (XF.r.kds x hx)⟩
theorem EqN.of0 {x y:V}{b:Bool}(h:EqN K H 0 x y b):∀n,EqN K H n x y b
 |0=>h
 |n+1=> .inl (EqN.of0 h n)
def DK (H:Hp)(a:Addr):Prop:=∃k,H a=some (.dK k)
structure Wb (K:Qd) (H:Hp) (s:Sd):Prop where
 t:SqT K H s.a [.ref s.p,.ref s.q]
 p:DK H s.p
 q:DK H s.q
def bC (gs:xL)(W:C3):C3:=⟨W.pts.filter λx=>!decide (x.1∈gs),W.ts.filter λx=>!decide (x.1∈gs)⟩
def qp (gs:xL)(W:C3):Bool:=(bC gs W).ts.any λx=>decide (x.2.2.1∈gs)||decide (x.2.2.2∈gs)
def lO (K:Qd):Sp:=λvs H Q E=>∃(a l p q:Addr) (kvs:am) (W:C3) (gs:xL),vs=[.ref a,.ref l]/\WebAt K H a p q kvs W/\H p=some (.dK (i6 W.pts))/\H q=some (.dK kvs)/\SqL K H l (gs.map V.str)/\(W.pts.map (·.1)).Nodup/\(W.ts.map (·.1)).Nodup/\W.pts.length<=60/\W.ts.length<=60/\(∀x∈W.ts,x.1.length<=100)/\
 if qp gs W=true then ∀H' e,Same H H'->H' e=none->E (.ref (cA K "Loose")) (some e) H' else NewP K H Q (bC gs W)
def NewP.mono (s:Same H H1)(k:NewP K H Q W):NewP K H1 Q W:=λa p q kvs W' H' s' h1 h2 h3 h4 h5 h6 h7 h8=>k a p q kvs W' H' (s.trans s') h1 h2 h3 h4 (s.free h5) (s.free h6) h7 h8
abbrev nS:=λP w K mg base=>U8 P w K mg base (qy P w) 3 "without" ["web","names"] [] (lO K)
theorem tX {f fd}(T:Txt K mg)(Q0:dY P w K mg base)(F:Fun K "without" "without" iT f fd):E4 P w K mg base (qy P w) 3 f fd ["web","names"] (lO K):=by
 refine F.okE sc_without (λvs H Q E h=>?_) (λd_ A outer s H vs Q E hr h=>?_)
 .obtain⟨a,l,p,q,kvs,W,gs,rfl,_⟩:=h;rfl
 .obtain⟨a,l,p,q,kvs,W,gs,rfl,hW,hp,hq,hL,nd1,Ts,l1,l2,Wi,k⟩:=h;have Si:=k9 W.pts;have RA:=hW.ts.length;walk_at "@sc_without 52F3xname,kind;1;,20zc0mname,kind,names;c1mname,kind,names;ALrD0002nl0153F3xname,tie;1;,20zc0mname,tie,names;c1mname,tie,names;ALrD0002nl018t~vpsWVU43f4adoyTrKhb304101rKhb304101d~g'0T.r_Loose M3'1KA 0476~f3nl23"
  exists k8 hW.tup ?_;refine L8 hp (λVj o1=>?_);refine B6 (n:=(i6 W.pts).length) (λi out H'=>Same (C7 p o1 (i6 W.pts) H) H'/\Paired (PrV K H') out (i6 ((W.pts.take i).filter λx=>!decide (x.1∈gs)))) ⟨Same.refl _,.nil⟩ (λi out H' hi hp=>⟨hp.1 _ _ b5,hi⟩) ?_ ?_
  .rintro B9 b_ N i v out H1 H2 hi ⟨s1,pr⟩ ⟨t,kv,h_,nt,rfl,rfl⟩;refine b_ λf_=>?_;obtain⟨x,hx,rfl⟩:=Z3 h_;obtain⟨H3,e3,f3,m3,_⟩:=u7 (o:= .tup _) nt;rw[e3];have L3:=((N4 (o:=o1) hp).trans (s1.trans m3).le).lst hL;have e7:W.pts.take (i+1)=W.pts.take i++[x]:=by rw[LF,hx];rfl
   have J':=LP pr;have F':=Lm (λx:Str×Str=>!decide (x.1∈gs)) (W.pts.take i);rw[k9] at J';rw[Lp] at F';refine K2 (SqT.of f3) rfl ?_;exists⟨rfl,?_⟩;exists J1 L3 ?_;exists gj (λhb=>?_) (λhb=>?_)
   .exists⟨d8 (by simp),λt4 H4 n4 m4 f4=>?_⟩;refine⟨d8 (by lia),f_ _ _ ⟨s1.trans (m3.trans m4),?_⟩⟩;rw[e7,LO,LV (by rw[hb];rfl),Mu];unfold i6 at pr⊢;rw[Lh];exact C8 (Paired.imp' (λ_ _ z=>PrV.mono (m3.trans m4).le z) pr) ⟨t4,rfl,SqT.of f4⟩
   .refine f_ _ _ ⟨s1.trans m3,?_⟩;rw[e7,LO,Md (by rw[hb];simp),Mu,Mn];exact Paired.imp' (λ_ _ z=>PrV.mono m3.le z) pr
  .rintro out H1 ⟨s1,pr⟩;have J':=LP pr;have F':=Lm (λx:Str×Str=>!decide (x.1∈gs)) (W.pts.take (i6 W.pts).length);rw[k9] at J';rw[Lp] at F';refine⟨⟨s1 _ _ b5,La _⟩,λD hD=>⟨d8 (by lia),?_⟩⟩;have sM:=P8 hp s1 hD (u:= .lst out);have fM:=ae s1 hD (u:= .lst out);have VA:=Paired.imp' (λ_ _ z=>PrV.mono (qg (d:=p) (u:= .lst out) hD) z) pr;generalize thaw p (u9 H1 D (.lst out))=HM at sM fM VA⊢;rw[Ll (by lia)] at VA;exists Y1 (SqL.of fM) VA (d8 (by rw[k9];refine LJ (Lm _ _) ?_;lia)) (λpp H2 npp m2 f2=>?_);have eP:bE (i6 (W.pts.filter λx=>!decide (x.1∈gs)))=i6 (bC gs W).pts:=aB (aq (T9 nd1));rw[eP] at f2;replace f2:H2 pp=some (.dK (i6 (bC gs W).pts)):=f2;have s2:=sM.trans m2;have W2:=hW.mono s2.le;have VB:=s2 _ _ hq;have L2':=s2.seq hL;exists j6 W2.tup ?_;refine L8 VB (λTp o2=>?_);refine B6 (n:=kvs.length) (λi out H'=>Same (C7 q o2 kvs H2) H'/\Paired (PrV K H') out ((kvs.take i).filter λkv=>!gR gs kv.1)) ⟨Same.refl _,.nil⟩ (λi out H' hi hp=>⟨hp.1 _ _ b5,hi⟩) ?_ ?_
   .rintro B9 b_ N i v out H3 To hi ⟨s3,pr3⟩ ⟨t,kv,h_,nt,rfl,rfl⟩;refine b_ λf_=>?_;obtain⟨H4,e4,f4,m4,_⟩:=u7 (o:= .tup _) nt;rw[e4];have Sv:=(N4 (o:=o2) VB).trans (s3.trans m4).le;have L4:=Sv.lst L2';obtain⟨x,hx,ex,b,eb,sb⟩:=(W2.ts.mono Sv).get h_;obtain⟨kk,Ss⟩:=kv;have P_:kk=Sum.inr x.1:=ex;have Su:Ss= .ref b:=eb;subst P_ Su;have e7:kvs.take (i+1)=kvs.take i++[(Sum.inr x.1,.ref b)]:=by rw[LF,h_];rfl
    have hol3:=LP pr3;have RP:=Lm (λkv:j0×V=>!gR gs kv.1) (kvs.take i);rw[Lp] at RP;refine K2 (SqT.of f4) rfl ?_;exists⟨rfl,?_⟩;exists J1 L4 ?_;exists gj (λhb=>?_) (λhb=>?_)
    .exists⟨d8 (by simp),λt5 H5 n5 m5 f5=>?_⟩;refine⟨d8 (by lia),f_ _ _ ⟨s3.trans (m4.trans m5),?_⟩⟩;rw[e7,LO,LV (p:=λkv:j0×V=>!gR gs kv.1) (by show(!decide (x.1∈gs))=true;rw[hb];rfl),Mu];exact C8 (Paired.imp' (λ_ _ z=>PrV.mono (m4.trans m5).le z) pr3) ⟨t5,rfl,SqT.of f5⟩
    .refine f_ _ _ ⟨s3.trans m4,?_⟩;rw[e7,LO,Md (p:=λkv:j0×V=>!gR gs kv.1) (by show ¬(!decide (x.1∈gs))=true;rw[hb];simp),Mu,Mn];exact Paired.imp' (λ_ _ z=>PrV.mono m4.le z) pr3
   .rintro out3 H3 ⟨s3,pr3⟩;have hol3:=LP pr3;have RP:=Lm (λkv:j0×V=>!gR gs kv.1) (kvs.take kvs.length);rw[Lp] at RP;refine⟨⟨s3 _ _ b5,La _⟩,λD3 hD3=>⟨d8 (by lia),?_⟩⟩;have sM3:=P8 VB s3 hD3 (u:= .lst out3);have fM3:=ae s3 hD3 (u:= .lst out3);have VC:=Paired.imp' (λ_ _ z=>PrV.mono (qg (d:=q) (u:= .lst out3) hD3) z) pr3;generalize thaw q (u9 H3 D3 (.lst out3))=HM3 at sM3 fM3 VC⊢;rw[Ll (La _)] at VC;have YJ:((kvs.filter λkv=>!gR gs kv.1).map (·.1)).Nodup:=T9 Tp;exists Y1 (SqL.of fM3) VC (d8 (by refine LJ (Lm _ _) ?_;lia)) (λqq H4 nqq m4 f4=>?_);rw[aB YJ] at f4;replace f4:H4 qq=some (.dK (kvs.filter λkv=>!gR gs kv.1)):=f4;have s4:=s2.trans (sM3.trans m4);have W4:=hW.mono s4.le;have TT:TiesIs K H4 (kvs.filter λkv=>!gR gs kv.1) (bC gs W).ts:=Z1 (λkv x z=>by rw[z.1];rfl) W4.ts;have XG:=(sM3.trans m4) _ _ f2;generalize hkf:(kvs.filter λkv=>!gR gs kv.1)=kvf at TT f4 YJ;have lkf:kvf.length<=60:=by rw[←hkf];refine LJ (Lm _ _) ?_;lia
    have L4:=s4.seq hL;exists D0 (ss:=(bC gs W).ts.map (·.1)) (.inl f4) (by rw[TT.keys,C9]) (by rw[KW,←TT.length];lia) (λs1 a1 a2 ls1 H5 n1 m5 f5=>?_);have ndt:((bC gs W).ts.map (·.1)).Nodup:=T9 Ts;refine C6 (SqL.of f5) ?_;refine M9 (n:=s1.length) (λi σ H'=>Same H5 H'/\(∃v4,σ=[Re a,Re l,Re pp,Re qq,v4])/\∀n∈s1.take i,∀t:N3,(n,t)∈(bC gs W).ts->(decide (t.2.1∈gs)||decide (t.2.2∈gs))=false) ⟨Same.refl _,⟨_,rfl⟩,by simp⟩ (λi σ H' hi hp=>⟨_,.str (s1[i]),SqL.of (hp.1 _ _ f5),by rw[Lc,KY hi];rfl⟩) ?_ ?_
    .rintro B9 b_ i v σ H6' H6 hi ⟨s6,⟨v4,rfl⟩,ha⟩ y;refine b_ λ_ _=>?_;obtain⟨rfl,hx⟩:=Itl.get y (SqL.of (s6 _ _ f5));rw[Lc] at hx;obtain⟨nm,l_,rfl⟩:=LB.mp hx;have Sj:=a1.mem_iff.mp (Ln l_);obtain⟨⟨Ws,tt⟩,m_,rfl⟩:=KZ.mp Sj;have Wt:=m5.trans s6;obtain⟨c,ev,sc⟩:=ir (TT.mono Wt.le) ndt m_;have L6:=Wt.seq L4;have F6:Rd H6 qq (.dK kvf):= .inl (Wt _ _ f4);have loud:(decide (tt.2.1∈gs)||decide (tt.2.2∈gs))=true->∀e,H6 e=none->E (.ref (cA K "Loose")) (some e) H6:=λhb e he=>by
      have hl:qp gs W=true:=MU.mpr ⟨_,m_,hb⟩;rw[if_pos hl] at k;exact k H6 e (s4.trans Wt) he
     have hlen1:Ws.length<=100:=Wi _ (Lo.mp m_).1;have hlen2:(" is not taken out, but an end of it is":Str).length<=100:=by decide+kernel
     exists u4 (v:= .ref c) (by have z':=J2 (k:=Sum.inr Ws) F6;rw[ev] at z';exact z') ?_;exists j6 sc ?_;exists eJ L6 ?_;exists J6 (λh1=>?_) (λh1=>?_)
     .exists⟨Ws,rfl,by lia,λz=>?_⟩;symm;walk_at "X";exact⟨d8 (by simp),loud (by rw[LA h1];rfl)⟩
     .exists u4 (v:= .ref c) (by have z':=J2 (k:=Sum.inr Ws) F6;rw[ev] at z';exact z') ?_;exists bY sc ?_;exists eJ L6 ?_;exists J6 (λh2=>?_) (λh2=>?_)
      .exists⟨Ws,rfl,by lia,λz=>?_⟩;symm;walk_at "X";exact⟨d8 (by simp),loud (by rw[LA h2,Bool.or_true])⟩
      .exists⟨s6,⟨_,rfl⟩,λn hn t ht=>?_⟩;rw[LF,l_] at hn;rcases Ld.mp hn with h'|h'
       .exact ha n h' t ht
       .have SU:n=Ws:=by simpa using h'
        subst SU;rw[E3 ndt ht m_,LM h1,LM h2];rfl
    .rintro σ H6 ⟨s6,⟨v4,rfl⟩,ha⟩;refine⟨⟨_,SqL.of (s6 _ _ f5),by rw[KW];exact La _⟩,?_⟩;rw[Ll (La _)] at ha;have hl:¬qp gs W=true:=λz=>by
      obtain⟨x,hx,hb⟩:=MU.mp z;rw[ha x.1 (a1.mem_iff.mpr (KZ.mpr ⟨x,hx,rfl⟩)) x.2 hx] at hb;cases hb
     rw[if_neg hl] at k;have Wt:=m5.trans s6;exists⟨d8 (by simp),λt9 H9 n9 m9 f9=>?_⟩;have YK:=Wt.trans m9;symm;exact⟨t9,pp,qq,kvf,bC gs W,rfl,⟨SqT.of f9,.inl (YK _ _ XG),.inl (YK _ _ f4),TT.mono YK.le⟩,T9 nd1,ndt,LJ (Lm _ _) l1,LJ (Lm _ _) l2,NewP.mono (s4.trans YK) k⟩
def vm (K:Qd):Sp:=λvs H Q _=>∃(a p q d:Addr) (kvs:am) (W:C3) (kvm:am),vs=[.ref a,.ref d]/\WebAt K H a p q kvs W/\(b9 W).length<=60/\Rd H d (.dK kvm)/\(∀n∈b9 W,TxtAt kvm n)/\∀(l:Addr) (H':Hp) (s1 s2:xL),H l=none->Same H H'->H' l=some (.lst (((s1++s2).map (i8 kvm)).map V.str))->Ordr W s1 s2->Q (.ref l) H'
abbrev Ac:=λP w K mg base=>U8 P w K mg base J0 2 "line" ["piece","match"] [] (vm K)
theorem Cn {f fd}(T:Txt K mg)(D5:V9 P w K mg base)(F:Fun K "line" "line" tB f fd):E4 P w K mg base J0 2 f fd ["piece","match"] (vm K):=by
 walk_at "#sc_line"
 .obtain⟨a,p,q,d,kvs,W,kvm,rfl,_⟩:=h;rfl
 .obtain⟨a,p,q,d,kvs,W,kvm,rfl,hW,hl,hD,hT,k⟩:=h;walk_at "@sc_line 7xname;1;p6[40f0mname,match;Gb100";exists⟨a,p,q,kvs,W,rfl,hW,hl,λl1 H1 s1 s2 n1 m1 f1 or=>?_⟩;have hlen:=or.len;refine C6 (SqL.of f1) ?_;refine B6 (n:=(s1++s2).length) (λi out H'=>Same H1 H'/\out=((s1++s2).take i).map λn=>V.str (i8 kvm n)) ⟨Same.refl _,rfl⟩ (λi out H' hi hp=>⟨_,.str ((s1++s2)[i]),SqL.of (hp.1 _ _ f1),by rw[Lc,KY hi];rfl⟩) ?_ ?_
  .rintro B9 b_ N i v out H2 H3 hi ⟨s3,rfl⟩ y;refine b_ λf_=>?_;obtain⟨rfl,hx⟩:=Itl.get y (SqL.of (s3 _ _ f1));rw[Lc,KY hi] at hx;cases hx;exists⟨rfl,?_⟩;exists Aq ((m1.trans s3).rd hD) (hT _ (or.mem.mp (LH hi))) ?_;refine⟨d8 (by rw[KW,Lp];lia),f_ _ _ ⟨s3,?_⟩⟩;exact N5 (λn:Str=>V.str (i8 kvm n)) (KY hi)
  .rintro out H2 ⟨s3,rfl⟩;refine⟨⟨_,SqL.of (s3 _ _ f1),by rw[KW];exact La _⟩,λD hD'=>⟨d8 (by rw[KW,Lp];lia),?_⟩⟩;rw[Ll (La _)];obtain⟨H3,e3,f3,m3,_⟩:=u7 (o:= .lst ((s1++s2).map λn=>V.str (i8 kvm n))) hD';refine k D _ s1 s2 ((m1.trans s3).free hD') ?_ ?_ or
   .show Same _ (u9 _ D _);rw[e3];exact m1.trans (s3.trans m3)
   .show u9 _ D _ D=_;rw[b5,LY];rfl
open Classical in
noncomputable def ux (P W:C3)(kvm:am):Bool:=decide (bK P W kvm)
open Classical in
def lB {P:C3}(h:¬bK P W kvm):ux P W kvm=false:=by unfold ux;exact LM h
open Classical in
def vO {P:C3}(h:bK P W kvm):ux P W kvm=true:=by unfold ux;exact LA h
def JB (K:Qd)(H:Hp)(mv:V)(P W:C3)(b:Bool):Prop:=
 (∃t,TyB K H mv t/\t≠"dict"/\b=false)\/
 (∃d kvm,mv= .ref d/\H d=some (.dK kvm)/\(kvm.map (·.1)).Nodup/\kvm.length<=100/\(∀kv∈kvm,∃t,TyB K H kv.2 t)/\b=ux P W kvm)
def Fm {t:String}(h:t≠"dict"):kJ t "dict"=false:=by
 unfold kJ;rw[show(t=="dict")=false by simpa using h];simp
def AL (kvm:am)(n:Str):Bool:=match A8 kvm (Sum.inr n:j0) with
 |some (.str _)=>true
 |_=>false
def txB_iff:AL kvm n=true↔TxtAt kvm n:=by
 unfold AL TxtAt;constructor
 .intro h;split at h
  .next s e=>exact⟨s,e⟩
  .cases h
 .rintro⟨s,e⟩;rw[e]
def DL {t:String}(h:TyB K H v t):kJ t "str"=(match v with| .str _=>true|_=>false):=by
 cases v with
 |non=>cases h;rfl
 |bl _=>cases h;rfl
 |int _=>cases h;rfl
 |str _=>cases h;rfl
 |ref a=>rcases h with⟨rfl,_⟩|⟨rfl,_⟩|⟨rfl,_⟩<;>rfl
 |_=>exact h.elim
def Dv (h:∀kv∈kvm,∃t,TyB K H kv.2 t)(n:Str):∃t,TyB K H ((A8 kvm (Sum.inr n:j0)).getD .non) t/\kJ t "str"=AL kvm n:=by
 unfold AL;cases e:A8 kvm (Sum.inr n:j0) with
 |none=>exact⟨"NoneType",rfl,rfl⟩
 |some v=>
  obtain⟨t,ht⟩:=h _ (qb e)
  refine⟨t,ht,?_⟩
  rw[DL (v:=v) ht]
  cases v<;>rfl
def jj (K:Qd):Sp:=λvs H Q _=>∃(a p q a' p' q':Addr) (kvs e_:am) (Pc W:C3) (mv:V) (b:Bool),vs=[.ref a,.ref a',mv]/\WebIs 60 K H a p q kvs Pc/\WebIs 60 K H a' p' q' e_ W/\JB K H mv Pc W b/\∀H',Same H H'->Q (.bl b) H'
variable {P:Program}
abbrev kU:=λP w K mg base=>U8 P w K mg base J0 3 "is_match" ["piece","web","match"] [] (jj K)
theorem sx {f fd}(T:Txt K mg)(D5:V9 P w K mg base)(uj:Ac P w K mg base)(J5:Z4 P w K mg base)(F:Fun K "is_match" "is_match" fV f fd):E4 P w K mg base J0 3 f fd ["piece","web","match"] (jj K):=by
 walk_at "#sc_is_match"
 .obtain⟨a,p,q,a',p',q',kvs,e_,Pc,W,mv,b,rfl,_⟩:=h;rfl
 .obtain⟨a,p,q,a',p',q',kvs,e_,Pc,W,mv,b,rfl,hP,hW,hM,k⟩:=h;have hPl:=hP.len;walk_at "@sc_is_match 536[408oyTPs@?>923=~j~1~ijSk42k437O8oPs`_^3xname;2;p03f0mname,match;Gs@?>g~h0100=~s'0T.b_str ~r7O8ojSk3:'2Hs %M'0T.b_set ~w36'0uj l02k437O8oPs`_^3xname,kind;21;,20zc0mname,kind,match,web;c1mname,kind,match,web;AGNu~h23b200017O7s`_^3xname,tie;21;,20zc0mname,tie,match,web;c1mname,tie,match,web;AGNu~h23b2006'0J5 l12"
  exists⟨a,p,q,kvs,Pc,rfl,hP.at_,by lia,λln H1 s1 s2 n1 m1 f1 or=>?_⟩;have hlen:=or.len;symm;rcases hM with⟨t,ty,ht,rfl⟩|⟨d,kvm,rfl,hD0,XH,Yu,Ue,rfl⟩
  .refine dI (dz (ty.mono m1) (by simp) ?_);rw[Fm ht];symm;exact k _ m1
  have hD:Rd H d (.dK kvm):= .inl hD0;have D1:=m1.rd hD;refine dI (dz (t:="dict") (.inr (.inr ⟨rfl,_,D1⟩)) (by simp) ?_);rw[Dq];exists F0 (bG D1 ?_);exists F0 (p0 (SqL.of f1) ?_);rw[KW,hlen];exists O8 (λhz=>?_) (λhz=>?_)
  .symm;rw[←lB (P:=Pc) (W:=W) (kvm:=kvm) (λz=>hz (by rw[z.len]))];exact k _ m1
  have Tn:kvm.length=(b9 Pc).length:=Int.ofNat_inj.mp hz;exists C6 (SqL.of f1) ?_;refine B6 (n:=(s1++s2).length) (λi out H'=>Same H1 H'/\out=((s1++s2).take i).map λn=>V.bl (AL kvm n)) ⟨Same.refl _,rfl⟩ (λi out H' hi hp=>⟨_,.str ((s1++s2)[i]),SqL.of (hp.1 _ _ f1),by rw[Lc,KY hi];rfl⟩) ?_ ?_
  .rintro B9 b_ N i v out H2 H3 hi ⟨s3,rfl⟩ y;refine b_ λf_=>?_;obtain⟨rfl,hx⟩:=Itl.get y (SqL.of (s3 _ _ f1));rw[Lc,KY hi] at hx;cases hx;exists⟨rfl,?_⟩;exists⟨d,rfl,.inl ⟨_,s3.rd D1⟩,?_⟩;exists⟨_,J2 (k:=Sum.inr (s1++s2)[i]) (s3.rd D1),?_⟩;obtain⟨t,ht,e⟩:=Dv (K:=K) Ue (s1++s2)[i];exists dI (dz (ht.mono (m1.trans s3)) (by simp) ?_);rw[e];refine⟨d8 (by rw[KW,Lp];lia),f_ _ _ ⟨s3,?_⟩⟩;exact N5 (λn:Str=>V.bl (AL kvm n)) (KY hi)
  .rintro out H2 ⟨s3,rfl⟩;refine⟨⟨_,SqL.of (s3 _ _ f1),by rw[KW];exact La _⟩,λD hD'=>⟨d8 (by rw[KW,Lp];lia),?_⟩⟩;rw[Ll (La _)];have e9:((s1++s2).map λn=>V.bl (AL kvm n))=((s1++s2).map (AL kvm)).map V.bl:=by rw[LY];rfl
   rw[e9];obtain⟨H3,e3,f3,m3,_⟩:=u7 (o:= .lst (((s1++s2).map (AL kvm)).map V.bl)) hD';have m4:=m1.trans (s3.trans m3);have f4:=m3 _ _ (s3 _ _ f1);symm;change xy K _ (u9 H2 D _) _;rw[e3];refine nz (SqL.of f3) ?_;exists gj (λhb=>?_) (λhb=>?_)
   .symm;rw[←lB (P:=Pc) (W:=W) (kvm:=kvm) (λz=>?_)]
    .exact k _ m4
    .have:((s1++s2).map (AL kvm)).all id=true:=by
      rw[Nk,LU];exact λn hn=>txB_iff.mpr (z.txt n (or.mem.mp hn))
     rw[this] at hb;cases hb
   have hT:∀n∈b9 Pc,TxtAt kvm n:=λn hn=>by
    rw[Nk,LU] at hb;exact txB_iff.mp (hb n (or.mem.mpr hn))
   exists⟨a,p,q,d,kvs,Pc,kvm,rfl,hP.at_.mono m4.le,by lia,m4.rd hD,hT,λl5 H5 r1 r2 n5 m5 f5 or5=>?_⟩;have XI:=or5.len;exists⟨l5,_,rfl,SqL.of f5,by rw[KW];lia,λl6 n6=>?_⟩;obtain⟨H6,e6,f6,m6,_⟩:=u7 (o:= .ext (dU l6 (jb ((r1++r2).map (i8 kvm))).length)) n6;rw[e6];symm;have VD:(jb ((r1++r2).map (i8 kvm))).length<=1000:=by
    have z:=lq ((r1++r2).map (i8 kvm)) [];rw[KW] at z;unfold jb;simp only[Oq] at z;lia
   refine oD f6 VD ?_;exists F0 (p0 (SqL.of (m6 _ _ (m5 _ _ f4))) ?_);rw[KW,hlen];symm;have m7:=m4.trans (m5.trans m6);have XJ:(jb ((r1++r2).map (i8 kvm))).length=(b9 Pc).length↔((b9 Pc).map (i8 kvm)).Nodup:=by
    have z:=qW ((r1++r2).map (i8 kvm));rw[KW,XI] at z;rw[z];exact(or5.perm.map _).nodup_iff
   refine O8 (λYL=>?_) (λYL=>?_)
   .symm;rw[←lB (P:=Pc) (W:=W) (kvm:=kvm) (λz=>YL (by rw[XJ.mpr z.nd]))];exact k _ m7
   have O_:=XJ.mp (Int.ofNat_inj.mp YL);clear YL;have D7:=m7.rd hD;have hp7:=m7 _ _ hP.hp;have P7:=hP.same m7;have W7:=hW.same m7;have hptl:=k9 Pc.pts;have RA:=hP.at_.ts.length;rw[C0] at hPl;exists k8 P7.at_.tup ?_;refine L8 hp7 (λVj o8=>?_);refine B6 (n:=(i6 Pc.pts).length) (λi out H'=>Same (C7 p o8 (i6 Pc.pts) H6) H'/\out=(Pc.pts.take i).map λx=>V.bl (decide ((i8 kvm x.1,x.2)∈W.pts))) ⟨Same.refl _,rfl⟩ (λi out H' hi hp=>⟨hp.1 _ _ b5,hi⟩) ?_ ?_
   .rintro B9 b_ N i v out H8' H8 hi ⟨s8,rfl⟩ ⟨t,kv,h_,nt,rfl,rfl⟩;refine b_ λf_=>?_;obtain⟨x,hx,rfl⟩:=Z3 h_;obtain⟨H9,e9,f9,m9,_⟩:=u7 (o:= .tup _) nt;rw[e9];have Wu:=(N4 (o:=o8) hp7).trans (s8.trans m9).le;have W9:=W7.at_.mono Wu;have D9:=Wu.dic D7;refine K2 (SqT.of f9) rfl ?_;exists⟨rfl,?_⟩;exists k8 W9.tup ?_;refine⟨p',rfl,.inl ⟨_,W9.pts⟩,?_⟩;exists Aq D9 (hT _ (Lb _ (KZ.mpr ⟨x,Ln hx,rfl⟩))) ?_;refine⟨_,J2 (k:=Sum.inr (i8 kvm x.1)) W9.pts,?_⟩;exists GH (F2 W7.nd) ?_;refine⟨d8 (by rw[KW,Lp];lia),f_ _ _ ⟨s8.trans m9,?_⟩⟩;exact N5 (λx:Str×Str=>V.bl (decide ((i8 kvm x.1,x.2)∈W.pts))) hx
   .rintro out H8 ⟨s8,rfl⟩;refine⟨⟨s8 _ _ b5,La _⟩,λD8 hD8=>⟨d8 (by rw[KW,Lp];lia),?_⟩⟩;rw[hptl,Ll (La _)];have Vp:(Pc.pts.map λx=>V.bl (decide ((i8 kvm x.1,x.2)∈W.pts)))=(Pc.pts.map λx=>decide ((i8 kvm x.1,x.2)∈W.pts)).map V.bl:=by rw[LY];rfl
    rw[Vp];have sM:=P8 hp7 s8 hD8 (u:= .lst ((Pc.pts.map λx=>decide ((i8 kvm x.1,x.2)∈W.pts)).map V.bl));have fM:=ae s8 hD8 (u:= .lst ((Pc.pts.map λx=>decide ((i8 kvm x.1,x.2)∈W.pts)).map V.bl));generalize thaw p (u9 H8 D8 (.lst ((Pc.pts.map λx=>decide ((i8 kvm x.1,x.2)∈W.pts)).map V.bl)))=HM at sM fM⊢;exists nz (SqL.of fM) ?_;symm;have mM:=m7.trans sM;refine gj (λQN=>?_) (λQN=>?_)
    .symm;rw[←lB (P:=Pc) (W:=W) (kvm:=kvm) (λz=>?_)]
     .exact k _ mM
     .have:(Pc.pts.map λx=>decide ((i8 kvm x.1,x.2)∈W.pts)).all id=true:=by
       rw[Nk,LU];exact λx hx=>LA (z.pts x hx)
      rw[this] at QN;cases QN
    have hPts:∀x∈Pc.pts,(i8 kvm x.1,x.2)∈W.pts:=λx hx=>by
     rw[Nk,LU] at QN;exact MB (QN x hx)
    have DM:=mM.rd hD;have PM:=hP.same mM;have WM:=hW.same mM;have hqM:=PM.hq;exists j6 PM.at_.tup ?_;refine L8 hqM (λTp o10=>?_);refine B6 (n:=kvs.length) (λi out H'=>Same (C7 q o10 kvs HM) H'/\out=(Pc.ts.take i).map λx=>V.bl (decide ((i8 kvm x.1,(x.2.1,i8 kvm x.2.2.1,i8 kvm x.2.2.2))∈W.ts))) ⟨Same.refl _,rfl⟩ (λi out H' hi hp=>⟨hp.1 _ _ b5,hi⟩) ?_ ?_
    .rintro B9 b_ N i v out H11' RC hi ⟨SQ,rfl⟩ ⟨t,kv,h_,nt,rfl,rfl⟩;refine b_ λf_=>?_;obtain⟨UC,e12,Vz,M',_⟩:=u7 (o:= .tup _) nt;rw[e12];have VE:=(N4 (o:=o10) hqM).trans (SQ.trans M').le;have YM:=WM.at_.mono VE;have D12:=VE.dic DM;obtain⟨x,hx,ex,bb,eb,sb⟩:=(PM.at_.ts.mono VE).get h_;obtain⟨kk,Ss⟩:=kv;have P_:kk=Sum.inr x.1:=ex;have Su:Ss= .ref bb:=eb;subst P_ Su;have u_:=Ln hx;have Uy:=hP.ends x u_;refine K2 (SqT.of Vz) rfl ?_;exists⟨rfl,?_⟩;exists j6 YM.tup ?_;refine⟨q',rfl,.inl ⟨_,YM.ties⟩,?_⟩;exists Aq D12 (hT _ (Lf _ (KZ.mpr ⟨x,u_,rfl⟩))) ?_;refine⟨_,J2 (k:=Sum.inr (i8 kvm x.1)) YM.ties,?_⟩;exists⟨bb,d,x.2,kvm,rfl,sb,D12,hT _ (Lb _ Uy.1),hT _ (Lb _ Uy.2),λl13 H13 n13 Rh f13=>?_⟩;refine Dr (YM.mono Rh.le).ts (O4 hW.nd) (SqT.of f13) ?_;refine⟨d8 (by rw[KW,Lp];lia),f_ _ _ ⟨SQ.trans (M'.trans Rh),?_⟩⟩;exact N5 (λx:Str×N3=>V.bl (decide ((i8 kvm x.1,(x.2.1,i8 kvm x.2.2.1,i8 kvm x.2.2.2))∈W.ts))) hx
    .rintro out RC ⟨SQ,rfl⟩;refine⟨⟨SQ _ _ b5,La _⟩,λD11 hD11=>⟨d8 (by rw[KW,Lp];lia),?_⟩⟩;rw[RA,Ll (La _)];have e13:(Pc.ts.map λx=>V.bl (decide ((i8 kvm x.1,(x.2.1,i8 kvm x.2.2.1,i8 kvm x.2.2.2))∈W.ts)))=(Pc.ts.map λx=>decide ((i8 kvm x.1,(x.2.1,i8 kvm x.2.2.1,i8 kvm x.2.2.2))∈W.ts)).map V.bl:=by rw[LY];rfl
     rw[e13];generalize Se:(Pc.ts.map λx=>decide ((i8 kvm x.1,(x.2.1,i8 kvm x.2.2.1,i8 kvm x.2.2.2))∈W.ts))=bs;have sN:=P8 hqM SQ hD11 (u:= .lst (bs.map V.bl));have fN:=ae SQ hD11 (u:= .lst (bs.map V.bl));generalize thaw q (u9 RC D11 (.lst (bs.map V.bl)))=HN at sN fN⊢;exists nz (SqL.of fN) ?_;have eF:bs.all id=ux Pc W kvm:=by
      rw[←Se];cases hc:(Pc.ts.map λx=>decide ((i8 kvm x.1,(x.2.1,i8 kvm x.2.2.1,i8 kvm x.2.2.2))∈W.ts)).all id with
      |true=>
       rw[Nk,LU] at hc
       exact(vO ⟨Tn,hT,O_,hPts,λx hx=>MB (hc x hx)⟩).symm
      |false=>
       refine(lB λz=>?_).symm
       have:(Pc.ts.map λx=>decide ((i8 kvm x.1,(x.2.1,i8 kvm x.2.2.1,i8 kvm x.2.2.2))∈W.ts)).all id=true:=by
        rw[Nk,LU];exact λx hx=>LA (z.ts x hx)
       rw[this] at hc;cases hc
     rw[eF];exact k _ (mM.trans sN)
def Q2 (f:Str->Str)(W:C3):C3:=⟨W.pts.map λx=>(f x.1,x.2),W.ts.map λx=>(f x.1,(x.2.1,f x.2.2.1,f x.2.2.2))⟩
def lK (K:Qd):Sp:=λvs H Q _=>∃(a d p q:Addr) (kvs nm:am) (W:C3) (f:Str->Str),vs=[.ref a,.ref d]/\WebAt K H a p q kvs W/\H p=some (.dK (i6 W.pts))/\H q=some (.dK kvs)/\Rd H d (.dK nm)/\f=i8 nm/\(∀n∈b9 W,TxtAt nm n)/\((b9 W).map f).Nodup/\(b9 W).length<=60/\
 (∀x∈W.ts,x.2.2.1∈W.pts.map (·.1)/\x.2.2.2∈W.pts.map (·.1))/\NewP K H Q (Q2 f W)
abbrev ni:=λP w K mg base=>U8 P w K mg base J0 3 "renamed" ["web","names"] [] (lK K)
theorem tJ {f fd}(T:Txt K mg)(J5:Z4 P w K mg base)(Q0:dY P w K mg base)(F:Fun K "renamed" "renamed" iZ f fd):E4 P w K mg base J0 3 f fd ["web","names"] (lK K):=by
 walk_at "#sc_renamed"
 .obtain⟨a,d,p,q,kvs,nm,W,f,rfl,_⟩:=h;rfl
 .obtain⟨a,d,p,q,kvs,nm,W,f,rfl,hW,hp,hq,hd,rfl,hT,O_,hl,hE,k⟩:=h;have hf:∀n∈b9 W,A8 nm (Sum.inr n:j0)=some (.str (i8 nm n)):=λn hn=>(hT n hn).at_;have hln:W.pts.length+W.ts.length<=60:=by unfold b9 at hl;rw[Lg,KW,KW] at hl;exact hl
  have hf1:∀x∈W.pts,A8 nm (Sum.inr x.1:j0)=some (.str (i8 nm x.1)):=λx hx=>hf _ (Lb _ (KZ.mpr ⟨x,hx,rfl⟩));have hf2:∀x∈W.ts,A8 nm (Sum.inr x.1:j0)=some (.str (i8 nm x.1)):=λx hx=>hf _ (Lf _ (KZ.mpr ⟨x,hx,rfl⟩));have nd1:((Q2 (i8 nm) W).pts.map (·.1)).Nodup:=by
   unfold b9 at O_;rw[Lh] at O_;have z:=(Ls.mp O_).1;unfold Q2;rw[LY] at z⊢;exact z
  have Ts:((Q2 (i8 nm) W).ts.map (·.1)).Nodup:=by
   unfold b9 at O_;rw[Lh] at O_;have z:=(Ls.mp O_).2.1;unfold Q2;rw[LY] at z⊢;exact z
  have Si:=k9 W.pts;have RA:=hW.ts.length;walk_at "@sc_renamed 52F3xname,kind;1;,20zc0mname,kind,names;c1mname,kind,names;AGnqb2004153F3xname,tie;1;,20zc0mname,tie,names;c1mname,tie,names;AGngb2006'0J5 l1276~f3nl23"
  exists k8 hW.tup ?_;refine L8 hp (λVj o1=>?_);refine B6 (n:=(i6 W.pts).length) (λi out H'=>Same (C7 p o1 (i6 W.pts) H) H'/\Paired (PrV K H') out (i6 ((W.pts.take i).map λx=>(i8 nm x.1,x.2)))) ⟨Same.refl _,.nil⟩ (λi out H' hi hp=>⟨hp.1 _ _ b5,hi⟩) ?_ ?_
  .rintro B9 b_ N i v out H1 H2 hi ⟨s1,pr⟩ ⟨t,kv,h_,nt,rfl,rfl⟩;refine b_ λf_=>?_;obtain⟨x,hx,rfl⟩:=Z3 h_;obtain⟨H3,e3,f3,m3,_⟩:=u7 (o:= .tup _) nt;rw[e3];have d3:=((N4 (o:=o1) hp).trans (s1.trans m3).le).dic hd;have e7:W.pts.take (i+1)=W.pts.take i++[x]:=by rw[LF,hx];rfl
   refine K2 (SqT.of f3) rfl ?_;exists⟨rfl,?_⟩;exists u4 (v:= .str (i8 nm x.1)) (by have z':=J2 (k:=Sum.inr x.1) d3;rw[hf1 x (Ln hx)] at z';exact z') ?_;exists⟨d8 (by simp),λt4 H4 n4 m4 f4=>?_⟩;have J':=LP pr;rw[k9,KW,Lp] at J';refine⟨d8 (by lia),f_ _ _ ⟨s1.trans (m3.trans m4),?_⟩⟩;rw[e7,Lh];unfold i6 at pr⊢;rw[Lh];exact C8 (Paired.imp' (λ_ _ z=>PrV.mono (m3.trans m4).le z) pr) ⟨t4,rfl,SqT.of f4⟩
  .rintro out H1 ⟨s1,pr⟩;have J':=LP pr;rw[k9,KW,Lp] at J';refine⟨⟨s1 _ _ b5,La _⟩,λD hD=>⟨d8 (by lia),?_⟩⟩;have sM:=P8 hp s1 hD (u:= .lst out);have fM:=ae s1 hD (u:= .lst out);have VA:=Paired.imp' (λ_ _ z=>PrV.mono (qg (d:=p) (u:= .lst out) hD) z) pr;generalize thaw p (u9 H1 D (.lst out))=HM at sM fM VA⊢;rw[Ll (by lia)] at VA;exists Y1 (SqL.of fM) VA (d8 (by rw[k9,KW];lia)) (λpp H2 npp m2 f2=>?_);have eP:bE (i6 (W.pts.map λx=>(i8 nm x.1,x.2)))=i6 (Q2 (i8 nm) W).pts:=aB (aq nd1);rw[eP] at f2;replace f2:H2 pp=some (.dK (i6 (Q2 (i8 nm) W).pts)):=f2;have s2:=sM.trans m2;have W2:=hW.mono s2.le;have VB:=s2 _ _ hq;exists j6 W2.tup ?_;refine L8 VB (λTp o2=>?_);refine B6 (n:=kvs.length) (λi out H'=>Same (C7 q o2 kvs H2) H'/\∃ks2,Paired (PrV K H') out ks2/\TiesIs K H' ks2 ((W.ts.take i).map λx=>(i8 nm x.1,(x.2.1,i8 nm x.2.2.1,i8 nm x.2.2.2)))) ⟨Same.refl _,[],.nil,.nil⟩ (λi out H' hi hp=>⟨hp.1 _ _ b5,hi⟩) ?_ ?_
   .rintro B9 b_ N i v out H3 To hi ⟨s3,ks2,pr3,ti3⟩ ⟨t,kv,h_,nt,rfl,rfl⟩;refine b_ λf_=>?_;obtain⟨H4,e4,f4,m4,_⟩:=u7 (o:= .tup _) nt;rw[e4];have Sv:=(N4 (o:=o2) VB).trans (s3.trans m4).le;have d4:=Sv.dic (s2.rd hd);obtain⟨x,hx,ex,b,eb,sb⟩:=(W2.ts.mono Sv).get h_;have u_:x∈W.ts:=Ln hx;have e7:W.ts.take (i+1)=W.ts.take i++[x]:=by rw[LF,hx];rfl
    refine K2 (SqT.of f4) rfl ?_;rw[ex,eb];exists⟨rfl,?_⟩;exists u4 (v:= .str (i8 nm x.1)) (by have z':=J2 (k:=Sum.inr x.1) d4;rw[hf2 x u_] at z';exact z') ?_;exists⟨b,d,x.2,nm,rfl,sb,d4,hT _ (Lb _ (hE x u_).1),hT _ (Lb _ (hE x u_).2),λt5 H5 n5 m5 f5=>?_⟩;exists⟨d8 (by simp),λt6 H6 n6 m6 f6=>?_⟩;have J':=LP pr3;have VF:=ti3.length;rw[KW,Lp] at VF;have mA:=m4.trans (m5.trans m6);refine⟨d8 (by lia),f_ _ _ ⟨s3.trans mA,ks2++[((Sum.inr (i8 nm x.1):j0),V.ref t5)],C8 (Paired.imp' (λ_ _ z=>PrV.mono mA.le z) pr3) (show PrV K H6 (.ref t6) ((Sum.inr (i8 nm x.1):j0),V.ref t5) from⟨t6,rfl,SqT.of f6⟩),?_⟩⟩;rw[e7,Lh];exact C8 (ti3.mono mA.le) ⟨rfl,t5,rfl,SqT.of (m6 _ _ f5)⟩
   .rintro out H3 ⟨s3,ks2,pr3,ti3⟩;have J':=LP pr3;have VF:=ti3.length;rw[KW,Lp] at VF;refine⟨⟨s3 _ _ b5,La _⟩,λD' hD'=>⟨d8 (by lia),?_⟩⟩;have sN:=P8 VB s3 hD' (u:= .lst out);have fN:=ae s3 hD' (u:= .lst out);have leN:=qg (d:=q) (u:= .lst out) hD';have prN:=Paired.imp' (λ_ _ z=>PrV.mono leN z) pr3;have YN:=ti3.mono leN;generalize thaw q (u9 H3 D' (.lst out))=HN at sN fN prN YN⊢;rw[Ll (by lia)] at YN;have YJ:(ks2.map (·.1)).Nodup:=by
     rw[YN.keys,←C9];refine NU _ ?_ Ts;exact λa b h z=>h (MX z)
    exists Y1 (SqL.of fN) prN (d8 (by lia)) (λqq H5 nqq m5 f5=>?_);rw[aB YJ] at f5;replace f5:H5 qq=some (.dK ks2):=f5;exists⟨d8 (by simp),λt9 H9 n9 m9 f9=>?_⟩;symm;have sA:=s2.trans (sN.trans (m5.trans m9));have gp:=m9 _ _ (m5 _ _ (sN _ _ f2));have gq:=m9 _ _ f5;refine⟨t9,pp,qq,ks2,Q2 (i8 nm) W,rfl,⟨SqT.of f9,.inl gp,.inl gq,YN.mono (m5.trans m9).le⟩,nd1,Ts,by unfold Q2;rw[KW];lia,by unfold Q2;rw[KW];lia,λa' p' q' e_ W' H' sH hW' h1 h2 h3 h4 h5 h6 h7=>k a' p' q' e_ W' H' (sA.trans sH) hW' h1 h2 h3 (sA.free h4) (sA.free h5) h6 h7⟩
def HC (W M:C3):C3:=⟨(W.pts.filter λx=>!decide (x.1∈M.pts.map (·.1)))++M.pts,(W.ts.filter λx=>!decide (x.1∈M.ts.map (·.1)))++M.ts⟩
def xC {k:j0}:∀{ka:am},(ka.map (·.1)).Nodup->(F7 ka k v).Perm ((ka.filter λx=>!decide (x.1=k))++[(k,v)]):=by
 have rep:∀{ka:am},(ka.map (·.1)).Nodup->(∃x∈ka,x.1=k)->(ka.map λx=>if x.1=k then(x.1,v) else x).Perm ((ka.filter λx=>!decide (x.1=k))++[(k,v)]):=by
  intro ka;induction ka with
  |nil=>rintro _ ⟨x,h,_⟩;cases h
  |cons p r ih=>
   intro nd hx
   have nd':=Mt.mp (show(p.1::r.map (·.1)).Nodup from nd)
   by_cases e:p.1=k
   .have hr:∀x∈r,¬x.1=k:=λx hx z=>nd'.1 (by rw[e,←z];exact KZ.mpr ⟨x,hx,rfl⟩)
    have e1:(r.map λx=>if x.1=k then(x.1,v) else x)=r:=(MF λx hx=>by rw[if_neg (hr x hx)]).trans (Pg r)
    have e2:(r.filter λx=>!decide (x.1=k))=r:=Of.mpr λx hx=>by rw[LM (hr x hx)];rfl
    rw[Mg,if_pos e,e1,Md (by simp [e]),e2,e]
    exact Qz (l₁:=[(k,v)]) (l₂:=r)
   .rw[Mg,if_neg e,LV (by simp [e]),NG]
    refine List.Perm.cons _ (ih nd'.2 ?_)
    obtain⟨x,hx,ex⟩:=hx
    rcases LZ.mp hx with z|z
    .exact absurd (z▸ex) e
    .exact⟨x,z,ex⟩
 intro ka nd;cases hv:A8 ka k with
 |none=>
  rw[Q7 v hv,Of.mpr λx hx=>?_]
  have:x.1≠k:=λz=>by
   have q:=aQ nd hx;rw[z,hv] at q;cases q
  simp [this]
 |some y=>
  have hx:∃x∈ka,x.1=k:=⟨_,qb hv,rfl⟩
  unfold F7
  rw[if_pos (by rw[U0,hv];rfl)]
  exact rep nd hx
open Classical in
theorem de:∀{kb ka:am},(ka.map (·.1)).Nodup->(kb.map (·.1)).Nodup->(U3 ka kb).Perm ((ka.filter λx=>!decide (x.1∈kb.map (·.1)))++kb)
 |[],ka,_,_=>by
  show ka.Perm _;rw[Mn,Of.mpr λx _=>by simp]
 |p::r,ka,nd,nb=>by
  have nb':=Mt.mp (show(p.1::r.map (·.1)).Nodup from nb);have ih:=de (kb:=r) (ka:=F7 ka p.1 p.2) (FF nd) nb'.2;refine(show(U3 (F7 ka p.1 p.2) r).Perm _ from ih).trans ?_;have h1:=(xC (k:=p.1) (v:=p.2) nd).filter λx=>!decide (x.1∈r.map (·.1));refine(h1.append_right r).trans ?_;rw[LO,NM,LV (by rw[LM nb'.1];rfl),Mu,Mi];have e:(ka.filter λx=>(!decide (x.1∈r.map (·.1))&& !decide (x.1=p.1)))=ka.filter λx=>!decide (x.1∈(p::r).map (·.1)):=NW λx _=>by
   rw[Mh];simp only[LN,Mm,LQ,Mg,LZ,not_or];exact And.comm
  rw[e];exact OH _
def ox {A:xz}{B:xL}:((Sum.inr n:j0)∈B.map (Sum.inr:Str->j0))↔n∈B:=⟨Z0,λh=>KZ.mpr ⟨n,h,rfl⟩⟩
open Classical in
def BO {A B:xz}(na:(A.map (·.1)).Nodup)(nb:(B.map (·.1)).Nodup):∃U,U3 (i6 A) (i6 B)=i6 U/\U.Perm ((A.filter λx=>!decide (x.1∈B.map (·.1)))++B):=by
 have h:=de (aq na) (aq nb);have pr:Paired (fun(kv:j0×V) (x:Str×Str)=>kv=(Sum.inr x.1,.str x.2)) (((i6 A).filter λx=>!decide (x.1∈(i6 B).map (·.1)))++i6 B) ((A.filter λx=>!decide (x.1∈B.map (·.1)))++B):=by
  refine kj (Z1 (λkv x e=>?_) (bZ A)) (bZ B);rw[e,K5,←C9];congr 1;rw[Mh,LK,LK];exact ox (A:=A)
 obtain⟨U,h1,h2⟩:=aU h pr;exact⟨U,gc h1,h2⟩
open Classical in
def ET {ka kb:am}{A B:List (Str×N3)}(wa:TiesIs K H ka A)(wb:TiesIs K H kb B)(na:(A.map (·.1)).Nodup)(nb:(B.map (·.1)).Nodup):∃U,TiesIs K H (U3 ka kb) U/\U.Perm ((A.filter λx=>!decide (x.1∈B.map (·.1)))++B):=by
 have h:=de (uO wa na) (uO wb nb);have pr:Paired (TieAt K H) ((ka.filter λx=>!decide (x.1∈kb.map (·.1)))++kb) ((A.filter λx=>!decide (x.1∈B.map (·.1)))++B):=by
  refine kj (Z1 (λkv x e=>?_) wa) wb;rw[e.1,wb.keys,←C9];congr 1;rw[Mh,LK,LK];exact ox (A:=[])
 exact aU h pr
def vd {A B:List (Str×α)}(na:(A.map (·.1)).Nodup)(nb:(B.map (·.1)).Nodup):(((A.filter λx=>!decide (x.1∈B.map (·.1)))++B).map (·.1)).Nodup:=
 Ec (T9 na) nb λn hn hm=>by
  obtain⟨x,hx,rfl⟩:=KZ.mp hm;have z:=(Lo.mp hx).2;rw[LA hn] at z;cases z
def nJ (K:Qd):Sp:=λvs H Q _=>∃(a p q b p2 q2:Addr) (kvs M_:am) (W M:C3),vs=[.ref a,.ref b]/\WebAt K H a p q kvs W/\WebAt K H b p2 q2 M_ M/\(W.pts.map (·.1)).Nodup/\(W.ts.map (·.1)).Nodup/\(M.pts.map (·.1)).Nodup/\(M.ts.map (·.1)).Nodup/\W.pts.length+M.pts.length<=60/\W.ts.length+M.ts.length<=60/\NewP K H Q (HC W M)
def NewP.permM {W1:C3}(s:Same H H1)(p1:W1.pts.Perm W.pts)(p2:W1.ts.Perm W.ts)(k:NewP K H Q W):NewP K H1 Q W1:=λa p q kvs W' H' s' h1 h2 h3 h4 h5 h6 h7 h8=>k a p q kvs W' H' (s.trans s') h1 h2 h3 h4 (s.free h5) (s.free h6) (h7.trans p1) (h8.trans p2)
abbrev sD:=λP w K mg base=>U8 P w K mg base J0 3 "united" ["web","more"] [] (nJ K)
theorem xK {f fd}(T:Txt K mg)(Q0:dY P w K mg base)(F:Fun K "united" "united" kG f fd):E4 P w K mg base J0 3 f fd ["web","more"] (nJ K):=by
 walk_at "#sc_united"
 .obtain⟨a,p,q,b,p2,q2,kvs,M_,W,M,rfl,_⟩:=h;rfl
 .obtain⟨a,p,q,b,p2,q2,kvs,M_,W,M,rfl,hW,hM,YO,YQ,nm1,nm2,lw1,lw2,k⟩:=h;have RA:=hW.ts.length;have hkl2:=hM.ts.length;walk_at "@sc_united 52F3208IH+~m~l~k0232153F3208IH+~m~l~k0332176~f3nl23"
  exists k8 hW.tup ?_;exists F8 hW.pts (λpp H1 npp m1 f1=>?_);have M1:=hM.mono m1.le;exists⟨.inr (.inr (.inl ⟨rfl,.inl ⟨_,f1⟩⟩)),?_⟩;exists k8 M1.tup ?_;symm;have nep:pp≠p2:=λz=>by
   have z2:=hM.pts;rw[←z] at z2;rcases z2 with z2|⟨_,z2⟩<;>(rw[npp] at z2;cases z2)
  refine⟨pp,p2,i6 W.pts,i6 M.pts,rfl,rfl,f1,M1.pts,nep,by rw[k9,k9];lia,?_⟩;obtain⟨UP,eUP,pUP⟩:=BO YO nm1;rw[eUP];have s2:Same H (u9 H1 pp (.dK (i6 UP))):=E5 m1 npp;have f2:(u9 H1 pp (.dK (i6 UP))) pp=some (.dK (i6 UP)):=b5;generalize u9 H1 pp (.dK (i6 UP))=H2 at s2 f2⊢;have W2:=hW.mono s2.le;exists j6 W2.tup ?_;exists F8 W2.ties (λqq H3 nqq m3 f3=>?_);have s3:=s2.trans m3;have M3:=hM.mono s3.le;have M2:=hM.mono s2.le;exists⟨.inr (.inr (.inl ⟨rfl,.inl ⟨_,f3⟩⟩)),?_⟩;exists j6 M3.tup ?_;symm;have neq:qq≠q2:=λz=>by
   have z2:=M2.ties;rw[←z] at z2;rcases z2 with z2|⟨_,z2⟩<;>(rw[nqq] at z2;cases z2)
  obtain⟨UT,wUT,pUT⟩:=ET (hW.mono s3.le).ts M3.ts YQ nm2;refine⟨qq,q2,kvs,M_,rfl,rfl,f3,M3.ties,neq,by lia,?_⟩;have s4:Same H2 (u9 H3 qq (.dK (U3 kvs M_))):=E5 m3 nqq;have f4:(u9 H3 qq (.dK (U3 kvs M_))) qq=some (.dK (U3 kvs M_)):=b5;have TT4:TiesIs K (u9 H3 qq (.dK (U3 kvs M_))) (U3 kvs M_) UT:=K8 f3 wUT;generalize u9 H3 qq (.dK (U3 kvs M_))=H4 at s4 f4 TT4⊢;exists⟨d8 (by simp),λt9 H9 n9 m9 f9=>?_⟩;symm;have TJ:=Lm (λx:Str×Str=>!decide (x.1∈M.pts.map (·.1))) W.pts;have hfl2:=Lm (λx:Str×N3=>!decide (x.1∈M.ts.map (·.1))) W.ts;refine⟨t9,pp,qq,_,⟨UP,UT⟩,rfl,⟨SqT.of f9,.inl (m9 _ _ (s4 _ _ f2)),.inl (m9 _ _ f4),TT4.mono m9.le⟩,(pUP.map _).nodup_iff.mpr (vd YO nm1),(pUT.map _).nodup_iff.mpr (vd YQ nm2),?_,?_,NewP.permM (s2.trans (s4.trans m9)) pUP pUT k⟩
  .show UP.length<=60;rw[pUP.length_eq,Lg];lia
  .show UT.length<=60;rw[pUT.length_eq,Lg];lia
variable {fr:xz}
def aJ (nd:(fr.map (·.1)).Nodup){s:Str}(h:(n,s)∈fr):TxtAt (i6 fr) n/\i8 (i6 fr) n=s:=⟨⟨s,N0 nd h⟩,gN (N0 nd h)⟩
def kI {f:Str->Str}(nd:ss.Nodup)(h:n∈ss):TxtAt (i6 (ss.map λn=>(n,f n))) n/\i8 (i6 (ss.map λn=>(n,f n))) n=f n:=
 aJ (by rw[LY];exact(Pg ss).symm▸nd) (KZ.mpr ⟨n,h,rfl⟩)
def oy (K:Qd):Sp:=λvs H Q _=>∃(d l:Addr) (kvs:am) (ss:xL),vs=[.ref d,.ref l]/\Rd H d (.dK kvs)/\SqL K H l (ss.map V.str)/\ss.Nodup/\ss.length<=60/\(∀n∈ss,TxtAt kvs n)/\∀(d':Addr) (H':Hp),H d'=none->Same H H'->H' d'=some (.dK (i6 (ss.map λn=>(n,i8 kvs n))))->Q (.ref d') H'
abbrev rh:=λP w K mg base=>U8 P w K mg base J0 1 "picked" ["put","names"] [] (oy K)
theorem wx {f fd}(T:Txt K mg)(F:Fun K "picked" "picked" kn f fd):E4 P w K mg base J0 1 f fd ["put","names"] (oy K):=by
 walk_at "#sc_picked"
 .obtain⟨d,l,kvs,ss,rfl,_⟩:=h;rfl
 .obtain⟨d,l,kvs,ss,rfl,hD,hL,nd,hl,hT,k⟩:=h;walk_at "@sc_picked 7F3xname;0;p01f0mname,put;Gn903b100";exists C6 hL ?_;refine B6 (n:=ss.length) (λi out H'=>Same H H'/\Paired (PrV K H') out (i6 ((ss.take i).map λn=>(n,i8 kvs n)))) ⟨Same.refl _,.nil⟩ (λi out H' hi hp=>⟨_,.str (ss[i]),hp.1.seq hL,by rw[Lc,KY hi];rfl⟩) ?_ ?_
  .rintro B9 b_ N i v out H2' H2 hi ⟨s2,pr⟩ y;refine b_ λf_=>?_;obtain⟨rfl,hx⟩:=Itl.get y (s2.seq hL);rw[Lc,KY hi] at hx;cases hx;have J':=LP pr;rw[k9,KW,Lp] at J';exists⟨rfl,?_⟩;exists Aq (s2.rd hD) (hT _ (LH hi)) ?_;exists⟨d8 (by simp),λt4 H4 n4 m4 f4=>?_⟩;refine⟨d8 (by lia),f_ _ _ ⟨s2.trans m4,?_⟩⟩;rw[LF,KY hi,Lh];unfold i6 at pr⊢;rw[Lh];exact C8 (Paired.imp' (λ_ _ z=>PrV.mono m4.le z) pr) ⟨t4,rfl,SqT.of f4⟩
  .rintro out H2 ⟨s2,pr⟩;have J':=LP pr;rw[k9,KW,Lp] at J';refine⟨⟨_,s2.seq hL,by rw[KW];exact La _⟩,λD hD'=>⟨d8 (by lia),?_⟩⟩;rw[Ll (La _)] at pr;obtain⟨H3,e3,f3,m3,_⟩:=u7 (H:=H2) (o:= .lst out) hD';symm;change qv K _ (u9 H2 D _) _;rw[e3];refine Y1 (SqL.of f3) (Paired.imp' (λ_ _ z=>PrV.mono m3.le z) pr) (d8 (by rw[k9,KW];lia)) (λpp H4 npp m4 f4=>?_);rw[aB (aq (by rw[LY];exact(Pg ss).symm▸nd))] at f4;exact k pp H4 (s2.free (m3.free npp)) (s2.trans (m3.trans m4)) f4
def iq (K:Qd):Sp:=λvs H Q _=>∃(st r m bl:Addr) (x:V) (L R:Sd) (bs:List Sd) (km:am),vs=[.ref st]/\SqT K H st [.ref r,.ref m,x]/\RuleIs K H r bl L R bs/\Rd H m (.dK km)/\(∀n∈b9 L.W,TxtAt km n)/\∀(l:Addr) (H':Hp) (s1 s2:xL),H l=none->Same H H'->Ordr L.W s1 s2->H' l=some (.lst ((((s1++s2).filter λn=>!decide (n∈b9 R.W)).map (i8 km)).map V.str))->Q (.ref l) H'
abbrev jB:=λP w K mg base=>U8 P w K mg base J0 4 "taken_out" ["step"] [] (iq K)
theorem qm {f fd}(T:Txt K mg)(oV:uL P w K mg base)(F:Fun K "taken_out" "taken_out" dD f fd):E4 P w K mg base J0 4 f fd ["step"] (iq K):=by
 walk_at "#sc_taken_out"
 .obtain⟨st,r,m,bl,x,L,R,bs,km,rfl,_⟩:=h;rfl
 .obtain⟨st,r,m,bl,x,L,R,bs,km,rfl,hS,hR,hM,hT,k⟩:=h;have hLl:=hR.l.len;walk_at "@sc_taken_out 7xname;0;p6'0oV 320f0mname,step;Gh2100";exists k8 hS ?_;exists⟨r,bl,L,R,bs,rfl,hR,λl1 H1 s1 s2 n1 m1 or f1=>?_⟩;have hlen:=or.len;have F':=Lm (λn=>!decide (n∈b9 R.W)) (s1++s2);have m_:∀n∈(s1++s2).filter λn=>!decide (n∈b9 R.W),TxtAt km n:=λn hn=>hT n (or.mem.mp (Lo.mp hn).1);have k':=λl H' h1 h2=>k l H' s1 s2 h1 h2 or;clear k;generalize (s1++s2).filter (λn=>!decide (n∈b9 R.W))=ss at f1 F' m_ k';refine C6 (SqL.of f1) ?_;refine B6 (n:=ss.length) (λi out H'=>Same H1 H'/\out=(ss.take i).map λn=>V.str (i8 km n)) ⟨Same.refl _,rfl⟩ (λi out H' hi hp=>⟨_,.str (ss[i]),SqL.of (hp.1 _ _ f1),by rw[Lc,KY hi];rfl⟩) ?_ ?_
  .rintro B9 b_ N i v out H2' H2 hi ⟨s3,rfl⟩ y;refine b_ λf_=>?_;obtain⟨rfl,hx⟩:=Itl.get y (SqL.of (s3 _ _ f1));rw[Lc,KY hi] at hx;cases hx;exists⟨rfl,?_⟩;exists j6 ((m1.trans s3).tup hS) ?_;exists Aq ((m1.trans s3).rd hM) (m_ _ (LH hi)) ?_;refine⟨d8 (by rw[KW,Lp];lia),f_ _ _ ⟨s3,?_⟩⟩;exact N5 (λn:Str=>V.str (i8 km n)) (KY hi)
  .rintro out H2 ⟨s3,rfl⟩;refine⟨⟨_,SqL.of (s3 _ _ f1),by rw[KW];exact La _⟩,λD hD'=>⟨d8 (by rw[KW,Lp];lia),?_⟩⟩;rw[Ll (La _)];obtain⟨H3,e3,f3,m3,_⟩:=u7 (H:=H2) (o:= .lst (ss.map λn=>V.str (i8 km n))) hD';refine k' D _ ((m1.trans s3).free hD') ?_ ?_
   .show Same _ (u9 H2 D _);rw[e3];exact m1.trans (s3.trans m3)
   .show u9 H2 D _ D=_;rw[b5,LY];rfl
def bh (L:C3)(km kf:am)(n:Str):Str:=if n∈b9 L then i8 km n else i8 kf n
structure FrOk (W L R:C3) (fr:xz):Prop where
 ks:(fr.map (·.1)).Perm ((b9 R).filter λn=>!decide (n∈b9 L))
 nm:∀x∈fr,V4 x.2=true
 nd:(fr.map (·.2)).Nodup
 no:∀x∈fr,x.2∉b9 W
 len:fr.length<=8
variable {L R:C3}
def FrOk.nd1 (h:FrOk W L R fr)(ndR:(b9 R).Nodup):(fr.map (·.1)).Nodup:=h.ks.nodup_iff.mpr (ndR.sublist Mp)
def FrOk.mem (h:FrOk W L R fr):n∈fr.map (·.1)↔n∈b9 R/\n∉b9 L:=by
 rw[h.ks.mem_iff,Lo,Mm,LQ]
def FrOk.txt (h:FrOk W L R fr)(ndR:(b9 R).Nodup)(hn:n∈fr.map (·.1)):TxtAt (i6 fr) n/\(n,i8 (i6 fr) n)∈fr:=by
 obtain⟨⟨n',s⟩,hx,e⟩:=KZ.mp hn;have e':n'=n:=e;subst e';have z:=aJ (h.nd1 ndR) hx;exact⟨z.1,by rw[z.2];exact hx⟩
structure StI (K:Qd) (H:Hp) (st r m f bl:Addr) (L R:Sd) (km kf:am) (bs:List Sd):Prop where
 tup:SqT K H st [.ref r,.ref m,.ref f]
 r:RuleIs K H r bl L R bs
 m:H m=some (.dK km)
 f:H f=some (.dK kf)
 b:H bl=some (.lst (bs.map λs=>V.ref s.a))
variable {st:Addr}{km kf:am}
def StI.same {m f:Addr}{L R:Sd}{bs:List Sd}(h:StI K H st r m f bl L R km kf bs)(s:Same H H'):StI K H' st r m f bl L R km kf bs:=⟨s.tup h.tup,h.r.same s,s _ _ h.m,s _ _ h.f,s _ _ h.b⟩
def jR {l:List α}{p:α->Bool}(h:l.Nodup):(l.filter p).Nodup:=h.sublist Mp
def nV {A B:xz}(nd:((A++B).map (·.1)).Nodup)(h:n∈A.map (·.1)):TxtAt (i6 A++i6 B) n/\i8 (i6 A++i6 B) n=i8 (i6 A) n:=by
 obtain⟨⟨n',s⟩,hx,e⟩:=KZ.mp h;have e':n'=n:=e;subst e';have e2:i6 A++i6 B=i6 (A++B):=by unfold i6;rw[Lh]
 have z:=aJ nd (Lb B hx);rw[Lh] at nd;rw[e2,(aJ (Ls.mp nd).1 hx).2];exact z
def nM {A B:xz}(nd:((A++B).map (·.1)).Nodup)(h:n∈B.map (·.1)):TxtAt (i6 A++i6 B) n/\i8 (i6 A++i6 B) n=i8 (i6 B) n:=by
 obtain⟨⟨n',s⟩,hx,e⟩:=KZ.mp h;have e':n'=n:=e;subst e';have e2:i6 A++i6 B=i6 (A++B):=by unfold i6;rw[Lh]
 have z:=aJ nd (Lf A hx);rw[Lh] at nd;rw[e2,(aJ (Ls.mp nd).2.1 hx).2];exact z
def cj (ss:xL)(f:Str->Str):(ss.map λn=>(n,f n)).map (·.1)=ss:=by rw[LY];exact Pg ss
def oF (K:Qd):Sp:=λvs H Q _=>∃(st r m f bl:Addr) (L R:Sd) (km kf:am) (bs:List Sd),vs=[.ref st]/\StI K H st r m f bl L R km kf bs/\(∀n∈b9 L.W,TxtAt km n)/\(∀n∈b9 R.W,n∉b9 L.W->TxtAt kf n)/\∀(d:Addr) (H':Hp) (t1 t2:xL),H d=none->Same H H'->Ordr R.W t1 t2->H' d=some (.dK (i6 ((t1++t2).map λn=>(n,bh L.W km kf n))))->Q (.ref d) H'
abbrev rR:=λP w K mg base=>U8 P w K mg base J0 4 "behind" ["step"] [] (oF K)
theorem wq {f fd}(T:Txt K mg)(dh:rh P w K mg base)(tY:Af P w K mg base)(Y2:fI P w K mg base)(D5:V9 P w K mg base)(F:Fun K "behind" "behind" mf f fd):E4 P w K mg base J0 4 f fd ["step"] (oF K):=by
 walk_at "#sc_behind"
 .obtain⟨st,r,m,f,bl,L,R,km,kf,bs,rfl,_⟩:=h;rfl
 .obtain⟨st,r,m,f,bl,L,R,km,kf,bs,rfl,hS,hM,hF,k⟩:=h;have hLl:=hS.r.l.len;have Wv:=hS.r.r.len;walk_at "@sc_behind 5120526'0dh g206'0tY 418IH+~m~l~k0236'0dh g206'0Y2 4176'0dh 9236[321"
  exists k8 hS.tup ?_;exists j6 hS.tup ?_;exists⟨r,bl,L,R,bs,rfl,hS.r,λl1 H1 s1 s2 n1 m1 o1 f1=>?_⟩;have S1:=hS.same m1;have Tj:=o1.len;have TJ:=Lm (λn=>decide (n∈b9 R.W)) (s1++s2);exists⟨m,l1,km,_,rfl,.inl S1.m,SqL.of f1,jR (o1.perm.nodup_iff.mpr hS.r.l.nd),by lia,λn hn=>hM n (o1.mem.mp (Lo.mp hn).1),λd2 H2 n2 m2 f2=>?_⟩;have S2:=S1.same m2;exists⟨.inr (.inr (.inl ⟨rfl,.inl ⟨_,f2⟩⟩)),?_⟩;exists bY S2.tup ?_;exists⟨r,bl,L,R,bs,rfl,S2.r,λl3 H3 u1 u2 n3 m3 o3 f3=>?_⟩;have S3:=S2.same m3;have hl3:=o3.len;have RP:=Lm (λn=>!decide (n∈b9 L.W)) (u1++u2);exists⟨f,l3,kf,_,rfl,.inl S3.f,SqL.of f3,jR (o3.perm.nodup_iff.mpr hS.r.r.nd),by lia,λn hn=>hF n (o3.mem.mp (Lo.mp hn).1) (by have z:=(Lo.mp hn).2;rw[Mm,LQ] at z;exact z),λd4 H4 n4 m4 f4=>?_⟩;have S4:=S3.same m4;have Yz:=m4 _ _ (m3 _ _ f2);have ne24:d2≠d4:=d6 (m3 _ _ f2) n4;have Vd:∀n∈(s1++s2).filter (λn=>decide (n∈b9 R.W)),n∈b9 L.W:=λn hn=>o1.mem.mp (Lo.mp hn).1;have i_:∀n∈(u1++u2).filter (λn=>!decide (n∈b9 L.W)),n∉b9 L.W:=λn hn=>by have z:=(Lo.mp hn).2;rw[Mm,LQ] at z;exact z
  have XN:(((s1++s2).filter λn=>decide (n∈b9 R.W))++((u1++u2).filter λn=>!decide (n∈b9 L.W))).Nodup:=Ls.mpr ⟨jR (o1.perm.nodup_iff.mpr hS.r.l.nd),jR (o3.perm.nodup_iff.mpr hS.r.r.nd),λa ha b hb e=>i_ b hb (e▸Vd a ha)⟩;have XO:∀n∈b9 R.W,n∈b9 L.W->n∈(s1++s2).filter λn=>decide (n∈b9 R.W):=λn h1 h2=>Lo.mpr ⟨o1.mem.mpr h2,LA h1⟩;have XQ:∀n∈b9 R.W,n∉b9 L.W->n∈(u1++u2).filter λn=>!decide (n∈b9 L.W):=λn h1 h2=>Lo.mpr ⟨o3.mem.mpr h1,by rw[LM h2];rfl⟩;generalize (s1++s2).filter (λn=>decide (n∈b9 R.W))=A at Yz XN XO TJ;generalize (u1++u2).filter (λn=>!decide (n∈b9 L.W))=B at f4 XN XQ RP;have XH:(((A.map λn=>(n,i8 km n))++(B.map λn=>(n,i8 kf n))).map (·.1)).Nodup:=by rw[Lh,cj,cj];exact XN
  exists⟨d2,d4,_,_,rfl,rfl,Yz,.inl f4,ne24,by rw[k9,k9,KW,KW];lia,?_⟩;rw[nH (by have z:=aq XH;unfold i6 at z⊢;rw[Lh] at z;exact z)];have n20:H1 d2=none:=n2;have s5:Same H1 (u9 H4 d2 (.dK (i6 (A.map λn=>(n,i8 km n))++i6 (B.map λn=>(n,i8 kf n))))):=E5 (m2.trans (m3.trans m4)) n20;have f5:u9 H4 d2 (.dK (i6 (A.map λn=>(n,i8 km n))++i6 (B.map λn=>(n,i8 kf n)))) d2=some (.dK (i6 (A.map λn=>(n,i8 km n))++i6 (B.map λn=>(n,i8 kf n)))):=b5;generalize u9 H4 d2 (.dK (i6 (A.map λn=>(n,i8 km n))++i6 (B.map λn=>(n,i8 kf n))))=H5 at s5 f5⊢;have S5:=S1.same s5;exists j6 S5.r.tup ?_;exists⟨R.a,R.p,R.q,R.kvs,R.W,rfl,S5.r.r.at_,by lia,λl6 H6 t1 t2 n6 m6 f6 o6=>?_⟩;have Vm:=o6.len;symm;have gA:∀n∈b9 R.W,TxtAt (i6 (A.map λn=>(n,i8 km n))++i6 (B.map λn=>(n,i8 kf n))) n/\i8 (i6 (A.map λn=>(n,i8 km n))++i6 (B.map λn=>(n,i8 kf n))) n=bh L.W km kf n:=λn hn=>by
   unfold bh;by_cases hL:n∈b9 L.W
   .rw[if_pos hL];have hA:=XO n hn hL;have z:=nV XH (by rw[cj];exact hA);exact⟨z.1,z.2.trans (kI (Ls.mp XN).1 hA).2⟩
   .rw[if_neg hL];have hB:=XQ n hn hL;have z:=nM XH (by rw[cj];exact hB);exact⟨z.1,z.2.trans (kI (Ls.mp XN).2.1 hB).2⟩
  refine⟨d2,l6,_,_,rfl,.inl (m6 _ _ f5),SqL.of f6,o6.perm.nodup_iff.mpr hS.r.r.nd,by lia,λn hn=>(gA n (o6.mem.mp hn)).1,λd7 H7 n7 m7 f7=>?_⟩;refine k d7 H7 t1 t2 (m1.free (s5.free (m6.free n7))) (m1.trans (s5.trans (m6.trans m7))) o6 ?_;rw[f7];congr 3;exact MF λn hn=>by rw[(gA n (o6.mem.mp hn)).2]
def X9 (L R:C3)(km:am):xL:=((b9 L).filter λn=>!decide (n∈b9 R)).map (i8 km)
def M4 (W L R:C3)(km kf:am):C3:=HC (bC (X9 L R km) W) (Q2 (bh L km kf) R)
structure GQ (W L R:C3) (km:am) (fr:xz):Prop where
 fit:bK L W km
 lo:∀x∈W.ts,x.1∉X9 L R km->x.2.2.1∉X9 L R km/\x.2.2.2∉X9 L R km
 fo:FrOk W L R fr
 nd:((b9 R).map (bh L km (i6 fr))).Nodup
def uq {gs gs':xL}(W:C3)(h:∀n,n∈gs↔n∈gs'):bC gs W=bC gs' W:=by
 unfold bC;congr 1
 .exact NW λx _=>by rw[Mh];simp only[Mm,LQ];rw[h]
 .exact NW λx _=>by rw[Mh];simp only[Mm,LQ];rw[h]
variable {f g:Str->Str}
def Eu (h:∀n∈b9 W,f n=g n)(he:∀x∈W.ts,x.2.2.1∈W.pts.map (·.1)/\x.2.2.2∈W.pts.map (·.1)):Q2 f W=Q2 g W:=by
 unfold Q2;congr 1
 .exact MF λx hx=>by rw[h x.1 (Lb _ (KZ.mpr ⟨x,hx,rfl⟩))]
 .exact MF λx hx=>by rw[h x.1 (Lf _ (KZ.mpr ⟨x,hx,rfl⟩)),h _ (Lb _ (he x hx).1),h _ (Lb _ (he x hx).2)]
def eo {A A' B B':List (Str×α)}(pa:A'.Perm A)(pb:B'.Perm B):((A'.filter λx=>!decide (x.1∈B'.map (·.1)))++B').Perm ((A.filter λx=>!decide (x.1∈B.map (·.1)))++B):=by
 refine List.Perm.append ?_ pb;have e:(A'.filter λx=>!decide (x.1∈B'.map (·.1)))=A'.filter λx=>!decide (x.1∈B.map (·.1)):=NW λx _=>by
  rw[Mh];simp only[Mm,LQ];rw[(pb.map _).mem_iff]
 rw[e];exact pa.filter _
variable {L R:C3}
def DB {s1 s2:xL}(o:Ordr L s1 s2)(n:Str):n∈((s1++s2).filter λn=>!decide (n∈b9 R)).map (i8 km)↔n∈X9 L R km:=((o.perm.filter _).map _).mem_iff
def vp (h:((b9 W).map f).Nodup):((Q2 f W).pts.map (·.1)).Nodup/\((Q2 f W).ts.map (·.1)).Nodup:=by
 unfold b9 at h;rw[Lh] at h;have z:=Ls.mp h;unfold Q2;have z1:=z.1;have z2:=z.2.1;rw[LY] at z1 z2;exact⟨by show((W.pts.map λx=>(f x.1,x.2)).map (·.1)).Nodup;rw[LY];exact z1,by show((W.ts.map λx=>(f x.1,(x.2.1,f x.2.2.1,f x.2.2.2))).map (·.1)).Nodup;rw[LY];exact z2⟩
theorem Ar {a:Str}:∀{l:xL},l.Nodup->l.length<=(l.filter λx=>!decide (x=a)).length+1
 |[],_=>My _
 |x::r,nd=>by
  have nd':=Mt.mp nd;by_cases e:x=a
  .have hr:(r.filter λx=>!decide (x=a))=r:=Of.mpr λy hy=>by rw[LM (λz=>nd'.1 (by rw[e,←z];exact hy))];rfl
   rw[Md (by simp [e]),hr];simp
  .rw[LV (by simp [e]),Mj,Mj];have:=Ar (a:=a) nd'.2;lia
theorem fO:∀{m l:xL},l.Nodup->(∀x∈l,x∈m)->l.length<=m.length
 |[],l,_,h=>by
  cases l with
  |nil=>exact La _
  |cons x r=>exact absurd (h x Lx) (by simp)
 |a::m,l,nd,h=>by
  have z:=Ar (a:=a) nd;have z2:=fO (m:=m) (l:=l.filter λx=>!decide (x=a)) (nd.sublist Mp) λx hx=>by
   have q:=Lo.mp hx;rcases LZ.mp (h x q.1) with e|e
   .have q2:=q.2;rw[LA e] at q2;cases q2
   .exact e
  rw[Mj];lia
theorem Eo {l:xL}(hl:ws.length=16)(nd:l.Nodup)(h:∀x∈l,Wd ws 8 12 x):l.length<=4:=by
 have z:=fO (m:=(ws.drop 8).take 4) nd λx hx=>by
  obtain⟨j,j1,j2,hj⟩:=h x hx;refine Ln (i:=j -8) ?_;rw[Oz,if_pos (by lia),Rm,show 8+(j -8)=j by lia];exact hj
 rw[Lp,PN] at z;lia
def gO (K:Qd):Sp:=λvs H Q _=>∃(S:Sd) (lx lw lk ln:Addr) (xs:List Int) (ws ks ns:xL),vs=[.ref S.a,.ref lx,.ref lw,.ref lk,.ref ln]/\SdIs K H S/\gS S.W/\SqL K H lx (xs.map V.int)/\xs.length=16/\(∀x∈xs,0<=x)/\SqL K H lw (ws.map V.str)/\AX ws/\SqL K H lk (ks.map V.str)/\zO ks/\SqL K H ln (ns.map V.str)/\ns.length=4/\ns.Nodup/\(∀n∈ns,V4 n=true/\n∉b9 S.W)/\
 ∀(st r m f bl:Addr) (L R:Sd) (pr fr:xz) (os:xL) (H':Hp),Same H H'->StI K H' st r m f bl L R (i6 (pr.map N8)) (i6 fr) []->iK L.W R.W []->MP S.W os pr L.W.pts L.W.ts (b9 R.W)->(∀n x,(n,x)∈S.W.ts->(x.2.1∈os\/x.2.2∈os)->n∈os)->(∀n∈os,n∈pr.map (·.1))->FrOk S.W L.W R.W fr->(∀n∈b9 L.W,Wd ws 0 8 n)->(∀x∈fr,x.2∈ns)->fr.length<=4->Q (.ref st) H'
abbrev jA:=λP w K mg base=>U8 P w K mg base J0 3 "_law_step" ["_law_web_here","_law_xs","_law_words_here","_law_kinds_here","_law_names"] [] (gO K)
theorem oY {f fd}(T:Txt K mg)(dE:jl P w K mg base)(F:Fun K "_law_step" "_law_step" di f fd):E4 P w K mg base J0 3 f fd ["_law_web_here","_law_xs","_law_words_here","_law_kinds_here","_law_names"] (gO K):=by
 walk_at "#sc__law_step"
 .obtain⟨S,lx,lw,lk,ln,xs,ws,ks,ns,rfl,_⟩:=h;rfl
 .obtain⟨S,lx,lw,lk,ln,xs,ws,ks,ns,rfl,hS,hG,hX,t_,v_,hW,hws,hK,hks,hNs,nl4,Up,XR,k⟩:=h;walk_at "@sc__law_step /6'0dE 9091l23zc5ac6aA57Q8tvpesWVU3h251sWVU3h251f8adoyXrD08h251rD08h251dCb4k4707087n95l67"
  refine R4 ?_;nomatch⟨S,lx,lw,lk,xs,ws,ks,rfl,hS,hG,hX,t_,v_,hW,hws,hK,hks,λt1 r m bl L R pr os H1 m1 f1 g1 gb hR Sg mp lo osub J_ hold=>?_⟩;refine K2 (SqT.of f1) rfl ?_;nomatch R4 ?_;rfl';intro fd H2 nfd m2 f2;have R2:=hR.same m2;have Wv:=hR.r.len;rw[C0] at Wv;nomatch R4 ?_;nomatch j6 R2.tup ?_;nomatch k8 R2.r.at_.tup ?_;nomatch D0 (ss:=R.W.pts.map (·.1)) R2.r.at_.pts (by rw[K5,C9]) (by rw[KW];lia) (λu1 a1 a2 l3 H3 n3 m3 f3=>?_);have R3:=R2.same m3;nomatch j6 R3.tup ?_;nomatch j6 R3.r.at_.tup ?_;nomatch D0 (ss:=R.W.ts.map (·.1)) R3.r.at_.ties (by rw[R3.r.at_.ts.keys,C9]) (by rw[KW];lia) (λu2 b1 b2 l4 H4 n4 m4 f4=>?_);have q1:=a1.length_eq;have q2:=b1.length_eq;rw[KW] at q1 q2;nomatch mZ (m4 _ _ f3) f4 (d8 (by rw[KW,KW];lia)) (λl5 H5 n5 m5 f5=>?_);rw[←Lh] at f5;have ou:Ordr R.W u1 u2:=⟨a1,b1,a2,b2⟩
  have RB:=m3.trans (m4.trans m5);have x_:fd≠l5:=d6 (m4 _ _ (m3 _ _ f2)) n5;have und:(u1++u2).Nodup:=ou.perm.nodup_iff.mpr hR.r.nd;have Uo:((u1++u2).filter λn=>!decide (n∈b9 L.W)).length<=4:=Eo hws.1 (und.sublist Mp) λx hx=>by
   have z:=Lo.mp hx;have z2:=z.2;rw[Mm,LQ] at z2;exact J_ x (ou.mem.mp z.1) z2
  have Wj:(u1++u2).length<=60:=by rw[Lg];lia
  generalize UZ:u1++u2=us at f5 Uo Wj und;refine C6 (SqL.of f5) ?_;refine M9 (n:=us.length) (λi σ H'=>(∃v9,σ=[Re S.a,Re lx,Re lw,Re lk,Re ln,Re r,Re m,Re fd,v9])/\Same H1 H'/\H' l5=some (.lst (us.map V.str))/\∃fr:xz,H' fd=some (.dK (i6 fr))/\fr.map (·.1)=(us.take i).filter (λn=>!decide (n∈b9 L.W))/\fr.map (·.2)=ns.take fr.length)
   ⟨⟨_,rfl⟩,m2.trans RB,f5,[],RB _ _ f2,rfl,rfl⟩ (λi σ H' hi hp=>⟨_,.str (us[i]),SqL.of hp.2.2.1,by rw[Lc,KY hi];rfl⟩) ?_ ?_
  .rintro B9 b_ i v σ H6' H6 hi ⟨⟨v9,rfl⟩,s6,h6,fr,g6,e61,e62⟩ y;refine b_ λ_ _=>?_;obtain⟨rfl,hx⟩:=Itl.get y (SqL.of h6);rw[Lc,KY hi] at hx;cases hx;have e7:us.take (i+1)=us.take i++[us[i]]:=by rw[LF,KY hi];rfl
   have R6:=hR.same s6;have no:us[i]∈b9 L.W->(∃v9',[some (V.ref S.a),some (.ref lx),some (.ref lw),some (.ref lk),some (.ref ln),some (.ref r),some (.ref m),some (.ref fd),some (.str us[i])]=[Re S.a,Re lx,Re lw,Re lk,Re ln,Re r,Re m,Re fd,v9'])/\Same H1 H6/\H6 l5=some (.lst (us.map V.str))/\∃fr:xz,H6 fd=some (.dK (i6 fr))/\fr.map (·.1)=(us.take (i+1)).filter (λn=>!decide (n∈b9 L.W))/\fr.map (·.2)=ns.take fr.length:=λhb=>
    ⟨⟨_,rfl⟩,s6,h6,fr,g6,by rw[e61,e7,LO,Md (by simp [hb]),Mu,Mn],e62⟩
   nomatch k8 R6.tup ?_;nomatch k8 R6.l.at_.tup ?_;refine O7 (J2 (k:=Sum.inr us[i]) R6.l.at_.pts) ?_;rw[N6];nomatch O8 (λc1=>?_) (λc1=>?_)
   .nomatch k8 R6.tup ?_;nomatch j6 R6.l.at_.tup ?_;refine O7 (J2 (k:=Sum.inr us[i]) R6.l.at_.ties) ?_;rw[Y0 R6.l.at_.ts];nomatch O8 (λc2=>?_) (λc2=>?_)
    .have Vg:us[i]∉b9 L.W:=λz=>(Ld.mp z).elim c1 c2;have ef:(us.take (i+1)).filter (λn=>!decide (n∈b9 L.W))=fr.map (·.1)++[us[i]]:=by rw[e61,e7,LO,LV (by simp [Vg]),Mu]
     have p_:fr.length<4:=by
      have z1:((us.take (i+1)).filter λn=>!decide (n∈b9 L.W)).length<=(us.filter λn=>!decide (n∈b9 L.W)).length:=((MA _ _).filter _).length_le;rw[ef,Lg,KW,Lq] at z1;lia
     have Q_:us[i]∉fr.map (·.1):=λz=>by
      rw[e61] at z;have z1:=(Lo.mp z).1;have z2:(us.take (i+1)).Nodup:=und.sublist (MA _ _);rw[e7] at z2;exact(Ls.mp z2).2.2 _ z1 _ (by simp) rfl
     obtain⟨nm,RE⟩:∃nm,ns[fr.length]?=some nm:=⟨ns[fr.length]'(by lia),KY (by lia)⟩
     nomatch F0 (bG (.inl g6) ?_);rw[k9];nomatch i9 (xs:=ns.map V.str) ((m1.trans s6).seq hNs) (j7 (j:=fr.length) (by rw[Lc,RE];rfl)) ?_;nomatch P9 (C5 (k:=Sum.inr us[i]) g6 (d8 (by rw[k9];lia)) ?_);walk_at "X";refine⟨⟨_,rfl⟩,E5 s6 nfd,by rw[b7 x_.symm];exact h6,fr++[(us[i],nm)],?_,?_,?_⟩
     .rw[b5];exact MG (λz=>some (HO.dK z)) (aE Q_)
     .rw[B8,ef]
     .rw[Y6,e62,Lg,Lq,LF,RE];rfl
    .rfl';exact no (Lf _ c2)
   .rfl';exact no (Lb _ c1)
  .rintro σ H6 ⟨⟨v9,rfl⟩,s6,h6,fr,g6,e61,e62⟩;refine⟨⟨_,SqL.of h6,by rw[KW];exact La _⟩,?_⟩;rw[Ll (La _)] at e61;have F':fr.length<=4:=by
    have z:=MG List.length e61;rw[KW] at z;lia
   have m_:∀x∈fr,x.2∈ns:=λx hx=>by
    have z:x.2∈fr.map (·.2):=KZ.mpr ⟨x,hx,rfl⟩;rw[e62] at z;exact QU z
   nomatch⟨d8 (by simp),λst H7 nst m7 f7=>?_⟩;refine k st r m fd bl L R pr fr os H7 (m1.trans (s6.trans m7)) ⟨SqT.of f7,hR.same (s6.trans m7),m7 _ _ (s6 _ _ g1),m7 _ _ g6,m7 _ _ (s6 _ _ gb)⟩ Sg mp lo osub ⟨?_,λx hx=>(XR _ (m_ x hx)).1,?_,λx hx=>(XR _ (m_ x hx)).2,by lia⟩ hold m_ F'
   .have z:fr.map (·.1)=(u1++u2).filter λn=>!decide (n∈b9 L.W):=by rw[UZ];exact e61
    rw[z];exact ou.perm.filter _
   .rw[e62];exact Up.sublist (MA _ _)
def eK (pr:xz):(pr.map N8).map (·.1)=pr.map (·.2):=by rw[LY];rfl
def MP.nds (h:MP W os pr L.pts L.ts (b9 R)):((pr.map N8).map (·.1)).Nodup:=by rw[eK];exact h.n2
def MP.at_ (h:MP W os pr L.pts L.ts (b9 R)){w:Str}(hx:(n,w)∈pr):TxtAt (i6 (pr.map N8)) w/\i8 (i6 (pr.map N8)) w=n:=aJ h.nds (KZ.mpr ⟨(n,w),hx,rfl⟩)
def MP.of_ (h:MP W os pr L.pts L.ts (b9 R)){w:Str}(hw:w∈b9 L):(i8 (i6 (pr.map N8)) w,w)∈pr:=by
 have z:w∈pr.map (·.2):=by rw[h.wd];exact hw
 obtain⟨⟨n,w'⟩,hx,e⟩:=KZ.mp z;have e':w'=w:=e;subst e';rw[(h.at_ hx).2];exact hx
def MP.txt (h:MP W os pr L.pts L.ts (b9 R)):∀w∈b9 L,TxtAt (i6 (pr.map N8)) w:=λw hw=>(h.at_ (h.of_ hw)).1
def MP.inL (h:MP W os pr L.pts L.ts (b9 R)){w:Str}(hx:(n,w)∈pr):w∈b9 L:=by
 have z:w∈pr.map (·.2):=KZ.mpr ⟨(n,w),hx,rfl⟩;rw[h.wd] at z;exact z
variable {w:World}
def MP.gs (h:MP W os pr L.pts L.ts (b9 R))(n:Str):n∈X9 L R (i6 (pr.map N8))↔∃w,(n,w)∈pr/\w∉b9 R:=by
 unfold X9;rw[KZ];constructor
 .rintro⟨w,hw,rfl⟩;have z:=Lo.mp hw;have z2:=z.2;rw[Mm,LQ] at z2;exact⟨w,h.of_ z.1,z2⟩
 .rintro⟨w,hx,hw⟩;exact⟨w,Lo.mpr ⟨h.inL hx,by rw[LM hw];rfl⟩,(h.at_ hx).2⟩
def MP.gsos (h:MP W os pr L.pts L.ts (b9 R))(hs:∀n∈os,n∈pr.map (·.1))(n:Str):n∈X9 L R (i6 (pr.map N8))↔n∈os:=by
 rw[h.gs];constructor
 .rintro⟨w,hx,hw⟩;exact MJ λhn=>hw ((h.ko _ hx).mpr hn)
 .intro hn;obtain⟨⟨n',w⟩,hx,e⟩:=KZ.mp (hs n hn);have e':n'=n:=e;subst e';exact⟨w,hx,λz=>(h.ko _ hx).mp z hn⟩
def kl (h:MP W os pr L.pts L.ts (b9 R))(f:FrOk W L R fr)(ndR:(b9 R).Nodup):(((pr.map N8)++fr).map (·.1)).Nodup:=by
 rw[Lh];refine Ls.mpr ⟨h.nds,f.nd1 ndR,λa ha b hb e=>?_⟩;rw[eK,h.wd] at ha;exact(f.mem.mp hb).2 (e▸ha)
def nY (h:MP W os pr L.pts L.ts (b9 R))(f:FrOk W L R fr)(ndR:(b9 R).Nodup)(hn:n∈b9 R):TxtAt (i6 (pr.map N8)++i6 fr) n/\i8 (i6 (pr.map N8)++i6 fr) n=bh L (i6 (pr.map N8)) (i6 fr) n:=by
 unfold bh;by_cases hL:n∈b9 L
 .rw[if_pos hL];exact nV (kl h f ndR) (by rw[eK,h.wd];exact hL)
 .rw[if_neg hL];exact nM (kl h f ndR) (f.mem.mpr ⟨hn,hL⟩)
def Dj (W L R:C3)(km:am)(fr:xz)(x:Str×Str):Prop:=(x∈W.pts/\x.1∉X9 L R km)\/∃w,(w,x.1)∈fr/\(w,x.2)∈R.pts
def EA (W L R:C3)(km:am)(fr:xz)(x:Str×N3):Prop:=(x∈W.ts/\x.1∉X9 L R km)\/∃w b e,(w,x.1)∈fr/\(w,(x.2.1,b,e))∈R.ts/\x.2.2.1=bh L km (i6 fr) b/\x.2.2.2=bh L km (i6 fr) e
def gK (K:Qd):Sp:=λvs H Q _=>∃(S L R:Sd) (st r m f bl:Addr) (pr fr:xz) (os:xL) (bs:List Sd),vs=[.ref S.a,.ref st]/\SdIs K H S/\StI K H st r m f bl L R (i6 (pr.map N8)) (i6 fr) bs/\MP S.W os pr L.W.pts L.W.ts (b9 R.W)/\FrOk S.W L.W R.W fr/\
 ∀(D:Sd) (H':Hp),Same H H'->WebAt K H' D.a D.p D.q D.kvs D.W->H' D.p=some (.dK (i6 D.W.pts))->H' D.q=some (.dK D.kvs)->D.p≠D.q->H D.p=none->H D.q=none->(D.W.pts.map (·.1)).Nodup->(D.W.ts.map (·.1)).Nodup->(∀x,x∈D.W.pts↔Dj S.W L.W R.W (i6 (pr.map N8)) fr x)->(∀x,x∈D.W.ts↔EA S.W L.W R.W (i6 (pr.map N8)) fr x)->Q (.ref D.a) H'
abbrev je:=λP w K mg base=>U8 P w K mg base J0 1 "_law_done" ["_law_web_here","_law_step_here"] [] (gK K)
theorem oZ {f fd}(T:Txt K mg)(F:Fun K "_law_done" "_law_done" cS f fd):E4 P w K mg base J0 1 f fd ["_law_web_here","_law_step_here"] (gK K):=by
 walk_at "#sc__law_done"
 .obtain⟨S,L,R,st,r,m,f,bl,pr,fr,os,bs,rfl,_⟩:=h;rfl
 .obtain⟨S,L,R,st,r,m,f,bl,pr,fr,os,bs,rfl,hS,hT,mp,fo,k⟩:=h;have Tt:=hS.len;have hLl:=hT.r.l.len;have Wv:=hT.r.r.len;rw[C0] at Tt hLl Wv;have F':=fo.len;have Si:pr.length=L.W.pts.length+L.W.ts.length:=by
   have z:=MG List.length mp.wd;rw[KW,Lg,KW,KW] at z;exact z
  have hskl:=hS.at_.ts.length;have Ru:=hT.r.r.nd;walk_at "@sc__law_done /01zc2ac3ac4aA8;5_law_word;23;p03wf0m_law_word,_law_rule_here,_law_match;wLyXrD00h211rD00h211wb20056Q8tvp20f7adorD0705dCh2007060758Q8tvp20f7adorD0705dCh2007080759F438IH+~m~l~k09448tvp04f:ad'3aT rK0:h221dChh2210:06b40:/hh2210:zc;ac<ac=aAdCn9;gb90<b90=08b40:7nl68"
  refine R4 ?_;nomatch K2 hT.tup rfl ?_;nomatch R4 ?_;nomatch V8 hT.m (λXH o1=>?_);refine B6 (n:=(i6 (pr.map N8)).length) (λi out H'=>Same (C7 m o1 (i6 (pr.map N8)) H) H'/\out=(((pr.take i).filter λx=>!decide (x.2∈b9 R.W)).map (·.1)).map V.str) ⟨Same.refl _,rfl⟩ (λi out H' hi hp=>⟨hp.1 _ _ b5,hi⟩) ?_ ?_
  .rintro B9 b_ N i v out H1' H1 hi ⟨s1,rfl⟩ ⟨rfl,kv,h_,rfl⟩;refine b_ λf_=>?_;obtain⟨x,hx,rfl⟩:=Z3 h_;rw[Lc] at hx;obtain⟨⟨n,w'⟩,YH,rfl⟩:=LB.mp hx;have u_:=Ln YH;rw[k9,KW] at hi;have le1:=(N4 (o:=o1) hT.m).trans s1.le;have R1:=hT.r.r.at_.mono le1;have e7:pr.take (i+1)=pr.take i++[(n,w')]:=by rw[LF,YH];rfl
   have tr:=le1.tup hT.r.tup;have TJ:=Lm (λx:Str×Str=>!decide (x.2∈b9 R.W)) (pr.take i);rw[Lp] at TJ;have no:w'∈b9 R.W->N ((((pr.take i).filter λx=>!decide (x.2∈b9 R.W)).map (·.1)).map V.str) H1:=λhb=>f_ _ _ ⟨s1,by rw[e7,LO,Md (by simp [hb]),Mu,Mn]⟩;nomatch⟨rfl,?_⟩;nomatch j6 tr ?_;nomatch k8 R1.tup ?_;refine O7 (J2 (k:=Sum.inr w') R1.pts) ?_;rw[N6];nomatch O8 (λc1=>?_) (λc1=>?_)
   .nomatch j6 tr ?_;nomatch j6 R1.tup ?_;refine O7 (J2 (k:=Sum.inr w') R1.ties) ?_;rw[Y0 R1.ts];nomatch O8 (λc2=>?_) (λc2=>?_)
    .have i_:w'∉b9 R.W:=λz=>(Ld.mp z).elim c1 c2;nomatch u4 (v:= .str n) (by have z:=J2 (k:=Sum.inr w') (le1.dic (.inl hT.m));rw[N0 mp.nds (show(w',n)∈pr.map N8 from KZ.mpr ⟨_,u_,rfl⟩)] at z;exact z) ?_;refine⟨d8 (by rw[KW,KW];lia),f_ _ _ ⟨s1,?_⟩⟩;rw[e7,LO,LV (by simp [i_]),Mu,Lh,Lh];rfl
    .exact no (Lf _ c2)
   .exact no (Lb _ c1)
  .rintro out H1 ⟨s1,rfl⟩;rw[k9,KW,Ll (La _)];have TJ:=Lm (λx:Str×Str=>!decide (x.2∈b9 R.W)) pr;refine⟨⟨s1 _ _ b5,by rw[k9,KW];exact La _⟩,λlo UA=>⟨d8 (by rw[KW,KW];lia),?_⟩⟩;have hog:∀n,n∈(pr.filter λx=>!decide (x.2∈b9 R.W)).map (·.1)↔n∈X9 L.W R.W (i6 (pr.map N8)):=λn=>by
    rw[mp.gs,KZ];constructor
    .rintro⟨⟨n',w'⟩,hx,rfl⟩;have z:=Lo.mp hx;have z2:=z.2;rw[Mm,LQ] at z2;exact⟨w',z.1,z2⟩
    .rintro⟨w',hx,hw⟩;exact⟨(n,w'),Lo.mpr ⟨hx,by rw[LM hw];rfl⟩,rfl⟩
   generalize (pr.filter λx=>!decide (x.2∈b9 R.W)).map (·.1)=og at hog⊢;have s2:=P8 hT.m s1 UA (u:= .lst (og.map V.str));have f2:=ae s1 UA (u:= .lst (og.map V.str));change ah _ _ _ (thaw m (u9 H1 lo (.lst (og.map V.str)))) _;generalize thaw m (u9 H1 lo (.lst (og.map V.str)))=G at s2 f2⊢;have SG:=hS.same s2;have TG:=hT.same s2;nomatch R4 ?_;rfl';intro pp G1 npp mG1 fG1;nomatch R4 ?_;nomatch k8 (SG.same mG1).at_.tup ?_;refine V8 (SG.same mG1).hp (λVj o2=>?_);have XG:pp≠S.p:=(d6 SG.hp npp).symm;have gP:C7 S.p o2 (i6 S.W.pts) G pp=none:=by unfold C7;rw[b7 XG];exact npp
   have sP:Same (C7 S.p o2 (i6 S.W.pts) G) (C7 S.p o2 (i6 S.W.pts) G1):=λb u e=>by
    unfold C7 at e⊢;by_cases hb:b=S.p
    .subst hb;rw[b5] at e⊢;exact e
    .rw[b7 hb] at e⊢;exact mG1 _ _ e
   refine M9 (n:=(i6 S.W.pts).length) (λi σ H'=>(∃v7,σ=[Re S.a,Re st,Re r,Re m,Re f,Re lo,Re pp,v7,none,none,none,none,none,none])/\Same (C7 S.p o2 (i6 S.W.pts) G) H'/\H' pp=some (.dK (i6 ((S.W.pts.take i).filter λx=>!decide (x.1∈og)))))
    ⟨⟨_,rfl⟩,sP,by unfold C7;rw[b7 XG];exact fG1⟩ (λi σ H' hi hp=>⟨hp.2.1 _ _ b5,hi⟩) ?_ ?_
   .rintro B9 b_ i v σ To H3 hi ⟨⟨v7,rfl⟩,s3,h3⟩ ⟨rfl,kv,h_,rfl⟩;refine b_ λ_ _=>?_;obtain⟨x,hx,rfl⟩:=Z3 h_;have u_:=Ln hx;have SN:=(N4 (o:=o2) SG.hp).trans s3.le;have S3:=SG.at_.mono SN;have e7:S.W.pts.take (i+1)=S.W.pts.take i++[x]:=by rw[LF,hx];rfl
    have Q_:x.1∉((S.W.pts.take i).filter λx=>!decide (x.1∈og)).map (·.1):=λz=>by
     obtain⟨y,hy,ey⟩:=KZ.mp z;have s_:=(Lo.mp hy).1;have z2:((S.W.pts.take (i+1)).map (·.1)).Nodup:=(F2 hS.nd).sublist ((MA _ _).map _);rw[e7,B8] at z2;exact(Ls.mp z2).2.2 _ (KZ.mpr ⟨y,s_,rfl⟩) _ (by simp) ey
    have RP:=Lm (λx:Str×Str=>!decide (x.1∈og)) (S.W.pts.take i);rw[Lp] at RP;nomatch J1 (SN.lst (SqL.of f2)) ?_;nomatch O8 (λc1=>?_) (λc1=>?_)
    .nomatch k8 S3.tup ?_;nomatch u4 (v:= .str x.2) (by have z:=J2 (k:=Sum.inr x.1) S3.pts;rw[N0 (k:=x.2) (F2 hS.nd) u_] at z;exact z) ?_;nomatch P9 (C5 (k:=Sum.inr x.1) h3 (d8 (by rw[k9];lia)) ?_);walk_at "X";refine⟨⟨_,rfl⟩,E5 s3 gP,?_⟩;rw[b5,e7,LO,LV (by simp [c1]),Mu];exact MG (λz=>some (HO.dK z)) (aE (kd:=x.2) Q_)
    .nomatch⟨⟨_,rfl⟩,s3,?_⟩;rw[h3,e7,LO,Md (by simp [c1]),Mu,Mn]
   .rintro σ H3 ⟨⟨v7,rfl⟩,s3,h3⟩;refine⟨⟨s3 _ _ b5,La _⟩,?_⟩;rw[k9,Ll (La _)] at h3;have s4:=s3.thaw SG.hp;have h4:thaw S.p H3 pp=some (.dK (i6 (S.W.pts.filter λx=>!decide (x.1∈og)))):=by rw[S8 XG];exact h3
    change jI _ _ _ _ (thaw S.p H3);generalize thaw S.p H3=G2 at s4 h4⊢;have S4:=SG.same s4;have T4:=TG.same s4;have lo4:=s4 _ _ f2;refine R4 ?_;rfl';intro qq G3 nqq Wq fG3;nomatch R4 ?_;nomatch j6 (S4.same Wq).at_.tup ?_;refine V8 (S4.same Wq).hq (λTp o3=>?_);have hqq:qq≠S.q:=(d6 S4.hq nqq).symm;have gQ:C7 S.q o3 S.kvs G2 qq=none:=by unfold C7;rw[b7 hqq];exact nqq
    have sQ:Same (C7 S.q o3 S.kvs G2) (C7 S.q o3 S.kvs G3):=λb u e=>by
     unfold C7 at e⊢;by_cases hb:b=S.q
     .subst hb;rw[b5] at e⊢;exact e
     .rw[b7 hb] at e⊢;exact Wq _ _ e
    refine M9 (n:=S.kvs.length) (λi σ H'=>(∃v7,σ=[Re S.a,Re st,Re r,Re m,Re f,Re lo,Re pp,v7,Re qq,none,none,none,none,none])/\Same (C7 S.q o3 S.kvs G2) H'/\∃kq,H' qq=some (.dK kq)/\TiesIs K H' kq ((S.W.ts.take i).filter λx=>!decide (x.1∈og)))
     ⟨⟨_,rfl⟩,sQ,[],by unfold C7;rw[b7 hqq];exact fG3,.nil⟩ (λi σ H' hi hp=>⟨hp.2.1 _ _ b5,hi⟩) ?_ ?_
    .rintro B9 b_ i v σ H5' H5 hi ⟨⟨v7,rfl⟩,s5,kq,h5,w5⟩ ⟨rfl,kv,h_,rfl⟩;refine b_ λ_ _=>?_;have TZ:=(N4 (o:=o3) S4.hq).trans s5.le;have S5:=S4.at_.mono TZ;obtain⟨x,hx,ex,bb,eb,sb⟩:=S5.ts.get h_;have Qf:=Ln h_;obtain⟨kk,Ss⟩:=kv;have P_:kk=Sum.inr x.1:=ex;have Su:Ss= .ref bb:=eb;subst P_ Su;have e7:S.W.ts.take (i+1)=S.W.ts.take i++[x]:=by rw[LF,hx];rfl
     have Q_:x.1∉((S.W.ts.take i).filter λx=>!decide (x.1∈og)).map (·.1):=λz=>by
      obtain⟨y,hy,ey⟩:=KZ.mp z;have s_:=(Lo.mp hy).1;have z2:((S.W.ts.take (i+1)).map (·.1)).Nodup:=(O4 hS.nd).sublist ((MA _ _).map _);rw[e7,B8] at z2;exact(Ls.mp z2).2.2 _ (KZ.mpr ⟨y,s_,rfl⟩) _ (by simp) ey
     have Ti:=Lm (λx:Str×N3=>!decide (x.1∈og)) (S.W.ts.take i);have hw5:=w5.length;rw[Lp] at Ti;nomatch J1 (TZ.lst (SqL.of lo4)) ?_;nomatch O8 (λc1=>?_) (λc1=>?_)
     .nomatch j6 S5.tup ?_;nomatch u4 (v:= .ref bb) (by have z:=J2 (k:=Sum.inr x.1) S5.ties;rw[aQ (kv:=(Sum.inr x.1,.ref bb)) Tp Qf] at z;exact z) ?_;nomatch P9 (C5 (k:=Sum.inr x.1) h5 (d8 (by lia)) ?_);walk_at "X";refine⟨⟨_,rfl⟩,E5 s5 gQ,_,b5,?_⟩;rw[e7,LO,LV (by simp [c1]),Mu];obtain⟨x0,x1,x2,x3⟩:=x;exact K8 h5 (kK w5 Q_ sb)
     .nomatch⟨⟨_,rfl⟩,s5,kq,h5,?_⟩;rw[e7,LO,Md (by simp [c1]),Mu,Mn];exact w5
    .rintro σ H5 ⟨⟨v7,rfl⟩,s5,kq,h5,w5⟩;refine⟨⟨s5 _ _ b5,La _⟩,?_⟩;rw[hskl,Ll (La _)] at w5;have s6:=s5.thaw S4.hq;have h6:thaw S.q H5 qq=some (.dK kq):=by rw[S8 hqq];exact h5
     have w6:=w5.mono (oM (d:=S.q));change jI _ _ _ _ (thaw S.q H5);generalize thaw S.q H5=G4 at s6 h6 w6⊢;have S6:=S4.same s6;have T6:=T4.same s6;have p6:=s6 _ _ h4;have hqp:pp≠qq:=d6 h4 nqq;refine R4 ?_;nomatch F8 (.inl T6.m) (λnd G5 Up mG5 fG5=>?_);have T7:=T6.same mG5;have XS:nd≠f:=(d6 T6.f Up).symm;nomatch R4 ?_;nomatch⟨.inr (.inr (.inl ⟨rfl,.inl ⟨_,fG5⟩⟩)),?_⟩;nomatch⟨nd,f,_,_,rfl,rfl,fG5,.inl T7.f,XS,by rw[k9,k9,KW];lia,?_⟩;rw[nH (by have z:=aq (kl mp fo Ru);unfold i6 at z⊢;rw[Lh] at z;exact z)];have s8:Same G4 (u9 G5 nd (.dK (i6 (pr.map N8)++i6 fr))):=E5 mG5 Up;have f8:u9 G5 nd (.dK (i6 (pr.map N8)++i6 fr)) nd=some (.dK (i6 (pr.map N8)++i6 fr)):=b5;generalize u9 G5 nd (.dK (i6 (pr.map N8)++i6 fr))=G6 at s8 f8⊢;have p8:=s8 _ _ p6;have h8:=s8 _ _ h6;have w8:=w6.mono s8.le;have T8:=T6.same s8;have VG:G pp=none:=npp;have VH:G qq=none:=s4.free nqq;have s08:Same G G6:=s4.trans (s6.trans s8);have UG:f≠pp:=d6 TG.f VG;have Wh:f≠qq:=d6 TG.f VH;have Vi:nd≠pp:=(d6 p6 Up).symm;have Vk:nd≠qq:=(d6 h6 Up).symm;nomatch R4 ?_;nomatch V8 T8.f (λndf o4=>?_);have gp:C7 f o4 (i6 fr) G pp=none:=by unfold C7;rw[b7 UG.symm];exact VG
     have gq:C7 f o4 (i6 fr) G qq=none:=by unfold C7;rw[b7 Wh.symm];exact VH
     have sF:Same (C7 f o4 (i6 fr) G) (C7 f o4 (i6 fr) G6):=λb u e=>by
      unfold C7 at e⊢;by_cases hb:b=f
      .subst hb;rw[b5] at e⊢;exact e
      .rw[b7 hb] at e⊢;exact s08 _ _ e
     have fz:∀{b:Addr},b≠f->C7 f o4 (i6 fr) G6 b=G6 b:=λhb=>by unfold C7;rw[b7 hb]
     have P1n:∀x∈(S.W.pts.filter λx=>!decide (x.1∈og)),x.1∈b9 S.W:=λx hx=>Lb _ (KZ.mpr ⟨x,(Lo.mp hx).1,rfl⟩);have T1n:∀x∈(S.W.ts.filter λx=>!decide (x.1∈og)),x.1∈b9 S.W:=λx hx=>Lf _ (KZ.mpr ⟨x,(Lo.mp hx).1,rfl⟩);have P1d:=T9 (p:=λx:Str×Str=>!decide (x.1∈og)) (F2 hS.nd);have T1d:=T9 (p:=λx:Str×N3=>!decide (x.1∈og)) (O4 hS.nd);have lP:=Lm (λx:Str×Str=>!decide (x.1∈og)) S.W.pts;have lT:=Lm (λx:Str×N3=>!decide (x.1∈og)) S.W.ts;have XT:∀x,x∈(S.W.pts.filter λx=>!decide (x.1∈og))↔x∈S.W.pts/\x.1∉X9 L.W R.W (i6 (pr.map N8)):=λx=>by
      rw[Lo,Mm,LQ,hog]
     have XU:∀x,x∈(S.W.ts.filter λx=>!decide (x.1∈og))↔x∈S.W.ts/\x.1∉X9 L.W R.W (i6 (pr.map N8)):=λx=>by
      rw[Lo,Mm,LQ,hog]
     generalize (S.W.pts.filter λx=>!decide (x.1∈og))=P1 at p8 P1n P1d lP XT;generalize (S.W.ts.filter λx=>!decide (x.1∈og))=T1 at w8 T1n T1d lT XU;refine M9 (n:=(i6 fr).length) (λi σ H'=>(∃v7 v10 v11 v12 Ww,σ=[Re S.a,Re st,Re r,Re m,Re f,Re lo,Re pp,v7,Re qq,Re nd,v10,v11,v12,Ww])/\Same (C7 f o4 (i6 fr) G) H'/\H' nd=some (.dK (i6 (pr.map N8)++i6 fr))/\∃(P2:xz) (T2:List (Str×N3)) (kq:am),H' pp=some (.dK (i6 (P1++P2)))/\H' qq=some (.dK kq)/\TiesIs K H' kq (T1++T2)/\((P1++P2).map (·.1)).Nodup/\((T1++T2).map (·.1)).Nodup/\P2.length+T2.length<=i/\(∀x,x∈P2↔∃w,(w,x.1)∈fr.take i/\(w,x.2)∈R.W.pts)/\∀x,x∈T2↔∃w b e,(w,x.1)∈fr.take i/\(w,(x.2.1,b,e))∈R.W.ts/\x.2.2.1=bh L.W (i6 (pr.map N8)) (i6 fr) b/\x.2.2.2=bh L.W (i6 (pr.map N8)) (i6 fr) e)
      ⟨⟨_,_,_,_,_,rfl⟩,sF,by rw[fz XS];exact f8,[],[],_,by rw[fz UG.symm,Mn];exact p8,by rw[fz Wh.symm];exact h8,by rw[Mn];exact w8.mono (N4 (o:=o4) T8.f),by rw[Mn];exact P1d,by rw[Mn];exact T1d,La _,(λx=>by simp),λx=>by simp⟩ (λi σ H' hi hp=>⟨hp.2.1 _ _ b5,hi⟩) ?_ ?_
     .rintro B9 b_ i v σ H9' H9 hi ⟨⟨v7,v10,v11,v12,Ww,rfl⟩,s9,n9,P2,T2,kq9,p9,q9,w9,Ud,ndT,l9,mP,mT⟩ ⟨rfl,kv,h_,rfl⟩;refine b_ λ_ _=>?_;obtain⟨⟨wd,nm⟩,hx,rfl⟩:=Z3 h_;have u_:=Ln hx;have e7:fr.take (i+1)=fr.take i++[(wd,nm)]:=by rw[LF,hx];rfl
      rw[k9] at hi;have Wu:=(N4 (o:=o4) TG.f).trans s9.le;have R9:=TG.r.r.at_.mono Wu;have tr9:=Wu.tup TG.r.tup;have F9:=Wu.dic (.inl TG.f);have XW:=N0 (fo.nd1 Ru) u_;have hnW:=fo.no _ u_;have hold:∀w',(w',nm)∉fr.take i:=λw' z=>by
       have z2:((fr.take (i+1)).map (·.2)).Nodup:=fo.nd.sublist ((MA _ _).map _);rw[e7,Y6] at z2;exact(Ls.mp z2).2.2 nm (KZ.mpr ⟨(w',nm),z,rfl⟩) nm (by simp) rfl
      have B_:∀w',(w',nm)∈fr.take (i+1)↔w'=wd:=λw'=>by
       rw[e7,Ld,Li];walk_at "X";exact⟨λz=>z.elim (λz=>absurd z (hold w')) λz=>(Ni z).1,λz=> .inr (by rw[z])⟩
      have q_:∀w' n',n'≠nm->((w',n')∈fr.take (i+1)↔(w',n')∈fr.take i):=λw' n' x_=>by
       rw[e7,Ld,Li];walk_at "X";exact⟨λz=>z.elim id λz=>absurd (Ni z).2 x_,.inl⟩
      have hwR:wd∈b9 R.W:=(fo.mem.mp (KZ.mpr ⟨_,u_,rfl⟩)).1;have nP:nm∉(P1++P2).map (·.1):=λz=>by
       obtain⟨y,hy,ey⟩:=KZ.mp z;rcases Ld.mp hy with q|q
       .exact hnW (by have:=P1n y q;rw[show y.1=nm from ey] at this;exact this)
       .obtain⟨w',h1,_⟩:=(mP y).mp q;rw[show y.1=nm from ey] at h1;exact hold w' h1
      have nT:nm∉(T1++T2).map (·.1):=λz=>by
       obtain⟨y,hy,ey⟩:=KZ.mp z;rcases Ld.mp hy with q|q
       .exact hnW (by have:=T1n y q;rw[show y.1=nm from ey] at this;exact this)
       .obtain⟨w',_,_,h1,_⟩:=(mT y).mp q;rw[show y.1=nm from ey] at h1;exact hold w' h1
      have nmP2:∀y∈P2,y.1≠nm:=λy hy z=>nP (KZ.mpr ⟨y,Lf _ hy,z⟩);have nmT2:∀y∈T2,y.1≠nm:=λy hy z=>nT (KZ.mpr ⟨y,Lf _ hy,z⟩);have w9l:=w9.length;rw[Lg] at w9l;nomatch j6 tr9 ?_;nomatch k8 R9.tup ?_;refine az (J2 (k:=Sum.inr wd) R9.pts) ?_;rw[N6];nomatch J6 (λc1=>?_) (λc1=>?_)
      .obtain⟨⟨wd',kd⟩,hk,ek⟩:=KZ.mp c1;have Xb:wd'=wd:=ek;subst Xb;have noT:wd'∉R.W.ts.map (·.1):=λz=>(Ls.mp Ru).2.2 wd' c1 wd' z rfl;nomatch j6 tr9 ?_;nomatch k8 R9.tup ?_;nomatch u4 (v:= .str kd) (by have z:=J2 (k:=Sum.inr wd') R9.pts;rw[N0 (F2 Ru) hk] at z;exact z) ?_;nomatch u4 (v:= .str nm) (by have z:=J2 (k:=Sum.inr wd') F9;rw[XW] at z;exact z) ?_;nomatch P9 (C5 (k:=Sum.inr nm) p9 (d8 (by rw[k9,Lg];lia)) ?_);walk_at "X";refine⟨⟨_,_,_,_,_,rfl⟩,E5 s9 gp,by rw[b7 Vi];exact n9,P2++[(nm,kd)],T2,kq9,?_,by rw[b7 hqp.symm];exact q9,K8 p9 w9,?_,ndT,by rw[Lg,Lq];lia,λy=>?_,λy=>?_⟩
       .rw[b5,←Mi];exact MG (λz=>some (HO.dK z)) (aE (kd:=kd) nP)
       .rw[←Mi,B8];exact I0 Ud nP
       .rw[Ld,Li];by_cases hy:y.1=nm
        .constructor
         .rintro(z|z)
          .exact absurd hy (nmP2 y z)
          .rw[z];exact⟨wd',(B_ wd').mpr rfl,hk⟩
         .rintro⟨w',h1,h2⟩;rw[hy] at h1;have:=(B_ w').mp h1;subst this;right;obtain⟨y1,y2⟩:=y;rw[show y1=nm from hy,show y2=kd from E3 (F2 Ru) h2 hk]
        .rw[mP];constructor
         .rintro(⟨w',h1,h2⟩|z)
          .walk_at "X";exact⟨w',(q_ w' _ hy).mpr h1,h2⟩
          .exact absurd (by rw[z]) hy
         .rintro⟨w',h1,h2⟩;exact .inl ⟨w',(q_ w' _ hy).mp h1,h2⟩
       .rw[mT];by_cases hy:y.1=nm
        .constructor
         .rintro⟨w',b,e,h1,h2⟩;rw[hy] at h1;exact absurd h1 (hold w')
         .rintro⟨w',b,e,h1,h2,_⟩;rw[hy] at h1;have:=(B_ w').mp h1;subst this;exact absurd (KZ.mpr ⟨_,h2,rfl⟩) noT
        .constructor
         .rintro⟨w',b,e,h1,h2⟩;walk_at "X";exact⟨w',b,e,(q_ w' _ hy).mpr h1,h2⟩
         .rintro⟨w',b,e,h1,h2⟩;walk_at "X";exact⟨w',b,e,(q_ w' _ hy).mp h1,h2⟩
      .have hwT:wd∈R.W.ts.map (·.1):=(Ld.mp hwR).elim (λz=>absurd z c1) id;obtain⟨aa,⟨y1,y2,y3⟩,v1,v2,v3⟩:=TiesIs.val (ts:=R.W.ts) R9.ts hwT;have Td:=TG.r.r.ends _ v2;obtain⟨g21,g22⟩:=nY mp fo Ru (Lb _ Td.1);obtain⟨g31,g32⟩:=nY mp fo Ru (Lb _ Td.2);nomatch R4 ?_;nomatch j6 tr9 ?_;nomatch j6 R9.tup ?_;nomatch u4 (v:= .ref aa) (by have z:=J2 (k:=Sum.inr wd) R9.ties;rw[v1] at z;exact z) ?_;refine K2 (xs:=[.str y1,.str y2,.str y3]) v3 rfl ?_;nomatch Aq (.inl n9) g21 ?_;rw[g22];nomatch Aq (.inl n9) g31 ?_;rw[g32];nomatch⟨d8 (by simp),λlt HA nlt mA fA=>?_⟩;nomatch u4 (v:= .str nm) (by have z:=J2 (k:=Sum.inr wd) (mA.rd F9);rw[XW] at z;exact z) ?_;nomatch P9 (C5 (k:=Sum.inr nm) (mA _ _ q9) (d8 (by lia)) ?_);walk_at "X";refine⟨⟨_,_,_,_,_,rfl⟩,E5 (s9.trans mA) gq,by rw[b7 Vk];exact mA _ _ n9,P2,T2++[(nm,(y1,bh L.W (i6 (pr.map N8)) (i6 fr) y2,bh L.W (i6 (pr.map N8)) (i6 fr) y3))],_,by rw[b7 hqp];exact mA _ _ p9,b5,?_,Ud,?_,by rw[Lg,Lq];lia,λy=>?_,λy=>?_⟩
       .rw[←Mi];exact K8 (mA _ _ q9) (kK (w9.mono mA.le) nT (SqT.of fA))
       .rw[←Mi,B8];exact I0 ndT nT
       .rw[mP];by_cases hy:y.1=nm
        .constructor
         .rintro⟨w',h1,h2⟩;rw[hy] at h1;exact absurd h1 (hold w')
         .rintro⟨w',h1,h2⟩;rw[hy] at h1;have:=(B_ w').mp h1;subst this;exact absurd (KZ.mpr ⟨_,h2,rfl⟩) c1
        .constructor
         .rintro⟨w',h1,h2⟩;walk_at "X";exact⟨w',(q_ w' _ hy).mpr h1,h2⟩
         .rintro⟨w',h1,h2⟩;walk_at "X";exact⟨w',(q_ w' _ hy).mp h1,h2⟩
       .rw[Ld,Li];by_cases hy:y.1=nm
        .constructor
         .rintro(z|z)
          .exact absurd hy (nmT2 y z)
          .rw[z];exact⟨wd,y2,y3,(B_ wd).mpr rfl,v2,rfl,rfl⟩
         .rintro⟨w',b,e,h1,h2,h3,h4⟩;rw[hy] at h1;have:=(B_ w').mp h1;subst this;right;have z:=E3 (O4 Ru) h2 v2;obtain⟨z1,z2⟩:=Ni z;obtain⟨z3,z4⟩:=Ni z2;obtain⟨q0,q1,q2,q3⟩:=y;have h3':q2=bh L.W (i6 (pr.map N8)) (i6 fr) b:=h3;have h4':q3=bh L.W (i6 (pr.map N8)) (i6 fr) e:=h4;have z1':q1=y1:=z1;rw[show q0=nm from hy,z1',h3',h4',z3,z4]
        .rw[mT];constructor
         .rintro(⟨w',b,e,h1,h2⟩|z)
          .walk_at "X";exact⟨w',b,e,(q_ w' _ hy).mpr h1,h2⟩
          .exact absurd (by rw[z]) hy
         .rintro⟨w',b,e,h1,h2⟩;exact .inl ⟨w',b,e,(q_ w' _ hy).mp h1,h2⟩
     .rintro σ H9 ⟨⟨v7,v10,v11,v12,Ww,rfl⟩,s9,n9,P2,T2,kq9,p9,q9,w9,Ud,ndT,l9,mP,mT⟩;refine⟨⟨s9 _ _ b5,La _⟩,?_⟩;rw[k9,Ll (La _)] at mP mT;have sA:=s9.thaw TG.f;have pA:thaw f H9 pp=some (.dK (i6 (P1++P2))):=by rw[S8 UG.symm];exact p9
      have qA:thaw f H9 qq=some (.dK kq9):=by rw[S8 Wh.symm];exact q9
      have wA:=w9.mono (oM (d:=f));change zg _ _ _ (thaw f H9);generalize thaw f H9=HA at sA pA qA wA⊢;nomatch⟨d8 (by simp),λa' HB na mB fB=>?_⟩;refine k ⟨a',pp,qq,kq9,⟨P1++P2,T1++T2⟩⟩ HB (s2.trans (sA.trans mB)) ⟨SqT.of fB,.inl (mB _ _ pA),.inl (mB _ _ qA),wA.mono mB.le⟩ (mB _ _ pA) (mB _ _ qA) hqp (s2.free VG) (s2.free VH) Ud ndT (λx=>?_) (λx=>?_)
      .show x∈P1++P2↔_;unfold Dj;rw[Ld,XT,mP]
      .show x∈T1++T2↔_;unfold EA;rw[Ld,XU,mT]
theorem iQ {f:Str->Str}:∀{l:xL},l.Nodup->(∀a∈l,∀b∈l,f a=f b->a=b)->(l.map f).Nodup
 |[],_,_=>Mz
 |x::r,nd,h=>by
  have nd':=Mt.mp nd;refine Mt.mpr ⟨λm=>?_,iQ nd'.2 λa ha b hb=>h a (LD _ ha) b (LD _ hb)⟩;obtain⟨y,hy,e⟩:=KZ.mp m;exact nd'.1 ((h y (LD _ hy) x Lx e)▸hy)
def aW {l:xz}{m s:Str}(nd:(l.map (·.2)).Nodup)(h1:(n,s)∈l)(h2:(m,s)∈l):n=m:=
 E3 (l:=l.map N8) (n:=s) (by rw[eK];exact nd) (KZ.mpr ⟨_,h1,rfl⟩) (KZ.mpr ⟨_,h2,rfl⟩)
def MP.inW (h:MP W os pr L.pts L.ts (b9 R)){w:Str}(hx:(n,w)∈pr):n∈b9 W:=by
 have hw:=h.inL hx;rcases Ld.mp hw with z|z
 .obtain⟨⟨w',k⟩,hy,e⟩:=KZ.mp z;have e':w'=w:=e;subst e';obtain⟨n',h1,h2⟩:=h.pt _ hy;rw[aW h.n2 hx h1];exact Lb _ (KZ.mpr ⟨_,h2,rfl⟩)
 .obtain⟨⟨w',k⟩,hy,e⟩:=KZ.mp z;have e':w'=w:=e;subst e';obtain⟨n',b,e2,h1,_,_,h2⟩:=h.ti _ hy;rw[aW h.n2 hx h1];exact Lf _ (KZ.mpr ⟨_,h2,rfl⟩)
variable {w:World}
def MP.fit (h:MP W os pr L.pts L.ts (b9 R)):bK L W (i6 (pr.map N8)):=by
 refine⟨?_,h.txt,?_,λx hx=>?_,λx hx=>?_⟩
 .have z:=MG List.length h.wd;rw[KW] at z;rw[k9,KW,z];rfl
 .have e:(b9 L).map (i8 (i6 (pr.map N8)))=pr.map (·.1):=by
   rw[show b9 L=pr.map (·.2) from h.wd.symm,LY];exact MF λx hx=>(h.at_ (n:=x.1) (w:=x.2) hx).2
  rw[e];exact h.n1
 .obtain⟨n,h1,h2⟩:=h.pt x hx;rw[(h.at_ h1).2];exact h2
 .obtain⟨n,b,e,h1,h2,h3,h4⟩:=h.ti x hx;rw[(h.at_ h1).2,(h.at_ h2).2,(h.at_ h3).2];exact h4
def bX (km kf:am)(h:n∈b9 L):bh L km kf n=i8 km n:=by unfold bh;rw[if_pos h]
def cn (km kf:am)(h:n∉b9 L):bh L km kf n=i8 kf n:=by unfold bh;rw[if_neg h]
def Hf (h:MP W os pr L.pts L.ts (b9 R))(fo:FrOk W L R fr)(ndR:(b9 R).Nodup)(lo:∀n x,(n,x)∈W.ts->(x.2.1∈os\/x.2.2∈os)->n∈os)(hs:∀n∈os,n∈pr.map (·.1)):GQ W L R (i6 (pr.map N8)) fr:=by
 refine⟨h.fit,λx hx hn=>?_,fo,iQ ndR λa ha b hb e=>?_⟩
 .rw[h.gsos hs] at hn⊢;rw[h.gsos hs];exact⟨λz=>hn (lo x.1 x.2 hx (.inl z)),λz=>hn (lo x.1 x.2 hx (.inr z))⟩
 .by_cases hA:a∈b9 L<;>by_cases hB:b∈b9 L
  .rw[bX _ _ hA,bX _ _ hB] at e;have z1:=h.of_ hA;rw[e] at z1;exact E3 h.n1 z1 (h.of_ hB)
  .rw[bX _ _ hA,cn _ _ hB] at e;exact absurd (e▸h.inW (h.of_ hA)) (fo.no _ (fo.txt ndR (fo.mem.mpr ⟨hb,hB⟩)).2)
  .rw[cn _ _ hA,bX _ _ hB] at e;exact absurd (e▸h.inW (h.of_ hB)) (fo.no _ (fo.txt ndR (fo.mem.mpr ⟨ha,hA⟩)).2)
  .rw[cn _ _ hA,cn _ _ hB] at e;have z1:=(fo.txt ndR (fo.mem.mpr ⟨ha,hA⟩)).2;rw[e] at z1;exact aW fo.nd z1 (fo.txt ndR (fo.mem.mpr ⟨hb,hB⟩)).2
def vT (h:MP W os pr L.pts L.ts (b9 R)){w:Str}(hL:w∈b9 L)(hR:w∈b9 R):i8 (i6 (pr.map N8)) w∉X9 L R (i6 (pr.map N8)):=λz=>by
 obtain⟨w',h1,h2⟩:=(h.gs _).mp z;exact h2 (E3 h.n1 h1 (h.of_ hL)▸hR)
def qe {A B:List (Str×α)}{x:Str×α}:x∈(A.filter λx=>!decide (x.1∈B.map (·.1)))++B↔(x∈A/\x.1∉B.map (·.1))\/x∈B:=by
 rw[Ld,Lo,Mm,LQ]
def rg (fo:FrOk W L R fr)(ndR:(b9 R).Nodup){w:Str}(h:(w,n)∈fr)(km:am):bh L km (i6 fr) w=n:=by
 rw[cn _ _ (fo.mem.mp (KZ.mpr ⟨_,h,rfl⟩)).2];exact(aJ (fo.nd1 ndR) h).2
variable {w:World}
def BF {bs:List Sd}(h:MP W os pr L.pts L.ts (b9 R))(ok:iK L R bs)(fo:FrOk W L R fr)(ndR:(b9 R).Nodup)(ndW:(b9 W).Nodup)(x:Str×Str):x∈(M4 W L R (i6 (pr.map N8)) (i6 fr)).pts↔Dj W L R (i6 (pr.map N8)) fr x:=by
 show x∈((bC (X9 L R (i6 (pr.map N8))) W).pts.filter λx=>!decide (x.1∈(Q2 (bh L (i6 (pr.map N8)) (i6 fr)) R).pts.map (·.1)))++(Q2 (bh L (i6 (pr.map N8)) (i6 fr)) R).pts↔_;rw[qe];have Ta:∀y,y∈(bC (X9 L R (i6 (pr.map N8))) W).pts↔y∈W.pts/\y.1∉X9 L R (i6 (pr.map N8)):=λy=>by
  show y∈W.pts.filter _↔_;rw[Lo,Mm,LQ]
 have UH:∀w k,(w,k)∈R.pts->w∈b9 L->(i8 (i6 (pr.map N8)) w,k)∈W.pts/\i8 (i6 (pr.map N8)) w∉X9 L R (i6 (pr.map N8)):=λw k hw hL=>by
  have hR:w∈b9 R:=Lb _ (KZ.mpr ⟨_,hw,rfl⟩);exact⟨h.fit.pts _ (((ok.ag w hL hR).p k).mpr hw),vT h hL hR⟩
 rw[Ta];constructor
 .rintro(⟨⟨h1,h2⟩,_⟩|hx)
  .exact .inl ⟨h1,h2⟩
  .obtain⟨⟨w,k⟩,hw,rfl⟩:=KZ.mp hx;by_cases hL:w∈b9 L
   .left;show(bh L _ _ w,k)∈W.pts/\bh L _ _ w∉_;rw[bX _ _ hL];exact UH w k hw hL
   .right;have hR:w∈b9 R:=Lb _ (KZ.mpr ⟨_,hw,rfl⟩);refine⟨w,?_,hw⟩;show(w,bh L _ _ w)∈fr;rw[cn _ _ hL];exact(fo.txt ndR (fo.mem.mpr ⟨hR,hL⟩)).2
 .rintro(⟨h1,h2⟩|⟨w,h1,h2⟩)
  .by_cases hx:x.1∈(Q2 (bh L (i6 (pr.map N8)) (i6 fr)) R).pts.map (·.1)
   .right;obtain⟨y,hy,ey⟩:=KZ.mp hx;obtain⟨⟨w,k⟩,hw,rfl⟩:=KZ.mp hy;have SH:bh L (i6 (pr.map N8)) (i6 fr) w=x.1:=ey;have hR:w∈b9 R:=Lb _ (KZ.mpr ⟨_,hw,rfl⟩);by_cases hL:w∈b9 L
    .have z:=(UH w k hw hL).1;rw[←bX (i6 (pr.map N8)) (i6 fr) hL,SH] at z;have e2:x.2=k:=E3 (F2 ndW) h1 z;refine KZ.mpr ⟨(w,k),hw,?_⟩;show(bh L _ _ w,k)=x;rw[SH,←e2]
    .rw[cn _ _ hL] at SH;exact absurd (Lb _ (KZ.mpr ⟨x,h1,rfl⟩)) (SH▸fo.no _ (fo.txt ndR (fo.mem.mpr ⟨hR,hL⟩)).2)
   .exact .inl ⟨⟨h1,h2⟩,hx⟩
  .right;refine KZ.mpr ⟨(w,x.2),h2,?_⟩;show(bh L _ _ w,x.2)=x;rw[rg fo ndR h1]
def Ga {bs:List Sd}(h:MP W os pr L.pts L.ts (b9 R))(ok:iK L R bs)(fo:FrOk W L R fr)(ndR:(b9 R).Nodup)(ndW:(b9 W).Nodup)(eL:∀x∈L.ts,x.2.2.1∈L.pts.map (·.1)/\x.2.2.2∈L.pts.map (·.1))(x:Str×N3):x∈(M4 W L R (i6 (pr.map N8)) (i6 fr)).ts↔EA W L R (i6 (pr.map N8)) fr x:=by
 show x∈((bC (X9 L R (i6 (pr.map N8))) W).ts.filter λx=>!decide (x.1∈(Q2 (bh L (i6 (pr.map N8)) (i6 fr)) R).ts.map (·.1)))++(Q2 (bh L (i6 (pr.map N8)) (i6 fr)) R).ts↔_;rw[qe];have Ta:∀y,y∈(bC (X9 L R (i6 (pr.map N8))) W).ts↔y∈W.ts/\y.1∉X9 L R (i6 (pr.map N8)):=λy=>by
  show y∈W.ts.filter _↔_;rw[Lo,Mm,LQ]
 have UI:∀w k b e,(w,(k,b,e))∈R.ts->w∈b9 L->(bh L (i6 (pr.map N8)) (i6 fr) w,(k,bh L (i6 (pr.map N8)) (i6 fr) b,bh L (i6 (pr.map N8)) (i6 fr) e))∈W.ts/\bh L (i6 (pr.map N8)) (i6 fr) w∉X9 L R (i6 (pr.map N8)):=λw k b e hw hL=>by
  have hR:w∈b9 R:=Lf _ (KZ.mpr ⟨_,hw,rfl⟩);have hl:=((ok.ag w hL hR).t (k,b,e)).mpr hw;have Td:=eL _ hl;have z:=h.fit.ts _ hl;rw[bX _ _ hL,bX _ _ (Lb _ Td.1),bX _ _ (Lb _ Td.2)];exact⟨z,vT h hL hR⟩
 rw[Ta];constructor
 .rintro(⟨⟨h1,h2⟩,_⟩|hx)
  .exact .inl ⟨h1,h2⟩
  .obtain⟨⟨w,k,b,e⟩,hw,rfl⟩:=KZ.mp hx;by_cases hL:w∈b9 L
   .exact .inl (UI w k b e hw hL)
   .right;have hR:w∈b9 R:=Lf _ (KZ.mpr ⟨_,hw,rfl⟩);refine⟨w,b,e,?_,hw,rfl,rfl⟩;show(w,bh L _ _ w)∈fr;rw[cn _ _ hL];exact(fo.txt ndR (fo.mem.mpr ⟨hR,hL⟩)).2
 .rintro(⟨h1,h2⟩|⟨w,b,e,h1,h2,h3,h4⟩)
  .by_cases hx:x.1∈(Q2 (bh L (i6 (pr.map N8)) (i6 fr)) R).ts.map (·.1)
   .right;obtain⟨y,hy,ey⟩:=KZ.mp hx;obtain⟨⟨w,k,b,e⟩,hw,rfl⟩:=KZ.mp hy;have SH:bh L (i6 (pr.map N8)) (i6 fr) w=x.1:=ey;have hR:w∈b9 R:=Lf _ (KZ.mpr ⟨_,hw,rfl⟩);by_cases hL:w∈b9 L
    .have z:=(UI w k b e hw hL).1;rw[SH] at z;have e2:x.2=(k,bh L (i6 (pr.map N8)) (i6 fr) b,bh L (i6 (pr.map N8)) (i6 fr) e):=E3 (O4 ndW) h1 z;refine KZ.mpr ⟨(w,(k,b,e)),hw,?_⟩;show(bh L _ _ w,(k,bh L _ _ b,bh L _ _ e))=x;rw[SH,←e2]
    .rw[cn _ _ hL] at SH;exact absurd (Lf _ (KZ.mpr ⟨x,h1,rfl⟩)) (SH▸fo.no _ (fo.txt ndR (fo.mem.mpr ⟨hR,hL⟩)).2)
   .exact .inl ⟨⟨h1,h2⟩,hx⟩
  .right;refine KZ.mpr ⟨(w,(x.2.1,b,e)),h2,?_⟩;show(bh L _ _ w,(x.2.1,bh L _ _ b,bh L _ _ e))=x;rw[rg fo ndR h1,←h3,←h4]
def eh {l:List (Str×α)}(h:(l.map (·.1)).Nodup):l.Nodup:=List.Pairwise.of_map (·.1) (λa b hab e=>hab (by rw[e])) h
variable {a:Addr}
def SdIs.copy {L:Sd}(h:SdIs K H L)(s:Same H H')(t:SqT K H' a [.ref p,.ref q])(hp:H' p=some (.dK (i6 L.W.pts)))(hq:H' q=some (.dK L.kvs))(ne:p≠q):SdIs K H' ⟨a,p,q,L.kvs,L.W⟩:=
 ⟨⟨t,.inl hp,.inl hq,h.at_.ts.mono s.le⟩,hp,hq,ne,h.nd,h.len,h.ends,h.nl⟩
structure Cpy (K:Qd) (H H':Hp) (L C:Sd):Prop where
 i:SdIs K H' C
 k:C.kvs=L.kvs
 w:C.W=L.W
 p:H C.p=none
 q:H C.q=none
def Cpy.same {H2:Hp}{L C:Sd}(h:Cpy K H H1 L C)(s:Same H1 H2):Cpy K H H2 L C:=⟨h.i.same s,h.k,h.w,h.p,h.q⟩
theorem oj {α β:Type}{F:α->β->Prop}:∀{l:List α} {m:List β},l.length=m.length->(∀(j:Nat) (a:α) (b:β),l[j]?=some a->m[j]?=some b->F a b)->Paired F l m
 |[],[],_,_=> .nil
 |a::l,b::m,h,f=> .cons (f 0 a b rfl rfl) (oj (by simpa using h) λj x y hx hy=>f (j+1) x y hx hy)
def Z5 {F : α -> β -> Prop} : ∀ {l : List α} {m : List β} {j : Nat} {b : β}, Paired F l m -> m[j]? = some b -> ∃ a, l[j]? = some a /\ F a b
 := by
  intro l m j b hp h;induction hp generalizing j with
  | nil => cases h
  | cons z t ih => cases j with
    | zero => cases h; exact ⟨_, rfl, z⟩
    | succ j => exact ih h
def IM (a b:V)(l:ap):bj (a::b::l) (some 2) none=l:=by
 unfold bj;have e1:HT.sIx (a::b::l).length 0 (some ((2:Nat):Int))=min 2 (a::b::l).length:=HT.sIx_nat _ _ _;have e2:HT.sIx (a::b::l).length (a::b::l).length none=(a::b::l).length:=rfl;rw[show(some (2:Int))=some ((2:Nat):Int) from rfl,e1,e2];have e3:min 2 (a::b::l).length=2:=by simp
 rw[e3];show l.take _=l;exact Ll (by simp)
def gY (K:Qd):Sp:=λvs H Q _=>∃(st r m f bl:Addr) (L R:Sd) (km kf:am) (bs:List Sd),vs=[.ref st]/\StI K H st r m f bl L R km kf bs/\bs.length<=10/\∀(G' r' m' f' Wx:Addr) (L' R':Sd) (SO:List Sd) (H':Hp),Same H H'->StI K H' G' r' m' f' Wx L' R' km kf SO->Cpy K H H' L L'->Cpy K H H' R R'->Paired (Cpy K H H') bs SO->H m'=none->H f'=none->H Wx=none->(∀c∈SO,m'≠c.p/\m'≠c.q)->Q (.ref G') H'
abbrev ju:=λP w K mg base=>U8 P w K mg base J0 1 "_law_copy" ["_law_step_here"] [] (gY K)
theorem qu {f fd}(T:Txt K mg)(F:Fun K "_law_copy" "_law_copy" cQ f fd):E4 P w K mg base J0 1 f fd ["_law_step_here"] (gY K):=by
 walk_at "#sc__law_copy"
 .obtain⟨st,r,m,f,bl,L,R,km,kf,bs,rfl,_⟩:=h;rfl
 .obtain⟨st,r,m,f,bl,L,R,km,kf,bs,rfl,hT,TY,k⟩:=h;walk_at "@sc__law_copy /00zc1ac2ac3aA8;4_law_web_here;;pe(g212121wf0m_law_web_here;wGwngF320F3207nqnq24g24)04&1-gF42F43"
  refine R4 ?_;nomatch K2 hT.tup rfl ?_;nomatch R4 ?_;nomatch k8 hT.r.tup ?_;nomatch j6 hT.r.tup ?_;nomatch⟨d8 (by simp),λl1 H1 n1 m1 f1=>?_⟩;have T1:=hT.same m1;nomatch bY T1.r.tup ?_;nomatch mZ f1 T1.b (d8 (by simp;lia)) (λl2 H2 n2 m2 f2=>?_);rw[show [V.ref L.a,.ref R.a]++(bs.map λs=>V.ref s.a)=(L::R::bs).map λs=>V.ref s.a from rfl] at f2;have UB:=m1.trans m2;have ZR:(L::R::bs).length<=12:=by simp;lia
  have n_:∀(i:Nat) (v:V),((L::R::bs).map λs=>V.ref s.a)[i]?=some v->∃s:Sd,(L::R::bs)[i]?=some s/\v= .ref s.a/\SdIs K H s:=λi v hv=>by
   rw[Lc] at hv;obtain⟨s,hs,e⟩:=LB.mp hv;refine⟨s,hs,e.symm,?_⟩;rcases LZ.mp (Ln hs) with rfl|z
   .exact hT.r.l
   .rcases LZ.mp z with rfl|z
    .exact hT.r.r
    .exact hT.r.bars s z
  refine C6 (SqL.of f2) ?_;refine B6 (n:=((L::R::bs).map λs=>V.ref s.a).length) (λi out H'=>Same H2 H'/\∃cs:List Sd,out=cs.map (λs=>V.ref s.a)/\cs.length=i/\∀(j:Nat) (c s:Sd),cs[j]?=some c->(L::R::bs)[j]?=some s->Cpy K H H' s c) ⟨Same.refl _,[],rfl,rfl,λj c s h=>by simp at h⟩ (λi out H' hi hp=>⟨_,_,SqL.of (hp.1 _ _ f2),KY hi⟩) ?_ ?_
  .rintro B9 b_ N i v out To H3 hi ⟨s3,cs,rfl,G_,Ut⟩ y;refine b_ λf_=>?_;obtain⟨rfl,hx⟩:=Itl.get y (SqL.of (s3 _ _ f2));obtain⟨S,hS1,rfl,hS⟩:=n_ i v hx;have T':=UB.trans s3;have S3:=hS.same T';rw[KW] at hi;nomatch⟨rfl,?_⟩;nomatch k8 S3.at_.tup ?_;nomatch F8 S3.at_.pts (λp H4 np m4 f4=>?_);have S4:=S3.same m4;nomatch j6 S4.at_.tup ?_;nomatch F8 S4.at_.ties (λq H5 nq m5 f5=>?_);nomatch⟨d8 (by simp),λa H6 na m6 f6=>?_⟩;have SI:=m4.trans (m5.trans m6);refine⟨d8 (by rw[KW];lia),f_ _ _ ⟨s3.trans SI,cs++[⟨a,p,q,S.kvs,S.W⟩],by rw[Lh];rfl,by rw[Lg,G_];rfl,λj c s hj hs=>?_⟩⟩;by_cases hji:j<cs.length
   .rw[LS hji] at hj;exact(Ut j c s hj hs).same SI
   .rw[Ms (by lia)] at hj;have hj0:j=i:=by
     by_cases z:j -cs.length=0
     .lia
     .rw[MD (by simp;lia)] at hj;cases hj
    subst hj0;rw[show j -cs.length=0 by lia] at hj;cases hj;rw[hS1] at hs;cases hs;exact⟨hS.copy (T'.trans SI) (SqT.of f6) (m6 _ _ (m5 _ _ f4)) (m6 _ _ f5) (d6 f4 nq),rfl,rfl,T'.free np,T'.free (m4.free nq)⟩
  .rintro out H3 ⟨s3,cs,rfl,G_,Ut⟩;rw[KW] at G_;refine⟨⟨_,SqL.of (s3 _ _ f2),La _⟩,λlp nlp=>⟨d8 (by rw[KW];lia),?_⟩⟩;obtain⟨C1,C2,cb,rfl⟩:∃C1 C2 cb,cs=C1::C2::cb:=by
    match cs,G_ with
    |C1::C2::cb,_=>exact⟨C1,C2,cb,rfl⟩
   have c1:=Ut 0 C1 L rfl rfl;have c2:=Ut 1 C2 R rfl rfl;have hcb:cb.length=bs.length:=by simpa using G_
   have cbs:Paired (Cpy K H H3) bs cb:=oj hcb.symm λj s c hs hc=>Ut (j+2) c s hc hs;obtain⟨H4,e4,f4,m4,_⟩:=u7 (H:=H3) (o:= .lst ((C1::C2::cb).map λs=>V.ref s.a)) nlp;change ah _ _ _ (u9 H3 lp (.lst ((C1::C2::cb).map λs=>V.ref s.a))) _;rw[e4];have XX:=UB.trans (s3.trans m4);have T4:=hT.same XX;nomatch i9 (SqL.of f4) (j7 (j:=0) rfl) ?_;nomatch i9 (SqL.of f4) (j7 (j:=1) rfl) ?_;nomatch lV (SqL.of f4) (λWx H5 Wr m5 f5=>?_);rw[show bj ((C1::C2::cb).map λs=>V.ref s.a) (some 2) none=cb.map λs=>V.ref s.a from IM _ _ _] at f5;nomatch⟨d8 (by simp),λr' H6 nr m6 f6=>?_⟩;have Wy:=m5.trans m6;nomatch F8 (.inl (Wy _ _ T4.m)) (λm' H7 nm m7 f7=>?_);nomatch F8 (.inl (m7 _ _ (Wy _ _ T4.f))) (λf' H8 nf m8 f8=>?_);nomatch⟨d8 (by simp),λG' H9 nst m9 f9=>?_⟩;have YR:=m7.trans (m8.trans m9);have YS:=Wy.trans YR;have d1:=c1.same (m4.trans YS);have d2:=c2.same (m4.trans YS);have d3:Paired (Cpy K H H9) bs cb:=Paired.imp' (λ_ _ z=>z.same (m4.trans YS)) cbs;have d4:∀c∈cb,m'≠c.p/\m'≠c.q:=λc hc=>by
    obtain⟨j,hj⟩:=MT hc;obtain⟨s,_,z⟩:=Z5 cbs hj;have z':=z.i.same (m4.trans Wy);exact⟨(d6 z'.hp nm).symm,(d6 z'.hq nm).symm⟩
   exact k G' r' m' f' Wx C1 C2 cb H9 (XX.trans YS) ⟨SqT.of f9,⟨SqT.of (YR _ _ f6),d1.i,d2.i,SqL.of (YR _ _ (m6 _ _ f5)),λc hc=>by
    obtain⟨j,hj⟩:=MT hc;obtain⟨s,_,z⟩:=Z5 d3 hj;exact z.i⟩,m9 _ _ (m8 _ _ f7),m9 _ _ f8,YR _ _ (m6 _ _ f5)⟩ d1 d2 d3 (XX.free (Wy.free nm)) (XX.free (Wy.free (m7.free nf))) (XX.free Wr) d4
def gk (K:Qd):Sp:=λvs H Q _=>∃(A B:Sd),vs=[.ref A.a,.ref B.a]/\WebAt K H A.a A.p A.q A.kvs A.W/\WebAt K H B.a B.p B.q B.kvs B.W/\A.W.pts.Perm B.W.pts/\A.W.ts.Perm B.W.ts/\(B.W.pts.map (·.1)).Nodup/\(B.W.ts.map (·.1)).Nodup/\A.p≠B.p/\A.q≠B.q/\Q (.bl true) H
abbrev jt:=λP w K mg base=>U8 P w K mg base J0 1 "_law_same" ["_law_found","_law_web_here"] [] (gk K)
def pH {f fd}(T:Txt K mg)(F:Fun K "_law_same" "_law_same" dH f fd):E4 P w K mg base J0 1 f fd ["_law_found","_law_web_here"] (gk K):=by
 walk_at "#sc__law_same"
 .obtain⟨A,B,rfl,_⟩:=h;rfl
 .obtain⟨A,B,rfl,hA,hB,p1,p2,nd1,Ts,n1,n2,k⟩:=h;walk_at "@sc__law_same 8oyTPs@?>903=~z'0T.b_tuple '0Boot.«tuple» jSk4017O7'2DJ s@?>g20=~j~1~i'2DJ s@?>g20=~j~1~i'1EN Nu0001"
  exists dI (dz (t:="tuple") (.inr (.inl ⟨rfl,_,hA.tup⟩)) (by simp) ?_);symm;rw[if_neg (by decide)];exists F0 (wH hA.tup ?_);symm;rw[if_neg (by simp)];exists k8 hA.tup ?_;exists dI (dz (t:="dict") (.inr (.inr ⟨rfl,_,hA.pts⟩)) (by simp) ?_);symm;rw[if_pos (by decide)];exists j6 hA.tup ?_;exists dI (dz (t:="dict") (.inr (.inr ⟨rfl,_,hA.ties⟩)) (by simp) ?_);symm;rw[if_pos (by decide)];symm;exact mO (AI hA.tup hB.tup (uQ n1 hA.pts hB.pts p1 nd1) (lY n2 hA.ties hB.ties hA.ts hB.ts p2 Ts) k)
variable {d:Addr}{xs ys:ap}{u:HO}
def V2 (h:H d=some (.lst ys))(s:SqT K H a xs):SqT K (u9 H d u) a xs:=by
 rcases s with s|s
 .refine .inl ?_;by_cases z:a=d
  .subst z;rcases s with s|⟨_,s⟩<;>(rw[h] at s;cases s)
  .unfold Rd;rw[b7 z];exact s
 .exact .inr s
def oh (h:H d=some (.lst ys))(t:TiesIs K H kvs ts):TiesIs K (u9 H d u) kvs ts:=Paired.imp' (λ_ _ ⟨e,a,e2,z⟩=>⟨e,a,e2,V2 h z⟩) t
def pK (L B:C3):Prop:=B=L\/(∃w kd:Str,w∉b9 L/\B=⟨L.pts++[(w,kd)],L.ts⟩)\/∃(w kd o1 o2:Str),w∉b9 L/\o1∈L.pts.map (·.1)/\o2∈L.pts.map (·.1)/\B=⟨L.pts,L.ts++[(w,(kd,o1,o2))]⟩
def il (K:Qd):Sp:=λvs H Q _=>∃(L:Sd) (lx lw lk:Addr) (xs:List Int) (ws ks:xL),vs=[.ref L.a,.ref lx,.ref lw,.ref lk]/\SdIs K H L/\(b9 L.W).length<=8/\(∀n∈b9 L.W,Wd ws 0 8 n)/\SqL K H lx (xs.map V.int)/\xs.length=16/\(∀x∈xs,0<=x)/\SqL K H lw (ws.map V.str)/\AX ws/\H lk=some (.lst (ks.map V.str))/\zO ks/\
 ∀(l:Addr) (bs:List Sd) (H':Hp),H l=none->Same H H'->H' l=some (.lst (bs.map λs=>V.ref s.a))->bs.length<=3->(∀s∈bs,SdIs K H' s/\pK L.W s.W/\H s.p=none/\H s.q=none)->Q (.ref l) H'
theorem Ci {x:Int}(h:0<=x):∃c:Int,kC [V.int 0,.int 1,.int 1,.int 2,.int 3] (x % 5)=some (.int c)/\0<=c/\c<=3:=by
 have h0:0<=x % 5:=Mo _ (by decide);have h1:x % 5<5:=Mc _ (by decide);obtain⟨n,hn⟩:∃n:Nat,x % 5=n:=⟨(x % 5).toNat,by lia⟩
 rw[hn];have hn5:n<5:=by lia
 match n,hn5 with
 |0,_=>exact⟨0,j7 rfl,by decide,by decide⟩
 |1,_=>exact⟨1,j7 rfl,by decide,by decide⟩
 |2,_=>exact⟨1,j7 rfl,by decide,by decide⟩
 |3,_=>exact⟨2,j7 rfl,by decide,by decide⟩
 |4,_=>exact⟨3,j7 rfl,by decide,by decide⟩
variable {L:C3}
def vP {w:Str}(nd:(b9 L).Nodup)(h:w∉b9 L):(∀kd:Str,(b9 ⟨L.pts++[(w,kd)],L.ts⟩).Nodup)/\∀t:N3,(b9 ⟨L.pts,L.ts++[(w,t)]⟩).Nodup:=by
 obtain⟨n1,n2,n3⟩:=Ls.mp nd;have h1:w∉L.pts.map (·.1):=λz=>h (Lb _ z);have h2:w∉L.ts.map (·.1):=λz=>h (Lf _ z);constructor
 .intro kd;show((L.pts++[(w,kd)]).map (·.1)++L.ts.map (·.1)).Nodup;rw[Lh];refine Ls.mpr ⟨I0 n1 h1,n2,λa ha b hb e=>?_⟩;subst e;rcases Ld.mp ha with z|z
  .exact n3 a z a hb rfl
  .rw[show a=w by simpa using z] at hb;exact h2 hb
 .intro t;show(L.pts.map (·.1)++(L.ts++[(w,t)]).map (·.1)).Nodup;rw[Lh];refine Ls.mpr ⟨n1,I0 n2 h2,λa ha b hb e=>?_⟩;subst e;rcases Ld.mp hb with z|z
  .exact n3 a ha a z rfl
  .rw[show a=w by simpa using z] at ha;exact h1 ha
variable {w:World}
abbrev jD:=λP w K mg base=>U8 P w K mg base J0 1 "_law_bars" ["_law_left","_law_xs","_law_words_here","_law_kinds_here"] [] (il K)
theorem pF {f fd}(T:Txt K mg)(F:Fun K "_law_bars" "_law_bars" dj f fd):E4 P w K mg base J0 1 f fd ["_law_left","_law_xs","_law_words_here","_law_kinds_here"] (il K):=by
 walk_at "#sc__law_bars"
 .obtain⟨L,lx,lw,lk,xs,ws,ks,rfl,_⟩:=h;rfl
 .obtain⟨L,lx,lw,lk,xs,ws,ks,rfl,hL,hL8,hLw,hX,t_,v_,hWs,⟨wl,wnd,wk⟩,hKs,⟨k0,k3,kkd⟩,k⟩:=h;have hLn:=hL8;rw[C0] at hLn;have RA:=hL.at_.ts.length;obtain⟨x14,hx14,XY⟩:=aK t_ v_ 14 (by lia);obtain⟨x15,hx15,XZ⟩:=aK t_ v_ 15 (by lia);obtain⟨w12,hw12,X'⟩:=rE wl 12 (by lia);obtain⟨Wz,X_,Ya⟩:=rE wl 13 (by lia);obtain⟨T_,VI,TK⟩:=rE wl 14 (by lia);have Vs:∀{j:Nat} {w':Str},8<=j->ws[j]?=some w'->w'∉b9 L.W:=fun{j w'} hj hw z=>(hLw w' z).no wnd ⟨j,La _,Mw _,hw⟩ (.inl hj);have Yb:∀{j:Nat} {w':Str},ws[j]?=some w'->w'.length<=100:=λhw=>by
   have:=om (wk _ (Ln hw));lia
  walk_at "@sc__law_bars 54E8tv*3h(q1q1q1g11i211f5a56B21e05157ngF320F32058sWVU32059he03(322iB061ek4318'3aT yXj{i0611jS08EdCn99gb8iB061k48b8iB061k482722doyTj{i0611ju051dC092722dIHR#ZY0447704"
  refine L7 λYC hx=>?_;nomatch⟨d8 (by simp),λlo H1 no m1 f1=>?_⟩;nomatch hx [Re L.a,Re lx,Re lw,Re lk,Re lo,none,none,none,none,none] _ ?_;clear hx;refine L7 λUz hx=>?_;nomatch⟨d8 (by simp),λl2 H2 n2 m2 f2=>?_⟩;have m02:=m1.trans m2;nomatch i9 (m02.seq hX) hx14 ?_;rfl';obtain⟨c,hc,hc0,hc3⟩:=Ci XY;refine i9 (SqL.of f2) hc ?_;nomatch X4 (by lia) (by lia) ?_;refine eA (n:=c.toNat) (λi σ H'=>Same H H'/\(∃v5 v6 v7 v8 v9,σ=[Re L.a,Re lx,Re lw,Re lk,Re lo,v5,v6,v7,v8,v9])/\∃bs:List Sd,H' lo=some (.lst (bs.map λs=>V.ref s.a))/\bs.length=i/\∀s∈bs,SdIs K H' s/\pK L.W s.W/\H s.p=none/\H s.q=none) ⟨m02,⟨_,_,_,_,_,rfl⟩,[],m2 _ _ f1,rfl,λ_ h=>nomatch h⟩ (λi σ H' hi _=>by exact hi) ?_ ?_
  .rintro bk B9 b_ i v σ G0' G0 hi ⟨s0,⟨v5,v6,v7,v8,v9,rfl⟩,bs,g0,TY,Se⟩ ⟨rfl,rfl⟩;refine b_ λ_ _=>?_;have L0:=hL.same s0;nomatch L7 λVJ hx3=>?_;nomatch i9 (s0.seq hX) hx15 ?_;rfl';have hxx:0<=x15/(0+(i:Int)+1):=Int.ediv_nonneg XZ (by lia);generalize x15/(0+(i:Int)+1)=x at hxx⊢;refine hx3 [Re L.a,Re lx,Re lw,Re lk,Re lo,some (.int (0+(i:Int))),some (.int x),v7,v8,v9] _ ?_;clear hx3;refine L7 λnx4 hx3=>?_;nomatch k8 L0.at_.tup ?_;nomatch F8 L0.at_.pts (λbp G1 nbp q1 fp1=>?_);have L1:=L0.same q1;nomatch j6 L1.at_.tup ?_;nomatch F8 L1.at_.ties (λbq G2 nbq q2 fq2=>?_);nomatch⟨d8 (by simp),λba G3 nba q3 f3=>?_⟩;have VL:bp≠bq:=d6 fp1 nbq;have q03:=q1.trans (q2.trans q3);have s3:=s0.trans q03;have p3:=q3 _ _ (q2 _ _ fp1);have q3':=q3 _ _ fq2;have VM:H bp=none:=s0.free nbp;have VN:H bq=none:=s0.free (q1.free nbq);have L3:=hL.same s3;nomatch hx3 [Re L.a,Re lx,Re lw,Re lk,Re lo,some (.int (0+(i:Int))),some (.int x),Re ba,v8,v9] _ ?_;clear hx3;refine L7 λnx5 hx3=>?_;nomatch k8 L3.at_.tup ?_;nomatch D0 (ss:=L.W.pts.map (·.1)) L3.at_.pts (by rw[K5,C9]) (by rw[KW];lia) (λs1 a1 a2 l4 G4 n4 q4 f4=>?_);have s4:=s3.trans q4;nomatch hx3 [Re L.a,Re lx,Re lw,Re lk,Re lo,some (.int (0+(i:Int))),some (.int x),Re ba,Re l4,v9] _ ?_;clear hx3;refine L7 λnx6 hx3=>?_;nomatch i9 (s4.seq hWs) (X' _ rfl) ?_;nomatch⟨d8 (by simp),λl5 G5 n5 q5 f5=>?_⟩;have s5:=s4.trans q5;refine mZ (s5 _ _ hKs) f5 (d8 (by rw[KW];simp;lia)) (λl6 G6 n6 q6 f6=>?_);rw[show ks.map V.str++[V.str w12]=(ks++[w12]).map V.str by rw[Lh];rfl] at f6;have s6:=s5.trans q6;have Yc:=q5.trans q6;nomatch F0 (p0 (SqL.of (s6 _ _ hKs)) ?_);rw[KW];rfl';obtain⟨kd,Rp,_⟩:=O2 (ss:=ks++[w12]) (i:=x/6 % ((ks.length:Int)+1)) (Mo _ (by lia)) (by rw[Lg];simpa using Mc (x/6) (show(0:Int)<(ks.length:Int)+1 by lia));refine i9 (SqL.of f6) Rp ?_;nomatch hx3 [Re L.a,Re lx,Re lw,Re lk,Re lo,some (.int (0+(i:Int))),some (.int x),Re ba,Re l4,some (.str kd)] _ ?_;clear hx3;have l6':=Yc _ _ f4;have t6:SqT K G6 ba [.ref bp,.ref bq]:=SqT.of ((q4.trans Yc) _ _ f3);have p6:=(q4.trans Yc) _ _ p3;have YT:=(q4.trans Yc) _ _ q3';have Yd:=q03.trans (q4.trans Yc);have g6:=Yd _ _ g0;have hbs6:∀s∈bs,SdIs K G6 s/\pK L.W s.W/\H s.p=none/\H s.q=none:=λs hs=>⟨(Se s hs).1.same Yd,(Se s hs).2⟩
   have ti6:=(hL.same s6).at_.ts;have hg1:=a1.length_eq;rw[KW] at hg1;refine CJ (λσ H'=>σ=[Re L.a,Re lx,Re lw,Re lk,Re lo,some (.int (0+(i:Int))),some (.int x),Re ba,Re l4,some (.str kd)]/\Same G0 H'/\H' lo=some (.lst (bs.map λs=>V.ref s.a))/\∃B:Sd,B.a=ba/\SdIs K H' B/\pK L.W B.W/\H B.p=none/\H B.q=none) ?_ ?_
   .rintro σ G7 ⟨rfl,g7,lo7,B,rfl,hB,hb1,QN,Um⟩;nomatch⟨.inl ⟨rfl,_,SqL.of lo7⟩,?_⟩;nomatch⟨lo,_,_,rfl,rfl,lo7,U4 (by rw[KW];lia),?_⟩;have i_:∀{s:Sd},SdIs K G7 s->SdIs K (u9 G7 lo (.lst ((bs.map λs=>V.ref s.a)++[V.ref B.a]))) s:=fun{s} hs=>⟨⟨V2 lo7 hs.at_.tup,.inl (by rw[b7 (λz=>by have z2:=hs.hp;rw[z,lo7] at z2;cases z2)];exact hs.hp),.inl (by rw[b7 (λz=>by have z2:=hs.hq;rw[z,lo7] at z2;cases z2)];exact hs.hq),oh lo7 hs.at_.ts⟩,by rw[b7 (λz=>by have z2:=hs.hp;rw[z,lo7] at z2;cases z2)];exact hs.hp,by rw[b7 (λz=>by have z2:=hs.hq;rw[z,lo7] at z2;cases z2)];exact hs.hq,hs.ne,hs.nd,hs.len,hs.ends,hs.nl⟩
    walk_at "X";refine⟨E5 (s0.trans g7) no,⟨_,_,_,_,_,rfl⟩,bs++[B],by rw[b5,Lh];rfl,by rw[Lg,TY];rfl,λs hs=>?_⟩;rcases Ld.mp hs with z|z
    .walk_at "X";exact⟨i_ ((Se s z).1.same g7),(Se s z).2⟩
    .rw[Li.mp z];exact⟨i_ hB,hb1,QN,Um⟩
   .intro Uj hnx;have stay:∀{HZ:Hp},Same G6 HZ->Uj [Re L.a,Re lx,Re lw,Re lk,Re lo,some (.int (0+(i:Int))),some (.int x),Re ba,Re l4,some (.str kd)] HZ:=fun{HZ} sz=>hnx _ _ ⟨rfl,Yd.trans sz,sz _ _ g6,⟨ba,bp,bq,L.kvs,L.W⟩,rfl,⟨⟨sz.tup t6,.inl (sz _ _ p6),.inl (sz _ _ YT),ti6.mono sz.le⟩,sz _ _ p6,sz _ _ YT,VL,hL.nd,hL.len,hL.ends,hL.nl⟩,.inl rfl,VM,VN⟩;have point:∀{HZ:Hp},Same G6 HZ->Uj [Re L.a,Re lx,Re lw,Re lk,Re lo,some (.int (0+(i:Int))),some (.int x),Re ba,Re l4,some (.str kd)] (u9 HZ bp (.dK (i6 (L.W.pts++[(T_,kd)])))):=fun{HZ} sz=>by
     have hf:=Vs (by lia) VI;have p7:=sz _ _ p6;have g7:=sz _ _ g6;have qq7:=sz _ _ YT;refine hnx _ _ ⟨rfl,E5 (Yd.trans sz) nbp,by rw[b7 (λz=>by rw[z,p7] at g7;cases g7)];exact g7,⟨ba,bp,bq,L.kvs,⟨L.W.pts++[(T_,kd)],L.W.ts⟩⟩,rfl,⟨⟨S0 p7 (sz.tup t6),.inl b5,.inl (by rw[b7 VL.symm];exact qq7),K8 p7 (ti6.mono sz.le)⟩,b5,by rw[b7 VL.symm];exact qq7,VL,(vP hL.nd hf).1 kd,?_,λy hy=>?_,λn hn=>?_⟩,.inr (.inl ⟨T_,kd,hf,rfl⟩),VM,VN⟩
     .rw[C0];show(L.W.pts++[(T_,kd)]).length+L.W.ts.length<=60;rw[Lg];simp;lia
     .have he:=hL.ends y hy;show y.2.2.1∈(L.W.pts++[(T_,kd)]).map (·.1)/\y.2.2.2∈(L.W.pts++[(T_,kd)]).map (·.1);rw[Lh];walk_at "X";exact⟨Lb _ he.1,Lb _ he.2⟩
     .have SU:n∈(L.W.pts++[(T_,kd)]).map (·.1)++L.W.ts.map (·.1):=hn;rw[Lh] at SU;rcases Ld.mp SU with z|z
      .rcases Ld.mp z with z|z
       .exact hL.nl n (Lb _ z)
       .rw[show n=T_ by simpa using z];exact Yb VI
      .exact hL.nl n (Lf _ z)
    have TM:∀{HZ:Hp},Same G6 HZ->uP P w (.ref bp) (.str T_) (.str kd) HZ λH'=>Uj [Re L.a,Re lx,Re lw,Re lk,Re lo,some (.int (0+(i:Int))),some (.int x),Re ba,Re l4,some (.str kd)] H':=fun{HZ} sz=>by
     refine P9 (C5 (k:=Sum.inr T_) (sz _ _ p6) (d8 (by rw[k9];lia)) ?_);rw[aE (λz=>Vs (by lia) VI (Lb _ z))];exact point sz
    nomatch J6 (λb1=>?_) (λb1=>?_)
    .nomatch⟨d8 (by simp),λl7 G7 n7 q7 f7=>?_⟩;refine Dz (kS (SqL.of (q7 _ _ l6')) (SqL.of f7) (V5 _) rfl ?_);have Xs:V1 (s1.map V.str) []=decide (s1=[]):=by cases s1<;>rfl
     rw[Xs];nomatch O8 (λb2=>?_) (λb2=>?_)
     .have RJ:0<s1.length:=List.length_pos_iff.mpr b2;obtain⟨o1,So,Ye⟩:=O2 (ss:=s1) (i:=x/50 % (s1.length:Int)) (Mo _ (by lia)) (Mc _ (by lia));obtain⟨o2,RW,Yf⟩:=O2 (ss:=s1) (i:=x/210 % (s1.length:Int)) (Mo _ (by lia)) (Mc _ (by lia));have YU:=q7 _ _ l6';nomatch F0 (p0 (SqL.of YU) ?_);rw[KW];nomatch i9 (SqL.of YU) So ?_;nomatch F0 (p0 (SqL.of YU) ?_);rw[KW];nomatch i9 (SqL.of YU) RW ?_;nomatch⟨d8 (by simp),λl8 G8 n8 q8 f8=>?_⟩;replace f8:G8 l8=some (.tup (ao (kd,o1,o2))):=f8;have sz:=q7.trans q8;have hf:=Vs (by lia) X_;nomatch j6 (sz.tup t6) ?_;nomatch i9 ((s6.trans sz).seq hWs) (Ya _ rfl) ?_;have YV:=sz _ _ YT;have g8:=sz _ _ g6;refine P9 (C5 (k:=Sum.inr Wz) YV (d8 (by lia)) ?_);refine hnx _ _ ⟨rfl,E5 (Yd.trans sz) (q1.free nbq),by rw[b7 (λz=>by rw[z,YV] at g8;cases g8)];exact g8,⟨ba,bp,bq,_,⟨L.W.pts,L.W.ts++[(Wz,(kd,o1,o2))]⟩⟩,rfl,⟨⟨S0 YV (sz.tup t6),.inl (by rw[b7 VL];exact sz _ _ p6),.inl b5,K8 YV (kK (ti6.mono sz.le) (λz=>hf (Lf _ z)) (SqT.of f8))⟩,by rw[b7 VL];exact sz _ _ p6,b5,VL,(vP hL.nd hf).2 _,?_,λy hy=>?_,λn hn=>?_⟩,.inr (.inr ⟨Wz,kd,o1,o2,hf,a1.mem_iff.mp Ye,a1.mem_iff.mp Yf,rfl⟩),VM,VN⟩
      .rw[C0];show L.W.pts.length+(L.W.ts++[(Wz,(kd,o1,o2))]).length<=60;rw[Lg];simp;lia
      .rcases Ld.mp hy with z|z
       .exact hL.ends y z
       .rw[Li.mp z];exact⟨a1.mem_iff.mp Ye,a1.mem_iff.mp Yf⟩
      .have SU:n∈L.W.pts.map (·.1)++(L.W.ts++[(Wz,(kd,o1,o2))]).map (·.1):=hn;rw[Lh] at SU;rcases Ld.mp SU with z|z
       .exact hL.nl n (Lb _ z)
       .rcases Ld.mp z with z|z
        .exact hL.nl n (Lf _ z)
        .rw[show n=Wz by simpa using z];exact Yb X_
     .nomatch J6 (λb3=>?_) (λb3=>absurd (by lia) b3);nomatch k8 (q7.tup t6) ?_;nomatch i9 ((s6.trans q7).seq hWs) (TK _ rfl) ?_;exact TM q7
    .nomatch J6 (λb3=>?_) (λb3=>?_)
     .nomatch k8 t6 ?_;nomatch i9 (s6.seq hWs) (TK _ rfl) ?_;exact TM (Same.refl _)
     .nomatch J6 (λb4=>?_) (λb4=>?_)
      .nomatch k8 t6 ?_;nomatch i9 (s6.seq hWs) (TK _ rfl) ?_;exact TM (Same.refl _)
      .rfl';exact stay (Same.refl _)
  rintro σ G0 ⟨s0,⟨v5,v6,v7,v8,v9,rfl⟩,bs,g0,TY,Se⟩;refine⟨La _,?_⟩;refine hx [Re L.a,Re lx,Re lw,Re lk,Re lo,v5,v6,v7,v8,v9] G0 ?_;rfl';exact k lo bs G0 no s0 g0 (by lia) Se
def MetNo (W B:C3)(fx:xz):Prop:=(∃x∈B.pts,x.1∉fx.map (·.1)/\∀y∈W.pts,y.2=x.2->y.1∈fx.map (·.2))\/∃x∈B.ts,x.1∉fx.map (·.1)/\∀y∈W.ts,y.2=(x.2.1,i8 (i6 fx) x.2.2.1,i8 (i6 fx) x.2.2.2)->y.1∈fx.map (·.2)
def jv (K:Qd):Sp:=λvs H Q _=>∃(W B:Sd) (m:Addr) (fx:xz),vs=[.ref W.a,.ref B.a,.ref m]/\SdIs K H W/\SdIs K H B/\H m=some (.dK (i6 fx))/\(fx.map (·.1)).Nodup/\W.W.pts.length+W.W.ts.length<=60/\W.p≠B.p/\W.q≠B.q/\(∀x∈B.W.ts,x.1∉fx.map (·.1)->x.2.2.1∈fx.map (·.1)/\x.2.2.2∈fx.map (·.1))/\
 ∀(b:Bool) (H':Hp),Same H H'->(b=false->MetNo W.W B.W fx)->Q (.bl b) H'
def vn (n:p≠d)(h:H p=some u):C7 d o kvs H p=some u:=by
 unfold C7;rw[b7 n];exact h
def pB {m:xz}(nk:(m.map (·.1)).Nodup)(h:n∈m.map (·.1)):(n,i8 (i6 m) n)∈m:=by
 obtain⟨x,hx,rfl⟩:=KZ.mp h;rw[Q3 nk (show(x.1,x.2)∈m from hx)];exact hx
abbrev kF:=λP w K mg base=>U8 P w K mg base J0 1 "_law_met" ["_law_web_here","_law_bar","_law_match"] [] (jv K)
theorem rX {f fd}(T:Txt K mg)(F:Fun K "_law_met" "_law_met" fY f fd):E4 P w K mg base J0 1 f fd ["_law_web_here","_law_bar","_law_match"] (jv K):=by
 walk_at "#sc__law_met"
 .obtain⟨W,B,m,fx,rfl,_⟩:=h;rfl
 .obtain⟨W,B,m,fx,rfl,hW,hB,hm,O_,hsz,np,nq,hends,k⟩:=h;have hWk:=hW.at_.ts.length;walk_at "@sc__law_met 53:~bM~5~43|+~a~9~8028tvp21f4adorD04027N'2Hb %~0x_law_name_here;3401;p20f0m_law_name_here,_law_held,_law_word,_law_web_here,_law_bar;LyXjuh2300h2402rD000100E8tvp21f4adorD040255nqhh21041gb2hh21041b2hh210417N'2Hb %~0x_law_name_here;530;p20f0m_law_name_here,_law_tie,_law_held,_law_web_here;LyXjuh230001rD000200E7O"
  refine L7 λYC hx=>?_;nomatch⟨.inr (.inr (.inl ⟨rfl,.inl ⟨_,hm⟩⟩)),?_⟩;nomatch⟨m,_,rfl,rfl,.inl hm,λv1 n1=>?_⟩;obtain⟨H1,e1,f1,m1,_⟩:=u7 (o:= .ext (mF v1 m)) n1;rw[e1];nomatch aS f1 (.inl (m1 _ _ hm)) (λlh H2 n2 m2 f2=>?_);rw[rm] at f2;have s2:=m1.trans m2;nomatch hx [Re W.a,Re B.a,Re m,Re lh,none,none] _ ?_;clear hx;refine L7 λUz hx=>?_;have W2:=hW.same s2;have B2:=hB.same s2;have M2:=s2 _ _ hm;nomatch k8 B2.at_.tup ?_;refine V8 B2.hp (λVj o3=>?_);refine M9 (n:=(i6 B.W.pts).length) (λi σ H'=>(∃v4,σ=[Re W.a,Re B.a,Re m,Re lh,v4,none])/\Same (C7 B.p o3 (i6 B.W.pts) H2) H') ⟨⟨_,rfl⟩,Same.refl _⟩ (λi σ H' hi hp=>⟨hp.2 _ _ b5,hi⟩) ?_ ?_
  .rintro B9 b_ i v σ G3' G3 hi ⟨⟨v4,rfl⟩,s3⟩ ⟨rfl,kv,h_,rfl⟩;refine b_ λ_ _=>?_;obtain⟨x,Vq,rfl⟩:=Z3 h_;have u_:=Ln Vq;have SN:=(N4 (o:=o3) B2.hp).trans s3.le;have B3:=B2.at_.mono SN;have W3:=W2.at_.mono SN;have wp3:G3 W.p=some (.dK (i6 W.W.pts)):=s3 _ _ (vn np W2.hp);nomatch O7 (J2 (k:=Sum.inr x.1) (SN.dic (.inl M2))) ?_;rw[N6];nomatch O8 (λhb=>?_) (λhb=>?_)
   .have hu:x.1∉fx.map (·.1):=by simpa using hb
    nomatch k8 W3.tup ?_;refine V8 wp3 (λndw o4=>?_);refine B6 (n:=(i6 W.W.pts).length) (λj out H'=>Same (C7 W.p o4 (i6 W.W.pts) G3) H'/\out.length<=j/\∀y∈W.W.pts.take j,y.2=x.2->y.1∉fx.map (·.2)->out≠[]) ⟨Same.refl _,La _,λy h=>by simp at h⟩ (λj out H' hj hp=>⟨hp.1 _ _ b5,hj⟩) ?_ ?_
    .rintro B9 b_ N j v out G4' G4 hj ⟨s4,ol,on⟩ ⟨rfl,kv,hkv',rfl⟩;refine b_ λf_=>?_;obtain⟨y,hy,rfl⟩:=Z3 hkv';have UD:=Ln hy;have Sv:=SN.trans ((N4 (o:=o4) wp3).trans s4.le);have W4:=W2.at_.mono Sv;have B4:=B2.at_.mono Sv;have h4:SqL K G4 lh _:=Sv.lst (SqL.of f2);have tk:W.W.pts.take (j+1)=W.W.pts.take j++[y]:=by rw[LF,hy];rfl
     have hj12:j<=100:=by rw[k9] at hj;lia
     nomatch⟨rfl,?_⟩;nomatch k8 W4.tup ?_;nomatch u4 (v:= .str y.2) (by have z:=J2 (k:=Sum.inr y.1) W4.pts;rw[N0 (k:=y.2) (F2 hW.nd) UD] at z;exact z) ?_;nomatch k8 B4.tup ?_;nomatch u4 (v:= .str x.2) (by have z:=J2 (k:=Sum.inr x.1) B4.pts;rw[N0 (k:=x.2) (F2 hB.nd) u_] at z;exact z) ?_;refine gh ?_;nomatch J6 (λb1=>?_) (λb1=>?_)
     .nomatch J1 h4 ?_;nomatch O8 (λb2=>?_) (λb2=>?_)
      .nomatch⟨d8 (by lia),f_ _ _ ⟨s4,by rw[Lg,Lq];lia,λy' s_ _ _=>by simp⟩⟩
      .refine f_ _ _ ⟨s4,by lia,λy' s_ q1 q2=>?_⟩;rw[tk] at s_;rcases Ld.mp s_ with z|z
       .exact on y' z q1 q2
       .rw[Li.mp z] at q2;exact absurd b2 q2
     .refine f_ _ _ ⟨s4,by lia,λy' s_ q1 q2=>?_⟩;rw[tk] at s_;rcases Ld.mp s_ with z|z
      .exact on y' z q1 q2
      .rw[Li.mp z] at q1;exact absurd q1 b1
    .rintro out G4 ⟨s4,ol,on⟩;rw[k9] at ol on;rw[Ll (La _)] at on;refine⟨⟨s4 _ _ b5,La _⟩,λD2 hD2=>⟨d8 (by lia),?_⟩⟩;have sM:=P8 wp3 s4 hD2 (u:= .lst out);have fM:=ae s4 hD2 (u:= .lst out);generalize thaw W.p (u9 G4 D2 (.lst out))=G5 at sM fM⊢;nomatch⟨d8 (by simp),λl6 G6 n6 m6 f6=>?_⟩;refine⟨D2,l6,out,rfl,rfl,SqL.of (m6 _ _ fM),SqL.of f6,?_⟩;refine k _ _ (s2.trans ((s3.trans (sM.trans m6)).thaw B2.hp)) (λhf=> .inl ⟨x,u_,hu,λy hy q=>?_⟩);refine MJ λq2=>on y hy q q2 ?_;cases out with
     |nil=>rfl
     |cons _ _=>cases hf
   .rfl';walk_at "X";exact⟨⟨_,rfl⟩,s3⟩
  .rintro σ G3 ⟨⟨v4,rfl⟩,s3⟩;refine⟨⟨s3 _ _ b5,La _⟩,?_⟩;have s4:=s2.trans (s3.thaw B2.hp);have f5:=(s3.thaw B2.hp) _ _ f2;change Uz _ (thaw B.p G3);generalize thaw B.p G3=G4 at s4 f5⊢;refine hx _ _ ?_;clear hx s3 s2 m1 m2 f1 f2 e1 W2 B2 M2 n1 n2;have W2:=hW.same s4;have B2:=hB.same s4;have M2:=s4 _ _ hm;refine L7 λVJ hx=>?_;nomatch j6 B2.at_.tup ?_;refine V8 B2.hq (λTp o5=>?_);refine M9 (n:=B.kvs.length) (λi σ H'=>(∃v4 v5,σ=[Re W.a,Re B.a,Re m,Re lh,v4,v5])/\Same (C7 B.q o5 B.kvs G4) H') ⟨⟨_,_,rfl⟩,Same.refl _⟩ (λi σ H' hi hp=>⟨hp.2 _ _ b5,hi⟩) ?_ ?_
   .rintro B9 b_ i v σ G5' G5 hi ⟨⟨v4,v5,rfl⟩,s5⟩ ⟨rfl,kv,h_,rfl⟩;refine b_ λ_ _=>?_;have TZ:=(N4 (o:=o5) B2.hq).trans s5.le;have B5:=B2.at_.mono TZ;have W5:=W2.at_.mono TZ;have M5:Rd G5 m (.dK (i6 fx)):=TZ.dic (.inl M2);have wq5:G5 W.q=some (.dK W.kvs):=s5 _ _ (vn nq W2.hq);obtain⟨x,Vq,ex,bt,ebt,sbt⟩:=B5.ts.get h_;have Qf:=Ln h_;have u_:=Ln Vq;obtain⟨kk,Ss⟩:=kv;have P_:kk=Sum.inr x.1:=ex;have Su:Ss= .ref bt:=ebt;subst P_ Su;obtain⟨x0,kd,eb,ee⟩:=x;nomatch O7 (J2 (k:=Sum.inr x0) M5) ?_;rw[N6];nomatch O8 (λhb=>?_) (λhb=>?_)
    .have hu:x0∉fx.map (·.1):=by simpa using hb
     have he:=hends _ u_ hu;have hq:DGet G5 B.q (.str x0) (some (.ref bt)):=by have z:=J2 (k:=Sum.inr x0) B5.ties;rw[aQ (kv:=(Sum.inr x0,.ref bt)) Tp Qf] at z;exact z
     refine L7 λnx4 hx4=>?_;nomatch j6 B5.tup ?_;nomatch u4 (v:= .ref bt) hq ?_;nomatch A0 (v:= .str kd) sbt (j7 (j:=0) rfl) ?_;nomatch j6 B5.tup ?_;nomatch u4 (v:= .ref bt) hq ?_;nomatch A0 (v:= .str eb) sbt (j7 (j:=1) rfl) ?_;refine Aq M5 ⟨_,N0 O_ (pB O_ he.1)⟩ ?_;nomatch j6 B5.tup ?_;nomatch u4 (v:= .ref bt) hq ?_;nomatch A0 (v:= .str ee) sbt (j7 (j:=2) rfl) ?_;refine Aq M5 ⟨_,N0 O_ (pB O_ he.2)⟩ ?_;nomatch⟨d8 (by simp),λl6 G6 n6 m6 f6=>?_⟩;replace f6:G6 l6=some (.tup (ao (kd,i8 (i6 fx) eb,i8 (i6 fx) ee))):=f6;nomatch hx4 [Re W.a,Re B.a,Re m,Re lh,some (.str x0),Re l6] _ ?_;clear hx4;have wq6:=m6 _ _ wq5;have W6:=W5.mono m6.le;nomatch j6 W6.tup ?_;refine V8 wq6 (λndw o7=>?_);refine B6 (n:=W.kvs.length) (λj out H'=>Same (C7 W.q o7 W.kvs G6) H'/\out.length<=j/\∀y∈W.W.ts.take j,y.2=(kd,i8 (i6 fx) eb,i8 (i6 fx) ee)->y.1∉fx.map (·.2)->out≠[]) ⟨Same.refl _,La _,λy h=>by simp at h⟩ (λj out H' hj hp=>⟨hp.1 _ _ b5,hj⟩) ?_ ?_
     .rintro B9 b_ N j v out G7' G7 hj ⟨s7,ol,on⟩ ⟨rfl,kv,hkv',rfl⟩;refine b_ λf_=>?_;have VO:=(N4 (o:=o7) wq6).trans s7.le;have le7:=TZ.trans (m6.le.trans VO);have W7:=W6.mono VO;have h7:SqL K G7 lh _:=le7.lst (SqL.of f5);obtain⟨y,hy,ey,bb,ebb,sb⟩:=W7.ts.get hkv';have hkm':=Ln hkv';obtain⟨kk',kvv'⟩:=kv;have SH:kk'=Sum.inr y.1:=ey;have ebb':kvv'= .ref bb:=ebb;subst SH ebb';obtain⟨y0,y1⟩:=y;have tk:W.W.ts.take (j+1)=W.W.ts.take j++[(y0,y1)]:=by rw[LF,hy];rfl
      have hj12:j<=100:=by lia
      have t7:SqT K G7 l6 (ao (kd,i8 (i6 fx) eb,i8 (i6 fx) ee)):=VO.tup (SqT.of f6);nomatch⟨rfl,?_⟩;nomatch j6 W7.tup ?_;nomatch u4 (v:= .ref bb) (by have z:=J2 (k:=Sum.inr y0) W7.ties;rw[aQ (kv:=(Sum.inr y0,.ref bb)) ndw hkm'] at z;exact z) ?_;nomatch mO (sC sb t7 (hV _) (hV _) ?_);rw[rH];nomatch J6 (λb1=>?_) (λb1=>?_)
      .nomatch J1 h7 ?_;nomatch O8 (λb2=>?_) (λb2=>?_)
       .nomatch⟨d8 (by lia),f_ _ _ ⟨s7,by rw[Lg,Lq];lia,λy' s_ _ _=>by simp⟩⟩
       .refine f_ _ _ ⟨s7,by lia,λy' s_ q1 q2=>?_⟩;rw[tk] at s_;rcases Ld.mp s_ with z|z
        .exact on y' z q1 q2
        .rw[Li.mp z] at q2;exact absurd b2 q2
      .refine f_ _ _ ⟨s7,by lia,λy' s_ q1 q2=>?_⟩;rw[tk] at s_;rcases Ld.mp s_ with z|z
       .exact on y' z q1 q2
       .rw[Li.mp z] at q1;exact absurd q1 b1
     .rintro out G7 ⟨s7,ol,on⟩;rw[hWk,Ll (La _)] at on;refine⟨⟨s7 _ _ b5,La _⟩,λD2 hD2=>⟨d8 (by lia),?_⟩⟩;have sM:=P8 wq6 s7 hD2 (u:= .lst out);have fM:=ae s7 hD2 (u:= .lst out);generalize thaw W.q (u9 G7 D2 (.lst out))=G8 at sM fM⊢;nomatch⟨d8 (by simp),λl9 G9 n9 m9 f9=>?_⟩;refine⟨D2,l9,out,rfl,rfl,SqL.of (m9 _ _ fM),SqL.of f9,?_⟩;refine k _ _ (s4.trans ((s5.trans (m6.trans (sM.trans m9))).thaw B2.hq)) (λhf=> .inr ⟨_,u_,hu,λy hy q=>?_⟩);refine MJ λq2=>on y hy q q2 ?_;cases out with
      |nil=>rfl
      |cons _ _=>cases hf
    .rfl';walk_at "X";exact⟨⟨_,_,rfl⟩,s5⟩
   .rintro σ G5 ⟨⟨v4,v5,rfl⟩,s5⟩;refine⟨⟨s5 _ _ b5,La _⟩,?_⟩;have s6:=s4.trans (s5.thaw B2.hq);change VJ _ (thaw B.q G5);generalize thaw B.q G5=G6 at s6⊢;refine hx _ _ ?_;rfl';exact k true _ s6 (λh=>nomatch h)
variable {B:C3}
open Classical in
def yh (h:MetNo W B fx)(nk:(fx.map (·.1)).Nodup)(fin:∀x∈fx,x.1∈b9 B)(he:∀x∈B.ts,x.1∉fx.map (·.1)->x.2.2.1∈fx.map (·.1)/\x.2.2.2∈fx.map (·.1)):N9 B W fx=[]:=by
 refine List.eq_nil_iff_forall_not_mem.mpr λrow hr=>?_;unfold N9 iu at hr;obtain⟨_,hr⟩:=Lo.mp hr;rw[LK] at hr;obtain⟨f,d⟩:=hr;have d':∀x∈fx,i8 (i6 ((nF B++oK B).zip row)) x.1=x.2:=d;have out:∀w∈b9 B,w∉fx.map (·.1)->i8 (i6 ((nF B++oK B).zip row)) w∉fx.map (·.2):=λw hw nw z=>by
  obtain⟨x,hx,e⟩:=KZ.mp z;have e2:=zJ f.nd (fin x hx) hw ((d' x hx).trans e);exact nw (e2▸KZ.mpr ⟨x,hx,rfl⟩)
 rcases h with⟨x,hx,nx,hy⟩|⟨x,hx,nx,hy⟩
 .exact out x.1 (Lb _ (KZ.mpr ⟨x,hx,rfl⟩)) nx (hy _ (f.pts x hx) rfl)
 .have key:∀n∈fx.map (·.1),i8 (i6 ((nF B++oK B).zip row)) n=i8 (i6 fx) n:=λn hn=>d' _ (pB nk hn);refine out x.1 (Lf _ (KZ.mpr ⟨x,hx,rfl⟩)) nx (hy _ (f.ts x hx) ?_);have:=he x hx nx;show(x.2.1,i8 _ x.2.2.1,i8 _ x.2.2.2)=_;rw[key _ this.1,key _ this.2]
def iW (h:pK L B)(hk:∀n,n∈fx.map (·.1)↔n∈b9 L):(∀x∈fx,x.1∈b9 B)/\∀x∈B.ts,x.1∉fx.map (·.1)->x.2.2.1∈fx.map (·.1)/\x.2.2.2∈fx.map (·.1):=by
 have m_:∀x∈fx,x.1∈b9 L:=λx hx=>(hk _).mp (KZ.mpr ⟨x,hx,rfl⟩);have old:∀x∈L.ts,x.1∈fx.map (·.1):=λx hx=>(hk _).mpr (Lf _ (KZ.mpr ⟨x,hx,rfl⟩));rcases h with rfl|⟨w,kd,nw,rfl⟩|⟨w,kd,o1,o2,nw,h1,h2,rfl⟩
 .exact⟨m_,λx hx n=>absurd (old x hx) n⟩
 .refine⟨λx hx=>?_,λx hx n=>absurd (old x hx) n⟩;have z:=m_ x hx;unfold b9 at z⊢;rcases Ld.mp z with z|z
  .exact Lb _ (by rw[Lh];exact Lb _ z)
  .exact Lf _ z
 .refine⟨λx hx=>?_,λx hx n=>?_⟩
  .have z:=m_ x hx;unfold b9 at z⊢;rcases Ld.mp z with z|z
   .exact Lb _ z
   .exact Lf _ (by rw[Lh];exact Lb _ z)
  .rcases Ld.mp hx with z|z
   .exact absurd (old x z) n
   .rw[Li.mp z];exact⟨(hk _).mpr (Lb _ h1),(hk _).mpr (Lb _ h2)⟩
def zS {l:xL}(nd:l.Nodup)(h:n∈l):i8 (i6 (l.map λn=>(n,g n))) n=g n:=by
 refine Q3 ?_ (KZ.mpr ⟨n,h,rfl⟩);rw[LY,show((λx:Str×Str=>x.1)∘λn=>(n,g n))=id from rfl,List.map_id];exact nd
def uV {A B:List (Str×β)}(ha:(A.map (·.1)).Nodup)(hb:(B.map (·.1)).Nodup):(((A.filter λx=>!decide (x.1∈B.map (·.1)))++B).map (·.1)).Nodup:=by
 rw[Lh];refine Ls.mpr ⟨ha.sublist (Mp.map _),hb,λa h1 b h2 e=>?_⟩;subst e;obtain⟨x,hx,rfl⟩:=KZ.mp h1;have:=(Lo.mp hx).2;simp only[Mm,LQ] at this;exact this h2
def Bk {A:List (Str×β)}(h:(A.map (·.1)).Nodup){x y:Str×β}(hx:x∈A)(hy:y∈A)(e:x.1=y.1):x=y:=by
 induction A with
 |nil=>cases hx
 |cons a r ih=>
  rw[Mg,Mt] at h
  rcases LZ.mp hx with ex|l_
  .rcases LZ.mp hy with ey|s_
   .rw[ex,ey]
   .rw[ex] at e;exact absurd (KZ.mpr ⟨y,s_,e.symm⟩) h.1
  .rcases LZ.mp hy with ey|s_
   .rw[ey] at e;exact absurd (KZ.mpr ⟨x,l_,e⟩) h.1
   .exact ih h.2 l_ s_
def Fi {l:xL}(h:(l.map f).Nodup){a b:Str}(ha:a∈l)(hb:b∈l)(e:f a=f b):a=b:=by
 have z:=Bk (A:=l.map λx=>(f x,x)) (x:=(f a,a)) (y:=(f b,b)) (by rw[LY];exact h) (KZ.mpr ⟨a,ha,rfl⟩) (KZ.mpr ⟨b,hb,rfl⟩) e;exact MG Prod.snd z
structure StW (W L R:C3) (km:am) (fr:xz):Prop where
 ok:GQ W L R km fr
 ag:∀n∈b9 L,n∈b9 R->CW n L R
 ndW:(b9 W).Nodup
 ndL:(b9 L).Nodup
 ndR:(b9 R).Nodup
 eW:∀x∈W.ts,x.2.2.1∈W.pts.map (·.1)/\x.2.2.2∈W.pts.map (·.1)
 eL:∀x∈L.ts,x.2.2.1∈L.pts.map (·.1)/\x.2.2.2∈L.pts.map (·.1)
 eR:∀x∈R.ts,x.2.2.1∈R.pts.map (·.1)/\x.2.2.2∈R.pts.map (·.1)
 nm:∀n∈b9 W,V4 n=true
 lL:(b9 L).length<=8
 lR:(b9 R).length<=8
def StW.inP (h:StW W L R km fr)(hn:n∈L.pts.map (·.1)):i8 km n∈W.pts.map (·.1):=by
 obtain⟨x,hx,rfl⟩:=KZ.mp hn;exact KZ.mpr ⟨_,h.ok.fit.pts x hx,rfl⟩
def StW.inT (h:StW W L R km fr)(hn:n∈L.ts.map (·.1)):i8 km n∈W.ts.map (·.1):=by
 obtain⟨x,hx,rfl⟩:=KZ.mp hn;exact KZ.mpr ⟨_,h.ok.fit.ts x hx,rfl⟩
def StW.inW (h:StW W L R km fr)(hn:n∈b9 L):i8 km n∈b9 W:=(Ld.mp hn).elim (λz=>Lb _ (h.inP z)) λz=>Lf _ (h.inT z)
def StW.frsh (h:StW W L R km fr)(h1:n∈b9 R)(h2:n∉b9 L):i8 (i6 fr) n∉b9 W:=h.ok.fo.no _ (h.ok.fo.txt h.ndR (h.ok.fo.mem.mpr ⟨h1,h2⟩)).2
def StW.agP (h:StW W L R km fr)(hn:n∈R.pts.map (·.1))(hL:n∈b9 L):n∈L.pts.map (·.1):=by
 obtain⟨x,hx,rfl⟩:=KZ.mp hn;exact KZ.mpr ⟨x,((h.ag _ hL (Lb _ hn)).p x.2).mpr hx,rfl⟩
def StW.agT (h:StW W L R km fr)(hn:n∈R.ts.map (·.1))(hL:n∈b9 L):n∈L.ts.map (·.1):=by
 obtain⟨x,hx,rfl⟩:=KZ.mp hn;exact KZ.mpr ⟨x,((h.ag _ hL (Lf _ hn)).t x.2).mpr hx,rfl⟩
def qj (nd:(b9 W).Nodup)(h1:n∈W.pts.map (·.1))(h2:n∈W.ts.map (·.1)):False:=(Ls.mp nd).2.2 n h1 n h2 rfl
def StW.bhP (h:StW W L R km fr)(hn:n∈R.pts.map (·.1))(hT:bh L km (i6 fr) n∈W.ts.map (·.1)):False:=by
 by_cases z:n∈b9 L
 .rw[bX _ _ z] at hT;exact qj h.ndW (h.inP (h.agP hn z)) hT
 .rw[cn _ _ z] at hT;exact h.frsh (Lb _ hn) z (Lf _ hT)
def StW.bhT (h:StW W L R km fr)(hn:n∈R.ts.map (·.1))(hT:bh L km (i6 fr) n∈W.pts.map (·.1)):False:=by
 by_cases z:n∈b9 L
 .rw[bX _ _ z] at hT;exact qj h.ndW hT (h.inT (h.agT hn z))
 .rw[cn _ _ z] at hT;exact h.frsh (Lf _ hn) z (Lb _ hT)
def mem_doneP {x:Str×Str}:x∈(M4 W L R km kf).pts↔((x∈W.pts/\x.1∉X9 L R km)/\x.1∉(Q2 (bh L km kf) R).pts.map (·.1))\/x∈(Q2 (bh L km kf) R).pts:=by
 show x∈((W.pts.filter λx=>!decide (x.1∈X9 L R km)).filter λx=>!decide (x.1∈(Q2 (bh L km kf) R).pts.map (·.1)))++(Q2 (bh L km kf) R).pts↔_;rw[qe,Lo,Mm,LQ]
def mem_doneT {x:Str×N3}:x∈(M4 W L R km kf).ts↔((x∈W.ts/\x.1∉X9 L R km)/\x.1∉(Q2 (bh L km kf) R).ts.map (·.1))\/x∈(Q2 (bh L km kf) R).ts:=by
 show x∈((W.ts.filter λx=>!decide (x.1∈X9 L R km)).filter λx=>!decide (x.1∈(Q2 (bh L km kf) R).ts.map (·.1)))++(Q2 (bh L km kf) R).ts↔_;rw[qe,Lo,Mm,LQ]
def rq (h:n∈(M4 W L R km kf).pts.map (·.1)):(n∈W.pts.map (·.1)/\n∉X9 L R km)\/∃m∈R.pts.map (·.1),n=bh L km kf m:=by
 obtain⟨x,hx,rfl⟩:=KZ.mp h;rcases mem_doneP.mp hx with⟨z,_⟩|z
 .exact .inl ⟨KZ.mpr ⟨x,z.1,rfl⟩,z.2⟩
 .obtain⟨y,hy,rfl⟩:=KZ.mp z;exact .inr ⟨y.1,KZ.mpr ⟨y,hy,rfl⟩,rfl⟩
def qQ (h:n∈(M4 W L R km kf).ts.map (·.1)):(n∈W.ts.map (·.1)/\n∉X9 L R km)\/∃m∈R.ts.map (·.1),n=bh L km kf m:=by
 obtain⟨x,hx,rfl⟩:=KZ.mp h;rcases mem_doneT.mp hx with⟨z,_⟩|z
 .exact .inl ⟨KZ.mpr ⟨x,z.1,rfl⟩,z.2⟩
 .obtain⟨y,hy,rfl⟩:=KZ.mp z;exact .inr ⟨y.1,KZ.mpr ⟨y,hy,rfl⟩,rfl⟩
def uX (h:n∈b9 (M4 W L R km kf)):(n∈b9 W/\n∉X9 L R km)\/∃m∈b9 R,n=bh L km kf m:=by
 rcases Ld.mp h with z|z
 .rcases rq z with⟨a,b⟩|⟨m,a,b⟩
  .exact .inl ⟨Lb _ a,b⟩
  .exact .inr ⟨m,Lb _ a,b⟩
 .rcases qQ z with⟨a,b⟩|⟨m,a,b⟩
  .exact .inl ⟨Lf _ a,b⟩
  .exact .inr ⟨m,Lf _ a,b⟩
def StW.ndD (h:StW W L R km fr):(b9 (M4 W L R km (i6 fr))).Nodup:=by
 have nr:=vp h.ok.nd;refine Ls.mpr ⟨uV ((F2 h.ndW).sublist (Mp.map _)) nr.1,uV ((O4 h.ndW).sublist (Mp.map _)) nr.2,λa h1 b h2 e=>?_⟩;subst e;rcases rq h1 with⟨z1,_⟩|⟨m1,z1,e1⟩<;>rcases qQ h2 with⟨z2,_⟩|⟨m2,z2,e2⟩
 .exact qj h.ndW z1 z2
 .rw[e2] at z1;exact h.bhT z2 z1
 .rw[e1] at z2;exact h.bhP z1 z2
 .rw[e1] at e2;have:=Fi h.ok.nd (Lb _ z1) (Lf _ z2) e2;rw[this] at z1;exact qj h.ndR z1 z2
def StW.eD (h:StW W L R km fr):∀x∈(M4 W L R km (i6 fr)).ts,x.2.2.1∈(M4 W L R km (i6 fr)).pts.map (·.1)/\x.2.2.2∈(M4 W L R km (i6 fr)).pts.map (·.1):=by
 have inR:∀n∈R.pts.map (·.1),bh L km (i6 fr) n∈(M4 W L R km (i6 fr)).pts.map (·.1):=λn hn=>by
  obtain⟨y,hy,rfl⟩:=KZ.mp hn;exact KZ.mpr ⟨_,mem_doneP.mpr (.inr (KZ.mpr ⟨y,hy,rfl⟩)),rfl⟩
 have inS:∀n∈W.pts.map (·.1),n∉X9 L R km->n∈(M4 W L R km (i6 fr)).pts.map (·.1):=λn hn hg=>by
  by_cases z:n∈(Q2 (bh L km (i6 fr)) R).pts.map (·.1)
  .obtain⟨y,hy,e⟩:=KZ.mp z;exact KZ.mpr ⟨y,mem_doneP.mpr (.inr hy),e⟩
  .obtain⟨y,hy,rfl⟩:=KZ.mp hn;exact KZ.mpr ⟨y,mem_doneP.mpr (.inl ⟨⟨hy,hg⟩,z⟩),rfl⟩
 intro x hx;rcases mem_doneT.mp hx with⟨⟨h1,h2⟩,_⟩|z
 .have e:=h.eW x h1;have g:=h.ok.lo x h1 h2;exact⟨inS _ e.1 g.1,inS _ e.2 g.2⟩
 .obtain⟨y,hy,rfl⟩:=KZ.mp z;exact⟨inR _ (h.eR y hy).1,inR _ (h.eR y hy).2⟩
def StW.nmD (h:StW W L R km fr):∀n∈b9 (M4 W L R km (i6 fr)),V4 n=true:=λn hn=>by
 rcases uX hn with⟨z,_⟩|⟨m,z,rfl⟩
 .exact h.nm n z
 .by_cases q:m∈b9 L
  .rw[bX _ _ q];exact h.nm _ (h.inW q)
  .rw[cn _ _ q];exact h.ok.fo.nm _ (h.ok.fo.txt h.ndR (h.ok.fo.mem.mpr ⟨z,q⟩)).2
theorem zH:(b9 (M4 W L R km kf)).length<=(b9 W).length+(b9 R).length:=by
 rw[C0,C0,C0];have e1:(M4 W L R km kf).pts.length=((W.pts.filter λx=>!decide (x.1∈X9 L R km)).filter λx=>!decide (x.1∈(Q2 (bh L km kf) R).pts.map (·.1))).length+R.pts.length:=by
  show(_++_:List _).length=_;rw[Lg];congr 1;exact KW _
 have e2:(M4 W L R km kf).ts.length=((W.ts.filter λx=>!decide (x.1∈X9 L R km)).filter λx=>!decide (x.1∈(Q2 (bh L km kf) R).ts.map (·.1))).length+R.ts.length:=by
  show(_++_:List _).length=_;rw[Lg];congr 1;exact KW _
 have l1:=LJ (Lm (λx=>!decide (x.1∈(Q2 (bh L km kf) R).pts.map (·.1))) _) (Lm (λx:Str×Str=>!decide (x.1∈X9 L R km)) W.pts);have l2:=LJ (Lm (λx=>!decide (x.1∈(Q2 (bh L km kf) R).ts.map (·.1))) _) (Lm (λx:Str×N3=>!decide (x.1∈X9 L R km)) W.ts);lia
structure WPm (A B:C3):Prop where
 p:A.pts.Perm B.pts
 t:A.ts.Perm B.ts
variable {A:C3}
def WPm.nm (h:WPm A B):(b9 A).Perm (b9 B):=(h.p.map _).append (h.t.map _)
def WPm.tr {C:C3}(h:WPm A B)(k:WPm B C):WPm A C:=⟨h.p.trans k.p,h.t.trans k.t⟩
def WPm.rf (A:C3):WPm A A:=⟨OH _,OH _⟩
def WPm.sy (h:WPm A B):WPm B A:=⟨h.p.symm,h.t.symm⟩
def WPm.ends (h:WPm A B)(e:∀x∈B.ts,x.2.2.1∈B.pts.map (·.1)/\x.2.2.2∈B.pts.map (·.1)):∀x∈A.ts,x.2.2.1∈A.pts.map (·.1)/\x.2.2.2∈A.pts.map (·.1):=λx hx=>by
 have z:=e x (h.t.mem_iff.mp hx);exact⟨(h.p.map _).mem_iff.mpr z.1,(h.p.map _).mem_iff.mpr z.2⟩
variable {W':C3}
def StW.congr (h:StW W L R km fr){L' R':C3}{VP:am}(hw:WPm W' W)(hl:WPm L' L)(hr:WPm R' R)(e:∀n∈b9 L,TxtAt VP n/\i8 VP n=i8 km n)(el:VP.length=km.length):StW W' L' R' VP fr/\WPm (M4 W' L' R' VP (i6 fr)) (M4 W L R km (i6 fr)):=by
 have mL:∀{n},n∈b9 L'↔n∈b9 L:=hl.nm.mem_iff;have mR:∀{n},n∈b9 R'↔n∈b9 R:=hr.nm.mem_iff;have eb:bh L' VP (i6 fr)=bh L km (i6 fr):=funext λn=>by
  by_cases z:n∈b9 L
  .rw[bX _ _ z,bX _ _ (mL.mpr z),(e n z).2]
  .rw[cn _ _ z,cn _ _ λq=>z (mL.mp q)]
 have dR:∀n,(!decide (n∈b9 R'))=!decide (n∈b9 R):=λn=>MG not (decide_eq_decide.mpr mR);have dL:∀n,(!decide (n∈b9 L'))=!decide (n∈b9 L):=λn=>MG not (decide_eq_decide.mpr mL);have eg:∀n,n∈X9 L' R' VP↔n∈X9 L R km:=λn=>by
  constructor
  .intro z;obtain⟨m,hm,rfl⟩:=KZ.mp z;obtain⟨h1,h2⟩:=Lo.mp hm;exact KZ.mpr ⟨m,Lo.mpr ⟨mL.mp h1,by rw[←dR];exact h2⟩,((e m (mL.mp h1)).2).symm⟩
  .intro z;obtain⟨m,hm,rfl⟩:=KZ.mp z;obtain⟨h1,h2⟩:=Lo.mp hm;exact KZ.mpr ⟨m,Lo.mpr ⟨mL.mpr h1,by rw[dR];exact h2⟩,(e m h1).2⟩
 have fo:=h.ok.fo;refine⟨⟨⟨⟨by rw[el,h.ok.fit.len,hl.nm.length_eq],λn hn=>(e n (mL.mp hn)).1,?_,λx hx=>?_,λx hx=>?_⟩,λx hx hn=>?_,⟨?_,fo.nm,fo.nd,λx hx z=>fo.no x hx (hw.nm.mem_iff.mp z),fo.len⟩,?_⟩,λn h1 h2=>?_,hw.nm.nodup_iff.mpr h.ndW,hl.nm.nodup_iff.mpr h.ndL,hr.nm.nodup_iff.mpr h.ndR,hw.ends h.eW,hl.ends h.eL,hr.ends h.eR,λn hn=>h.nm n (hw.nm.mem_iff.mp hn),by rw[hl.nm.length_eq];exact h.lL,by rw[hr.nm.length_eq];exact h.lR⟩,⟨?_,?_⟩⟩
 .rw[MF λn hn=>(e n (mL.mp hn)).2];exact(hl.nm.map _).nodup_iff.mpr h.ok.fit.nd
 .have hx:=hl.p.mem_iff.mp hx;rw[(e _ (Lb _ (KZ.mpr ⟨x,hx,rfl⟩))).2];exact hw.p.mem_iff.mpr (h.ok.fit.pts x hx)
 .have hx:=hl.t.mem_iff.mp hx;rw[(e _ (Lf _ (KZ.mpr ⟨x,hx,rfl⟩))).2,(e _ (Lb _ (h.eL x hx).1)).2,(e _ (Lb _ (h.eL x hx).2)).2];exact hw.t.mem_iff.mpr (h.ok.fit.ts x hx)
 .have z:=h.ok.lo x (hw.t.mem_iff.mp hx) λz=>hn ((eg _).mpr z);exact⟨λq=>z.1 ((eg _).mp q),λq=>z.2 ((eg _).mp q)⟩
 .rw[NW (q:=λn=>!decide (n∈b9 L)) λn _=>dL n];exact fo.ks.trans (hr.nm.filter _).symm
 .rw[eb];exact(hr.nm.map _).nodup_iff.mpr h.ok.nd
 .have a:=h.ag n (mL.mp h1) (mR.mp h2);exact⟨λk=>by rw[hl.p.mem_iff,hr.p.mem_iff];exact a.p k,λk=>by rw[hl.t.mem_iff,hr.t.mem_iff];exact a.t k⟩
 .unfold M4;rw[eb,uq W' eg];exact eo (hw.p.filter _) (hr.p.map _)
 .unfold M4;rw[eb,uq W' eg];exact eo (hw.t.filter _) (hr.t.map _)
variable {a:Addr}
def WebIs.perm (h:WebAt K H a p q kvs W')(hp:H p=some (.dK (i6 W'.pts)))(hq:H q=some (.dK kvs))(ne:p≠q)(p1:W'.pts.Perm W.pts)(p2:W'.ts.Perm W.ts)(nd:(b9 W).Nodup)(len:(b9 W).length<=60)(ends:∀x∈W.ts,x.2.2.1∈W.pts.map (·.1)/\x.2.2.2∈W.pts.map (·.1))(nl:∀x∈b9 W,x.length<=100):WebIs 60 K H a p q kvs W':=by
 have pm:(b9 W').Perm (b9 W):=(p1.map _).append (p2.map _);refine⟨h,hp,hq,ne,pm.nodup_iff.mpr nd,by rw[pm.length_eq];exact len,λx hx=>?_,λx hx=>nl x (pm.mem_iff.mp hx)⟩;have z:=ends x (p2.mem_iff.mp hx);exact⟨(p1.map _).mem_iff.mpr z.1,(p1.map _).mem_iff.mpr z.2⟩
theorem vh {D:Sd}(h:StW W L R km fr)(hl:(b9 W).length<=52)(w:WebAt K H D.a D.p D.q D.kvs D.W)(hp:H D.p=some (.dK (i6 D.W.pts)))(hq:H D.q=some (.dK D.kvs))(ne:D.p≠D.q)(pm:WPm D.W (M4 W L R km (i6 fr))):SdIs K H D:=
 WebIs.perm w hp hq ne pm.p pm.t h.ndD (by have:=zH (W:=W) (L:=L) (R:=R) (km:=km) (kf:=i6 fr);have:=h.lR;lia) h.eD λn hn=>by
  have:=eu (QQ.mp (h.nmD n hn)).1;lia
def zN (ms:xz):(i6 ms).map (·.2)=(ms.map (·.2)).map V.str:=by unfold i6;rw[LY,LY];rfl
def FO (H:Hp)(fv:V)(W L R:C3)(fo:Option xz):Prop:=
 (fo=none/\fv= .non)\/∃d fr,fo=some fr/\fv= .ref d/\H d=some (.dK (i6 fr))/\FrOk W L R fr
def FO.same {fv:V}{fo:Option xz}(h:FO H fv W L R fo)(s:Same H H'):FO H' fv W L R fo:=h.imp id fun⟨d,fr,h1,h2,h3,h4⟩=>⟨d,fr,h1,h2,s _ _ h3,h4⟩
def dJ (K:Qd):Sp:=λvs H Q _=>∃(S L R:Sd) (r bl:Addr) (fv:V) (bs:List Sd) (fo:Option xz),vs=[.ref S.a,.ref r,fv]/\SdIs K H S/\RuleIs K H r bl L R bs/\FO H fv S.W L.W R.W fo/\∀H',Same H H'->Q (.bl fo.isSome) H'
abbrev fe:=λP w K mg base=>U8 P w K mg base J0 4 "names_serve" ["web","rule","fresh"] [] (dJ K)
theorem kW {f fd}(T:Txt K mg)(Y2:fI P w K mg base)(iR:nE P w K mg base)(F:Fun K "names_serve" "names_serve" aZ f fd):E4 P w K mg base J0 4 f fd ["web","rule","fresh"] (dJ K):=by
 walk_at "#sc_names_serve"
 .obtain⟨S,L,R,r,bl,fv,bs,fo,rfl,_⟩:=h;rfl
 .obtain⟨S,L,R,r,bl,fv,bs,fo,rfl,hS,hR,YW,k⟩:=h;walk_at "@sc_names_serve 536'0Y2 418oyTPs@?>923=~j~1~ijSk42k437O8oPs`_^3xname;2;p03f0mname,fresh;G6'0iR 3~h01007O8ojSk3:'2Hs %M'0T.b_set ~w3:~bM~5~43|+~a~9~802k437O7'1Jt s'2JM %M'0T.b_any '0Boot.«any» 3xname;0;'1xZ 02f0mname,web;G'2KN ~3K0021'1EN ~3K0021"
  exists⟨r,bl,L,R,bs,rfl,hR,λl1 H1 s1 s2 n1 m1 or f1=>?_⟩;rcases YW with⟨rfl,rfl⟩|⟨f,fr,rfl,rfl,hF,ok⟩
  .exists dI (dz (t:="NoneType") rfl (by simp) ?_);symm;rw[if_pos (by decide)];symm;exact k _ m1
  have F':=ok.len;have pg:((s1++s2).filter λn=>!decide (n∈b9 L.W)).Perm (fr.map (·.1)):=(or.perm.filter _).trans ok.ks.symm;generalize (s1++s2).filter (λn=>!decide (n∈b9 L.W))=gs at f1 pg;have hgl:=pg.length_eq;rw[KW] at hgl;have F1:=m1 _ _ hF;exists dI (dz (t:="dict") (.inr (.inr ⟨rfl,_,.inl F1⟩)) (by simp) ?_);symm;rw[if_neg (by decide)];exists F0 (bG (.inl F1) ?_);exists F0 (p0 (SqL.of f1) ?_);rw[k9,KW,hgl];symm;rw[if_neg (by simp)];exists C6 (SqL.of f1) ?_;refine B6 (n:=fr.length) (λi out H'=>Same H1 H'/\out=List.replicate i (V.bl true)) ⟨Same.refl _,rfl⟩ (λi out H' hi hp=>⟨_,.str (gs[i]'(by lia)),SqL.of (hp.1 _ _ f1),by rw[Lc,KY (show i<gs.length by lia)];rfl⟩) ?_ ?_
  .rintro B9 b_ N i v out H2' H2 hi ⟨s2',rfl⟩ y;refine b_ λf_=>?_;obtain⟨rfl,hx⟩:=Itl.get y (SqL.of (s2' _ _ f1));rw[Lc,KY (show i<gs.length by lia)] at hx;cases hx;obtain⟨x,hm,ex⟩:=KZ.mp (pg.mem_iff.mp (LH (show i<gs.length by lia)));rw[←ex];exists⟨rfl,?_⟩;exists⟨f,rfl,.inl ⟨_,.inl (s2' _ _ F1)⟩,?_⟩;exists⟨_,J2 (k:=Sum.inr x.1) (show Rd H2 f _ from .inl (s2' _ _ F1)),?_⟩;rw[N0 (k:=x.2) (ok.nd1 hR.r.nd) hm];exists⟨_,rfl,.inl ⟨x.2,rfl,Az (ok.nm x hm),λH3 m3=>?_⟩⟩;rw[ok.nm x hm];refine⟨d8 (by rw[MI];lia),f_ _ _ ⟨s2'.trans m3,?_⟩⟩;rw[QV]
  .rintro out H2 ⟨s2',rfl⟩;refine⟨⟨_,SqL.of (s2' _ _ f1),by rw[KW];lia⟩,λD hD=>⟨d8 (by rw[MI];lia),?_⟩⟩;obtain⟨H3,e3,f3,m3,_⟩:=u7 (H:=H2) (o:= .lst (List.replicate fr.length (V.bl true))) hD;symm;change xy K _ (u9 H2 D _) _;rw[e3];refine nz (bs:=List.replicate fr.length true) (SqL.of (by rw[f3,Rx])) ?_;rw[jX];have Rh:=s2'.trans m3;have F3:=Rh _ _ F1;exists⟨.inr (.inr (.inl ⟨rfl,.inl ⟨_,F3⟩⟩)),?_⟩;exists⟨f,_,rfl,rfl,.inl F3,λv4 n4=>?_⟩;obtain⟨H4,e4,f4,m4,_⟩:=u7 (o:= .ext (mF v4 f)) n4;rw[e4];exists aS f4 (.inl (m4 _ _ F3)) (λl5 H5 n5 m5 f5=>?_);rw[zN] at f5;exists⟨l5,_,rfl,SqL.of f5,by rw[KW];lia,λl6 n6=>?_⟩;obtain⟨H6,e6,f6,m6,_⟩:=u7 (o:= .ext (dU l6 (jb (fr.map (·.2))).length)) n6;rw[e6];have UJ:=Rh.trans (m4.trans (m5.trans m6));have VD:(jb (fr.map (·.2))).length=fr.length:=by
    have z:=(qW (fr.map (·.2))).mpr ok.nd;rw[KW] at z;exact z
   exists oD f6 (by lia) ?_;rw[VD];exists F0 (p0 (SqL.of (UJ _ _ f1)) ?_);rw[KW,hgl];symm;rw[if_neg (by simp)];have F6:=UJ _ _ F1;have S6:=hS.same (m1.trans UJ);exists⟨f,_,rfl,.inl ⟨F6,λndf o=>?_⟩⟩;refine B6 (n:=(i6 fr).length) (λi out H'=>Same (C7 f o (i6 fr) H6) H'/\out=List.replicate i (V.bl false)) ⟨Same.refl _,rfl⟩ (λi out H' hi hp=>⟨hp.1 _ _ b5,hi⟩) ?_ ?_
   .rintro B9 b_ N i v out H7' H7 hi ⟨s7,rfl⟩ ⟨rfl,kv,h_,rfl⟩;refine b_ λf_=>?_;have le7:=(N4 (o:=o) F6).trans s7.le;have S7:=S6.at_.mono le7;obtain⟨x,hx,rfl⟩:=Z3 h_;have i_:=ok.no x (Ln hx);rw[k9] at hi;exists⟨rfl,?_⟩;exists A0 S7.tup (j7 (j:=0) rfl) ?_;refine az (J2 (k:=Sum.inr x.2) S7.pts) ?_;rw[N6,LM (λz=>i_ (Lb _ z))];exists A0 S7.tup (j7 (j:=1) rfl) ?_;refine az (J2 (k:=Sum.inr x.2) S7.ties) ?_;rw[Y0 S7.ts,LM (λz=>i_ (Lf _ z))];refine⟨d8 (by rw[MI];lia),f_ _ _ ⟨s7,?_⟩⟩;rw[QV]
   .rintro out H7 ⟨s7,rfl⟩;refine⟨⟨s7 _ _ b5,La _⟩,λD8 n8=>⟨d8 (by rw[MI,k9];lia),?_⟩⟩;have s8:=P8 F6 s7 n8 (u:= .lst (List.replicate (i6 fr).length (V.bl false)));have f8:=ae s7 n8 (u:= .lst (List.replicate (i6 fr).length (V.bl false)));generalize thaw f (u9 H7 D8 (.lst (List.replicate (i6 fr).length (V.bl false))))=H8 at s8 f8⊢;exists⟨D8,List.replicate (i6 fr).length false,rfl,SqL.of (by rw[f8,Rx]),?_⟩;rw[show(List.replicate (i6 fr).length false).any id=false by rw[RH];intro x hx;rw[List.eq_of_mem_replicate hx];simp];symm;exact k _ (m1.trans (UJ.trans s8))
def MO (H:Hp)(mv:V)(L W:C3)(mo:Option xz):Prop:=
 (mo=none/\mv= .non)\/∃d fx,mo=some fx/\mv= .ref d/\H d=some (.dK (i6 fx))/\bK L W (i6 fx)/\(fx.map (·.1)).Nodup/\(fx.map (·.1)).Perm (b9 L)
def AK (W:C3)(gs:xL):Prop:=∀x∈W.ts,x.1∉gs->x.2.2.1∉gs/\x.2.2.2∉gs
def Gb (bs:List Sd)(W:C3)(fx:xz):Prop:=∀b∈bs,N9 b.W W fx=[]
open Classical in
noncomputable def mY (W L R:C3)(bs:List Sd)(mo:Option xz)(ok:Bool):Nat:=match mo with
 |none=>1
 |some fx=>if AK W (X9 L R (i6 fx)) then if Gb bs W fx then if ok=true then 0 else 4 else 3 else 2
section
variable {W L R:C3} {bs:List Sd} {fx:xz} {ok:Bool}
def Cy (h:¬AK W (X9 L R (i6 fx))):mY W L R bs (some fx) ok=2:=if_neg h
def out3 (h:AK W (X9 L R (i6 fx)))(b:¬Gb bs W fx):mY W L R bs (some fx) ok=3:=(if_pos h).trans (if_neg b)
def Bz (h:AK W (X9 L R (i6 fx)))(b:Gb bs W fx):mY W L R bs (some fx) ok=if ok=true then 0 else 4:=(if_pos h).trans (if_pos b)
end
def zK:Nat->Str
 |1=>"NoMatch"
 |2=>"Loose"
 |3=>"Barred"
 |_=>"NoNames"
structure HF (mv:V) (bs:List Sd) (L W:C3):Prop where
 len:bs.length<=10
 b:∀b∈bs,mv≠ .ref b.p/\mv≠ .ref b.q/\∀fx:xz,(fx.map (·.1)).Perm (b9 L)->EU b.W W fx
structure StJ (K:Qd) (H:Hp) (st r bl:Addr) (L R:Sd) (mv fv:V) (bs:List Sd) (W:C3):Prop where
 tup:SqT K H st [.ref r,mv,fv]
 r:RuleIs K H r bl L R bs
 b:H bl=some (.lst (bs.map λs=>V.ref s.a))
 l8:(b9 R.W).length<=8
 n:HF mv bs L.W W
def StJ.same {L R:Sd}{mv fv:V}{bs:List Sd}(h:StJ K H st r bl L R mv fv bs W)(s:Same H H'):StJ K H' st r bl L R mv fv bs W:=⟨s.tup h.tup,h.r.same s,s _ _ h.b,h.l8,h.n⟩
variable {L:C3}
def yy (h:bK L W km)(hn:n∈b9 L):i8 km n∈b9 W:=by
 rcases Ld.mp hn with z|z
 .obtain⟨x,hx,rfl⟩:=KZ.mp z;exact Lb _ (KZ.mpr ⟨_,h.pts x hx,rfl⟩)
 .obtain⟨x,hx,rfl⟩:=KZ.mp z;exact Lf _ (KZ.mpr ⟨_,h.ts x hx,rfl⟩)
def Ie {R:C3}(h:bK L W km)(fo:FrOk W L R fr)(ndR:(b9 R).Nodup):((b9 R).map (bh L km (i6 fr))).Nodup:=iQ ndR λa ha b hb e=>by
 by_cases hA:a∈b9 L<;>by_cases hB:b∈b9 L
 .rw[bX _ _ hA,bX _ _ hB] at e;exact zJ h.nd hA hB e
 .rw[bX _ _ hA,cn _ _ hB] at e;exact absurd (e▸yy h hA) (fo.no _ (fo.txt ndR (fo.mem.mpr ⟨hb,hB⟩)).2)
 .rw[cn _ _ hA,bX _ _ hB] at e;exact absurd (e▸yy h hB) (fo.no _ (fo.txt ndR (fo.mem.mpr ⟨ha,hA⟩)).2)
 .rw[cn _ _ hA,cn _ _ hB] at e;have z1:=(fo.txt ndR (fo.mem.mpr ⟨ha,hA⟩)).2;rw[e] at z1;exact aW fo.nd z1 (fo.txt ndR (fo.mem.mpr ⟨hb,hB⟩)).2
def kx (K:Qd):Sp:=λvs H Q E=>∃(S L R:Sd) (st r bl:Addr) (mv fv:V) (bs:List Sd) (mo:Option xz),vs=[.ref S.a,.ref st]/\SdIs K H S/\StJ K H st r bl L R mv fv bs S.W/\MO H mv L.W S.W mo/\S.W.pts.length+S.W.ts.length<=52/\(∀fx,mo=some fx->AK S.W (X9 L.W R.W (i6 fx))->Gb bs S.W fx->NewP K H Q (bC (X9 L.W R.W (i6 fx)) S.W))/\(mY S.W L.W R.W bs mo true≠0->∀H' e,Same H H'->H' e=none->E (.ref (cA K (zK (mY S.W L.W R.W bs mo true)))) (some e) H')
def jU (K:Qd):Sp:=λvs H Q E=>∃(S L R:Sd) (st r bl:Addr) (mv fv:V) (bs:List Sd) (mo fo:Option xz),vs=[.ref S.a,.ref st]/\SdIs K H S/\StJ K H st r bl L R mv fv bs S.W/\MO H mv L.W S.W mo/\FO H fv S.W L.W R.W fo/\S.W.pts.length+S.W.ts.length<=52/\(∀fx fr,mo=some fx->fo=some fr->AK S.W (X9 L.W R.W (i6 fx))->Gb bs S.W fx->NewP K H Q (M4 S.W L.W R.W (i6 fx) (i6 fr)))/\(mY S.W L.W R.W bs mo fo.isSome≠0->∀H' e,Same H H'->H' e=none->E (.ref (cA K (zK (mY S.W L.W R.W bs mo fo.isSome)))) (some e) H')
abbrev nO:=λP w K mg base=>U8 P w K mg base (qy P w) 10 "rest_of" ["web","step"] [] (kx K)
theorem tW {f fd}(T:Txt K mg)(fQ:kU P w K mg base)(iI:nS P w K mg base)(dQ:jB P w K mg base)(lE:rY P w K mg base)(F:Fun K "rest_of" "rest_of" iS f fd):E4 P w K mg base (qy P w) 10 f fd ["web","step"] (kx K):=by
 refine F.okE sc_rest_of (λvs H Q E h=>?_) (λd_ A outer s H vs Q E hr h=>?_)
 .obtain⟨S,L,R,st,r,bl,mv,fv,bs,mo,rfl,_⟩:=h;rfl
 .obtain⟨S,L,R,st,r,bl,mv,fv,bs,mo,rfl,hS,hT,Tq,hsz,k,kE⟩:=h;walk_at "@sc_rest_of 52218oP6'0fQ q2290321d~g'0T.r_NoMatch M3<53~7'0iI '0AF 9036'0dQ 418oj'0rL 6'0lE 9092321]d~g'0T.r_Barred M3<703"
  exists A0 hT.tup (j7 (j:=0) rfl) ?_;exists A0 hT.r.tup (j7 (j:=0) rfl) ?_;exists A0 hT.tup (j7 (j:=1) rfl) ?_;symm;rcases Tq with⟨rfl,rfl⟩|⟨d,fx,rfl,rfl,hd,fit,nk,pk⟩
  .refine⟨L.a,L.p,L.q,S.a,S.p,S.q,L.kvs,S.kvs,L.W,S.W,.non,false,rfl,hT.r.l,hS,.inl ⟨"NoneType",rfl,by decide,rfl⟩,λH1 m1=>?_⟩;symm;exact⟨d8 (by simp),λe he=>kE Nat.one_ne_zero H1 e m1 he⟩
  have Yu:=pk.length_eq;have hL:=hT.r.l.len;rw[KW] at Yu;refine⟨L.a,L.p,L.q,S.a,S.p,S.q,L.kvs,S.kvs,L.W,S.W,.ref d,ux L.W S.W (i6 fx),rfl,hT.r.l,hS,.inr ⟨d,_,rfl,hd,aq nk,by rw[k9];lia,λkv hk=>by obtain⟨x,_,rfl⟩:=KZ.mp hk;exact⟨"str",rfl⟩,rfl⟩,λH1 m1=>?_⟩;rw[vO fit];have T1:=hT.same m1;have S1:=hS.same m1;have k:=k fx rfl;exists⟨st,r,d,bl,fv,L,R,bs,_,rfl,T1.tup,T1.r,.inl (m1 _ _ hd),fit.txt,λl2 H2 s1 s2 n2 m2 o2 f2=>?_⟩;have T2:=T1.same m2;have S2:=S1.same m2;symm;have UK:=DB (R:=R.W) (km:=i6 fx) o2;generalize ((s1++s2).filter λn=>!decide (n∈b9 R.W)).map (i8 (i6 fx))=gs at f2 UK;refine⟨S.a,l2,S.p,S.q,S.kvs,S.W,gs,rfl,S2.at_,S2.hp,S2.hq,SqL.of f2,F2 hS.nd,O4 hS.nd,by lia,by lia,λx hx=>hS.nl _ (Lf _ (KZ.mpr ⟨x,hx,rfl⟩)),?_⟩;by_cases hl:qp gs S.W=true;case pos=>
   rw[if_pos hl]
   have UA:¬AK S.W (X9 L.W R.W (i6 fx)):=λlo=>by
    obtain⟨x,hx,hz⟩:=MU.mp hl;have l_:=Lo.mp (show x∈S.W.ts.filter λx=>!decide (x.1∈gs) from hx);have hn:x.1∉X9 L.W R.W (i6 fx):=λq=>by
     have q2:=l_.2;rw[LA ((UK _).mpr q)] at q2;cases q2
    have he:=lo x l_.1 hn;rw[Qr,LK,LK,UK,UK] at hz;exact hz.elim he.1 he.2
   rw[Cy UA] at kE
   exact λH3 e m3 he=>kE (by decide) H3 e (m1.trans (m2.trans m3)) he
  have lo:AK S.W (X9 L.W R.W (i6 fx)):=λx hx hn=>by
   have hf:x∈S.W.ts.filter λx=>!decide (x.1∈gs):=Lo.mpr ⟨hx,by rw[LM λq=>hn ((UK _).mp q)];rfl⟩;have no:¬(decide (x.2.2.1∈gs)||decide (x.2.2.2∈gs))=true:=λq=>hl (MU.mpr ⟨x,hf,q⟩);rw[Qr,LK,LK,UK,UK] at no;exact⟨λq=>no (.inl q),λq=>no (.inr q)⟩
  rw[if_neg hl,uq S.W UK];intro a3 p3 q3 k3 W3 H3 m3 w3 hp3 hq3 ne3 np3 nq3 e31 e32;have T3:=T2.same m3;have S3:=S2.same m3;exists A0 T3.tup (j7 (j:=1) rfl) ?_;exists⟨S,L,R,r,bl,d,bs,fx,rfl,S3,T3.r,hT.n.len,(m1.trans (m2.trans m3)) _ _ hd,λb hb=>⟨λz=>(hT.n.b b hb).1 (by rw[z]),λz=>(hT.n.b b hb).2.1 (by rw[z]),(hT.n.b b hb).2.2 _ pk⟩,λv H4 m4 brd=>?_⟩;have m04:=m1.trans (m2.trans (m3.trans m4));rcases brd with⟨no,rfl⟩|⟨i,b,row,rr,t,d',hb,_,hr,rfl,_⟩
  rotate_left
  .symm;rw[if_pos (by simp)];symm;rw[out3 lo λz=>by rw[z b (Ln hb)] at hr;cases hr] at kE;exact⟨d8 (by simp),λe he=>kE (by decide) H4 e m04 he⟩
  symm;rw[if_neg (by simp)];symm;exact k lo no a3 p3 q3 k3 W3 H4 m04 (w3.mono m4.le) (m4 _ _ hp3) (m4 _ _ hq3) ne3 ((m1.trans m2).free np3) ((m1.trans m2).free nq3) e31 e32
abbrev yI:=λP w K mg base=>U8 P w K mg base (qy P w) 11 "done" ["web","step"] [] (jU K)
theorem Cg {f fd}(T:Txt K mg)(iL:nO P w K mg base)(br:fe P w K mg base)(kP:sD P w K mg base)(iD:ni P w K mg base)(lM:rR P w K mg base)(F:Fun K "done" "done" uz f fd):E4 P w K mg base (qy P w) 11 f fd ["web","step"] (jU K):=by
 refine F.okE sc_done (λvs H Q E h=>?_) (λd_ A outer s H vs Q E hr h=>?_)
 .obtain⟨S,L,R,st,r,bl,mv,fv,bs,mo,fo,rfl,_⟩:=h;rfl
 .obtain⟨S,L,R,st,r,bl,mv,fv,bs,mo,fo,rfl,hS,hT,Tq,YW,hsz,k,kE⟩:=h;have Wv:=hT.l8;walk_at "@sc_done 522153~7'0iL '0AF l018oP6'0br 9092321d~g'0T.r_NoNames M3<76'0kP 9336'0iD g226'0lM 41"
  exists A0 hT.tup (j7 (j:=0) rfl) ?_;symm;have up:mY S.W L.W R.W bs mo true≠0->mY S.W L.W R.W bs mo fo.isSome=mY S.W L.W R.W bs mo true:=λz=>by
   cases mo with
   |none=>rfl
   |some fx=>
    by_cases lo:AK S.W (X9 L.W R.W (i6 fx))
    .by_cases no:Gb bs S.W fx
     .exact absurd (Bz lo no) z
     .rw[out3 lo no,out3 lo no]
    .rw[Cy lo,Cy lo]
  refine⟨S,L,R,st,r,bl,mv,fv,bs,mo,rfl,hS,hT,Tq,hsz,λfx e lo no=>?_,λz H' e s' he=>by rw[←up z];exact kE (by rw[up z];exact z) H' e s' he⟩;subst e;rcases Tq with⟨z,_⟩|⟨m,fx',z,rfl,hm,fit,nk,pk⟩
  .cases z
  cases z;rw[Bz lo no] at kE;intro a3 p3 q3 k3 W3 H3 m3 w3 hp3 hq3 ne3 np3 nq3 e31 e32;have T3:=hT.same m3;have S3:=hS.same m3;exists A0 T3.tup (j7 (j:=2) rfl) ?_;exists⟨S,L,R,r,bl,fv,bs,fo,rfl,S3,T3.r,YW.same m3,λH4 m4=>?_⟩;rcases YW with⟨rfl,rfl⟩|⟨f,fr,rfl,rfl,hf,fo⟩
  .symm;exact⟨d8 (by simp),λe he=>kE (by decide) H4 e (m3.trans m4) he⟩
  have nd:=Ie fit fo hT.r.r.nd;have k:=k fx fr rfl rfl lo no;have T3':StI K H3 st r m f bl L R (i6 fx) (i6 fr) bs:=⟨T3.tup,T3.r,m3 _ _ hm,m3 _ _ hf,T3.b⟩
  have T4:=T3'.same m4;symm;rw[if_neg (by simp)];exists A0 T4.r.tup (j7 (j:=1) rfl) ?_;exists⟨st,r,m,f,bl,L,R,i6 fx,i6 fr,bs,rfl,T4,fit.txt,λn h1 h2=>(fo.txt hT.r.r.nd (fo.mem.mpr ⟨h1,h2⟩)).1,λd5 H5 t1 t2 n5 m5 o5 f5=>?_⟩;have T5:=T4.same m5;have nds:=o5.perm.nodup_iff.mpr hT.r.r.nd;have gb:∀n∈b9 R.W,TxtAt (i6 ((t1++t2).map λn=>(n,bh L.W (i6 fx) (i6 fr) n))) n/\i8 (i6 ((t1++t2).map λn=>(n,bh L.W (i6 fx) (i6 fr) n))) n=bh L.W (i6 fx) (i6 fr) n:=λn hn=>kI nds (o5.mem.mpr hn);generalize i6 ((t1++t2).map λn=>(n,bh L.W (i6 fx) (i6 fr) n))=nm at f5 gb;have ndb:((b9 R.W).map (i8 nm)).Nodup:=by
   rw[MF λn hn=>(gb n hn).2];exact nd
  exists⟨R.a,d5,R.p,R.q,R.kvs,nm,R.W,i8 nm,rfl,T5.r.r.at_,T5.r.r.hp,T5.r.r.hq,.inl f5,rfl,λn hn=>(gb n hn).1,ndb,by lia,T5.r.r.ends,?_⟩;rw[Eu (λn hn=>(gb n hn).2) T5.r.r.ends];intro a6 p6 q6 k6 W6 H6 m6 w6 hp6 hq6 ne6 np6 nq6 e61 e62;have SI:=m4.trans (m5.trans m6);symm;have nr:=vp nd;have YO:(W3.pts.map (·.1)).Nodup:=(e31.map _).nodup_iff.mpr (T9 (F2 hS.nd));have YQ:(W3.ts.map (·.1)).Nodup:=(e32.map _).nodup_iff.mpr (T9 (O4 hS.nd));have lf1:=Lm (λx:Str×Str=>!decide (x.1∈X9 L.W R.W (i6 fx))) S.W.pts;have lf2:=Lm (λx:Str×N3=>!decide (x.1∈X9 L.W R.W (i6 fx))) S.W.ts;have le1:=e31.length_eq;have Xf:=e32.length_eq;have SN:=e61.length_eq;have Sv:=e62.length_eq;rw[show(Q2 (bh L.W (i6 fx) (i6 fr)) R.W).pts.length=R.W.pts.length from KW _] at SN;rw[show(Q2 (bh L.W (i6 fx) (i6 fr)) R.W).ts.length=R.W.ts.length from KW _] at Sv;rw[show(bC (X9 L.W R.W (i6 fx)) S.W).pts.length=(S.W.pts.filter λx=>!decide (x.1∈X9 L.W R.W (i6 fx))).length from rfl] at le1;rw[show(bC (X9 L.W R.W (i6 fx)) S.W).ts.length=(S.W.ts.filter λx=>!decide (x.1∈X9 L.W R.W (i6 fx))).length from rfl] at Xf;rw[C0] at Wv;refine⟨a3,p3,q3,a6,p6,q6,k3,k6,W3,W6,rfl,w3.mono SI.le,w6,YO,YQ,(e61.map _).nodup_iff.mpr nr.1,(e62.map _).nodup_iff.mpr nr.2,by lia,by lia,NewP.permM (W:=M4 S.W L.W R.W (i6 fx) (i6 fr)) (m3.trans SI) (eo e31 e61) (eo e32 e62) k⟩
structure Stp where
 st:Addr
 r:Addr
 m:Addr
 f:Addr
 bl:Addr
 L:Sd
 R:Sd
 fx:xz
 fr:xz
 bs:List Sd
abbrev gi (K:Qd)(H:Hp)(x:Stp):Prop:=StI K H x.st x.r x.m x.f x.bl x.L x.R (i6 x.fx) (i6 x.fr) x.bs
abbrev Stp.done (x:Stp)(W:C3):C3:=M4 W x.L.W x.R.W (i6 x.fx) (i6 x.fr)
abbrev sts (ys:List Stp):ap:=ys.map λy=>V.ref y.st
abbrev qX (ds:List Sd):ap:=ds.map λd=>V.ref d.a
structure Goes (W:C3) (x:Stp) (W':C3):Prop where
 w:StW W x.L.W x.R.W (i6 x.fx) x.fr
 k:(x.fx.map (·.1)).Perm (b9 x.L.W)
 b:∀b∈x.bs,pK x.L.W b.W/\x.m≠b.p/\x.m≠b.q/\MetNo W b.W x.fx
 b3:x.bs.length<=3
 ln:(b9 W).length<=52
 to:WPm W' (x.done W)
structure GoS (K:Qd) (H:Hp) (W:C3) (x:Stp) (W':C3):Prop extends Goes W x W' where
 a:gi K H x
def SdIs.updL {s:Sd}(h:H d=some (.lst ys))(z:SdIs K H s):SdIs K (u9 H d u) s:=by
 have n1:s.p≠d:=λe=>by have y:=z.hp;rw[e,h] at y;cases y
 have n2:s.q≠d:=λe=>by have y:=z.hq;rw[e,h] at y;cases y
 have e1:u9 H d u s.p=some (.dK (i6 s.W.pts)):=by rw[b7 n1];exact z.hp
 have e2:u9 H d u s.q=some (.dK s.kvs):=by rw[b7 n2];exact z.hq
 exact⟨⟨V2 h z.at_.tup,.inl e1,.inl e2,oh h z.at_.ts⟩,e1,e2,z.ne,z.nd,z.len,z.ends,z.nl⟩
variable {x:Stp}
def vf (h:H d=some (.lst ys))(n:x.bl≠d)(z:gi K H x):gi K (u9 H d u) x:=by
 have n1:x.m≠d:=λe=>by have y:=z.m;rw[e,h] at y;cases y
 have n2:x.f≠d:=λe=>by have y:=z.f;rw[e,h] at y;cases y
 have e3:u9 H d u x.bl=some (.lst (x.bs.map λs=>V.ref s.a)):=by rw[b7 n];exact z.b
 exact⟨V2 h z.tup,⟨V2 h z.r.tup,z.r.l.updL h,z.r.r.updL h,SqL.of e3,λb hb=>(z.r.bars b hb).updL h⟩,by rw[b7 n1];exact z.m,by rw[b7 n2];exact z.f,e3⟩
def Gd (K:Qd)(H:Hp)(a:Addr)(W W':C3):Prop:=∀(S:Sd) (H1:Hp) (Q:VK) (E:XK),Same H H1->SdIs K H1 S->WPm S.W W->(∀(D:Sd) (H':Hp),Same H1 H'->SdIs K H' D->H1 D.p=none->H1 D.q=none->WPm D.W W'->Q (.ref D.a) H')->jU K [.ref S.a,.ref a] H1 Q E
def Bad (K:Qd)(H:Hp)(a:Addr)(W:C3)(n:Nat):Prop:=∀(S:Sd) (H1:Hp) (Q:VK) (E:XK),Same H H1->SdIs K H1 S->WPm S.W W->(∀(H':Hp) (e:Addr),Same H1 H'->H' e=none->E (.ref (cA K (zK n))) (some e) H')->jU K [.ref S.a,.ref a] H1 Q E
def MetNo.pm (h:MetNo W B fx)(w:WPm W' W):MetNo W' B fx:=by
 rcases h with⟨x,h1,h2,h3⟩|⟨x,h1,h2,h3⟩
 .exact .inl ⟨x,h1,h2,λy hy=>h3 y (w.p.mem_iff.mp hy)⟩
 .exact .inr ⟨x,h1,h2,λy hy=>h3 y (w.t.mem_iff.mp hy)⟩
theorem yY (h:pK L B)(hk:∀n,n∈fx.map (·.1)↔n∈b9 L)(nk:(fx.map (·.1)).Nodup)(hl:(b9 L).length<=8)(hw:W.pts.length+W.ts.length<=52):EU B W fx:=by
 have f0:∀l:xL,(∀n∈l,n∈b9 L)->l.filter (dZ fx)=[]:=λl hl=>OD.mpr λn hn=>by
  unfold dZ;rw[LA ((hk n).mpr (hl n hn))];decide
 have pL:∀n∈L.pts.map (·.1),n∈b9 L:=λn hn=>Lb _ hn;have tL:∀n∈L.ts.map (·.1),n∈b9 L:=λn hn=>Lf _ hn;have key:(b9 B).length<=9/\((b9 B).filter (dZ fx)).length<=1:=by
  rcases h with rfl|⟨w,kd,_,rfl⟩|⟨w,kd,o1,o2,_,_,_,rfl⟩
  .exact⟨by lia,by rw[f0 _ λn hn=>hn];exact My _⟩
  .have e:b9 ⟨L.pts++[(w,kd)],L.ts⟩=(L.pts.map (·.1)++[w])++L.ts.map (·.1):=by unfold b9;rw[Lh];rfl
   rw[e];rw[C0] at hl;refine⟨by simp;lia,?_⟩;rw[LO,LO,f0 _ pL,f0 _ tL];have:=Lm (dZ fx) [w];simpa using this
  .have e:b9 ⟨L.pts,L.ts++[(w,(kd,o1,o2))]⟩=L.pts.map (·.1)++(L.ts.map (·.1)++[w]):=by unfold b9;rw[Lh];rfl
   rw[e];rw[C0] at hl;refine⟨by simp;lia,?_⟩;rw[LO,LO,f0 _ pL,f0 _ tL];have:=Lm (dZ fx) [w];simpa using this
 refine⟨?_,nk,(iW h hk).1⟩;have k1:((b9 B).filter (dZ fx)).length=0\/((b9 B).filter (dZ fx)).length=1:=by lia
 have k2:max W.pts.length W.ts.length<=52:=by lia
 rcases k1 with e|e
 .rw[e,Nat.pow_zero];lia
 .rw[e,Nat.pow_one];exact LJ (Nat.mul_le_mul (show(b9 B).length+1<=10 by lia) (show max W.pts.length W.ts.length+1<=53 by lia)) (by decide)
def GoS.same (g:GoS K H W x W')(s:Same H H'):GoS K H' W x W':=⟨g.toGoes,g.a.same s⟩
def GoS.nk (g:GoS K H W x W'):(x.fx.map (·.1)).Nodup:=g.k.nodup_iff.mpr g.w.ndL
variable {S:Sd}
def GoS.cg (g:GoS K H W x W')(w:WPm S.W W):StW S.W x.L.W x.R.W (i6 x.fx) x.fr/\WPm (x.done S.W) W'/\S.W.pts.length+S.W.ts.length<=52/\Gb x.bs S.W x.fx:=by
 have c:=g.w.congr w (WPm.rf _) (WPm.rf _) (λn hn=>⟨g.w.ok.fit.txt n hn,rfl⟩) rfl;refine⟨c.1,c.2.tr g.to.sy,by rw[←C0,w.nm.length_eq];exact g.ln,λb hb=>?_⟩;have z:=iW (g.b b hb).1 λn=>g.k.mem_iff;exact yh ((g.b b hb).2.2.2.pm w) g.nk z.1 z.2
def GoS.bm (g:GoS K H W x W')(w:WPm S.W W)(mv:V)(hm:∀b∈x.bs,mv≠ .ref b.p/\mv≠ .ref b.q):HF mv x.bs x.L.W S.W:=
 ⟨LJ g.b3 (by decide),λb hb=>⟨(hm b hb).1,(hm b hb).2,λfx pk=>yY (g.b b hb).1 (λn=>pk.mem_iff) (pk.nodup_iff.mpr g.w.ndL) g.w.lL (g.cg w).2.2.1⟩⟩
def GoS.mv (g:GoS K H W x W'):∀b∈x.bs,V.ref x.m≠ .ref b.p/\V.ref x.m≠ .ref b.q:=λb hb=>⟨λz=>(g.b b hb).2.1 (V.ref.inj z),λz=>(g.b b hb).2.2.1 (V.ref.inj z)⟩
def GoS.gd (g:GoS K H W x W'):Gd K H x.st W W':=λS H1 Q E s hS w k=>by
 have g1:=g.same s;obtain⟨c1,c2,sz,no⟩:=g.cg w;have A:=g1.a;refine⟨S,x.L,x.R,x.st,x.r,x.bl,.ref x.m,.ref x.f,x.bs,some x.fx,some x.fr,rfl,hS,⟨A.tup,A.r,A.b,g.w.lR,g.bm w _ g.mv⟩,.inr ⟨x.m,x.fx,rfl,rfl,A.m,c1.ok.fit,g.nk,g.k⟩,.inr ⟨x.f,x.fr,rfl,rfl,A.f,c1.ok.fo⟩,sz,λfx fr e1 e2 _ _=>?_,λz=>absurd ((Bz c1.ok.lo no).trans (if_pos rfl)) z⟩;cases e1;cases e2;intro a3 p3 q3 k3 W3 H3 m3 w3 hp3 hq3 ne3 np3 nq3 e31 e32;have wp:WPm W3 (x.done S.W):=⟨e31,e32⟩
 exact k ⟨a3,p3,q3,k3,W3⟩ H3 m3 (vh c1 (by rw[C0];exact sz) w3 hp3 hq3 ne3 wp) np3 nq3 (wp.tr c2)
def GoS.bad1 (g:GoS K H W x W')(h:SqT K H st [.ref x.r,.non,.ref x.f]):Bad K H st W 1:=λS H1 Q E s hS w k=>by
 have g1:=g.same s;obtain⟨c1,c2,sz,no⟩:=g.cg w;have A:=g1.a;refine⟨S,x.L,x.R,st,x.r,x.bl,.non,.ref x.f,x.bs,none,some x.fr,rfl,hS,⟨s.tup h,A.r,A.b,g.w.lR,g.bm w _ λ_ _=>⟨nofun,nofun⟩⟩,.inl ⟨rfl,rfl⟩,.inr ⟨x.f,x.fr,rfl,rfl,A.f,c1.ok.fo⟩,sz,(λfx fr e1=>nomatch e1),λ_=>k⟩
def GoS.bad4 (g:GoS K H W x W')(h:SqT K H st [.ref x.r,.ref x.m,.non]):Bad K H st W 4:=λS H1 Q E s hS w k=>by
 have g1:=g.same s;obtain⟨c1,c2,sz,no⟩:=g.cg w;have A:=g1.a;refine⟨S,x.L,x.R,st,x.r,x.bl,.ref x.m,.non,x.bs,some x.fx,none,rfl,hS,⟨s.tup h,A.r,A.b,g.w.lR,g.bm w _ g.mv⟩,.inr ⟨x.m,x.fx,rfl,rfl,A.m,c1.ok.fit,g.nk,g.k⟩,.inl ⟨rfl,rfl⟩,sz,(λfx fr e1 e2=>nomatch e2),λ_=>?_⟩;rw[Bz c1.ok.lo no];exact k
theorem Bp {nm:xL}(nd:nm.Nodup)(hl:row.length=nm.length)(h:n∈nm):TxtAt (i6 (nm.zip row)) n:=by
 obtain⟨i,hi⟩:=iY h;have Yv:=bL hi;exact⟨row[i],N0 (kZ row nd) (kc hi (KY (by lia)))⟩
def nmC_mem:n∈jY W↔n∈b9 W:=(Z6 W).mem
def EW (h:(b9 W).Nodup):(jY W).Nodup:=(Z6 W).perm.nodup_iff.mpr h
def pX (Pc:C3)(ms:xz):xL:=(jY Pc).map (i8 (i6 ms))
def rJ:(pX Pc ms).length=(jY Pc).length:=KW _
def By:(jY Pc).length=(b9 Pc).length:=(Z6 Pc).perm.length_eq
def xR (nd:(b9 Pc).Nodup)(f:bK Pc W (i6 ms)):pX Pc ms∈dW (jJ (nF Pc) (oK Pc) (nF W) (oK W)) []:=by
 have z:=uS (bs:=jJ (nF Pc) (oK Pc) (nF W) (oK W)) (b:=[]) (t:=pX Pc ms) (by rw[gZ,rJ];rfl) λi x c hx hc=>by
  unfold pX at hx;rw[Lc] at hx;cases en:(jY Pc)[i]? with
  |none=>rw[en] at hx;cases hx
  |some n=>
   rw[en] at hx
   cases hx
   have YX:(nF Pc++oK Pc)[i]?=some n:=en
   rcases DY hc with⟨hi,rfl⟩|⟨hi,rfl⟩
   .rw[LS hi] at YX
    obtain⟨y,hy,rfl⟩:=KZ.mp ((Z6 Pc).p1.mem_iff.mp (Ln YX))
    exact(Z6 W).p1.mem_iff.mpr (KZ.mpr ⟨_,f.pts y hy,rfl⟩)
   .rw[Ms hi] at YX
    obtain⟨y,hy,rfl⟩:=KZ.mp ((Z6 Pc).p2.mem_iff.mp (Ln YX))
    exact(Z6 W).p2.mem_iff.mpr (KZ.mpr ⟨_,f.ts y hy,rfl⟩)
 simpa using z
open Classical in
def mem_rows:row∈N9 Pc W fx↔row∈dW (jJ (nF Pc) (oK Pc) (nF W) (oK W)) []/\bK Pc W (i6 ((jY Pc).zip row))/\qd fx (jY Pc) row:=by
 unfold N9 iu;rw[Lo,LK];exact UR
def rW (f:bK L W (i6 fx))(nk:(fx.map (·.1)).Nodup)(pk:(fx.map (·.1)).Perm (b9 L))(nd:(b9 L).Nodup)(eL:∀x∈L.ts,x.2.2.1∈L.pts.map (·.1)/\x.2.2.2∈L.pts.map (·.1)):N9 L W fx≠[]:=by
 have e:(jY L).zip (pX L fx)=(jY L).map λn=>(n,i8 (i6 fx) n):=by
  unfold pX;rw[List.zip_map_right,List.zip_eq_zipWith,List.zipWith_self,LY];rfl
 have nC:=EW nd;have g:∀n∈b9 L,i8 (i6 ((jY L).zip (pX L fx))) n=i8 (i6 fx) n:=λn hn=>by
  rw[e];exact zS nC (nmC_mem.mpr hn)
 refine λz=>?_;have q:pX L fx∈N9 L W fx:=mem_rows.mpr ⟨xR nd f,⟨?_,λn hn=>Bp nC rJ (nmC_mem.mpr hn),?_,λx hx=>?_,λx hx=>?_⟩,λx hx=>?_⟩
 .rw[z] at q;cases q
 .rw[k9,e,KW];exact By
 .rw[MF g];exact f.nd
 .rw[g _ (Lb _ (KZ.mpr ⟨x,hx,rfl⟩))];exact f.pts x hx
 .rw[g _ (Lf _ (KZ.mpr ⟨x,hx,rfl⟩)),g _ (Lb _ (eL x hx).1),g _ (Lb _ (eL x hx).2)];exact f.ts x hx
 .show i8 (i6 ((jY L).zip (pX L fx))) x.1=x.2;rw[g _ (pk.mem_iff.mp (KZ.mpr ⟨x,hx,rfl⟩))];exact Q3 nk (show(x.1,x.2)∈fx from hx)
variable {C:Sd}
theorem GoS.bad3 (g:GoS K H W x W')(h:SqT K H st [.ref r,.ref x.m,.ref x.f])(hr:SqT K H r [.ref x.L.a,.ref x.R.a,.ref bl])(hb:H bl=some (.lst ((x.bs.take 1++[C]).map λs=>V.ref s.a)))(hC:SdIs K H C)(eC:C.W=x.L.W)(nm:x.m≠C.p/\x.m≠C.q):Bad K H st W 3:=λS H1 Q E s hS w k=>by
 have g1:=g.same s;obtain⟨c1,c2,sz,no⟩:=g.cg w;have A:=g1.a;have bk:∀b∈x.bs.take 1++[C],b∈x.bs\/b=C:=λb hb=>(Ld.mp hb).imp QU Li.mp;have l4:(x.bs.take 1++[C]).length<=10:=by
  rw[Lg,Lp];show min _ _+1<=10;lia
 have B1:∀b∈x.bs.take 1++[C],pK x.L.W b.W:=λb hb=>by
  rcases bk b hb with z|rfl
  .exact(g.b b z).1
  .rw[eC];exact .inl rfl
 refine⟨S,x.L,x.R,st,r,bl,.ref x.m,.ref x.f,x.bs.take 1++[C],some x.fx,some x.fr,rfl,hS,⟨s.tup h,⟨s.tup hr,A.r.l,A.r.r,SqL.of (s _ _ hb),λb hb=>?_⟩,s _ _ hb,g.w.lR,⟨l4,λb hb=>⟨?_,?_,λfx pk=>yY (B1 b hb) (λn=>pk.mem_iff) (pk.nodup_iff.mpr g.w.ndL) g.w.lL sz⟩⟩⟩,.inr ⟨x.m,x.fx,rfl,rfl,A.m,c1.ok.fit,g.nk,g.k⟩,.inr ⟨x.f,x.fr,rfl,rfl,A.f,c1.ok.fo⟩,sz,λfx fr e1 e2 lo nb=>?_,λ_=>?_⟩
 .rcases bk b hb with z|rfl
  .exact A.r.bars b z
  .exact hC.same s
 .rcases bk b hb with z|rfl
  .exact(g.mv b z).1
  .exact λz=>nm.1 (V.ref.inj z)
 .rcases bk b hb with z|rfl
  .exact(g.mv b z).2
  .exact λz=>nm.2 (V.ref.inj z)
 .cases e1;refine absurd (nb C (Lf _ (Li.mpr rfl))) ?_;rw[eC];exact rW c1.ok.fit g.nk g.k g.w.ndL g.w.eL
 .rw[out3 c1.ok.lo λnb=>?_]
  .exact k
  refine absurd (nb C (Lf _ (Li.mpr rfl))) ?_;rw[eC];exact rW c1.ok.fit g.nk g.k g.w.ndL g.w.eL
def JD {m f:Addr}{L R:Sd}{pt:Str}{t:Str×N3}(h:SqT K H st [.ref r,.ref m,.ref f])(hr:RuleIs K H r bl L R [])(hb:H bl=some (.lst []))(hm:H m=some (.dK (i6 [("a",pt)])))(hf:H f=some (.dK []))(eL:L.W=⟨[("a",kd)],[]⟩)(eR:R.W=⟨[],[]⟩)(hp:(pt,kd)∈W.pts)(ht:t∈W.ts)(he:pt=t.2.2.1\/pt=t.2.2.2)(nd:(b9 W).Nodup)(ln:(b9 W).length<=52):Bad K H st W 2:=λS H1 Q E s hS w k=>by
 have n1:(([("a",pt)]:xz).map (·.1)).Nodup:=by simp
 have e1:i8 (i6 [("a",pt)]) "a"=pt:=Q3 n1 (by simp);have eg:X9 L.W R.W (i6 [("a",pt)])=[pt]:=by
  rw[eL,eR];show List.map (i8 (i6 [("a",pt)])) [("a":Str)]=[pt];rw[Mg,e1];rfl
 have UA:¬AK S.W (X9 L.W R.W (i6 [("a",pt)])):=λz=>by
  rw[eg] at z;have q:=z t (w.t.mem_iff.mpr ht) λq=>?_
  .rcases he with e|e
   .exact q.1 (by rw[←e];exact Li.mpr rfl)
   .exact q.2 (by rw[←e];exact Li.mpr rfl)
  .exact(Ls.mp nd).2.2 pt (KZ.mpr ⟨_,hp,rfl⟩) t.1 (KZ.mpr ⟨t,ht,rfl⟩) (Li.mp q).symm
 refine⟨S,L,R,st,r,bl,.ref m,.ref f,[],some [("a",pt)],some [],rfl,hS,⟨s.tup h,hr.same s,s _ _ hb,by rw[eR];exact My _,⟨by decide,λb hb=>nomatch hb⟩⟩,.inr ⟨m,_,rfl,rfl,s _ _ hm,?_,n1,by rw[eL];exact OH _⟩,.inr ⟨f,[],rfl,rfl,s _ _ hf,⟨by rw[eR];exact OH _,(λx hx=>nomatch hx),Mz,(λx hx=>nomatch hx),by decide⟩⟩,by rw[←C0,w.nm.length_eq];exact ln,λfx fr e1 e2 lo _=>?_,λ_=>by rw[Cy UA];exact k⟩
 .rw[eL];refine⟨rfl,λn hn=>?_,?_,λx hx=>?_,λx hx=>nomatch hx⟩
  .rw[Li.mp (show n∈[("a":Str)] from hn)];exact⟨pt,N0 n1 (by simp)⟩
  .show(List.map (i8 (i6 [("a",pt)])) [("a":Str)]).Nodup;simp
  .rw[Li.mp hx];show(i8 (i6 [("a",pt)]) "a",kd)∈S.W.pts;rw[e1];exact w.p.mem_iff.mpr hp
 .cases e1;exact absurd lo UA
theorem wQ {E:XK}(hS:SdIs K H S)(k:∀(D:Sd) (H':Hp),Same H H'->SdIs K H' D->H D.p=none->H D.q=none->WPm D.W S.W->Q (.ref D.a) H'):iC K [.ref S.a] H Q E:=by
 have hl:=hS.len;rw[C0] at hl;exact⟨S.a,S.p,S.q,S.kvs,S.W,rfl,hS.at_,F2 hS.nd,O4 hS.nd,by lia,by lia,λa p q kv W H1 m1 h1 hp hq ne np nq e1 e2=>k ⟨a,p,q,kv,W⟩ H1 m1 (WebIs.perm h1 hp hq ne e1 e2 hS.nd hS.len hS.ends hS.nl) np nq ⟨e1,e2⟩⟩
theorem gw {ds:List α}{e:α}{d:α}(h:(ds++[e])[j]?=some d):(j<ds.length/\ds[j]?=some d)\/(j=ds.length/\d=e):=by
 by_cases hj:j<ds.length
 .rw[LS hj] at h;exact .inl ⟨hj,h⟩
 .rw[Ms (by lia)] at h;have z:j -ds.length=0:=MJ λz=>by
   rw[MD (by simp;lia)] at h;cases h
  rw[z] at h;cases h;exact .inr ⟨by lia,rfl⟩
structure RwG (K:Qd) (H:Hp) (S:Sd) (lr:Addr) (as:List Addr) (Vw:Nat->C3) (k:Nat):Prop where
 s:SdIs K H S
 w:WPm S.W (Vw 0)
 r:SqL K H lr (as.map V.ref)
 l:as.length<=10
 g:∀(i:Nat) (a:Addr),i<k->as[i]?=some a->Gd K H a (Vw i) (Vw (i+1))
def Gd.same (h:Gd K H a W W')(s:Same H H'):Gd K H' a W W':=λS H1 Q E s1=>h S H1 Q E (s.trans s1)
def Bad.same {n:Nat}(h:Bad K H a W n)(s:Same H H'):Bad K H' a W n:=λS H1 Q E s1=>h S H1 Q E (s.trans s1)
def RwG.same {lr:Addr}{as:List Addr}{Vw:Nat->C3}{k:Nat}(h:RwG K H S lr as Vw k)(s:Same H H'):RwG K H' S lr as Vw k:=⟨h.s.same s,h.w,s.seq h.r,h.l,λi a hi ha=>(h.g i a hi ha).same s⟩
def Z8 (K:Qd):Sp:=λvs H Q E=>∃(S:Sd) (lr:Addr) (as:List Addr) (Vw:Nat->C3) (k:Nat),vs=[.ref S.a,.ref lr]/\RwG K H S lr as Vw k/\(as.length<=k->∀(l:Addr) (ds:List Sd) (H':Hp),H l=none->Same H H'->H' l=some (.lst (qX ds))->ds.length=as.length+1->(∀(i:Nat) (d:Sd),ds[i]?=some d->SdIs K H' d/\WPm d.W (Vw i)/\H d.p=none/\H d.q=none)->Q (.ref l) H')/\∀a,as[k]?=some a->∃n,Bad K H a (Vw k) n/\∀H' e,Same H H'->H' e=none->E (.ref (cA K (zK n))) (some e) H'
abbrev ay:=λP w K mg base=>U8 P w K mg base (qy P w) 12 "gone_through" ["web","row"] [] (Z8 K)
theorem jM {f fd}(T:Txt K mg)(Q0:dY P w K mg base)(uo:yI P w K mg base)(F:Fun K "gone_through" "gone_through" au f fd):E4 P w K mg base (qy P w) 12 f fd ["web","row"] (Z8 K):=by
 refine F.okE sc_gone_through (λvs H Q E h=>?_) (λd_ A outer s H vs Q E hr h=>?_)
 .obtain⟨S,lr,as,Vw,k,rfl,_⟩:=h;rfl
 .obtain⟨S,lr,as,Vw,k,rfl,G,hq,hb⟩:=h;have hl:=G.l;walk_at "@sc_gone_through 52(36~f408t~vp01f3adIHR#ZY023~7'0uo '0AF qb2~n43702"
  exists wQ G.s λD1 H1 m1 C1 np1 nq1 c1=>?_;exists⟨d8 (by simp),λl H2 nl m2 f2=>?_⟩;exists C6 ((m1.trans m2).seq G.r) ?_;refine M9 (n:=as.length) (λi σ H'=>(∃u:Nat->Option V,σ=[Re S.a,Re lr,Re l,u 3])/\Same H1 H'/\i<=k/\∃(ds:List Sd) (d:Sd),H' l=some (.lst (qX ds++[.ref d.a]))/\ds.length=i/\∀(j:Nat) (c:Sd),(ds++[d])[j]?=some c->SdIs K H' c/\WPm c.W (Vw j)/\H c.p=none/\H c.q=none)
   ⟨sg rfl,m2,My _,[],D1,f2,rfl,λj c hc=>by
    rcases gw hc with⟨z,_⟩|⟨rfl,rfl⟩
    .cases z
    .exact⟨C1.same m2,c1.tr G.w,np1,nq1⟩⟩ (λi σ H' hi hp=>⟨_,.ref (as[i]),(m1.trans hp.2.1).seq G.r,by rw[Lc,KY hi];rfl⟩) ?_ ?_
  .rintro B9 b_ i v σ To H3 hi ⟨⟨u,rfl⟩,s3,ik,ds,d,f3,Ql,N'⟩ y;refine b_ λ_ _=>?_;obtain⟨rfl,hx⟩:=Itl.get y ((m1.trans s3).seq G.r);rw[Lc,KY hi] at hx;cases hx;have T':=m1.trans s3;have ea:=KY hi;generalize as[i]=a at ea;obtain⟨Ux,wd3,_,_⟩:=N' i d (by rw[←Ql];simp);exists⟨.inl ⟨rfl,_,SqL.of f3⟩,?_⟩;exists i9 (SqL.of f3) (L2.atI_last _ _) ?_;symm;by_cases hk:i<k
   .refine G.g i a hk ea d H3 _ _ T' Ux wd3 λD H4 m4 hD np nq wD=>?_;have f4:=m4 _ _ f3;refine⟨l,_,_,rfl,rfl,f4,?_,?_⟩
    .rw[Lg,KW];exact Nf (show ds.length+1<=15 by lia) (by decide)
    symm;walk_at "X";refine⟨sg rfl,E5 (s3.trans m4) nl,hk,ds++[d],D,by rw[b5,show qX (ds++[d])=qX ds++[.ref d.a] from Lh],by rw[Lg,Ql];rfl,λj c hc=>?_⟩;rcases gw hc with⟨_,z⟩|⟨rfl,rfl⟩
    .obtain⟨z1,z2⟩:=N' j c z;exact⟨(z1.same m4).updL f4,z2⟩
    .rw[Lg,Ql];exact⟨hD.updL f4,wD,T'.free np,T'.free nq⟩
   .have e:i=k:=by lia
    subst e;obtain⟨n,bad,kE⟩:=hb a ea;exact bad d H3 _ _ T' Ux wd3 λH4 e s4 he=>kE H4 e (T'.trans s4) he
  .rintro σ H3 ⟨⟨u,rfl⟩,s3,ik,ds,d,f3,Ql,N'⟩;refine⟨⟨_,(m1.trans s3).seq G.r,by rw[KW];exact La _⟩,?_⟩;symm;exact hq ik l (ds++[d]) H3 (m1.free nl) (m1.trans s3) (by rw[f3,show qX (ds++[d])=qX ds++[.ref d.a] from Lh]) (by rw[Lg,Ql];rfl) N'
def nwS (c:Int)(j i:Nat):Str:=bQ c (j+i)
theorem GU (c:Int)(j:Nat)(h:j<=280):((List.range 4).map (nwS c j)).Nodup:=lj λa b ha hb e=>by
 have z:=qo (c:=c) (i:=j+a) (j:=j+b) (by lia) (by lia) e;lia
def fc (K:Qd):Sp:=λvs H Q _=>∃(S:Sd) (lk:Addr) (cell c:Int) (ks:xL) (n:Nat),vs=[.ref S.a,.int cell,.int c,.ref lk,.int n]/\SdIs K H S/\gS S.W/\(b9 S.W).length<=52/\H lk=some (.lst (ks.map V.str))/\zO ks/\n<=120/\(∀x∈b9 S.W,∃j,j<n/\x=bQ c j)/\
 ∀(x:Stp) (pr:xz) (os:xL) (H':Hp),Same H H'->gi K H' x->x.bs.length<=3->x.fx=pr.map N8->iK x.L.W x.R.W []->MP S.W os pr x.L.W.pts x.L.W.ts (b9 x.R.W)->FrOk S.W x.L.W x.R.W x.fr->StW S.W x.L.W x.R.W (i6 x.fx) x.fr->(∀y∈x.fr,∃j,j<n+8/\y.2=bQ c j)->x.fr.length<=4->H x.bl=none->(∀b∈x.bs,pK x.L.W b.W/\x.m≠b.p/\x.m≠b.q/\MetNo S.W b.W x.fx)->Q (.ref x.st) H'
abbrev ia:=λP w K mg base=>U8 P w K mg base J0 4 "_law_drawn" ["_law_web_here","_law_cell","_law_first","_law_kinds_here","_law_at"] [] (fc K)
theorem mQ {f fd}(T:Txt K mg)(bB:fm P w K mg base)(R8:bO P w K mg base)(Q9:dk P w K mg base)(dF:jA P w K mg base)(fW:kF P w K mg base)(cZ:jD P w K mg base)(F:Fun K "_law_drawn" "_law_drawn" cc f fd):E4 P w K mg base J0 4 f fd ["_law_web_here","_law_cell","_law_first","_law_kinds_here","_law_at"] (fc K):=by
 walk_at "#sc__law_drawn"
 .obtain⟨S,lk,cell,c,ks,n,rfl,_⟩:=h;rfl
 .obtain⟨S,lk,cell,c,ks,n,rfl,hS,hG,Tt,hK,⟨k0,k3,kk⟩,hn,RE,k⟩:=h;walk_at "@sc__law_drawn 556'0bB 9131566'0R8 gB25118;7_law_k;24;*31wf0m_law_k,_law_first,_law_at;wGw6'0Q9 913e0200/6'0dF 909596l37zc8ac9ac:aA8;;_law_bar;09;p6'0cZ q2895l63wf0m_law_bar,_law_web_here,_law_match;wLP6'0fW 91l02w007nqnq28q284;l9:"
  refine L7 λYC hx=>?_;nomatch⟨_,rfl,λlx G1 xs n6 m6 f6 t_ v_=>?_⟩;refine hx [Re S.a,some (.int cell),some (.int c),Re lk,some (.int n),Re lx,none,none,none,none,none,none] _ ?_;clear hx;obtain⟨x11,Vx,XA⟩:=aK t_ v_ 11 (by lia);refine L7 λUz hx=>?_;nomatch i9 (SqL.of f6) Vx ?_;nomatch⟨_,16,rfl,by lia,by lia,λlw G2 ws n7 m7 f7 hws=>?_⟩;refine hx [Re S.a,some (.int cell),some (.int c),Re lk,some (.int n),Re lx,Re lw,none,none,none,none,none] _ ?_;clear hx;have Yg:AX ws:=⟨hws.1,hws.2.1,hws.2.2⟩
  have f62:=m7 _ _ f6;refine L7 λVJ hx=>?_;nomatch X4 (by lia) (by lia) ?_;refine B6 (n:=4) (λi out H'=>Same G2 H'/\out=((List.range i).map (nwS c n)).map V.str) ⟨Same.refl _,rfl⟩ (λi out H' hi _=>by exact hi) ?_ ?_
  .rintro B9 b_ N i v out G3' G3 hi ⟨s2,rfl⟩ ⟨rfl,rfl⟩;refine b_ λf_=>?_;nomatch⟨rfl,?_⟩;nomatch⟨c,n+i,?_,by lia,λG4 m3'=>?_⟩
   .show [V.int c,V.int ((n:Int)+(0+(i:Int)))]=_;congr 3;lia
   .refine⟨d8 (by rw[KW,KW,MW];lia),f_ _ _ ⟨s2.trans m3',?_⟩⟩;rw[Nv,Lh,Lh];rfl
  .rintro out G3 ⟨s3,rfl⟩;refine⟨La _,λln nln=>⟨d8 (by rw[KW,KW,MW];lia),?_⟩⟩;obtain⟨G4,e4,XE,YI,_⟩:=u7 (H:=G3) (o:= .lst (((List.range 4).map (nwS c n)).map V.str)) nln;change ah _ _ _ (u9 G3 ln _) _;rw[e4];have Up:=GU c n (by lia);have XR:∀y∈(List.range 4).map (nwS c n),V4 y=true/\y∉b9 S.W:=λy hy=>by
    obtain⟨i',Sl,rfl⟩:=KZ.mp hy;have hi2:=Nb.mp Sl;refine⟨rO _ _,λz=>?_⟩;obtain⟨j',Xr,e'⟩:=RE _ z;have z2:=qo (c:=c) (i:=n+i') (j:=j') (by lia) (by lia) e';lia
   have nj:∀y∈(List.range 4).map (nwS c n),∃j,j<n+8/\y=bQ c j:=λy hy=>by
    obtain⟨i',Sl,rfl⟩:=KZ.mp hy;have hi2:=Nb.mp Sl;exact⟨n+i',by lia,rfl⟩
   have nl4:((List.range 4).map (nwS c n)).length=4:=by rw[KW,MW]
   generalize (List.range 4).map (nwS c n)=nms at XE Up XR nl4 nj;have YY:=s3.trans YI;have sG4:=m6.trans (m7.trans YY);nomatch hx [Re S.a,some (.int cell),some (.int c),Re lk,some (.int n),Re lx,Re lw,Re ln,none,none,none,none] _ ?_;clear hx;refine L7 λnx4 hx=>?_;nomatch⟨S,lx,lw,lk,ln,xs,ws,ks,nms,rfl,hS.same sG4,hG,SqL.of (YY _ _ f62),t_,v_,SqL.of (YY _ _ f7),Yg,SqL.of (sG4 _ _ hK),⟨k0,k3,kk⟩,SqL.of XE,nl4,Up,XR,λst r m f bl L R pr fr os G5 m8 hT Sg mp lo osub fo hold m_ F'=>?_⟩;refine K2 hT.tup rfl ?_;nomatch hx [Re S.a,some (.int cell),some (.int c),Re lk,some (.int n),Re lx,Re lw,Re ln,Re r,Re m,Re f,none] _ ?_;clear hx;have YZ:=sG4.trans m8;have S5:=hS.same YZ;have dok:=Hf mp fo hT.r.r.nd lo osub;have lL8:(b9 L.W).length<=8:=by
    have z1:=Sg.l.l1;have z2:=Sg.l.l2;rw[C0];lia
   have lR8:(b9 R.W).length<=8:=by
    have z1:=Sg.r.l1;have z2:=Sg.r.l2;rw[C0];lia
   have sw:StW S.W L.W R.W (i6 (pr.map N8)) fr:=⟨dok,Sg.ag,hS.nd,hT.r.l.nd,hT.r.r.nd,hS.ends,hT.r.l.ends,hT.r.r.ends,hG.nm,lL8,lR8⟩
   have hk:(pr.map N8).map (·.1)=b9 L.W:=by rw[eK];exact mp.wd
   have nk:=mp.nds;have Qf:∀n,n∈(pr.map N8).map (·.1)↔n∈b9 L.W:=λn=>by rw[hk]
   have s45:=YY.trans m8;refine L7 λnx5 hx=>?_;nomatch A0 hT.r.tup (j7 (j:=0) rfl) ?_;nomatch⟨L,lx,lw,lk,xs,ws,ks,rfl,hT.r.l,lL8,hold,SqL.of (s45 _ _ f62),t_,v_,SqL.of (s45 _ _ f7),Yg,YZ _ _ hK,⟨k0,k3,kk⟩,λlb bs G6 n9 m9 f9 Um Se=>?_⟩;have T6:=hT.same m9;have S6:=S5.same m9;refine C6 (SqL.of f9) ?_;refine B6 (n:=(bs.map λs=>V.ref s.a).length) (λi out H'=>Same G6 H'/\∃cs:List Sd,out=cs.map (λs=>V.ref s.a)/\cs.length<=i/\∀c∈cs,c∈bs/\MetNo S.W c.W (pr.map N8)) ⟨Same.refl _,[],rfl,La _,λc h=>by cases h⟩ (λi out H' hi hp=>⟨_,_,SqL.of (hp.1 _ _ f9),KY hi⟩) ?_ ?_
   .rintro B9 b_ N i' v' out G7' G7 Sl ⟨s7,cs',rfl,hcl',hcs'⟩ y';refine b_ λf_=>?_;obtain⟨rfl,l_⟩:=Itl.get y' (SqL.of (s7 _ _ f9));rw[Lc] at l_;obtain⟨bb,VY,rfl⟩:=LB.mp l_;have Xq:=Ln VY;obtain⟨hB,hB1,hBp,hBq⟩:=Se bb Xq;rw[KW] at Sl;nomatch⟨rfl,?_⟩;rfl';have hSz:S.W.pts.length+S.W.ts.length<=60:=by rw[←C0];lia
    refine⟨S,bb,m,pr.map N8,rfl,S6.same s7,hB.same s7,s7 _ _ T6.m,nk,hSz,d6 S5.hp hBp,d6 S5.hq hBq,(iW hB1 Qf).2,λtv G8 K' hmet=>?_⟩;rfl';cases tv
    .rw[if_pos (by decide)];nomatch⟨d8 (by rw[KW];lia),f_ _ _ ⟨s7.trans K',cs'++[bb],by rw[Lh];rfl,by rw[Lg];exact Nat.succ_le_succ hcl',λc hc=>?_⟩⟩;rcases Ld.mp hc with z|z
     .exact hcs' c z
     .rw[Li.mp z];exact⟨Xq,hmet rfl⟩
    .rw[if_neg (by decide)];exact f_ _ _ ⟨s7.trans K',cs',rfl,Nat.le_succ_of_le hcl',hcs'⟩
   .rintro out G7 ⟨s7,cs',rfl,hcl',hcs'⟩;rw[KW] at hcl';refine⟨⟨_,SqL.of (s7 _ _ f9),La _⟩,λY' nlb=>⟨d8 (by rw[KW];lia),?_⟩⟩;obtain⟨G8,e8,f8,K',_⟩:=u7 (H:=G7) (o:= .lst (cs'.map λs=>V.ref s.a)) nlb;change ah _ _ _ (u9 G7 Y' (.lst (cs'.map λs=>V.ref s.a))) _;rw[e8];nomatch hx [Re S.a,some (.int cell),some (.int c),Re lk,some (.int n),Re lx,Re lw,Re ln,Re r,Re m,Re f,Re Y'] _ ?_;clear hx;have T8:=T6.same (s7.trans K');nomatch A0 T8.r.tup (j7 (j:=0) rfl) ?_;nomatch A0 T8.r.tup (j7 (j:=1) rfl) ?_;nomatch⟨d8 (by simp),λr2 G9 nr2 SD f9'=>?_⟩;nomatch⟨d8 (by simp),λK_ G10 nst2 M' SA=>?_⟩;have m60:=s7.trans (K'.trans (SD.trans M'));have Tz:=T6.same m60;have fl:G10 Y'=some (.lst (cs'.map λs=>V.ref s.a)):=M' _ _ (SD _ _ f8);have sG7:=YZ.trans (m9.trans s7);exact k ⟨K_,r2,m,f,Y',L,R,pr.map N8,fr,cs'⟩ pr os G10 (YZ.trans (m9.trans m60)) ⟨SqT.of SA,⟨SqT.of (M' _ _ f9'),Tz.r.l,Tz.r.r,SqL.of fl,λb hb=>(Se b (hcs' b hb).1).1.same m60⟩,Tz.m,Tz.f,fl⟩ (by show cs'.length<=3;lia) rfl Sg mp fo sw (λy hy=>nj _ (m_ y hy)) F' (sG7.free nlb) λb hb=>have z:=Se b (hcs' b hb).1;⟨z.2.1,d6 hT.m z.2.2.1,d6 hT.m z.2.2.2,(hcs' b hb).2⟩
def StW.nmF {L R:C3}(h:StW W L R km fr){n:Str}(hn:n∈b9 (M4 W L R km (i6 fr))):n∈b9 W\/n∈fr.map (·.2):=by
 rcases uX hn with⟨z,_⟩|⟨m,z,rfl⟩
 .exact .inl z
 .by_cases q:m∈b9 L
  .rw[bX _ _ q];exact .inl (h.inW q)
  .rw[cn _ _ q];exact .inr (KZ.mpr ⟨_,(h.ok.fo.txt h.ndR (h.ok.fo.mem.mpr ⟨z,q⟩)).2,rfl⟩)
def StW.lenF {L R:C3}(h:StW W L R km fr):(b9 (M4 W L R km (i6 fr))).length<=(b9 W).length+fr.length:=by
 have z:=fO (m:=b9 W++fr.map (·.2)) h.ndD λx hx=>Ld.mpr (h.nmF hx);rw[Lg,KW] at z;exact z
def jk (K:Qd):Sp:=λvs H Q _=>∃(S:Sd) (lc lk:Addr) (cs:List Int) (c:Int) (ks:xL),vs=[.ref S.a,.ref lc,.int c,.ref lk]/\SdIs K H S/\gS S.W/\(b9 S.W).length<=12/\SqL K H lc (cs.map V.int)/\cs.length<=10/\H lk=some (.lst (ks.map V.str))/\zO ks/\(∀x∈b9 S.W,∃j,j<13/\x=bQ c j)/\
 ∀(t lr lw:Addr) (ys:List Stp) (ds:List Sd) (H':Hp),Same H H'->H' t=some (.tup [.ref lr,.ref lw])->H' lr=some (.lst (sts ys))->H' lw=some (.lst (qX ds))->ys.length<=10->ds.length=ys.length+1->ds[0]?=some S->(∀y∈ys,gi K H' y/\y.bs.length<=3)->(∀d∈ds,SdIs K H' d/\(b9 d.W).length<=52)->(∀(i:Nat) (y:Stp) (d e:Sd),ys[i]?=some y->ds[i]?=some d->ds[i+1]?=some e->Goes d.W y e.W)->Q (.ref t) H'
abbrev ku:=λP w K mg base=>U8 P w K mg base J0 5 "_law_row" ["_law_web_here","_law_cells","_law_first","_law_kinds_here"] [] (jk K)
theorem rP {f fd}(T:Txt K mg)(cu:ia P w K mg base)(dg:je P w K mg base)(F:Fun K "_law_row" "_law_row" fJ f fd):E4 P w K mg base J0 5 f fd ["_law_web_here","_law_cells","_law_first","_law_kinds_here"] (jk K):=by
 walk_at "#sc__law_row"
 .obtain⟨S,lc,lk,cs,c,ks,rfl,_⟩:=h;rfl
 .obtain⟨S,lc,lk,cs,c,ks,rfl,hS,hG,Tt,hC,G_,hK,hks,RE,k⟩:=h;walk_at "@sc__law_row 54E55(408tvp01f6a8IHR#ZY0436'0cu qb5~n9692933e1J.1k44dIHR#ZY0536'0dg gb5~nb4~n7nl45"
  refine L7 λYC hx=>?_;nomatch⟨d8 (by simp),λlr H1 nlr m1 f1=>?_⟩;nomatch hx [Re S.a,Re lc,some (.int c),Re lk,Re lr,none,none] _ ?_;clear hx;refine L7 λUz hx=>?_;nomatch⟨d8 (by simp),λlw H2 nlw m2 f2=>?_⟩;nomatch hx [Re S.a,Re lc,some (.int c),Re lk,Re lr,Re lw,none] _ ?_;clear hx;have nlw0:H lw=none:=m1.free nlw;have nrw:lr≠lw:=d6 f1 nlw;have Vz:=m2 _ _ f1;have M':=m1.trans m2;refine L7 λVJ hx=>?_;nomatch C6 (M'.seq hC) ?_;refine uI (n:=cs.length) (λi σ H'=>(∃v6,σ=[Re S.a,Re lc,some (.int c),Re lk,Re lr,Re lw,v6])/\Same H H'/\∃(ys:List Stp) (ds:List Sd) (d:Sd),H' lr=some (.lst (sts ys))/\H' lw=some (.lst (qX ds++[.ref d.a]))/\ys.length=i/\ds.length=i/\(ds++[d])[0]?=some S/\(∀y∈ys,gi K H' y/\y.bs.length<=3/\y.bl≠lr/\y.bl≠lw)/\(∀e∈ds++[d],SdIs K H' e/\(b9 e.W).length<=12+4*i)/\gS d.W/\(∀x∈b9 d.W,∃j,j<40+8*i/\x=bQ c j)/\
    ∀(j:Nat) (y:Stp) (e g:Sd),ys[j]?=some y->(ds++[d])[j]?=some e->(ds++[d])[j+1]?=some g->Goes e.W y g.W)
   ⟨⟨_,rfl⟩,M',[],[],S,Vz,f2,rfl,rfl,rfl,(λy hy=>by cases hy),(λe he=>by rw[Li.mp he];exact⟨hS.same M',by lia⟩),hG,(λx hx=>by obtain⟨j,hj,e⟩:=RE x hx;exact⟨j,by lia,e⟩),λj y e g hy=>by simp at hy⟩ (λi σ H' hi hp=>⟨_,.int (cs[i]),hp.2.1.seq hC,by rw[Lc,KY hi];rfl⟩) ?_ ?_
  .clear hx;rintro i v σ To H3 hi ⟨⟨v6,rfl⟩,s3,ys,ds,d,r3,w3,WA,Ql,h0,SS,N',hg,O_,H_⟩ y;obtain⟨rfl,hx⟩:=Itl.get y (s3.seq hC);rw[Lc,KY hi] at hx;cases hx;generalize cs[i]=cell;have WC:d∈ds++[d]:=Lf _ (Li.mpr rfl);obtain⟨Ux,hd3l⟩:=N' d WC;nomatch L7 λnx4 hx=>?_;nomatch⟨.inl ⟨rfl,_,SqL.of r3⟩,?_⟩;nomatch i9 (SqL.of w3) (L2.atI_last _ _) ?_;nomatch F0 (p0 (SqL.of r3) ?_);rw[KW,WA];nomatch⟨d,lk,cell,c,ks,40+8*i,?_,Ux,hg,by lia,s3 _ _ hK,hks,by lia,O_,?_⟩
   .show [V.ref d.a,V.int cell,V.int c,V.ref lk,V.int (40+8*(i:Int))]=_;congr 5
   rintro⟨st,r,m,f,bl,L,R,fx,fr,bs⟩ pr os H4 s4 T4 Um hfx Sg mp fo sw hfj F' Wr VY;have hfx:fx=pr.map N8:=hfx;subst hfx;dsimp only at Um Sg mp fo sw hfj F' Wr VY;have r4:=s4 _ _ r3;refine⟨lr,_,_,rfl,rfl,r4,?_,?_⟩
   .rw[KW,WA];exact Nf (show i<=10 by lia) (by decide)
   nomatch hx [Re S.a,Re lc,some (.int c),Re lk,Re lr,Re lw,some (.int cell)] _ ?_;clear hx;have nb1:bl≠lr:=(d6 r3 Wr).symm;have nb2:bl≠lw:=(d6 w3 Wr).symm;have T5:=vf (x:=⟨st,r,m,f,bl,L,R,pr.map N8,fr,bs⟩) (u:= .lst (sts ys++[.ref st])) r4 nb1 T4;have y5:∀y∈ys,gi K (u9 H4 lr (.lst (sts ys++[.ref st]))) y:=λy hy=>vf r4 (SS y hy).2.2.1 ((SS y hy).1.same s4);have d5:∀e∈ds++[d],SdIs K (u9 H4 lr (.lst (sts ys++[.ref st]))) e:=λe he=>((N' e he).1.same s4).updL r4;have w5:u9 H4 lr (.lst (sts ys++[.ref st])) lw=some (.lst (qX ds++[.ref d.a])):=by rw[b7 nrw.symm];exact s4 _ _ w3
   have r5:u9 H4 lr (.lst (sts ys++[.ref st])) lr=some (.lst (sts ys++[.ref st])):=b5;have s5:Same H (u9 H4 lr (.lst (sts ys++[.ref st]))):=E5 (s3.trans s4) nlr;generalize u9 H4 lr (.lst (sts ys++[.ref st]))=H5 at T5 y5 d5 w5 r5 s5;nomatch⟨.inl ⟨rfl,_,SqL.of w5⟩,?_⟩;nomatch i9 (SqL.of w5) (L2.atI_last _ _) ?_;nomatch i9 (SqL.of r5) (L2.atI_last _ _) ?_;nomatch⟨d,L,R,st,r,m,f,bl,pr,fr,os,bs,rfl,d5 d WC,T5,mp,fo,λD H6 s6 hD hDp ZK hDn nDp nDq nD1 nD2 eD1 eD2=>?_⟩;have dueP:D.W.pts.Perm (M4 d.W L.W R.W (i6 (pr.map N8)) (i6 fr)).pts:=(Pd (eh nD1) (eh (F2 sw.ndD))).mpr λx=>(eD1 x).trans (BF mp Sg fo sw.ndR sw.ndW x).symm;have dueT:D.W.ts.Perm (M4 d.W L.W R.W (i6 (pr.map N8)) (i6 fr)).ts:=(Pd (eh nD2) (eh (O4 sw.ndD))).mpr λx=>(eD2 x).trans (Ga mp Sg fo sw.ndR sw.ndW sw.eL x).symm;have wD:WPm D.W (M4 d.W L.W R.W (i6 (pr.map N8)) (i6 fr)):=⟨dueP,dueT⟩
   have D6:SdIs K H6 D:=vh sw (by lia) hD hDp ZK hDn wD;have lD:(b9 D.W).length<=12+4*(i+1):=by
    have z:=sw.lenF;rw[wD.nm.length_eq];have z2:fr.length<=4:=F';lia
   have gD:gS D.W:=by
    refine⟨λx hx=>sw.nmD x (wD.nm.mem_iff.mp hx),λx hx=>?_,λx hx=>?_⟩
    .rcases(eD1 x).mp hx with⟨z,_⟩|⟨w,_,z⟩
     .exact hg.kd x z
     .exact Sg.r.good.kd (w,x.2) z
    .rcases(eD2 x).mp hx with⟨z,_⟩|⟨w,b,e,_,z,_,_⟩
     .exact hg.tk x z
     .exact Sg.r.good.tk (w,(x.2.1,b,e)) z
   have nD:∀x∈b9 D.W,∃j,j<40+8*(i+1)/\x=bQ c j:=λx hx=>by
    rcases sw.nmF (wD.nm.mem_iff.mp hx) with z|z
    .obtain⟨j,hj,e⟩:=O_ x z;exact⟨j,by lia,e⟩
    .obtain⟨y,hy,rfl⟩:=KZ.mp z;obtain⟨j,hj,e⟩:=hfj y hy;exact⟨j,by lia,e⟩
   have hk:(pr.map N8).map (·.1)=b9 L.W:=by rw[eK];exact mp.wd
   have w6:=s6 _ _ w5;refine⟨lw,_,_,rfl,rfl,w6,?_,?_⟩
   .rw[Lg,KW,Ql];exact Nf (show i+1<=11 by lia) (by decide)
   rfl';have ndl:(ds++[d]).length=i+1:=by rw[Lg,Ql];rfl
   refine⟨⟨_,rfl⟩,E5 (s5.trans s6) nlw0,ys++[⟨st,r,m,f,bl,L,R,pr.map N8,fr,bs⟩],ds++[d],D,?_,?_,?_,ndl,?_,λy hy=>?_,λe he=>?_,gD,nD,λj y e g hy he V_=>?_⟩
   .rw[b7 nrw,s6 _ _ r5];show _=some (HO.lst (List.map _ _));rw[Lh];rfl
   .rw[b5];show _=some (HO.lst (List.map _ _++_));rw[Lh];rfl
   .rw[Lg,WA];rfl
   .rw[LS (by lia)];exact h0
   .rcases Ld.mp hy with z|z
    .exact⟨vf w6 (SS y z).2.2.2 ((y5 y z).same s6),(SS y z).2.1,(SS y z).2.2⟩
    .rw[Li.mp z];exact⟨vf w6 nb2 (T5.same s6),Um,nb1,nb2⟩
   .rcases Ld.mp he with z|z
    .exact⟨((d5 e z).same s6).updL w6,by have:=(N' e z).2;lia⟩
    .rw[Li.mp z];exact⟨D6.updL w6,lD⟩
   .rcases gw hy with⟨hj,y1⟩|⟨hj,rfl⟩
    .rw[LS (by lia)] at he V_;exact H_ j y e g y1 he V_
    .rw[WA] at hj;subst hj;rw[LS (by lia)] at he;have e1:e=d:=by
      rcases gw he with⟨z,_⟩|⟨_,z⟩
      .lia
      .exact z
     have e2:g=D:=by
      rcases gw V_ with⟨z,_⟩|⟨_,z⟩
      .lia
      .exact z
     subst e1 e2;exact⟨sw,by show(List.map _ _).Perm _;rw[hk],VY,Um,by lia,wD⟩
  .rintro σ H3 ⟨⟨v6,rfl⟩,s3,ys,ds,d,r3,w3,WA,Ql,h0,SS,N',hg,O_,H_⟩;refine⟨⟨_,s3.seq hC,by rw[KW];exact La _⟩,?_⟩;refine hx [Re S.a,Re lc,some (.int c),Re lk,Re lr,Re lw,v6] H3 ?_;nomatch⟨d8 (by simp),λt H4 nt m4 f4=>?_⟩;exact k t lr lw ys (ds++[d]) H4 (s3.trans m4) f4 (m4 _ _ r3) (by rw[m4 _ _ w3];show _=some (HO.lst (List.map _ _));rw[Lh];rfl) (by lia) (by rw[Lg,Ql,WA];rfl) h0 (λy hy=>⟨(SS y hy).1.same m4,(SS y hy).2.1⟩) (λe he=>⟨(N' e he).1.same m4,by have:=(N' e he).2;lia⟩) H_
def Spl (K:Qd)(l:Addr)(H:Hp)(x:Stp)(st:Addr)(y:Int):Prop:=(y=0/\SqT K H st [.ref x.r,.non,.ref x.f])\/(y=1/\∃(r bl:Addr) (C:Sd),SqT K H st [.ref r,.ref x.m,.ref x.f]/\SqT K H r [.ref x.L.a,.ref x.R.a,.ref bl]/\H bl=some (.lst ((x.bs.take 1++[C]).map λs=>V.ref s.a))/\bl≠l/\SdIs K H C/\C.W=x.L.W/\x.m≠C.p/\x.m≠C.q)\/(y≠0/\y≠1/\SqT K H st [.ref x.r,.ref x.m,.non])
def Lse (K:Qd)(l:Addr)(H:Hp)(st:Addr)(W:C3):Prop:=∃(r bl m f:Addr) (L R:Sd) (kd pt:Str) (t:Str×N3),SqT K H st [.ref r,.ref m,.ref f]/\RuleIs K H r bl L R []/\H bl=some (.lst [])/\bl≠l/\H m=some (.dK (i6 [("a",pt)]))/\H f=some (.dK [])/\L.W=⟨[("a",kd)],[]⟩/\R.W=⟨[],[]⟩/\(pt,kd)∈W.pts/\t∈W.ts/\(pt=t.2.2.1\/pt=t.2.2.2)
variable {l:Addr}
def Spl.updL {y:Int}(s:Spl K l H x st y)(h:H l=some (.lst ys)):Spl K l (u9 H l u) x st y:=by
 rcases s with⟨e,z⟩|⟨e,r,bl,C,z1,z2,z3,z4,z5,z6⟩|⟨e,e',z⟩
 .exact .inl ⟨e,V2 h z⟩
 .exact .inr (.inl ⟨e,r,bl,C,V2 h z1,V2 h z2,by rw[b7 z4];exact z3,z4,z5.updL h,z6⟩)
 .exact .inr (.inr ⟨e,e',V2 h z⟩)
def Lse.updL (s:Lse K l H st W)(h:H l=some (.lst ys)):Lse K l (u9 H l u) st W:=by
 obtain⟨r,bl,m,f,L,R,kd,pt,t,z1,z2,z3,z4,z5,z6,z7⟩:=s;have e3:u9 H l u bl=some (.lst []):=by rw[b7 z4];exact z3
 exact⟨r,bl,m,f,L,R,kd,pt,t,V2 h z1,⟨V2 h z2.tup,z2.l.updL h,z2.r.updL h,SqL.of e3,λb hb=>nomatch hb⟩,e3,z4,by rw[b7 λe=>by rw[e,h] at z5;cases z5];exact z5,by rw[b7 λe=>by rw[e,h] at z6;cases z6];exact z6,z7⟩
def Spl.bad {y:Int}(s:Spl K l H x st y)(g:GoS K H W x W'):∃n,Bad K H st W n/\((y=0/\n=1)\/(y=1/\n=3)\/(y≠0/\y≠1/\n=4)):=by
 rcases s with⟨e,z⟩|⟨e,r,bl,C,z1,z2,z3,z4,z5,z6,z7,z8⟩|⟨e,e',z⟩
 .exact⟨1,g.bad1 z,.inl ⟨e,rfl⟩⟩
 .exact⟨3,g.bad3 z1 z2 z3 z5 z6 ⟨z7,z8⟩,.inr (.inl ⟨e,rfl⟩)⟩
 .exact⟨4,g.bad4 z,.inr (.inr ⟨e,e',rfl⟩)⟩
def Lse.bad (s:Lse K l H st W)(nd:(b9 W).Nodup)(ln:(b9 W).length<=52):Bad K H st W 2:=by
 obtain⟨r,bl,m,f,L,R,kd,pt,t,z1,z2,z3,z4,z5,z6,z7,z8,z9,z10,z11⟩:=s;exact JD z1 z2 z3 z5 z6 z7 z8 z9 z10 z11 nd ln
def Gv {i:Int}(e:i=(j:Int))(h:xs[j]?=some v):kC xs i=some v:=by rw[e];exact j7 h
def cK (K:Qd):Sp:=λvs H Q _=>∃(x:Stp) (y:Int),vs=[.ref x.st,.int y]/\gi K H x/\x.bs.length<=3/\∀(st:Addr) (H':Hp),Same H H'->(∀l o,H l=some o->Spl K l H' x st y)->Q (.ref st) H'
abbrev df:=λP w K mg base=>U8 P w K mg base J0 1 "_law_spoiled" ["_law_step_here","_law_way"] [] (cK K)
theorem jN {f fd}(T:Txt K mg)(F:Fun K "_law_spoiled" "_law_spoiled" aF f fd):E4 P w K mg base J0 1 f fd ["_law_step_here","_law_way"] (cK K):=by
 walk_at "#sc__law_spoiled"
 .obtain⟨x,y,rfl,_⟩:=h;rfl
 .obtain⟨x,y,rfl,A,b3,k⟩:=h;walk_at "@sc__law_spoiled /00zc2ac3ac4aA8oju0117n92q]448oju0117nqnq22g22e)22-&1(3ngF3h221F3h221l347n92933]"
  exists K2 A.tup rfl ?_;exists J6 (λy0=>?_) (λy0=>?_)
  .exists⟨d8 (by simp),λst H1 nst m1 f1=>?_⟩;exact k st H1 m1 λ_ _ _=> .inl ⟨y0,SqT.of f1⟩
  exists J6 (λy1=>?_) (λy1=>?_);rotate_left
  .exists⟨d8 (by simp),λst H1 nst m1 f1=>?_⟩;exact k st H1 m1 λ_ _ _=> .inr (.inr ⟨y0,y1,SqT.of f1⟩)
  exists A0 A.r.tup (j7 (j:=0) rfl) ?_;exists A0 A.r.tup (j7 (j:=1) rfl) ?_;exists A0 A.r.tup (j7 (j:=2) rfl) ?_;exists lV A.r.bl (λl1 H1 n1 m1 f1=>?_);rw[show bj (x.bs.map λs=>V.ref s.a) none (some 1)=(x.bs.take 1).map (λs=>V.ref s.a) by rw[List.map_take];exact Eg _ 1] at f1;have A1:=A.same m1;exists A0 A1.r.tup (j7 (j:=0) rfl) ?_;exists A0 A1.r.l.at_.tup (j7 (j:=0) rfl) ?_;exists F8 A1.r.l.at_.pts (λp H2 n2 m2 f2=>?_);have A2:=A1.same m2;exists A0 A2.r.tup (j7 (j:=0) rfl) ?_;exists A0 A2.r.l.at_.tup (j7 (j:=1) rfl) ?_;exists F8 A2.r.l.at_.ties (λq H3 n3 m3 f3=>?_);exists⟨d8 (by simp),λc H4 n4 m4 f4=>?_⟩;exists⟨d8 (by simp),λl5 H5 n5 m5 f5=>?_⟩;have m35:=m4.trans m5;have RB:=m3.trans m35;have Vv:=m2.trans RB;refine mZ (Vv _ _ f1) f5 (d8 (by rw[KW,Lp];show min _ _+1<=1000;lia)) (λbl H6 n6 m6 f6=>?_);exists⟨d8 (by simp),λr H7 n7 m7 f7=>?_⟩;exists⟨d8 (by simp),λst H8 n8 m8 f8=>?_⟩;have WD:=m7.trans m8;have Uq:=m6.trans WD;have m38:=m35.trans Uq;have m28:=RB.trans Uq;have m08:=m1.trans (Vv.trans Uq);have hC:SdIs K H8 ⟨c,p,q,x.L.kvs,x.L.W⟩:=A.r.l.copy m08 (SqT.of ((m5.trans Uq) _ _ f4)) (m28 _ _ f2) (m38 _ _ f3) (d6 f2 n3);exact k st H8 m08 λl o ho=> .inr (.inl ⟨y1,r,bl,⟨c,p,q,x.L.kvs,x.L.W⟩,SqT.of f8,SqT.of (m8 _ _ f7),by rw[WD _ _ f6,Lh];rfl,(d6 ((m1.trans Vv) _ _ ho) n6).symm,hC,rfl,d6 A1.m n2,d6 A2.m n3⟩)
variable {Q:List (V×V)->Hp->Prop}
def HK {tk tv:TE}{r:List (TE×TE)}(q:tk σ H λx H1=>tv σ H1 λy H2=>iM r σ H2 λps H3=>Q ((x,y)::ps) H3):iM ((tk,tv)::r) σ H Q:=q
def CA (q:Q [] H):iM [] σ H Q:=q
def fg (K:Qd):Sp:=λvs H Q _=>∃(D:Sd) (x:Int),vs=[.ref D.a,.int x]/\SdIs K H D/\(b9 D.W).length<=52/\0<=x/\0<D.W.ts.length/\∀(st:Addr) (H':Hp),Same H H'->(∀l o,H l=some o->Lse K l H' st D.W)->Q (.ref st) H'
abbrev gH:=λP w K mg base=>U8 P w K mg base J0 1 "_law_loose" ["_law_web_here","_law_x"] [] (fg K)
theorem mH {f fd}(T:Txt K mg)(F:Fun K "_law_loose" "_law_loose" cf f fd):E4 P w K mg base J0 1 f fd ["_law_web_here","_law_x"] (fg K):=by
 walk_at "#sc__law_loose"
 .obtain⟨D,x,rfl,_⟩:=h;rfl
 .obtain⟨D,x,rfl,hD,hl,h0,hp,k⟩:=h;have h1:=hl;rw[C0] at h1;have hN:=sc__law_loose.nd;have hu:=B0 hr;refine⟨_,QSs.r (A9 (A7 (i:=2) hN rfl (by walk_at "l") (qB (Q5 K rfl) T.b_sorted Boot.«sorted» (g5 (j9 (j8 K hu) (qV 0) d9 (λ_ _=>rfl)) j4)))
   (A9 (A7 (i:=3) hN rfl (by walk_at "l") (j9 (j8 K hu) (j9 (j8 K hu) (j9 (j8 K hu) (qV 0) d9 (λ_ _=>rfl)) (j9 (j8 K hu) (qV 2) (E1 A5 (qV 1) (qB (E8 K P w) T.b_len Boot.«len» (g5 (qV 2) j4))) (λ_ _=>rfl)) (λ_ _=>rfl)) (E1 (K3 K) d9 (E1 A5 (E1 E7 (qV 1) d9) d9)) (λ_ _=>rfl)))
   (E6 (C4 (M8 (g5 (M8 (g5 (M8 (g5 (Di (Ke jE (j9 (j8 K hu) (j9 (j8 K hu) (qV 0) d9 (λ_ _=>rfl)) (qV 3) (λ_ _=>rfl)) Kg) (by rfl) (by rfl) (by simp) (by simp)) (g5 pY j4))) (g5 (M8 (g5 pY (g5 pY j4))) (g5 (Q6 j4) j4)))) (g5 (Di (Ke jE (qV 3) Kg) (by rfl) (by rfl) (by simp) (by simp)) (g5 pY j4)))))))),?_⟩
  exists A0 hD.at_.tup (j7 (j:=1) rfl) ?_;exists D0 (ss:=D.W.ts.map (·.1)) hD.at_.ties (by rw[hD.at_.ts.keys,C9]) (by rw[KW];lia) (λss a1 a2 l1 H1 n1 m1 f1=>?_);have D1:=hD.same m1;have sl:=a1.length_eq;rw[KW] at sl;exists A0 D1.at_.tup (j7 (j:=1) rfl) ?_;exists F0 (p0 (SqL.of f1) ?_);rw[KW];symm;have q0:=Mo x (show(ss.length:Int)≠0 by lia);have q1:=Mc x (show(0:Int)<(ss.length:Int) by lia);obtain⟨j,hj⟩:∃j:Nat,x % (ss.length:Int)=j:=⟨(x % (ss.length:Int)).toNat,by lia⟩
  have Xr:j<ss.length:=by lia
  rw[hj];refine i9 (v:= .str ss[j]) (SqL.of f1) (j7 (by rw[Lc,KY Xr];rfl)) ?_;have m_:=a1.mem_iff.mp (LH Xr);generalize ss[j]=n at m_;obtain⟨aa,t,z1,z2,z3⟩:=TiesIs.val (ts:=D.W.ts) D1.at_.ts m_;have ends:=hD.ends _ z2;refine u4 (v:= .ref aa) (by have z:=J2 (k:=Sum.inr n) D1.at_.ties;rw[z1] at z;exact z) ?_;symm;obtain⟨pt,YA,hpt,hor⟩:∃pt,kC (ao t) (1+x/16 % 2)=some (.str pt)/\pt∈D.W.pts.map (·.1)/\(pt=t.2.1\/pt=t.2.2):=by
   rcases(show x/16 % 2=0\/x/16 % 2=1 by lia) with e|e
   .exact⟨t.2.1,by rw[e];rfl,ends.1,.inl rfl⟩
   .exact⟨t.2.2,by rw[e];rfl,ends.2,.inr rfl⟩
  refine A0 z3 YA ?_;obtain⟨y,hy,ey⟩:=KZ.mp hpt;have s_:(pt,y.2)∈D.W.pts:=by rw[←show y.1=pt from ey];exact hy
  symm;intro pa na;obtain⟨H2,e2,f2,m2,q2⟩:=u7 (o:= .dK []) na;rw[e2];have D2:=D1.same m2;refine HK ?_;exists A0 D2.at_.tup (j7 (j:=0) rfl) ?_;exists u4 (v:= .str y.2) (by have z:=J2 (k:=Sum.inr pt) D2.at_.pts;rw[N0 (F2 hD.nd) s_] at z;exact z) ?_;refine CA ⟨f2,[(Sum.inr "a",.str y.2)],rfl,by simp,?_⟩;have g3:u9 H2 pa (.dK (aD [] [(Sum.inr "a",.str y.2)])) pa=some (.dK (i6 [("a",y.2)])):=b5;have s3:Same H1 (u9 H2 pa (.dK (aD [] [(Sum.inr "a",.str y.2)]))):=E5 m2 na;generalize u9 H2 pa (.dK (aD [] [(Sum.inr "a",.str y.2)]))=H3 at g3 s3⊢;symm;intro pb H4 nb m4 f4;exists⟨d8 (by simp),λaL H5 n5 m5 f5=>?_⟩;symm;intro pc H6 nc m6 f6;symm;intro pd H7 nd m7 f7;exists⟨d8 (by simp),λaR H8 n8 m8 f8=>?_⟩;exists⟨d8 (by simp),λbl H9 n9 m9 f9=>?_⟩;exists⟨d8 (by simp),λr Ro n10 K' SA=>?_⟩;symm;intro pm nm;obtain⟨RC,Xu,P',SD,q11⟩:=u7 (o:= .dK []) nm;rw[Xu];refine HK ?_;exists CA ⟨P',[(Sum.inr "a",.str pt)],rfl,by simp,?_⟩;have g12:u9 RC pm (.dK (aD [] [(Sum.inr "a",.str pt)])) pm=some (.dK (i6 [("a",pt)])):=b5;have UL:Same Ro (u9 RC pm (.dK (aD [] [(Sum.inr "a",.str pt)]))):=E5 SD nm;generalize u9 RC pm (.dK (aD [] [(Sum.inr "a",.str pt)]))=UC at g12 UL⊢;symm;intro pf H13 nf Rh f13;exists⟨d8 (by simp),λst Vu n14 Wk f14=>?_⟩;have UM:=Rh.trans Wk;have UN:=UL.trans UM;have VQ:=K'.trans UN;have Yh:=m9.trans VQ;have VR:=m8.trans Yh;have VS:=m7.trans VR;have Yi:=m6.trans VS;have VT:=m5.trans Yi;have VU:=m4.trans VT;have hL:SdIs K Vu ⟨aL,pa,pb,[],⟨[("a",y.2)],[]⟩⟩:=⟨⟨SqT.of (Yi _ _ f5),.inl (VU _ _ g3),.inl (VT _ _ f4),.nil⟩,VU _ _ g3,VT _ _ f4,d6 g3 nb,by show([("a":Str)]).Nodup;simp,by show(1:Nat)<=60;decide,(λ_ h=>nomatch h),λz hz=>by rw[Li.mp (show z∈[("a":Str)] from hz)];decide⟩
  have hR:SdIs K Vu ⟨aR,pc,pd,[],⟨[],[]⟩⟩:=⟨⟨SqT.of (Yh _ _ f8),.inl (VS _ _ f6),.inl (VR _ _ f7),.nil⟩,VS _ _ f6,VR _ _ f7,d6 f6 nd,Mz,by show(0:Nat)<=60;decide,(λ_ h=>nomatch h),λz hz=>nomatch hz⟩
  have s8:=m1.trans (s3.trans (m4.trans (m5.trans (m6.trans (m7.trans m8)))));exact k st Vu (m1.trans (s3.trans VU)) λl o ho=>⟨r,bl,pm,pf,⟨aL,pa,pb,[],⟨[("a",y.2)],[]⟩⟩,⟨aR,pc,pd,[],⟨[],[]⟩⟩,y.2,pt,(n,t),SqT.of f14,⟨SqT.of (UN _ _ SA),hL,hR,SqL.of (VQ _ _ f9),λ_ h=>nomatch h⟩,VQ _ _ f9,(d6 (s8 _ _ ho) n9).symm,UM _ _ g12,Wk _ _ f13,rfl,rfl,s_,z2,hor⟩
def hU (K:Qd):Sp:=λvs H Q _=>∃(lf lw:Addr) (fs ds:List Sd),vs=[.ref lf,.ref lw]/\H lf=some (.lst (qX fs))/\H lw=some (.lst (qX ds))/\fs.length=ds.length/\ds.length<=11/\(∀(i:Nat) (f d:Sd),fs[i]?=some f->ds[i]?=some d->SdIs K H f/\SdIs K H d/\WPm f.W d.W/\f.p≠d.p/\f.q≠d.q)/\∀H',Same H H'->Q (.bl true) H'
abbrev jx:=λP w K mg base=>U8 P w K mg base J0 2 "_law_webs" ["_law_found","_law_webs_here"] [] (hU K)
theorem pW {f fd}(T:Txt K mg)(cO:jt P w K mg base)(F:Fun K "_law_webs" "_law_webs" cW f fd):E4 P w K mg base J0 2 f fd ["_law_found","_law_webs_here"] (hU K):=by
 walk_at "#sc__law_webs"
 .obtain⟨lf,lw,fs,ds,rfl,_⟩:=h;rfl
 .obtain⟨lf,lw,fs,ds,rfl,hf,hw,he,hl,hh,k⟩:=h;walk_at "@sc__law_webs 8oyTPs@?>903=~A~5~4jSk40k417O7Nux_law_k;01;*3k41f0m_law_k,_law_found,_law_webs_here;LP6'0cO gb100b20000E"
  exists dI (dz (t:="list") (.inl ⟨rfl,_,SqL.of hf⟩) (by simp) ?_);symm;rw[if_neg (by decide)];exists F0 (p0 (SqL.of hf) ?_);rw[KW,he];exists F0 (p0 (SqL.of hw) ?_);rw[KW];symm;rw[if_neg (by simp)];exists F0 (p0 (SqL.of hw) ?_);rw[KW];exists X4 (by lia) (by lia) ?_;refine B6 (n:=ds.length) (λi out H'=>H'=H/\out=[]) ⟨rfl,rfl⟩ (λi out H' hi _=>by show i<_;lia) ?_ ?_
  .rintro B9 b_ N i v out H2' H2 hi ⟨rfl,rfl⟩ ⟨rfl,rfl⟩;refine b_ λf_=>?_;have ef:=KY (show i<fs.length by lia);have ed:=KY hi;obtain⟨h1,h2,h3,h4,h5⟩:=hh i _ _ ef ed;exists⟨rfl,?_⟩;exists i9 (v:= .ref (fs[i]).a) (SqL.of hf) (Gv (j:=i) (by lia) (by rw[Lc,ef];rfl)) ?_;exists i9 (v:= .ref (ds[i]).a) (SqL.of hw) (Gv (j:=i) (by lia) (by rw[Lc,ed];rfl)) ?_;exists⟨fs[i],ds[i],rfl,h1.at_,h2.at_,h3.p,h3.t,F2 h2.nd,O4 h2.nd,h4,h5,?_⟩;symm;exact f_ _ _ ⟨rfl,rfl⟩
  .rintro out H2 ⟨rfl,rfl⟩;refine⟨by show ds.length<=_;lia,λD hD=>⟨d8 (by simp),?_⟩⟩;obtain⟨H3,e3,f3,m3,_⟩:=u7 (H:=H2) (o:= .lst []) hD;change BJ _ _ (u9 H2 D (.lst [])) _;rw[e3];exists⟨d8 (by simp),λl4 H4 n4 m4 f4=>?_⟩;refine .inr ⟨[],⟨D,l4,[],[],rfl,rfl,.inr ⟨SqL.of (m4 _ _ f3),SqL.of f4⟩,rfl,rfl,λj x y b h1=>nomatch h1⟩,?_⟩;exact k H4 (m3.trans m4)
def Gj (n:Nat):ap:=[.bl (decide (n=1)),.bl (decide (n=3)),.bl (decide (n=4)),.bl (decide (n=2)),.bl true]
def fj (K:Qd):Sp:=λvs H Q _=>∃(S:Sd) (lr:Addr) (as:List Addr) (Vw:Nat->C3) (k:Nat) (a:Addr) (n:Nat),vs=[.ref S.a,.ref lr]/\RwG K H S lr as Vw k/\as[k]?=some a/\Bad K H a (Vw k) n/\1<=n/\n<=4/\∀(l:Addr) (H':Hp),Same H H'->H' l=some (.lst (Gj n))->Q (.ref l) H'
abbrev gG:=λP w K mg base=>U8 P w K mg base J0 13 "_law_kinds" ["_law_web_here","_law_row_here"] [] (fj K)
theorem mS {f fd}(T:Txt K mg)(L9:ay P w K mg base)(F:Fun K "_law_kinds" "_law_kinds" cw f fd):E4 P w K mg base J0 13 f fd ["_law_web_here","_law_row_here"] (fj K):=by
 walk_at "#sc__law_kinds"
 .obtain⟨S,lr,as,Vw,k,a,n,rfl,_⟩:=h;rfl
 .obtain⟨S,lr,as,Vw,k,a,n,rfl,G,ea,bad,n1,n4,kq⟩:=h;have hN:=sc__law_kinds.nd;have hu:=B0 hr;refine⟨_,QSs.r (A9 (A7 (i:=2) hN rfl (by walk_at "l") (Q6 j4))
   (A9 (Jq (i:=3) T.t_GlueError hN rfl (λpins Es=>(E6 (oJ (KL L9 (hr.mono (by decide)) (g5 (qV 0) (g5 (qV 1) j4)))))) (λex=>(A9 (A7 (i:=2) hN rfl (by walk_at "l") (Q6 (g5 (qB (rN K) T.b_isinstance Boot.«isinstance» (g5 (qV 3) (g5 (DD T.g_NoMatch) j4))) (g5 (qB (rN K) T.b_isinstance Boot.«isinstance» (g5 (qV 3) (g5 (DD T.g_Barred) j4))) (g5 (qB (rN K) T.b_isinstance Boot.«isinstance» (g5 (qV 3) (g5 (DD T.g_NoNames) j4))) (g5 (qB (rN K) T.b_isinstance Boot.«isinstance» (g5 (qV 3) (g5 (DD T.g_Loose) j4))) j4))))))
   (E6 (oJ (qM Mb Me Mf A6 K (qV 2) (g5 (qB (rN K) T.b_isinstance Boot.«isinstance» (g5 (qV 3) (g5 (Bl "ValueError" T.b_ValueError Boot.«ValueError») j4))) j4)))))))
   (E6 (C4 (qV 2))))),?_⟩
  exists⟨d8 (by simp),λl1 H1 n1' m1 f1=>?_⟩;exists⟨S,lr,as,Vw,k,rfl,G.same m1,λz=>absurd (Mq.mp ea).1 (by lia),λa' ea'=>⟨n,by rw[ea] at ea';cases ea';exact bad.same m1,λH2 e s2 he=>?_⟩⟩;obtain⟨C,b1,b2,b3,b4,eC,x1,x2,y1,y2,y3,y4,y5,ek⟩:∃(C:Addr) (b1 b2 b3 b4:Bool),cA K (zK n)=C/\ExN K C/\PySem.W.subIn K (.ref C) (.ref (cA K "GlueError"))=some true/\PySem.W.kitOne K (.ref C) (.ref (cA K "NoMatch"))=some b1/\PySem.W.kitOne K (.ref C) (.ref (cA K "Barred"))=some b2/\PySem.W.kitOne K (.ref C) (.ref (cA K "NoNames"))=some b3/\PySem.W.kitOne K (.ref C) (.ref (cA K "Loose"))=some b4/\PySem.W.kitOne K (.ref C) (.type "ValueError")=some true/\Gj n=[.bl b1,.bl b2,.bl b3,.bl b4,.bl true]:=by
   match n,n1,n4 with
   |1,_,_=>exact⟨_,true,false,false,false,rfl,T.e_NoMatch,T.s_NoMatch_GlueError,T.i_NoMatch_NoMatch,T.i_NoMatch_Barred,T.i_NoMatch_NoNames,T.i_NoMatch_Loose,T.i_NoMatch_ValueError,rfl⟩
   |2,_,_=>exact⟨_,false,false,false,true,rfl,T.e_Loose,T.s_Loose_GlueError,T.i_Loose_NoMatch,T.i_Loose_Barred,T.i_Loose_NoNames,T.i_Loose_Loose,T.i_Loose_ValueError,rfl⟩
   |3,_,_=>exact⟨_,false,true,false,false,rfl,T.e_Barred,T.s_Barred_GlueError,T.i_Barred_NoMatch,T.i_Barred_Barred,T.i_Barred_NoNames,T.i_Barred_Loose,T.i_Barred_ValueError,rfl⟩
   |4,_,_=>exact⟨_,false,false,true,false,rfl,T.e_NoNames,T.s_NoNames_GlueError,T.i_NoNames_NoMatch,T.i_NoNames_Barred,T.i_NoNames_NoNames,T.i_NoNames_Loose,T.i_NoNames_ValueError,rfl⟩
   |n+5,_,h=>exact absurd h (by lia)
  rw[eC];refine⟨C,e,rfl,rfl,x2,?_⟩;have s3:Same H1 (u9 H2 e (.ext (IsExc e C))):=E5 s2 (s2.free he);have f3:(u9 H2 e (.ext (IsExc e C))) e=some (.ext (IsExc e C)):=b5;generalize u9 H2 e (.ext (IsExc e C))=H3 at s3 f3⊢;exists⟨e,C,.ref (cA K "NoMatch"),.ref (cA K "NoMatch"),b1,rfl,rfl,f3,x1,y1,?_⟩;exists⟨e,C,.ref (cA K "Barred"),.ref (cA K "Barred"),b2,rfl,rfl,f3,x1,y2,?_⟩;exists⟨e,C,.ref (cA K "NoNames"),.ref (cA K "NoNames"),b3,rfl,rfl,f3,x1,y3,?_⟩;exists⟨e,C,.ref (cA K "Loose"),.ref (cA K "Loose"),b4,rfl,rfl,f3,x1,y4,?_⟩;exists⟨d8 (by simp),λl4 H4 n4' m4 f4=>?_⟩;have f34:=m4 _ _ f3;exists⟨.inl ⟨rfl,_,SqL.of f4⟩,?_⟩;exists⟨e,C,.type "ValueError",.ty "ValueError",true,rfl,rfl,f34,x1,y5,?_⟩;exists⟨l4,_,_,rfl,rfl,f4,(show(4:Nat)<sizeLine by decide),?_⟩;symm;exact kq l4 _ (E5 (m1.trans s3|>.trans m4) ((m1.trans s3).free n4')) (by rw[b5,ek];rfl)
section
open PySem.AutoSeq1 (wpAny_loadPart')
open PySem.MeetsSeq PySem.MeetsSeq2 PySem.MeetsSeq3
variable {P:Program} {w:World}
def EV {P:Program}{w:World}(l m:Addr)(xs ys:Array Value)(n1 n2:Nat)(d1 d2:Option Addr)(s1 s2:Array ad)(hz:xs.size≠ys.size):
  MeetsIn P w (Builtin.«list.__eq__» ⟨[.ref l,.ref m],[]⟩) (λA R s=>
   s.heap.get? l=some {cls:= .type "list",dict:=d1,data:= .seq xs n1,slots:=s1}/\s.heap.get? m=some {cls:= .type "list",dict:=d2,data:= .seq ys n2,slots:=s2}/\
   R (.ok (.ret (.bool false))) s):=by
 intro A R s hyp
 obtain⟨hp,gg,dr,tk,os⟩:=s
 obtain⟨e1,e2,fin⟩:=hyp
 have q1:=NK;have q2:(xs.size !=ys.size)=true:=by simp [hz]
 wp_walk using wpAny_loadPart' e1,wpAny_loadPart' e2
 exact fin
end
def GD (K:Qd):R2:=λx y H Q=>∃(p q:Addr) (xs:ap),x= .ref p/\y= .ref q/\SqL K H p xs/\SqL K H q []/\Q (.bl xs.isEmpty) H
theorem Ex {X:Cx}(hu:X.A.units+64<cLine):OpR X (compareOp .Eq) (GD X.K):=by
 intro pins s σ H x y v u Q I rx ry h;obtain⟨p,q,xs,rfl,rfl,hp,hq,k⟩:=h;cases rx;cases ry;obtain⟨us,r1,p1,z1⟩:=I.list hp;obtain⟨vs,r2,p2,z2⟩:=I.list hq;have le1:=r1.length;have Xf:=r2.length;obtain rfl:vs=[]:=MC (by simpa using Xf.symm);cases xs with
 |nil=>
  obtain rfl:us=[]:=MC (by simpa using le1.symm)
  have q:=RcP.lst (P:=X.prog) (w:=X.w) (A:=X.A) (f:=λ_=>true) p1.isList p2.isList rfl (by lia) (λj g1 _=>absurd g1 (by simp))
  exact q _ _ ⟨.bl _,H,I,rfl,k⟩
 |cons x r=>
  obtain⟨⟨c1,d1,a1,s1⟩,o1,k1,n1,w1⟩:=id p1.isList
  obtain⟨⟨c2,d2,a2,s2⟩,o2,k2,n2,w2⟩:=id p2.isList
  simp only at k1 w1 k2 w2
  subst k1 w1 k2 w2
  show wpAny _ X.A (richCompare .Eq (.ref p) (.ref q)) _ _ s
  refine MM (op:= .Eq) ⟨_,o1,rfl⟩ ⟨_,o2,rfl⟩ NY (ML NY ⟨_,o1,rfl⟩ Qw (Qg _ _) (EV p q us.toArray #[] n1 n2 d1 d2 s1 s2 (by simp;intro z;rw[z] at le1;simp at le1)) ⟨o1,o2,?_⟩) (by lia)
  exact⟨(λz=>nomatch z),⟨.bl _,H,I,rfl,k⟩⟩
def JY {X:Cx}(K:Qd){k:Nat}(hr:Room k X.A)(h:X.K=K:=by rfl):OpR X (compareOp .Eq) (GD K):=h▸Ex hr.units
variable {n:Nat}
def oW (pr:Paired (λx y=>EqN K H n x y true) xs ys)(j:Nat)(x y:V)(b:Bool)(h1:xs[j]?=some x)(h2:ys[j]?=some y)(h3:(List.replicate xs.length true)[j]?=some b):EqN K H n x y b:=by
 have e3:b=true:=(Rw.mp (Ln h3)).2;subst e3;obtain⟨y',s_,z⟩:=P6 pr h1;rw[h2] at s_;cases s_;exact z
variable {c:Addr}
def pv (hs:(SqT K H a xs/\SqT K H c ys)\/(SqL K H a xs/\SqL K H c ys))(pr:Paired (λx y=>EqN K H n x y true) xs ys):EqN K H (n+1) (.ref a) (.ref c) true:=by
 by_cases e:a=c
 .exact EqN.of0 (.inr ⟨a,c,rfl,rfl,.inl ⟨e,rfl⟩⟩) _
 .exact .inr ⟨a,c,xs,ys,List.replicate xs.length true,rfl,rfl,e,hs,LP pr,MI,oW pr,(jX _).symm⟩
def Hj (h1:H a=some (.lst xs))(h2:H c=some (.lst ys))(pr:Paired (λx y=>EqN K H 8 x y true) xs ys):Gf K H (.ref a) (.ref c) (List.replicate xs.length true):=
 ⟨a,c,xs,ys,rfl,rfl,.inr ⟨SqL.of h1,SqL.of h2⟩,LP pr,MI,oW pr⟩
def vN {e:Addr}{a b:xz}(hd:H d=some (.dK (i6 a)))(he:H e=some (.dK (i6 b)))(p:a.Perm b)(nd:(b.map (·.1)).Nodup)(n:Nat):EqN K H n (.ref d) (.ref e) true:=by
 refine EqN.of0 (.inr ⟨d,e,rfl,rfl,?_⟩) n;by_cases z:d=e
 .exact .inl ⟨z,rfl⟩
 .exact uQ z (.inl hd) (.inl he) p nd
def yn {A:Sd}(h:SdIs K H A)(h':SdIs K H C)(c:WPm A.W C.W):EqN K H (n+1) (.ref A.a) (.ref C.a) true:=by
 refine pv (.inl ⟨h.at_.tup,h'.at_.tup⟩) (.cons (vN h.hp h'.hp c.p (F2 h'.nd) n) (.cons (EqN.of0 (.inr ⟨A.q,C.q,rfl,rfl,?_⟩) n) .nil));by_cases z:A.q=C.q
 .exact .inl ⟨z,rfl⟩
 .exact lY z h.at_.ties h'.at_.ties h.at_.ts h'.at_.ts c.t (O4 h'.nd)
def Dp {bs cs:List Sd}(c:Paired (λs t:Sd=>t.W=s.W) bs cs):(∀b∈bs,SdIs K H b)->(∀b∈cs,SdIs K H b)->Paired (λx y=>EqN K H (n+1) x y true) (qX cs) (qX bs):=by
 induction c with
 |nil=>exact λ_ _=> .nil
 |cons h _ ih=>exact λh1 h2=> .cons (yn (h2 _ Lx) (h1 _ Lx) (by rw[h];exact WPm.rf _)) (ih (λb z=>h1 b (LD _ z)) λb z=>h2 b (LD _ z))
structure Cq (x z:Stp):Prop where
 l:z.L.W=x.L.W
 r:z.R.W=x.R.W
 fx:z.fx=x.fx
 fr:z.fr=x.fr
 b:Paired (λs c:Sd=>c.W=s.W) x.bs z.bs
 m:∀c∈z.bs,z.m≠c.p/\z.m≠c.q
variable {z:Stp}
def Goes.cp (g:Goes W x W')(c:Cq x z):Goes W z W':=by
 refine⟨by rw[c.l,c.r,c.fx,c.fr];exact g.w,by rw[c.fx,c.l];exact g.k,λb hb=>?_,by rw[←LP c.b];exact g.b3,g.ln,?_⟩
 .obtain⟨j,hj⟩:=MT hb;obtain⟨s,hs,e⟩:=Z5 c.b hj;have q:=g.b s (Ln hs);rw[c.l,c.fx,e];exact⟨q.1,(c.m b hb).1,(c.m b hb).2,q.2.2.2⟩
 .show WPm W' (M4 W z.L.W z.R.W (i6 z.fx) (i6 z.fr));rw[c.l,c.r,c.fx,c.fr];exact g.to
def Dm (h:gi K H x)(k:gi K H z)(c:Cq x z)(nk:(x.fx.map (·.1)).Nodup)(nf:(x.fr.map (·.1)).Nodup):EqN K H 8 (.ref z.st) (.ref x.st) true:=
 pv (.inl ⟨k.tup,h.tup⟩) (.cons (pv (.inl ⟨k.r.tup,h.r.tup⟩) (.cons (yn k.r.l h.r.l (by rw[c.l];exact WPm.rf _)) (.cons (yn k.r.r h.r.r (by rw[c.r];exact WPm.rf _)) (.cons (pv (.inr ⟨k.r.bl,h.r.bl⟩) (Dp c.b h.r.bars k.r.bars)) .nil)))) (.cons (vN k.m h.m (by rw[c.fx]) nk _) (.cons (vN k.f h.f (by rw[c.fr]) nf _) .nil)))
def Gx {A:Sd}(h:SdIs K H A)(h':SdIs K H C)(c:WPm A.W C.W):Gf K H (.ref A.a) (.ref C.a) [true,true]:=by
 have z:EqN K H 8 (.ref A.q) (.ref C.q) true:=by
  refine EqN.of0 (.inr ⟨A.q,C.q,rfl,rfl,?_⟩) _;by_cases z:A.q=C.q
  .exact .inl ⟨z,rfl⟩
  .exact lY z h.at_.ties h'.at_.ties h.at_.ts h'.at_.ts c.t (O4 h'.nd)
 exact⟨A.a,C.a,_,_,rfl,rfl,.inl ⟨h.at_.tup,h'.at_.tup⟩,rfl,rfl,oW (.cons (vN h.hp h'.hp c.p (F2 h'.nd) 8) (.cons z .nil))⟩
def EZ {R:α->β->Prop}:∀{xs:List α} {ys:List β},xs.length=ys.length->(∀(i:Nat) (x:α) (y:β),xs[i]?=some x->ys[i]?=some y->R x y)->Paired R xs ys:=by
 intro xs;induction xs with
 |nil=>intro ys e _;rw[MC e.symm];exact .nil
 |cons x r ih=>
  intro ys e h
  cases ys with
  |nil=>cases e
  |cons y t=>exact .cons (h 0 x y rfl rfl) (ih (Nat.succ.inj e) λi a b h1 h2=>h (i+1) a b h1 h2)
def Ff (ns:List Int)(a b:Nat):bj (ns.map V.int) (some (a:Int)) (some (b:Int))=((ns.drop (min a ns.length)).take (min b ns.length -min a ns.length)).map V.int:=by unfold bj;rw[HT.sIx_nat,HT.sIx_nat,←List.map_drop,←List.map_take,KW]
structure RwD (K:Qd) (H:Hp) (S:Sd) (ys zs:List Stp) (ds:List Sd):Prop where
 s:SdIs K H S
 yl:ys.length<=10
 dl:ds.length=ys.length+1
 d0:ds[0]?=some S
 y:∀y∈ys,gi K H y
 z:∀z∈zs,gi K H z
 c:Paired Cq ys zs
 d:∀d∈ds,SdIs K H d/\(b9 d.W).length<=52
 g:∀(i:Nat) (y:Stp) (d e:Sd),ys[i]?=some y->ds[i]?=some d->ds[i+1]?=some e->Goes d.W y e.W
abbrev AN (S:Sd)(ds:List Sd)(i:Nat):C3:=((ds[i]?).getD S).W
variable {ys zs:List Stp}{ds:List Sd}
def RwD.same (h:RwD K H S ys zs ds)(s:Same H H'):RwD K H' S ys zs ds:=⟨h.s.same s,h.yl,h.dl,h.d0,λy q=>(h.y y q).same s,λy q=>(h.z y q).same s,h.c,λd q=>⟨(h.d d q).1.same s,(h.d d q).2⟩,h.g⟩
theorem RwD.at (h:RwD K H S ys zs ds){i:Nat}(hz:zs[i]?=some z):GoS K H (AN S ds i) z (AN S ds (i+1))/\∃d,ds[i]?=some d:=by
 obtain⟨y,hy,c⟩:=Z5 h.c hz;have hi:=(Mq.mp hy).1;have dl:=h.dl;have e1:=KY (show i<ds.length by lia);have e2:=KY (show i+1<ds.length by lia);refine⟨?_,_,e1⟩;unfold AN;rw[e1,e2];exact⟨(h.g i y _ _ hy e1 e2).cp c,h.z z (Ln hz)⟩
def RwD.eq (h:RwD K H S ys zs ds):Paired (λx y=>EqN K H 8 x y true) (sts zs) (sts ys):=by
 have zl:=LP h.c;refine EZ (by rw[KW,KW,zl]) λi a b h1 h2=>?_;rw[Lc] at h1 h2;obtain⟨z,hz,rfl⟩:=LB.mp h1;obtain⟨y,hy,rfl⟩:=LB.mp h2;obtain⟨y',s_,c⟩:=Z5 h.c hz;rw[hy] at s_;cases s_;have g:=(h.at hz).1;refine Dm (h.y y (Ln hy)) (h.z z (Ln hz)) c ?_ ?_
 .rw[←c.fx];exact g.nk
 .rw[←c.fr];exact g.w.ok.fo.nd1 g.w.ndR
def Iv (ka:am):∃r0,EqH K H [] ka r0/\(ka.length==0&&r0)=ka.isEmpty:=by
 cases ka with
 |nil=>exact⟨true,.nil,rfl⟩
 |cons kv r=>exact⟨false,.miss rfl,by simp⟩
def oO (K:Qd):Sp:=λvs H Q _=>∃(a:Addr) (ns:List Int),vs=[.ref a]/\SqL K H a (ns.map V.int)/\ns.length<=63/\∀H',Q (.bl true) H'
def FQ {a:Addr}(h:H d=some (.dK k1))(s:SqT K H a xs):SqT K (u9 H d u) a xs:=S0 h s
def RwD.rw {H0 H:Hp}{S G:Sd}{ys zs:List Stp}{ds:List Sd}{lh:Addr}{as:List Addr}{k:Nat}(h:RwD K H0 S ys zs ds)(s:Same H0 H)(hG:SdIs K H G)(eG:G.W=S.W)(hl:H lh=some (.lst (as.map V.ref)))(al:as.length<=10)(hk:∀i a,i<k->as[i]?=some a->∃z,zs[i]?=some z/\a=z.st):RwG K H G lh as (AN S ds) k:=by
 refine⟨hG,by unfold AN;rw[h.d0,eG];exact WPm.rf _,SqL.of hl,al,λi a hi ha=>?_⟩;obtain⟨z,hz,rfl⟩:=hk i a hi ha;exact((h.at hz).1.same s).gd
theorem sZ (h:j<n):ze n (j:Int)=some j:=by
 unfold ze;rw[if_pos (by lia),if_pos (by lia)];rfl
def WhyB (K:Qd)(l:Addr)(H:Hp)(z:Stp)(st:Addr)(W:C3)(w:Int):Prop:=(w≠3/\Spl K l H z st w)\/(w=3/\Lse K l H st W)
variable {w:Int}
def WhyB.updL {ys:ap}(s:WhyB K l H z st W w)(h:H l=some (.lst ys)):WhyB K l (u9 H l u) z st W w:=by
 rcases s with⟨e,q⟩|⟨e,q⟩
 .exact .inl ⟨e,q.updL h⟩
 .exact .inr ⟨e,q.updL h⟩
def WhyB.same (s:WhyB K l H z st W w)(m:Same H H'):WhyB K l H' z st W w:=by
 rcases s with⟨e,⟨e',q⟩|⟨e',r,bl,C,z1,z2,z3,z4,z5,z6⟩|⟨e',e2,q⟩⟩|⟨e,r,bl,m',f,L,R,kd,pt,t,z1,z2,z3,z4,z5,z6,z7⟩
 .exact .inl ⟨e,.inl ⟨e',m.tup q⟩⟩
 .exact .inl ⟨e,.inr (.inl ⟨e',r,bl,C,m.tup z1,m.tup z2,m _ _ z3,z4,z5.same m,z6⟩)⟩
 .exact .inl ⟨e,.inr (.inr ⟨e',e2,m.tup q⟩)⟩
 .exact .inr ⟨e,r,bl,m',f,L,R,kd,pt,t,m.tup z1,z2.same m,m _ _ z3,z4,m _ _ z5,m _ _ z6,z7⟩
theorem WhyB.bad (s:WhyB K l H z st W w)(g:Goes W z W')(a:gi K H z)(nd:(b9 W).Nodup)(ln:(b9 W).length<=52)(w0:0<=w)(w4:w<4):∃n,Bad K H st W n/\((w=0/\n=1)\/(w=1/\n=3)\/(w=2/\n=4)\/(w=3/\n=2)):=by
 rcases s with⟨e,q⟩|⟨e,q⟩
 .obtain⟨n,b,h⟩:=q.bad ⟨g,a⟩;exact⟨n,b,by lia⟩
 .exact⟨2,q.bad nd ln,by lia⟩
variable {w:World}
theorem Fw {f fd}(T:Txt K mg)(fC:mw P w K mg base)(fK:ku P w K mg base)(dv:ju P w K mg base)(L9:ay P w K mg base)(aO:jx P w K mg base)(J3:ak P w K mg base)(F4:W8 P w K mg base)(cG:gH P w K mg base)(W0:df P w K mg base)(cE:gG P w K mg base)(F:Fun K "law" "law" zY f fd):E4 P w K mg base J0 14 f fd ["_law_script"] (oO K):=by
 walk_at "#sc_law"
 .obtain⟨a,ns,rfl,_⟩:=h;rfl
 .obtain⟨a,ns,rfl,hA,hl,k⟩:=h;walk_at "@sc_law /6'0fC 40zc1ac2ac3aA/6'0fK 93q)00&1&1l12zc4ac5aA8;6_law_step_here;;p04wf0m_law_step_here;wGw6'0dv 4057ngF323F32358~7'0L9 '0Cz l768oy'2dm P6'0aO l85TjS0703jS06047O8tvp08f9adI|+'0Px '0PySem.F.type_dict_clear '0kT 298IHR#ZY08318oy'2dm jS0703TjS0604P6'0aO q~7'0L9 '0Cz l76457O5:6~dg6~c903118oyTj'2JY %~004Ejui0:117O5;iB0:1k445<iB0:118oyXju0<1juhb50;1Qd~o<18'3aT ju0<1dC6'0cG gb50;B0:1060;dC6'0W0 qb60;4<060;8oyXjuiB0:111j{e0;1k445=ee0;1iB0:1J~eJ~ek440;1dC6'0W0 gb60=iee0<1iB0:111060=7Nu6'0cE l76(qNu0<1qNu0<1qNu0<1gNu0<1O"
  exists⟨a,ns,rfl,hA,hl,λt lk b p q kvs W c ks H1 m1 ft fk k0 k3 kk hc hW hG hz RE=>?_⟩;refine K2 (SqT.of ft) rfl ?_;exists lV (m1.seq hA) (λl2 H2 n2 m2 f2=>?_);obtain⟨cs,z2,cl⟩:∃cs:List Int,bj (ns.map V.int) (some 12) (some 22)=cs.map V.int/\cs.length<=10:=⟨_,Ff ns 12 22,by rw[Lp];lia⟩
  rw[z2] at f2;obtain⟨S,eS⟩:∃S:Sd,S=⟨b,p,q,kvs,W⟩:=⟨_,rfl⟩
  have S1:SdIs K H1 S:=by rw[eS];exact hW
  rw[show b=S.a by rw[eS]];rw[show W=S.W by rw[eS]] at hG hz RE;clear eS hW;exists⟨S,l2,lk,cs,c,ks,rfl,S1.same m2,hG,by rw[C0];exact hz,SqL.of f2,cl,m2 _ _ fk,⟨k0,k3,kk⟩,RE,λt3 lr lw ys ds H3 m3 ft3 fr fw yl dl d0 SS N' H_=>?_⟩;refine K2 (SqT.of ft3) rfl ?_;have S3:=S1.same (m2.trans m3);have A3:=(m1.trans (m2.trans m3)).seq hA;clear f2 fk ft ft3 z2;exists C6 (SqL.of fr) ?_;refine B6 (n:=ys.length) (λi out H'=>Same H3 H'/\∃zs:List Stp,out=sts zs/\(∀z∈zs,gi K H' z)/\Paired Cq (ys.take i) zs) ⟨Same.refl _,[],rfl,(λ_ h=>nomatch h),.nil⟩ (λi out H' hi hp=>⟨_,.ref (ys[i]).st,SqL.of (hp.1 _ _ fr),by rw[Lc,KY hi];rfl⟩) ?_ ?_
  .rintro B9 b_ N i v out H4' H4 hi ⟨s4,zs,rfl,Y_,pr⟩ y;refine b_ λf_=>?_;obtain⟨rfl,hx⟩:=Itl.get y (SqL.of (s4 _ _ fr));rw[Lc,KY hi] at hx;cases hx;have J':=LP pr;rw[Lp] at J';obtain⟨T,b3⟩:=SS _ (LH hi);exists⟨rfl,?_⟩;exists⟨(ys[i]).st,(ys[i]).r,(ys[i]).m,(ys[i]).f,(ys[i]).bl,(ys[i]).L,(ys[i]).R,_,_,(ys[i]).bs,rfl,T.same s4,by lia,λG' r' m' f' Wx L' R' SO H5 m5 T5 cL cR cb _ _ _ hm=>?_⟩;refine⟨d8 (by rw[KW];lia),f_ _ _ ⟨s4.trans m5,zs++[⟨G',r',m',f',Wx,L',R',(ys[i]).fx,(ys[i]).fr,SO⟩],by unfold sts;rw[Lh];rfl,λz hz=>?_,?_⟩⟩
   .rcases Ld.mp hz with q|q
    .exact(Y_ z q).same m5
    .rw[Li.mp q];exact T5
   .rw[LF,KY hi];exact C8 pr ⟨cL.w,cR.w,rfl,rfl,Paired.imp' (λ_ _ q=>q.w) cb,hm⟩
  rintro out H4 ⟨s4,zs,rfl,Y_,pr⟩;rw[Ll (La _)] at pr;have zl:=LP pr;have D4:RwD K H4 S ys zs ds:=⟨S3.same s4,yl,dl,d0,λy h=>(SS y h).1.same s4,Y_,pr,λd h=>⟨(N' d h).1.same s4,(N' d h).2⟩,H_⟩
  have Za:=s4 _ _ fr;have fw4:=s4 _ _ fw;have A4:=s4.seq A3;refine⟨⟨_,SqL.of Za,by rw[KW];exact La _⟩,λlh nlh=>⟨d8 (by rw[KW];lia),?_⟩⟩;obtain⟨H5,e5,f5,m5,_⟩:=u7 (H:=H4) (o:= .lst (sts zs)) nlh;change ah _ _ _ (u9 H4 lh (.lst (sts zs))) _;rw[e5];clear SS N' H_ Y_ pr S3 A3 fr fw e5;have S5:=D4.s.same m5;exists A0 S5.at_.tup (j7 (j:=0) rfl) ?_;exists F8 S5.at_.pts (λgp H6 n6 m6 f6=>?_);have S6:=S5.same m6;exists A0 S6.at_.tup (j7 (j:=1) rfl) ?_;exists F8 S6.at_.ties (λgq H7 n7 m7 f7=>?_);exists⟨d8 (by simp),λga H8 n8 m8 f8=>?_⟩;have WD:=m7.trans m8;have Uq:=m6.trans WD;have Yj:=m5.trans Uq;obtain⟨G,G8,eG,ea⟩:∃G:Sd,SdIs K H8 G/\G.W=S.W/\G.a=ga:=⟨⟨ga,gp,gq,S.kvs,S.W⟩,S5.copy Uq (SqT.of f8) (WD _ _ f6) (m8 _ _ f7) (d6 f6 n7),rfl,rfl⟩
  rw[←ea];have D8:=D4.same Yj;have h8:=Uq _ _ f5;have fr8:=Yj _ _ Za;have fw8:=Yj _ _ fw4;clear f6 f7 f8 S5 S6 m6 m7 m8 WD Uq;have hzs:sts zs=(zs.map (·.st)).map V.ref:=by rw[LY];rfl
  have gone:∀{Hn:Hp} {Q:VK} {E:XK},Same H8 Hn->(∀(l:Addr) (fs:List Sd) (H':Hp),Hn l=none->Same Hn H'->H' l=some (.lst (qX fs))->fs.length=ds.length->(∀(i:Nat) (f d:Sd),fs[i]?=some f->ds[i]?=some d->SdIs K H' f/\SdIs K H' d/\WPm f.W d.W/\f.p≠d.p/\f.q≠d.q)->(∀f∈fs,SdIs K H' f/\Hn f.p=none)->Q (.ref l) H')->Z8 K [.ref G.a,.ref lh] Hn Q E:=fun{Hn Q E} s kq=>by
   refine⟨G,lh,zs.map (·.st),AN S ds,zs.length,rfl,D8.rw s (G8.same s) eG (by rw[s _ _ h8,hzs]) (by rw[KW];lia) λi a' _ ha=>?_,λ_ l fs H' nl m' fl el hf=>kq l fs H' nl m' fl (by rw[el,KW,dl,zl]) (λi f d h1 h2=>?_) λf h=>?_,λa' ha=>absurd (Mq.mp ha).1 (by rw[KW];lia)⟩
   .rw[Lc] at ha;obtain⟨z,Tn,rfl⟩:=LB.mp ha;exact⟨z,Tn,rfl⟩
   .obtain⟨q1,q2,q3,q4⟩:=hf i f h1;have dn:=(D8.same s).d d (Ln h2);unfold AN at q2;rw[h2] at q2;exact⟨q1,dn.1.same m',q2,(d6 dn.1.hp q3).symm,(d6 dn.1.hq q4).symm⟩
   .obtain⟨i,hi⟩:=MT h;have q:=hf i f hi;exact⟨q.1,q.2.2.1⟩
  have ok:∀{Hn:Hp},Same H8 Hn->Gf K Hn (.ref G.a) (.ref S.a) [true,true]/\Gf K Hn (.ref lh) (.ref lr) (List.replicate (sts zs).length true):=λs=>⟨Gx (G8.same s) (D8.s.same s) (by rw[eG];exact WPm.rf _),Hj (s _ _ h8) (s _ _ fr8) (D8.same s).eq⟩
  exists gone (Same.refl _) λlf fs H9 nlf m9 f9 fl hfd UG=>?_;exists⟨lf,lw,fs,ds,rfl,f9,m9 _ _ fw8,fl,by lia,hfd,λRo K'=>?_⟩;have F_:=m9.trans K';exists .inr ⟨_,(ok F_).1,?_⟩;rw[show(!List.all [true,true] id)=false from rfl];exists .inr ⟨_,(ok F_).2,?_⟩;rw[jX];exists C6 (SqL.of (K' _ _ f9)) ?_;refine M9 (n:=fs.length) (λi σ H'=>(∃u:Nat->Option V,σ=[Re a,some (.int c),Re lk,Re S.a,Re lr,Re lw,Re lh,Re G.a,Re lf,u 9,u 10,u 11,u 12,u 13])/\Same H8 H'/\H' lf=some (.lst (qX fs))/\∀f∈fs,SqT K H' f.a [.ref f.p,.ref f.q]/\∃kv,H' f.p=some (.dK kv)) ⟨sg rfl,F_,K' _ _ f9,λf h=>⟨K'.tup (UG f h).1.at_.tup,_,K' _ _ (UG f h).1.hp⟩⟩ (λi σ H' hi hp=>⟨_,.ref (fs[i]).a,SqL.of hp.2.2.1,by rw[Lc,KY hi];rfl⟩) ?_ ?_
  .rintro B9 b_ i v σ H11' RC hi ⟨⟨u,rfl⟩,SQ,P',hfs⟩ y;refine b_ λ_ _=>?_;obtain⟨rfl,hx⟩:=Itl.get y (SqL.of P');rw[Lc,KY hi] at hx;cases hx;have hm:=LH hi;generalize fs[i]=f at hm;obtain⟨ht,kv,h_⟩:=hfs f hm;exists A0 ht (j7 (j:=0) rfl) ?_;exists⟨.inr (.inr (.inl ⟨rfl,.inl ⟨_,h_⟩⟩)),?_⟩;exists⟨f.p,_,rfl,rfl,h_,?_⟩;symm;walk_at "X";refine⟨sg rfl,E5 SQ (UG f hm).2,by rw[b7 λz=>by rw[←z,P'] at h_;cases h_];exact P',λg hg=>?_⟩;obtain⟨h1,kv',h2⟩:=hfs g hg;refine⟨FQ h_ h1,?_⟩;by_cases e:g.p=f.p
   .exact⟨[],by rw[e,b5]⟩
   .exact⟨kv',by rw[b7 e];exact h2⟩
  rintro σ RC ⟨⟨u,rfl⟩,SQ,P',_⟩;refine⟨⟨_,SqL.of P',by rw[KW];exact La _⟩,?_⟩;exists⟨.inl ⟨rfl,_,SqL.of P'⟩,?_⟩;exists⟨lf,_,_,rfl,rfl,P',by rw[KW];exact Nf (show fs.length<=15 by lia) (by decide),?_⟩;have UL:Same H8 (u9 (id RC) lf (.lst (qX fs++[.int 0]))):=E5 SQ nlf;generalize u9 (id RC) lf (.lst (qX fs++[.int 0]))=UC at UL⊢;exists .inr ⟨_,(ok UL).1,?_⟩;rw[show(!List.all [true,true] id)=false from rfl];exists .inr ⟨_,(ok UL).2,?_⟩;rw[jX];exists gone UL λlg gs H13 nlg Rh f13 gl Wc _=>?_;have s13:=UL.trans Rh;exists⟨lg,lw,gs,ds,rfl,f13,s13 _ _ fw8,gl,by lia,Wc,λVu Wk=>?_⟩;have s14:=s13.trans Wk;clear hfd UG Wc f13 P' f9 F_ gone ok;exists⟨a,ns,1,rfl,(Yj.trans s14).seq A4,hl,by decide,λx0=>?_⟩;exists⟨_,_,rfl,by lia,by lia,λx v_=>?_⟩;exists⟨d8 (by simp),λle H15 nle Vv f15=>?_⟩;have VW:=s14.trans Vv;refine⟨lr,le,sts ys,rfl,rfl,SqL.of (VW _ _ fr8),SqL.of f15,?_⟩;exists Y5 (λ_=>?_) (λx_=>?_)
  .symm;exact k H15
  have yp:0<ys.length:=by
   cases ys with
   |nil=>cases x_
   |cons _ _=>exact RU _
  exists J6 (λ_=>?_) (λ_=>?_)
  .symm;exact k H15
  exists F0 (p0 (SqL.of (VW _ _ fr8)) ?_);rw[KW];rfl';have q0:=Mo (x/2) (show(ys.length:Int)≠0 by lia);have q1:=Mc (x/2) (show(0:Int)<(ys.length:Int) by lia);obtain⟨j,hj⟩:∃j:Nat,x/2 % (ys.length:Int)=j:=⟨(x/2 % (ys.length:Int)).toNat,by lia⟩
  have Xr:j<ys.length:=by lia
  rw[hj];clear q0 q1 hj;walk_at "S";rfl';obtain⟨w0,ew0,w1,w2⟩:∃w0:Int,x/30 % 4=w0/\0<=w0/\w0<4:=⟨_,rfl,by lia,by lia⟩
  rw[ew0];have ez:=KY (show j<zs.length by lia);have ed:=KY (show j<ds.length by lia);have hzm:=LH (show j<zs.length by lia);have WC:=LH (show j<ds.length by lia);generalize zs[j]=z at ez hzm;generalize ds[j]=d at ed WC;have ev:AN S ds j=d.W:=by unfold AN;rw[ed];rfl
  have gz:=(D8.at ez).1;rw[ev] at gz;have D15:=D8.same VW;have d15:=D15.d d WC;have WR:=VW _ _ h8;nomatch L7 λnx hx=>?_;have s415:=Yj.trans VW;have fin:∀(w:Int) (H':Hp),0<=w->w<4->(w=3->0<d.W.ts.length)->Same H15 H'->nx [Re a,some (.int c),Re lk,Re S.a,Re lr,Re lw,Re lh,Re G.a,Re lf,u 9,some (.int x),some (.int j),some (.int w),u 13] H':=λw H' v1 v2 v3 s=>by
   refine hx _ _ ?_;clear hx;have WE:=s _ _ WR;have VX:=s415.trans s;have D16:=D4.same VX;have Zb:=D16.d d WC;have G16:=G8.same (VW.trans s);nomatch L7 λUz hx2=>?_;have fin2:∀(st:Addr) (H2:Hp),Same H4 H2->SdIs K H2 G->H2 lh=some (.lst (((zs.map (·.st)).set j st).map V.ref))->WhyB K lh H2 z st d.W w->Uz [Re a,some (.int c),Re lk,Re S.a,Re lr,Re lw,Re lh,Re G.a,Re lf,u 9,some (.int x),some (.int j),some (.int w),u 13] H2:=λst H2 s2 G2 h2 wy=>by
    refine hx2 _ _ ?_;clear hx2;nomatch L7 λVJ hx3=>?_;have Yk:∀(as:List Addr) (Ww:Option V) (H3:Hp),Same H4 H3->SdIs K H3 G->H3 lh=some (.lst (as.map V.ref))->as.length=zs.length->(∀i,i<j->as[i]?=(zs.map (·.st))[i]?)->as[j]?=some st->WhyB K lh H3 z st d.W w->VJ [Re a,some (.int c),Re lk,Re S.a,Re lr,Re lw,Re lh,Re G.a,Re lf,u 9,some (.int x),some (.int j),some (.int w),Ww] H3:=λas Ww H3 s3 G3 h3 al ai aj wy=>by
     refine hx3 _ _ ?_;clear hx3;obtain⟨n,bad,hn⟩:=wy.bad gz.toGoes ((D4.same s3).z z hzm) Zb.1.nd Zb.2 v1 v2;exists⟨G,lh,as,AN S ds,j,st,n,rfl,D4.rw s3 G3 eG h3 (by lia) (λi a' hi ha=>?_),aj,by rw[ev];exact bad,by lia,by lia,λl H4' m4 f4=>?_⟩
     .rw[ai i hi,Lc] at ha;obtain⟨z',Tn,rfl⟩:=LB.mp ha;exact⟨z',Tn,rfl⟩
     exists⟨d8 (by simp),λl5 H5' n5 m5' f5'=>?_⟩;refine mO (kO (SqL.of (m5' _ _ f4)) (SqL.of f5') rfl rfl ?_);have e:[V.bl (decide (w=0)),.bl (decide (w=1)),.bl (decide (w=2)),.bl (decide (w=3)),.bl true]=Gj n:=by
      rcases hn with⟨rfl,rfl⟩|⟨rfl,rfl⟩|⟨rfl,rfl⟩|⟨rfl,rfl⟩<;>rfl
     rw[e,show V1 (Gj n) (Gj n)=true from by unfold Gj;generalize decide (n=1)=b1;generalize decide (n=3)=b2;generalize decide (n=4)=b3;generalize decide (n=2)=b4;cases b1<;>cases b2<;>cases b3<;>cases b4<;>rfl];exact k _
    clear hx3;have zj:j<(zs.map (·.st)).length:=by rw[KW];lia
    have TN:VJ [Re a,some (.int c),Re lk,Re S.a,Re lr,Re lw,Re lh,Re G.a,Re lf,u 9,some (.int x),some (.int j),some (.int w),u 13] H2:=Yk _ _ H2 s2 G2 h2 (by rw[Ol,KW]) (λi hi=>MS (by lia)) (by rw[Nl zj]) wy;exists J6 (λ_=>?_) (λ_=>?_);rotate_left
    .rfl';exact TN
    exists F0 (p0 (SqL.of (s2 _ _ Za)) ?_);rw[KW];exists J6 (λZN=>?_) (λ_=>?_);rotate_left
    .rfl';exact TN
    clear TN;exists F0 (p0 (SqL.of (s2 _ _ Za)) ?_);rw[KW];symm;have q0:=Mo (x/180) (show(ys.length:Int) -j -1≠0 by lia);have q1:=Mc (x/180) (show(0:Int)<(ys.length:Int) -j -1 by lia);obtain⟨i,hi⟩:∃i:Nat,(j:Int)+1+x/180 % ((ys.length:Int) -j -1)=i:=⟨((j:Int)+1+x/180 % ((ys.length:Int) -j -1)).toNat,by lia⟩
    rw[hi];have i1:j<i:=by lia
    have i2:i<zs.length:=by lia
    clear hi q0 q1;have ei:=KY i2;have Sa:=LH i2;generalize zs[i]=z' at ei Sa;have gz':=(D4.at ei).1;exists i9 (v:= .ref z'.st) (SqL.of h2) (j7 (by rw[Lc,MS (by lia),Lc,ei];rfl)) ?_;exists⟨z',_,rfl,(D4.same s2).z z' Sa,gz'.b3,λK_ H3 m3' _=>?_⟩;have h3:=m3' _ _ h2;exists P9 (.inl ⟨lh,_,_,i,rfl,rfl,h3,sZ (by rw[KW,Ol,KW];exact i2),?_⟩);nomatch Yk (((zs.map (·.st)).set j st).set i K_) _ _ (E5 (s2.trans m3') nlh) ((G2.same m3').updL h3) (by rw[b5];simp only[List.map_set]) (by rw[Ol,Ol,KW]) (λi' Sl=>by rw[MS (by lia),MS (by lia)]) (by rw[MS (by lia),Nl zj]) ((wy.same m3').updL h3)
   clear hx2;have set_at:∀(st:Addr) (H2:Hp),Same H' H2->WhyB K lh H2 z st d.W w->Uz [Re a,some (.int c),Re lk,Re S.a,Re lr,Re lw,Re lh,Re G.a,Re lf,u 9,some (.int x),some (.int j),some (.int w),u 13] (u9 H2 lh (.lst ((sts zs).set j (.ref st)))):=λst H2 s2 wy=>by
    have h2:=s2 _ _ WE;exact fin2 st _ (E5 (VX.trans s2) nlh) ((G16.same s2).updL h2) (by rw[b5,hzs,List.map_set]) (wy.updL h2)
   exists J6 (λw3=>?_) (λw3=>?_)
   .exists i9 (v:= .ref d.a) (SqL.of (VX _ _ fw4)) (j7 (by rw[Lc,ed];rfl)) ?_;exists⟨d,_,rfl,Zb.1,Zb.2,by lia,v3 w3,λst H2 m2' hL=>?_⟩;exists P9 (.inl ⟨lh,_,_,j,rfl,rfl,m2' _ _ WE,sZ (by rw[KW];lia),?_⟩);rfl';exact set_at st H2 m2' (.inr ⟨w3,hL lh _ WE⟩)
   .exists i9 (v:= .ref z.st) (SqL.of WE) (j7 (by rw[Lc,ez];rfl)) ?_;exists⟨z,w,rfl,D16.z z hzm,gz.b3,λst H2 m2' hS=>?_⟩;exists P9 (.inl ⟨lh,_,_,j,rfl,rfl,m2' _ _ WE,sZ (by rw[KW];lia),?_⟩);rfl';exact set_at st H2 m2' (.inl ⟨w3,hS lh _ WE⟩)
  clear hx;exists J6 (λw3=>?_) (λw3=>?_);rotate_left
  .rfl';exact fin w0 H15 w1 w2 (λe=>absurd e w3) (Same.refl _)
  exists i9 (v:= .ref d.a) (SqL.of (VW _ _ fw8)) (j7 (by rw[Lc,ed];rfl)) ?_;exists A0 d15.1.at_.tup (j7 (j:=1) rfl) ?_;symm;intro pe H16 ne UJ f16;obtain⟨r0,hr0,er0⟩:=Iv (K:=K) (H:=H16) d.kvs;refine .inl (.inr ⟨d.q,pe,d.kvs,[],r0,rfl,rfl,.inl (UJ _ _ d15.1.hq),.inl f16,hr0,?_⟩);rw[show(d.kvs.length==([]:am).length&&r0)=d.kvs.isEmpty from er0];exists Y5 (λ_=>?_) (λhf=>?_)
  .rfl';exact fin 0 H16 (by decide) (by decide) (λe=>absurd e (by decide)) UJ
  .nomatch fin w0 H16 w1 w2 (λ_=>?_) UJ;rw[←d15.1.at_.ts.length];cases hk:d.kvs with
   |nil=>rw[hk] at hf;cases hf
   |cons _ _=>exact RU _
variable {l:PySem.W.OpenLaw}
def all_mk {h:Heap}{fa f0 f1 f2 f3 f4 f5 f6 f7 f8 f9 SA P' Vz f13 f14 f15 f16 f17 f18 f19 f20 f21 f22 f23 f24 f25 f26 f27 f28 f29 f30 f31 f32 f33 f34 f35 f36 f37 f38 f39 f40 f41 f42 f43 f44 f45 f46 f47 f48 f49 f50 f51 f52 f53 f54 f55 f56 f57:Addr}{ze3 zf0 ze7:Tok}{wv wE wP wf zn:Addr}{zf1:ClassData}(X:K.In h)(G:h.Ns mainGlobals mg)(ZJ:mg "law"=some (.ref fa))
(a0:FnIn K "is_text_of" cq f0)
(a1:FnIn K "is_name" ja f1)
(a2:FnIn K "in_order" fZ f2)
(a3:FnIn K "copied" mr f3)
(a4:FnIn K "things" lH f4)
(a5:FnIn K "without" iT f5)
(a6:FnIn K "united" kG f6)
(a7:FnIn K "tie_renamed" aY f7)
(a8:FnIn K "renamed" iZ f8)
(a9:FnIn K "is_match" fV f9)
(a10:FnIn K "line" tB SA)
(a11:FnIn K "first_match" bA P')
(a12:FnIn K "first_found" bf Vz)
(a13:FnIn K "found" pS f13)
(a14:FnIn K "may_be" lC f14)
(a15:FnIn K "point_choices" af f15)
(a16:FnIn K "tie_places" bU f16)
(a17:FnIn K "enough" kM f17)
(a18:FnIn K "lines" qc f18)
(a19:FnIn K "images" lI f19)
(a20:FnIn K "tie_choices" bu f20)
(a21:FnIn K "has_room" fG f21)
(a22:FnIn K "both" tD f22)
(a23:FnIn K "alone" pJ f23)
(a24:FnIn K "kept" tw f24)
(a25:FnIn K "taken" pP f25)
(a26:FnIn K "fresh_of" fP f26)
(a27:FnIn K "picked" kn f27)
(a28:FnIn K "barred" kr f28)
(a29:FnIn K "taken_out" dD f29)
(a30:FnIn K "names_serve" aZ f30)
(a31:FnIn K "rest_of" iS f31)
(a32:FnIn K "done" uz f32)
(a33:FnIn K "behind" mf f33)
(a34:FnIn K "gone_through" au f34)
(a35:FnIn K "_law_cell_at" av f35)
(a36:FnIn K "_law_mixed" bR f36)
(a37:FnIn K "_law_stream" bx f37)
(a38:FnIn K "_law_name" cY f38)
(a39:FnIn K "_law_words" cx f39)
(a40:FnIn K "_law_web" fS f40)
(a41:FnIn K "_law_picked" bg f41)
(a42:FnIn K "_law_out" fH f42)
(a43:FnIn K "_law_rule" dC f43)
(a44:FnIn K "_law_step" di f44)
(a45:FnIn K "_law_done" cS f45)
(a46:FnIn K "_law_copy" cQ f46)
(a47:FnIn K "_law_same" dH f47)
(a48:FnIn K "_law_met" fY f48)
(a49:FnIn K "_law_bars" dj f49)
(a50:FnIn K "_law_drawn" cc f50)
(a51:FnIn K "_law_row" fJ f51)
(a52:FnIn K "_law_set" fR f52)
(a53:FnIn K "_law_spoiled" aF f53)
(a54:FnIn K "_law_kinds" cw f54)
(a55:FnIn K "_law_loose" cf f55)
(a56:FnIn K "_law_webs" cW f56)
(a57:FnIn K "law" zY f57)
(zc8:PySem.W.nsIn K mainGlobals "ValueError"=some none)
(zf9:PySem.W.nsIn K mainGlobals "all"=some none)
(zf5:PySem.W.nsIn K mainGlobals "any"=some none)
(zf3:PySem.W.nsIn K mainGlobals "dict"=some none)
(zd4:PySem.W.nsIn K mainGlobals "enumerate"=some none)
(zg2:PySem.W.nsIn K mainGlobals "int"=some none)
(zd2:PySem.W.nsIn K mainGlobals "isinstance"=some none)
(zf7:PySem.W.nsIn K mainGlobals "len"=some none)
(zf2:PySem.W.nsIn K mainGlobals "list"=some none)
(zg1:PySem.W.nsIn K mainGlobals "max"=some none)
(zf6:PySem.W.nsIn K mainGlobals "min"=some none)
(ze8:PySem.W.nsIn K mainGlobals "range"=some none)
(zd8:PySem.W.nsIn K mainGlobals "reversed"=some none)
(zf4:PySem.W.nsIn K mainGlobals "set"=some none)
(ze5:PySem.W.nsIn K mainGlobals "sorted"=some none)
(zf8:PySem.W.nsIn K mainGlobals "str"=some none)
(ze9:PySem.W.nsIn K mainGlobals "tuple"=some none)
(zg0:PySem.W.nsIn K mainGlobals "zip"=some none)
(zb2:PySem.W.nsIn K mainGlobals "MOST_NAME_SIGNS"=some (some (.int 24 ze3)))
(zd1:PySem.W.nsIn K mainGlobals "NAME_SIGNS"=some (some (.str gx zf0)))
(zc1:PySem.W.nsIn K mainGlobals "SMALL_LETTERS"=some (some (.str cI ze7)))
(zc7:PySem.W.nsIn K mainGlobals "Barred"=some (some (.ref wv)))
(zc4:PySem.W.nsIn K mainGlobals "GlueError"=some (some (.ref wE)))
(zd5:PySem.W.nsIn K mainGlobals "Loose"=some (some (.ref wP)))
(zc5:PySem.W.nsIn K mainGlobals "NoMatch"=some (some (.ref wf)))
(zc6:PySem.W.nsIn K mainGlobals "NoNames"=some (some (.ref zn)))
(ze2:PySem.W.excIn K wv Gi "ValueError.__new__"=true)
(ze4:PySem.W.excIn K wP Gi "ValueError.__new__"=true)
(zd7:PySem.W.excIn K wf Gi "ValueError.__new__"=true)
(ze0:PySem.W.excIn K zn Gi "ValueError.__new__"=true)
(zd0:PySem.W.typeIn K (.ref wE)=some (.type "type"))
(zd3:PySem.W.subIn K (.ref wE) (.type "BaseException")=some true)
(zc9:PySem.W.clsIn K wE=some zf1)
(za3:PySem.W.subIn K (.ref wv) (.ref wE)=some true)
(ze1:ExN K wv)
(zb8:PySem.W.kitOne K (.ref wv) (.ref wv)=some true)
(zc2:PySem.W.kitOne K (.ref wv) (.ref wP)=some false)
(zb3:PySem.W.kitOne K (.ref wv) (.ref wf)=some false)
(zb1:PySem.W.kitOne K (.ref wv) (.ref zn)=some false)
(ut:PySem.W.kitOne K (.ref wv) (.type "ValueError")=some true)
(za6:PySem.W.subIn K (.ref wP) (.ref wE)=some true)
(ze6:ExN K wP)
(zc0:PySem.W.kitOne K (.ref wP) (.ref wv)=some false)
(zc3:PySem.W.kitOne K (.ref wP) (.ref wP)=some true)
(zb5:PySem.W.kitOne K (.ref wP) (.ref wf)=some false)
(zb7:PySem.W.kitOne K (.ref wP) (.ref zn)=some false)
(za2:PySem.W.kitOne K (.ref wP) (.type "ValueError")=some true)
(za0:PySem.W.subIn K (.ref wf) (.ref wE)=some true)
(zd6:ExN K wf)
(zb0:PySem.W.kitOne K (.ref wf) (.ref wv)=some false)
(zb9:PySem.W.kitOne K (.ref wf) (.ref wP)=some false)
(za8:PySem.W.kitOne K (.ref wf) (.ref wf)=some true)
(za7:PySem.W.kitOne K (.ref wf) (.ref zn)=some false)
(wT:PySem.W.kitOne K (.ref wf) (.type "ValueError")=some true)
(za1:PySem.W.subIn K (.ref zn) (.ref wE)=some true)
(zd9:ExN K zn)
(zb4:PySem.W.kitOne K (.ref zn) (.ref wv)=some false)
(zb6:PySem.W.kitOne K (.ref zn) (.ref wP)=some false)
(za9:PySem.W.kitOne K (.ref zn) (.ref wf)=some false)
(za5:PySem.W.kitOne K (.ref zn) (.ref zn)=some true)
(ul:PySem.W.kitOne K (.ref zn) (.type "ValueError")=some true)
  :
  ∃fd:FuncData,(∀(s:Shared) (v:Value),BindsTo s fd ⟨[v],[]⟩ [("_law_script",v)])/\∀base:Heap,K.In base->base.Ns mainGlobals mg->E4 l.prog w K mg base J0 14 fa fd ["_law_script"] (oO K):=by
 have ww:cA K "Barred"=wv:=by unfold cA;rw[zc7]
 have za4:cA K "GlueError"=wE:=by unfold cA;rw[zc4]
 have wS:cA K "Loose"=wP:=by unfold cA;rw[zd5]
 have wn:cA K "NoMatch"=wf:=by unfold cA;rw[zc5]
 have wr:cA K "NoNames"=zn:=by unfold cA;rw[zc6]
 have T:Txt K mg:=⟨by rw[ww];exact⟨MR X G zc7,ze2⟩,by rw[wS];exact⟨MR X G zd5,ze4⟩,by rw[wn];exact⟨MR X G zc5,zd7⟩,by rw[wr];exact⟨MR X G zc6,ze0⟩,by rw[za4];exact⟨MR X G zc4,zd0,zd3,by rw[zc9];rfl⟩,by rw[ww];exact⟨_,MR X G zc7,rfl⟩,by rw[wS];exact⟨_,MR X G zd5,rfl⟩,by rw[wn];exact⟨_,MR X G zc5,rfl⟩,by rw[wr];exact⟨_,MR X G zc6,rfl⟩,by rw[ww,za4];exact za3,by rw[ww];exact ze1,by rw[ww];exact zb8,by rw[ww,wS];exact zc2,by rw[ww,wn];exact zb3,by rw[ww,wr];exact zb1,by rw[ww];exact ut,by rw[wS,za4];exact za6,by rw[wS];exact ze6,by rw[wS,ww];exact zc0,by rw[wS];exact zc3,by rw[wS,wn];exact zb5,by rw[wS,wr];exact zb7,by rw[wS];exact za2,by rw[wn,za4];exact za0,by rw[wn];exact zd6,by rw[wn,ww];exact zb0,by rw[wn,wS];exact zb9,by rw[wn];exact za8,by rw[wn,wr];exact za7,by rw[wn];exact wT,by rw[wr,za4];exact za1,by rw[wr];exact zd9,by rw[wr,ww];exact zb4,by rw[wr,wS];exact zb6,by rw[wr,wn];exact za9,by rw[wr];exact za5,by rw[wr];exact ul,Ml X G zc8,Ml X G zf9,Ml X G zf5,Ml X G zf3,Ml X G zd4,Ml X G zg2,Ml X G zd2,Ml X G zf7,Ml X G zf2,Ml X G zg1,Ml X G zf6,Ml X G ze8,Ml X G zd8,Ml X G zf4,Ml X G ze5,Ml X G zf8,Ml X G ze9,Ml X G zg0,⟨_,MR X G zb2,_,rfl⟩,⟨_,MR X G zd1,_,rfl⟩,⟨_,MR X G zc1,_,rfl⟩⟩
 refine FH X G ZJ a57 (fun{base f fd} F=>?_) λ_ _ _ _ _ _ s v=> .of_eq rfl
 have cv:gW l.prog w K mg base:=r6 X G a0 (λF=>mI T F) (by walk_at "b")
 have cz:mq l.prog w K mg base:=r6 X G a2 (λF=>sV T F) (by walk_at "b")
 have D5:V9 l.prog w K mg base:=r6 X G a4 (λF=>wU T F) (by walk_at "b")
 have J5:Z4 l.prog w K mg base:=r6 X G a7 (λF=>mz T F) (by walk_at "b")
 have bH:my l.prog w K mg base:=r6 X G a14 (λF=>wB T F) (by walk_at "b")
 have bJ:ma l.prog w K mg base:=r6 X G a17 (λF=>wF T F) (by walk_at "b")
 have dh:rh l.prog w K mg base:=r6 X G a27 (λF=>wx T F) (by walk_at "b")
 have F4:W8 l.prog w K mg base:=r6 X G a35 (λF=>jK T F) (by walk_at "b")
 have J3:ak l.prog w K mg base:=r6 X G a36 (λF=>mW T F) (by walk_at "b")
 have bB:fm l.prog w K mg base:=r6 X G a37 (λF=>mi T F) (by walk_at "b")
 have Q9:dk l.prog w K mg base:=r6 X G a38 (λF=>pR T F) (by walk_at "b")
 have R8:bO l.prog w K mg base:=r6 X G a39 (λF=>mK T F) (by walk_at "b")
 have bw:eX l.prog w K mg base:=r6 X G a41 (λF=>lA T F) (by walk_at "b")
 have gf:kB l.prog w K mg base:=r6 X G a42 (λF=>qR T F) (by walk_at "b")
 have dg:je l.prog w K mg base:=r6 X G a45 (λF=>oZ T F) (by walk_at "b")
 have dv:ju l.prog w K mg base:=r6 X G a46 (λF=>qu T F) (by walk_at "b")
 have cO:jt l.prog w K mg base:=r6 X G a47 (λF=>pH T F) (by walk_at "b")
 have fW:kF l.prog w K mg base:=r6 X G a48 (λF=>rX T F) (by walk_at "b")
 have cZ:jD l.prog w K mg base:=r6 X G a49 (λF=>pF T F) (by walk_at "b")
 have W0:df l.prog w K mg base:=r6 X G a53 (λF=>jN T F) (by walk_at "b")
 have cG:gH l.prog w K mg base:=r6 X G a55 (λF=>mH T F) (by walk_at "b")
 have iR:nE l.prog w K mg base:=r6 X G a1 (λF=>uu T cv F) (by walk_at "b")
 have Q0:dY l.prog w K mg base:=r6 X G a3 (λF=>xh T cz F) (by walk_at "b")
 have uj:Ac l.prog w K mg base:=r6 X G a10 (λF=>Cn T D5 F) (by walk_at "b")
 have Z9:cJ l.prog w K mg base:=r6 X G a15 (λF=>iV T bH F) (by walk_at "b")
 have cD:gn l.prog w K mg base:=r6 X G a16 (λF=>mV T bH F) (by walk_at "b")
 have Q4:bz l.prog w K mg base:=r6 X G a20 (λF=>mD T J5 F) (by walk_at "b")
 have tQ:zW l.prog w K mg base:=r6 X G a22 (λF=>Cs T D5 F) (by walk_at "b")
 have eE:pM l.prog w K mg base:=r6 X G a23 (λF=>zD T D5 F) (by walk_at "b")
 have fL:ml l.prog w K mg base:=r6 X G a40 (λF=>sv T J3 F4 Q9 F) (by walk_at "b")
 have dE:jl l.prog w K mg base:=r6 X G a43 (λF=>pz T bw gf F) (by walk_at "b")
 have aO:jx l.prog w K mg base:=r6 X G a56 (λF=>pW T cO F) (by walk_at "b")
 have iI:nS l.prog w K mg base:=r6 X G a5 (λF=>tX T Q0 F) (by walk_at "b")
 have kP:sD l.prog w K mg base:=r6 X G a6 (λF=>xK T Q0 F) (by walk_at "b")
 have iD:ni l.prog w K mg base:=r6 X G a8 (λF=>tJ T J5 Q0 F) (by walk_at "b")
 have fQ:kU l.prog w K mg base:=r6 X G a9 (λF=>sx T D5 uj J5 F) (by walk_at "b")
 have fF:lZ l.prog w K mg base:=r6 X G a21 (λF=>rK T bJ Q4 F) (by walk_at "b")
 have tY:Af l.prog w K mg base:=r6 X G a24 (λF=>Bw T tQ F) (by walk_at "b")
 have oV:uL l.prog w K mg base:=r6 X G a25 (λF=>xX T eE F) (by walk_at "b")
 have Y2:fI l.prog w K mg base:=r6 X G a26 (λF=>sd T eE F) (by walk_at "b")
 have dF:jA l.prog w K mg base:=r6 X G a44 (λF=>oY T dE F) (by walk_at "b")
 have fC:mw l.prog w K mg base:=r6 X G a52 (λF=>qZ T J3 F4 R8 fL F) (by walk_at "b")
 have lX:rn l.prog w K mg base:=r6 X G a19 (λF=>xl T D5 Q4 fF F) (by walk_at "b")
 have dQ:jB l.prog w K mg base:=r6 X G a29 (λF=>qm T oV F) (by walk_at "b")
 have br:fe l.prog w K mg base:=r6 X G a30 (λF=>kW T Y2 iR F) (by walk_at "b")
 have lM:rR l.prog w K mg base:=r6 X G a33 (λF=>wq T dh tY Y2 D5 F) (by walk_at "b")
 have cu:ia l.prog w K mg base:=r6 X G a50 (λF=>mQ T bB R8 Q9 dF fW cZ F) (by walk_at "b")
 have pj:uZ l.prog w K mg base:=r6 X G a18 (λF=>zq T D5 lX F) (by walk_at "b")
 have fK:ku l.prog w K mg base:=r6 X G a51 (λF=>rP T cu dg F) (by walk_at "b")
 have pI:vS l.prog w K mg base:=r6 X G a13 (λF=>As T Z9 bJ cD D5 pj F) (by walk_at "b")
 have bc:fu l.prog w K mg base:=r6 X G a12 (λF=>lQ T pI F) (by walk_at "b")
 have aX:fb l.prog w K mg base:=r6 X G a11 (λF=>lJ T bc F) (by walk_at "b")
 have lE:rY l.prog w K mg base:=r6 X G a28 (λF=>xk T aX F) (by walk_at "b")
 have iL:nO l.prog w K mg base:=r6 X G a31 (λF=>tW T fQ iI dQ lE F) (by walk_at "b")
 have uo:yI l.prog w K mg base:=r6 X G a32 (λF=>Cg T iL br kP iD lM F) (by walk_at "b")
 have L9:ay l.prog w K mg base:=r6 X G a34 (λF=>jM T Q0 uo F) (by walk_at "b")
 have cE:gG l.prog w K mg base:=r6 X G a54 (λF=>mS T L9 F) (by walk_at "b")
 exact Fw T fC fK dv L9 aO J3 F4 cG W0 cE F
def walk {q:Program}{loose:xL}{XP:(Str->ad)->Heap->Prop}{YP:World->Heap->Prop}{d:DefRec}{K:Params->Qd}(hn:l.most=some 63)(WT:d.params.defaults=[])
(hY:∀(w:World) (h:Heap),YP w h->(K w.params).In h)
(F:∀(w:World) (mg:Str->ad) (fa:Addr) (h:Heap),(K w.params).In h->h.Ns mainGlobals mg->mg d.name=some (.ref fa)->
   ∃fd:FuncData,(∀(s:Shared) (u:Value),BindsTo s fd ⟨[u],[]⟩ [("_law_script",u)])/\∀base:Heap,(K w.params).In base->base.Ns mainGlobals mg->E4 l.prog w (K w.params) mg base J0 14 fa fd ["_law_script"] (oO (K w.params))):
  PySem.W.WalkO q loose XP YP l.row.toRowW d [] (λf vs=>PySem.call f vs):=
 L2.walk_of (n:=63) (k:=14) (x:="_law_script") (CX:=λ_=>J0) (sp:=λw=>oO (K w.params)) hn (by decide) WT ⟨rfl,by decide,by decide⟩ hY F (λ_ _ a ns hl _ hS=>⟨a,ns,rfl,hS,hl,λ_=>rfl⟩) λ_ _ _ _ _ z=>z
end K31
namespace PySem.W.Fast
def tw10279189782188889175:=Nat
def tw7992991927462230373:=Nat
def tw11294554762010194976:=Nat
def tw8404455951314242130:=Nat
def tw3089537719968981128:=Nat
def tw15696844158133318314:=Nat
def tw15312067310756586730:=Nat
def tw4185460131757212622:=Nat
def tw11036881265989626799:=Nat
def tw14366612455873076705:=Nat
def tw18118965488758005516:=Nat
def tw9024483426142505578:=Nat
def tw4998644018928414067:=Nat
def tw5832100120402800029:=Nat
def tw7431341834222981092:=Nat
def tw4553968151512384088:=Nat
def tw11895541584387445798:=Nat
def tw5579341058409725590:=Nat
def tw9783724308453861317:=Nat
def tw9982971962457251058:=Nat
def tw16781435309309573624:=Nat
def tw1583939872878546855:=Nat
def tw5376998898547139179:=Nat
def tw12643756164730363739:=Nat
def tw12694614902341510499:=Nat
def tw16704207827970798214:=Nat
def tw2522725854670880872:=Nat
def tw5328543844718880689:=Nat
def tw4001284769753715141:=Nat
def tw8251109632591666548:=Nat
def tw4631035052032448279:=Nat
def tw18054563949088249321:=Nat
def tw789155562147638608:=Nat
def tw6898211118803398659:=Nat
def tw6660880470503186787:=Nat
def tw13945302836795854310:=Nat
def tw5327078120499828039:=Nat
def tw3942975182190312422:=Nat
def tw11928867723558407380:=Nat
def tw5840700510886079769:=Nat
def tw9358024867126755153:=Nat
def tw9608375139719489180:=Nat
def tw13602105760811458000:=Nat
def tw1628372527174230172:=Nat
def tw993868165972819005:=Nat
def tw13377401654661049239:=Nat
def tw3448334866906890273:=Nat
def tw12217899877401950444:=Nat
def tw12441647003480489445:=Nat
def tw4921499641350257032:=Nat
def tw6044881725688952727:=Nat
def tw13445084008175340818:=Nat
def tw9151149605105952575:=Nat
def tw16261851074166608070:=Nat
def tw15121406358246307780:=Nat
def tw3324156228670005586:=Nat
def tw13019343861431061650:=Nat
def tw7167517361381232519:=Nat
def tw17626343129369480536:=Nat
def tw17703725310023979455:=Nat
def tw9192574271166966599:=Nat
def tw268813775114210627:=Nat
def tw14286842142306043487:=Nat
def tw5695824285692182116:=Nat
def tw13430116821488879997:=Nat
def tw2519571764699853510:=Nat
def tw8625123682254026190:=Nat
def tw9216807131685872919:=Nat
def tw660089370636155496:=Nat
def tw6357167843153132574:=Nat
def tw15750435703160860181:=Nat
def tw11547480512831659321:=Nat
def tw3490160985517072910:=Nat
def tw5828563722384517462:=Nat
def tw1428705679022591665:=Nat
def tw1883325264632195789:=Nat
def tw10271870246812269512:=Nat
def tw6402161230990184991:=Nat
def tw6999719880953555269:=Nat
def tw9526110987335188142:=Nat
def tw11648283145444725271:=Nat
def tw2981988102460395849:=Nat
def tw847494305027423808:=Nat
def tw16036221663972614934:=Nat
def tw661813652734986558:=Nat
def tw2621257452558286144:=Nat
def tw4631789308785229924:=Nat
def tw11338440373408075269:=Nat
def tw16840428926405804569:=Nat
def tw4654135780566392437:=Nat
def tw1723320434897933769:=Nat
def tw7300908015910015667:=Nat
def tw4959844511551573904:=Nat
def tw14341189746590366052:=Nat
def tw16736802908176865305:=Nat
def tw3055814533880298876:=Nat
def tw11589640441732967160:=Nat
def tw1334376266708133460:=Nat
def tw7761213353991919522:=Nat
def tw5184553901204160927:=Nat
def tw8965422358245929645:=Nat
def tw16655823024847348914:=Nat
def tw7699540949660702526:=Nat
def tw1660135488133644551:=Nat
def tw2235733025947053418:=Nat
def tw17743460856761756640:=Nat
def tw2089014310252348113:=Nat
def tw4701747841804783231:=Nat
def tw9185426838080219070:=Nat
def tw7157425500073004603:=Nat
def tw6956255151094163844:=Nat
def tw10940520824261127128:=Nat
def tw14327079706773149050:=Nat
def tw513373457100591488:=Nat
def tw13436080601426416975:=Nat
def tw13137544050504466371:=Nat
def tw13209504466044251369:=Nat
def tw1056829254049189426:=Nat
def tw3589796876858444538:=Nat
def tw7950859950448668955:=Nat
def tw2161539585643459104:=Nat
def tw14125208764976248757:=Nat
def tw16424631353987484977:=Nat
def tw6795225402125520647:=Nat
def tw65014783079971425:=Nat
def tw1157971370349889341:=Nat
def tw14164313118249494318:=Nat
def tw2170082473141890305:=Nat
def tw6917749348013601419:=Nat
def tw15354640684569495849:=Nat
def tw7045356303472664915:=Nat
def tw9724961726533462178:=Nat
def tw3994583471842535114:=Nat
def tw961857779184237566:=Nat
def tw11548055866493596766:=Nat
def tw7549780860989783482:=Nat
def tw596701990690425348:=Nat
def tw14626914792415549023:=Nat
def tw8186384588947187488:=Nat
def tw11093844023075770077:=Nat
def tw10016608044776710116:=Nat
def tw8197149774357248375:=Nat
def tw7227666274504530256:=Nat
def tw7769543233028546329:=Nat
def tw15009254586124444851:=Nat
def tw11549261647891417218:=Nat
def tw17258428056151293694:=Nat
def tw12859599399012440632:=Nat
def tw15898927557838661689:=Nat
def tw4059597590838336635:=Nat
def tw2744584074264073993:=Nat
def tw2288589083602584821:=Nat
def tw6067705887361330637:=Nat
def tw18290449854490282089:=Nat
def tw12005902709072314534:=Nat
def tw16299696205159228750:=Nat
def tw12195156665986466869:=Nat
def tw6316428129330590333:=Nat
def tw8496037829990864865:=Nat
def tw16746957201515123489:=Nat
def tw12483780065314653758:=Nat
def tw1244934761945716862:=Nat
def tw16370651993546374073:=Nat
def tw16358013518689987843:=Nat
def tw7858843764489247820:=Nat
def tw11982531778206319634:=Nat
def tw13987497290197148053:=Nat
def tw17780517536859966908:=Nat
def tw12948546703184926676:=Nat
def tw12383209448541070976:=Nat
def tw12587434129127189616:=Nat
def tw4542142772962744718:=Nat
def tw1681812148303574677:=Nat
def tw18222256208624879905:=Nat
def tw4998239135709462660:=Nat
def tw18107627777883451343:=Nat
def tw1293068629337611878:=Nat
def tw3757004500064189051:=Nat
def tw9001472497767452452:=Nat
def tw50643558128069699:=Nat
def tw7997348854560073179:=Nat
def tw10991691445905538128:=Nat
end PySem.W.Fast
open PySem PySem.W PyProof.Rows
local macro_rules| `(tactic|walk_at "F")=> `(tactic|(refine' L2.FnIn.mk' ?a ?l ?c ?k;(case a=>k_is);(case l=>k_is);(case c=>k_is);(case k=>k_is)))
local macro_rules| `(tactic|walk_at "N")=> `(tactic|(refine' L2.ExN.mk ?a ?b ?d ?e ?f ?g ?h;(case a=>k_is);(case b=>k_is);(case d=>k_is);(case e=>k_is);(case f=>k_is);(case g=>k_is);(case h=>k_is)))
set_option maxRecDepth 100000 in
set_option maxHeartbeats 0 in
theorem PySem.Challenge.cw_gluework_k31_rows_gone_through_holds : PySem.Challenge.rw_gluework_k31_rows_gone_through.Holds := by
 w_on;o_law;k_head;(case hw=>w_witness2);k_fill;refine K31.walk (l:=PySem.Challenge.rw_gluework_k31_rows_gone_through) rfl rfl (λw h Y=>PySem.W.kIn_of Y) ?F;case F=>
  intro w mg fa h KX G hmg
  refine' K31.all_mk KX G hmg ?a0 ?a1 ?a2 ?a3 ?a4 ?a5 ?a6 ?a7 ?a8 ?a9 ?a10 ?a11 ?a12 ?a13 ?a14 ?a15 ?a16 ?a17 ?a18 ?a19 ?a20 ?a21 ?a22 ?a23 ?a24 ?a25 ?a26 ?a27 ?a28 ?a29 ?a30 ?a31 ?a32 ?a33 ?a34 ?a35 ?a36 ?a37 ?a38 ?a39 ?a40 ?a41 ?a42 ?a43 ?a44 ?a45 ?a46 ?a47 ?a48 ?a49 ?a50 ?a51 ?a52 ?a53 ?a54 ?a55 ?a56 ?a57 ?zc8 ?zf9 ?zf5 ?zf3 ?zd4 ?zg2 ?zd2 ?zf7 ?zf2 ?zg1 ?zf6 ?ze8 ?zd8 ?zf4 ?ze5 ?zf8 ?ze9 ?zg0 ?zb2 ?zd1 ?zc1 ?zc7 ?zc4 ?zd5 ?zc5 ?zc6 ?ze2 ?ze4 ?zd7 ?ze0 ?zd0 ?zd3 ?zc9 ?za3 ?ze1 ?zb8 ?zc2 ?zb3 ?zb1 ?ut ?za6 ?ze6 ?zc0 ?zc3 ?zb5 ?zb7 ?za2 ?za0 ?zd6 ?zb0 ?zb9 ?za8 ?za7 ?wT ?za1 ?zd9 ?zb4 ?zb6 ?za9 ?za5 ?ul;(case a0=>walk_at "F");(case a1=>walk_at "F");(case a2=>walk_at "F");(case a3=>walk_at "F");(case a4=>walk_at "F");(case a5=>walk_at "F");(case a6=>walk_at "F");(case a7=>walk_at "F");(case a8=>walk_at "F");(case a9=>walk_at "F");(case a10=>walk_at "F");(case a11=>walk_at "F");(case a12=>walk_at "F");(case a13=>walk_at "F");(case a14=>walk_at "F");(case a15=>walk_at "F");(case a16=>walk_at "F");(case a17=>walk_at "F");(case a18=>walk_at "F");(case a19=>walk_at "F");(case a20=>walk_at "F");(case a21=>walk_at "F");(case a22=>walk_at "F");(case a23=>walk_at "F");(case a24=>walk_at "F");(case a25=>walk_at "F");(case a26=>walk_at "F");(case a27=>walk_at "F");(case a28=>walk_at "F");(case a29=>walk_at "F");(case a30=>walk_at "F");(case a31=>walk_at "F");(case a32=>walk_at "F");(case a33=>walk_at "F");(case a34=>walk_at "F");(case a35=>walk_at "F");(case a36=>walk_at "F");(case a37=>walk_at "F");(case a38=>walk_at "F");(case a39=>walk_at "F");(case a40=>walk_at "F");(case a41=>walk_at "F");(case a42=>walk_at "F");(case a43=>walk_at "F");(case a44=>walk_at "F");(case a45=>walk_at "F");(case a46=>walk_at "F");(case a47=>walk_at "F");(case a48=>walk_at "F");(case a49=>walk_at "F");(case a50=>walk_at "F");(case a51=>walk_at "F");(case a52=>walk_at "F");(case a53=>walk_at "F");(case a54=>walk_at "F");(case a55=>walk_at "F");(case a56=>walk_at "F");(case a57=>walk_at "F");(case zc8|zf9|zf5|zf3|zd4|zg2|zd2|zf7|zf2|zg1|zf6|ze8|zd8|zf4|ze5|zf8|ze9|zg0|zb2|zd1|zc1|zc7|zc4|zd5|zc5|zc6=>k_is);(case ze2=>k_exc);(case ze4=>k_exc);(case zd7=>k_exc);(case ze0=>k_exc);(case zd0|zd3|zc9|za3=>k_is);(case ze1=>walk_at "N");(case zb8=>kit_is);(case zc2=>kit_is);(case zb3=>kit_is);(case zb1=>kit_is);(case ut=>kit_is);(case za6=>k_is);(case ze6=>walk_at "N");(case zc0=>kit_is);(case zc3=>kit_is);(case zb5=>kit_is);(case zb7=>kit_is);(case za2=>kit_is);(case za0=>k_is);(case zd6=>walk_at "N");(case zb0=>kit_is);(case zb9=>kit_is);(case za8=>kit_is);(case za7=>kit_is);(case wT=>kit_is);(case za1=>k_is);(case zd9=>walk_at "N");(case zb4=>kit_is);(case zb6=>kit_is);(case za9=>kit_is);(case za5=>kit_is);(case ul=>kit_is)
