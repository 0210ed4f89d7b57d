import PyProof.Rows.All
import Wide.All
import OpenK.AllK
import Wide.FinOn
import PyProof.EqAt
import PyProof.EqKinds
import PyProof.TupleCall
import PyProof.NeKinds
import PyProof.AttrMissHeap
import PyProof.ExcClass3
import PyProof.RulesAs
import PyProof.Rows.FStr
import OpenK.KOwn
import PyProof.NsDelKeeps
import PyProof.Rows.Catch
import PyProof.Rows.SetFrom
import PyProof.SetRoads
import PyProof.FactsAll.NoneType
import KE.KRevIter
import PyProof.ZipIter
import KE.KItemsList
import PyProof.MinMaxWalk
import PyProof.WalksMore
import PyProof.FString5
import PyProof.Rows.SortShellK
import PySem.Challenge.RW_gluework_k63_choices
abbrev Qc:=PySem.W.Frag
abbrev HH:=@List.getElem?_eq_getElem
abbrev HI:=@List.length_map
abbrev HJ:=@Nat.le_refl
abbrev HK:=@List.getElem?_map
abbrev HL:=@List.map_append
abbrev HP:=@List.mem_map
abbrev HQ:=@List.length_append
abbrev HR:=@PySem.wpAny_bind
abbrev HS:=@PySem.Heap.get?_push_of_some
abbrev HU:=@List.mem_append_left
abbrev HV:=@List.length_take
abbrev HW:=@List.take_of_length_le
abbrev HX:=@List.mem_of_getElem?
abbrev HY:=@List.length_filter_le
abbrev HZ:=@PySem.Heap.lt_size
abbrev Ia:=@List.mem_append_right
abbrev Ib:=@Nat.lt_of_lt_of_le
abbrev Ic:=@List.mem_append
abbrev Ie:=@Option.some.inj
abbrev Ig:=@PySem.wpAny_pure
abbrev Ih:=@List.mem_singleton
abbrev Ii:=@decide_eq_true_eq
abbrev Ij:=@List.mem_cons_of_mem
abbrev Ik:=@List.mem_filter
abbrev Il:=@List.length_singleton
abbrev Im:=@Nat.ne_of_lt
abbrev Io:=@Bool.and_eq_true
abbrev Ip:=@Nat.le_trans
abbrev Iq:=@PySem.Heap.get?_push_size
abbrev Ir:=@List.size_toArray
abbrev Iu:=@List.nodup_append
abbrev Iv:=@decide_eq_false
abbrev Iw:=@List.mem_cons_self
abbrev Iy:=@List.map_map
abbrev Iz:=@List.mem_cons
abbrev IA:=@decide_eq_true
abbrev IB:=@Bool.false_ne_true
abbrev IC:=@PySem.Paired.length
abbrev ID:=@List.getElem_mem
abbrev IE:=@List.take_succ
abbrev IF:=@List.append_assoc
abbrev IG:=@List.getD_eq_getElem?_getD
abbrev IH:=@List.all_eq_true
abbrev II:=@Bool.eq_iff_iff
abbrev IK:=@PySem.PassesOwn.never
abbrev IL:=@Option.map_eq_some_iff
abbrev IM:=@List.nodup_cons
abbrev IP:=@List.map_cons
abbrev IQ:=@List.filter_cons_of_pos
abbrev IS:=@List.filter_append
abbrev IT:=@PySem.F.plainAttrs_list
abbrev IU:=@PySem.W.mg_none_of
abbrev IV:=@List.length_cons
abbrev IW:=@List.filter_cons_of_neg
abbrev IX:=@List.getElem?_eq_none
abbrev IY:=@of_decide_eq_true
abbrev IZ:=@PySem.F.slot_list_append
abbrev Ja:=@PySem.F.type_list_append
abbrev Jb:=@Int.emod_lt_of_pos
abbrev Jc:=@PySem.F.plainAttrs_dict
abbrev Jd:=@decide_eq_false_iff_not
abbrev Je:=@List.getElem?_append_left
abbrev Jf:=@List.filter_sublist
abbrev Jg:=@Int.emod_nonneg
abbrev Jh:=@List.drop_eq_getElem_cons
abbrev Ji:=@PySem.wpAny_holding
abbrev Jj:=@PySem.Around.under_plainId
abbrev Jk:=@PyProof.Rows.callWith_type1
abbrev Jl:=@List.append_nil
abbrev Jm:=@congrArg
abbrev Jn:=@Bool.not_eq_true'
abbrev Jo:=@Nat.lt_irrefl
abbrev Jp:=@List.length_replicate
abbrev Jq:=@List.any_eq_true
abbrev Jr:=@List.getElem?_append_right
abbrev Js:=@List.getElem?_eq_some_iff
abbrev Jt:=@PySem.codeAny_builtin
abbrev Ju:=@List.lookup_cons
abbrev Jv:=@Nat.zero_le
abbrev Jw:=@PySem.call_meetsIn
abbrev Jx:=@Sum.inr.inj
abbrev Jy:=@PySem.W.mg_of
abbrev Jz:=@List.filter_nil
abbrev JA:=@Nat.lt_or_ge
abbrev JB:=@PySem.Calls.callWith_builtin
abbrev JC:=@Ne.symm
abbrev JD:=@PySem.wpAny_truthy_bool
abbrev JE:=@List.map_congr_left
abbrev JF:=@List.flatMap_cons
abbrev JG:=@List.nodup_nil
abbrev JH:=@PySem.F.slot_dict_get
abbrev JI:=@Int.zero_add
abbrev JJ:=@PySem.tupleKind_room_in1
abbrev JK:=@List.all_map
abbrev JL:=@List.take_sublist
abbrev JM:=@beq_eq_false_iff_ne
abbrev JN:=@PySem.W.kia_one
abbrev JO:=@PySem.wpAny_richCompare_same_room
abbrev JP:=@PySem.F.slot_NoneType_hash
abbrev JQ:=@PySem.wpAny_Call_Name_kw
abbrev JR:=@PySem.plainId_quiet
abbrev JS:=@Prod.mk.inj
abbrev JT:=@List.getElem?_of_mem
abbrev JU:=@PySem.wpAny_passesOwn
abbrev JV:=@List.getElem?_take_of_lt
abbrev JW:=@PyProof.Rows.slot_tuple_getitem
abbrev JX:=@PySem.wpAny_newObj_type
abbrev JY:=@Option.map_some
abbrev JZ:=@List.range_succ
abbrev Ka:=@PySem.F.slot_dict_update
abbrev Kb:=@PySem.F.slot_dict_values
abbrev Kc:=@List.Pairwise.map
abbrev Kd:=@List.length_zip
abbrev Ke:=@List.length_range
abbrev Kf:=@List.filterMap_cons
abbrev Kg:=@PySem.mem_of_lookup
abbrev Kh:=@List.all_cons
abbrev Ki:=@PySem.wpAny_getItem_str_slice
abbrev Kj:=@List.cons.inj
abbrev Kk:=@Array.toList_append
abbrev Kl:=@List.length_drop
abbrev Km:=@List.filter_cons
abbrev Kn:=@PySem.F.entry_dict_get
abbrev Ko:=@List.drop_of_length_le
abbrev Kp:=@PySem.Calls.spliced_cons
abbrev Kq:=@List.getElem?_drop
abbrev Kr:=@List.filter_filter
abbrev Ks:=@Nat.le_of_lt
abbrev Kt:=@PySem.wpAny_field
abbrev Ku:=@PySem.SeqAt.EqAt.same
abbrev Kv:=@Array.getElem?_toList
abbrev Kw:=@List.find?_cons
abbrev Kx:=@List.foldl_cons
abbrev Ky:=@PySem.F.called_set
abbrev Kz:=@List.perm_append_comm
abbrev KA:=@List.take_append_drop
abbrev KC:=@PySem.wpAny_pyIter_list
abbrev KD:=@PySem.Calls.evalArgs_plain
abbrev KG:=@List.mem_range
abbrev KH:=@List.getElem?_zip_eq_some
abbrev KI:=@List.pairwise_iff_getElem
abbrev KJ:=@PySem.wpAny_call_entry
abbrev KL:=@Option.getD_some
abbrev KN:=@PySem.W.hideAll_get
abbrev KO:=@Array.length_toList
abbrev KP:=@PySem.SeqAt.RcAt.lists_lengths
abbrev KQ:=@PySem.F.slot_list_getattribute
abbrev KR:=@PySem.F.type_dict_values
abbrev KS:=@PySem.F.type_dict_update
abbrev KU:=@PySem.wpAny_execs_nil
abbrev KW:=@List.getElem?_replicate
abbrev KY:=@PySem.wpAny_callSpecial?_slot
abbrev KZ:=@PySem.wpAny_Call_method0_late
abbrev La:=@List.length_nil
abbrev Lb:=@List.forIn_cons
abbrev Lc:=@Bool.false_eq_true
abbrev Ld:=@Bool.and_true
abbrev Lf:=@PyProof.Rows.F.plain_set_update_loop
abbrev Lg:=@PySem.F.slot_zip_getattribute
abbrev Lh:=@List.pairwise_singleton
abbrev Li:=@List.pairwise_cons
abbrev Lj:=@Nat.min_eq_left
abbrev Ll:=@PySem.wpAny_pyNext_list_item
abbrev Lm:=@List.range_succ_eq_map
abbrev Ln:=@PySem.wpAny_nextOf_list_item
abbrev Lo:=@List.filter_eq_nil_iff
abbrev Lp:=@PySem.Calls.spliced_nil
abbrev Lq:=@PySem.atKey_none_of_get
abbrev Ls:=@List.filter_congr
abbrev Lu:=@PySem.wpAny_pyNext_list_end
abbrev Lv:=@PySem.codeAny_mono
abbrev Lw:=@Bool.beq_eq_decide_eq
abbrev Lx:=@PySem.builtinLookup_eq_fast
abbrev Ly:=@PySem.wpAny_notOrdered_dict
abbrev Lz:=@List.Perm.append_left
abbrev LB:=@List.eq_nil_of_length_eq_zero
abbrev LC:=@List.drop_eq_nil_iff
abbrev LD:=@List.mem_of_mem_take
abbrev LF:=@Nat.pow_le_pow_right
abbrev LG:=@List.any_cons
abbrev LH:=@PySem.wpAny_mono
abbrev LJ:=@List.of_mem_zip
abbrev LK:=@PySem.evalArgs_none
abbrev LL:=@PySem.post_val_or_str
abbrev LM:=@Nat.le_succ
abbrev LN:=@PySem.F.slot_zip_next
abbrev LO:=@PySem.Heap.SameBut.update
abbrev LP:=@List.filter_eq_self
abbrev LQ:=@Nat.pow_le_pow_left
abbrev LS:=@PySem.Calls.Name_function_global
abbrev LU:=@PySem.SeqAt.EqAt.int_str
abbrev LV:=@PySem.SeqAt.EqAt.str_int
abbrev LW:=@PySem.W.of_hideAll
abbrev LY:=@Nat.ne_of_gt
abbrev LZ:=@List.mem_filterMap
abbrev Ma:=@PySem.wpAny_typeOf
abbrev Mb:=@List.map_nil
abbrev Mc:=@Nat.lt_of_le_of_lt
abbrev Md:=@List.map_id'
abbrev Me:=@List.getElem?_take
abbrev Mf:=@PySem.wpAny_seqItems
abbrev Mg:=@List.drop_zero
abbrev Mh:=@List.forIn_nil
abbrev Mi:=@List.lt_irrefl
abbrev Mj:=@List.Perm.refl
abbrev Ml:=@Option.isSome_iff_exists
abbrev Mm:=@PySem.F.args_tuple_add_2
abbrev Mn:=@PySem.call_meets
abbrev Mo:=@Option.isSome_map
abbrev Mp:=@Option.some.injEq
abbrev Mq:=@PySem.wpAny_comprehension_free
abbrev Mr:=@PySem.AutoSeq1.sub_tuple_tuple
abbrev Ms:=@PySem.F.entry_tuple_add
abbrev Mt:=@PySem.F.slot_dict_clear
abbrev Mu:=@PySem.F.args_dict_get_2
abbrev Mv:=@PySem.F.args_dict_get_3
abbrev Mw:=@Int.eq_ofNat_of_zero_le
abbrev Mz:=@PySem.MeetsSeq3.entry_eq_loop
abbrev MA:=@List.lt_asymm
abbrev MB:=@List.sum_cons
abbrev MC:=@Nat.min_le_right
abbrev MD:=@List.cons_append
abbrev ME:=@beq_self_eq_true
abbrev MF:=@List.mem_reverse
abbrev MG:=@PySem.wpAny_pyIter_zip
abbrev MH:=@List.countP_cons
abbrev MI:=@List.getElem?_set_self
abbrev MJ:=@PySem.W.cellsFrom_some
abbrev MK:=@PySem.F.slot_tuple_add
abbrev MR:=@Nat.lt_trans
abbrev MS:=@PySem.Heap.DictOf.new
abbrev MT:=@PySem.F.type_dict_get
abbrev MU:=@List.nil_append
abbrev MV:=@Bool.or_eq_true
abbrev MW:=@PySem.Txt.slice_le
abbrev MY:=@PySem.F.slot_tuple_eq
abbrev MZ:=@PySem.F.slot_tuple_ne
abbrev Na:=@PySem.typeLookup_type
abbrev Nc:=@if_false
abbrev Nd:=@PySem.typeIs_str
abbrev Nf:=@List.getElem?_set_ne
abbrev Nj:=@PySem.F.slot_list_eq
abbrev Nk:=@PySem.F.slot_list_ne
abbrev Nn:=@Nat.mul_le_mul_right
abbrev Np:=@List.replicate_succ'
abbrev Nq:=@List.mem_of_mem_drop
abbrev Nr:=@Bool.and_false
abbrev Nt:=@PySem.Heap.size_push
abbrev Nu:=@List.tail_drop
abbrev Nv:=@Nat.mul_le_mul
abbrev Nw:=@PySem.sizeLine_eq
abbrev NC:=@List.getElem_of_mem
abbrev NF:=@PySem.W.looks_subIn
abbrev NG:=@List.reverse_append
abbrev NH:=@List.flatMap_append
abbrev NI:=@List.getElem?_range
abbrev NJ:=@Array.append_assoc
abbrev NK:=@PySem.wpAny_standAt
abbrev NL:=@PySem.W.callWith_K
abbrev NP:=@PySem.strLen_append
abbrev NR:=@Array.forIn_toList
abbrev NS:=@Bool.true_and
abbrev NT:=@List.mem_replicate
abbrev NU:=@Int.ofNat_inj
abbrev NV:=@List.map_replicate
abbrev NW:=@List.map_take
abbrev NZ:=@Int.toNat_natCast
abbrev Oa:=@if_true
abbrev Oe:=@PySem.W.kitx_dict
abbrev Oi:=@List.any_eq_false
abbrev Om:=@Nat.lt_trichotomy
abbrev Ot:=@PySem.wpAny_rule
abbrev Ow:=@List.ext_getElem?
abbrev Ox:=@List.getElem?_inj
abbrev Oy:=@List.drop_sublist
abbrev Oz:=@List.pairwise_map
abbrev OB:=@Int.lt_trans
abbrev Po:=@Nat.add_mul
abbrev QZ:=@beq_iff_eq
set_option Elab.async false
set_option linter.all false
set_option maxRecDepth 100000
namespace L2
open PySem PySem.Spec PyProof.Rows
abbrev j3:=Sum Int Str
def cJ:j3->Value->Bool
 | .inl k,v=>Value.isInt k v
 | .inr x,v=>Value.isStrOf x v
def Dx (w:World):j3->Int
 | .inl k=>hashInt k
 | .inr x=>hashStr w x
theorem B1:∀{k:j3} {v:Value},cJ k v=true->(∃i t,k=Sum.inl i/\v=Value.int i t)\/(∃x t,k=Sum.inr x/\v=Value.str x t)
 | .inl i,v,h=>by
  obtain⟨t,e⟩:=Value.isInt_shape (k:=i) (v:=v) h;exact .inl ⟨i,t,rfl,e⟩
 | .inr x,v,h=>by
  obtain⟨t,e⟩:=Value.isStrOf_shape (x:=x) (v:=v) h;exact .inr ⟨x,t,rfl,e⟩
theorem sY (i:Int)(t:Tok):cJ (.inl i) (.int i t)=true:=by simp [cJ,Value.isInt]
theorem tQ (x:Str)(t:Tok):cJ (.inr x) (.str x t)=true:=by simp [cJ,Value.isStrOf]
theorem xc (a b:Int):decide ((Sum.inl a:j3)=Sum.inl b)=(a==b):=by
 by_cases e:a=b
 .subst e;simp
 .have h:¬(Sum.inl a:j3)=Sum.inl b:=λq=>e (Sum.inl.inj q);rw[Iv h];exact(JM.mpr e).symm
theorem vA (a b:Str):decide ((Sum.inr a:j3)=Sum.inr b)=decide (a=b):=by
 by_cases e:a=b
 .subst e;simp
 .have h:¬(Sum.inr a:j3)=Sum.inr b:=λq=>e (Jx q);rw[Iv h,Iv e]
theorem vJ (a:Int)(b:Str):decide ((Sum.inl a:j3)=Sum.inr b)=false:=Iv (λq=>nomatch q)
theorem xG (a:Str)(b:Int):decide ((Sum.inr a:j3)=Sum.inl b)=false:=Iv (λq=>nomatch q)
def l0 (prog:Program)(w:World):PySem.KeyKind prog w j3 where
 is:=cJ
 hash:=Dx w
 inj:=λv a b ha hb=>by
  rcases B1 ha with⟨i,t,rfl,rfl⟩|⟨x,t,rfl,rfl⟩
  .rcases B1 hb with⟨j,u,rfl,e⟩|⟨y,u,rfl,e⟩
   .injection e with e1 _;rw[e1]
   .exact nomatch e
  .rcases B1 hb with⟨j,u,rfl,e⟩|⟨y,u,rfl,e⟩
   .exact nomatch e
   .injection e with e1 _;rw[e1]
 byValue:=λk v h=>by
  rcases B1 h with⟨i,t,rfl,rfl⟩|⟨x,t,rfl,rfl⟩<;>rfl
 pyHash:=λhv h=>by
  rcases B1 hv with⟨i,t,rfl,rfl⟩|⟨x,t,rfl,rfl⟩
  .exact wpAny_pyHash_int h
  .exact wpAny_pyHash_str h
 eqBool:=λhu hv h=>by
  rcases B1 hu with⟨i,t,rfl,rfl⟩|⟨x,t,rfl,rfl⟩
  .rcases B1 hv with⟨j,u,rfl,rfl⟩|⟨y,u,rfl,rfl⟩
   .rw[xc] at h;exact wpAny_eqBool_int h
   .rw[vJ] at h;exact LU i t y u _ _ _ _ h
  .rcases B1 hv with⟨j,u,rfl,rfl⟩|⟨y,u,rfl,rfl⟩
   .rw[xG] at h;exact LV x t j u _ _ _ _ h
   .rw[vA] at h;exact wpAny_eqBool_str h
 «strs»:=λk x t v h=>by
  rcases B1 h with⟨i,u,rfl,e⟩|⟨y,u,rfl,e⟩
  .exact nomatch e
  .injection e with e1 _
   subst e1;cases v<;>rfl
theorem nN (prog:Program)(w:World)(i:Int)(t:Tok):(l0 prog w).is (.inl i) (.int i t)=true:=sY i t
theorem oj (prog:Program)(w:World)(x:Str)(t:Tok):(l0 prog w).is (.inr x) (.str x t)=true:=tQ x t
inductive V where
 |non|bl (b:Bool)|int (i:Int)|str (x:Str)|byt (b:Array UInt8)|flt (b:UInt64)|ref (a:Addr)|ty (n:String)
 deriving DecidableEq
def RelV:V->Value->Prop
 | .non,u=>u=Value.none
 | .bl b,u=>u=Value.bool b
 | .int i,u=>∃t,u=Value.int i t
 | .str x,u=>∃t,u=Value.str x t
 | .byt b,u=>∃t,u=Value.bytes b t
 | .flt b,u=>∃t,u=Value.float b t
 | .ref a,u=>u=Value.ref a
 | .ty n,u=>u=Value.type n
abbrev Vals:List V->List Value->Prop:=Paired RelV
theorem Vals.length {xs:List V}{us:List Value}(r:Vals xs us):xs.length=us.length:=IC r
theorem Vals.get:∀{xs:List V} {us:List Value} {i:Nat} {x:V},Vals xs us->xs[i]?=some x->∃u,us[i]?=some u/\RelV x u
 |_,_,_,_,.nil,e=>by simp at e
 |_,_,0,_,.cons r _,e=>by simp at e;subst e;exact⟨_,rfl,r⟩
 |_,_,i+1,x,.cons _ t,e=>by
  obtain⟨u,h1,h2⟩:=Vals.get (i:=i) (x:=x) t (by simpa using e);exact⟨u,by simpa using h1,h2⟩
theorem Vals.set {x:V}{u:Value}(r:RelV x u):∀{xs:List V} {us:List Value} (i:Nat),Vals xs us->Vals (xs.set i x) (us.set i u)
 |_,_,_,.nil=> .nil
 |_,_,0,.cons _ t=> .cons r t
 |_,_,i+1,.cons q t=> .cons q (Vals.set r i t)
theorem Vals.append:∀{xs ys:List V} {us ws:List Value},Vals xs us->Vals ys ws->Vals (xs++ys) (us++ws)
 |_,_,_,_,.nil,s=>s
 |_,_,_,_,.cons r t,s=> .cons r (Vals.append t s)
theorem Vals.take:∀{xs:List V} {us:List Value} (n:Nat),Vals xs us->Vals (xs.take n) (us.take n)
 |_,_,0,_=> .nil
 |_,_,_+1,.nil=> .nil
 |_,_,n+1,.cons r t=> .cons r (Vals.take n t)
theorem Vals.drop:∀{xs:List V} {us:List Value} (n:Nat),Vals xs us->Vals (xs.drop n) (us.drop n)
 |_,_,0,r=>r
 |_,_,_+1,.nil=> .nil
 |_,_,n+1,.cons _ t=>Vals.drop n t
def RelO:Option V->Option Value->Prop
 |some v,some u=>RelV v u
 |none,none=>True
 |_,_=>False
def KV {κ:Type}:List (κ×V)->List (κ×Value)->Prop:=Paired fun(p:κ×V) (q:κ×Value)=>p.1=q.1/\RelV p.2 q.2
def kV:j3->V
 | .inl i=> .int i
 | .inr x=> .str x
inductive HO where
 |lst (xs:List V)
 |tup (xs:List V)
 |dK (kvs:List (j3×V))|dT (kvs:List (List j3×V))
 |set (S:Int->Bool) (n:Nat)
 |ins (C dx:Addr) (fs:List (Str×V))
 |own (x:Addr)
 |xd (fs:List (Str×V))
 |met (f x:Addr)
 |rng (lo hi:Int)
 |frz (o:Obj) (u:HO)
 |tbl (ps:Array Value)
 |ext (φ:Heap->Prop)
abbrev Hp:=Addr->Option HO
def p0 (H:Hp)(a:Addr)(o:HO):Hp:=λb=>if b=a then some o else H b
theorem b9 {H:Hp}{a:Addr}{o:HO}:p0 H a o a=some o:=by unfold p0;rw[if_pos rfl]
theorem b7 {H:Hp}{a b:Addr}{o:HO}(h:b≠a):p0 H a o b=H b:=by unfold p0;rw[if_neg h]
theorem zY {H:Hp}{a b:Addr}{o u:HO}(h:H a=some o)(h':H b=some u)(d:o≠u):a≠b:=by
 intro e;subst e;rw[h] at h';exact d (Ie h')
theorem i8 {H:Hp}{a b:Addr}{o:HO}(h:H a=some o)(h':H b=none):a≠b:=by
 intro e;subst e;rw[h] at h';cases h'
section
variable (P:Program) (w:World)
def ObjOk (H:Hp)(h:Heap)(a:Addr):HO->Prop
 | .lst xs=>xs.length<=sizeLine/\∃(a_:List Value) (n:Nat),Vals xs a_/\h.get? a=some {cls:= .type "list",data:= .seq a_.toArray n}
 | .tup xs=>xs.length<=sizeLine/\∃a_:List Value,Vals xs a_/\IsTup h a a_.toArray
 | .dK kvs=>kvs.length<=sizeLine/\(a==sysModules)=false/\∃vs,KV kvs vs/\h.DictOf (l0 P w) a vs
 | .dT kvs=>kvs.length<=sizeLine/\(a==sysModules)=false/\∃xs:List (List j3×Addr×Value),
   Paired (fun(p:List j3×V) (q:List j3×Addr×Value)=>p.1=q.1/\H q.2.1=some (.tup (p.1.map kV))/\RelV p.2 q.2.2) kvs xs/\
   ∃o es ep,h.get? a=some o/\o.ExactDict/\o.data= .dict es ep/\es.toList=xs.map (entryOfKey (tupleKind (l0 P w)))/\(xs.map (·.1)).Nodup
 | .set S n=>h.SetOf (intKind P w) a S n
 | .ins C dx fs=>H dx=some (.own a)/\fs.length<=1000/\dx≠a/\h.get? a=some (PySem.W.instObj C dx)/\
   ∃mA,h.Ns1 dx mA/\(∀f,RelO (fs.lookup f) (mA f))/\PySem.Within mA (fs.map (·.1))
 | .own _=>∃o,h.get? a=some o
 | .xd fs=>∃mA,h.Ns1 a mA/\∀f,RelO (fs.lookup f) (mA f)
 | .rng lo hi=>∃t u v,h.get? a=some {cls:= .type "range",data:= .fields #[.int lo t,.int hi u,.int 1 v]}
 | .frz o u=>h.get? a=some o/\ObjOk H h a u
 | .tbl ps=>h.get? a=some {cls:= .none,data:= .fields ps}
 | .met f x=>h.get? a=some (PySem.W.methodObj (.ref f) (.ref x))
 | .ext φ=>φ h/\(∃o,h.get? a=some o)/\∀h1 h2:Heap,φ h1->(∀o,h1.get? a=some o->h2.get? a=some o)->φ h2
def HOk (H:Hp)(h:Heap):Prop:=∀a o,H a=some o->ObjOk P w H h a o
end
section
variable {P:Program} {w:World} {H H':Hp} {h h':Heap} {a:Addr} {o:HO}
theorem ObjOk.lt (x:ObjOk P w H h a o):a<h.objs.size:=by
 cases o with
 |lst xs=>obtain⟨_,_,_,_,e⟩:=x;exact HZ e
 |tup xs=>obtain⟨_,_,_,p⟩:=x;exact p.lt
 |dK kvs=>obtain⟨_,_,_,_,o,_,_,e,_⟩:=x;exact HZ e
 |dT kvs=>obtain⟨_,_,_,_,o,_,_,e,_⟩:=x;exact HZ e
 |set S n=>obtain⟨o,_,_,_,e,_⟩:=x;exact HZ e
 |ins C dx fs=>obtain⟨_,_,_,e,_⟩:=x;exact HZ e
 |own y=>obtain⟨_,e⟩:=x;exact HZ e
 |xd fs=>obtain⟨_,⟨_,_,_,e,_⟩,_⟩:=x;exact HZ e
 |rng lo hi=>obtain⟨_,_,_,e⟩:=x;exact HZ e
 |frz ob u=>obtain⟨e,_⟩:=x;exact HZ e
 |tbl ps=>exact HZ (show h.get? a=some _ from x)
 |met f y=>exact HZ (show h.get? a=some _ from x)
 |ext φ=>obtain⟨_,⟨_,e⟩,_⟩:=x;exact HZ e
theorem Paired.mapP {α β:Type}{F G:α->β->Prop}:∀{l₁:List α} {l₂:List β},Paired F l₁ l₂->(∀a b,F a b->G a b)->Paired G l₁ l₂
 |_,_,.nil,_=> .nil
 |_,_,.cons r t,f=> .cons (f _ _ r) (Paired.mapP t f)
theorem Paired.imp' {α β:Type}{F G:α->β->Prop}(f:∀a b,F a b->G a b){l₁:List α}{l₂:List β}(r:Paired F l₁ l₂):Paired G l₁ l₂:=Paired.mapP r f
theorem ObjOk.stay (x:ObjOk P w H h a o)(k:∀b u,(b=a\/H b=some (.own a))->h.get? b=some u->h'.get? b=some u)
  (ho:∀b,H b=some (.own a)->H' b=some (.own a)) (ht:∀b xs,H b=some (.tup xs)->H' b=some (.tup xs)):ObjOk P w H' h' a o:=by
 induction o with
 |lst xs=>obtain⟨z,a_,n,r,e⟩:=x;exact⟨z,a_,n,r,k _ _ (.inl rfl) e⟩
 |tup xs=>obtain⟨z,a_,r,ob,e,c⟩:=x;exact⟨z,a_,r,ob,k _ _ (.inl rfl) e,c⟩
 |dK kvs=>obtain⟨z,y,vs,r,ob,es,ep,e,c⟩:=x;exact⟨z,y,vs,r,ob,es,ep,k _ _ (.inl rfl) e,c⟩
 |dT kvs=>
  obtain⟨z,y,xs,r,ob,es,ep,e,c⟩:=x
  exact⟨z,y,xs,Paired.mapP r λp q z=>⟨z.1,ht _ _ z.2.1,z.2.2⟩,ob,es,ep,k _ _ (.inl rfl) e,c⟩
 |set S n=>obtain⟨ob,es,ep,t,e,c⟩:=x;exact⟨ob,es,ep,t,k _ _ (.inl rfl) e,c⟩
 |ins C dx fs=>
  obtain⟨d,z,ne,e,mA,⟨od,es,ep,e2,c⟩,r⟩:=x
  exact⟨ho _ d,z,ne,k _ _ (.inl rfl) e,mA,⟨od,es,ep,k _ _ (.inr d) e2,c⟩,r⟩
 |own y=>obtain⟨ob,e⟩:=x;exact⟨ob,k _ _ (.inl rfl) e⟩
 |xd fs=>obtain⟨mA,⟨od,es,ep,e,c⟩,r⟩:=x;exact⟨mA,⟨od,es,ep,k _ _ (.inl rfl) e,c⟩,r⟩
 |rng lo hi=>obtain⟨t,u,v,e⟩:=x;exact⟨t,u,v,k _ _ (.inl rfl) e⟩
 |frz ob u ih=>obtain⟨e,q⟩:=x;exact⟨k _ _ (.inl rfl) e,ih q⟩
 |tbl ps=>
  have e:h.get? a=some {cls:= .none,data:= .fields ps}:=x
  show h'.get? a=some {cls:= .none,data:= .fields ps}
  exact k a _ (.inl rfl) e
 |met f y=>
  have e:h.get? a=some (PySem.W.methodObj (.ref f) (.ref y)):=x
  show h'.get? a=some (PySem.W.methodObj (.ref f) (.ref y))
  exact k a _ (.inl rfl) e
 |ext φ=>obtain⟨p,⟨o,e⟩,st⟩:=x;exact⟨st _ _ p λo q=>k _ _ (.inl rfl) q,⟨o,k _ _ (.inl rfl) e⟩,st⟩
theorem HOk.lt (x:HOk P w H h)(e:H a=some o):a<h.objs.size:=(x a o e).lt
theorem HOk.fresh (x:HOk P w H h)(e:h.objs.size<=a):H a=none:=by
 cases q:H a with
 |none=>rfl
 |some u=>exact absurd (Ib (x.lt q) e) (Jo _)
theorem HOk.kept (x:HOk P w H h)(k:∀b u,h.get? b=some u->h'.get? b=some u):HOk P w H h':=λa o e=>
 (x a o e).stay (λb u _ q=>k b u q) (λ_ q=>q) λ_ _ q=>q
theorem HOk.laid (x:HOk P w H h)(k:∀b u,h.get? b=some u->h'.get? b=some u)(hp:h.objs.size<=a)(new:ObjOk P w (p0 H a o) h' a o):HOk P w (p0 H a o) h':=λb u e=>by
 have hn:=x.fresh hp;by_cases hb:b=a
 .subst hb;rw[b9] at e;cases e;exact new
 .rw[b7 hb] at e;exact(x b u e).stay (λc v _ q=>k c v q) (λc q=>by rw[b7 (i8 q hn)];exact q) λc xs q=>by rw[b7 (i8 q hn)];exact q
end
def Rd (H:Hp)(a:Addr)(u:HO):Prop:=H a=some u\/∃o,H a=some (.frz o u)
theorem Rd.ok {P:Program}{w:World}{H:Hp}{h:Heap}{a:Addr}{u:HO}(r:Rd H a u)(x:HOk P w H h):ObjOk P w H h a u:=by
 rcases r with r|⟨o,r⟩
 .exact x a u r
 .obtain⟨_,q⟩:=x a _ r;exact q
def ES:Option HO->Prop
 |some (.lst _)=>True
 |some (.dK _)=>True
 |some (.dT _)=>True
 |some (.set _ _)=>True
 |some (.ins _ _ _)=>True
 |some (.ext _)=>True
 |_=>False
section
variable {P:Program} {w:World} {H:Hp} {h h':Heap} {x e:Addr} {o':HO}
theorem HOk.write (ok:HOk P w H h)(mu:ES (H x))(he:e=x\/H e=some (.own x))(k:∀b u,b≠e->h.get? b=some u->h'.get? b=some u)(QM:∃u,h'.get? e=some u)
  (new:ObjOk P w (p0 H x o') h' x o'):HOk P w (p0 H x o') h':=λb u q=>by
 have SH:∀c y,H c=some (.own y)->c≠x:=λc y r z=>by subst z;rw[r] at mu;exact mu
 have Vv:∀c xs,H c=some (.tup xs)->c≠x:=λc xs r z=>by subst z;rw[r] at mu;exact mu
 by_cases hb:b=x
 .subst hb;rw[b9] at q;cases q;exact new
 .rw[b7 hb] at q
  by_cases hbe:b=e
  .have q':H b=some (.own x):=by
    rcases he with z|z
    .exact absurd (hbe.trans z) hb
    .rw[hbe];exact z
   rw[q] at q';cases q'
   obtain⟨v,hv⟩:=QM
   exact⟨v,by rw[hbe];exact hv⟩
  .refine(ok b u q).stay (λc v hc r=>k c v ?_ r) (λc r=>by rw[b7 (SH c b r)];exact r) λc xs r=>by rw[b7 (Vv c xs r)];exact r
   rcases hc with rfl|hc
   .exact hbe
   .rintro rfl
    rcases he with z|z
    .exact SH c b hc z
    .rw[hc] at z;cases z;exact hb rfl
end
structure Un (fs ex:List Addr) (H H':Hp) (h h':Heap):Prop where
 keep:∀b o,h.get? b=some o->H b=none->b∉fs->b∉ex->h'.get? b=some o
 slot:∀b o,h.get? b=some o->H b=none->b∈fs->b∉ex->∃sl,h'.get? b=some {o with slots:=sl}
 free:∀b o,h.get? b=some o->H b=none->b∉ex->H' b=none
 there:∀b o,h.get? b=some o->b∉ex->∃o',h'.get? b=some o'
 tups:∀b xs,H b=some (.tup xs)->H' b=some (.tup xs)
 frzs:∀b o u,H b=some (.frz o u)->H' b=some (.frz o u)
 tbls:∀b ps,H b=some (.tbl ps)->∃more,H' b=some (.tbl (ps++more))
section
variable {fs fs' ex OK:List Addr} {H H1 H2:Hp} {h h1 h2 h':Heap} {a x e:Addr} {o:HO}
theorem Un.any (u:Un fs ex H H1 h h1){b:Addr}{ob:Obj}(q:h.get? b=some ob)(n:H b=none)(hx:b∉ex):∃sl,h1.get? b=some {ob with slots:=sl}:=by
 by_cases hb:b∈fs
 .exact u.slot b ob q n hb hx
 .exact⟨ob.slots,u.keep b ob q n hb hx⟩
theorem Un.kept (k:∀b u,h.get? b=some u->h'.get? b=some u):Un fs ex H H h h':=
 ⟨λb ob q _ _ _=>k b ob q,λb ob q _ _ _=>⟨ob.slots,k b ob q⟩,λ_ _ _ n _=>n,λb ob q _=>⟨ob,k b ob q⟩,λ_ _ q=>q,λ_ _ _ q=>q,λ_ ps q=>⟨#[],by rw[q];simp⟩⟩
theorem Un.refl:Un fs ex H H h h:=Un.kept λ_ _ q=>q
theorem Un.laid (k:∀b u,h.get? b=some u->h'.get? b=some u)(hp:h.objs.size<=a)(hn:H a=none):Un fs ex H (p0 H a o) h h' where
 keep:=λb u q _ _ _=>k b u q
 slot:=λb u q _ _ _=>⟨u.slots,k b u q⟩
 free:=λb u q n _=>by rw[b7 (Im (Ib (HZ q) hp))];exact n
 there:=λb u q _=>⟨u,k b u q⟩
 tups:=λb xs q=>by rw[b7 (i8 q hn)];exact q
 frzs:=λb u xs q=>by rw[b7 (i8 q hn)];exact q
 tbls:=λb ps q=>⟨#[],by rw[b7 (i8 q hn),q];simp⟩
theorem Un.write (mu:ES (H x))(he:e=x\/H e=some (.own x))(k:∀b u,b≠e->h.get? b=some u->h'.get? b=some u)(QM:∃u,h'.get? e=some u):Un fs ex H (p0 H x o) h h':=by
 have hx:∀b,H b=none->b≠x:=λb n z=>by subst z;rw[n] at mu;exact mu
 have hb:∀b,H b=none->b≠e:=λb n z=>by
  subst z;rcases he with r|r
  .exact hx b n r
  .rw[n] at r;cases r
 have hm:∀b u,H b=some u->¬ES (some u)->b≠x:=λb u q nm z=>by subst z;rw[q] at mu;exact nm mu
 refine⟨λb u q n _ _=>k b u (hb b n) q,λb u q n _ _=>⟨u.slots,k b u (hb b n) q⟩,λb u q n _=>by rw[b7 (hx b n)];exact n,λb u q _=>?_,
  λb xs q=>by rw[b7 (hm b _ q λz=>z)];exact q,λb u xs q=>by rw[b7 (hm b _ q λz=>z)];exact q,λb ps q=>⟨#[],by rw[b7 (hm b _ q λz=>z),q];simp⟩⟩
 by_cases hbe:b=e
 .subst hbe;exact QM
 .exact⟨u,k b u hbe q⟩
end
def Fx (h:Heap)(H:Hp):List Addr:=(List.range h.objs.size).filter λa=>(H a).isSome
def mJ (h:Heap)(H:Hp):Heap:=PySem.W.hideAll h (Fx h H)
theorem sF (h:Heap)(H:Hp):(mJ h H).objs.size=h.objs.size:=PySem.W.hideAll_size _ _
theorem vQ {h:Heap}{H:Hp}{b:Addr}{o:Obj}(e:h.get? b=some o)(n:H b=none):(mJ h H).get? b=some o:=
 KN _ e λhm=>by
  have q:(H b).isSome=true:=(Ik.mp hm).2;rw[n] at q;simp at q
theorem yO {h:Heap}{H:Hp}{b:Addr}{o:Obj}(e:(mJ h H).get? b=some o):h.get? b=some o/\H b=none:=by
 have e':h.get? b=some o:=LW (Fx h H) e;refine⟨e',?_⟩;cases q:H b with
 |none=>rfl
 |some x=>
  have hm:b∈Fx h H:=Ik.mpr ⟨KG.mpr (HZ e'),by simp [q]⟩
  have z:(mJ h H).get? b=none:=PySem.W.hideAll_none (Fx h H) hm
  rw[z] at e;cases e
def yD (g h:Heap)(L:Addr):List (Addr×Obj):=(List.range h.objs.size).filterMap λa=>if a=L\/(g.get? a).isSome=true then none else(h.get? a).map λo=>(a,o)
def U7 (g h:Heap)(L d:Addr):List (Addr×Obj):=(yD g h L).filter λp=>decide (p.1≠d)
structure Mod (K:Qc) (mg:Str->Option Value) (base:Heap):Prop where
 kin:K.In base
 glob:base.Ns mainGlobals mg
 blt:∃mb,base.Ns builtinsNs mb/\∀x:Str,x≠"__name__"->mb x=bootBuiltins x
 nolimit:base.NoLimit
structure Cx where
 prog:Program
 w:World
 K:Qc
 mg:Str->Option Value
 base:Heap
 A:Around
 N:List Str
 s₀:Shared
 H₀:Hp
 env:Env
 outer:List Env
 stack:List Env
 ex:List Addr
 fn:Str->Bool
 calm:Bool
 pn:List (Addr×Obj)
 xe:Value->Shared->Prop
def Z3 (l:List Env):List Addr:=l.filterMap (·.frame)
abbrev Cx.fs (X:Cx):List Addr:=Z3 X.outer
def Gz (sc:Scope)(x:Str):Prop:=sc.names.lookup x=some .local\/sc.names.lookup x=some .cell\/sc.names.lookup x=some .free
def Al (sc:Scope)(x:Str):Prop:=sc.names.lookup x=some .local\/sc.names.lookup x=some .cell
def Gd (env:Env)(h:Heap)(m:Str->Option Value)(x:Str)(u:Value):Prop:=
 (env.kindOf x=some .local/\m x=some u)\/((env.kindOf x=some .cell\/env.kindOf x=some .free)/\∃c,env.cells.lookup x=some c/\h.IsCell c (some u))
structure Cx.Ok (X:Cx):Prop where
 mod:Mod X.K X.mg X.base
 kind:X.env.scope.kind= .function
 glob:X.env.globals=mainGlobals
 blt:X.env.builtins=builtinsNs
 above:X.s₀.heap.objs.size<=X.env.locals
 inj:∀x y c,X.env.cells.lookup x=some c->X.env.cells.lookup y=some c->x=y
 has:∀x,(X.env.kindOf x=some .cell\/X.env.kindOf x=some .free)->∃c,X.env.cells.lookup x=some c
 cab:∀x c,X.fn x=true->X.env.cells.lookup x=some c->X.s₀.heap.objs.size<=c
 hd:X.calm=true->X.A.handled=none
 frames:X.A.frames=some X.stack
 stk:X.stack=X.outer\/(X.stack=X.env::X.outer/\X.env.frame=some X.env.locals)
 exf:∀b∈X.ex,b≠X.env.locals/\∀x c,X.env.cells.lookup x=some c->c≠b
 bs:∀b o,X.base.get? b=some o->X.s₀.heap.get? b=some o/\X.H₀ b=none
 bsz:X.base.objs.size<=X.s₀.heap.objs.size
 noex:∀b o,X.base.get? b=some o->b∉X.ex
 exfs:∀b∈X.ex,b∉X.fs
 funs:X.s₀.heap.FunFrames X.base X.outer
 frf:∀b∈X.fs,X.H₀ b=none
structure Inv (X:Cx) (pins:List (Addr×Obj)) (σ:List (Option V)) (H:Hp) (s:Shared):Prop where
 ok:X.Ok
 os:s.os=X.s₀.os
 bare:AllBare s.gens
 base:Un X.fs X.ex X.H₀ H X.s₀.heap s.heap
 loc:∃m,s.heap.Ns X.env.locals m/\∀(i:Nat) (x:Str) (v:V),X.N[i]?=some x->σ[i]?=some (some v)->Gz X.env.scope x->∃u,RelV v u/\Gd X.env s.heap m x u
 cell:∀x c,X.env.cells.lookup x=some c->∃v,s.heap.IsCell c v
 free:H X.env.locals=none
 freeC:∀x c,X.env.cells.lookup x=some c->H c=none
 pin:∀p∈X.pn++pins,s.heap.get? p.1=some p.2/\H p.1=none/\p.1≠X.env.locals/\p.1∉X.fs/\∀v,p.2.data≠ .cell v
 hok:HOk X.prog X.w H s.heap
 len:σ.length=X.N.length
section
variable {X:Cx} {pins:List (Addr×Obj)} {σ:List (Option V)} {H H':Hp} {s:Shared} {h':Heap}
theorem Cx.Ok.nofr (ok:X.Ok){b:Addr}{o:Obj}(e:X.base.get? b=some o):b∉X.fs:=λhb=>by
 have:=(ok.funs.mem hb).1;rw[e] at this;cases this
theorem Inv.bs (I:Inv X pins σ H s):∀b o,X.base.get? b=some o->s.heap.get? b=some o/\H b=none:=λb o e=>
 ⟨I.base.keep b o (I.ok.bs b o e).1 (I.ok.bs b o e).2 (I.ok.nofr e) (I.ok.noex b o e),I.base.free b o (I.ok.bs b o e).1 (I.ok.bs b o e).2 (I.ok.noex b o e)⟩
theorem Inv.bk (I:Inv X pins σ H s):∀b o,X.base.get? b=some o->s.heap.get? b=some o:=λb o e=>(I.bs b o e).1
theorem Inv.mod (I:Inv X pins σ H s):Mod X.K X.mg X.base:=I.ok.mod
theorem Inv.kIn (I:Inv X pins σ H s):X.K.In s.heap:=I.ok.mod.kin.keeps I.bk
theorem Inv.lt (I:Inv X pins σ H s):X.env.locals<s.heap.objs.size:=let ⟨_,hn,_⟩:=I.loc;hn.lt
theorem Inv.sz (I:Inv X pins σ H s):X.s₀.heap.objs.size<=s.heap.objs.size:=Ip I.ok.above (Ks I.lt)
theorem Inv.nofs (I:Inv X pins σ H s){a:Addr}(h:s.heap.objs.size<=a):a∉X.fs:=λhb=>by
 obtain⟨_,o,ho,_⟩:=I.ok.funs.mem hb;exact absurd (Ib (HZ ho) (Ip I.sz h)) (Jo _)
theorem Inv.cne (I:Inv X pins σ H s):∀x c,X.env.cells.lookup x=some c->c≠X.env.locals:=λx c e z=>by
 obtain⟨v,o,ho,hd⟩:=I.cell x c e;obtain⟨m,⟨o',es,ep,PU,SI,_⟩,_⟩:=I.loc;rw[z,PU] at ho;cases ho;rw[SI] at hd;cases hd
theorem Inv.funs (I:Inv X pins σ H s):s.heap.FunFrames X.base X.outer:=by
 have all:∀(l:List Env),(∀b∈Z3 l,b∈X.fs)->X.s₀.heap.FunFrames X.base l->s.heap.FunFrames X.base l:=by
  intro l;induction l with
  |nil=>intro _ _;trivial
  |cons env r ih=>
   intro hs hl
   obtain⟨hk,⟨L,o,hf,hn,ho,hd⟩,hr⟩:=hl
   have hL:L∈X.fs:=hs L (by unfold Z3;rw[Kf,hf];exact Iw)
   obtain⟨sl,e⟩:=I.base.slot L o ho (I.ok.frf L hL) hL λz=>I.ok.exfs L z hL
   exact⟨hk,⟨L,_,hf,hn,e,hd⟩,ih (λb hb=>hs b (by unfold Z3;rw[Kf,hf];exact Ij _ hb)) hr⟩
 exact all X.outer (λ_ hb=>hb) I.ok.funs
theorem Inv.stack (I:Inv X pins σ H s):s.heap.FunFrames X.base X.stack:=by
 rcases I.ok.stk with e|⟨e,hf⟩
 .rw[e];exact I.funs
 .rw[e];obtain⟨m,hn,_⟩:=I.loc;refine .cons (by rw[I.ok.kind];decide) hf hn ?_ I.funs;exact Heap.get?_none_of_le (Ip I.ok.bsz I.ok.above)
theorem Inv.stkSub (I:Inv X pins σ H s):∀b∈Z3 X.stack,b∈X.env.locals::X.fs:=λb hb=>by
 rcases I.ok.stk with e|⟨e,hf⟩
 .rw[e] at hb;exact Ij _ hb
 .rw[e] at hb;unfold Z3 at hb;rw[Kf,hf] at hb;exact hb
theorem Inv.stkFree (I:Inv X pins σ H s):∀b∈Z3 X.stack,H b=none:=λb hb=>by
 rcases Iz.mp (I.stkSub b hb) with e|hb
 .rw[e];exact I.free
 .obtain⟨_,o,ho,_⟩:=I.ok.funs.mem hb;exact I.base.free b o ho (I.ok.frf b hb) λz=>I.ok.exfs b z hb
theorem Inv.step {g':Array GenState}{t':Nat}{d':Drawn}{ch:List Addr}(I:Inv X pins σ H s)
  (Px:∀b∈ch,(b∈X.ex\/X.s₀.heap.objs.size<=b)/\b≠X.env.locals/\(∀x c,X.env.cells.lookup x=some c->c≠b)/\∀p∈X.pn++pins,p.1≠b)
  (keep:∀b o,b≠X.env.locals->b∉X.fs->b∉ch->s.heap.get? b=some o->H b=none->h'.get? b=some o)
  (slot:∀b o,b≠X.env.locals->b∈X.fs->b∉ch->s.heap.get? b=some o->H b=none->∃sl,h'.get? b=some {o with slots:=sl}) (free:∀b o,b∉ch->s.heap.get? b=some o->H b=none->H' b=none)
  (there:∀b o,b∉ch->s.heap.get? b=some o->∃o',h'.get? b=some o')
  (tups:∀b xs,H b=some (.tup xs)->H' b=some (.tup xs)) (frzs:∀b o u,H b=some (.frz o u)->H' b=some (.frz o u)) (tbls:∀b ps,H b=some (.tbl ps)->∃more,H' b=some (.tbl (ps++more)))
  (ns:∀m,s.heap.Ns X.env.locals m->h'.Ns X.env.locals m) (hok:HOk X.prog X.w H' h') (hg:AllBare g'):
  Inv X pins σ H' {s with heap:=h',gens:=g',drawn:=d',toks:=t'}:=by
 have YK:∀b o,X.s₀.heap.get? b=some o->b≠X.env.locals:=λb o e=>Im (Ib (HZ e) I.ok.above)
 have UI:∀b o,X.s₀.heap.get? b=some o->b∉X.ex->b∉ch:=λb o e hx hb=>by
  rcases(Px b hb).1 with z|z
  .exact hx z
  .exact absurd (Ib (HZ e) z) (Jo _)
 have cellK:∀x c,X.env.cells.lookup x=some c->∀v,s.heap.IsCell c v->h'.IsCell c v:=λx c e v ⟨o,ho,hd⟩=>by
  have SJ:c∉ch:=λz=>(Px c z).2.2.1 x c e rfl;by_cases hc:c∈X.fs
  .obtain⟨sl,q⟩:=slot c o (I.cne x c e) hc SJ ho (I.freeC x c e);exact⟨_,q,hd⟩
  .exact⟨o,keep c o (I.cne x c e) hc SJ ho (I.freeC x c e),hd⟩
 refine⟨I.ok,I.os,hg,⟨λb o e n hb hx=>?_,λb o e n hb hx=>?_,λb o e n hx=>?_,λb o e hx=>?_,λb xs e=>tups b xs (I.base.tups b xs e),λb o xs e=>frzs b o xs (I.base.frzs b o xs e),λb ps e=>?_⟩,?_,λx c e=>?_,?_,λx c e=>?_,λp hp=>?_,hok,I.len⟩
 .exact keep b o (YK b o e) hb (UI b o e hx) (I.base.keep b o e n hb hx) (I.base.free b o e n hx)
 .obtain⟨sl,e1⟩:=I.base.slot b o e n hb hx
  obtain⟨sl',e2⟩:=slot b _ (YK b o e) hb (UI b o e hx) e1 (I.base.free b o e n hx)
  exact⟨sl',e2⟩
 .obtain⟨o',e1⟩:=I.base.there b o e hx
  exact free b o' (UI b o e hx) e1 (I.base.free b o e n hx)
 .obtain⟨o',e1⟩:=I.base.there b o e hx
  exact there b o' (UI b o e hx) e1
 .obtain⟨m1,e1⟩:=I.base.tbls b ps e
  obtain⟨m2,e2⟩:=tbls b _ e1
  exact⟨m1++m2,by rw[e2,NJ]⟩
 .obtain⟨m,hn,hl⟩:=I.loc
  refine⟨m,ns m hn,λi x v e1 e2 e3=>?_⟩
  obtain⟨u,r,l⟩:=hl i x v e1 e2 e3
  refine⟨u,r,?_⟩
  rcases l with l|⟨k,c,e,z⟩
  .exact .inl l
  .exact .inr ⟨k,c,e,cellK x c e _ z⟩
 .obtain⟨v,z⟩:=I.cell x c e
  exact⟨v,cellK x c e v z⟩
 .obtain⟨m,⟨o,_,_,ho,_⟩,_⟩:=I.loc
  exact free _ o (λz=>(Px _ z).2.1 rfl) ho I.free
 .obtain⟨v,o,ho,hd⟩:=I.cell x c e
  exact free c o (λz=>(Px c z).2.2.1 x c e rfl) ho (I.freeC x c e)
 .obtain⟨e,n,ne,nf,d⟩:=I.pin p hp
  have SJ:p.1∉ch:=λz=>(Px p.1 z).2.2.2 p hp rfl
  exact⟨keep p.1 p.2 ne nf SJ e n,free p.1 p.2 SJ e n,ne,nf,d⟩
theorem Inv.un {t':Nat}(I:Inv X pins σ H s)(u:Un X.fs [] H H' s.heap h')(hok:HOk X.prog X.w H' h'):Inv X pins σ H' {s with heap:=h',toks:=t'}:=by
 obtain⟨m,⟨o,es,ep,ho,r⟩,_⟩:=id I.loc;obtain⟨sl,hL⟩:=u.any ho I.free (by simp);exact I.step (g':=s.gens) (d':=s.drawn) (ch:=[]) (λ_ z=>nomatch z) (λb o _ hb _ e n=>u.keep b o e n hb (by simp)) (λb o _ hb _ e n=>u.slot b o e n hb (by simp)) (λb o _ e n=>u.free b o e n (by simp)) (λb o _ e=>u.there b o e (by simp)) u.tups u.frzs u.tbls (λm' hm=>by
  obtain⟨o',PX,Ro,PU,r'⟩:=hm;rw[ho] at PU;cases PU;exact⟨_,PX,Ro,hL,r'⟩) hok I.bare
theorem Inv.call {g':Array GenState}{t':Nat}{d':Drawn}{ch:List Addr}(I:Inv X pins σ H s)(u:Un (Z3 X.stack) ch H H' s.heap h')(hok:HOk X.prog X.w H' h')(hg:AllBare g')
  (Px:∀b∈ch,(b∈X.ex\/X.s₀.heap.objs.size<=b)/\b≠X.env.locals/\(∀x c,X.env.cells.lookup x=some c->c≠b)/\∀p∈X.pn++pins,p.1≠b):
  Inv X pins σ H' {s with heap:=h',gens:=g',drawn:=d',toks:=t'}:=by
 obtain⟨m,⟨o,es,ep,ho,r⟩,_⟩:=id I.loc
 obtain⟨sl,hL⟩:=u.any ho I.free λz=>(Px _ z).2.1 rfl
 exact I.step (ch:=ch) Px (λb o hL hb hc e n=>u.keep b o e n (λz=>(Iz.mp (I.stkSub b z)).elim hL hb) hc) (λb o _ _ hc e n=>u.any e n hc) (λb o hc e n=>u.free b o e n hc) (λb o hc e=>u.there b o e hc) u.tups u.frzs u.tbls (λm' hm=>by
  obtain⟨o',PX,Ro,PU,r'⟩:=hm;rw[ho] at PU;cases PU;exact⟨_,PX,Ro,hL,r'⟩) hok hg
theorem Inv.turned {t':Nat}{it:Addr}(I:Inv X pins σ H s)(k:∀b o,b≠it->s.heap.get? b=some o->h'.get? b=some o)(hn:H it=none)(hL:it≠X.env.locals)
  (h1:it∈X.ex\/X.s₀.heap.objs.size<=it) (h2:∀x c,X.env.cells.lookup x=some c->c≠it) (h3:∀p∈X.pn++pins,p.1≠it):Inv X pins σ H {s with heap:=h',toks:=t'}:=by
 have YL:∀b u,H b=some u->b≠it:=λb u e z=>by rw[z,hn] at e;cases e
 refine I.step (g':=s.gens) (d':=s.drawn) (ch:=[it]) (λb hb=>?_) (λb o _ _ hc e _=>k b o (λz=>hc (by simp [z])) e) (λb o _ _ hc e _=>⟨o.slots,k b o (λz=>hc (by simp [z])) e⟩) (λ_ _ _ _ n=>n)
  (λb o hc e=>⟨o,k b o (λz=>hc (by simp [z])) e⟩) (λ_ _ e=>e) (λ_ _ _ e=>e) (λb ps e=>⟨#[],by rw[e];simp⟩) (λm hm=>?_) (λb u e=>?_) I.bare
 .have e:b=it:=by simpa using hb
  subst e
  exact⟨h1,hL,h2,h3⟩
 .obtain⟨o,es,ep,ho,r⟩:=hm
  exact⟨o,es,ep,k _ o (JC hL) ho,r⟩
 .refine(I.hok b u e).stay (λc v hc q=>k c v ?_ q) (λ_ q=>q) λ_ _ q=>q
  rcases hc with z|z
  .rw[z];exact YL b u e
  .exact YL c _ z
theorem Inv.tok (I:Inv X pins σ H s)(t:Nat):Inv X pins σ H {s with toks:=t}:=I.un (h':=s.heap) (t':=t) Un.refl I.hok
theorem Inv.kept {t':Nat}(I:Inv X pins σ H s)(k:∀b u,s.heap.get? b=some u->h'.get? b=some u):Inv X pins σ H {s with heap:=h',toks:=t'}:=I.un (Un.kept k) (I.hok.kept k)
theorem Inv.laid {a:Addr}{o:HO}{t':Nat}(I:Inv X pins σ H s)(k:∀b u,s.heap.get? b=some u->h'.get? b=some u)(hp:s.heap.objs.size<=a)(new:ObjOk X.prog X.w (p0 H a o) h' a o):
  Inv X pins σ (p0 H a o) {s with heap:=h',toks:=t'}:=I.un (Un.laid k hp (I.hok.fresh hp)) (I.hok.laid k hp new)
theorem Inv.write {x e:Addr}{o:HO}{t':Nat}(I:Inv X pins σ H s)(mu:ES (H x))(he:e=x\/H e=some (.own x))(k:∀b u,b≠e->s.heap.get? b=some u->h'.get? b=some u)(QM:∃u,h'.get? e=some u)
  (new:ObjOk X.prog X.w (p0 H x o) h' x o):Inv X pins σ (p0 H x o) {s with heap:=h',toks:=t'}:=I.un (Un.write mu he k QM) (I.hok.write mu he k QM new)
theorem Inv.weak {σ':List (Option V)}(I:Inv X pins σ H s)(hl:σ'.length=σ.length)(w:∀(i:Nat) v,σ'[i]?=some (some v)->σ[i]?=some (some v)):Inv X pins σ' H s:=
 ⟨I.ok,I.os,I.bare,I.base,let ⟨m,hn,Py⟩:=I.loc;⟨m,hn,λi x v e1 e2 e3=>Py i x v e1 (w i v e2) e3⟩,I.cell,I.free,I.freeC,I.pin,I.hok,hl.trans I.len⟩
theorem Inv.pins_of {i_:List (Addr×Obj)}(I:Inv X pins σ H s)(h:∀p∈i_,s.heap.get? p.1=some p.2/\H p.1=none/\p.1≠X.env.locals/\p.1∉X.fs/\∀v,p.2.data≠ .cell v):Inv X i_ σ H s:=
 ⟨I.ok,I.os,I.bare,I.base,I.loc,I.cell,I.free,I.freeC,λp hp=>(Ic.mp hp).elim (λz=>I.pin p (HU _ z)) (h p),I.hok,I.len⟩
theorem nX {N:List Str}(hN:N.Nodup){i j:Nat}{x:Str}(a:N[i]?=some x)(b:N[j]?=some x):i=j:=by
 obtain⟨h1,e1⟩:=Js.mp a;obtain⟨h2,e2⟩:=Js.mp b;exact(List.getElem_inj hN).mp (e1.trans e2.symm)
theorem jZ {M:Model}{A:Around}{E:Value->Shared->Prop}{i:Nat}{x:Str}{v:V}{u:Value}{Q:Unit->Shared->Prop}(I:Inv X pins σ H s)(hN:X.N.Nodup)(hi:X.N[i]?=some x)(hx:Al X.env.scope x)(r:RelV v u)
  (h:∀s',Inv X pins (σ.set i (some v)) H s'->(∃a,Heap.SameBut a s.heap s'.heap/\(a=X.env.locals\/X.env.cells.lookup x=some a))->Q () s') (hf:X.fn x=true\/X.env.scope.names.lookup x=some .local:=by first|exact .inl rfl|exact .inr rfl|assumption):wpAny M A (storeName X.env x u) Q E s:=by
 obtain⟨m,hn,hl⟩:=id I.loc
 have Vw:(X.env.scope.kind== .class||(X.env.scope.kind== .module&&X.env.locals !=X.env.globals))=false:=by rw[I.ok.kind];rfl
 have YM:i<σ.length:=by rw[I.len];exact(Js.mp hi).1
 have cne:=I.cne
 have tracked:∀{a:Addr} {h':Heap},(∃o,s.heap.get? a=some o/\H a=none)->Heap.SameBut a s.heap h'->HOk X.prog X.w H h':=fun{a h'} ha hs b ob e=>by
  obtain⟨_,_,QN⟩:=ha;refine(I.hok b ob e).stay (λc w' hc q=>(hs.2 c ?_).trans q) (λ_ q=>q) λ_ _ q=>q;rintro rfl;rcases hc with rfl|hc
  .rw[QN] at e;cases e
  .rw[QN] at hc;cases hc
 rcases hx with hk|hk
 .refine wpAny_storeName_local hk hn (λh' SK hs=>?_) Vw
  obtain⟨oL,_,_,hoL,_⟩:=id hn
  refine h _ ⟨I.ok,I.os,I.bare,⟨λb o e n hb hx=>?_,λb o e n hb hx=>?_,I.base.free,λb o e hx=>?_,I.base.tups,I.base.frzs,I.base.tbls⟩,⟨_,SK,λj y v' e1 e2 e3=>?_⟩,λy c e=>?_,I.free,I.freeC,λp hp=>?_,tracked ⟨oL,hoL,I.free⟩ hs,by simpa using I.len⟩ ⟨_,hs,.inl rfl⟩
  .exact(hs.2 b (Im (Ib (HZ e) I.ok.above))).trans (I.base.keep b o e n hb hx)
  .obtain⟨sl,e1⟩:=I.base.slot b o e n hb hx
   exact⟨sl,(hs.2 b (Im (Ib (HZ e) I.ok.above))).trans e1⟩
  .obtain⟨o',e1⟩:=I.base.there b o e hx
   exact⟨o',(hs.2 b (Im (Ib (HZ e) I.ok.above))).trans e1⟩
  .by_cases hj:j=i
   .subst hj
    rw[hi] at e1;cases e1
    rw[MI YM] at e2
    cases e2
    exact⟨u,r,.inl ⟨hk,by simp⟩⟩
   .rw[Nf (JC hj)] at e2
    obtain⟨u',r',q⟩:=hl j y v' e1 e2 e3
    refine⟨u',r',?_⟩
    rcases q with⟨k,e⟩|⟨k,c,e,z⟩
    .refine .inl ⟨k,?_⟩
     have:y≠x:=λe=>hj (nX hN e1 (e▸hi))
     simp [this,e]
    .exact .inr ⟨k,c,e,z.sameBut hs (cne y c e)⟩
  .obtain⟨w',z⟩:=I.cell y c e
   exact⟨w',z.sameBut hs (cne y c e)⟩
  .obtain⟨e,n,ne,nf,d⟩:=I.pin p hp
   exact⟨(hs.2 p.1 ne).trans e,n,ne,nf,d⟩
 .have Vx:X.fn x=true:=by
   rcases hf with z|z
   .exact z
   .rw[z] at hk;cases hk
  obtain⟨c,hc⟩:=I.ok.has x (.inl hk)
  obtain⟨w',z⟩:=I.cell x c hc
  refine wpAny_storeName_cell I.ok.kind hk hc z (λh' NB hs=>?_)
  obtain⟨oc,Rp,Rq⟩:=id z
  refine h {s with heap:=h'} ⟨I.ok,I.os,I.bare,⟨λb o e n hb hx=>?_,λb o e n hb hx=>?_,I.base.free,λb o e hx=>?_,I.base.tups,I.base.frzs,I.base.tbls⟩,⟨m,hn.sameBut hs (JC (cne x c hc)),λj y v' e1 e2 e3=>?_⟩,λy c' e=>?_,I.free,I.freeC,λp hp=>?_,tracked ⟨oc,Rp,I.freeC x c hc⟩ hs,by simpa using I.len⟩ ⟨c,hs,.inr hc⟩
  .exact(hs.2 b (Im (Ib (HZ e) (I.ok.cab x c Vx hc)))).trans (I.base.keep b o e n hb hx)
  .obtain⟨sl,e1⟩:=I.base.slot b o e n hb hx
   exact⟨sl,(hs.2 b (Im (Ib (HZ e) (I.ok.cab x c Vx hc)))).trans e1⟩
  .obtain⟨o',e1⟩:=I.base.there b o e hx
   exact⟨o',(hs.2 b (Im (Ib (HZ e) (I.ok.cab x c Vx hc)))).trans e1⟩
  .by_cases hj:j=i
   .subst hj
    rw[hi] at e1;cases e1
    rw[MI YM] at e2
    cases e2
    exact⟨u,r,.inr ⟨.inl hk,c,hc,NB⟩⟩
   .rw[Nf (JC hj)] at e2
    obtain⟨u',r',q⟩:=hl j y v' e1 e2 e3
    refine⟨u',r',?_⟩
    rcases q with q|⟨k,c',e,z'⟩
    .exact .inl q
    .refine .inr ⟨k,c',e,z'.sameBut hs ?_⟩
     rintro rfl
     exact hj (nX hN e1 (I.ok.inj _ _ _ e hc▸hi))
  .by_cases hcc:c'=c
   .subst hcc;exact⟨_,NB⟩
   .obtain⟨w2,z2⟩:=I.cell y c' e
    exact⟨w2,z2.sameBut hs hcc⟩
  .obtain⟨e,n,ne,nf,d⟩:=I.pin p hp
   refine⟨(hs.2 p.1 ?_).trans e,n,ne,nf,d⟩
   intro q
   rw[q,Rp] at e
   have q':oc=p.2:=Ie e
   exact d w' (by rw[←q'];exact Rq)
theorem oz {M:Model}{A:Around}{E:Value->Shared->Prop}{i:Nat}{x:Str}{v:V}{u:Value}{Q:Unit->Shared->Prop}(I:Inv X pins σ H s)(hN:X.N.Nodup)(hi:X.N[i]?=some x)(hx:Al X.env.scope x)(r:RelV v u)
  (h:∀s',Inv X pins (σ.set i (some v)) H s'->Q () s') (hf:X.fn x=true\/X.env.scope.names.lookup x=some .local:=by first|exact .inl rfl|exact .inr rfl|assumption):wpAny M A (storeName X.env x u) Q E s:=
 jZ I hN hi hx r (λs' I' _=>h s' I') hf
theorem Inv.call' {s':Shared}{ch:List Addr}(I:Inv X pins σ H s)(ho:s'.os=s.os)(u:Un (Z3 X.stack) ch H H' s.heap s'.heap)(hok:HOk X.prog X.w H' s'.heap)(hg:AllBare s'.gens)
  (Px:∀b∈ch,(b∈X.ex\/X.s₀.heap.objs.size<=b)/\b≠X.env.locals/\(∀x c,X.env.cells.lookup x=some c->c≠b)/\∀p∈X.pn++pins,p.1≠b):Inv X pins σ H' s':=by
 obtain⟨h',g',d',t',o'⟩:=s'
 have e:o'=s.os:=ho
 subst e
 exact I.call (g':=g') (t':=t') (d':=d') u hok hg Px
end
abbrev XK:=Value->Option Addr->Hp->Prop
abbrev St:=List (Option V)
abbrev VK:=V->Hp->Prop
abbrev TE:=St->Hp->VK->Prop
abbrev TT:=St->Hp->(Bool->Hp->Prop)->Prop
abbrev TA:=St->Hp->(List V->Hp->Prop)->Prop
structure nZ where
 nx:St->Hp->Prop
 rt:VK
 bk:St->Hp->Prop:=λ_ _=>False
 ct:St->Hp->Prop:=λ_ _=>False
abbrev TS:=nZ->St->Hp->Prop
def EP (X:Cx)(pins:List (Addr×Obj))(σ:St)(Q:VK)(u:Value)(s':Shared):Prop:=∃v H',Inv X pins σ H' s'/\RelV v u/\Q v H'
def TP (X:Cx)(pins:List (Addr×Obj))(σ:St)(Q:Bool->Hp->Prop)(b:Bool)(s':Shared):Prop:=∃H',Inv X pins σ H' s'/\Q b H'
def AP (X:Cx)(pins:List (Addr×Obj))(σ:St)(Q:List V->Hp->Prop)(us:List Value)(s':Shared):Prop:=∃vs H',Inv X pins σ H' s'/\Vals vs us/\Q vs H'
def SP (X:Cx)(pins:List (Addr×Obj))(D:nZ)(f:Flow)(s':Shared):Prop:=
 match f with
 | .next=>∃σ' H',Inv X pins σ' H' s'/\D.nx σ' H'
 | .brk=>∃σ' H',Inv X pins σ' H' s'/\D.bk σ' H'
 | .cont=>∃σ' H',Inv X pins σ' H' s'/\D.ct σ' H'
 | .ret u=>∃v σ' H',Inv X pins σ' H' s'/\RelV v u/\D.rt v H'
def PE (X:Cx)(e:Expr)(t:TE):Prop:=
 ∀(pins:List (Addr×Obj)) (s:Shared) (σ:St) (H:Hp) (Q:VK),Inv X pins σ H s->t σ H Q->wpAny (model X.prog X.w) X.A (eval e X.env) (EP X pins σ Q) X.xe s
def PT (X:Cx)(e:Expr)(t:TT):Prop:=
 ∀(pins:List (Addr×Obj)) (s:Shared) (σ:St) (H:Hp) (Q:Bool->Hp->Prop),Inv X pins σ H s->t σ H Q->wpAny (model X.prog X.w) X.A (isTrue e X.env (eval e X.env)) (TP X pins σ Q) X.xe s
def PW (X:Cx)(e:Expr)(t:TT):Prop:=
 ∀(whole:Sem Value) (pins:List (Addr×Obj)) (s:Shared) (σ:St) (H:Hp) (Q:Bool->Hp->Prop),Inv X pins σ H s->t σ H Q->wpAny (model X.prog X.w) X.A (isTrue e X.env whole) (TP X pins σ Q) X.xe s
theorem PW.pt {X:Cx}{e:Expr}{t:TT}(h:PW X e t):PT X e t:=h _
def PA (X:Cx)(es:List Expr)(t:TA):Prop:=
 ∀(pos:Pos) (pins:List (Addr×Obj)) (s:Shared) (σ:St) (H:Hp) (Q:List V->Hp->Prop),Inv X pins σ H s->t σ H Q->wpAny (model X.prog X.w) X.A (spliced (backTo pos (starEach es X.env))) (AP X pins σ Q) X.xe s
def PS (X:Cx)(st:Stmt)(t:TS):Prop:=
 ∀(pins:List (Addr×Obj)) (s:Shared) (σ:St) (H:Hp) (D:nZ),Inv X pins σ H s->t D σ H->wpAny (model X.prog X.w) X.A (exec st X.env) (SP X pins D) X.xe s
def PSs (X:Cx)(st:List Stmt)(t:TS):Prop:=
 ∀(pins:List (Addr×Obj)) (s:Shared) (σ:St) (H:Hp) (D:nZ),Inv X pins σ H s->t D σ H->wpAny (model X.prog X.w) X.A (execs st X.env) (SP X pins D) X.xe s
theorem E9 {α:Type}{t:Sem α}{Q Q':α->Shared->Prop}{M:Model}{A:Around}{E:Value->Shared->Prop}{s:Shared}(h:wpAny M A t Q E s)(hQ:∀a s,Q a s->Q' a s):wpAny M A t Q' E s:=LH h hQ λ_ _ x=>x
section
variable {X:Cx}
def yi (i:Nat):TE:=λσ H Q=>∃v,σ[i]?=some (some v)/\Q v H
def tC (v:V):TE:=λ_ H Q=>Q v H
theorem Be {i:Nat}{x:Str}{pos:Pos}(hN:X.N[i]?=some x)(hv:Gz X.env.scope x)(hd:(x==("__debug__":Str))=false:=by decide)(Ni:(x==("__classdict__":Str))=false:=by decide):PE X (.Name x pos) (yi i):=by
 intro pins s σ H Q I h;obtain⟨v,e,h⟩:=h;obtain⟨m,hn,hl⟩:=I.loc;obtain⟨u,r,l⟩:=hl i x v hN e hv;have fin:EP X pins σ Q u s:=⟨v,H,I,r,h⟩
 rcases l with⟨hk,hm⟩|⟨hk,c,hc,NX⟩
 .exact wpAny_Name (wpAny_loadName_local I.ok.kind hk hn hm fin) hd
 .rcases hk with hk|hk
  .exact wpAny_Name (wpAny_loadName_cell I.ok.kind hk hc NX fin) hd
  .exact wpAny_Name (wpAny_loadName_free I.ok.kind hk hc NX fin Ni) hd
theorem Bo {i j pos}:PE X (.Constant (.int i) j pos) (tC (.int i)):=λ_ _ _ H _ I h=>wpAny_Constant_int ⟨.int i,H,I.tok _,⟨_,rfl⟩,h⟩
theorem Ef {b j pos}:PE X (.Constant (.bool b) j pos) (tC (.bl b)):=λ_ _ _ H _ I h=>Constant_bool ⟨.bl b,H,I,rfl,h⟩
theorem BX {j pos}:PE X (.Constant .none j pos) (tC .non):=λ_ _ _ H _ I h=>Constant_none ⟨.non,H,I,rfl,h⟩
theorem Cr {x j pos}:PE X (.Constant (.str x) j pos) (tC (.str x)):=λ_ _ _ H _ I h=>Calls.Constant_str ⟨.str x,H,I.tok _,⟨_,rfl⟩,h⟩
def Gl (X:Cx)(x:Str):Prop:=X.env.kindOf x=some .globalImplicit
theorem dz {E:Value->Shared->Prop}{pins:List (Addr×Obj)}{s:Shared}{σ:St}{H:Hp}{x:Str}{u:Value}{pos:Pos}{Q:Value->Shared->Prop}(I:Inv X pins σ H s)(hg:Gl X x)(hm:X.mg x=some u)(h:Q u s)
  (hd:(x==("__debug__":Str))=false:=by decide):wpAny (model X.prog X.w) X.A (eval (.Name x pos) X.env) Q E s:=
 LS I.ok.kind hg (Calls.loadGlobal_global (by rw[I.ok.glob];exact I.mod.glob.keeps I.bk) hm h) hd
theorem ai {E:Value->Shared->Prop}{pins:List (Addr×Obj)}{s:Shared}{σ:St}{H:Hp}{x:Str}{u:Value}{pos:Pos}{Q:Value->Shared->Prop}(I:Inv X pins σ H s)(hg:Gl X x)(hm:X.mg x=none)(hv:bootBuiltins x=some u)(h:Q u s)
  (hn:x≠"__name__":=by decide) (hd:(x==("__debug__":Str))=false:=by decide):wpAny (model X.prog X.w) X.A (eval (.Name x pos) X.env) Q E s:=by
 obtain⟨mb,h1,h2⟩:=I.mod.blt
 exact LS I.ok.kind hg (Calls.loadGlobal_builtin (by rw[I.ok.glob];exact I.mod.glob.keeps I.bk) hm (by rw[I.ok.blt];exact h1.keeps I.bk) ((h2 x hn).trans hv) h) hd
theorem yx {x:Str}{v:V}{u:Value}{pos:Pos}(hg:Gl X x)(hm:X.mg x=some u)(r:RelV v u)(hd:(x==("__debug__":Str))=false:=by decide):PE X (.Name x pos) (tC v):=
 λ_ _ _ H _ I h=>dz I hg hm ⟨v,H,I,r,h⟩ hd
theorem yR {x:Str}{v:V}{u:Value}{pos:Pos}(hg:Gl X x)(hm:X.mg x=none)(hv:bootBuiltins x=some u)(r:RelV v u)(hn:x≠"__name__":=by decide)(hd:(x==("__debug__":Str))=false:=by decide):PE X (.Name x pos) (tC v):=
 λ_ _ _ H _ I h=>ai I hg hm hv ⟨v,H,I,r,h⟩ hn hd
variable {a b:Expr} {ta tb:TE} {pos:Pos}
theorem RelV.none_iff {x:V}{v:Value}(r:RelV x v):(v==Value.none)=decide (x= .non):=by
 cases x with
 |non=>cases r;rfl
 |bl _=>cases r;rfl
 |int _=>obtain⟨t,rfl⟩:=r;rfl
 |str _=>obtain⟨t,rfl⟩:=r;rfl
 |byt _=>obtain⟨t,rfl⟩:=r;rfl
 |flt _=>obtain⟨t,rfl⟩:=r;rfl
 |ref _=>cases r;rfl
 |ty _=>cases r;rfl
def tB (t:TE):TT:=λσ H Q=>t σ H λx H1=>∃c,x= .bl c/\Q c H1
variable {tA PY:TT} {U7:List Expr}
def Bm (t u:TT):TT:=λσ H Q=>t σ H λc H1=>if c=true then u σ H1 Q else Q false H1
def Gj (t u:TT):TT:=λσ H Q=>t σ H λc H1=>if c=true then Q true H1 else u σ H1 Q
def CK (t:TT):TT:=λσ H Q=>t σ H λc H1=>Q (!c) H1
theorem zz (ha:PT X a tA):PW X (.BoolOp .And [a] pos) tA:=by
 intro wh pins s σ H Q I h;refine isTrue_and (E9 (ha pins s σ H Q I h) λc s1 e=>?_);cases c with
 |true=>exact isTrue_and_nil e
 |false=>exact e
theorem Cy (ha:PT X a tA):PW X (.BoolOp .Or [a] pos) tA:=by
 intro wh pins s σ H Q I h;refine isTrue_or (E9 (ha pins s σ H Q I h) λc s1 e=>?_);cases c with
 |false=>exact isTrue_or_nil e
 |true=>exact e
theorem BR (ha:PT X a tA)(hb:PW X (.BoolOp .And (b::U7) pos) PY):PW X (.BoolOp .And (a::b::U7) pos) (Bm tA PY):=by
 intro wh pins s σ H Q I h;refine isTrue_and (E9 (ha pins s σ H _ I h) λc s1 ⟨H1,I1,q1⟩=>?_);cases c with
 |true=>exact hb wh pins s1 σ H1 Q I1 q1
 |false=>exact⟨H1,I1,q1⟩
theorem EC (ha:PT X a tA)(hb:PW X (.BoolOp .Or (b::U7) pos) PY):PW X (.BoolOp .Or (a::b::U7) pos) (Gj tA PY):=by
 intro wh pins s σ H Q I h;refine isTrue_or (E9 (ha pins s σ H _ I h) λc s1 ⟨H1,I1,q1⟩=>?_);cases c with
 |true=>exact⟨H1,I1,q1⟩
 |false=>exact hb wh pins s1 σ H1 Q I1 q1
theorem Cs (ha:PT X a tA):PT X (.UnaryOp .Not a pos) (CK tA):=by
 intro pins s σ H Q I h;exact isTrue_not (ha pins s σ H (λc H1=>Q (!c) H1) I h)
def vE (ta tb:TE):TE:=λσ H Q=>ta σ H λx H1=>∃c,x= .bl c/\if c=true then tb σ H1 Q else Q (.bl false) H1
def Ca (ta tb:TE):TE:=λσ H Q=>ta σ H λx H1=>∃c,x= .bl c/\if c=true then Q (.bl true) H1 else tb σ H1 Q
def vd (ta:TE):TE:=λσ H Q=>ta σ H λx H1=>∃c,x= .bl c/\Q (.bl (!c)) H1
theorem CO {op}{t:TE}(h:PE X a t):PE X (.BoolOp op [a] pos) t:=λpins s σ H Q I hw=>BoolOp_one (h pins s σ H Q I hw)
theorem AG (ha:PE X a ta)(hb:PE X (.BoolOp .And (b::U7) pos) tb):PE X (.BoolOp .And (a::b::U7) pos) (vE ta tb):=by
 intro pins s σ H Q I h;refine BoolOp_and (E9 (ha pins s σ H _ I h) λv s1 ⟨x,H1,I1,r1,q1⟩=>?_);obtain⟨c,rfl,q1⟩:=q1;cases r1;refine JD ?_;cases c with
 |true=>exact hb pins s1 σ H1 Q I1 q1
 |false=>exact⟨.bl false,H1,I1,rfl,q1⟩
theorem Fl (ha:PE X a ta)(hb:PE X (.BoolOp .Or (b::U7) pos) tb):PE X (.BoolOp .Or (a::b::U7) pos) (Ca ta tb):=by
 intro pins s σ H Q I h;refine BoolOp_or (E9 (ha pins s σ H _ I h) λv s1 ⟨x,H1,I1,r1,q1⟩=>?_);obtain⟨c,rfl,q1⟩:=q1;cases r1;refine JD ?_;cases c with
 |false=>exact hb pins s1 σ H1 Q I1 q1
 |true=>exact⟨.bl true,H1,I1,rfl,q1⟩
theorem Ci (ha:PE X a ta):PE X (.UnaryOp .Not a pos) (vd ta):=by
 intro pins s σ H Q I h;refine UnaryOp_ (E9 (ha pins s σ H _ I h) λv s1 ⟨x,H1,I1,r1,q1⟩=>?_);obtain⟨c,rfl,q1⟩:=q1;cases r1;exact not_of (JD ⟨.bl (!c),H1,I1,rfl,q1⟩)
def GI (t:TT)(ta tb:TE):TE:=λσ H Q=>t σ H λc H1=>if c=true then ta σ H1 Q else tb σ H1 Q
theorem uZ {c:Expr}(hc:PT X c tA)(ha:PE X a ta)(hb:PE X b tb):PE X (.IfExp c a b pos) (GI tA ta tb):=by
 intro pins s σ H Q I h;refine wpAny_IfExp (E9 (hc pins s σ H _ I h) λd s1 ⟨H1,I1,q1⟩=>?_);cases d with
 |true=>exact ha pins s1 σ H1 Q I1 q1
 |false=>exact hb pins s1 σ H1 Q I1 q1
end
def SqL (K:Qc)(H:Hp)(a:Addr)(xs:List V):Prop:=
 Rd H a (.lst xs)\/
  ∃(o:Obj) (a_:Array Value) (n:Nat),K.lookup a=some o/\o.cls= .type "list"/\o.dict=none/\o.data= .seq a_ n/\a_.size<=sizeLine/\Vals xs a_.toList
def SqT (K:Qc)(H:Hp)(a:Addr)(xs:List V):Prop:=
 Rd H a (.tup xs)\/
  ∃(o:Obj) (a_:Array Value) (n:Nat),K.lookup a=some o/\o.cls= .type "tuple"/\o.data= .seq a_ n/\a_.size<=sizeLine/\Vals xs a_.toList
def FO:Value->Option V
 | .none=>some .non
 | .bool b=>some (.bl b)
 | .int i _=>some (.int i)
 | .str x _=>some (.str x)
 | .bytes b _=>some (.byt b)
 | .float b _=>some (.flt b)
 | .ref a=>some (.ref a)
 | .type n=>some (.ty n)
 |_=>none
theorem RelV.abs {x:V}{u:Value}(r:RelV x u):FO u=some x:=by
 cases x with
 |non=>cases r;rfl
 |bl _=>cases r;rfl
 |int _=>obtain⟨t,rfl⟩:=r;rfl
 |str _=>obtain⟨t,rfl⟩:=r;rfl
 |byt _=>obtain⟨t,rfl⟩:=r;rfl
 |flt _=>obtain⟨t,rfl⟩:=r;rfl
 |ref _=>cases r;rfl
 |ty _=>cases r;rfl
theorem RelV.inj {x y:V}{u:Value}(r:RelV x u)(q:RelV y u):x=y:=Ie (r.abs.symm.trans q.abs)
theorem Vals.inj:∀{xs ys:List V} {us:List Value},Vals xs us->Vals ys us->xs=ys
 |_,_,_,.nil,.nil=>rfl
 |_,_,_,.cons r t,.cons r' t'=>by rw[r.inj r',Vals.inj t t']
section
variable {X:Cx} {pins:List (Addr×Obj)} {σ:St} {H:Hp} {s:Shared} {a:Addr} {xs ys:List V}
theorem SqL.of {K:Qc}(h:H a=some (.lst xs)):SqL K H a xs:= .inl (.inl h)
theorem SqT.of {K:Qc}(h:H a=some (.tup xs)):SqT K H a xs:= .inl (.inl h)
theorem Inv.list (I:Inv X pins σ H s)(h:SqL X.K H a xs):∃a_:List Value,Vals xs a_/\PlainL s.heap a a_.toArray/\xs.length<=sizeLine:=by
 rcases h with h|⟨o,a_,n,hk,hc,hd,hs,hz,r⟩
 .obtain⟨z,a_,n,r,e⟩:=h.ok I.hok;exact⟨a_,r,⟨_,n,e,rfl,rfl,rfl⟩,z⟩
 .refine⟨a_.toList,r,⟨o,n,I.kIn a o hk,hc,hd,by simpa using hs⟩,?_⟩;have e:=r.length;simp only[KO] at e;lia
theorem Inv.tuple (I:Inv X pins σ H s)(h:SqT X.K H a xs):∃a_:List Value,Vals xs a_/\IsTup s.heap a a_.toArray/\xs.length<=sizeLine:=by
 rcases h with h|⟨o,a_,n,hk,hc,hs,hz,r⟩
 .obtain⟨z,a_,r,p⟩:=h.ok I.hok;exact⟨a_,r,p,z⟩
 .refine⟨a_.toList,r,⟨o,I.kIn a o hk,hc,n,by simpa using hs⟩,?_⟩;have e:=r.length;simp only[KO] at e;lia
theorem Inv.list_inj (I:Inv X pins σ H s)(h:SqL X.K H a xs)(h':SqL X.K H a ys):xs=ys:=by
 obtain⟨a_,r,⟨o,n,e,_,_,d⟩,_⟩:=I.list h;obtain⟨its',r',⟨o',n',e',_,_,d'⟩,_⟩:=I.list h';rw[e] at e';cases e';rw[d] at d';injection d' with d1 _
 have:a_=its':=by simpa using Jm Array.toList d1
 subst this;exact r.inj r'
theorem Inv.tuple_inj (I:Inv X pins σ H s)(h:SqT X.K H a xs)(h':SqT X.K H a ys):xs=ys:=by
 obtain⟨a_,r,⟨o,e,_,n,d⟩,_⟩:=I.tuple h;obtain⟨its',r',⟨o',e',_,n',d'⟩,_⟩:=I.tuple h';rw[e] at e';cases e';rw[d] at d';injection d' with d1 _
 have:a_=its':=by simpa using Jm Array.toList d1
 subst this;exact r.inj r'
end
abbrev Cx.wish (X:Cx)(E:Value->Shared->Prop):Cx:={X with xe:=E}
abbrev Cx.nox (X:Cx):Cx:=X.wish λ_ _=>False
theorem Cx.Ok.wish {X:Cx}(ok:X.Ok)(E:Value->Shared->Prop):(X.wish E).Ok:=
 ⟨ok.mod,ok.kind,ok.glob,ok.blt,ok.above,ok.inj,ok.has,ok.cab,ok.hd,ok.frames,ok.stk,ok.exf,ok.bs,ok.bsz,ok.noex,ok.exfs,ok.funs,ok.frf⟩
theorem Cx.Ok.unwish {X:Cx}{E:Value->Shared->Prop}(ok:(X.wish E).Ok):X.Ok:=
 ⟨ok.mod,ok.kind,ok.glob,ok.blt,ok.above,ok.inj,ok.has,ok.cab,ok.hd,ok.frames,ok.stk,ok.exf,ok.bs,ok.bsz,ok.noex,ok.exfs,ok.funs,ok.frf⟩
section
variable {X:Cx} {pins:List (Addr×Obj)} {σ:St} {H:Hp} {s:Shared} {E:Value->Shared->Prop}
theorem Inv.wish (I:Inv X pins σ H s)(E:Value->Shared->Prop):Inv (X.wish E) pins σ H s:=⟨I.ok.wish E,I.os,I.bare,I.base,I.loc,I.cell,I.free,I.freeC,I.pin,I.hok,I.len⟩
theorem Inv.unwish (I:Inv (X.wish E) pins σ H s):Inv X pins σ H s:=⟨I.ok.unwish,I.os,I.bare,I.base,I.loc,I.cell,I.free,I.freeC,I.pin,I.hok,I.len⟩
theorem SP.unwish {D:nZ}{f:Flow}{s':Shared}(h:SP (X.wish E) pins D f s'):SP X pins D f s':=by
 cases f with
 |next=>obtain⟨σ',H',I,q⟩:=h;exact⟨σ',H',I.unwish,q⟩
 |brk=>obtain⟨σ',H',I,q⟩:=h;exact⟨σ',H',I.unwish,q⟩
 |cont=>obtain⟨σ',H',I,q⟩:=h;exact⟨σ',H',I.unwish,q⟩
 |ret u=>obtain⟨v,σ',H',I,r,q⟩:=h;exact⟨v,σ',H',I.unwish,r,q⟩
theorem PSs.nox {st:List Stmt}{t:TS}(h:PSs X.nox st t):PSs X st t:=λpins s σ H D I hw=>
 LH (h pins s σ H D (I.wish _) hw) (λ_ _ q=>q.unwish) λ_ _ z=>False.elim z
end
section
variable {X:Cx} {st:Stmt} {U7:List Stmt} {t u:TS} {e:Expr} {te:TE} {pos:Pos}
def ye:TS:=λD σ H=>D.nx σ H
def wC (t u:TS):TS:=λD σ H=>t {D with nx:=u D} σ H
theorem zC:PSs X [] ye:=λ_ _ σ H _ I h=>KU ⟨σ,H,I,h⟩
theorem uW (h1:PS X st t)(h2:PSs X U7 u):PSs X (st::U7) (wC t u):=by
 intro pins s σ H D I h;refine wpAny_execs_cons (E9 (h1 pins s σ H {D with nx:=u D} I h) λf s1 q=>?_);cases f with
 |next=>
  obtain⟨σ',H',I',q⟩:=q
  exact h2 pins s1 σ' H' D I' q
 |ret v=>exact q
 |brk=>exact q
 |cont=>exact q
theorem zk (h1:PS X st t):PSs X [st] t:=by
 intro pins s σ H D I h;refine wpAny_execs_cons (E9 (h1 pins s σ H D I h) λf s1 q=>?_);cases f with
 |next=>exact KU q
 |ret v=>exact q
 |brk=>exact q
 |cont=>exact q
theorem Inv.quiet {pins:List (Addr×Obj)}{σ:St}{H:Hp}{s:Shared}(I:Inv X pins σ H s):interactive X.env=false:=by simp [interactive,I.ok.kind]
def wo (te:TE):TS:=λD σ H=>te σ H λ_ H1=>D.nx σ H1
theorem ze (he:PE X e te)(hs:swapsWith e none pos.line X.env=pure false:=by rfl):PS X (.Expr e pos) (wo te):=by
 intro pins s σ H D I h;exact wpAny_Expr_any (E9 (he pins s σ H _ I h) λv s1 ⟨x,H1,I1,r1,q1⟩=>⟨σ,H1,I1,q1⟩) I.quiet hs
def Cz (te:TE):TS:=λD σ H=>te σ H D.rt
theorem Bn (he:PE X e te):PS X (.Return (some e) pos) (Cz te):=by
 intro pins s σ H D I h;exact wpAny_Return_some (E9 (he pins s σ H _ I h) λv s1 ⟨x,H1,I1,r1,q1⟩=>⟨x,σ,H1,I1,r1,q1⟩)
def Bt (c:TT)(t u:TS):TS:=λD σ H=>c σ H λb H1=>if b=true then t D σ H1 else u D σ H1
theorem EA {c:Expr}{a b:List Stmt}{tc:TT}(hc:PT X c tc)(ha:PSs X a t)(hb:PSs X b u):PS X (.If c a b pos) (Bt tc t u):=by
 intro pins s σ H D I h;refine wpAny_If (E9 (hc pins s σ H _ I h) λd s1 ⟨H1,I1,q1⟩=>?_);cases d with
 |true=>exact ha pins s1 σ H1 D I1 q1
 |false=>exact hb pins s1 σ H1 D I1 q1
end
abbrev TG:=V->St->Hp->(St->Hp->Prop)->Prop
abbrev pK:=List V->St->Hp->(St->Hp->Prop)->Prop
def PG (X:Cx)(target:Expr)(t:TG):Prop:=
 ∀(pins:List (Addr×Obj)) (s:Shared) (σ:St) (H:Hp) (v:V) (u:Value) (Q:St->Hp->Prop),Inv X pins σ H s->RelV v u->t v σ H Q->
  wpAny (model X.prog X.w) X.A (assign target X.env u) (λ_ s'=>∃σ' H',Inv X pins σ' H' s'/\Q σ' H') X.xe s
def zR (X:Cx)(ts:List Expr)(t:pK):Prop:=
 ∀(pins:List (Addr×Obj)) (s:Shared) (σ:St) (H:Hp) (vs:List V) (us:List Value) (Q:St->Hp->Prop),Inv X pins σ H s->Vals vs us->t vs σ H Q->
  wpAny (model X.prog X.w) X.A (assignInOrder ((assignEach ts X.env).map (·.2)) us) (λ_ s'=>∃σ' H',Inv X pins σ' H' s'/\Q σ' H') X.xe s
abbrev oU:=V->V->V->Hp->(Hp->Prop)->Prop
def tM (X:Cx)(t:oU):Prop:=
 ∀(pins:List (Addr×Obj)) (s:Shared) (σ:St) (H:Hp) (o i v:V) (ov iv u:Value) (Q:Hp->Prop),Inv X pins σ H s->RelV o ov->RelV i iv->RelV v u->t o i v H Q->
  wpAny (model X.prog X.w) X.A (setItem ov iv u) (λ_ s'=>∃H',Inv X pins σ H' s'/\Q H') X.xe s
section
variable {X:Cx} {pos:Pos}
def P8 (i:Nat):TG:=λv σ H Q=>Q (σ.set i (some v)) H
theorem yt {i:Nat}{x:Str}(hN:X.N.Nodup)(hi:X.N[i]?=some x)(hx:Al X.env.scope x)(hf:X.fn x=true\/X.env.scope.names.lookup x=some .local:=by first|exact .inl rfl|exact .inr rfl|assumption):PG X (.Name x pos) (P8 i):=by
 intro pins s σ H v u Q I r h;exact wpAny_assign_Name (oz I hN hi hx r (λs' I'=>⟨_,H,I',h⟩) hf)
def CM:pK:=λvs σ H Q=>vs=[]/\Q σ H
def qW (t:TG)(u:pK):pK:=λvs σ H Q=>∃v r,vs=v::r/\t v σ H λσ' H'=>u r σ' H' Q
theorem zO:zR X [] CM:=by
 intro pins s σ H vs us Q I r h;obtain⟨e,h⟩:=h;subst e;cases r;exact assignInOrder_nil ⟨σ,H,I,h⟩
theorem xP {e:Expr}{es:List Expr}{t:TG}{u:pK}(h1:PG X e t)(h2:zR X es u)
  (hs:(assignEach (e::es) X.env).map (·.2)=assign e X.env::(assignEach es X.env).map (·.2):=by rfl):zR X (e::es) (qW t u):=by
 intro pins s σ H vs us Q I r h
 obtain⟨v,vr,e1,h⟩:=h
 subst e1
 cases r with
 |cons r rr=>
  rw[hs]
  refine assignInOrder_cons (E9 (h1 pins s σ H _ _ _ I r h) λ_ s1 ⟨σ1,H1,I1,q1⟩=>?_)
  exact h2 pins s1 σ1 H1 _ _ Q I1 rr q1
def ve (K:Qc)(n:Nat)(t:pK):TG:=λv σ H Q=>∃a xs,v= .ref a/\SqT K H a xs/\xs.length=n/\t xs σ H Q
theorem AW {es:List Expr}{k:Nat}{t:pK}{n:Nat}(hc:X.calm=true)(h:zR X es t)
  (hn:(assignEach es X.env).length=n:=by rfl) (OU:(assignEach es X.env).findIdx? (·.1)=none:=by rfl):PG X (.Tuple es k pos) (ve X.K n t):=by
 intro pins s σ H v u Q I r hw
 obtain⟨a,xs,e1,hq,hl,hw⟩:=hw
 subst e1
 cases r
 obtain⟨a_,rv,ht,hz⟩:=I.tuple hq
 refine assign_Tuple_tuple (I.ok.hd hc) ht (by simp [hn,←hl,rv.length]) OU λh' hx=>?_
 have I1:Inv X pins σ H {s with heap:=h'}:=I.kept (t':=s.toks) λb o e=>hx b o (Im (HZ e)) e
 exact h pins _ σ H xs _ Q I1 (by simpa using rv) hw
def yn (to ti:TE)(t:oU):TG:=λv σ H Q=>to σ H λo H1=>ti σ H1 λi H2=>t o i v H2 λH3=>Q σ H3
theorem AZ {o i:Expr}{to ti:TE}{t:oU}(ho:PE X o to)(hi:PE X i ti)(hs:tM X t)
  (ha:∀v,assign (.Subscript o i pos) X.env v=(do
   let ov←holding [v] (eval o X.env)
   let iv←holding [v,ov] (eval i X.env)
   standAt pos
   holding [v,ov,iv] (setItem ov iv v)
   release [v,ov,iv] []):=by intro _;rfl):PG X (.Subscript o i pos) (yn to ti t):=by
 intro pins s σ H v u Q I r h
 rw[ha]
 refine HR (Ji (E9 (ho pins s σ H _ I h) λov s1 ⟨x,H1,I1,r1,q1⟩=>?_))
 refine HR (Ji (E9 (hi pins s1 σ H1 _ I1 q1) λiv s2 ⟨y,H2,I2,r2,q2⟩=>?_))
 refine HR (NK (HR (Ji (E9 (hs pins s2 σ H2 x y v ov iv u _ I2 r1 r2 r q2) λ_ s3 ⟨H3,I3,q3⟩=>?_))))
 exact wpAny_release ⟨σ,H3,I3,q3⟩
def pL (te:TE)(g:TG):TS:=λD σ H=>te σ H λx H1=>g x σ H1 D.nx
theorem Ax {tg e:Expr}{te:TE}{g:TG}(he:PE X e te)(hg:PG X tg g)(hs:swapsWithSole [tg] e pos.line X.env=pure false:=by rfl)(hw:swappedStores [tg] e X.env=pure none:=by rfl)
  (h1:(assignEach [tg] X.env).map (·.2)=[assign tg X.env]:=by rfl):PS X (.Assign [tg] e pos) (pL te g):=by
 intro pins s σ H D I h
 refine wpAny_Assign_stores (E9 (he pins s σ H _ I h) λv s1 ⟨x,H1,I1,r1,q1⟩=>?_) hs hw
 rw[h1]
 exact E9 (hg pins s1 σ H1 x v _ I1 r1 q1) λ_ s2 q=>q
theorem CF {i:Nat}{x:Str}{e:Expr}{te:TE}{pos':Pos}(hN:X.N.Nodup)(hi:X.N[i]?=some x)(hx:Al X.env.scope x)(he:PE X e te)(hs:swapsWith e (some (.Name x pos')) pos.line X.env=pure false:=by rfl)(hf:X.fn x=true\/X.env.scope.names.lookup x=some .local:=by first|exact .inl rfl|exact .inr rfl|assumption):
  PS X (.Assign [.Name x pos'] e pos) (pL te (P8 i)):=by
 intro pins s σ H D I h
 refine wpAny_Assign_Name (E9 (he pins s σ H _ I h) λv s1 ⟨y,H1,I1,r1,q1⟩=>?_) hs
 exact oz I1 hN hi hx r1 (λs2 I2=>⟨_,H1,I2,q1⟩) hf
end
section
variable {X:Cx} {pos:Pos}
def wL (c:TT)(tb:TS):TS:=λD σ H=>∃W:Nat->St->Hp->Prop,(∃m,W m σ H)/\∀m σ H,W m σ H->
 c σ H λb H1=>if b=true then ∃N:St->Hp->Prop,(∀σ' H',N σ' H'->∃m',m'<m/\W m' σ' H')/\tb {D with nx:=N,ct:=N,bk:=D.nx} σ H1 else D.nx σ H1
theorem vp {c:Expr}{body:List Stmt}{tc:TT}{tb:TS}(hp:PassesOwn (model X.prog X.w) X.A X.env X.xe)(hc:PT X c tc)(hb:PSs X body tb):PS X (.While c body [] pos) (wL tc tb):=by
 intro pins s σ H D I h;obtain⟨W,⟨m0,w0⟩,turn⟩:=h;refine wpAny_While (codeAny_whileLoop (λn s'=>∃σ' H',Inv X pins σ' H' s'/\W n σ' H') ?_ m0 ⟨σ,H,I,w0⟩);rintro n s1 ⟨σ1,H1,I1,w1⟩;refine JU hp (E9 (hc pins s1 σ1 H1 _ I1 (turn n σ1 H1 w1)) λb s2 ⟨H2,I2,q2⟩=>?_);cases b with
 |true=>
  obtain⟨N,hN,q2⟩:=q2
  rw[if_pos rfl]
  refine JU hp (E9 (hb pins s2 σ1 H2 _ I2 q2) λf s3 q3=>?_)
  cases f with
  |next=>
   obtain⟨σ3,H3,I3,n3⟩:=q3
   obtain⟨m',hm,w3⟩:=hN σ3 H3 n3
   exact⟨m',hm,σ3,H3,I3,w3⟩
  |cont=>
   obtain⟨σ3,H3,I3,n3⟩:=q3
   obtain⟨m',hm,w3⟩:=hN σ3 H3 n3
   exact⟨m',hm,σ3,H3,I3,w3⟩
  |brk=>exact q3
  |ret v=>exact q3
 |false=>
  rw[if_neg IB]
  exact KU ⟨σ1,H2,I2,q2⟩
end
structure It where
 go:Nat->Hp->Prop
 yld:Nat->Hp->V->Hp->Prop
 stop:Nat->Hp->Prop
def dO (X:Cx)(pins:List (Addr×Obj))(H:Hp)(b:Addr):Prop:=
 H b=none/\b≠X.env.locals/\b∉X.fs/\(b∈X.ex\/X.s₀.heap.objs.size<=b)/\(∀x c,X.env.cells.lookup x=some c->c≠b)/\∀p∈X.pn++pins,p.1≠b
theorem Inv.fpOk {X:Cx}{pins:List (Addr×Obj)}{σ:St}{H H':Hp}{s:Shared}{b:Addr}(I:Inv X pins σ H s)(hb:s.heap.objs.size<=b)(hn:H' b=none):dO X pins H' b:=by
 refine⟨hn,LY (Ib I.lt hb),I.nofs hb,.inr (Ip I.sz hb),λx c e z=>?_,λp hp z=>?_⟩
 .obtain⟨v,q⟩:=I.cell x c e;exact absurd (Ib q.lt (by rw[z];exact hb)) (Jo _)
 .exact absurd (Ib (HZ (I.pin p hp).1) (by rw[z];exact hb)) (Jo _)
structure eT (P:Program) (w:World) (K:Qc) (tg:Expr) (J:It) (fp:List Addr) (it:Addr) (tn:Nat->Heap->Prop):Prop where
 mem:it∈fp
 obj:∀i h,tn i h->∀b∈fp,∃o,h.get? b=some o/\∀v,o.data≠ .cell v
 keep:∀i h h',tn i h->(∀b∈fp,∀o,h.get? b=some o->h'.get? b=some o)->tn i h'
 item:∀(X:Cx),X.prog=P->X.w=w->X.K=K->X.calm=true->∀(i:Nat) (pins:List (Addr×Obj)) (s:Shared) (σ:St) (H:Hp) (E:Value->Shared->Prop),Inv X pins σ H s->(∀b∈fp,dO X pins H b)->tn i s.heap->J.go i H->
  wpAny (model P w) X.A (pyNext (.ref it)) (λr s1=>∃u,r=some u/\
   wpAny (model P w) X.A (letOwnedTupleGo tg (.ref it) u) (λ_ s2=>∃x H',Inv X pins σ H' s2/\RelV x u/\J.yld i H x H'/\tn (i+1) s2.heap/\∀b∈fp,H' b=none) E s1) E s
 done:∀(X:Cx),X.prog=P->X.w=w->X.K=K->X.calm=true->∀(i:Nat) (pins:List (Addr×Obj)) (s:Shared) (σ:St) (H:Hp) (E:Value->Shared->Prop),Inv X pins σ H s->(∀b∈fp,dO X pins H b)->tn i s.heap->J.stop i H->
  wpAny (model P w) X.A (pyNext (.ref it)) (λr s1=>r=none/\Inv X pins σ H s1) E s
 self:∀(A:Around) (i:Nat) (s:Shared) (Q:Value->Shared->Prop) (E:Value->Shared->Prop),tn i s.heap->Q (.ref it) s->wpAny (model P w) A (pyIter (.ref it)) Q E s
abbrev TI:=St->Hp->(It->Hp->Prop)->Prop
def FE (X:Cx)(pins:List (Addr×Obj))(σ:St)(tg:Expr)(R:It->Hp->Prop)(SM:Value)(s2:Shared):Prop:=
 ∃(it:Addr) (fp:List Addr) (tn:Nat->Heap->Prop) (J:It) (H':Hp),SM= .ref it/\Inv X pins σ H' s2/\eT X.prog X.w X.K tg J fp it tn/\tn 0 s2.heap/\(∀b∈fp,dO X pins H' b)/\R J H'
def PI (X:Cx)(tg iter:Expr)(wi:TI):Prop:=
 ∀(pins:List (Addr×Obj)) (s:Shared) (σ:St) (H:Hp) (R:It->Hp->Prop),Inv X pins σ H s->wi σ H R->
  wpAny (model X.prog X.w) X.A (eval iter X.env) (λv s1=>wpAny (model X.prog X.w) X.A (pyIter v) (FE X pins σ tg R) X.xe s1) X.xe s
theorem ng {M : Model} {A : Around} {E : Value -> Shared -> Prop} {s : Shared} {tg : Expr} {it : Addr} {u : Value} {o : Obj} {n : String} {vs : Array Value} {Q : Unit -> Shared -> Prop} (ho : s.heap.get? it = some o) (hc : o.cls = .type n) (hd : o.data = .fields vs)
    (hn : ["enumerate", "zip", "dict_itemiterator", "dict_reverseitemiterator", "odict_iterator", "itertools.zip_longest", "itertools.pairwise"].contains n = false) (hQ : Q () s) : wpAny M A (letOwnedTupleGo tg (.ref it) u) Q E s := by
  unfold letOwnedTupleGo
  cases tg <;> first
    | exact Ig hQ
    | (cases u <;> first
        | exact Ig hQ
        | (refine HR (wpAny_load ho ?_)
           rw [hc, hd]
           show wpAny M A (if (["enumerate", "zip", "dict_itemiterator", "dict_reverseitemiterator", "odict_iterator", "itertools.zip_longest", "itertools.pairwise"].contains n && vs[0]? == some (rawInt _)) = true then _ else _) Q E s
           rw [if_neg (by intro h; rw [hn, Bool.false_and] at h; cases h)]
           exact Ig hQ))
def Itl (K:Qc)(a:Addr):It:=
 ⟨λi H=>∃xs x,SqL K H a xs/\xs[i]?=some x,λi H x H'=>H'=H/\∀xs,SqL K H a xs->xs[i]?=some x,λi H=>∃xs,SqL K H a xs/\xs.length<=i⟩
def GY (K:Qc)(a:Addr):It:=
 ⟨λi H=>∃xs x,SqT K H a xs/\xs[i]?=some x,λi H x H'=>H'=H/\∀xs,SqT K H a xs->xs[i]?=some x,λi H=>∃xs,SqT K H a xs/\xs.length<=i⟩
def Fw (lo:Int)(n:Nat):It:=⟨λi _=>i<n,λi H x H'=>H'=H/\x= .int (lo+i),λi _=>n<=i⟩
theorem uk {P:Program}{w:World}{K:Qc}{tg:Expr}(a it:Addr):eT P w K tg (Itl K a) [it] it (λi h=>h.IsListIter it a i) where
 mem:=by simp
 obj:=λi h st b hb=>by
  have e:b=it:=by simpa using hb
  subst e;obtain⟨o,e,c,d⟩:=st;exact⟨o,e,λv z=>by rw[d] at z;cases z⟩
 keep:=λi h h' st k=>st.at λo e=>k it (by simp) o e
 item:=by
  intro X hP hw hK hc i pins s σ H E I hf st hg;subst hP hw hK;obtain⟨xs,x,hq,hx⟩:=hg;obtain⟨a_,rv,p,hz⟩:=I.list hq;obtain⟨u,hu,ru⟩:=rv.get hx;obtain⟨f0,f1,f2,f3,f4,f5⟩:=hf it (by simp);refine Ll st p.isList (x:=u) (by simpa using hu) λh' MO sb=>?_;have I1:Inv X pins σ H {s with heap:=h'}:=I.turned (t':=s.toks) (λb o hb e=>(sb.2 b hb).trans e) f0 f1 f3 f4 f5;obtain⟨o,e,c,d⟩:=id MO;exact⟨u,rfl,ng (s:={s with heap:=h'}) e c d (by decide) ⟨x,H,I1,ru,⟨rfl,λys hy=>by rw[I.list_inj hy hq];exact hx⟩,MO,λb hb=>(hf b hb).1⟩⟩
 done:=by
  intro X hP hw hK hc i pins s σ H E I hf st hg;subst hP hw hK;obtain⟨xs,hq,hx⟩:=hg;obtain⟨a_,rv,p,hz⟩:=I.list hq;obtain⟨f0,f1,f2,f3,f4,f5⟩:=hf it (by simp);have hl:=rv.length;exact Lu (I.ok.hd hc) st p.isList (by simp;lia) λh' eb=>⟨rfl,I.turned (t':=s.toks) (λb o hb e=>eb b o hb e) f0 f1 f3 f4 f5⟩
 self:=λ_ _ _ _ _ st h=>wpAny_pyIter_listiter st h
theorem qk {P:Program}{w:World}{K:Qc}{tg:Expr}(a it:Addr):eT P w K tg (GY K a) [it] it (λi h=>h.IsTupleIter it a i) where
 mem:=by simp
 obj:=λi h st b hb=>by
  have e:b=it:=by simpa using hb
  subst e;obtain⟨o,e,c,d⟩:=st;exact⟨o,e,λv z=>by rw[d] at z;cases z⟩
 keep:=λi h h' st k=>st.at λo e=>k it (by simp) o e
 item:=by
  intro X hP hw hK hc i pins s σ H E I hf st hg;subst hP hw hK;obtain⟨xs,x,hq,hx⟩:=hg;obtain⟨a_,rv,p,hz⟩:=I.tuple hq;obtain⟨u,hu,ru⟩:=rv.get hx;obtain⟨f0,f1,f2,f3,f4,f5⟩:=hf it (by simp);refine wpAny_pyNext_tuple_item st (show s.heap.IsTuple a a_.toArray from p) (x:=u) (by simpa using hu) λh' MO sb=>?_;have I1:Inv X pins σ H {s with heap:=h'}:=I.turned (t':=s.toks) (λb o hb e=>(sb.2 b hb).trans e) f0 f1 f3 f4 f5;obtain⟨o,e,c,d⟩:=id MO;exact⟨u,rfl,ng (s:={s with heap:=h'}) e c d (by decide) ⟨x,H,I1,ru,⟨rfl,λys hy=>by rw[I.tuple_inj hy hq];exact hx⟩,MO,λb hb=>(hf b hb).1⟩⟩
 done:=by
  intro X hP hw hK hc i pins s σ H E I hf st hg;subst hP hw hK;obtain⟨xs,hq,hx⟩:=hg;obtain⟨a_,rv,p,hz⟩:=I.tuple hq;obtain⟨f0,f1,f2,f3,f4,f5⟩:=hf it (by simp);have hl:=rv.length;exact wpAny_pyNext_tuple_end (I.ok.hd hc) st (show s.heap.IsTuple a a_.toArray from p) (by simp;lia) λh' eb=>⟨rfl,I.turned (t':=s.toks) (λb o hb e=>eb b o hb e) f0 f1 f3 f4 f5⟩
 self:=λ_ _ _ _ _ st h=>wpAny_pyIter_tupleiter st h
theorem pM {P:Program}{w:World}{K:Qc}{tg:Expr}(it:Addr)(lo:Int)(n:Nat):eT P w K tg (Fw lo n) [it] it (λi h=>IsRangeIter h it (lo+(i:Nat)*1) ((n:Int) -(i:Nat)) 1) where
 mem:=by simp
 obj:=λi h st b hb=>by
  have e:b=it:=by simpa using hb
  subst e;exact⟨_,st,λv z=>by
   have z':Data.fields _=Data.cell v:=z;cases z'⟩
 keep:=λi h h' st k=>k it (by simp) _ st
 item:=by
  intro X hP hw hK hc i pins s σ H E I hf st hg;subst hP hw hK;obtain⟨f0,f1,f2,f3,f4,f5⟩:=hf it (by simp);have W:=Walks.range (prog:=X.prog) (w:=X.w) (I.ok.hd hc) it lo 1 n;refine W.item i s _ _ hg st λv h' tk hv MO kk=>?_;obtain⟨t,rfl⟩:=hv;have I1:Inv X pins σ H {s with heap:=h',toks:=tk}:=I.turned (λb o hb e=>kk b o (by simpa using hb) e) f0 f1 f3 f4 f5;refine⟨_,rfl,ng (s:={s with heap:=h',toks:=tk}) (n:="range_iterator") MO rfl rfl (by decide) ⟨.int (lo+i),H,I1,⟨t,?_⟩,⟨rfl,rfl⟩,MO,λb hb=>(hf b hb).1⟩⟩;rw[Int.mul_one]
 done:=by
  intro X hP hw hK hc i pins s σ H E I hf st hg;subst hP hw hK;obtain⟨f0,f1,f2,f3,f4,f5⟩:=hf it (by simp);exact wpAny_pyNext_range_end (I.ok.hd hc) st (by have:n<=i:=hg;lia) λh' eb=>⟨rfl,I.turned (t':=s.toks) (λb o hb e=>eb b o hb e) f0 f1 f3 f4 f5⟩
 self:=λ_ _ _ _ _ st h=>wpAny_pyIter_rangeiter st h
section
variable {X:Cx} {tg:Expr}
theorem xI {pins:List (Addr×Obj)}{σ:St}{H:Hp}{s:Shared}{R:It->Hp->Prop}{E:Value->Shared->Prop}{lo hi:Int}{t u v:Tok}{tk:Nat}(I:Inv X pins σ H s)(h1: -(2 ^ 62)<=lo)(h2:lo<2 ^ 62)(h3: -(2 ^ 62)<=hi)(h4:hi<2 ^ 62)
  (q:R (Fw lo (hi -lo).toNat) H):wpAny (model X.prog X.w) X.A (pyIter (.ref s.heap.objs.size)) (FE X pins σ tg R) E {s with heap:=s.heap.push {cls:= .type "range",data:= .fields #[.int lo t,.int hi u,.int 1 v]},toks:=tk}:=by
 refine wpAny_pyIter_range (IsRange.new ..) (small_one h1 h2 h3 h4) ?_
 have I1:Inv X pins σ H {s with heap:=s.heap.push {cls:= .type "range",data:= .fields #[.int lo t,.int hi u,.int 1 v]},toks:=tk}:=I.kept λb o e=>HS _ e
 refine⟨(s.heap.push {cls:= .type "range",data:= .fields #[.int lo t,.int hi u,.int 1 v]}).objs.size,[(s.heap.push {cls:= .type "range",data:= .fields #[.int lo t,.int hi u,.int 1 v]}).objs.size],_,_,H,rfl,
  I1.kept (t':=tk) λb o e=>HS _ e,pM _ lo (hi -lo).toNat,?_,λb hb=>?_,q⟩
 .have e1:lo+((0:Nat):Int)*1=lo:=by simp
  have e2:(((hi -lo).toNat:Nat):Int) -((0:Nat):Int)=Builtin.Range.rangeSize lo hi 1:=by rw[rangeSize_one];split<;>lia
  show IsRangeIter _ _ (lo+((0:Nat):Int)*1) ((((hi -lo).toNat:Nat):Int) -((0:Nat):Int)) 1
  rw[e1,e2]
  exact Iq _ rfl
 .have e:b=(s.heap.push {cls:= .type "range",data:= .fields #[.int lo t,.int hi u,.int 1 v]}).objs.size:=by simpa using hb
  subst e
  exact I1.fpOk (HJ _) (I1.hok.fresh (HJ _))
def wR (ta:TA):TI:=λσ H R=>ta σ H λvs H1=>∃j:Int,vs=[.int j]/\-(2 ^ 62)<=j/\j<2 ^ 62/\R (Fw 0 j.toNat) H1
theorem ug {a:Expr}{ta:TA}{p pos:Pos}(hg:Gl X "range")(hm:X.mg "range"=none)(ha:PA X [a] ta)(hs:starEach [a] X.env=[(false,eval a X.env)]:=by rfl):PI X tg (.Call (.Name "range" p) [a] [] pos) (wR ta):=by
 intro pins s σ H R I h;refine Call_ (ai I hg hm boot_range (Jk (E9 (ha pos pins s σ H _ I h) λus s1 ⟨vs,H1,I1,r1,q1⟩=>?_) hs rfl));obtain⟨j,e,q1,q2,q⟩:=q1;subst e;cases r1 with
 |cons r rr=>
  cases rr
  obtain⟨t,rfl⟩:=r
  exact call_range_1 (xI I1 (by lia) (by lia) q1 q2 (by simpa using q))
def ja (fp:List Addr)(h:Heap):List (Addr×Obj):=fp.filterMap λb=>(h.get? b).map λo=>(b,o)
theorem Z4 {fp:List Addr}{h:Heap}{b:Addr}{o:Obj}(hb:b∈fp)(e:h.get? b=some o):(b,o)∈ja fp h:=LZ.mpr ⟨b,hb,by rw[e];rfl⟩
theorem uG {fp:List Addr}{h:Heap}{p:Addr×Obj}(hp:p∈ja fp h):p.1∈fp/\h.get? p.1=some p.2:=by
 obtain⟨b,hb,e⟩:=LZ.mp hp;cases q:h.get? b with
 |none=>rw[q] at e;cases e
 |some o=>
  rw[q] at e
  have e':(b,o)=p:=Ie e
  subst e'
  exact⟨hb,q⟩
theorem Inv.pinned {pins:List (Addr×Obj)}{σ:St}{H:Hp}{s:Shared}{fp:List Addr}(I:Inv X pins σ H s)(hf:∀b∈fp,dO X pins H b)(ho:∀b∈fp,∃o,s.heap.get? b=some o/\∀v,o.data≠ .cell v):Inv X (pins++ja fp s.heap) σ H s:=
 I.pins_of λp hp=>(Ic.mp hp).elim (λz=>I.pin p (Ia _ z)) λz=>by
  obtain⟨hb,e⟩:=uG z;obtain⟨f0,f1,f2,_⟩:=hf p.1 hb;obtain⟨o,e',d⟩:=ho p.1 hb;rw[e] at e';cases e';exact⟨e,f0,f1,f2,d⟩
theorem Inv.unpinned {pins pl:List (Addr×Obj)}{σ:St}{H:Hp}{s:Shared}(I:Inv X (pins++pl) σ H s):Inv X pins σ H s:=I.pins_of λp hp=>I.pin p (Ia _ (HU _ hp))
end
abbrev R2:=V->V->Hp->VK->Prop
def OpR (X:Cx)(f:Value->Value->Sem Value)(r:R2):Prop:=
 ∀(pins:List (Addr×Obj)) (s:Shared) (σ:St) (H:Hp) (x y:V) (v u:Value) (Q:VK),Inv X pins σ H s->RelV x v->RelV y u->r x y H Q->
  wpAny (model X.prog X.w) X.A (f v u) (EP X pins σ Q) X.xe s
def FA (X:Cx)(f:Value->Sem Value)(r:V->Hp->VK->Prop):Prop:=
 ∀(pins:List (Addr×Obj)) (s:Shared) (σ:St) (H:Hp) (x:V) (v:Value) (Q:VK),Inv X pins σ H s->RelV x v->r x H Q->
  wpAny (model X.prog X.w) X.A (f v) (EP X pins σ Q) X.xe s
def CallR (X:Cx)(f:Value)(r:List V->Hp->VK->Prop):Prop:=
 ∀(pins:List (Addr×Obj)) (s:Shared) (σ:St) (H:Hp) (xs:List V) (us:List Value) (Q:VK),Inv X pins σ H s->Vals xs us->r xs H Q->
  wpAny (model X.prog X.w) X.A (call f us) (EP X pins σ Q) X.xe s
def Gu (X:Cx)(r:V->Hp->(Bool->Hp->Prop)->Prop):Prop:=
 ∀(pins:List (Addr×Obj)) (s:Shared) (σ:St) (H:Hp) (x:V) (v:Value) (Q:Bool->Hp->Prop),Inv X pins σ H s->RelV x v->r x H Q->
  wpAny (model X.prog X.w) X.A (truthy v) (TP X pins σ Q) X.xe s
def zr (r:R2)(ta tb:TE):TE:=λσ H Q=>ta σ H λx H1=>tb σ H1 λy H2=>r x y H2 Q
def GA (r:V->Hp->VK->Prop)(ta:TE):TE:=λσ H Q=>ta σ H λx H1=>r x H1 Q
def rI (C:Int->Int->Prop)(g:Int->Int->V):R2:=λx y H Q=>∃i j,x= .int i/\y= .int j/\C i j/\Q (g i j) H
def yf (g:Int->Int->V):R2:=λx y H Q=>∃i j,x= .int i/\y= .int j/\Q (g i j) H
def rU (g:Int->V):V->Hp->VK->Prop:=λx H Q=>∃i,x= .int i/\Q (g i) H
section
variable {X:Cx} {a b c:Expr} {ta tb tc:TE} {pos:Pos}
theorem Bd (ha:PE X a ta)(hb:PE X b tb){pins:List (Addr×Obj)}{s:Shared}{σ:St}{H:Hp}{R:V->V->Hp->Prop}(I:Inv X pins σ H s)
  (h:ta σ H λx H1=>tb σ H1 λy H2=>R x y H2) {Q:Value->Shared->Prop} {f:Value->Value->Sem Value}
  (hf:∀v u s2 x y H2,Inv X pins σ H2 s2->RelV x v->RelV y u->R x y H2->wpAny (model X.prog X.w) X.A (f v u) Q X.xe s2):
  wpAny (model X.prog X.w) X.A (eval a X.env) (λv s₁=>wpAny (model X.prog X.w) X.A (eval b X.env) (λu s₂=>wpAny (model X.prog X.w) X.A (f v u) Q X.xe s₂) X.xe s₁) X.xe s:=by
 refine E9 (ha pins s σ H _ I h) λv s1 ⟨x,H1,I1,r1,q1⟩=>?_
 refine E9 (hb pins s1 σ H1 _ I1 q1) λu s2 ⟨y,H2,I2,r2,q2⟩=>?_
 exact hf v u s2 x y H2 I2 r1 r2 q2
theorem CZ {op:Operator}{r:R2}(ho:OpR X (binaryOp op) r)(ha:PE X a ta)(hb:PE X b tb):PE X (.BinOp a op b pos) (zr r ta tb):=by
 intro pins s σ H Q I h;exact wpAny_BinOp (Bd ha hb I h λv u s2 x y H2 I2 rx ry q=>ho pins s2 σ H2 x y v u Q I2 rx ry q)
theorem DY {op:UnaryOp}{r:V->Hp->VK->Prop}(ho:FA X (unaryOp op) r)(ha:PE X a ta):PE X (.UnaryOp op a pos) (GA r ta):=by
 intro pins s σ H Q I h;exact UnaryOp_ (E9 (ha pins s σ H _ I h) λv s1 ⟨x,H1,I1,r1,q1⟩=>ho pins s1 σ H1 x v Q I1 r1 q1)
theorem En {f:Value->Value->Sem Value}{C:Int->Int->Prop}{g:Int->Int->Int}
  (rule:∀(i j:Int) (t u:Tok) (s:Shared) (Q:Value->Shared->Prop) (E:Value->Shared->Prop),C i j->Q (.int (g i j) s.toks) {s with toks:=s.toks+1}->wpAny (model X.prog X.w) X.A (f (.int i t) (.int j u)) Q E s):
  OpR X f (rI C λi j=> .int (g i j)):=by
 intro pins s σ H x y v u Q I rx ry h
 obtain⟨i,j,rfl,rfl,hc,q⟩:=h
 obtain⟨t,rfl⟩:=rx
 obtain⟨t',rfl⟩:=ry
 exact rule i j t t' s _ _ hc ⟨.int (g i j),H,I.tok _,⟨_,rfl⟩,q⟩
theorem Dl {f:Value->Value->Sem Value}{g:Int->Int->Int}
  (rule:∀(i j:Int) (t u:Tok) (s:Shared) (Q:Value->Shared->Prop) (E:Value->Shared->Prop),Q (.int (g i j) s.toks) {s with toks:=s.toks+1}->wpAny (model X.prog X.w) X.A (f (.int i t) (.int j u)) Q E s):
  OpR X f (yf λi j=> .int (g i j)):=by
 intro pins s σ H x y v u Q I rx ry h
 obtain⟨i,j,rfl,rfl,q⟩:=h
 obtain⟨t,rfl⟩:=rx
 obtain⟨t',rfl⟩:=ry
 exact rule i j t t' s _ _ ⟨.int (g i j),H,I.tok _,⟨_,rfl⟩,q⟩
theorem Cw {f:Value->Value->Sem Value}{g:Int->Int->Bool}
  (rule:∀(i j:Int) (t u:Tok) (s:Shared) (Q:Value->Shared->Prop) (E:Value->Shared->Prop),Q (.bool (g i j)) s->wpAny (model X.prog X.w) X.A (f (.int i t) (.int j u)) Q E s):
  OpR X f (yf λi j=> .bl (g i j)):=by
 intro pins s σ H x y v u Q I rx ry h
 obtain⟨i,j,rfl,rfl,q⟩:=h
 obtain⟨t,rfl⟩:=rx
 obtain⟨t',rfl⟩:=ry
 exact rule i j t t' s _ _ ⟨.bl (g i j),H,I,rfl,q⟩
def Dc (i j:Int):Prop:=0<j/\j<1073741824
def CY (i j:Int):Prop:=0<=j/\j<=1000000/\i.natAbs<2 ^ 64
def CMul (i j:Int):Prop:=(-(2 ^ 64)<i/\i<2 ^ 64)\/(-(2 ^ 64)<j/\j<2 ^ 64)
theorem CMul.ok {i j:Int}(h:CMul i j):IntMulOk i j:=by
 rcases h with⟨h1,h2⟩|⟨h1,h2⟩
 .exact .of_left (intBits_le_64 h1 h2)
 .exact .of_right (intBits_le_64 h1 h2)
theorem op_add:OpR X (binaryOp .Add) (yf λi j=> .int (i+j)):=Dl λ_ _ _ _ _ _ _ q=>add_int q
theorem pO:OpR X (binaryOp .Sub) (yf λi j=> .int (i -j)):=Dl λ_ _ _ _ _ _ _ q=>sub_int q
theorem op_mul:OpR X (binaryOp .Mult) (rI CMul λi j=> .int (i*j)):=En λ_ _ _ _ _ _ _ hc q=>mul_int q hc.ok
theorem F2:OpR X (binaryOp .FloorDiv) (rI Dc λi j=> .int (i/j)):=En λi j _ _ _ _ _ hc q=>by
 have h1:(0:Int)<j:=hc.1;have h2:j<1073741824:=hc.2;exact floordiv_int (by lia) (by rw[Int.fdiv_eq_ediv_of_nonneg i (by lia)];exact q) (.inl (PyProof.noPylong_small (by lia)))
theorem q8:OpR X (binaryOp .Mod) (rI (λ_ j=>0<j) λi j=> .int (i % j)):=En λi j _ _ _ _ _ hc q=>by
 have h1:(0:Int)<j:=hc;exact mod_int' (by lia) (by rw[Int.fmod_eq_emod_of_nonneg i (by lia)];exact q)
theorem mO:OpR X (binaryOp .Pow) (rI CY λi j=> .int (i ^ j.toNat)):=En λ_ _ _ _ _ _ _ hc q=>pow_int_small hc.1 hc.2.1 hc.2.2 q
theorem Hy {f:Value->Sem Value}{g:Int->Int}
  (rule:∀(i:Int) (t:Tok) (s:Shared) (Q:Value->Shared->Prop) (E:Value->Shared->Prop),Q (.int (g i) s.toks) {s with toks:=s.toks+1}->wpAny (model X.prog X.w) X.A (f (.int i t)) Q E s):
  FA X f (rU λi=> .int (g i)):=by
 intro pins s σ H x v Q I rx h
 obtain⟨i,rfl,q⟩:=h
 obtain⟨t,rfl⟩:=rx
 exact rule i t s _ _ ⟨.int (g i),H,I.tok _,⟨_,rfl⟩,q⟩
theorem xb:FA X (unaryOp .USub) (rU λi=> .int (-i)):=Hy λ_ _ _ _ _ q=>neg_int q
end
def Ep:V->V->Bool
 | .non,.non=>true| .non,.int _=>true| .int _,.non=>true| .non,.bl _=>true| .bl _,.non=>true| .non,.str _=>true| .str _,.non=>true
 | .int _,.int _=>true| .bl _,.bl _=>true| .str _,.str _=>true| .byt _,.byt _=>true
 | .int _,.str _=>true| .str _,.int _=>true| .bl _,.str _=>true| .str _,.bl _=>true
 |_,_=>false
def FI:R2:=λx y H Q=>Ep x y=true/\Q (.bl (decide (x=y))) H
def Gx:R2:=λx y H Q=>Ep x y=true/\Q (.bl (!decide (x=y))) H
theorem gR {i j:Int}:decide (V.int i=V.int j)=(i==j):=by
 rw[II];simp
theorem vo {i j:Bool}:decide (V.bl i=V.bl j)=(i==j):=by
 rw[II];simp
theorem kT {i j:Str}:decide (V.str i=V.str j)=(i==j):=by
 rw[II];simp
theorem sg {i j:Array UInt8}:decide (V.byt i=V.byt j)=(i.toList==j.toList):=by
 rw[II];cases i;cases j;simp
section
variable {X:Cx} {a b c:Expr} {ta tb tc:TE} {pos:Pos}
theorem A5 {pins:List (Addr×Obj)}{σ:St}{H:Hp}{s:Shared}{Q:VK}{k k':Bool}(I:Inv X pins σ H s)(q:Q (.bl k) H)(e:k=k'):EP X pins σ Q (.bool k') s:=by
 subst e;exact⟨.bl k,H,I,rfl,q⟩
theorem op_eq:OpR X (compareOp .Eq) FI:=by
 intro pins s σ H x y v u Q I rx ry h;obtain⟨hs,q⟩:=h;cases x with
 |non=>
  cases rx
  cases y with
  |non=>cases ry;exact PySem.EqNone.eq_none_none (A5 I q (by simp))
  |bl j=>cases ry;exact PySem.EqNone.eq_none_bool (A5 I q (by simp))
  |int j=>obtain⟨t',rfl⟩:=ry;exact PySem.EqNone.eq_none_int (A5 I q (by simp))
  |str j=>obtain⟨t',rfl⟩:=ry;exact PySem.EqNone.eq_none_str (A5 I q (by simp))
  |_=>exact absurd (show false=true from hs) IB
 |bl i=>
  cases rx
  cases y with
  |non=>cases ry;exact PySem.EqNone.eq_bool_none (A5 I q (by simp))
  |bl j=>cases ry;exact eq_bool (A5 I q vo)
  |str j=>obtain⟨t',rfl⟩:=ry;exact PySem.EqMixed.eq_bool_str (A5 I q (by simp))
  |_=>exact absurd (show false=true from hs) IB
 |int i=>
  obtain⟨t,rfl⟩:=rx
  cases y with
  |non=>cases ry;exact PySem.EqNone.eq_int_none (A5 I q (by simp))
  |int j=>obtain⟨t',rfl⟩:=ry;exact eq_int (A5 I q gR)
  |str j=>obtain⟨t',rfl⟩:=ry;exact PySem.EqMixed.eq_int_str (A5 I q (by simp))
  |_=>exact absurd (show false=true from hs) IB
 |str i=>
  obtain⟨t,rfl⟩:=rx
  cases y with
  |non=>cases ry;exact PySem.EqNone.eq_str_none (A5 I q (by simp))
  |bl j=>cases ry;exact PySem.EqMixed.eq_str_bool (A5 I q (by simp))
  |int j=>obtain⟨t',rfl⟩:=ry;exact PySem.EqMixed.eq_str_int (A5 I q (by simp))
  |str j=>obtain⟨t',rfl⟩:=ry;exact eq_str (A5 I q kT)
  |_=>exact absurd (show false=true from hs) IB
 |byt i=>
  obtain⟨t,rfl⟩:=rx
  cases y with
  |byt j=>obtain⟨t',rfl⟩:=ry;exact PySem.W.eq_bytes (A5 I q sg)
  |_=>exact absurd (show false=true from hs) IB
 |_=>cases y<;>exact absurd (show false=true from hs) IB
theorem op_ne:OpR X (compareOp .NotEq) Gx:=by
 intro pins s σ H x y v u Q I rx ry h;obtain⟨hs,q⟩:=h;cases x with
 |non=>
  cases rx
  cases y with
  |non=>cases ry;exact PySem.EqNone.ne_none_none (A5 I q (by simp))
  |bl j=>cases ry;exact PySem.EqNone.ne_none_bool (A5 I q (by simp))
  |int j=>obtain⟨t',rfl⟩:=ry;exact PySem.EqNone.ne_none_int (A5 I q (by simp))
  |str j=>obtain⟨t',rfl⟩:=ry;exact PySem.EqNone.ne_none_str (A5 I q (by simp))
  |_=>exact absurd (show false=true from hs) IB
 |bl i=>
  cases rx
  cases y with
  |non=>cases ry;exact PySem.EqNone.ne_bool_none (A5 I q (by simp))
  |bl j=>cases ry;exact ne_bool (A5 I q (Jm not vo))
  |str j=>obtain⟨t',rfl⟩:=ry;exact PySem.EqMixed.ne_bool_str (A5 I q (by simp))
  |_=>exact absurd (show false=true from hs) IB
 |int i=>
  obtain⟨t,rfl⟩:=rx
  cases y with
  |non=>cases ry;exact PySem.EqNone.ne_int_none (A5 I q (by simp))
  |int j=>obtain⟨t',rfl⟩:=ry;exact ne_int (A5 I q (Jm not gR))
  |str j=>obtain⟨t',rfl⟩:=ry;exact PySem.EqMixed.ne_int_str (A5 I q (by simp))
  |_=>exact absurd (show false=true from hs) IB
 |str i=>
  obtain⟨t,rfl⟩:=rx
  cases y with
  |non=>cases ry;exact PySem.EqNone.ne_str_none (A5 I q (by simp))
  |bl j=>cases ry;exact PySem.EqMixed.ne_str_bool (A5 I q (by simp))
  |int j=>obtain⟨t',rfl⟩:=ry;exact PySem.EqMixed.ne_str_int (A5 I q (by simp))
  |str j=>obtain⟨t',rfl⟩:=ry;exact ne_str (A5 I q (Jm not kT))
  |_=>exact absurd (show false=true from hs) IB
 |byt i=>
  obtain⟨t,rfl⟩:=rx
  cases y with
  |byt j=>obtain⟨t',rfl⟩:=ry;exact PySem.W.ne_bytes (A5 I q (Jm not sg))
  |_=>exact absurd (show false=true from hs) IB
 |_=>cases y<;>exact absurd (show false=true from hs) IB
theorem op_lt:OpR X (compareOp .Lt) (yf λi j=> .bl (decide (i<j))):=Cw λ_ _ _ _ _ _ _ q=>lt_int q
theorem Dn:OpR X (compareOp .LtE) (yf λi j=> .bl (decide (i<=j))):=Cw λ_ _ _ _ _ _ _ q=>le_int q
theorem qz:OpR X (compareOp .Gt) (yf λi j=> .bl (decide (j<i))):=Cw λ_ _ _ _ _ _ _ q=>gt_int q
theorem sJ:OpR X (compareOp .Lt) (λx y H Q=>∃i j,x= .str i/\y= .str j/\Q (.bl (decide (i.cps.toList<j.cps.toList))) H):=by
 intro pins s σ H x y v u Q I rx ry h;obtain⟨i,j,rfl,rfl,q⟩:=h;obtain⟨t,rfl⟩:=rx;obtain⟨t',rfl⟩:=ry;exact lt_str (A5 I q rfl)
theorem sL:OpR X (compareOp .In) (λx y H Q=>∃i j,x= .str i/\y= .str j/\Q (.bl (!(Builtin.Str.occurrences j i 0 j.length 1).isEmpty)) H):=by
 intro pins s σ H x y v u Q I rx ry h;obtain⟨i,j,rfl,rfl,q⟩:=h;obtain⟨t,rfl⟩:=rx;obtain⟨t',rfl⟩:=ry;exact in_str (A5 I q rfl)
theorem OpR.or {f:Value->Value->Sem Value}{r r':R2}(h:OpR X f r)(h':OpR X f r'):OpR X f (λx y H Q=>r x y H Q\/r' x y H Q):=by
 intro pins s σ H x y v u Q I rx ry q;rcases q with q|q
 .exact h pins s σ H x y v u Q I rx ry q
 .exact h' pins s σ H x y v u Q I rx ry q
theorem p8 (b:Expr){op:CmpOp}(h:op≠ .In:=by decide)(h2:op≠ .NotIn:=by decide):behindInMarks op b=false:=by
 have e1:(op==CmpOp.In)=false:=by cases op<;>first|rfl|exact absurd rfl h
 have e2:(op==CmpOp.NotIn)=false:=by cases op<;>first|rfl|exact absurd rfl h2
 cases b<;>simp [behindInMarks,e1,e2]
theorem zq {op:CmpOp}{r:R2}(ho:OpR X (compareOp op) r)(ha:PE X a ta)(hb:PE X b tb)(hm:behindInMarks op b=false):PE X (.Compare a [op] [b] pos) (zr r ta tb):=by
 intro pins s σ H Q I h;exact wpAny_Compare1 (Bd ha hb I h λv u s2 x y H2 I2 rx ry q=>ho pins s2 σ H2 x y v u Q I2 rx ry q) hm
def wY (t:TE):TT:=λσ H Q=>t σ H λx H'=>∃k,x= .bl k/\Q k H'
theorem zL {op:CmpOp}{r:R2}(ho:OpR X (compareOp op) r)(ha:PE X a ta)(hb:PE X b tb)(hm:behindInMarks op b=false):PT X (.Compare a [op] [b] pos) (wY (zr r ta tb)):=by
 intro pins s σ H Q I h;refine wpAny_isTrue_Compare1 (E9 (ha pins s σ H _ I h) λv s1 ⟨x,H1,I1,r1,q1⟩=>E9 (hb pins s1 σ H1 _ I1 q1) λu s2 ⟨y,H2,I2,r2,q2⟩=>
  E9 (ho pins s2 σ H2 x y v u _ I2 r1 r2 q2) λc s3 ⟨z,H3,I3,r3,k,e,q3⟩=>?_) hm
 subst e;cases r3;exact JD ⟨H3,I3,q3⟩
def xj (K:Qc)(x:V)(H:Hp)(k:Bool):Prop:=
 match x with
 | .non=>k=false
 | .bl b=>k=b
 | .int i=>k=(i !=0)
 | .str y=>y.length<=sizeLine/\k=((y.length:Int) !=0)
 | .byt y=>y.size<=sizeLine/\k=((y.size:Int) !=0)
 | .ref p=>(∃xs,SqL K H p xs/\k=!xs.isEmpty)\/(∃xs,SqT K H p xs/\k=!xs.isEmpty)\/∃kvs,H p=some (.dK kvs)/\k=!kvs.isEmpty
 |_=>False
theorem pS {κ:Type}{kvs:List (κ×V)}{vs:List (κ×Value)}(r:KV kvs vs):(!vs.isEmpty)=!kvs.isEmpty:=by
 cases r<;>rfl
theorem iO {xs:List V}{a_:List Value}(r:Vals xs a_):(!a_.toArray.isEmpty)=!xs.isEmpty:=by
 cases r<;>simp
theorem fI:(sizeLine:Nat)<2 ^ 63:=by rw[Nw];decide
theorem BD:Gu X (λx H Q=>∃k,xj X.K x H k/\Q k H):=by
 intro pins s σ H x v Q I rx h;obtain⟨k,e,q⟩:=h;have hl:=fI;have hs:sizeLine=16777216:=Nw;cases x with
 |non=>
  cases rx
  have e':k=false:=e
  subst e'
  exact truthy_none ⟨H,I,q⟩
 |bl b=>
  cases rx
  have e':k=b:=e
  subst e'
  exact JD ⟨H,I,q⟩
 |int i=>
  obtain⟨t,rfl⟩:=rx
  have e':k=(i !=0):=e
  subst e'
  exact PySem.P.truthy_int ⟨H,I,q⟩
 |str y=>
  obtain⟨t,rfl⟩:=rx
  obtain⟨hy,e'⟩:y.length<=sizeLine/\k=((y.length:Int) !=0):=e
  subst e'
  exact PySem.P.truthy_str (by lia) ⟨H,I.tok _,q⟩
 |byt y=>
  obtain⟨t,rfl⟩:=rx
  obtain⟨hy,e'⟩:y.size<=sizeLine/\k=((y.size:Int) !=0):=e
  subst e'
  exact PySem.W.truthy_bytes (by lia) ⟨H,I.tok _,q⟩
 |ref p=>
  cases rx
  have e':(∃xs,SqL X.K H p xs/\k=!xs.isEmpty)\/(∃xs,SqT X.K H p xs/\k=!xs.isEmpty)\/∃kvs,H p=some (.dK kvs)/\k=!kvs.isEmpty:=e
  rcases e' with⟨xs,hx,e'⟩|⟨xs,hx,e'⟩|⟨kvs,hx,e'⟩
  .subst e'
   obtain⟨a_,r,pl,hz⟩:=I.list hx
   have hlen:=r.length
   exact wpAny_truthy_list pl.isList (by simp only[Ir];lia) ⟨H,I.tok _,by rw[iO r];exact q⟩
  .subst e'
   obtain⟨a_,r,pl,hz⟩:=I.tuple hx
   have hlen:=r.length
   exact truthy_tuple pl (by simp only[Ir];lia) ⟨H,I.tok _,by rw[iO r];exact q⟩
  .subst e'
   obtain⟨hz,hS,vs,r,m⟩:kvs.length<=sizeLine/\(p==sysModules)=false/\∃vs,KV kvs vs/\s.heap.DictOf (l0 X.prog X.w) p vs:=I.hok p _ hx
   have hlen:kvs.length=vs.length:=IC r
   exact wpAny_truthy_dict hS m (by lia) ⟨H,I.tok _,by rw[pS r];exact q⟩
 |_=>exact(show False from e).elim
theorem wG (ha:PE X a ta)(he:∀whole,isTrue a X.env whole=(do let v←whole;standAt a.pos;holding [v] (truthy v))):
  PT X a (λσ H Q=>ta σ H λx H'=>∃k,xj X.K x H' k/\Q k H'):=by
 intro pins s σ H Q I h
 exact isTrue_plain (E9 (ha pins s σ H _ I h) λv s1 ⟨x,H1,I1,r1,q1⟩=>BD pins s1 σ H1 x v Q I1 r1 q1) (he _)
theorem op_add_str:OpR X (binaryOp .Add) (λx y H Q=>∃i j,x= .str i/\y= .str j/\i.length+j.length<=sizeLine/\Q (.str (i++j)) H):=by
 intro pins s σ H x y v u Q I rx ry h;obtain⟨i,j,rfl,rfl,hz,q⟩:=h;obtain⟨t,rfl⟩:=rx;obtain⟨t',rfl⟩:=ry;exact add_str (λt' tk=>⟨.str (i++j),H,I.tok _,⟨_,rfl⟩,q⟩) hz
theorem K1 {x:V}{us:List Value}(r:Vals [x] us):∃u,us=[u]/\RelV x u:=by
 cases r with
 |cons r1 r2=>cases r2;exact⟨_,rfl,r1⟩
theorem V7 {x y:V}{us:List Value}(r:Vals [x,y] us):∃u w',us=[u,w']/\RelV x u/\RelV y w':=by
 cases r with
 |cons r1 r2=>
  cases r2 with
  |cons r3 r4=>cases r4;exact⟨_,_,rfl,r1,r3⟩
theorem sD (hc:X.calm=true):CallR X (.builtin "min") (λxs H Q=>∃i j,xs=[.int i,.int j]/\Q (.int (if j<i then j else i)) H):=by
 intro pins s σ H xs us Q I r h;obtain⟨i,j,rfl,q⟩:=h;obtain⟨u,w',rfl,⟨t,rfl⟩,⟨t',rfl⟩⟩:=V7 r;refine min_two_ints (I.ok.hd hc) λh' tk k=>⟨_,H,I.kept k,?_,q⟩
 by_cases hj:j<i
 .rw[if_pos hj,if_pos hj];exact⟨_,rfl⟩
 .rw[if_neg hj,if_neg hj];exact⟨_,rfl⟩
theorem kG:CallR X (.type "int") (λxs H Q=>(∃i,xs=[.int i]/\Q (.int i) H)\/∃k,xs=[.bl k]/\Q (.int (if k then 1 else 0)) H):=by
 intro pins s σ H xs us Q I r h;rcases h with⟨i,rfl,q⟩|⟨k,rfl,q⟩
 .obtain⟨u,rfl,t,rfl⟩:=K1 r;exact call_int_int ⟨.int i,H,I,⟨_,rfl⟩,q⟩
 .obtain⟨u,rfl,r1⟩:=K1 r;cases r1;exact call_int_bool ⟨.int (if k then 1 else 0),H,I.tok _,⟨_,rfl⟩,q⟩
def DH (K:Qc)(x:V)(H:Hp)(n:Nat):Prop:=
 match x with
 | .str y=>y.length<=sizeLine/\n=y.length
 | .byt y=>y.size<=sizeLine/\n=y.size
 | .ref p=>(∃xs,SqL K H p xs/\n=xs.length)\/∃xs,SqT K H p xs/\n=xs.length
 |_=>False
theorem call_len:CallR X (.builtin "len") (λxs H Q=>∃x n,xs=[x]/\DH X.K x H n/\Q (.int n) H):=by
 intro pins s σ H xs us Q I r h;obtain⟨x,n,rfl,e,q⟩:=h;obtain⟨u,rfl,rx⟩:=K1 r;have hl:=fI;have hs:sizeLine=16777216:=Nw;cases x with
 |str y=>
  obtain⟨t,rfl⟩:=rx
  obtain⟨hy,e'⟩:y.length<=sizeLine/\n=y.length:=e
  subst e'
  exact len_str (by lia) ⟨.int _,H,I.tok _,⟨_,rfl⟩,q⟩
 |byt y=>
  obtain⟨t,rfl⟩:=rx
  obtain⟨hy,e'⟩:y.size<=sizeLine/\n=y.size:=e
  subst e'
  exact PySem.W.len_bytes (by lia) ⟨.int _,H,I.tok _,⟨_,rfl⟩,q⟩
 |ref p=>
  cases rx
  have e':(∃xs,SqL X.K H p xs/\n=xs.length)\/∃xs,SqT X.K H p xs/\n=xs.length:=e
  rcases e' with⟨xs,hx,e'⟩|⟨xs,hx,e'⟩
  .subst e'
   obtain⟨a_,r',pl,hz⟩:=I.list hx
   have hlen:=r'.length
   exact Calls.call_len_list pl.isList (by simp only[Ir];lia) ⟨.int xs.length,H,I.tok _,⟨_,by simp only[Ir];rw[hlen]⟩,q⟩
  .subst e'
   obtain⟨a_,r',pl,hz⟩:=I.tuple hx
   have hlen:=r'.length
   exact len_tuple pl (by simp only[Ir];lia) ⟨.int xs.length,H,I.tok _,⟨_,by simp only[Ir];rw[hlen]⟩,q⟩
 |_=>exact(show False from e).elim
end
structure Hn (h:Heap) (x dx C:Addr) (mA:Str->Option Value):Prop where
 obj:h.get? x=some (PySem.W.instObj C dx)
 ns:h.Ns1 dx mA
 ne:dx≠x
section
variable {prog:Program} {w:World} {A:Around} {E:Value->Shared->Prop} {s:Shared} {K:Qc} {x dx C f:Addr} {mA:Str->Option Value} {name:Str} {v:Value}
end
theorem RelO.some_of {v:V}{o:Option Value}(r:RelO (some v) o):∃u,o=some u/\RelV v u:=by
 cases o with
 |none=>exact(show False from r).elim
 |some u=>exact⟨u,rfl,r⟩
section
variable {P:Program} {w:World} {H H':Hp} {h h':Heap} {a C dx:Addr} {fs fs':List (Str×V)}
end
structure He (K:Qc) (C:Addr):Prop where
 pg:PySem.W.plainGet K C Str.empty=true
 hd:PySem.W.hasDictIn K C=true
 po:PySem.W.plainOver K C=true
 sa:PySem.W.findIn K (.ref C) "__setattr__"=some (some (.builtin "object.__setattr__"))
structure HG (K:Qc) (C:Addr) (f:Str) (v:V) (u:Value):Prop where
 at_:PySem.W.findIn K (.ref C) f=some (some u)
 rel:RelV v u
 get:PySem.W.specialIn K u "__get__"=some none
 cp:PySem.W.copiedNames.contains f=false
structure Hs (K:Qc) (C:Addr) (m:Str) (f:Addr):Prop where
 at_:PySem.W.findIn K (.ref C) m=some (some (.ref f))
 fn:PySem.W.isFn K (.ref f)=true
 kp:PySem.W.keepIn K (.ref f)=true
section
variable {X:Cx} {pins:List (Addr×Obj)} {σ:St} {H:Hp} {s:Shared} {a C dx:Addr} {fs:List (Str×V)} {f:Str} {v:V} {A:Around} {E:Value->Shared->Prop}
end
section
variable {X:Cx} {o e value:Expr} {f:Str} {pos pos' j_:Pos} {ta tv:TE}
end
section
variable {X:Cx} {pins:List (Addr×Obj)} {σ:St} {H:Hp} {s:Shared} {A:Around} {E:Value->Shared->Prop} {Q:Value->Shared->Prop} {c:Value} {b:Bool}
inductive iM (K:Qc) (H:Hp):V->Value->Prop where
 |non:iM K H .non (.type "NoneType")
 |bl (x:Bool):iM K H (.bl x) (.type "bool")
 |int (i:Int):iM K H (.int i) (.type "int")
 |str (x:Str):iM K H (.str x) (.type "str")
 |flt (x:UInt64):iM K H (.flt x) (.type "float")
 |lst {a:Addr} {xs:List V} (e:H a=some (.lst xs)):iM K H (.ref a) (.type "list")
 |frz {a:Addr} {o:Obj} {xs:List V} (e:H a=some (.frz o (.lst xs))):iM K H (.ref a) (.type "list")
 |tup {a:Addr} {xs:List V} (e:H a=some (.tup xs)):iM K H (.ref a) (.type "tuple")
 |dK {a:Addr} {kvs:List (j3×V)} (e:H a=some (.dK kvs)):iM K H (.ref a) (.type "dict")
 |dT {a:Addr} {kvs:List (List j3×V)} (e:H a=some (.dT kvs)):iM K H (.ref a) (.type "dict")
 |ins {a C dx:Addr} {fs:List (Str×V)} (e:H a=some (.ins C dx fs)) (cl:He K C) (ha:PySem.W.findIn K (.ref C) "__class__"=some (some (.builtin "object.__class__")))
   (hn:PySem.W.specialIn K (.builtin "object.__class__") "__get__"=some (some (.builtin "getset_descriptor.__get__"))) (htk:PySem.W.takesIn K (.builtin "object.__class__")=some true)
   (hm:PySem.W.mroIn K C (.type "object")=some true):iM K H (.ref a) (.ref C)
end
structure Room (k:Nat) (A:Around):Prop where
 hd:A.handled=none
 dp:A.depth+3*k+5<recursionLimit
 un:A.units+16*k+200<cLine
theorem Room.mono {j k:Nat}{A:Around}(r:Room k A)(h:j<=k):Room j A:=⟨r.hd,by have:=r.dp;lia,by have:=r.un;lia⟩
theorem Room.deeper {k:Nat}{A:Around}(r:Room (k+1) A)(env:Env):Room k (A.deeper env):=
 ⟨r.hd,by have:=r.dp;show A.depth+1+3*k+5<_;lia,by have:=r.un;show A.units+3+16*k+200<_;lia⟩
theorem Room.depth {k:Nat}{A:Around}(r:Room k A):A.depth<recursionLimit:=by have:=r.dp;lia
theorem Room.units {k:Nat}{A:Around}(r:Room k A):A.units+64<cLine:=by have:=r.un;lia
def sQ:TA:=λ_ H Q=>Q [] H
def qD (ta:TE)(tr:TA):TA:=λσ H Q=>ta σ H λx H1=>tr σ H1 λxs H2=>Q (x::xs) H2
section
variable {X:Cx} {e:Expr} {es:List Expr} {te:TE} {t:TA} {pos:Pos}
theorem Bq:PA X [] sQ:=λ_ _ _ _ H Q I h=>Lp ⟨[],H,I,.nil,h⟩
theorem yI (ha:PE X e te)(hr:PA X es t)(hs:starEach (e::es) X.env=(false,eval e X.env)::starEach es X.env:=by rfl):PA X (e::es) (qD te t):=by
 intro pos pins s σ H Q I h;rw[hs];show wpAny _ _ (spliced ((false,eval e X.env)::backTo pos (starEach es X.env))) _ _ s;refine Kp (E9 (ha pins s σ H _ I h) λu s1 ⟨x,H1,I1,r1,q1⟩=>?_);exact E9 (hr pos pins s1 σ H1 _ I1 q1) λus s2 ⟨xs,H2,I2,r2,q2⟩=>⟨x::xs,H2,I2,.cons r1 r2,q2⟩
def AF (t:TA):TE:=λσ H Q=>t σ H λxs H1=>xs.length<=sizeLine/\∀p,H1 p=none->Q (.ref p) (p0 H1 p (.tup xs))
def BV (t:TA):TE:=λσ H Q=>t σ H λxs H1=>xs.length<=sizeLine/\∀p,H1 p=none->Q (.ref p) (p0 H1 p (.lst xs))
theorem Bz {x1}(h:PA X es t):PE X (.Tuple es x1 pos) (AF t):=by
 intro pins s σ H Q I hq;refine wpAny_Tuple_spliced (E9 (h pos pins s σ H _ I hq) λus s1 ⟨xs,H1,I1,r,z,q⟩=>⟨by rw[←r.length];exact z,?_⟩);have hf:H1 s1.heap.objs.size=none:=I1.hok.fresh (HJ _);refine⟨.ref s1.heap.objs.size,p0 H1 s1.heap.objs.size (.tup xs),I1.laid (t':=s1.toks) (λb u e=>HS _ e) (HJ _) ?_,rfl,q _ hf⟩;exact⟨z,us,r,⟨_,Iq _ rfl,rfl,_,rfl⟩⟩
theorem BN (h:PA X es t):PE X (.List es pos) (BV t):=by
 intro pins s σ H Q I hq;refine wpAny_List_spliced (E9 (h pos pins s σ H _ I hq) λus s1 ⟨xs,H1,I1,r,z,q⟩=>⟨by rw[←r.length];exact z,?_⟩);have hf:H1 s1.heap.objs.size=none:=I1.hok.fresh (HJ _);refine⟨.ref s1.heap.objs.size,p0 H1 s1.heap.objs.size (.lst xs),I1.laid (t':=s1.toks) (λb u e=>HS _ e) (HJ _) ?_,rfl,q _ hf⟩;exact⟨z,us,0,r,Iq _ rfl⟩
end
abbrev Sp:=List V->Hp->VK->XK->Prop
abbrev mR:=List Env->Hp->Shared->XK->Value->Shared->Prop
structure zt (P:Program) (w:World) (K:Qc) (mg:Str->Option Value) (base:Heap) (A:Around) (outer:List Env) (s:Shared) (H:Hp):Prop where
 frames:A.frames=some outer
 mod:Mod K mg base
 bs:∀b o,base.get? b=some o->s.heap.get? b=some o/\H b=none
 bsz:base.objs.size<=s.heap.objs.size
 funs:s.heap.FunFrames base outer
 frf:∀b∈Z3 outer,H b=none
 hok:HOk P w H s.heap
 bare:AllBare s.gens
def CE (outer:List Env)(P:Program)(w:World)(H:Hp)(s:Shared)(Q:VK)(u:Value)(s':Shared):Prop:=
 ∃v H',s'.os=s.os/\AllBare s'.gens/\Un (Z3 outer) [] H H' s.heap s'.heap/\HOk P w H' s'.heap/\RelV v u/\Q v H'
def CR (CX:mR)(outer:List Env)(P:Program)(w:World)(H:Hp)(s:Shared)(Q:VK)(E:XK)(r:Result)(s':Shared):Prop:=
 match r with
 | .ok (.ret u)=>CE outer P w H s Q u s'
 | .ok _=>False
 | .error e=>CX outer H s E e s'
structure A1 (P:Program) (w:World) (K:Qc) (mg:Str->Option Value) (base:Heap) (CX:mR) (k:Nat) (f:Addr) (fd:FuncData) (ps:List Str) (sp:Sp):Prop where
 len:∀vs H Q E,sp vs H Q E->vs.length=ps.length
 run:∀(A:Around) (outer:List Env) (s:Shared) (H:Hp) (args:Args) (us:List Value) (vs:List V) (Q:VK) (E:XK),Room k A->zt P w K mg base A outer s H->BindsTo s fd args (ps.zip us)->Vals vs us->sp vs H Q E->
  codeAny (model P w) A (.call (.ref f) args) (CR CX outer P w H s Q E) s
section
variable {X:Cx} {pins:List (Addr×Obj)} {σ:St} {H:Hp} {s s':Shared}
theorem Inv.env0 (I:Inv X pins σ H s):zt X.prog X.w X.K X.mg X.base X.A X.stack s H:=
 ⟨I.ok.frames,I.ok.mod,I.bs,Ip I.ok.bsz I.sz,I.stack,I.stkFree,I.hok,I.bare⟩
theorem Inv.after {Q:VK}{u:Value}(I:Inv X pins σ H s)(h:CE X.stack X.prog X.w H s Q u s'):EP X pins σ Q u s':=by
 obtain⟨v,H',os,bare,un,hok,r,q⟩:=h;obtain⟨hh,g,d,t,os'⟩:=s';obtain rfl:os'=s.os:=os;exact⟨v,H',I.call (h':=hh) (g':=g) (d':=d) (t':=t) (ch:=[]) un hok bare (λb z=>absurd z (by simp)),r,q⟩
end
def nv (sp:Sp)(n_:List V)(E:XK)(t:TA):TE:=λσ H Q=>t σ H λvs H1=>sp (vs++n_) H1 Q E
def Binds (K:Qc)(fd:FuncData)(ps:List Str)(ds:List Value):Prop:=
 ∀(s:Shared) (us:List Value),K.In s.heap->(us++ds).length=ps.length->BindsTo s fd ⟨us,[]⟩ (ps.zip (us++ds))
theorem Binds.all {K:Qc}{fd:FuncData}{ps:List Str}(h:∀us:List Value,us.length=ps.length->bindArgs fd ⟨us,[]⟩=pure (ps.zip us)):Binds K fd ps []:=λs us _ hl=>by
 rw[Jl] at hl⊢;exact .of_eq (h us hl)
def cU (CX:mR)(X:Cx)(E:XK):Prop:=∀(pins:List (Addr×Obj)) (σ:St) (H:Hp) (s:Shared) (e:Value) (s':Shared),Inv X pins σ H s->CX X.stack H s E e s'->X.xe e s'
section
variable {X:Cx} {CX:mR} {k:Nat} {f C:Addr} {fd:FuncData} {ps:List Str} {sp:Sp} {n_:List V} {ds:List Value} {E:XK} {x m:Str} {p pos apos:Pos} {e o:Expr} {es:List Expr} {ta:TE} {t:TA}
theorem BC {pins:List (Addr×Obj)}{σ:St}{H:Hp}{s:Shared}{Q:VK}{us:List Value}{vs:List V}(F:A1 X.prog X.w X.K X.mg X.base CX k f fd ps sp)(hr:Room k X.A)(hb:Binds X.K fd ps ds)(hd:Vals n_ ds)(hx:cU CX X E)
  (I:Inv X pins σ H s) (r:Vals vs us) (h:sp (vs++n_) H Q E):wpAny (model X.prog X.w) X.A (call (.ref f) us) (EP X pins σ Q) X.xe s:=by
 have r2:Vals (vs++n_) (us++ds):=r.append hd
 have hl:(us++ds).length=ps.length:=by rw[←r2.length];exact F.len _ _ _ _ h
 refine wpAny_call (Lv (F.run X.A X.stack s H ⟨us,[]⟩ (us++ds) (vs++n_) Q E hr I.env0 (hb s us I.kIn hl) r2 h) λr s' hq=>?_)
 cases r with
 |error e=>exact hx pins σ H s e s' I hq
 |ok fl=>
  cases fl with
  |ret u=>exact I.after hq
  |next=>exact False.elim hq
  |brk=>exact False.elim hq
  |cont=>exact False.elim hq
theorem yr (F:A1 X.prog X.w X.K X.mg X.base CX k f fd ps sp)(hr:Room k X.A)(hg:Gl X x)(hm:X.mg x=some (.ref f))(hk:PySem.W.keepIn X.K (.ref f)=true)(hb:Binds X.K fd ps ds)(hd:Vals n_ ds)(hx:cU CX X E)
  (ha:PA X (e::es) t) (r_:(x==("__debug__":Str))=false:=by decide) (he:starEach (e::es) X.env=(false,eval e X.env)::starEach es X.env:=by rfl) (Nl:(backTo pos (starEach es X.env)).any (·.1)=false:=by rfl):
  PE X (.Call (.Name x p) (e::es) [] pos) (nv sp n_ E t):=by
 intro pins s σ H Q I h
 refine JQ (dz I hg hm ?_ r_)
 refine NL (h₀:=X.base) I.ok.mod.kin hk (E9 (ha pos pins s σ H _ I h) λus s1 ⟨vs,H1,I1,r,q⟩=>⟨I1.kIn,?_⟩) he Nl
 exact BC F hr hb hd hx I1 r q
structure Mk (K:Qc) (C f:Addr):Prop where
 makes:PySem.W.makesIn K C=true
 init:PySem.W.findIn K (.ref C) "__init__"=some (some (.ref f))
 fn:PySem.W.isFn K (.ref f)=true
 kp:PySem.W.keepIn K (.ref C)=true
end
section
variable {X:Cx} {CX:mR} {k:Nat} {f C:Addr} {fd:FuncData} {ps ks:List Str} {sp:Sp} {E:XK} {x m:Str} {p pos apos kpos:Pos} {e o:Expr} {es:List Expr} {kws:List Keyword} {te ta:TE} {t tk:TA} {nm:Option Str}
structure FW (K:Qc) (fd:FuncData) (ps ks:List Str) (g:List Value->List Value->List Value) (gV:List V->List V->List V):Prop where
 to:∀(s:Shared) (us ws:List Value),K.In s.heap->(g us ws).length=ps.length->BindsTo s fd ⟨us,ks.zip ws⟩ (ps.zip (g us ws))
 rel:∀{vs:List V} {us:List Value} {zs:List V} {ws:List Value},Vals vs us->Vals zs ws->Vals (gV vs zs) (g us ws)
variable {g:List Value->List Value->List Value} {gV:List V->List V->List V}
end
structure j5 (N P:List Str) (sc:Scope):Prop where
 kind:sc.kind= .function
 co:sc.isCoroutine=false
 gen:sc.isGenerator=false
 nd:N.Nodup
 pre:N.take P.length=P
 par:∀x∈P,sc.names.lookup x=some .local\/sc.names.lookup x=some .cell
 nofree:∀y∈sc.names,y.2≠ .free
theorem ki {kindOf:Str->Option NameKind}{x:Str}:∀{binds:List (Str×Value)} {m:Str->Option Value},(∀v,(x,v)∉binds)->bindL kindOf binds m x=m x
 |[],_,_=>rfl
 |(n,v)::r,m,h=>by
  unfold bindL;rw[ki λw hw=>h w (Ij _ hw)];split
  .have:x≠n:=by rintro rfl;exact h v Iw
   simp [this]
  .rfl
theorem kj {kindOf:Str->Option NameKind}{x:Str}:∀{binds:List (Str×Value)} {m:Str->Option Value},(∀v,(x,v)∉binds)->bindC kindOf binds m x=m x
 |[],_,_=>rfl
 |(n,v)::r,m,h=>by
  unfold bindC;rw[kj λw hw=>h w (Ij _ hw)];split
  .rfl
  .have:x≠n:=by rintro rfl;exact h v Iw
   simp [this]
theorem jQ {kindOf:Str->Option NameKind}{x:Str}{v:Value}:∀{P:List Str} {vs:List Value} {i:Nat} {m:Str->Option Value},P.Nodup->P[i]?=some x->vs[i]?=some v->kindOf x=some .local->
  bindL kindOf (P.zip vs) m x=some v
 |[],_,_,_,_,h,_,_=>by simp at h
 |_::_,[],_,_,_,_,h,_=>by simp at h
 |p::P,w::vs,0,m,nd,h1,h2,hk=>by
  simp at h1 h2;subst h1;subst h2;show bindL kindOf ((p,w)::P.zip vs) m p=_;unfold bindL;rw[ki λv hv=>(IM.mp nd).1 (LJ hv).1,if_pos hk];simp
 |p::P,w::vs,i+1,m,nd,h1,h2,hk=>by
  show bindL kindOf ((p,w)::P.zip vs) m x=_;unfold bindL;exact jQ (i:=i) (IM.mp nd).2 (by simpa using h1) (by simpa using h2) hk
theorem kH {kindOf:Str->Option NameKind}{x:Str}{v:Value}:∀{P:List Str} {vs:List Value} {i:Nat} {m:Str->Option Value},P.Nodup->P[i]?=some x->vs[i]?=some v->kindOf x≠some .local->
  bindC kindOf (P.zip vs) m x=some v
 |[],_,_,_,_,h,_,_=>by simp at h
 |_::_,[],_,_,_,_,h,_=>by simp at h
 |p::P,w::vs,0,m,nd,h1,h2,hk=>by
  simp at h1 h2;subst h1;subst h2;show bindC kindOf ((p,w)::P.zip vs) m p=_;unfold bindC;rw[kj λv hv=>(IM.mp nd).1 (LJ hv).1,if_neg hk];simp
 |p::P,w::vs,i+1,m,nd,h1,h2,hk=>by
  show bindC kindOf ((p,w)::P.zip vs) m x=_;unfold bindC;exact kH (i:=i) (IM.mp nd).2 (by simpa using h1) (by simpa using h2) hk
def cH (N:List Str)(vs:List V):St:=vs.map some++List.replicate (N.length -vs.length) none
def gy (CX:mR)(P:Program)(w:World)(K:Qc)(mg:Str->Option Value)(base:Heap)(N:List Str)(qual:Str)(scope:Scope)(f:Addr)(cd:Value)(A:Around)(outer:List Env)(s:Shared)(H:Hp)(E:XK):Cx where
 prog:=P
 w:=w
 K:=K
 mg:=mg
 base:=base
 A:=A.deeper (envOfC qual scope s.heap.objs.size f cd)
 N:=N
 s₀:=s
 H₀:=H
 env:=envOfC qual scope s.heap.objs.size f cd
 outer:=outer
 stack:=envOfC qual scope s.heap.objs.size f cd::outer
 ex:=[]
 calm:=true
 fn:=λ_=>true
 pn:=[]
 xe:=λe s'=>wpAny (model P w) (A.deeper (envOfC qual scope s.heap.objs.size f cd)) («leaving» (envOfC qual scope s.heap.objs.size f cd) e) (λ_ UJ=>CX outer H s E e UJ) (λe' UJ=>CX outer H s E e' UJ) s'
theorem nI {sc:Scope}{n:Nat}{x:Str}(h:sc.names.lookup x=some .cell):∃c,(cellsFrom n sc.names []).lookup x=some c:=by
 have q:=MJ sc.names n [] (.inl h);exact Ml.mp q
theorem sR {CX:mR}{P:Program}{w:World}{K:Qc}{mg:Str->Option Value}{base:Heap}{N ps:List Str}{qual:Str}{scope:Scope}{f:Addr}{cd:Value}{A:Around}{outer:List Env}{s s1:Shared}{H:Hp}{E:XK}{us:List Value}{vs:List V}
  (S:j5 N ps scope) (hd:A.handled=none) (e0:zt P w K mg base A outer s H) (hl:vs.length=ps.length) (r:Vals vs us)
  (x:InCallC s s.heap.objs.size (bindL (envOfC qual scope s.heap.objs.size f cd).kindOf (ps.zip us) λ_=>none) (cellsFrom (s.heap.objs.size+1) scope.names []) (bindC (envOfC qual scope s.heap.objs.size f cd).kindOf (ps.zip us) λ_=>none) s1):
  Inv (gy CX P w K mg base N qual scope f cd A outer s H E) [] (cH N vs) H s1:=by
 have Nl:ps.length<=N.length:=by have:=Jm List.length S.pre;rw[HV] at this;lia
 obtain⟨h1,tk,rfl,hk⟩:=x.done
 have SN:∀b:Addr,b∉(gy CX P w K mg base N qual scope f cd A outer s H E).ex:=λb z=>absurd (show b∈([]:List Addr) from z) (by simp)
 refine⟨⟨e0.mod,S.kind,rfl,rfl,HJ _,λy z c h1 h2=>?_,λy hy=>?_,λy c _ h=>?_,λ_=>hd,Around.frames_deeper e0.frames,.inr ⟨rfl,rfl⟩,λb z=>absurd z (SN b),e0.bs,e0.bsz,λb _ _=>SN b,λb z=>absurd z (SN b),e0.funs,e0.frf⟩,
  rfl,e0.bare,Un.kept hk,⟨_,x.toInCall.ns,λi y v h1 h2 h3=>?_⟩,λy c h=>⟨_,x.cell y c h⟩,e0.hok.fresh (HJ _),λy c h=>?_,λp hp=>absurd (show p∈([]:List (Addr×Obj)) from hp) (by simp),e0.hok.kept hk,?_⟩
 .exact name_of_addr x.apart (Kg h1) (Kg h2)
 .have hy:scope.names.lookup y=some .cell\/scope.names.lookup y=some .free:=hy
  rcases hy with hy|hy
  .exact nI hy
  .exact absurd rfl (S.nofree _ (Kg hy))
 .exact Ks (x.above y c (Kg h))
 .have hi:i<vs.length:=by
   unfold cH at h2;by_cases hi:i<vs.length
   .exact hi
   .rw[Jr (by simpa using hi)] at h2;rw[KW] at h2;split at h2<;>cases h2
  have ha:vs[i]?=some v:=by
   unfold cH at h2;rw[Je (by simpa using hi),HK] at h2;cases e:vs[i]? with
   |none=>rw[e] at h2;cases h2
   |some a=>rw[e] at h2;cases h2;rfl
  obtain⟨u,hu,rv⟩:=r.get ha
  have hp:ps[i]?=some y:=by
   rw[←S.pre,JV (by lia)];exact h1
  have UK:ps.Nodup:=by rw[←S.pre];exact S.nd.sublist (JL _ _)
  refine⟨u,rv,?_⟩
  rcases S.par y (HX hp) with k|k
  .exact .inl ⟨k,jQ UK hp hu k⟩
  .obtain⟨c,e⟩:=nI (n:=s.heap.objs.size+1) k
   refine .inr ⟨.inl k,c,e,?_⟩
   have q:=x.cell y c e
   rw[kH UK hp hu (by show scope.names.lookup y≠_;rw[k];decide)] at q
   exact q
 .exact e0.hok.fresh (Ks (x.above y c (Kg h)))
 .unfold cH
  show _=N.length
  rw[HQ,HI,Jp]
  lia
theorem vZ {CX:mR}{P:Program}{w:World}{K:Qc}{mg:Str->Option Value}{base:Heap}{k:Nat}{f:Addr}{name qual:Str}{params:Arguments}{body:List Stmt}{scope:Scope}{dV kV doc pm d_ ct oc:Value}{an od:Option Addr}
  {My:Array (Option Value)} {N ps:List Str} {sp:Sp} (lk:K.lookup f=some ⟨oc,od,.func (PySem.W.fnOf name qual params body scope dV kV doc pm an d_ ct),My⟩) (Ni:PySem.W.codeIn K d_ qual=true) (S:j5 N ps scope)
  (len:∀vs H Q E,sp vs H Q E->vs.length=ps.length)
  (B_:∀(A:Around) (outer:List Env) (s:Shared) (H:Hp) (vs:List V) (Q:VK) (E:XK),Room k (A.deeper (envOfC qual scope s.heap.objs.size f d_))->sp vs H Q E->
   ∃t,PSs (gy CX P w K mg base N qual scope f d_ A outer s H E) body t/\t {nx:=λ_ H'=>Q .non H',rt:=Q} (cH N vs) H):
  A1 P w K mg base CX (k+1) f (PySem.W.fnOf name qual params body scope dV kV doc pm an d_ ct) ps sp:=by
 refine⟨len,λA outer s H args us vs Q E hr e0 hb r OL=>?_⟩
 have hl:=len _ _ _ _ OL
 have KX:K.In s.heap:=e0.mod.kin.keeps λb o e=>(e0.bs b o e).1
 have lim:s.heap.NoLimit:=e0.mod.nolimit.keeps λb o e=>(e0.bs b o e).1
 have SO:∀y∈ps.zip us,scope.names.lookup y.1=some .local\/(scope.names.lookup y.1=some .cell/\((cellsFrom (s.heap.objs.size+1) scope.names []).lookup y.1).isSome=true):=fun⟨n,v⟩ hy=>by
  rcases S.par n (LJ hy).1 with q|q
  .exact .inl q
  .exact .inr ⟨q,MJ _ _ _ (.inl q)⟩
 refine codeAny_call_function hr.depth (KX _ _ lk) rfl S.co S.gen rfl (PySem.W.codeRec_of KX Ni) (hb _ _ _ _ ?_)
 refine wpAny_newFunctionEnv_cells S.kind SO λenv he s1 x=>?_
 subst he
 refine⟨lim.keeps x.toInCall.keep,codeAny_func ?_⟩
 obtain⟨t,ht,hq⟩:=B_ A outer s H vs Q E (hr.deeper _) OL
 have I:Inv (gy CX P w K mg base N qual scope f d_ A outer s H E) [] (cH N vs) H s1:=sR S hr.hd e0 hl r x
 refine LH (ht [] s1 (cH N vs) H _ I hq) (λfl s' hs=>?_) λe s' hs=>hs
 have fin:∀{σ':St} {H':Hp} {v:V} {u:Value},Inv (gy CX P w K mg base N qual scope f d_ A outer s H E) [] σ' H' s'->RelV v u->Q v H'->CE outer P w H s Q u s':=
  fun{σ' H' v u} J rv q=>⟨v,H',J.os,J.bare,J.base,J.hok,rv,q⟩
 cases fl with
 |ret u=>
  obtain⟨v,σ',H',J,rv,q⟩:=hs
  exact fin J rv q
 |next=>
  obtain⟨σ',H',J,q⟩:=hs
  exact fin (v:=V.non) (u:=Value.none) J rfl q
 |brk=>
  obtain⟨_,_,_,q⟩:=hs
  exact False.elim q
 |cont=>
  obtain⟨_,_,_,q⟩:=hs
  exact False.elim q
section
variable {X:Cx} {x:Str} {p pos:Pos} {e:Expr} {es:List Expr} {t:TA} {id T:String} {r:List V->Hp->VK->Prop}
def Av (r:List V->Hp->VK->Prop)(t:TA):TE:=λσ H Q=>t σ H λvs H1=>r vs H1 Q
theorem vT (hc:CallR X (.builtin id) r)(hg:Gl X x)(hm:X.mg x=none)(hv:bootBuiltins x=some (.builtin id))(ha:PA X (e::es) t)(hn:x≠"__name__":=by decide)(r_:(x==("__debug__":Str))=false:=by decide)
  (he:starEach (e::es) X.env=(false,eval e X.env)::starEach es X.env:=by rfl) (Nl:(backTo pos (starEach es X.env)).any (·.1)=false:=by rfl):PE X (.Call (.Name x p) (e::es) [] pos) (Av r t):=by
 intro pins s σ H Q I h
 refine JQ (ai I hg hm hv ?_ hn r_)
 exact PyProof.Rows.callWith_builtin1 (E9 (ha pos pins s σ H _ I h) λus s1 ⟨vs,H1,I1,r1,q1⟩=>hc pins s1 σ H1 vs us Q I1 r1 q1) he Nl
theorem uB (hc:CallR X (.type T) r)(hg:Gl X x)(hm:X.mg x=none)(hv:bootBuiltins x=some (.type T))(ha:PA X (e::es) t)(hn:x≠"__name__":=by decide)(r_:(x==("__debug__":Str))=false:=by decide)
  (he:starEach (e::es) X.env=(false,eval e X.env)::starEach es X.env:=by rfl) (Nl:(backTo pos (starEach es X.env)).any (·.1)=false:=by rfl):PE X (.Call (.Name x p) (e::es) [] pos) (Av r t):=by
 intro pins s σ H Q I h
 refine JQ (ai I hg hm hv ?_ hn r_)
 exact Jk (E9 (ha pos pins s σ H _ I h) λus s1 ⟨vs,H1,I1,r1,q1⟩=>hc pins s1 σ H1 vs us Q I1 r1 q1) he Nl
end
end L2
namespace HT
open PySem PyProof.Rows
section
open PySem.SeqAt
open PySem.AutoSeq1 (wpAny_loadPart')
open PySem.MeetsSeq PySem.MeetsSeq2 PySem.MeetsSeq3
end
section
variable {prog:Program} {w:World} {A:Around} {E:Value->Shared->Prop} {s:Shared}
theorem cat_tup {t b:Addr}{vs ws:List Value}{Q:Value->Shared->Prop}(ht:IsTup s.heap t vs.toArray)(hb:IsTup s.heap b ws.toArray)(hv:vs≠[])
  (h1:ws=[]->Q (.ref t) s) (h2:ws≠[]->Q (.ref s.heap.objs.size) {s with heap:=s.heap.push {cls:= .type "tuple",data:= .seq (vs++ws).toArray}})
  (hsz:vs.length+ws.length<=sizeLine):wpAny (model prog w) A (binaryOp .Add (.ref t) (.ref b)) Q E s:=by
 obtain⟨⟨cls,dd,data,sl⟩,ho,hc,n,hd⟩:=id ht
 obtain⟨⟨cls2,YN,data2,YO⟩,OM,Og,n2,hd2⟩:=id hb
 simp only at hc hd Og hd2
 subst hc hd Og hd2
 have e:vs.toArray++ws.toArray=(vs++ws).toArray:=by simp
 by_cases hw:ws=[]
 .exact concat_meets ⟨_,ho,rfl⟩ ⟨_,OM,rfl⟩ noFill_tuple_add seq_tuple_add MK Ms (Mm _ _)
   (tuple_addW1 t b vs.toArray ws.toArray n n2 dd YN sl YO (by simpa using hv) (by simp [hw])) ⟨ho,OM,h1 hw⟩
 .refine concat_meets ⟨_,ho,rfl⟩ ⟨_,OM,rfl⟩ noFill_tuple_add seq_tuple_add MK Ms (Mm _ _)
   (tuple_addW2 t b vs.toArray ws.toArray n n2 dd YN sl YO (by simpa using hv) (by simpa using hw) (by rw[Ir,Ir];exact hsz)) ⟨ho,OM,?_⟩
  rw[e]
  exact h2 hw
def sIx (n d:Nat):Option Int->Nat
 |none=>d
 |some v=>if v<0 then(v+(n:Int)).toNat else min v.toNat n
theorem sIx_none (n d:Nat):sIx n d none=d:=rfl
theorem sIx_nat (n d k:Nat):sIx n d (some (k:Int))=min k n:=by
 show(if(k:Int)<0 then((k:Int)+(n:Int)).toNat else min (k:Int).toNat n)=min k n;rw[if_neg (by lia),NZ]
theorem BF (n d:Nat)(hd:d<=n)(o:Option Int):sIx n d o<=n:=by
 cases o with
 |none=>exact hd
 |some v=>
  show(if v<0 then(v+(n:Int)).toNat else min v.toNat n)<=n
  by_cases hv:v<0
  .rw[if_pos hv];lia
  .rw[if_neg hv];exact MC _ _
theorem rj (v:Int)(n d:Nat):(if v<0 then max (v+(n:Int)) 0 else min v (n:Int))=((sIx n d (some v):Nat):Int):=by
 show(if v<0 then max (v+(n:Int)) 0 else min v (n:Int))=(((if v<0 then(v+(n:Int)).toNat else min v.toNat n):Nat):Int);by_cases hv:v<0
 .simp only[if_pos hv];lia
 .simp only[if_neg hv];lia
theorem pX (lo hi:Option Int)(n:Nat):Builtin.Slice.sliceAdjust lo hi 1 (n:Int)=(((sIx n 0 lo:Nat):Int),((sIx n n hi:Nat):Int)):=by
 have h1:¬((1:Int)<0):=by lia
 unfold Builtin.Slice.sliceAdjust;simp only[h1,Nc];refine Prod.ext ?_ ?_
 .cases lo with
  |none=>rfl
  |some v=>exact rj v n 0
 .cases hi with
  |none=>rfl
  |some v=>exact rj v n n
theorem qb (i j:Nat):Builtin.Slice.slicePlaces (i:Int) (j:Int) 1=j -i:=by
 unfold Builtin.Slice.slicePlaces;have h1:(1:Int)>0:=by lia
 simp only[h1,Oa,Int.ediv_one];split<;>lia
theorem hV {v:Value}{o:Option Int}{Q:Option Int->Shared->Prop}(p:IsPart v o)(h:Q o s):wpAny (model prog w) A (Builtin.Slice.slicePartIndex v) Q E s:=by
 cases p with
 |none=>exact slicePart_none h
 |int i t=>exact slicePart_int h
theorem eU {sl:Addr}{vl vu:Value}{lo hi:Option Int}{n:Nat}{Q:Int×Int×Nat->Shared->Prop}(hs:s.heap.IsSliceOf sl vl vu .none)(pl:IsPart vl lo)(pu:IsPart vu hi)
  (h:Q (((sIx n 0 lo:Nat):Int),1,sIx n n hi -sIx n 0 lo) s):wpAny (model prog w) A (Builtin.Slice.sliceApplied (.ref sl) (pure (n:Int))) Q E s:=by
 obtain⟨os,SQ,SR,UL⟩:=id hs
 unfold Builtin.Slice.sliceApplied Builtin.Slice.sliceFields
 refine HR (HR (Kt SQ UL (x:=vl) rfl (HR (Kt SQ UL (x:=vu) rfl (HR (Kt SQ UL (x:= .none) rfl (Ig ?_)))))))
 refine HR (slicePart_none ?_)
 show wpAny _ _ (if((1:Int)==0)=true then _ else _) _ _ s
 rw[if_neg (by decide)]
 refine HR (hV pl (HR (hV pu (HR (Ig ?_)))))
 show wpAny _ _ (match Builtin.Slice.sliceAdjust lo hi 1 (n:Int) with|(lo,hi)=>pure (lo,(1:Int),Builtin.Slice.slicePlaces lo hi 1)) _ _ s
 rw[pX lo hi n]
 show wpAny _ _ (pure (((sIx n 0 lo:Nat):Int),(1:Int),Builtin.Slice.slicePlaces ((sIx n 0 lo:Nat):Int) ((sIx n n hi:Nat):Int) 1)) _ _ s
 rw[qb]
 exact Ig h
theorem vh (xs:Array Value)(i k:Nat):((List.range k).filterMap fun(m:Nat)=>xs[((i:Int)+(m:Int)*1).toNat]?).toArray=((xs.toList.drop i).take k).toArray:=by
 have e:(fun(m:Nat)=>xs[((i:Int)+(m:Int)*1).toNat]?)=λm=>xs[i+m]?:=by
  funext m;have:((i:Int)+(m:Int)*1).toNat=i+m:=by lia
  rw[this]
 rw[e];have:=pick_run xs i k;rw[List.filterMap_map] at this;have e2:((λx=>xs[x]?)∘λx=>i+x)=λm=>xs[i+m]?:=rfl;rw[e2] at this;rw[this]
theorem getItem_tuple_cut {t sl:Addr}{items:Array Value}{vl vu:Value}{lo hi:Option Int}{Q:Value->Shared->Prop}(ht:IsTup s.heap t items)(hs:s.heap.IsSliceOf sl vl vu .none)(pl:IsPart vl lo)(pu:IsPart vu hi)
  (hw:¬(sIx items.size 0 lo=0/\sIx items.size items.size hi=items.size))
  (h:Q (.ref s.heap.objs.size) {s with heap:=s.heap.push {cls:= .type "tuple",data:= .seq ((items.toList.drop (sIx items.size 0 lo)).take (sIx items.size items.size hi -sIx items.size 0 lo)).toArray}})
  (hsz:items.size<=sizeLine):wpAny (model prog w) A (getItem (.ref t) (.ref sl)) Q E s:=by
 have NY:sizeOk (.seq ((items.toList.drop (sIx items.size 0 lo)).take (sIx items.size items.size hi -sIx items.size 0 lo)).toArray):=by
  show((items.toList.drop (sIx items.size 0 lo)).take (sIx items.size items.size hi -sIx items.size 0 lo)).toArray.size<=sizeLine;rw[Ir,HV,Kl,KO];lia
 have hj:sIx items.size items.size hi<=items.size:=BF _ _ (HJ _) hi
 obtain⟨os,SQ,SR,UL⟩:=id hs
 have hTs:s.TypeIs (.ref sl) "slice":=⟨os,SQ,SR⟩
 unfold getItem
 try with_reducible refine Ji ?_
 first|refine HR (Ig ?_)|skip
 refine HR (wpAny_sequenceKey ht.typeIs (by decide) ?_)
 refine HR (KY (name:=Str.ofString "__getitem__") ht.typeIs JW
  (KJ JW ht.typeIs entry_tuple_getitem ?_ (args_tuple_getitem _ _)))
 show wpAny _ _ (Builtin.Tuple.tupleItemsOf (.ref t)>>=_) _ _ s
 refine HR (tupleItemsOf_ ht ?_)
 refine HR (Ma hTs ?_)
 rw[if_pos (by decide)]
 refine HR (eU hs pl pu ?_)
 have k_:¬((((sIx items.size 0 lo:Nat):Int)==0&&(1:Int)==1&&(sIx items.size items.size hi -sIx items.size 0 lo)==items.size)=true):=by
  intro q;rw[Io,Io] at q;have q1:((sIx items.size 0 lo:Nat):Int)=0:=eq_of_beq q.1.1;have q2:sIx items.size items.size hi -sIx items.size 0 lo=items.size:=eq_of_beq q.2;exact hw ⟨by lia,by lia⟩
 show wpAny _ _ (if(((sIx items.size 0 lo:Nat):Int)==0&&(1:Int)==1&&(sIx items.size items.size hi -sIx items.size 0 lo)==items.size)=true then _ else _) _ _ s
 rw[if_neg k_,vh]
 first
  |exact HR (m:=Builtin.Tuple.tupleExact _) (JX (Ig ⟨_,rfl,Ig h⟩) NY)
  |exact HR (m:=Builtin.Tuple.tupleExact _) (JX (HR (Ig (Ig ⟨_,rfl,Ig h⟩))) NY)
  |exact HR (HR (m:=Builtin.Tuple.tupleExact _) (JX (Ig (Ig ⟨_,rfl,Ig h⟩)) NY))
  |exact HR (HR (m:=Builtin.Tuple.tupleExact _) (JX (Ig ⟨_,rfl,Ig h⟩) NY))
end
end HT
namespace L2
open PySem PySem.Spec PyProof.Rows
abbrev TO:=St->Hp->(Option Int->Hp->Prop)->Prop
def PO (X:Cx)(e:Option Expr)(t:TO):Prop:=
 ∀(pins:List (Addr×Obj)) (s:Shared) (σ:St) (H:Hp) (Q:Option Int->Hp->Prop),Inv X pins σ H s->t σ H Q->
  wpAny (model X.prog X.w) X.A (evalPart e X.env) (λu s'=>∃o H',Inv X pins σ H' s'/\IsPart u o/\Q o H') X.xe s
def mH:TO:=λ_ H Q=>Q none H
def xm (t:TE):TO:=λσ H Q=>t σ H λx H1=>∃i,x= .int i/\Q (some i) H1
section
variable {X:Cx} {e:Expr} {te:TE} {lo hi:Option Expr} {tl th:TO} {pos p2:Pos}
theorem yp:PO X none mH:=by
 intro pins s σ H Q I h;rw[evalPart_none];exact Ig ⟨none,H,I,.none,h⟩
theorem zH (h:PE X e te):PO X (some e) (xm te):=by
 intro pins s σ H Q I hw;rw[evalPart_some];refine E9 (h pins s σ H _ I hw) λu s1 ⟨x,H1,I1,r1,q1⟩=>?_;obtain⟨i,rfl,q⟩:=q1;obtain⟨t,rfl⟩:=r1;exact⟨some i,H1,I1,.int i t,q⟩
def SlR (X:Cx)(r:V->Option Int->Option Int->Hp->VK->Prop):Prop:=
 ∀(pins:List (Addr×Obj)) (s:Shared) (σ:St) (H:Hp) (x:V) (v vl vu:Value) (lo hi:Option Int) (sl:Addr) (Q:VK),Inv X pins σ H s->RelV x v->s.heap.IsSliceOf sl vl vu .none->IsPart vl lo->IsPart vu hi->r x lo hi H Q->
  ∃T id,typeLookup (.type T) "__getitem__"=pure (some (.builtin id))/\s.TypeIs v T/\wpAny (model X.prog X.w) X.A (getItem v (.ref sl)) (EP X pins σ Q) X.xe s
theorem SlR.or {r r':V->Option Int->Option Int->Hp->VK->Prop}(h:SlR X r)(h':SlR X r'):SlR X (λx lo hi H Q=>r x lo hi H Q\/r' x lo hi H Q):=by
 intro pins s σ H x v vl vu lo hi sl Q I rx hs pl pu q;rcases q with q|q
 .exact h pins s σ H x v vl vu lo hi sl Q I rx hs pl pu q
 .exact h' pins s σ H x v vl vu lo hi sl Q I rx hs pl pu q
def FN (r:V->Option Int->Option Int->Hp->VK->Prop)(te:TE)(tl th:TO):TE:=λσ H Q=>te σ H λx H1=>tl σ H1 λl H2=>th σ H2 λu H3=>r x l u H3 Q
theorem xi {r:V->Option Int->Option Int->Hp->VK->Prop}(hr:SlR X r)(he:PE X e te)(hl:PO X lo tl)(hu:PO X hi th):PE X (.Subscript e (.Slice lo hi none p2) pos) (FN r te tl th):=by
 intro pins s σ H Q I h;refine Subscript_ (E9 (he pins s σ H _ I h) λv s1 ⟨x,H1,I1,r1,q1⟩=>?_);refine wpAny_Slice (E9 (hl pins s1 σ H1 _ I1 q1) λvl s2 ⟨l,H2,I2,pl,q2⟩=>E9 (hu pins s2 σ H2 _ I2 q2) λvu s3 ⟨u,H3,I3,pu,q3⟩=>?_);rw[evalPart_none];refine Ig ?_;have I4:Inv X pins σ H3 {s3 with heap:=s3.heap.push {cls:= .type "slice",data:= .fields #[vl,vu,.none]}}:=I3.kept (t':=s3.toks) λb ob q=>HS _ q;obtain⟨T,id,hT,ht,hg⟩:=hr pins {s3 with heap:=s3.heap.push {cls:= .type "slice",data:= .fields #[vl,vu,.none]}} σ H3 x v vl vu l u s3.heap.objs.size Q I4 r1 (Heap.IsSliceOf.new ..) pl pu q3;show wpAny (model X.prog X.w) X.A (subscriptTail e (.Slice lo hi none p2) v (.ref s3.heap.objs.size)) (EP X pins σ Q) X.xe {s3 with heap:=s3.heap.push {cls:= .type "slice",data:= .fields #[vl,vu,.none]}};exact tail_any (ops:=[.ref s3.heap.objs.size,v]) ht hT hg (by with_unfolding_all rfl)
def cX (xs:List V)(lo hi:Option Int):List V:=(xs.drop (HT.sIx xs.length 0 lo)).take (HT.sIx xs.length xs.length hi -HT.sIx xs.length 0 lo)
theorem gd (xs:List V)(lo hi:Option Int):(cX xs lo hi).length<=xs.length:=by
 unfold cX;rw[HV,Kl];lia
def Fn (K:Qc):V->Option Int->Option Int->Hp->VK->Prop:=λx lo hi H Q=>∃a xs,x= .ref a/\SqT K H a xs/\
 ¬(HT.sIx xs.length 0 lo=0/\HT.sIx xs.length xs.length hi=xs.length)/\∀p,H p=none->Q (.ref p) (p0 H p (.tup (cX xs lo hi)))
theorem sl_tup:SlR X (Fn X.K):=by
 intro pins s σ H x v vl vu lo hi sl Q I rx hs pl pu h;obtain⟨a,xs,rfl,hx,hw,q⟩:=h;cases rx;obtain⟨a_,r,ht,hz⟩:=I.tuple hx;have hlen:a_.toArray.size=xs.length:=by rw[Ir];exact r.length.symm
 refine⟨"tuple",_,JW.lookup,ht.typeIs,?_⟩;refine HT.getItem_tuple_cut ht hs pl pu (by rw[hlen];exact hw) ?_ (by rw[hlen];exact hz);rw[hlen];refine⟨.ref s.heap.objs.size,_,I.laid (t':=s.toks) (o:= .tup (cX xs lo hi)) (λb ob q=>HS _ q) (HJ _) ?_,rfl,q _ (I.hok.fresh (HJ _))⟩;exact⟨Ip (gd xs lo hi) hz,_,(r.drop (HT.sIx xs.length 0 lo)).take (HT.sIx xs.length xs.length hi -HT.sIx xs.length 0 lo),IsTup.new _ _⟩
def Ah (K:Qc):R2:=λx y H Q=>∃a b xs ys,x= .ref a/\y= .ref b/\SqT K H a xs/\SqT K H b ys/\xs≠[]/\xs.length+ys.length<=sizeLine/\
 (ys=[]->Q (.ref a) H)/\(ys≠[]->∀p,H p=none->Q (.ref p) (p0 H p (.tup (xs++ys))))
theorem Vals.nil_iff {xs:List V}{us:List Value}(r:Vals xs us):us=[]↔xs=[]:=by
 cases r with
 |nil=>simp
 |cons _ _=>simp
theorem zd:OpR X (binaryOp .Add) (Ah X.K):=by
 intro pins s σ H x y v u Q I rx ry h;obtain⟨a,b,xs,ys,rfl,rfl,ha,hb,hx,hz,q1,q2⟩:=h;cases rx;cases ry;obtain⟨a_,r1,p1,_⟩:=I.tuple ha;obtain⟨MP,r2,p2,_⟩:=I.tuple hb;refine HT.cat_tup p1 p2 (λz=>hx (r1.nil_iff.mp z)) (λz=>⟨.ref a,H,I,rfl,q1 (r2.nil_iff.mp z)⟩) (λz=>?_) (by rw[←r1.length,←r2.length];exact hz);refine⟨.ref s.heap.objs.size,_,I.laid (t':=s.toks) (o:= .tup (xs++ys)) (λb ob q=>HS _ q) (HJ _) ?_,rfl,q2 (λw=>z (r2.nil_iff.mpr w)) _ (I.hok.fresh (HJ _))⟩;exact⟨by rw[HQ];exact hz,_,r1.append r2,IsTup.new _ _⟩
end
def zf (n:Nat)(i:Int):Option Nat:=if 0<=i then(if i<n then some i.toNat else none) else if -(n:Int)<=i then some (i+n).toNat else none
def jB {α:Type}(xs:List α)(i:Int):Option α:=(zf xs.length i).bind λj=>xs[j]?
theorem qQ {n:Nat}{i:Int}{j:Nat}(h:zf n i=some j):seqIndex? i n=some j/\j<n/\-(n:Int)<=i/\i<n:=by
 unfold zf at h;by_cases h0:0<=i
 .rw[if_pos h0] at h;by_cases h1:i<n
  .rw[if_pos h1] at h;have e:i.toNat=j:=Ie h;exact⟨by rw[seqIndex_of h0 h1,e],by lia,by lia,h1⟩
  .rw[if_neg h1] at h;cases h
 .rw[if_neg h0] at h;by_cases h1: -(n:Int)<=i
  .rw[if_pos h1] at h;have e:(i+n).toNat=j:=Ie h;exact⟨by rw[seqIndex_neg (by lia) h1,e],by lia,h1,by lia⟩
  .rw[if_neg h1] at h;cases h
theorem lN {α:Type}{xs:List α}{i:Int}{v:α}(h:jB xs i=some v):∃j,seqIndex? i xs.length=some j/\xs[j]?=some v/\j<xs.length/\-(xs.length:Int)<=i/\i<xs.length:=by
 unfold jB at h;cases e:zf xs.length i with
 |none=>rw[e] at h;cases h
 |some j=>
  rw[e] at h
  obtain⟨h1,h2,h3,h4⟩:=qQ e
  exact⟨j,h1,h,h2,h3,h4⟩
theorem b4 {α:Type}{xs:List α}{j:Nat}{v:α}(h:xs[j]?=some v):jB xs (j:Int)=some v:=by
 have hj:j<xs.length:=(Js.mp h).1;have e:zf xs.length (j:Int)=some j:=by
  unfold zf;rw[if_pos (by lia),if_pos (by lia)];simp
 unfold jB;rw[e];exact h
def rf (b:Expr):Prop:=∀o i,subscripted b false o i=operate [o,i] (getItem o i)
def IxR (X:Cx)(r:R2):Prop:=
 ∀(value slice:Expr) (pins:List (Addr×Obj)) (s:Shared) (σ:St) (H:Hp) (x y:V) (v u:Value) (Q:VK),Inv X pins σ H s->RelV x v->RelV y u->r x y H Q->
  subscripted slice false v u=operate [v,u] (getItem v u)->wpAny (model X.prog X.w) X.A (subscriptTail value slice v u) (EP X pins σ Q) X.xe s
def uL (X:Cx)(id:String)(r:V->List V->Hp->VK->Prop):Prop:=
 ∀(pins:List (Addr×Obj)) (s:Shared) (σ:St) (H:Hp) (x:V) (xs:List V) (v:Value) (us:List Value) (Q:VK),Inv X pins σ H s->RelV x v->Vals xs us->r x xs H Q->
  wpAny (model X.prog X.w) X.A (call (.builtin id) (v::us)) (EP X pins σ Q) X.xe s
section
variable {X:Cx} {a b:Expr} {ta tb:TE} {pos:Pos}
theorem IxR.or {r r':R2}(h:IxR X r)(h':IxR X r'):IxR X (λx y H Q=>r x y H Q\/r' x y H Q):=by
 intro value slice pins s σ H x y v u Q I rx ry q hs;rcases q with q|q
 .exact h value slice pins s σ H x y v u Q I rx ry q hs
 .exact h' value slice pins s σ H x y v u Q I rx ry q hs
theorem DN {r:R2}(hr:IxR X r)(ha:PE X a ta)(hb:PE X b tb)(hs:rf b):PE X (.Subscript a b pos) (zr r ta tb):=by
 intro pins s σ H Q I h;exact Subscript_ (Bd ha hb I h λv u s2 x y H2 I2 rx ry q=>hr a b pins s2 σ H2 x y v u Q I2 rx ry q (hs _ _))
def Du (K:Qc):R2:=λx y H Q=>∃p xs i v,x= .ref p/\y= .int i/\SqL K H p xs/\jB xs i=some v/\Q v H
def Eo (K:Qc):R2:=λx y H Q=>∃p xs i v,x= .ref p/\y= .int i/\SqT K H p xs/\jB xs i=some v/\Q v H
def Er:R2:=λx y H Q=>∃z i c,x= .str z/\y= .int i/\z.length<=sizeLine/\jB z.cps.toList i=some c/\Q (.str ⟨#[c]⟩) H
theorem ix_list:IxR X (Du X.K):=by
 intro value slice pins s σ H x y v u Q I rx ry h hs;obtain⟨p,xs,i,z,rfl,rfl,hq,he,q⟩:=h;cases rx;obtain⟨t,rfl⟩:=ry;obtain⟨a_,r,pl,hz⟩:=I.list hq;obtain⟨j,h1,h2,h3,h4,h5⟩:=lN he;obtain⟨w,ew,OV⟩:=r.get h2;have hl:=r.length;have hn:=fI;have fin:EP X pins σ Q w s:=⟨z,H,I,OV,q⟩
 by_cases h0:0<=i
 .have hj:i.toNat=j:=by
   rw[seqIndex_of h0 h5] at h1;exact Ie h1
  exact item_listR pl.isList h0 (by lia) (by rw[hj];simpa using ew) fin hs
 .have hj:(i+(a_.toArray.size:Int)).toNat=j:=by
   rw[seqIndex_neg (by lia) h4] at h1;rw[Ir,←hl];exact Ie h1
  exact subscriptTail_builtinR (x:=w) pl.isList.typeIs slot_list_getitem.lookup
   (wpAny_getItem_list_neg (Q:=λr s'=>r=w/\EP X pins σ Q r s') pl.isList (by lia) (by rw[Ir]<;>lia) (by lia) (by rw[hj];simpa using ew) ⟨rfl,fin⟩) hs
theorem ix_tup:IxR X (Eo X.K):=by
 intro value slice pins s σ H x y v u Q I rx ry h hs;obtain⟨p,xs,i,z,rfl,rfl,hq,he,q⟩:=h;cases rx;obtain⟨t,rfl⟩:=ry;obtain⟨a_,r,pl,hz⟩:=I.tuple hq;obtain⟨j,h1,h2,h3,h4,h5⟩:=lN he;obtain⟨w,ew,OV⟩:=r.get h2;have hl:=r.length;have hn:=fI;have fin:EP X pins σ Q w s:=⟨z,H,I,OV,q⟩
 exact subscriptTail_builtinR (x:=w) pl.typeIs slot_tuple_getitem.lookup
  (getItem_tuple (j:=j) (Q:=λr s'=>r=w/\EP X pins σ Q r s') pl (by lia) (by lia) (by rw[Ir,←hl];exact h1) (by simpa using ew) ⟨rfl,fin⟩) hs
theorem Bb:IxR X Er:=by
 intro value slice pins s σ H x y v u Q I rx ry h hs;obtain⟨z,i,c,rfl,rfl,hz,he,q⟩:=h;obtain⟨t,rfl⟩:=rx;obtain⟨t',rfl⟩:=ry;obtain⟨j,h1,h2,h3,h4,h5⟩:=lN he;have hl:z.cps.toList.length=z.length:=by simp [Str.length]
 rw[hl] at h1 h4 h5;have hn:=fI;exact tail_any (Nd s z t) slot_str_getitem.lookup (getItem_str (c:=c) (by
  have e1:decide (i< -(2 ^ 63:Int))=false:=Iv (by lia);have e2:decide (i≥2 ^ 63)=false:=Iv (by lia);rw[e1,e2,Bool.or_false]) (by rw[h1];simpa using h2) ⟨.str ⟨#[c]⟩,H,I.tok _,⟨_,rfl⟩,q⟩) hs
def GW (K:Qc):R2:=λx y H Q=>Du K x y H Q\/Eo K x y H Q\/Er x y H Q
theorem ix_seq:IxR X (GW X.K):=ix_list.or (ix_tup.or Bb)
theorem pD (a_:List Value)(n j:Nat)(u:Value):Obj.mapSeq (·.setIfInBounds j u) {cls:= .type "list",data:= .seq a_.toArray n}={cls:= .type "list",data:= .seq (a_.set j u).toArray n}:=by
 simp [Obj.mapSeq]
theorem Inv.lst {pins:List (Addr×Obj)}{σ:St}{H:Hp}{s:Shared}{p:Addr}{xs:List V}(I:Inv X pins σ H s)(h:H p=some (.lst xs)):
  ∃(a_:List Value) (n:Nat),Vals xs a_/\s.heap.get? p=some {cls:= .type "list",data:= .seq a_.toArray n}/\xs.length<=sizeLine:=by
 obtain⟨z,a_,n,r,e⟩:=I.hok p _ h
 exact⟨a_,n,r,e,z⟩
theorem Inv.lstUpd {pins:List (Addr×Obj)}{σ:St}{H:Hp}{s:Shared}{p:Addr}{xs ys:List V}{a_ its':List Value}{n n':Nat}{f:Obj->Obj}(I:Inv X pins σ H s)(h:H p=some (.lst xs))
  (ho:s.heap.get? p=some {cls:= .type "list",data:= .seq a_.toArray n}) (hf:f {cls:= .type "list",data:= .seq a_.toArray n}={cls:= .type "list",data:= .seq its'.toArray n'}) (r:Vals ys its') (hz:ys.length<=sizeLine) (t:Nat):
  Inv X pins σ (p0 H p (.lst ys)) {s with heap:=s.heap.update p f,toks:=t}:=by
 have e:(s.heap.update p f).get? p=some {cls:= .type "list",data:= .seq its'.toArray n'}:=by
  rw[Heap.get?_update_self f ho (by rw[hf]<;>rfl),hf]
 refine I.write (x:=p) (e:=p) (by rw[h];trivial) (.inl rfl) (λb u hb q=>(Heap.get?_update_other _ _ (JC hb)).trans q) ⟨_,e⟩ ?_
 exact⟨hz,its',n',r,e⟩
def zZ:V->V->V->Hp->(Hp->Prop)->Prop:=λo i v H Q=>∃p xs k j,o= .ref p/\i= .int k/\H p=some (.lst xs)/\zf xs.length k=some j/\Q (p0 H p (.lst (xs.set j v)))
theorem wV:tM X zZ:=by
 intro pins s σ H o i v ov iv u Q I ro ri rv h;obtain⟨p,xs,k,j,rfl,rfl,hp,hj,q⟩:=h;cases ro;obtain⟨t,rfl⟩:=ri;obtain⟨a_,n,r,ho,hz⟩:=I.lst hp;obtain⟨h1,h2,h3,h4⟩:=qQ hj;have hl:=r.length;have hn:=fI;have I':Inv X pins σ (p0 H p (.lst (xs.set j v))) {s with heap:=s.heap.update p (Obj.mapSeq (·.setIfInBounds j u))}:=
  I.lstUpd hp ho (pD a_ n j u) (r.set rv j) (by rw[List.length_set];exact hz) s.toks
 by_cases h0:0<=k
 .have hk:k.toNat=j:=by
   rw[seqIndex_of h0 h4] at h1;exact Ie h1
  exact PySem.W.ki_setAt ho h0 (by lia) (by rw[Ir,←hl];exact h4) (by rw[hk];exact⟨_,I',q⟩)
 .have hk:(k+(a_.toArray.size:Int)).toNat=j:=by
   rw[seqIndex_neg (by lia) h3] at h1;rw[Ir,←hl];exact Ie h1
  exact PySem.W.ki_setBack ho (by lia) (by rw[Ir,←hl];exact h3) (by lia) (by rw[hk];exact⟨_,I',q⟩)
theorem lZ (lo hi:Option Int)(n:Nat):(sliceBounds lo hi none n).1=((HT.sIx n 0 lo:Nat):Int)/\(sliceBounds lo hi none n).2.1=((HT.sIx n n hi:Nat):Int)/\(sliceBounds lo hi none n).2.2=1:=by
 refine⟨?_,?_,rfl⟩
 .cases lo with
  |none=>simp [sliceBounds,HT.sIx]
  |some i=>
   simp only[sliceBounds,HT.sIx,Option.getD_none,show(1:Int)>0 by decide,Oa]
   by_cases h:i<0
   .simp only[h,Oa]<;>lia
   .simp only[h,Nc]<;>lia
 .cases hi with
  |none=>simp [sliceBounds,HT.sIx]
  |some i=>
   simp only[sliceBounds,HT.sIx,Option.getD_none,show(1:Int)>0 by decide,Oa]
   by_cases h:i<0
   .simp only[h,Oa]<;>lia
   .simp only[h,Nc]<;>lia
theorem jz (a_:List Value)(lo hi:Option Int):slicePick a_.toArray lo hi none=((a_.drop (HT.sIx a_.length 0 lo)).take (HT.sIx a_.length a_.length hi -HT.sIx a_.length 0 lo)).toArray:=by
 obtain⟨h1,h2,h3⟩:=lZ lo hi a_.toArray.size;unfold slicePick;rw[h1,h2,h3];simp only[sliceRange_one,pick_run,Ir]<;>rfl
def Ej (K:Qc):V->Option Int->Option Int->Hp->VK->Prop:=λx lo hi H Q=>∃a xs,x= .ref a/\SqL K H a xs/\∀p,H p=none->Q (.ref p) (p0 H p (.lst (cX xs lo hi)))
theorem sl_list:SlR X (Ej X.K):=by
 intro pins s σ H x v vl vu lo hi sl Q I rx hs pl pu h;obtain⟨a,xs,rfl,hx,q⟩:=h;cases rx;obtain⟨a_,r,ht,hz⟩:=I.list hx;have hlen:=r.length;refine⟨"list",_,slot_list_getitem.lookup,ht.isList.typeIs,?_⟩;refine wpAny_getItem_list_slice ht.isList hs pl pu .none (by simp) ?_ (by rw[Ir]<;>lia);rw[jz,←hlen];refine⟨.ref s.heap.objs.size,_,I.laid (t':=s.toks) (o:= .lst (cX xs lo hi)) (λb ob q=>HS _ q) (HJ _) ?_,rfl,q _ (I.hok.fresh (HJ _))⟩;exact⟨Ip (gd xs lo hi) hz,_,0,(r.drop (HT.sIx xs.length 0 lo)).take (HT.sIx xs.length xs.length hi -HT.sIx xs.length 0 lo),Iq _ rfl⟩
def D6:V->Bool
 | .non=>true
 | .bl _=>true
 | .int _=>true
 | .str _=>true
 |_=>false
def dv:V->V->Bool
 | .non,.non=>true
 | .bl a,.bl b=>a==b
 | .bl a,.int b=>(if a then 1 else 0)==b
 | .int a,.bl b=>a==(if b then 1 else 0)
 | .int a,.int b=>a==b
 | .str a,.str b=>a==b
 |_,_=>false
theorem bV {A:Around}{s:Shared}{y x:V}{u v:Value}(ry:RelV y u)(rx:RelV x v)(fy:D6 y=true)(fx:D6 x=true):SeqAt.EqAt A s u v (dv y x):=by
 cases y with
 |non=>
  cases ry
  cases x with
  |non=>cases rx;exact Ku _
  |bl b=>cases rx;exact SeqAt.EqAt.none_bool b
  |int b=>obtain⟨t,rfl⟩:=rx;exact SeqAt.EqAt.none_int b t
  |str b=>obtain⟨t,rfl⟩:=rx;exact SeqAt.EqAt.none_str b t
  |_=>exact absurd (show false=true from fx) IB
 |bl a=>
  cases ry
  cases x with
  |non=>cases rx;exact SeqAt.EqAt.bool_none a
  |bl b=>cases rx;exact SeqAt.EqAt.bool_bool a b
  |int b=>obtain⟨t,rfl⟩:=rx;exact SeqAt.EqAt.bool_int a b t
  |str b=>obtain⟨t,rfl⟩:=rx;exact SeqAt.EqAt.bool_str a b t
  |_=>exact absurd (show false=true from fx) IB
 |int a=>
  obtain⟨t',rfl⟩:=ry
  cases x with
  |non=>cases rx;exact SeqAt.EqAt.int_none a t'
  |bl b=>cases rx;exact SeqAt.EqAt.int_bool a t' b
  |int b=>obtain⟨t,rfl⟩:=rx;exact SeqAt.EqAt.int_int a t' b t
  |str b=>obtain⟨t,rfl⟩:=rx;exact LU a t' b t
  |_=>exact absurd (show false=true from fx) IB
 |str a=>
  obtain⟨t',rfl⟩:=ry
  cases x with
  |non=>cases rx;exact SeqAt.EqAt.str_none a t'
  |bl b=>cases rx;exact SeqAt.EqAt.str_bool a t' b
  |int b=>obtain⟨t,rfl⟩:=rx;exact LV a t' b t
  |str b=>obtain⟨t,rfl⟩:=rx;exact SeqAt.EqAt.str_str a t' b t
  |_=>exact absurd (show false=true from fx) IB
 |_=>exact absurd (show false=true from fy) IB
def oT (x:V)(u:Value):Bool:=match u with
 | .none=>dv .non x
 | .bool b=>dv (.bl b) x
 | .int i _=>dv (.int i) x
 | .str z _=>dv (.str z) x
 |_=>false
theorem xa {x y:V}{u:Value}(r:RelV y u)(f:D6 y=true):oT x u=dv y x:=by
 cases y with
 |non=>cases r;rfl
 |bl b=>cases r;rfl
 |int i=>obtain⟨t,rfl⟩:=r;rfl
 |str z=>obtain⟨t,rfl⟩:=r;rfl
 |_=>exact absurd (show false=true from f) IB
theorem dM {x:V}:∀{xs:List V} {us:List Value},Vals xs us->xs.all D6=true->us.any (oT x)=xs.any λy=>dv y x
 |_,_,.nil,_=>rfl
 |y::xs,u::us,.cons r t,f=>by
  rw[Kh,Io] at f;rw[LG,LG,xa r f.1,dM t f.2]
theorem bc {A:Around}{s:Shared}{x:V}{v:Value}(rx:RelV x v)(fx:D6 x=true):∀{xs:List V} {us:List Value},Vals xs us->xs.all D6=true->∀u∈us,SeqAt.EqAt A s u v (oT x u)
 |_,_,.nil,_=>λu hu=>by cases hu
 |y::xs,u::us,.cons r t,f=>λu' hu=>by
  rw[Kh,Io] at f;rcases Iz.mp hu with rfl|hu
  .rw[xa r f.1];exact bV r rx f.1 fx
  .exact bc rx fx t f.2 u' hu
def Dv (x:V)(xs:List V):Bool:=xs.any λy=>dv y x
def Fy (K:Qc)(neg:Bool):R2:=λx y H Q=>∃p xs,y= .ref p/\(SqL K H p xs\/SqT K H p xs)/\D6 x=true/\xs.all D6=true/\Q (.bl (if neg then !Dv x xs else Dv x xs)) H
theorem op_in_seq:OpR X (compareOp .In) (Fy X.K false):=by
 intro pins s σ H x y v u Q I rx ry h;obtain⟨p,xs,rfl,hq,fx,fs,q⟩:=h;cases ry;rcases hq with hq|hq
 .obtain⟨a_,r,pl,hz⟩:=I.list hq;refine SeqAt.in_listAt (oT x) pl.isList (λw hw=>bc rx fx r fs w (by simpa using hw)) ⟨.bl _,H,I,rfl,?_⟩;rw[show a_.toArray.any (oT x)=a_.any (oT x) by simp,dM r fs];exact q
 .obtain⟨a_,r,pl,hz⟩:=I.tuple hq;refine SeqAt.in_tupleAt (oT x) pl (λw hw=>bc rx fx r fs w (by simpa using hw)) ⟨.bl _,H,I,rfl,?_⟩;rw[show a_.toArray.any (oT x)=a_.any (oT x) by simp,dM r fs];exact q
theorem op_notIn_seq:OpR X (compareOp .NotIn) (Fy X.K true):=by
 intro pins s σ H x y v u Q I rx ry h;obtain⟨p,xs,rfl,hq,fx,fs,q⟩:=h;cases ry;rcases hq with hq|hq
 .obtain⟨a_,r,pl,hz⟩:=I.list hq;refine SeqAt.notIn_listAt (oT x) pl.isList (λw hw=>bc rx fx r fs w (by simpa using hw)) ⟨.bl _,H,I,rfl,?_⟩;rw[show a_.toArray.any (oT x)=a_.any (oT x) by simp,dM r fs];exact q
 .obtain⟨a_,r,pl,hz⟩:=I.tuple hq;refine SeqAt.notIn_tupleAt (oT x) pl (λw hw=>bc rx fx r fs w (by simpa using hw)) ⟨.bl _,H,I,rfl,?_⟩;rw[show a_.toArray.any (oT x)=a_.any (oT x) by simp,dM r fs];exact q
theorem lI:OpR X (compareOp .NotIn) (λx y H Q=>∃i j,x= .str i/\y= .str j/\Q (.bl (!(!(Builtin.Str.occurrences j i 0 j.length 1).isEmpty))) H):=by
 intro pins s σ H x y v u Q I rx ry h;obtain⟨i,j,rfl,rfl,q⟩:=h;obtain⟨t,rfl⟩:=rx;obtain⟨t',rfl⟩:=ry;exact notIn_str ⟨.bl _,H,I,rfl,q⟩
theorem CallR.or {f:Value}{r r':List V->Hp->VK->Prop}(h:CallR X f r)(h':CallR X f r'):CallR X f (λxs H Q=>r xs H Q\/r' xs H Q):=by
 intro pins s σ H xs us Q I rs q;rcases q with q|q
 .exact h pins s σ H xs us Q I rs q
 .exact h' pins s σ H xs us Q I rs q
theorem call_list_of:CallR X (.type "list") (λxs H Q=>∃p ys,xs=[.ref p]/\(SqL X.K H p ys\/SqT X.K H p ys)/\∀l,H l=none->Q (.ref l) (p0 H l (.lst ys))):=by
 intro pins s σ H xs us Q I r h;obtain⟨p,ys,rfl,hq,q⟩:=h;obtain⟨u,rfl,rx⟩:=K1 r;cases rx;have fin:∀(a_:List Value),Vals ys a_->ys.length<=sizeLine->∀(h':Heap) (c':Nat),(∀b o',s.heap.get? b=some o'->h'.get? b=some o')->
   h'.get? s.heap.objs.size=some {cls:= .type "list",dict:=none,data:= .seq a_.toArray c',slots:= #[]}->EP X pins σ Q (.ref s.heap.objs.size) {s with heap:=h'}:=λa_ r' hz h' c' kp e=>
  ⟨.ref s.heap.objs.size,_,I.laid (t':=s.toks) kp (HJ _) (show ObjOk X.prog X.w _ h' _ (.lst ys) from⟨hz,a_,c',r',e⟩),rfl,q _ (I.hok.fresh (HJ _))⟩
 rcases hq with hq|hq
 .obtain⟨a_,r',pl,hz⟩:=I.list hq;have hlen:=r'.length;obtain⟨o,ho,hc,n,hd⟩:=pl.isList;exact call_list_seq p (.inl rfl) ho hc hd (λh' c' kp e=>fin a_ r' hz h' c' kp e) (by simp only[Ir]<;>lia)
 .obtain⟨a_,r',pl,hz⟩:=I.tuple hq;have hlen:=r'.length;obtain⟨o,ho,hc,n,hd⟩:=pl;exact call_list_seq p (.inr rfl) ho hc hd (λh' c' kp e=>fin a_ r' hz h' c' kp e) (by simp only[Ir]<;>lia)
def Dj (K:Qc)(T:String)(x:V)(H:Hp):Prop:=match x with
 | .str _=>T="str"
 | .int _=>T="int"
 | .ref p=>(T="list"/\∃xs,SqL K H p xs)\/(T="tuple"/\∃o,K.lookup p=some o/\o.cls= .type "tuple"/\o.dict=none)\/
   (T="dict"/\((∃kvs,H p=some (.dK kvs))\/∃kvs,H p=some (.dT kvs)))\/(T="set"/\∃S n,H p=some (.set S n))
 |_=>False
theorem wA {pins:List (Addr×Obj)}{σ:St}{H:Hp}{s:Shared}{T:String}{x:V}{v:Value}(I:Inv X pins σ H s)(r:RelV x v)(ty:Dj X.K T x H):
  s.TypeIs v T/\∀a,v= .ref a->∃ob,s.heap.get? a=some ob/\ob.dict=none:=by
 cases x with
 |str z=>
  obtain⟨t,rfl⟩:=r
  cases (show T="str" from ty)
  exact⟨Nd s z t,λ_ e=>nomatch e⟩
 |int i=>
  obtain⟨t,rfl⟩:=r
  cases (show T="int" from ty)
  exact⟨typeIs_int s i t,λ_ e=>nomatch e⟩
 |ref p=>
  cases r
  rcases ty with⟨rfl,xs,hq⟩|⟨rfl,o,hk,hc,hd⟩|⟨rfl,hk⟩|⟨rfl,S,n,hk⟩
  .obtain⟨a_,_,pl,_⟩:=I.list hq
   refine⟨pl.isList.typeIs,λa e=>?_⟩
   cases e
   obtain⟨o,n,e,c,hd,_⟩:=pl
   exact⟨o,e,hd⟩
  .refine⟨⟨o,I.kIn p o hk,hc⟩,λa e=>?_⟩
   cases e
   exact⟨o,I.kIn _ o hk,hd⟩
  .have z:∃o,s.heap.get? p=some o/\o.ExactDict:=by
    rcases hk with⟨kvs,hk⟩|⟨kvs,hk⟩
    .obtain⟨_,_,_,_,o,_,_,e,ex,_⟩:=I.hok p _ hk;exact⟨o,e,ex⟩
    .obtain⟨_,_,_,_,o,_,_,e,ex,_⟩:=I.hok p _ hk;exact⟨o,e,ex⟩
   obtain⟨o,e,ex⟩:=z
   refine⟨⟨o,e,ex.1⟩,λa e2=>?_⟩
   cases e2
   exact⟨o,e,ex.2.1⟩
  .obtain⟨o,_,_,_,e,ex,_⟩:=I.hok p _ hk
   refine⟨⟨o,e,ex.1⟩,λa e2=>?_⟩
   cases e2
   exact⟨o,e,ex.2.1⟩
 |_=>exact False.elim ty
def AS (K:Qc)(T:String)(r:V->List V->Hp->VK->Prop)(to:TE):TE:=λσ H Q=>to σ H λx H1=>Dj K T x H1/\r x [] H1 Q
def GB (K:Qc)(T:String)(r:V->List V->Hp->VK->Prop)(to:TE)(t:TA):TE:=λσ H Q=>to σ H λx H1=>Dj K T x H1/\t σ H1 λxs H2=>r x xs H2 Q
variable {o e:Expr} {es:List Expr} {to:TE} {t:TA} {name:Str} {apos b_:Pos} {T id:String} {r:V->List V->Hp->VK->Prop}
theorem CL (pa:PlainAttrs T)(slot:Slot T name id)(PZ:typeOf (.builtin id)=pure (.type "method_descriptor"))(hm:uL X id r)(ho:PE X o to)
  (g_:attributeBase o name X.env (eval o X.env)=eval o X.env:=by rfl) (h_:(apos.endLine==b_.line)=true:=by rfl):PE X (.Call (.Attribute o name apos) [] [] b_) (AS X.K T r to):=by
 intro pins s σ H Q I h
 refine KZ g_ h_ (E9 (ho pins s σ H _ I h) λv s1 ⟨x,H1,I1,r1,ty,q1⟩=>?_)
 obtain⟨h1,h2⟩:=wA I1 r1 ty
 exact⟨T,id,pa,slot,PZ,h1,h2,JB rfl (LK (hm pins s1 σ H1 x [] v [] Q I1 r1 .nil q1))⟩
theorem DD (pa:PlainAttrs T)(slot:Slot T name id)(PZ:typeOf (.builtin id)=pure (.type "method_descriptor"))(hm:uL X id r)(ho:PE X o to)(ha:PA X (e::es) t)
  (g_:attributeBase o name X.env (eval o X.env)=eval o X.env:=by rfl)
  (Vy:((backTo b_ (starEach (e::es) X.env)).all (λx=>!x.1)&&(backToKw b_ (keywordEach [] X.env)).all (λx=>x.1.isSome)
   &&decide ((e::es).length+([]:List Keyword).length+(if([]:List Keyword).isEmpty then 0 else 1)<30))=true:=by rfl)
  (h_:(apos.endLine==b_.line)=true:=by rfl) (hs:starEach (e::es) X.env=(false,eval e X.env)::starEach es X.env:=by rfl) (Rr:(backTo b_ (starEach es X.env)).any (·.1)=false:=by rfl):
  PE X (.Call (.Attribute o name apos) (e::es) [] b_) (GB X.K T r to t):=by
 intro pins s σ H Q I h
 refine wpAny_Call_method_late g_ Vy h_ rfl (E9 (ho pins s σ H _ I h) λv s1 ⟨x,H1,I1,r1,ty,q1⟩=>?_)
 obtain⟨h1,h2⟩:=wA I1 r1 ty
 refine⟨T,id,pa,slot,PZ,h1,h2,?_⟩
 have hA:=ha b_ pins s1 σ H1 _ I1 q1
 rw[hs] at hA⊢
 refine JB (by show(false||(backTo b_ (starEach es X.env)).any (·.1))=false;rw[Rr]<;>rfl) (KD ?_)
 exact E9 hA λus s2 ⟨vs,H2,I2,r2,q2⟩=>hm pins s2 σ H2 x vs v us Q I2 r1 r2 q2
end
def Fz (X:Cx)(id:String)(r:V->List V->Hp->VK->Prop):Prop:=
 ∀(pins:List (Addr×Obj)) (s:Shared) (σ:St) (H:Hp) (x:V) (xs:List V) (v:Value) (us:List Value) (Q:VK),Inv X pins σ H s->RelV x v->Vals xs us->r x xs H Q->
  wpAny (model X.prog X.w) X.A (call (.builtin id) (v::us)) (EP X pins σ Q) X.xe s
theorem Vals.one:∀{x:V} {us:List Value},Vals [x] us->∃u,us=[u]/\RelV x u
 |_,_,.cons r .nil=>⟨_,rfl,r⟩
theorem Vals.zero:∀{us:List Value},Vals [] us->us=[]
 |_,.nil=>rfl
theorem Vals.dropLast {xs:List V}{us:List Value}(h:Vals xs us):Vals xs.dropLast us.dropLast:=by
 induction h with
 |nil=>exact .nil
 |cons r t ih=>
  cases t with
  |nil=>exact .nil
  |cons q t'=>exact .cons r ih
theorem pW {α:Type}(l:List α):l.eraseIdx (l.length -1)=l.dropLast:=by
 induction l with
 |nil=>rfl
 |cons a r ih=>
  cases r with
  |nil=>rfl
  |cons b r=>
   have e:(a::b::r).length -1=((b::r).length -1)+1:=by
    have h1:(a::b::r).length=r.length+2:=rfl;have h2:(b::r).length=r.length+1:=rfl;lia
   rw[e,List.eraseIdx_cons_succ,ih]
   all_goals rfl
section
variable {X:Cx} {pins:List (Addr×Obj)} {σ:St} {H:Hp} {s:Shared} {l b:Addr} {xs ys zs:List V}
theorem Inv.lset {a_ its':List Value}{n:Nat}{f:Array Value->Array Value}{t':Nat}(I:Inv X pins σ H s)(hH:H l=some (.lst xs))
  (e:s.heap.get? l=some {cls:= .type "list",data:= .seq a_.toArray n}) (hf:f a_.toArray=its'.toArray) (hv:Vals ys its') (hz:ys.length<=sizeLine):
  Inv X pins σ (p0 H l (.lst ys)) {s with heap:=s.heap.update l (Obj.mapSeq f),toks:=t'}:=by
 have q:=PySem.IsL.update e f
 rw[hf] at q
 refine I.write (x:=l) (e:=l) (by rw[hH];exact trivial) (.inl rfl) (λb' u hb hu=>(Heap.get?_update_other s.heap (Obj.mapSeq f) (JC hb)).trans hu) ⟨_,q⟩ ?_
 exact⟨hz,its',_,hv,q⟩
theorem Inv.lnew {a_:List Value}{t':Nat}(I:Inv X pins σ H s)(hv:Vals ys a_)(hz:ys.length<=sizeLine):
  Inv X pins σ (p0 H s.heap.objs.size (.lst ys)) {s with heap:=s.heap.push {cls:= .type "list",data:= .seq a_.toArray},toks:=t'}:=
 I.laid (λ_ _ q=>HS _ q) (HJ _) ⟨hz,a_,0,hv,Iq _ rfl⟩
theorem Inv.fresh (I:Inv X pins σ H s):H s.heap.objs.size=none:=I.hok.fresh (HJ _)
theorem Inv.lstM (I:Inv X pins σ H s)(hH:H l=some (.lst xs)):xs.length<=sizeLine/\∃(a_:List Value) (n:Nat),Vals xs a_/\xs.length=a_.length/\s.heap.get? l=some {cls:= .type "list",data:= .seq a_.toArray n}:=by
 obtain⟨z,a_,n,r,e⟩:=I.hok l _ hH;exact⟨z,a_,n,r,r.length,e⟩
theorem xp {n:Nat}(h:n<=sizeLine):Builtin.List.listTooLong n=false:=by
 unfold Builtin.List.listTooLong;exact Iv (by lia)
end
section
variable {X:Cx}
def qL:V->List V->Hp->VK->Prop:=λx vs H Q=>∃l xs y,x= .ref l/\vs=[y]/\H l=some (.lst xs)/\xs.length<sizeLine/\Q .non (p0 H l (.lst (xs++[y])))
theorem um:Fz X "list.append" qL:=by
 intro pins s σ H x vs v us Q I rx rv h;obtain⟨l,xs,y,rfl,rfl,hH,hz,q⟩:=h;cases rx;obtain⟨u,rfl,ru⟩:=rv.one;obtain⟨z,a_,n,r,hl,e⟩:=I.lstM hH;refine Mn F.slot_list_append ⟨_,e,rfl⟩ F.entry_list_append (F.args_list_append_2 _ _) (PySem.list_append l a_.toArray n u (by rw[Ir];lia)) ⟨e,?_⟩;refine⟨.non,_,I.lset (its':=a_++[u]) hH e (by simp) (r.append (.cons ru .nil)) ?_,rfl,q⟩;rw[HQ,Il];lia
def qT:V->List V->Hp->VK->Prop:=λx vs H Q=>∃l b xs zs,x= .ref l/\vs=[.ref b]/\H l=some (.lst xs)/\H b=some (.lst zs)/\xs.length+zs.length<=sizeLine/\Q .non (p0 H l (.lst (xs++zs)))
theorem tG:Fz X "list.extend" qT:=by
 intro pins s σ H x vs v us Q I rx rv h;obtain⟨l,b,xs,zs,rfl,rfl,hH,hB,hz,q⟩:=h;cases rx;obtain⟨u,rfl,ru⟩:=rv.one;cases ru;obtain⟨z,a_,n,r,hl,e⟩:=I.lstM hH;obtain⟨z2,MP,n2,r2,Oh,e2⟩:=I.lstM hB;have hsz:a_.toArray.size+MP.toArray.size<=sizeLine:=by rw[Ir,Ir];lia
 have SS:¬(!a_.toArray.isEmpty&&Builtin.List.listTooLong (a_.toArray.size+MP.toArray.size))=true:=by
  rw[xp hsz,Nr];exact IB
 refine Mn F.slot_list_extend ⟨_,e,rfl⟩ F.entry_list_extend (F.args_list_extend_2 _ _)
  (AutoSeq1.list_extend_list_list_0 l a_.toArray n b MP.toArray n2 SS (by rw[Ir];lia) (by lia)) ⟨e,e2,?_⟩
 refine⟨.non,_,I.lset (its':=a_++MP) hH e (by simp) (r.append r2) ?_,rfl,q⟩;rw[HQ];lia
def Ea:V->List V->Hp->VK->Prop:=λx vs H Q=>∃l xs y,x= .ref l/\vs=[]/\H l=some (.lst xs)/\xs[xs.length -1]?=some y/\Q y (p0 H l (.lst xs.dropLast))
theorem Aw:Fz X "list.pop" Ea:=by
 intro pins s σ H x vs v us Q I rx rv h;obtain⟨l,xs,y,rfl,rfl,hH,hy,q⟩:=h;cases rx;have P_:=rv.zero;subst P_;obtain⟨z,a_,n,r,hl,e⟩:=I.lstM hH;obtain⟨u,hu,ru⟩:=r.get hy;have Rt:a_.toArray[a_.toArray.size -1]?=some u:=by
  show a_.toArray[a_.length -1]?=some u;rw[←Kv,←hl];exact hu
 refine Mn F.slot_list_pop ⟨_,e,rfl⟩ F.entry_list_pop (F.args_list_pop_1 _) (MeetsSeq.list_pop_last l a_.toArray n u Rt (by rw[Ir];lia)) ⟨e,?_⟩;refine⟨y,_,I.lset (its':=a_.dropLast) hH e ?_ r.dropLast ?_,ru,q⟩
 .show a_.toArray.eraseIdxIfInBounds (a_.toArray.size -1)=a_.dropLast.toArray;rw[Ir,List.eraseIdxIfInBounds_toArray,pW]
 .rw[List.length_dropLast];lia
def DF:R2:=λx y H Q=>∃l b xs zs,x= .ref l/\y= .ref b/\H l=some (.lst xs)/\H b=some (.lst zs)/\xs.length+zs.length<=sizeLine/\∀p,H p=none->Q (.ref p) (p0 H p (.lst (xs++zs)))
theorem op_cat:OpR X (binaryOp .Add) DF:=by
 intro pins s σ H x y v u Q I rx ry h;obtain⟨l,b,xs,zs,rfl,rfl,hH,hB,hz,q⟩:=h;cases rx;cases ry;obtain⟨z,a_,n,r,hl,e⟩:=I.lstM hH;obtain⟨z2,MP,n2,r2,Oh,e2⟩:=I.lstM hB;refine PySem.P.add_list e e2 ?_ (by rw[Ir,Ir];lia);have ea:a_.toArray++MP.toArray=(a_++MP).toArray:=by simp
 rw[ea];exact⟨.ref _,_,I.lnew (t':=s.toks) (r.append r2) (by rw[HQ];lia),rfl,q _ I.fresh⟩
end
section
variable {prog:Program} {w:World} {A:Around} {E:Value->Shared->Prop} {s:Shared}
end
section
variable {X:Cx}
end
section
variable {κ:Type} [DecidableEq κ]
def p9 (kvs:List (κ×V))(k:κ):Option V:=(kvs.find? λkv=>decide (kv.1=k)).map (·.2)
def D0 (kvs:List (κ×V))(k:κ)(v:V):List (κ×V):=
 if(kvs.any λkv=>decide (kv.1=k))=true then kvs.map (λkv=>if kv.1=k then(kv.1,v) else kv) else kvs++[(k,v)]
theorem C3 {p:κ×V}{r:List (κ×V)}{k:κ}(e:p.1=k):p9 (p::r) k=some p.2:=by simp [p9,Kw,e]
theorem C6 {p:κ×V}{r:List (κ×V)}{k:κ}(e:¬p.1=k):p9 (p::r) k=p9 r k:=by simp [p9,Kw,e]
theorem I0 (k:κ):∀kvs:List (κ×V),(kvs.any λkv=>decide (kv.1=k))=(p9 kvs k).isSome
 |[]=>rfl
 |p::r=>by
  rw[LG];by_cases e:p.1=k
  .simp only[C3 e,IA e,Bool.true_or,Option.isSome_some]
  .rw[C6 e,Iv e,Bool.false_or];exact I0 k r
theorem nH (k j:κ)(y:V):∀kvs:List (κ×V),p9 (kvs.map λkv=>if kv.1=k then(kv.1,y) else kv) j=(p9 kvs j).map λx=>if j=k then y else x
 |[]=>rfl
 |p::r=>by
  have ih:=nH k j y r;rw[IP];by_cases h:p.1=k
  .rw[if_pos h];by_cases e:p.1=j
   .rw[C3 (p:=(p.1,y)) e,C3 e,JY,if_pos (e.symm.trans h)]
   .rw[C6 (p:=(p.1,y)) e,C6 e,ih]
  .rw[if_neg h];by_cases e:p.1=j
   .rw[C3 (p:=p) e,C3 e,JY,if_neg (λz=>h (e.trans z))]
   .rw[C6 (p:=p) e,C6 e,ih]
theorem ku (k j:κ)(y:V):∀kvs:List (κ×V),p9 kvs k=none->p9 (kvs++[(k,y)]) j=if j=k then some y else p9 kvs j
 |[],_=>by
  by_cases e:k=j
  .rw[if_pos e.symm];exact C3 (p:=(k,y)) e
  .rw[if_neg (λz=>e z.symm)];exact C6 (p:=(k,y)) e
 |p::r,hn=>by
  rw[MD];have hk:¬p.1=k:=λz=>by rw[C3 z] at hn;cases hn
  rw[C6 hk] at hn;have ih:=ku k j y r hn;by_cases e:p.1=j
  .rw[C3 e,C3 e,if_neg (λz=>hk (e.trans z))]
  .rw[C6 e,C6 e,ih]
theorem F7 (kvs:List (κ×V))(k j:κ)(y:V):p9 (D0 kvs k y) j=if j=k then some y else p9 kvs j:=by
 unfold D0;by_cases a:(kvs.any λkv=>decide (kv.1=k))=true
 .rw[if_pos a,nH];rw[I0] at a;by_cases e:j=k
  .obtain⟨x,hx⟩:=Ml.mp a;rw[if_pos e,e,hx,JY,if_pos rfl]
  .rw[if_neg e];cases p9 kvs j with
   |none=>rfl
   |some x=>rw[JY,if_neg e]
 .rw[if_neg a];refine ku k j y kvs ?_;rw[I0] at a;cases q:p9 kvs k with
  |none=>rfl
  |some x=>rw[q] at a;exact(a rfl).elim
theorem K2 (kvs:List (κ×V))(k:κ)(v:V):(D0 kvs k v).length<=kvs.length+1:=by
 unfold D0;split
 .rw[HI];lia
 .rw[HQ,IV,La];lia
theorem E6 {kvs:List (κ×V)}{k:κ}(v:V)(h:p9 kvs k=none):D0 kvs k v=kvs++[(k,v)]:=by
 unfold D0;rw[I0,h];exact if_neg (by decide)
theorem RelO.isSome_eq {o:Option V}{u:Option Value}(r:RelO o u):o.isSome=u.isSome:=by
 cases o with
 |none=>cases u with
  |none=>rfl
  |some _=>exact(show False from r).elim
 |some _=>cases u with
  |none=>exact(show False from r).elim
  |some _=>rfl
theorem RelO.getD {o:Option V}{u:Option Value}{d:V}{d':Value}(r:RelO o u)(rd:RelV d d'):RelV (o.getD d) (u.getD d'):=by
 cases o with
 |none=>cases u with
  |none=>exact rd
  |some _=>exact(show False from r).elim
 |some _=>cases u with
  |none=>exact(show False from r).elim
  |some _=>exact r
theorem KV.val {kvs:List (κ×V)}{vs:List (κ×Value)}(r:KV kvs vs)(k:κ):RelO (p9 kvs k) (valueAt vs k):=by
 unfold KV at r;induction r with
 |nil=>exact True.intro
 | @cons p q ps qs h t ih=>
  obtain⟨h1,h2⟩:=h
  by_cases e:p.1=k
  .have e':q.1=k:=h1.symm.trans e
   have b:valueAt (q::qs) k=some q.2:=by simp [valueAt,Kw,e']
   rw[C3 e,b];exact h2
  .have e':¬q.1=k:=λz=>e (h1.trans z)
   have b:valueAt (q::qs) k=valueAt qs k:=by simp [valueAt,Kw,e']
   rw[C6 e,b];exact ih
theorem KV.any {kvs:List (κ×V)}{vs:List (κ×Value)}(r:KV kvs vs)(k:κ):(kvs.any λkv=>decide (kv.1=k))=vs.any λkv=>decide (kv.1=k):=by
 unfold KV at r;induction r with
 |nil=>rfl
 |cons h t ih=>rw[LG,LG,ih,h.1]
theorem KV.repl {kvs:List (κ×V)}{vs:List (κ×Value)}(r:KV kvs vs)(k:κ){y:V}{u:Value}(ry:RelV y u):
  KV (kvs.map λkv=>if kv.1=k then(kv.1,y) else kv) (vs.map λkv=>if kv.1=k then(kv.1,u) else kv):=by
 unfold KV at r⊢
 induction r with
 |nil=>exact .nil
 | @cons p q ps qs h t ih=>
  rw[IP,IP]
  refine .cons ?_ ih
  obtain⟨h1,h2⟩:=h
  by_cases e:p.1=k
  .rw[if_pos e,if_pos (h1.symm.trans e)];exact⟨h1,ry⟩
  .rw[if_neg e,if_neg (λz=>e (h1.trans z))];exact⟨h1,h2⟩
theorem KV.put {kvs:List (κ×V)}{vs:List (κ×Value)}(r:KV kvs vs)(k:κ){y:V}{u:Value}(ry:RelV y u):KV (D0 kvs k y) (stored vs k u):=by
 unfold D0 stored;rw[r.any k];by_cases e:(vs.any λkv=>decide (kv.1=k))=true
 .rw[if_pos e,if_pos e];exact r.repl k ry
 .rw[if_neg e,if_neg e];exact Paired.snoc r ⟨rfl,ry⟩
theorem KV.keys {kvs:List (κ×V)}{vs:List (κ×Value)}(r:KV kvs vs):kvs.map (·.1)=vs.map (·.1):=by
 unfold KV at r;induction r with
 |nil=>rfl
 |cons h t ih=>rw[IP,IP,ih,h.1]
theorem KV.length {kvs:List (κ×V)}{vs:List (κ×Value)}(r:KV kvs vs):kvs.length=vs.length:=IC r
end
theorem eG {P:Program}{w:World}{k:j3}{u:Value}(r:RelV (kV k) u):(l0 P w).is k u=true:=by
 cases k with
 |inl i=>obtain⟨t,e⟩:=(show ∃t,u=Value.int i t from r);subst e;exact nN P w i t
 |inr x=>obtain⟨t,e⟩:=(show ∃t,u=Value.str x t from r);subst e;exact oj P w x t
theorem kr {P:Program}{w:World}:∀{ks:List j3} {us:List Value},Vals (ks.map kV) us->ItemsAre (l0 P w) ks us
 |[],_,r=>by rw[Mb] at r;cases r;exact .nil
 |k::ks,_,r=>by
  rw[IP] at r;cases r with
  |cons h t=>exact .cons (eG h) (kr t)
abbrev KT (H:Hp):List (List j3×V)->List (List j3×Addr×Value)->Prop:=Paired λp q=>p.1=q.1/\H q.2.1=some (.tup (p.1.map kV))/\RelV p.2 q.2.2
theorem KT.val {H:Hp}{kvs:List (List j3×V)}{xs:List (List j3×Addr×Value)}(r:KT H kvs xs)(k:List j3):RelO (p9 kvs k) ((atKey xs k).map (·.2)):=by
 induction r with
 |nil=>exact True.intro
 | @cons p q ps qs h t ih=>
  obtain⟨h1,_,h2⟩:=h
  by_cases e:p.1=k
  .have e':q.1=k:=h1.symm.trans e
   have b:atKey (q::qs) k=some q.2:=by simp [atKey,Kw,e']
   rw[C3 e,b];exact h2
  .have e':¬q.1=k:=λz=>e (h1.trans z)
   have b:atKey (q::qs) k=atKey qs k:=by simp [atKey,Kw,e']
   rw[C6 e,b];exact ih
theorem KT.repl {H:Hp}{kvs:List (List j3×V)}{xs:List (List j3×Addr×Value)}(r:KT H kvs xs)(k:List j3){y:V}{u:Value}(ry:RelV y u):
  KT H (kvs.map λkv=>if kv.1=k then(kv.1,y) else kv) (xs.map (putAt k u)):=by
 induction r with
 |nil=>exact .nil
 | @cons p q ps qs h t ih=>
  rw[IP,IP]
  refine .cons ?_ ih
  obtain⟨h1,h2,h3⟩:=h
  unfold putAt
  by_cases e:p.1=k
  .rw[if_pos e,if_pos (h1.symm.trans e)];exact⟨h1,h2,ry⟩
  .rw[if_neg e,if_neg (λz=>e (h1.trans z))];exact⟨h1,h2,h3⟩
theorem KT.put {H:Hp}{kvs:List (List j3×V)}{xs:List (List j3×Addr×Value)}(r:KT H kvs xs)(k:List j3){b:Addr}{y:V}{u:Value}(hb:H b=some (.tup (k.map kV)))(ry:RelV y u):
  KT H (D0 kvs k y) (storedH xs k b u):=by
 have e:(kvs.any λkv=>decide (kv.1=k))=(atKey xs k).isSome:=by
  rw[I0,(r.val k).isSome_eq,Mo]
 unfold D0 storedH
 rw[e]
 by_cases q:(atKey xs k).isSome=true
 .rw[if_pos q,if_pos q];exact r.repl k ry
 .rw[if_neg q,if_neg q];exact Paired.snoc r ⟨rfl,hb,ry⟩
theorem KT.keeps {H H':Hp}{kvs:List (List j3×V)}{xs:List (List j3×Addr×Value)}(r:KT H kvs xs)(ht:∀b ys,H b=some (.tup ys)->H' b=some (.tup ys)):KT H' kvs xs:=
 Paired.mapP r λ_ _ z=>⟨z.1,ht _ _ z.2.1,z.2.2⟩
section
variable {P:Program} {w:World} {H:Hp} {h:Heap} {a:Addr}
theorem Ac {u:HO}(ok:HOk P w H h)(e:Rd H a u):ObjOk P w H h a u:=e.ok ok
theorem N0 {kvs:List (j3×V)}(ok:HOk P w H h)(e:Rd H a (.dK kvs)):kvs.length<=sizeLine/\(a==sysModules)=false/\∃vs,KV kvs vs/\h.DictOf (l0 P w) a vs:=
 show ObjOk P w H h a (.dK kvs) from Ac ok e
theorem rm {kvs:List (j3×V)}(ok:HOk P w H h)(e:H a=some (.dK kvs)):kvs.length<=sizeLine/\(a==sysModules)=false/\∃vs,KV kvs vs/\h.DictOf (l0 P w) a vs:=N0 ok (.inl e)
theorem aW {ks:List j3}(ok:HOk P w H h)(e:H a=some (.tup (ks.map kV))):(tupleKind (l0 P w)).is h ks a:=by
 obtain⟨_,a_,r,o,h1,h2,n,h3⟩:=(show ObjOk P w H h a (.tup (ks.map kV)) from ok a _ e)
 exact⟨o,a_.toArray,n,h1,h2,h3,by simpa using kr r⟩
theorem gw {kvs:List (List j3×V)}(ok:HOk P w H h)(e:Rd H a (.dT kvs)):kvs.length<=sizeLine/\(a==sysModules)=false/\
  ∃xs,KT H kvs xs/\h.DictOfH (tupleKind (l0 P w)) a xs:=by
 obtain⟨z,y,xs,r,o,es,ep,h1,h2,h3,h4,h5⟩:=(show ObjOk P w H h a (.dT kvs) from Ac ok e)
 refine⟨z,y,xs,r,o,es,ep,h1,h2,h3,h4,λx hx=>?_,h5⟩
 have all:∀{l:List (List j3×V)} {m:List (List j3×Addr×Value)},KT H l m->∀x∈m,(tupleKind (l0 P w)).is h x.1 x.2.1:=by
  intro l m q;induction q with
  |nil=>intro x hx;exact nomatch hx
  | @cons p q ps qs hq t ih=>
   intro x hx
   rcases Iz.mp hx with e|hx
   .subst e
    exact aW ok (by rw[←hq.1];exact hq.2.1)
   .exact ih x hx
 exact all r x hx
theorem Aq {kvs:List (List j3×V)}(ok:HOk P w H h)(e:H a=some (.dT kvs)):kvs.length<=sizeLine/\(a==sysModules)=false/\
  ∃xs,KT H kvs xs/\h.DictOfH (tupleKind (l0 P w)) a xs:=gw ok (.inl e)
end
def DGet (H:Hp)(a:Addr)(y:V)(r:Option V):Prop:=
 (∃kvs k,Rd H a (.dK kvs)/\y=kV k/\r=p9 kvs k)\/∃kvs k b,Rd H a (.dT kvs)/\y= .ref b/\H b=some (.tup (k.map kV))/\r=p9 kvs k
def DPut (H:Hp)(a:Addr)(y v:V)(H':Hp):Prop:=
 (∃kvs k,H a=some (.dK kvs)/\y=kV k/\kvs.length<sizeLine/\H'=p0 H a (.dK (D0 kvs k v)))\/
 ∃kvs k b,H a=some (.dT kvs)/\y= .ref b/\H b=some (.tup (k.map kV))/\kvs.length<sizeLine/\H'=p0 H a (.dT (D0 kvs k v))
theorem DGet.t {H:Hp}{a b:Addr}{kvs:List (List j3×V)}{k:List j3}(e:H a=some (.dT kvs))(eb:H b=some (.tup (k.map kV))):DGet H a (.ref b) (p9 kvs k):= .inr ⟨kvs,k,b,.inl e,rfl,eb,rfl⟩
theorem DPut.k {H:Hp}{a:Addr}{kvs:List (j3×V)}{k:j3}{v:V}(e:H a=some (.dK kvs))(hl:kvs.length<sizeLine):DPut H a (kV k) v (p0 H a (.dK (D0 kvs k v))):= .inl ⟨kvs,k,e,rfl,hl,rfl⟩
section
variable {X:Cx} {pins:List (Addr×Obj)} {σ:St} {H:Hp} {s:Shared} {a:Addr} {y v:V} {u r:Value} {o:Option V} {A:Around} {E:Value->Shared->Prop}
theorem Inv.big (I:Inv X pins σ H s):sysModules<s.heap.objs.size:=by
 have h:mainGlobals<s.heap.objs.size:=(I.mod.glob.keeps I.bk).lt;exact MR (by decide) h
theorem uA {Q:Value->Shared->Prop}(hu:A.units+1<cLine)(I:Inv X pins σ H s)(g:DGet H a y (some v))(ry:RelV y u)(h:∀w' s',Inv X pins σ H s'->RelV v w'->Q w' s'):
  wpAny (model X.prog X.w) A (getItem (.ref a) u) Q E s:=by
 rcases g with⟨kvs,k,e,ey,l⟩|⟨kvs,k,b,e,ey,eb,l⟩
 .subst ey
  obtain⟨z,hd,vs,rel,dd⟩:=N0 I.hok e
  obtain⟨w',hw,OV⟩:=RelO.some_of (v:=v) (o:=valueAt vs k) (by rw[l];exact rel.val k)
  exact wpAny_getItem_of (eG ry) dd.mapOf hw (h w' _ (I.tok _) OV)
 .subst ey
  cases (show u=Value.ref b from ry)
  obtain⟨z,hd,xs,rel,dd⟩:=gw I.hok e
  obtain⟨w',hw,OV⟩:=RelO.some_of (v:=v) (o:=(atKey xs k).map (·.2)) (by rw[l];exact rel.val k)
  obtain⟨p,hp,hp2⟩:=IL.mp hw
  refine wpAny_getItem_heap (JJ hu) (aW I.hok eb) dd hp ?_
  rw[hp2]
  exact h w' _ (I.tok _) OV
theorem GF {Q:Value->Shared->Prop}(hu:A.units+1<cLine)(I:Inv X pins σ H s)(g:DGet H a y o)(ry:RelV y u)(h:∀s',Inv X pins σ H s'->Q (.bool o.isSome) s'):
  wpAny (model X.prog X.w) A (compareOp .In u (.ref a)) Q E s:=by
 rcases g with⟨kvs,k,e,ey,l⟩|⟨kvs,k,b,e,ey,eb,l⟩
 .subst ey
  obtain⟨z,hd,vs,rel,dd⟩:=N0 I.hok e
  refine wpAny_in_of (eG ry) hd dd.mapOf ?_
  rw[←(rel.val k).isSome_eq,←l]
  exact h _ (I.tok _)
 .subst ey
  cases (show u=Value.ref b from ry)
  obtain⟨z,hd,xs,rel,dd⟩:=gw I.hok e
  refine wpAny_in_heap (JJ hu) (aW I.hok eb) hd dd ?_
  have q:=(rel.val k).isSome_eq
  rw[Mo] at q
  rw[←q,←l]
  exact h _ (I.tok _)
theorem zu {Q:Value->Shared->Prop}(hu:A.units+1<cLine)(I:Inv X pins σ H s)(g:DGet H a y o)(ry:RelV y u)(h:∀s',Inv X pins σ H s'->Q (.bool (!o.isSome)) s'):
  wpAny (model X.prog X.w) A (compareOp .NotIn u (.ref a)) Q E s:=by
 rcases g with⟨kvs,k,e,ey,l⟩|⟨kvs,k,b,e,ey,eb,l⟩
 .subst ey
  obtain⟨z,hd,vs,rel,dd⟩:=N0 I.hok e
  refine wpAny_notIn_of (eG ry) hd dd.mapOf ?_
  rw[←(rel.val k).isSome_eq,←l]
  exact h _ (I.tok _)
 .subst ey
  cases (show u=Value.ref b from ry)
  obtain⟨z,hd,xs,rel,dd⟩:=gw I.hok e
  refine wpAny_notIn_heap (JJ hu) (aW I.hok eb) hd dd ?_
  have q:=(rel.val k).isSome_eq
  rw[Mo] at q
  rw[←q,←l]
  exact h _ (I.tok _)
theorem cm {h':Heap}{t':Nat}{ob:HO}(I:Inv X pins σ H s)(mu:ES (H a))(hs:Heap.SameBut a s.heap h')(he:∃q,h'.get? a=some q)(new:ObjOk X.prog X.w (p0 H a ob) h' a ob):
  Inv X pins σ (p0 H a ob) {s with heap:=h',toks:=t'}:=
 I.write (x:=a) (e:=a) mu (.inl rfl) (λb q hb z=>(hs.2 b hb).trans z) he new
theorem fq {P:Program}{w:World}{H':Hp}{h':Heap}{kvs:List (j3×V)}{vs:List (j3×Value)}(z:kvs.length<=sizeLine)(hd:(a==sysModules)=false)(rel:KV kvs vs)(dd:h'.DictOf (l0 P w) a vs):
  ObjOk P w H' h' a (.dK kvs):=⟨z,hd,vs,rel,dd⟩
theorem tW {H':Hp}{Q:Unit->Shared->Prop}(hu:A.units+1<cLine)(I:Inv X pins σ H s)(g:DPut H a y v H')(ry:RelV y u)(rv:RelV v r)(h:∀s',Inv X pins σ H' s'->Q () s'):
  wpAny (model X.prog X.w) A (setItem (.ref a) u r) Q E s:=by
 rcases g with⟨kvs,k,e,ey,l,eH⟩|⟨kvs,k,b,e,ey,eb,l,eH⟩
 .subst ey eH
  obtain⟨z,hd,vs,rel,dd⟩:=rm I.hok e
  have hz:vs.length<=sizeLine:=by rw[←rel.length];exact z
  have hl:(D0 kvs k v).length<=sizeLine:=by have:=K2 kvs k v;lia
  refine wpAny_setItem_pairs (hsz:=hz) (eG ry) dd λh' dd' hs=>h _ ?_
  have he:∃q,h'.get? a=some q:=let ⟨q,_,_,hq,_⟩:=dd';⟨q,hq⟩
  exact cm I (by rw[e];exact True.intro) hs he (fq hl hd (rel.put k rv) dd')
 .subst ey eH
  cases (show u=Value.ref b from ry)
  obtain⟨z,hd,xs,rel,dd⟩:=Aq I.hok e
  have hz:xs.length<=sizeLine:=by rw[←IC rel];exact z
  have hl:(D0 kvs k v).length<=sizeLine:=by have:=K2 kvs k v;lia
  refine wpAny_setItem_heap (hsz:=hz) (JJ hu) (aW I.hok eb) dd λh' dd' hs=>h _ ?_
  obtain⟨q,es,ep,hq,h2,h3,h4,_,h5⟩:=dd'
  refine cm I (by rw[e];exact True.intro) hs ⟨q,hq⟩ ⟨hl,hd,_,(rel.put k eb rv).keeps λc ys ec=>?_,q,es,ep,hq,h2,h3,h4,h5⟩
  rw[b7 (zY ec e (λz=>nomatch z))]
  exact ec
end
section
variable {X:Cx} {pins:List (Addr×Obj)} {σ:St} {H:Hp} {s:Shared} {a:Addr} {kvs:List (j3×V)} {k:j3} {u:Value} {A:Around} {E:Value->Shared->Prop}
theorem zm {Q:Value->Shared->Prop}(I:Inv X pins σ H s)(e:H a=some (.dK kvs))(h:∀s',Inv X pins σ (p0 H a (.dK [])) s'->Q .none s'):wpAny (model X.prog X.w) A (call (.builtin "dict.clear") [.ref a]) Q E s:=by
 obtain⟨z,hd,vs,rel,dd⟩:=rm I.hok e;refine Jw Mt dd.typeIs PySem.F.entry_dict_clear (PySem.F.args_dict_clear_1 _) (meets_dict_clear (l0 X.prog X.w) a) ⟨vs,dd,by rw[←rel.length];exact z,λh' dd' hs=>h _ ?_⟩;have he:∃q,h'.get? a=some q:=let ⟨q,_,_,hq,_⟩:=dd';⟨q,hq⟩
 exact cm (t':=s.toks) I (by rw[e];exact True.intro) hs he (fq (Jv _) hd .nil dd')
theorem DG {Q:Value->Shared->Prop}(I:Inv X pins σ H s)(e:Rd H a (.dK kvs))(h:∀t s',Inv X pins σ H s'->Q (.int kvs.length t) s'):wpAny (model X.prog X.w) A (call (.builtin "len") [.ref a]) Q E s:=by
 obtain⟨z,hd,vs,rel,dd⟩:=N0 I.hok e;refine call_len_dict hd dd (by rw[←rel.length];rw[Nw] at z;lia) ?_;rw[←rel.length];exact h _ _ (I.tok _)
end
theorem nO {X:Cx}{pins:List (Addr×Obj)}{σ:St}{H:Hp}{s:Shared}{a:Addr}{y:V}{o:Option V}(I:Inv X pins σ H s)(g:DGet H a y o):s.TypeIs (.ref a) "dict":=by
 rcases g with⟨kvs,k,e,_,_⟩|⟨kvs,k,b,e,_,_,_⟩
 .obtain⟨_,_,vs,_,dd⟩:=N0 I.hok e;exact dd.typeIs
 .obtain⟨_,_,xs,_,dd⟩:=gw I.hok e;exact dd.typeIs
section
variable {X:Cx} {o i e value:Expr} {pos pos' j_:Pos} {td ty tv:TE}
end
theorem wX {P:Program}{w:World}{H:Hp}(h:Heap)(hb:sysModules<h.objs.size):ObjOk P w H (h.push {cls:= .type "dict",data:= .dict #[]}) h.objs.size (.dK []):=
 ⟨Jv _,JM.mpr (JC (Im hb)),[],.nil,MS h⟩
theorem wN {P:Program}{w:World}{H:Hp}(h:Heap)(hb:sysModules<h.objs.size):ObjOk P w H (h.push {cls:= .type "dict",data:= .dict #[]}) h.objs.size (.dT []):=
 ⟨Jv _,JM.mpr (JC (Im hb)),[],.nil,_, #[],0,Iq _ rfl,⟨rfl,rfl,rfl⟩,rfl,rfl,JG⟩
def vv:TE:=λ_ H Q=>∀p,H p=none->Q (.ref p) (p0 H p (.dK []))
def wy:TE:=λ_ H Q=>∀p,H p=none->Q (.ref p) (p0 H p (.dT []))
section
variable {X:Cx} {pos:Pos}
theorem xn:PE X (.Dict [] [] pos) vv:=λpins s σ H Q I h=>
 wpAny_Dict_empty ⟨.ref s.heap.objs.size,_,I.laid (a:=s.heap.objs.size) (o:= .dK []) (t':=s.toks) (λ_ _ q=>HS _ q) (HJ _) (wX s.heap I.big),rfl,h _ (I.hok.fresh (HJ _))⟩
theorem vn:PE X (.Dict [] [] pos) wy:=λpins s σ H Q I h=>
 wpAny_Dict_empty ⟨.ref s.heap.objs.size,_,I.laid (a:=s.heap.objs.size) (o:= .dT []) (t':=s.toks) (λ_ _ q=>HS _ q) (HJ _) (wN s.heap I.big),rfl,h _ (I.hok.fresh (HJ _))⟩
end
def xO:List (TE×TE)->St->Hp->(List (V×V)->Hp->Prop)->Prop
 |[],_,H,Q=>Q [] H
 |(tk,tv)::r,σ,H,Q=>tk σ H λx H1=>tv σ H1 λy H2=>xO r σ H2 λps H3=>Q ((x,y)::ps) H3
abbrev VV:List (V×V)->List (Value×Value)->Prop:=Paired λp q=>RelV p.1 q.1/\RelV p.2 q.2
def Ht (X:Cx)(pos:Pos)(keys:List (Option Expr))(values:List Expr)(Vz:List (TE×TE)):Prop:=
 ∀(pins:List (Addr×Obj)) (s:Shared) (σ:St) (H:Hp) (Q:List (V×V)->Hp->Prop),Inv X pins σ H s->xO Vz σ H Q->
  wpAny (model X.prog X.w) X.A (evalPairs (pairTrees keys values X.env pos)) (λvs s'=>∃ps H',Inv X pins σ H' s'/\VV ps vs/\Q ps H') X.xe s
structure M1 (X:Cx) (o:Expr) (m:Str) (apos:Pos) (e:Expr) (b_:Pos):Prop where
 base:attributeBase o m X.env (eval o X.env)=eval o X.env
 few:((backTo b_ (starEach [e] X.env)).all (λx=>!x.1)&&(backToKw b_ (keywordEach [] X.env)).all (λx=>x.1.isSome)
  &&decide (([e]:List Expr).length+([]:List Keyword).length+(if([]:List Keyword).isEmpty then 0 else 1)<30))=true
 line:(apos.endLine==b_.line)=true
 trees:backTo b_ (starEach [e] X.env)=[(false,eval e X.env)]
structure M2 (X:Cx) (o:Expr) (m:Str) (apos:Pos) (e f:Expr) (b_:Pos):Prop where
 base:attributeBase o m X.env (eval o X.env)=eval o X.env
 few:((backTo b_ (starEach [e,f] X.env)).all (λx=>!x.1)&&(backToKw b_ (keywordEach [] X.env)).all (λx=>x.1.isSome)
  &&decide (([e,f]:List Expr).length+([]:List Keyword).length+(if([]:List Keyword).isEmpty then 0 else 1)<30))=true
 line:(apos.endLine==b_.line)=true
 trees:backTo b_ (starEach [e,f] X.env)=[(false,eval e X.env),(false,eval f X.env)]
def Ey (H:Hp)(a:Addr):Prop:=(∃kvs,Rd H a (.dK kvs))\/∃kvs,Rd H a (.dT kvs)
theorem vB {X:Cx}{pins:List (Addr×Obj)}{σ:St}{H:Hp}{s:Shared}{a:Addr}(I:Inv X pins σ H s)(d:Ey H a):
  s.TypeIs (.ref a) "dict"/\(∀b,Value.ref a= .ref b->∃ob,s.heap.get? b=some ob/\ob.dict=none)/\(a==sysModules)=false:=by
 rcases d with⟨kvs,e⟩|⟨kvs,e⟩
 .obtain⟨_,hd,vs,_,dd⟩:=N0 I.hok e
  refine⟨dd.typeIs,λb q=>?_,hd⟩
  cases q
  obtain⟨ob,_,_,h1,h2,_⟩:=dd
  exact⟨ob,h1,h2.2.1⟩
 .obtain⟨_,hd,xs,_,dd⟩:=gw I.hok e
  refine⟨dd.typeIs,λb q=>?_,hd⟩
  cases q
  obtain⟨ob,_,_,h1,h2,_⟩:=dd
  exact⟨ob,h1,h2.2.1⟩
section
variable {X:Cx} {pins:List (Addr×Obj)} {σ:St} {H:Hp} {s:Shared} {a:Addr} {y d:V} {u r:Value} {o:Option V} {A:Around} {E:Value->Shared->Prop}
theorem CA {Q:Value->Shared->Prop}(hu:A.units+1<cLine)(I:Inv X pins σ H s)(g:DGet H a y o)(ry:RelV y u)(h:∀w' s',Inv X pins σ H s'->RelV (o.getD .non) w'->Q w' s'):
  wpAny (model X.prog X.w) A (call (.builtin "dict.get") [.ref a,u]) Q E s:=by
 rcases g with⟨kvs,k,e,ey,l⟩|⟨kvs,k,b,e,ey,eb,l⟩
 .subst ey
  obtain⟨z,hd,vs,rel,dd⟩:=N0 I.hok e
  refine Jw JH dd.typeIs Kn (Mu _ _) (meets_dict_get (l0 X.prog X.w) a (eG ry) hd) ⟨_,dd.mapOf,h _ _ (I.tok _) ?_⟩
  rw[l]
  exact(rel.val k).getD rfl
 .subst ey
  cases (show u=Value.ref b from ry)
  obtain⟨z,hd,xs,rel,dd⟩:=gw I.hok e
  refine Jw JH dd.typeIs Kn (Mu _ _) (meetsH_dict_get (tupleKind (l0 X.prog X.w)) a b hd) ⟨JJ hu,k,xs,aW I.hok eb,dd,h _ _ (I.tok _) ?_⟩
  rw[l]
  exact(rel.val k).getD rfl
theorem AJ {Q:Value->Shared->Prop}(hu:A.units+1<cLine)(I:Inv X pins σ H s)(g:DGet H a y o)(ry:RelV y u)(rd:RelV d r)(h:∀w' s',Inv X pins σ H s'->RelV (o.getD d) w'->Q w' s'):
  wpAny (model X.prog X.w) A (call (.builtin "dict.get") [.ref a,u,r]) Q E s:=by
 rcases g with⟨kvs,k,e,ey,l⟩|⟨kvs,k,b,e,ey,eb,l⟩
 .subst ey
  obtain⟨z,hd,vs,rel,dd⟩:=N0 I.hok e
  refine Jw JH dd.typeIs Kn (Mv _ _ _) (meets_dict_get_default (l0 X.prog X.w) a (eG ry) hd r) ⟨_,dd.mapOf,h _ _ (I.tok _) ?_⟩
  rw[l]
  exact(rel.val k).getD rd
 .subst ey
  cases (show u=Value.ref b from ry)
  obtain⟨z,hd,xs,rel,dd⟩:=gw I.hok e
  refine Jw JH dd.typeIs Kn (Mv _ _ _) (meetsH_dict_get_default (tupleKind (l0 X.prog X.w)) a b hd r) ⟨JJ hu,k,xs,aW I.hok eb,dd,h _ _ (I.tok _) ?_⟩
  rw[l]
  exact(rel.val k).getD rd
end
def pG (td ty:TE):TE:=λσ H Q=>td σ H λx H1=>∃a,x= .ref a/\Ey H1 a/\ty σ H1 λy H2=>∃o,DGet H2 a y o/\Q (o.getD .non) H2
def pV (td ty tx:TE):TE:=λσ H Q=>td σ H λx H1=>∃a,x= .ref a/\Ey H1 a/\ty σ H1 λy H2=>tx σ H2 λz H3=>∃o,DGet H3 a y o/\Q (o.getD z) H3
section
variable {X:Cx} {o e f:Expr} {apos b_:Pos} {td ty tx:TE}
theorem xM (hu:X.A.units+1<cLine)(ho:PE X o td)(he:PE X e ty)(m:M1 X o "get" apos e b_):PE X (.Call (.Attribute o "get" apos) [e] [] b_) (pG td ty):=by
 intro pins s σ H Q I h;refine wpAny_Call_method m.base m.few m.line Jc JH MT (E9 (ho pins s σ H _ I h) λu s1 ⟨x,H1,I1,rx,a,ex,d,q1⟩=>?_);subst ex;obtain rfl:u=Value.ref a:=rx;obtain⟨t1,t2,_⟩:=vB I1 d;refine⟨t1,t2,?_⟩;rw[m.trees];refine JB rfl (KD (Kp (E9 (he pins s1 σ H1 _ I1 q1) λiv s2 ⟨y,H2,I2,ry,ov,g,q2⟩=>Lp ?_)));exact CA hu I2 g ry λw' s3 I3 OV=>⟨_,H2,I3,OV,q2⟩
theorem ya (hu:X.A.units+1<cLine)(ho:PE X o td)(he:PE X e ty)(hf:PE X f tx)(m:M2 X o "get" apos e f b_):PE X (.Call (.Attribute o "get" apos) [e,f] [] b_) (pV td ty tx):=by
 intro pins s σ H Q I h;refine wpAny_Call_method m.base m.few m.line Jc JH MT (E9 (ho pins s σ H _ I h) λu s1 ⟨x,H1,I1,rx,a,ex,d,q1⟩=>?_);subst ex;obtain rfl:u=Value.ref a:=rx;obtain⟨t1,t2,_⟩:=vB I1 d;refine⟨t1,t2,?_⟩;rw[m.trees];refine JB rfl (KD (Kp (E9 (he pins s1 σ H1 _ I1 q1) λiv s2 ⟨y,H2,I2,ry,q2⟩=>
  Kp (E9 (hf pins s2 σ H2 _ I2 q2) λfv s3 ⟨z,H3,I3,rz,ov,g,q3⟩=>Lp ?_))))
 exact AJ hu I3 g ry rz λw' s4 I4 OV=>⟨_,H3,I4,OV,q3⟩
end
section
variable {X:Cx} {pins:List (Addr×Obj)} {σ:St} {H:Hp} {s:Shared} {a:Addr} {kvs:List (j3×V)} {A:Around} {E:Value->Shared->Prop}
theorem vm {Q:Value->Shared->Prop}(I:Inv X pins σ H s)(e:Rd H a (.dK kvs))(h:∀p s',H p=none->Inv X pins σ (p0 H p (.dK kvs)) s'->Q (.ref p) s'):wpAny (model X.prog X.w) A (call (.type "dict") [.ref a]) Q E s:=by
 obtain⟨z,hd,vs,rel,dd⟩:=N0 I.hok e;refine kt_call_dict hd dd (by rw[←rel.length];exact z) λh' dd' hs=>?_;refine h _ _ (I.hok.fresh (HJ _)) (I.laid (a:=s.heap.objs.size) (o:= .dK kvs) (t':=s.toks) (λb q hq=>?_) (HJ _) (fq z (JM.mpr (JC (Im I.big))) rel dd'));exact(hs.2 b (Im (HZ hq))).trans (HS _ hq)
end
section
variable {X:Cx} {pins:List (Addr×Obj)} {σ:St} {H:Hp} {s:Shared} {a:Addr} {y:V} {u:Value} {A:Around} {E:Value->Shared->Prop}
end
end L2
namespace Att
open PySem PySem.W PySem.Calls PyProof.Rows
theorem gH {P:Params}{h:Heap}:∀(ns:List Int) (vs:List Value),WellAll P h vs (ns.map WData.int)->IntsAre vs ns:=by
 intro ns;induction ns with
 |nil=>
  intro vs w
  rw[Mb] at w
  cases w
  exact .nil
 |cons n ns ih=>
  intro vs w
  rw[IP] at w
  cases w with
  |cons a b=>
   cases a
   exact .cons _ _ (ih _ b)
theorem uD {l:OpenLaw}{n:Nat}(hn:l.most=some n){P:Params}{h:Heap}{args:List WData}{vals:List Value}
  (Qd:l.row.toRowW.claim.pre args=true) (QQ:WellAll P h vals args):
  ∃a vs ns,vals=[Value.ref a]/\args=[WData.list (ns.map WData.int)]/\h.get? a=some {cls:= .type "list",data:= .seq vs.toArray}/\IntsAre vs ns/\ns.length<=n:=by
 have hsh:WShape.hasAll [] args [.list .int]=true:=(pre_splitW Qd).1
 have hc:l.pre.holds [] {args:=args}=true:=(pre_splitW Qd).2
 obtain⟨d,r,rfl,h1,h2⟩:=hasAllW_cons hsh
 obtain rfl:=hasAllW_nil h2
 obtain⟨xs,rfl,h3⟩:=hasW_list h1
 obtain⟨ns,rfl⟩:=items_int h3
 have hlen:ns.length<=n:=by
  unfold OpenLaw.pre at hc;have h4:(WTm.not (.lt (.lit (.int (n:Int))) (.len (.arg 0)))).holds [] {args:=[.list (ns.map .int)]}=true:=by
   have h4:=(holds_andW hc).1;rw[hn] at h4;exact h4
  have h5:=condW_of h4 (w_not (w_lt w_lit (w_len_list (w_arg rfl))));rw[HI] at h5;refine Nat.le_of_not_lt λq=>?_;have q':(n:Int)<((ns.length:Nat):Int):=by lia
  first
   |(rw[IA q'] at h5;exact absurd h5 (by decide))
   |(simp at h5;lia)
 cases QQ with
 |cons w1 w2=>
  cases w2
  cases w1 with
  |list ho p_=>exact⟨_,_,ns,rfl,rfl,ho,gH ns _ p_,hlen⟩
theorem tI (l:OpenLaw)(args:List WData):l.row.toRowW.claim.post args (.bool true) args=true:=
 postW_of (r:=l.row.toRowW) (X:=(true==true))
  (show WShape.has [] (.bool true) .bool=true by first|rfl|decide|simp [WShape.has,WShape.arms,WShape.armsAll])
  (show(WTm.eq .res (.lit (.bool true))).value [] {args:=args,res:=some (.bool true),after:=args}=some (.bool (true==true)) from w_eq_bool (w_res rfl) w_lit) rfl
theorem attach_call {l:OpenLaw}{n:Nat}{q:Program}{loose:List Str}{XP:(Str->Option Value)->Heap->Prop}{YP:World->Heap->Prop}{d:DefRec}
  (hn:l.most=some n) (SU:d.params.defaults=[])
  (call:∀(w:World) (s₀ s₁:Shared) (mg mb:Str->Option Value) (fa:Addr) (o:Obj) (pm cd doc:Value) (a:Addr) (vs:List Value) (ns:List Int),
   Ground q loose [] XP w s₀ mg mb s₁.heap->YP w s₁.heap->
   s₁.heap.get? fa=some o->o.data= .func (docDef d.name d.params d.body d.scope pm cd doc)->s₁.heap.CodeRec cd d.name->mg d.name=some (.ref fa)->
   s₁.heap.get? a=some {cls:= .type "list",data:= .seq vs.toArray}->IntsAre vs ns->ns.length<=n->s₁.gens= #[]->
   codeAny (model l.prog w) callerA (.call (.ref fa) ⟨[.ref a],[]⟩) (λr s'=>r= .ok (.ret (.bool true))/\OldK s₁.heap s'.heap/\s'.os=s₁.os/\AllBare s'.gens) s₁):
  WalkO q loose XP YP l.row.toRowW d [] (λf vs=>PySem.call f vs):=by
 intro w s₀ s₁ mg mb G Y fa o pm cd doc dV kV ho hd Ni hD hmg hg args vals as Qd hlay hrd QQ hlo
 obtain rfl:dV= .none:=Dflts.none hD SU
 obtain rfl:kV= .none:=Dflts.noKw hD
 obtain⟨a,vs,ns,rfl,rfl,Rv,hints,hlen⟩:=uD hn Qd QQ
 refine enter_call (Lv (call w s₀ s₁ mg mb fa o pm cd doc a vs ns G Y ho (fd_plain hd) Ni hmg Rv hints hlen hg) λr s' hq=>?_)
 obtain⟨rfl,h2,h3,h4⟩:=hq
 exact⟨.inl ⟨.bool true,.bool true,[],rfl,λ_=>rfl,.bool true,tI l _,λ_=>⟨List.Pairwise.nil,λ_ hm=>(nomatch hm)⟩⟩,h2,h3,h4⟩
section
variable {prog:Program} {w:World} {A:Around} {E:Value->Shared->Prop} {s:Shared} {K:Frag}
end
end Att
namespace L2
open PySem PySem.Spec PyProof.Rows
theorem kx:∀{vs:List Value} {ns:List Int},IntsAre vs ns->Vals (ns.map V.int) vs
 |_,_,.nil=> .nil
 |_,_,.cons n t h=> .cons ⟨t,rfl⟩ (kx h)
def Bk (H:Hp):Prop:=∀b,H b=none\/∃o xs,H b=some (.frz o (.lst xs))
theorem wq {P:Program}{w:World}{K:Qc}{mg mb:Str->Option Value}{CX:mR}{k:Nat}{fa a:Addr}{fd:FuncData}{x:Str}{sp:Sp}{s₁:Shared}{vs:List Value}{ns:List Int}
  (KX:K.In s₁.heap) (SV:s₁.heap.Ns mainGlobals mg) (hb:s₁.heap.Ns builtinsNs mb) (VA:∀x:Str,x≠"__name__"->mb x=bootBuiltins x) (VB:s₁.heap.NoLimit) (hg:s₁.gens= #[])
  (ha:s₁.heap.get? a=some {cls:= .type "list",data:= .seq vs.toArray}) (hi:IntsAre vs ns) (hl:ns.length<=sizeLine) (hr:Room k callerA)
  (F:∀base:Heap,K.In base->base.Ns mainGlobals mg->A1 P w K mg base CX k fa fd [x] sp) (SW:∀(s:Shared) (u:Value),BindsTo s fd ⟨[u],[]⟩ [(x,u)])
  (OL:∀H:Hp,Bk H->SqL K H a (ns.map V.int)->sp [.ref a] H (λv _=>v= .bl true) λ_ _ _=>False)
  (VC:∀H e s',CX [] H s₁ (λ_ _ _=>False) e s'->False):
  codeAny (model P w) callerA (.call (.ref fa) ⟨[.ref a],[]⟩) (λr s'=>r= .ok (.ret (.bool true))/\OldK s₁.heap s'.heap/\s'.os=s₁.os/\AllBare s'.gens) s₁:=by
 have rv:=kx hi
 have VD:=hi.length
 have core:∀H:Hp,Bk H->SqL K H a (ns.map V.int)->HOk P w H s₁.heap->(∀b,H b≠none->b=a)->(H a≠none->K.lookup a=none)->
   codeAny (model P w) callerA (.call (.ref fa) ⟨[.ref a],[]⟩) (λr s'=>r= .ok (.ret (.bool true))/\OldK s₁.heap s'.heap/\s'.os=s₁.os/\AllBare s'.gens) s₁:=by
  intro H hO hS hok hA hK
  have base_of:∀{b:Addr} {o:Obj},s₁.heap.get? b=some o->H b=none->(mJ s₁.heap H).get? b=some o:=λe n=>vQ e n
  have SN:∀{b:Addr} {o:Obj} {es:Array DictEntry} {ep:Nat},s₁.heap.get? b=some o->o.data= .dict es ep->H b=none:=fun{b o es ep} e d=>by
   cases q:H b with
   |none=>rfl
   |some u=>
    have e':b=a:=hA b (by rw[q];simp)
    subst e'
    rw[ha] at e;cases e
    have d':Data.seq vs.toArray _=Data.dict es ep:=d
    cases d'
  have UM:∀{b:Addr} {m:Str->Option Value},s₁.heap.Ns b m->(mJ s₁.heap H).Ns b m:=fun{b m} ⟨o,es,ep,e,d,r⟩=>⟨o,es,ep,base_of e (SN e d),d,r⟩
  have YQ:K.In (mJ s₁.heap H):=λb o e=>base_of (KX b o e) (by
   cases q:H b with
   |none=>rfl
   |some u=>
    have e':b=a:=hA b (by rw[q];simp)
    subst e'
    rw[hK (by rw[q];simp)] at e;cases e)
  have hM:Mod K mg (mJ s₁.heap H):=⟨YQ,UM SV,⟨mb,UM hb,VA⟩,let ⟨mc,h1,h2⟩:=VB;⟨mc,UM h1,h2⟩⟩
  have e0:zt P w K mg (mJ s₁.heap H) callerA [] s₁ H:=⟨rfl,hM,λb o e=>yO e,Nat.le_of_eq (sF _ _),trivial,λb hb=>absurd (show b∈([]:List Addr) from hb) (by simp),hok,.of_eq hg⟩
  refine Lv ((F _ YQ (UM SV)).run callerA [] s₁ H ⟨[.ref a],[]⟩ [.ref a] [.ref a] _ _ hr e0 (SW s₁ (.ref a)) (.cons rfl .nil) (OL H hO hS)) λr s' h=>?_
  cases r with
  |error e=>exact(VC H e s' h).elim
  |ok fl=>
   cases fl with
   |next=>exact False.elim h
   |brk=>exact False.elim h
   |cont=>exact False.elim h
   |ret u=>
    obtain⟨v,H',os,bare,un,VE,r',q⟩:=h
    have q':v= .bl true:=q
    subst q'
    obtain rfl:u=Value.bool true:=r'
    refine⟨rfl,OldK.of_keep λb o e=>?_,os,bare⟩
    cases q:H b with
    |none=>exact un.keep b o e q (by intro z;exact absurd (show b∈([]:List Addr) from z) (by simp)) (by simp)
    |some u=>
     rcases hO b with z|⟨ob,xs,z⟩
     .rw[q] at z;cases z
     .have z2:=un.frzs b ob _ z
      obtain⟨e1,_⟩:=hok b _ z
      obtain⟨e2,_⟩:=VE b _ z2
      rw[e] at e1;cases e1
      exact e2
 cases hk:K.lookup a with
 |some o=>
  have e:=KX a o hk
  rw[ha] at e
  cases e
  refine core (λ_=>none) (λ_=> .inl rfl) (.inr ⟨_,vs.toArray,_,hk,rfl,rfl,rfl,by rw[Ir,VD];exact hl,by simpa using rv⟩) (λb u z=>by have z':(none:Option HO)=some u:=z;cases z') (λb z=>absurd rfl z) λz=>absurd rfl z
 |none=>
  refine core (λb=>if b=a then some (.frz {cls:= .type "list",data:= .seq vs.toArray} (.lst (ns.map V.int))) else none) (λb=>?_) (.inl (.inr ⟨{cls:= .type "list",data:= .seq vs.toArray},if_pos rfl⟩)) (λb u z=>?_) (λb z=>?_) λ_=>hk
  .by_cases hb:b=a
   .exact .inr ⟨_,_,if_pos hb⟩
   .exact .inl (if_neg hb)
  .by_cases hb:b=a
   .have z':=(if_pos hb).symm.trans z
    cases z'
    subst hb
    exact⟨ha,by rw[HI];exact hl,vs,_,rv,ha⟩
   .have z':=(if_neg hb).symm.trans z
    cases z'
  .by_cases hb:b=a
   .exact hb
   .exact absurd (if_neg hb) z
theorem walk_of {l:PySem.W.OpenLaw}{n k:Nat}{q:Program}{loose:List Str}{XP:(Str->Option Value)->Heap->Prop}{YP:World->Heap->Prop}{d:DefRec}{K:Params->Qc}{CX:World->mR}{sp:World->Sp}{x:Str}
  (hn:l.most=some n) (hn2:n<=sizeLine) (SU:d.params.defaults=[]) (hr:Room k callerA)
  (hY:∀(w:World) (h:Heap),YP w h->(K w.params).In h)
  (F:∀(w:World) (mg:Str->Option Value) (fa:Addr) (h:Heap),(K w.params).In h->h.Ns mainGlobals mg->mg d.name=some (.ref fa)->
   ∃fd:FuncData,(∀(s:Shared) (u:Value),BindsTo s fd ⟨[u],[]⟩ [(x,u)])/\
    ∀base:Heap,(K w.params).In base->base.Ns mainGlobals mg->A1 l.prog w (K w.params) mg base (CX w) k fa fd [x] (sp w))
  (OL:∀(w:World) (H:Hp) (a:Addr) (ns:List Int),ns.length<=n->Bk H->SqL (K w.params) H a (ns.map V.int)->sp w [.ref a] H (λv _=>v= .bl true) λ_ _ _=>False)
  (VC:∀(w:World) (H:Hp) (s:Shared) (e:Value) (s':Shared),CX w [] H s (λ_ _ _=>False) e s'->False):
  PySem.W.WalkO q loose XP YP l.row.toRowW d [] (λf vs=>PySem.call f vs):=by
 refine Att.attach_call hn SU λw s₀ s₁ mg mb fa o pm cd doc a vs ns G Y ho hd Ni hmg Rv hints hlen hg=>?_
 have KX:=hY w _ Y
 obtain⟨fd,hb,hF⟩:=F w mg fa _ KX G.T.g hmg
 exact wq KX G.T.g G.T.b G.T.builtins G.T.nolimit hg Rv hints (Ip hlen hn2) hr hF hb (λH hO hS=>OL w H a ns hlen hO hS) λH e s'=>VC w H s₁ e s'
def M4 (s:Stmt):Arguments:=match s with
 | .FunctionDef _ a _ _ _ _ _ _ _ _=>a
 |_=>{posonlyargs:=[],args:=[],vararg:=none,kwonlyargs:=[],kw_defaults:=[],kwarg:=none,defaults:=[]}
def F5 (s:Stmt):List Stmt:=match s with
 | .FunctionDef _ _ b _ _ _ _ _ _ _=>b
 |_=>[]
def i7 (s:Stmt):Scope:=match s with
 | .FunctionDef _ _ _ _ _ _ sc _ _ _=>sc
 |_=>{kind:= .function,names:=[],isGenerator:=false,isCoroutine:=false}
abbrev B8:mR:=λ_ _ _ _ _ _=>False
abbrev E0:XK:=λ_ _ _=>False
theorem j7 {X:Cx}:cU B8 X E0:=λ_ _ _ _ _ _ _ h=>h.elim
structure Fun (K:Qc) (x qual:Str) (st:Stmt) (f:Addr) (fd:FuncData):Prop where
 ex:∃(oc:Value) (od:Option Addr) (kV doc pm:Value) (an:Option Addr) (d_ ct:Value) (My:Array (Option Value)),
  fd=PySem.W.fnOf x qual (M4 st) (F5 st) (i7 st) .none kV doc pm an d_ ct/\K.lookup f=some ⟨oc,od,.func fd,My⟩/\PySem.W.codeIn K d_ qual=true
 kp:PySem.W.keepIn K (.ref f)=true
section
variable {P:Program} {w:World} {K:Qc} {mg:Str->Option Value} {base:Heap}
theorem Fun.ok {x qual:Str}{st:Stmt}{f:Addr}{fd:FuncData}{N ps:List Str}{k:Nat}{sp:Sp}(F:Fun K x qual st f fd)(S:j5 N ps (i7 st))(len:∀vs H Q E,sp vs H Q E->vs.length=ps.length)
  (B_:∀(d_:Value) (A:Around) (outer:List Env) (s:Shared) (H:Hp) (vs:List V) (Q:VK) (E:XK),Room k (A.deeper (envOfC qual (i7 st) s.heap.objs.size f d_))->sp vs H Q E->
   ∃t,PSs (gy B8 P w K mg base N qual (i7 st) f d_ A outer s H E).nox (F5 st) t/\t {nx:=λ_ H'=>Q .non H',rt:=Q} (cH N vs) H):A1 P w K mg base B8 (k+1) f fd ps sp:=by
 obtain⟨oc,od,kV,doc,pm,an,d_,ct,My,rfl,lk,Ni⟩:=F.ex
 refine vZ lk Ni S len λA outer s H vs Q E hr OL=>?_
 obtain⟨t,h,q⟩:=B_ d_ A outer s H vs Q E hr OL
 exact⟨t,h.nox,q⟩
theorem Fun.binds {x qual:Str}{st:Stmt}{f:Addr}{fd:FuncData}{ps:List Str}(F:Fun K x qual st f fd)
  (h:∀(kV doc pm:Value) (an:Option Addr) (d_ ct:Value) (us:List Value),us.length=ps.length->bindArgs (PySem.W.fnOf x qual (M4 st) (F5 st) (i7 st) .none kV doc pm an d_ ct) ⟨us,[]⟩=pure (ps.zip us)):Binds K fd ps []:=by
 obtain⟨oc,od,kV,doc,pm,an,d_,ct,My,rfl,lk,Ni⟩:=F.ex
 exact .all (h kV doc pm an d_ ct)
theorem Ct {x qual:Str}{st:Stmt}{f:Addr}{oc:Value}{od an:Option Addr}{My:Array (Option Value)}{kV doc pm d_ ct:Value}(l:K.lookup f=some ⟨oc,od,.func (PySem.W.fnOf x qual (M4 st) (F5 st) (i7 st) .none kV doc pm an d_ ct),My⟩)
  (c:PySem.W.codeIn K d_ qual=true) (k:PySem.W.keepIn K (.ref f)=true):Fun K x qual st f (PySem.W.fnOf x qual (M4 st) (F5 st) (i7 st) .none kV doc pm an d_ ct):=⟨⟨oc,od,kV,doc,pm,an,d_,ct,My,rfl,l,c⟩,k⟩
end
theorem cg {n:Nat}(h:n<=1000):n<sizeLine:=Mc h (by decide)
section
variable {X:Cx}
end
theorem FJ {A B:Prop}(h:B):if false=true then A else B:=by
 rw[if_neg IB];exact h
theorem Ga {A B:Prop}(h:A):if true=true then A else B:=by
 rw[if_pos rfl];exact h
def Same (H H':Hp):Prop:=∀b o,H b=some o->H' b=some o
theorem Same.refl (H:Hp):Same H H:=λ_ _ h=>h
theorem Same.trans {H H1 H2:Hp}(a:Same H H1)(b:Same H1 H2):Same H H2:=λc o h=>b c o (a c o h)
theorem Same.free {H H':Hp}(e:Same H H'){l:Addr}(h:H' l=Option.none):H l=Option.none:=by
 cases q:H l with
 |none=>rfl
 |some o=>
  rw[e l o q] at h
  cases h
theorem Same.seq {K:Qc}{H H':Hp}{a:Addr}{xs:List V}(e:Same H H')(h:SqL K H a xs):SqL K H' a xs:=by
 rcases h with(h|⟨o,h⟩)|h
 .exact .inl (.inl (e _ _ h))
 .exact .inl (.inr ⟨o,e _ _ h⟩)
 .exact .inr h
section
variable {κ:Type} [DecidableEq κ]
theorem vY {kvs:List (κ×V)}{k:κ}(h:p9 kvs k=none):¬k∈kvs.map (·.1):=by
 intro m;obtain⟨p,hp,e⟩:=HP.mp m;have q:(kvs.any λkv=>decide (kv.1=k))=true:=Jq.mpr ⟨p,hp,IA e⟩;rw[I0,h] at q;exact absurd q (by simp)
theorem rQ {kvs:List (κ×V)}{k:κ}{v:V}(h:p9 kvs k=some v):k∈kvs.map (·.1):=by
 have q:(kvs.any λkv=>decide (kv.1=k))=true:=by
  rw[I0,h];all_goals rfl
 obtain⟨p,hp,e⟩:=Jq.mp q;exact HP.mpr ⟨p,hp,IY e⟩
theorem R3:∀{l:List κ} {k:κ},l.Nodup->¬k∈l->(l++[k]).Nodup
 |[],k,_,_=>by simp
 |a::r,k,h,hk=>by
  obtain⟨h1,h2⟩:=IM.mp h;show(a::(r++[k])).Nodup;refine IM.mpr ⟨λm=>?_,R3 h2 λm=>hk (Iz.mpr (Or.inr m))⟩;rcases Ic.mp m with q|q
  .exact h1 q
  .exact hk (Iz.mpr (Or.inl (Ih.mp q).symm))
theorem yz {kvs:List (κ×V)}{k:κ}(v:V)(hn:(kvs.map (·.1)).Nodup)(h:p9 kvs k=none):((D0 kvs k v).map (·.1)).Nodup:=by
 rw[E6 v h,HL];exact R3 hn (vY h)
end
end L2
set_option maxHeartbeats 4000000
namespace L2
open PySem PySem.Spec PyProof.Rows
def gG (scope:Scope)(env:Env):List (Str×Addr):=(scope.names.filter λx=>x.2== .free).reverse.map λx=>(x.1,(env.cells.lookup x.1).getD 0)
theorem bJ {env:Env}:∀(l:List (Str×NameKind)) (cs:List (Str×Addr)),(∀x∈l,x.2= .free->∃c,env.cells.lookup x.1=some c)->
  (forIn l cs fun(x:Str×NameKind) (r:List (Str×Addr))=>if(x.2==NameKind.free)=true then(do let a←cellOf env x.1;pure (ForInStep.yield ((x.1,a)::r))) else(pure (ForInStep.yield r):Sem (ForInStep (List (Str×Addr)))))=
   pure (((l.filter λx=>x.2== .free).reverse.map λx=>(x.1,(env.cells.lookup x.1).getD 0))++cs)
 |[],cs,_=>rfl
 |(n,k)::l,cs,h=>by
  rw[Lb];by_cases hk:k= .free
  .subst hk;obtain⟨c,hc⟩:=h (n,.free) Iw rfl;simp only[ME,Oa];have NB:env.cells.lookup n=some c:=hc;have e0:cellOf env n=pure c:=by unfold cellOf;rw[NB]
   simp only[e0,pure_bind];rw[bJ l _ λx hx=>h x (Ij _ hx)];rw[Km,if_pos (by rfl),List.reverse_cons,HL,IF];simp only[IP,Mb,NB,KL,MD,MU]
  .have hb:(k==NameKind.free)=false:=by simpa using hk
   simp only[hb,Lc,Nc,pure_bind];rw[bJ l cs λx hx=>h x (Ij _ hx)];rw[Km,if_neg (by simp [hb])]
theorem iW {scope:Scope}{env:Env}(h:∀x∈scope.names,x.2= .free->∃c,env.cells.lookup x.1=some c):closureFor scope env=pure (gG scope env):=by
 have e:=bJ (env:=env) scope.names [] h;rw[Jl] at e;unfold closureFor gG;simp only[];refine Eq.trans ?_ (Jm (λm=>m>>=λr=>(pure r:Sem (List (Str×Addr)))) e);rfl
theorem Q7 {env:Env}{x:Str}:∀(l:List (Str×NameKind)),(∀y∈l,∃c,env.cells.lookup y.1=some c)->(x∈l.map (·.1)->(l.map λy=>(y.1,(env.cells.lookup y.1).getD 0)).lookup x=env.cells.lookup x)/\(x∉l.map (·.1)->(l.map λy=>(y.1,(env.cells.lookup y.1).getD 0)).lookup x=none)
 |[],_=>⟨λh=>by simp at h,λ_=>rfl⟩
 |(n,k)::l,h=>by
  have ih:=Q7 (x:=x) l λy hy=>h y (Ij _ hy);obtain⟨c,hc⟩:=h (n,k) Iw;have NB:env.cells.lookup n=some c:=hc;by_cases e:x=n
  .subst e;refine⟨λ_=>?_,λz=>absurd (by simp) z⟩;simp [Ju,NB]
  .have eb:(x==n)=false:=by simpa using e
   refine⟨λhm=>?_,λhm=>?_⟩
   .simp only[IP,Ju,eb];exact ih.1 (by simpa [e] using hm)
   .simp only[IP,Ju,eb];exact ih.2 (λz=>hm (by simp [z]))
theorem T8 {scope:Scope}{env:Env}(h:∀x∈scope.names,x.2= .free->∃c,env.cells.lookup x.1=some c){x:Str}{c:Addr}(e:(gG scope env).lookup x=some c):env.cells.lookup x=some c:=by
 have hl:∀y∈(scope.names.filter λx=>x.2== .free).reverse,∃c,env.cells.lookup y.1=some c:=λy hy=>by
  obtain⟨h1,h2⟩:=Ik.mp (MF.mp hy);exact h y h1 (by simpa using h2)
 have a:=Q7 (x:=x) _ hl;by_cases hm:x∈(scope.names.filter λx=>x.2== .free).reverse.map (·.1)
 .rw[←a.1 hm];exact e
 .have z:=a.2 hm;unfold gG at e;rw[z] at e;cases e
theorem oq {scope:Scope}{env:Env}(h:∀x∈scope.names,x.2= .free->∃c,env.cells.lookup x.1=some c){x:Str}(hx:(x,NameKind.free)∈scope.names):(gG scope env).lookup x=env.cells.lookup x:=by
 have hl:∀y∈(scope.names.filter λx=>x.2== .free).reverse,∃c,env.cells.lookup y.1=some c:=λy hy=>by
  obtain⟨h1,h2⟩:=Ik.mp (MF.mp hy);exact h y h1 (by simpa using h2)
 exact(Q7 (x:=x) _ hl).1 (HP.mpr ⟨(x,.free),MF.mpr (Ik.mpr ⟨hx,rfl⟩),rfl⟩)
theorem lA {scope:Scope}{env:Env}(hc:∀y∈scope.names,y.2≠ .cell){x:Str}(h:(relabel scope env).names.lookup x=some .cell\/(relabel scope env).names.lookup x=some .free):(x,NameKind.free)∈scope.names:=by
 have key:∀(l:List (Str×NameKind)),(∀y∈l,y.2≠ .cell)->∀k,(k=NameKind.cell\/k=NameKind.free)->(l.map fun(n,k)=>if(k==NameKind.free&&env.scope.kind== .function&&env.kindOf n==some .cell) then(n,NameKind.cell) else(n,k)).lookup x=some k->(x,NameKind.free)∈l:=by
  intro l;induction l with
  |nil=>intro _ k _ e;simp at e
  |cons y r ih=>
   obtain⟨n,k0⟩:=y
   intro hl k hk e
   have YR:=ih (λy hy=>hl y (Ij _ hy)) k hk
   rw[IP] at e
   have hk0:k0≠ .cell:=hl (n,k0) Iw
   dsimp only at e
   by_cases hcnd:(k0==NameKind.free&&env.scope.kind== .function&&env.kindOf n==some .cell)=true
   .rw[if_pos hcnd] at e
    cases hx:x==n with
    |true=>
     have:x=n:=by simpa using hx
     subst this
     have:k0= .free:=by
      simp only[Io,QZ] at hcnd;exact hcnd.1.1
     subst this
     exact Iw
    |false=>
     simp only[Ju,hx] at e
     exact Ij _ (YR e)
   .rw[if_neg hcnd] at e
    cases hx:x==n with
    |true=>
     have:x=n:=by simpa using hx
     subst this
     simp only[Ju,hx] at e
     have e':k0=k:=Ie e
     subst e'
     rcases hk with z|z
     .exact absurd z hk0
     .subst z;exact Iw
    |false=>
     simp only[Ju,hx] at e
     exact Ij _ (YR e)
 rcases h with h|h
 .exact key _ hc _ (.inl rfl) h
 .exact key _ hc _ (.inr rfl) h
def cu (X:Cx)(own:List Str)(js:List Nat)(scope:Scope)(C:Addr)(s:Shared)(H:Hp)(fp:List Addr):Cx:=
 {X with N:=own++js.map (λj=>X.N.getD j Str.empty),s₀:=s,H₀:=H,env:=compEnvC scope (gG scope X.env) C X.env,outer:=X.stack,stack:=X.stack,ex:=fp,fn:=λ_=>false,pn:=[],xe:=λ_ _=>False}
def xW (own:List Str)(js:List Nat)(σ:St):St:=own.map (λ_=>none)++js.map (λj=>(σ[j]?).join)
def CU (X:Cx)(own:List Str)(js:List Nat)(scope:Scope):Bool:=
 (scope.kind== .function)&&(scope.names.all λx=>x.2 != .cell)&&(scope.names.all λx=>x.2 != .local||scope.names.lookup x.1==some .local)&&
 (scope.names.all λx=>x.2 != .free||(X.env.kindOf x.1==some .cell||X.env.kindOf x.1==some .free))&&
 (js.all λj=>decide (j<X.N.length)&&scope.names.any (λy=>y.1==X.N.getD j Str.empty&&y.2== .free))&&
 (scope.names.all λx=>x.2 != .free||scope.names.lookup x.1 !=some .local)
theorem qY {own:List Str}{js:List Nat}{σ:St}{X:Cx}{scope:Scope}{C:Addr}{s:Shared}{H:Hp}{fp:List Addr}:(xW own js σ).length=(cu X own js scope C s H fp).N.length:=by
 show(xW own js σ).length=(own++js.map (λj=>X.N.getD j Str.empty)).length;unfold xW;simp
section
variable {X:Cx} {pins:List (Addr×Obj)} {σ:St} {H:Hp} {s:Shared} {own:List Str} {js:List Nat} {scope:Scope} {fp:List Addr} {C D:Addr} {h1:Heap}
structure ScB (X:Cx) (own:List Str) (js:List Nat) (scope:Scope):Prop where
 kind:scope.kind= .function
 nocell:∀y∈scope.names,y.2≠ .cell
 names:∀x∈scope.names,x.2= .local->scope.names.lookup x.1=some .local
 free:∀x∈scope.names,x.2= .free->X.env.kindOf x.1=some .cell\/X.env.kindOf x.1=some .free
 js:∀j∈js,j<X.N.length/\(X.N.getD j Str.empty,NameKind.free)∈scope.names
 one:∀x,(x,NameKind.free)∈scope.names->scope.names.lookup x≠some .local
theorem uN (h:CU X own js scope=true):ScB X own js scope:=by
 unfold CU at h;simp only[Io,IH,MV,bne_iff_ne,QZ,Ii,Jq] at h;obtain⟨⟨⟨⟨⟨h1,h2⟩,h3⟩,h4⟩,h5⟩,h6⟩:=h;refine⟨h1,h2,λx hx e=>?_,λx hx e=>?_,λj hj=>?_,λx hx=>?_⟩
 .rcases h3 x hx with z|z
  .exact absurd e z
  .exact z
 .rcases h4 x hx with z|z
  .exact absurd e z
  .exact z
 .obtain⟨a,y,hy,e1,e2⟩:=h5 j hj;refine⟨a,?_⟩;obtain⟨n,k⟩:=y;simp only at e1 e2;rw[←e1,←e2];exact hy
 .rcases h6 _ hx with z|z
  .exact absurd rfl z
  .exact z
theorem ScB.cells (S:ScB X own js scope)(I:Inv X pins σ H s):∀x∈scope.names,x.2= .free->∃c,X.env.cells.lookup x.1=some c:=λx hx e=>I.ok.has x.1 (S.free x hx e)
theorem Inv.block (S:ScB X own js scope)(I:Inv X pins σ H s)(hf:∀b∈fp,dO X pins H b)(z_:∀b∈fp,∃o,s.heap.get? b=some o)(hC:s.heap.objs.size<=C){m:Str->Option Value}{t':Nat}(hn:h1.Ns C m)(k:∀b u,s.heap.get? b=some u->h1.get? b=some u):
  Inv (cu X own js scope C s H fp) (X.pn++pins) (xW own js σ) H {s with heap:=h1,toks:=t'}:=by
 have A_:=S.cells I
 have below:∀b o,s.heap.get? b=some o->b≠C:=λb o e=>Im (Ib (HZ e) hC)
 have stk:∀b,b≠X.env.locals->b∉X.fs->b∉Z3 X.stack:=λb h1 h2 z=>by
  rcases Iz.mp (I.stkSub b z) with e|e
  .exact h1 e
  .exact h2 e
 have noex:∀b o,X.base.get? b=some o->b∉fp:=λb o e z=>by
  rcases(hf b z).2.2.2.1 with q|q
  .exact I.ok.noex b o e q
  .exact absurd (Ib (HZ e) (Ip I.ok.bsz q)) (Jo _)
 refine⟨⟨I.ok.mod,S.kind,I.ok.glob,I.ok.blt,hC,λx y c e1 e2=>?_,λx hx=>?_,λx c z _=>(IB z).elim,I.ok.hd,I.ok.frames,.inl rfl,λb hb=>⟨?_,λx c e=>?_⟩,I.bs,Ip I.ok.bsz I.sz,noex,λb hb=>?_,I.stack,I.stkFree⟩,
  rfl,I.bare,Un.kept k,⟨m,hn,λi x v e1 e2 e3=>?_⟩,λx c e=>?_,?_,λx c e=>?_,λp hp=>?_,I.hok.kept k,qY⟩
 .exact I.ok.inj x y c (T8 A_ e1) (T8 A_ e2)
 .have hm:=lA S.nocell (x:=x) (env:=X.env) hx
  obtain⟨c,e⟩:=A_ (x,.free) hm rfl
  exact⟨c,(oq A_ hm).trans e⟩
 .obtain⟨o,e⟩:=z_ b hb;exact below b o e
 .exact(hf b hb).2.2.2.2.1 x c (T8 A_ e)
 .exact stk b (hf b hb).2.1 (hf b hb).2.2.1
 .have Rw:(own++js.map (λj=>X.N.getD j Str.empty))[i]?=some x:=e1
  unfold xW at e2
  by_cases hi:i<own.length
  .rw[Je (by simpa using hi),HK] at e2
   rw[HH hi] at e2
   simp at e2
  .rw[Jr (by simpa using hi),HK] at e2
   rw[Jr (by simpa using hi),HK] at Rw
   have el:(own.map λ_=>(none:Option V)).length=own.length:=by simp
   rw[el] at e2
   cases hj:js[i -own.length]? with
   |none=>rw[hj] at Rw;simp at Rw
   |some j=>
    rw[hj] at Rw e2
    simp only[JY,Mp] at Rw e2
    have hjm:j∈js:=HX hj
    obtain⟨j',Oj⟩:=S.js j hjm
    have hNj:X.N[j]?=some x:=by
     rw[←Rw,IG,HH j'];simp
    have hσ:σ[j]?=some (some v):=by
     cases q:σ[j]? with
     |none=>rw[q] at e2;simp at e2
     |some w=>rw[q] at e2;simp at e2;rw[e2]
    rw[Rw] at Oj
    obtain⟨m0,hn0,SX⟩:=I.loc
    have YS:X.env.kindOf x=some .cell\/X.env.kindOf x=some .free:=S.free (x,.free) Oj rfl
    obtain⟨u,r,l⟩:=SX j x v hNj hσ (by rcases YS with z|z;exact .inr (.inl z);exact .inr (.inr z))
    refine⟨u,r,?_⟩
    rcases l with⟨z,_⟩|⟨_,c,hc,NX⟩
    .rcases YS with q|q
     .rw[q] at z;cases z
     .rw[q] at z;cases z
    .have NB:(gG scope X.env).lookup x=some c:=(oq A_ Oj).trans hc
     obtain⟨oc,Rp,Rq⟩:=NX
     refine .inr ⟨?_,c,NB,⟨oc,k _ _ Rp,Rq⟩⟩
     rcases e3 with z|z|z
     .exfalso
      have hmm:(relabel scope X.env).names.lookup x=some .local:=z
      exact absurd hmm (by
       intro hh;have key:∀l:List (Str×NameKind),(∀y∈l,y.2= .local->scope.names.lookup y.1=some .local)->(l.map fun(n,k)=>if(k==NameKind.free&&X.env.scope.kind== .function&&X.env.kindOf n==some .cell) then(n,NameKind.cell) else(n,k)).lookup x=some .local->scope.names.lookup x=some .local:=by
        intro l;induction l with
        |nil=>intro _ e;simp at e
        |cons y r ih=>
         obtain⟨n,k0⟩:=y
         intro hl e
         rw[IP] at e
         dsimp only at e
         by_cases hcnd:(k0==NameKind.free&&X.env.scope.kind== .function&&X.env.kindOf n==some .cell)=true
         .rw[if_pos hcnd] at e
          cases hx:x==n with
          |true=>simp only[Ju,hx] at e;cases e
          |false=>simp only[Ju,hx] at e;exact ih (λy hy=>hl y (Ij _ hy)) e
         .rw[if_neg hcnd] at e
          cases hx:x==n with
          |true=>
           simp only[Ju,hx] at e
           have e':k0= .local:=Ie e
           have:x=n:=by simpa using hx
           subst this
           exact hl (x,k0) Iw e'
          |false=>simp only[Ju,hx] at e;exact ih (λy hy=>hl y (Ij _ hy)) e
       have a:=key scope.names S.names hh;exact S.one x Oj a)
     .exact .inl z
     .exact .inr z
 .obtain⟨v,o,ho,hd⟩:=I.cell x c (T8 A_ e)
  exact⟨v,o,k _ _ ho,hd⟩
 .exact I.hok.fresh hC
 .exact I.freeC x c (T8 A_ e)
 .obtain⟨e,n,ne,nf,d⟩:=I.pin p hp
  exact⟨k _ _ e,n,below _ _ e,stk _ ne nf,d⟩
end
theorem HOk.track {P:Program}{w:World}{H:Hp}{h h':Heap}{a C:Addr}{o:HO}(x:HOk P w H h)(hC:H C=none)(k:∀b,b≠C->h'.get? b=h.get? b)(hn:H a=none)(new:ObjOk P w (p0 H a o) h' a o):HOk P w (p0 H a o) h':=λb u e=>by
 by_cases hb:b=a
 .subst hb;rw[b9] at e;cases e;exact new
 .rw[b7 hb] at e;refine(x b u e).stay (λc v hc q=>?_) (λc q=>by rw[b7 (i8 q hn)];exact q) λc xs q=>by rw[b7 (i8 q hn)];exact q
  have hcC:c≠C:=by
   rcases hc with z|z
   .subst z;exact i8 e hC
   .exact i8 z hC
  rw[k c hcC];exact q
abbrev xR (ifs:List Expr)(env:Env):Sem Bool:=forIn ifs true λc r=>if r=true then do let ok←isTrue c env (eval c env);pure (ForInStep.yield ok) else pure (ForInStep.yield r)
def qc (X:Cx)(ifs:List Expr)(t:TT):Prop:=
 ∀(pins:List (Addr×Obj)) (s:Shared) (σ:St) (H:Hp) (Q:Bool->Hp->Prop),Inv X pins σ H s->t σ H Q->wpAny (model X.prog X.w) X.A (xR ifs X.env) (TP X pins σ Q) X.xe s
theorem GG {X:Cx}:qc X [] (λ_ H Q=>Q true H):=λpins s σ H Q I h=>wpAny_tests_nil ⟨H,I,h⟩
theorem FZ {X:Cx}{c:Expr}{t:TT}(h:PT X c t):qc X [c] t:=λpins s σ H Q I hq=>wpAny_tests_one (h pins s σ H Q I hq)
section
variable {X:Cx} {pins:List (Addr×Obj)} {σ:St} {H:Hp} {s:Shared} {own:List Str} {js:List Nat} {scope:Scope}
variable {tg iter elt:Expr} {ifs:List Expr} {pos:Pos} {g:TG} {ti:TT} {te:TE}
structure BlockEnd (X:Cx) (pins:List (Addr×Obj)) (own:List Str) (js:List Nat) (scope:Scope) (σ:St) (H:Hp) (s:Shared) (fp:List Addr) (C D:Addr) (out:List V) (H':Hp) (s':Shared):Prop where
 inv:Inv (cu X own js scope C s H fp) (X.pn++pins) (xW own js σ) H' s'
 free:H' D=none
 obj:∃(a_:List Value) (n:Nat),Vals out a_/\s'.heap.get? D=some {cls:= .type "list",data:= .seq a_.toArray n}
theorem BlockEnd.out {fp:List Addr}{C D:Addr}{out:List V}{H':Hp}{s':Shared}{h':Heap}(e:BlockEnd X pins own js scope σ H s fp C D out H' s')(I:Inv X pins σ H s)(hf:∀b∈fp,dO X pins H b)(hD:s.heap.objs.size<=D)(hC:s.heap.objs.size<=C)(Ol:D≠C)
  (hl:out.length<=sizeLine) (sb:Heap.SameBut C s'.heap h'):Inv X pins σ (p0 H' D (.lst out)) {s' with heap:=h'}:=by
 obtain⟨a_,n,rv,ob⟩:=e.obj
 have J:=e.inv
 have U:Un (Z3 X.stack) fp H H' s.heap s'.heap:=J.base
 have same:∀b,b≠C->h'.get? b=s'.heap.get? b:=λb hb=>sb.2 b hb
 have old:∀b o,s.heap.get? b=some o->b≠C/\b≠D:=λb o q=>⟨Im (Ib (HZ q) hC),Im (Ib (HZ q) hD)⟩
 have VF:H' C=none:=J.free
 refine I.call' (s':={s' with heap:=h'}) (ch:=fp) J.os ?_ ?_ J.bare λb hb=>?_
 .refine⟨λb o q n hb hx=>?_,λb o q n hb hx=>?_,λb o q n hx=>?_,λb o q hx=>?_,λb xs q=>?_,λb o u q=>?_,λb ps q=>?_⟩
  .show h'.get? b=_
   rw[same b (old b o q).1];exact U.keep b o q n hb hx
  .show ∃sl,h'.get? b=_
   rw[same b (old b o q).1];exact U.slot b o q n hb hx
  .rw[b7 (old b o q).2];exact U.free b o q n hx
  .show ∃o',h'.get? b=_
   rw[same b (old b o q).1];exact U.there b o q hx
  .rw[b7 (i8 (U.tups b xs q) e.free)];exact U.tups b xs q
  .rw[b7 (i8 (U.frzs b o u q) e.free)];exact U.frzs b o u q
  .obtain⟨mo,z⟩:=U.tbls b ps q
   exact⟨mo,by rw[b7 (i8 z e.free)];exact z⟩
 .refine HOk.track J.hok VF same e.free ?_
  exact⟨hl,a_,n,rv,by rw[same D Ol];exact ob⟩
 .exact⟨(hf b hb).2.2.2.1,(hf b hb).2.1,(hf b hb).2.2.2.2.1,(hf b hb).2.2.2.2.2⟩
theorem jN (S:ScB X own js scope)(hc:X.calm=true){fp:List Addr}{it C D:Addr}{tn:Nat->Heap->Prop}{J:It}(T:eT X.prog X.w X.K tg J fp it tn)(I:Inv X pins σ H s)(hf:∀b∈fp,dO X pins H b)
  (hD:s.heap.objs.size<=D) (hC:s.heap.objs.size<=C) (Ol:D≠C) (z_:∀b∈fp,∃o,s.heap.get? b=some o)
  (hg:PG (cu X own js scope C s H fp) tg g) (hi:qc (cu X own js scope C s H fp) ifs ti) (he:PE (cu X own js scope C s H fp) elt te)
  (W:Nat->Nat->List V->Hp->Prop) {K:List V->Hp->Prop}
  (turn:∀i m out H,W i m out H->(J.stop i H/\(H D=none->out.length<=sizeLine/\K out H))\/
   (J.go i H/\∀x H',J.yld i H x H'->g x (xW own js σ) H' λσ2 H2=>σ2.drop own.length=js.map (λj=>(σ[j]?).join)/\ti σ2 H2 λb H3=>
    if b=true then te σ2 H3 λv H4=>out.length<=sizeLine/\∃m',m'<m/\W (i+1) m' (out++[v]) H4 else ∃m',m'<m/\W (i+1) m' out H3))
  {R:Result->Shared->Prop} (hR:∀out H' s',BlockEnd X pins own js scope σ H s fp C D out H' s'->out.length<=sizeLine->K out H'->R (.ok .next) s')
  {m0:Nat} {H1:Hp} {s1:Shared} (w0:W 0 m0 [] H1) (B:BlockEnd X pins own js scope σ H s fp C D [] H1 s1) (st:tn 0 s1.heap) (fr:∀b∈fp,H1 b=none):
  codeAny (model X.prog X.w) X.A (.compLoop (.ListComp elt [⟨tg,iter,ifs,0⟩] scope pos) 0 (.ref it) (.ref D) (compEnvC scope (gG scope X.env) C X.env)) R s1:=by
 have OW:∀{H':Hp},(∀b∈fp,H' b=none)->∀b∈fp,dO (cu X own js scope C s H fp) (X.pn++pins) H' b:=λhn b hb=>by
  obtain⟨o,ho⟩:=z_ b hb;refine⟨hn b hb,Im (Ib (HZ ho) hC),?_,.inl hb,λx c e=>(hf b hb).2.2.2.2.1 x c (T8 (S.cells I) e),λp hp=>(hf b hb).2.2.2.2.2 p hp⟩;intro z;rcases Iz.mp (I.stkSub b z) with e|e
  .exact(hf b hb).2.1 e
  .exact(hf b hb).2.2.1 e
 have YT:D∉fp:=λz=>by
  obtain⟨o,ho⟩:=z_ D z;exact absurd (Ib (HZ ho) hD) (Jo _)
 have SY:∀x c,(cu X own js scope C s H fp).env.cells.lookup x=some c->c≠D:=λx c e z=>by
  obtain⟨v,o,ho,_⟩:=I.cell x c (T8 (S.cells I) e);rw[z] at ho;exact absurd (Ib (HZ ho) hD) (Jo _)
 have VG:∀p∈X.pn++pins,p.1≠D:=λp hp z=>by
  have ho:=(I.pin p hp).1;rw[z] at ho;exact absurd (Ib (HZ ho) hD) (Jo _)
 have Dfs:D∉(cu X own js scope C s H fp).fs:=λz=>by
  obtain⟨_,o,ho,_⟩:=I.stack.mem z;exact absurd (Ib (HZ ho) hD) (Jo _)
 refine codeAny_loop rfl (λn s'=>∃i out H',BlockEnd X pins own js scope σ H s fp C D out H' s'/\tn i s'.heap/\(∀b∈fp,H' b=none)/\W i n out H') (λn s3 hI=>?_) m0 ⟨0,[],H1,B,st,fr,w0⟩
 obtain⟨i,out,H3,B3,S',S_,w3⟩:=hI
 obtain⟨a_,nD,rv,YU⟩:=B3.obj
 have Ta:∀{σ':St} {H':Hp} {s':Shared},Inv (cu X own js scope C s H fp) (X.pn++pins) σ' H' s'->H' D=none->s'.heap.get? D=some {cls:= .type "list",data:= .seq a_.toArray nD}->
   Inv (cu X own js scope C s H fp) (X.pn++pins++[(D,{cls:= .type "list",data:= .seq a_.toArray nD})]) σ' H' s':=fun{σ' H' s'} I' n' e'=>I'.pins_of λp hp=>by
  rcases Ic.mp hp with z|z
  .exact I'.pin p (by show p∈([]:List (Addr×Obj))++_;exact Ia _ z)
  .have z':p=(D,{cls:= .type "list",data:= .seq a_.toArray nD}):=by simpa using z
   subst z'
   exact⟨e',n',Ol,Dfs,λv q=>by cases q⟩
 have OX:∀{H':Hp},(∀b∈fp,H' b=none)->∀b∈fp,dO (cu X own js scope C s H fp) (X.pn++pins++[(D,{cls:= .type "list",data:= .seq a_.toArray nD})]) H' b:=λhn b hb=>by
  obtain⟨a1,a2,a3,a4,a5,a6⟩:=OW hn b hb;refine⟨a1,a2,a3,a4,a5,λp hp=>?_⟩;have s_:p∈X.pn++pins++[(D,{cls:= .type "list",data:= .seq a_.toArray nD})]:=hp;rcases Ic.mp s_ with z|z
  .exact a6 p (by show p∈([]:List (Addr×Obj))++_;exact z)
  .have z':p=(D,{cls:= .type "list",data:= .seq a_.toArray nD}):=by simpa using z
   subst z';rintro rfl;exact YT hb
 have VH:∀{α:Type} {t:Sem α} {Q Q':α->Shared->Prop} {E:Value->Shared->Prop} {s:Shared},wpAny (model X.prog X.w) X.A t Q (λ_ _=>False) s->(∀a s,Q a s->Q' a s)->wpAny (model X.prog X.w) X.A t Q' E s:=
  λh hQ=>LH h hQ λ_ _ x=>x.elim
 have VI:∀{pl:List (Addr×Obj)} {σ':St} {H':Hp} {s':Shared},Inv (cu X own js scope C s H fp) (X.pn++pins++[(D,{cls:= .type "list",data:= .seq a_.toArray nD})]++pl) σ' H' s'->Inv (cu X own js scope C s H fp) (X.pn++pins) σ' H' s'/\H' D=none/\s'.heap.get? D=some {cls:= .type "list",data:= .seq a_.toArray nD}:=fun{pl σ' H' s'} I'=>by
  have q:=I'.pin (D,{cls:= .type "list",data:= .seq a_.toArray nD}) (Ia _ (HU _ (Ia _ (by simp))));exact⟨I'.unpinned.unpinned,q.2.1,q.1⟩
 show wpAny _ X.A ((compTurn (.ListComp elt [⟨tg,iter,ifs,0⟩] scope pos) 0 (.ref it) (.ref D) (compEnvC scope (gG scope X.env) C X.env)).onRaise (λx=>do noteFrame x (compEnvC scope (gG scope X.env) C X.env);theTreesLotGoes x)) _ _ s3
 refine wpAny_noted ?_
 rw[compTurn_list]
 refine HR (NK (HR ?_))
 rcases turn i n out H3 w3 with⟨stop,fin⟩|⟨go,step⟩
 .refine E9 (T.done (cu X own js scope C s H fp) rfl rfl rfl hc i _ s3 _ H3 _ (Ta B3.inv B3.free YU) (OX S_) S' stop) λr s4 ⟨hr,I4⟩=>?_
  subst hr
  obtain⟨J4,n4,o4⟩:=VI (pl:=[]) (by rw[Jl];exact I4)
  obtain⟨hl,k⟩:=fin B3.free
  exact Ig (hR out H3 s4 ⟨J4,n4,a_,nD,rv,o4⟩ hl k)
 .refine E9 (T.item (cu X own js scope C s H fp) rfl rfl rfl hc i _ s3 _ H3 _ (Ta B3.inv B3.free YU) (OX S_) S' go) λr s4 ⟨u,hr,h4⟩=>?_
  subst hr
  refine HR (E9 h4 λ_ s5 ⟨x,H5,I5,r5,y5,st5,fr5⟩=>?_)
  have VJ:=I5.pinned (OX fr5) (T.obj _ _ st5)
  refine HR (VH (hg _ s5 _ H5 x u _ VJ r5 (step x H5 y5)) λ_ s6 ⟨σ6,H6,I6,q6⟩=>?_)
  obtain⟨ed,q6⟩:=q6
  refine HR (VH (hi _ s6 σ6 H6 _ I6 q6) λok s7 ⟨H7,I7,q7⟩=>?_)
  have stay:∀{H':Hp} {s':Shared},Inv (cu X own js scope C s H fp) (X.pn++pins++[(D,{cls:= .type "list",data:= .seq a_.toArray nD})]++ja fp s5.heap) σ6 H' s'->tn (i+1) s'.heap/\∀b∈fp,H' b=none:=fun{H' s'} I'=>by
   refine⟨T.keep _ _ _ st5 λb hb o e=>(I'.pin (b,o) (Ia _ (Ia _ (Z4 hb e)))).1,λb hb=>?_⟩;obtain⟨o,e,d⟩:=T.obj _ _ st5 b hb;exact(I'.pin (b,o) (Ia _ (Ia _ (Z4 hb e)))).2.1
  have wk:∀{H':Hp} {s':Shared},Inv (cu X own js scope C s H fp) (X.pn++pins) σ6 H' s'->Inv (cu X own js scope C s H fp) (X.pn++pins) (xW own js σ) H' s':=fun{H' s'} I'=>by
   refine I'.weak (by rw[I'.len];exact qY) λk v e=>?_;unfold xW at e;by_cases hk:k<own.length
   .rw[Je (by simpa using hk),HK,HH hk] at e;simp at e
   .rw[Jr (by simpa using hk)] at e;have el:(own.map λ_=>(none:Option V)).length=own.length:=by simp
    rw[el,←ed,Kq] at e;have ek:own.length+(k -own.length)=k:=by lia
    rw[ek] at e;exact e
  cases ok with
  |false=>
   rw[if_neg IB] at q7
   obtain⟨m',hm,w7⟩:=q7
   obtain⟨J7,n7,o7⟩:=VI I7
   exact Ig ⟨rfl,m',hm,i+1,out,H7,⟨wk J7,n7,a_,nD,rv,o7⟩,(stay I7).1,(stay I7).2,w7⟩
  |true=>
   rw[if_pos rfl] at q7
   refine HR (HR (VH (he _ s7 σ6 H7 _ I7 q7) λy s8 ⟨v,H8,I8,r8,VL,m',hm,w8⟩=>?_))
   obtain⟨J8,n8,o8⟩:=VI I8
   have isl:s8.heap.IsList D a_.toArray:=⟨_,o8,rfl,nD,rfl⟩
   refine HR (wpAny_list_append_plain (hsz:=by have:=rv.length;simp;lia) ⟨nD,o8⟩ λh' s_ hs'=>?_)
   obtain⟨nn,ob'⟩:=s_
   have ob2:h'.get? D=some {cls:= .type "list",data:= .seq (a_++[y]).toArray nn}:=by
    rw[ob',List.push_toArray]
   have keep:∀b o,b≠D->s8.heap.get? b=some o->h'.get? b=some o:=λb o hb e=>(hs'.2 b hb).trans e
   have J9:Inv (cu X own js scope C s H fp) (X.pn++pins) σ6 H8 {s8 with heap:=h'}:=J8.turned (t':=s8.toks) keep n8 Ol (.inr hD) SY (λp hp=>VG p (by
    have s_:p∈([]:List (Addr×Obj))++(X.pn++pins):=hp;rw[MU] at s_;exact s_))
   refine Ig (Ig ⟨rfl,m',hm,i+1,out++[v],H8,⟨wk J9,n8,a_++[y],nn,rv.append (.cons r8 .nil),ob2⟩,?_,(stay I8).2,w8⟩)
   exact T.keep _ _ _ (stay I8).1 λb hb o e=>keep b o (by rintro rfl;exact YT hb) e
end
def GU (n:Nat)(PV:Nat->V->Prop):It:=⟨λi _=>i<n,λi H x H'=>H'=H/\PV i x,λi _=>n<=i⟩
theorem qU {M:Model}{A:Around}{E:Value->Shared->Prop}{s:Shared}{tg:Expr}{it:Addr}{u:Value}{Q:Unit->Shared->Prop}(hu:∀a,u≠ .ref a)(hQ:Q () s):wpAny M A (letOwnedTupleGo tg (.ref it) u) Q E s:=by
 unfold letOwnedTupleGo;cases tg<;>first
  |exact Ig hQ
  |(cases u<;>first
    |exact Ig hQ
    |exact absurd rfl (hu _))
theorem iw {P:Program}{w:World}{K:Qc}{tg:Expr}{it:Addr}{n:Nat}{Pv:Nat->Value->Prop}{PV:Nat->V->Prop}{St:Nat->Heap->Prop}
  (W:∀A:Around,A.handled=none->Walks P w A it [it] [it] n Pv St) (hv:∀i u,Pv i u->(∀a,u≠ .ref a)/\∃x,RelV x u/\PV i x)
  (ho:∀i h,St i h->∃o,h.get? it=some o/\∀v,o.data≠ .cell v)
  (hk:∀i h h',St i h->(∀o,h.get? it=some o->h'.get? it=some o)->St i h')
  (Tb:∀(A:Around) (i:Nat) (s:Shared) (Q:Value->Shared->Prop) (E:Value->Shared->Prop),St i s.heap->Q (.ref it) s->wpAny (model P w) A (pyIter (.ref it)) Q E s):
  eT P w K tg (GU n PV) [it] it (λi h=>St i h/\i<=n) where
 mem:=by simp
 obj:=λi h st b hb=>by
  have e:b=it:=by simpa using hb
  subst e;exact ho i h st.1
 keep:=λi h h' st k=>⟨hk i h h' st.1 λo e=>k it (by simp) o e,st.2⟩
 item:=by
  intro X hP hw hK hc i pins s σ H E I hf st hg;subst hP hw hK;obtain⟨f0,f1,f2,f3,f4,f5⟩:=hf it (by simp);refine(W X.A (I.ok.hd hc)).item i s _ _ hg st.1 λv h' tk hv' MO kk=>?_;obtain⟨C_,x,rx,px⟩:=hv i v hv';have I1:Inv X pins σ H {s with heap:=h',toks:=tk}:=I.turned (λb o hb e=>kk b o (by simpa using hb) e) f0 f1 f3 f4 f5;exact⟨v,rfl,qU C_ ⟨x,H,I1,rx,⟨rfl,px⟩,⟨MO,hg⟩,λb hb=>(hf b hb).1⟩⟩
 done:=by
  intro X hP hw hK hc i pins s σ H E I hf st hg;subst hP hw hK;obtain⟨f0,f1,f2,f3,f4,f5⟩:=hf it (by simp);have e:i=n:=Nat.le_antisymm st.2 hg;subst e;exact(W X.A (I.ok.hd hc)).done s _ _ st.1 λh' tk kk=>⟨rfl,I.turned (λb o hb e=>kk b o (by simpa using hb) e) f0 f1 f3 f4 f5⟩
 self:=λA i s Q E st h=>Tb A i s Q E st.1 h
def yy (c:Nat):V:= .str ⟨#[c]⟩
def Ao (x:Str)(i:Nat)(v:V):Prop:=∃c,x.cps[i]?=some c/\v=yy c
def Its (x:Str):It:=GU x.cps.size (Ao x)
theorem uO {x:Str}{i:Nat}{u:Value}(h:SignAt x i u):(∀a,u≠ .ref a)/\∃v,RelV v u/\Ao x i v:=by
 obtain⟨c,t,hc,rfl⟩:=h;exact⟨λa z=>(by cases z),yy c,⟨t,rfl⟩,c,hc,rfl⟩
theorem uu {P:Program}{w:World}{K:Qc}{tg:Expr}(it:Addr)(x:Str)(t:Tok):eT P w K tg (Its x) [it] it (λi h=>h.IsStrIter it "str_ascii_iterator" x t i/\i<=x.cps.size):=
 iw (λA hh=>Walks.strAscii hh it x t) (λi u h=>uO h)
  (λi h st=>by obtain⟨o,e,c,d⟩:=st;exact⟨o,e,λv z=>by rw[d] at z;cases z⟩)
  (λi h h' st k=>let ⟨o,e,r⟩:=st;⟨o,k o e,r⟩)
  (λA i s Q E st h=>wpAny_pyIter_striter_ascii st h)
theorem tR {P:Program}{w:World}{K:Qc}{tg:Expr}(it:Addr)(x:Str)(t:Tok):eT P w K tg (Its x) [it] it (λi h=>h.IsStrIter it "str_iterator" x t i/\i<=x.cps.size):=
 iw (λA hh=>Walks.strWide hh it x t) (λi u h=>uO h)
  (λi h st=>by obtain⟨o,e,c,d⟩:=st;exact⟨o,e,λv z=>by rw[d] at z;cases z⟩)
  (λi h h' st k=>let ⟨o,e,r⟩:=st;⟨o,k o e,r⟩)
  (λA i s Q E st h=>wpAny_pyIter_striter_wide st h)
section
variable {X:Cx} {tg:Expr}
def rIter (K:Qc)(v:V)(H:Hp)(R:It->Hp->Prop):Prop:=
 (∃a,v= .ref a/\(∃xs,SqL K H a xs)/\R (Itl K a) H)\/(∃a,v= .ref a/\(∃xs,SqT K H a xs)/\R (GY K a) H)\/(∃x,v= .str x/\R (Its x) H)
theorem wu {pins:List (Addr×Obj)}{σ:St}{H1:Hp}{s1:Shared}{x:V}{v:Value}{R:It->Hp->Prop}(I1:Inv X pins σ H1 s1)(r1:RelV x v)(q1:rIter X.K x H1 R):
  wpAny (model X.prog X.w) X.A (pyIter v) (FE X pins σ tg R) X.xe s1:=by
 have UN:∀b∈[s1.heap.objs.size],dO X pins H1 b:=λb hb=>by
  have e:b=s1.heap.objs.size:=by simpa using hb
  subst e;exact I1.fpOk (HJ _) (I1.hok.fresh (HJ _))
 rcases q1 with⟨a,e,⟨xs,hq⟩,q⟩|⟨a,e,⟨xs,hq⟩,q⟩|⟨z,e,q⟩
 .subst e
  cases r1
  obtain⟨a_,rv,p,hz⟩:=I1.list hq
  refine KC p.isList ?_
  exact⟨s1.heap.objs.size,[s1.heap.objs.size],_,_,H1,rfl,I1.kept (t':=s1.toks) λb o e=>HS _ e,uk a _,⟨_,Iq _ rfl,rfl,rfl⟩,UN,q⟩
 .subst e
  cases r1
  obtain⟨a_,rv,p,hz⟩:=I1.tuple hq
  refine wpAny_pyIter_tuple (show s1.heap.IsTuple a a_.toArray from p) ?_
  exact⟨s1.heap.objs.size,[s1.heap.objs.size],_,_,H1,rfl,I1.kept (t':=s1.toks) λb o e=>HS _ e,qk a _,⟨_,Iq _ rfl,rfl,rfl⟩,UN,q⟩
 .subst e
  obtain⟨t,rfl⟩:=r1
  cases ha:z.cps.all (·<128) with
  |false=>exact wpAny_pyIter_wide ha ⟨s1.heap.objs.size,[s1.heap.objs.size],_,_,H1,rfl,I1.kept (t':=s1.toks) λb o e=>HS _ e,tR _ z t,⟨⟨_,Iq _ rfl,rfl,rfl⟩,Jv _⟩,UN,q⟩
  |true=>exact wpAny_pyIter_ascii ha ⟨s1.heap.objs.size,[s1.heap.objs.size],_,_,H1,rfl,I1.kept (t':=s1.toks) λb o e=>HS _ e,uu _ z t,⟨⟨_,Iq _ rfl,rfl,rfl⟩,Jv _⟩,UN,q⟩
end
section
variable {X:Cx}
theorem mf:∀{bs:List Bool} {us:List Value},Vals (bs.map V.bl) us->us=bs.map Value.bool
 |[],_,.nil=>rfl
 |b::bs,_,.cons r t=>by
  have e:_=Value.bool b:=r;rw[e,mf t];rfl
theorem qj (bs:List Bool):((List.range bs.length).all λi=>(bs[i]?).getD true)=bs.all id:=by
 rw[II,IH,IH];constructor
 .intro h b hb;obtain⟨i,hi,rfl⟩:=NC hb;have:=h i (KG.mpr hi);simpa [HH hi] using this
 .intro h i hi;have Sj:=KG.mp hi;simpa [HH Sj] using h _ (ID Sj)
theorem pv (bs:List Bool):((List.range bs.length).any λi=>(bs[i]?).getD true)=bs.any id:=by
 rw[II,Jq,Jq];constructor
 .rintro⟨i,hi,e⟩;have Sj:=KG.mp hi;simp only[HH Sj,KL] at e;exact⟨_,ID Sj,e⟩
 .rintro⟨b,hb,e⟩;obtain⟨i,hi,rfl⟩:=NC hb;exact⟨i,KG.mpr hi,by simp only[HH hi,KL];exact e⟩
theorem rH {s:Shared}{h':Heap}{o:Obj}(hk:∀b x,b∉[s.heap.objs.size]->(s.heap.push o).get? b=some x->h'.get? b=some x):∀b x,s.heap.get? b=some x->h'.get? b=some x:=
 λb x e=>hk b x (λhm=>by rw[Ih.mp hm] at e;exact Jo _ (HZ e)) (HS _ e)
def uh (K:Qc):List V->Hp->VK->Prop:=λxs H Q=>∃(p:Addr) (bs:List Bool),xs=[.ref p]/\SqL K H p (bs.map V.bl)/\Q (.bl (bs.all id)) H
def Fo (K:Qc):List V->Hp->VK->Prop:=λxs H Q=>∃(p:Addr) (bs:List Bool),xs=[.ref p]/\SqL K H p (bs.map V.bl)/\Q (.bl (bs.any id)) H
theorem uj (hc:X.calm=true):CallR X (.builtin "all") (uh X.K):=by
 intro pins s σ H xs us Q I r h;obtain⟨l,bs,rfl,hx,q⟩:=h;obtain⟨u,rfl,ru⟩:=K1 r;cases ru;obtain⟨a_,rv,ht,hz⟩:=I.list hx;have e:=mf rv;subst e;have hl:=ht.isList;have j':l<s.heap.objs.size:=ht.lt;refine call_all_walk (KC hl ?_);refine⟨s.heap.objs.size,[s.heap.objs.size,l],[s.heap.objs.size],(bs.map Value.bool).toArray.size,_,_,λi=>(bs[i]?).getD true,rfl,Walks.list (A:=X.A.in1) (I.ok.hd hc) _ l (Im j') (bs.map Value.bool).toArray,
  ⟨⟨_,Iq _ rfl,rfl,rfl⟩,hl.push _⟩,λi v s' Q' E' hP hQ=>?_,λh' tk hk=>?_⟩
 .have OY:(bs.map Value.bool)[i]?=some v:=by simpa using hP
  rw[HK] at OY;cases e:bs[i]? with
  |none=>rw[e] at OY;cases OY
  |some b=>
   rw[e] at OY
   cases OY
   simp only[e,KL] at hQ
   exact JD hQ
 .have e:((List.range (bs.map Value.bool).toArray.size).all λi=>(bs[i]?).getD true)=bs.all id:=by
   rw[Ir,HI];exact qj bs
  rw[e];exact⟨.bl (bs.all id),H,I.kept (rH hk),rfl,q⟩
theorem uz (hc:X.calm=true):CallR X (.builtin "any") (Fo X.K):=by
 intro pins s σ H xs us Q I r h;obtain⟨l,bs,rfl,hx,q⟩:=h;obtain⟨u,rfl,ru⟩:=K1 r;cases ru;obtain⟨a_,rv,ht,hz⟩:=I.list hx;have e:=mf rv;subst e;have hl:=ht.isList;have j':l<s.heap.objs.size:=ht.lt;refine call_any_walk (KC hl ?_);refine⟨s.heap.objs.size,[s.heap.objs.size,l],[s.heap.objs.size],(bs.map Value.bool).toArray.size,_,_,λi=>(bs[i]?).getD true,rfl,Walks.list (A:=X.A.in1) (I.ok.hd hc) _ l (Im j') (bs.map Value.bool).toArray,
  ⟨⟨_,Iq _ rfl,rfl,rfl⟩,hl.push _⟩,λi v s' Q' E' hP hQ=>?_,λh' tk hk=>?_⟩
 .have OY:(bs.map Value.bool)[i]?=some v:=by simpa using hP
  rw[HK] at OY;cases e:bs[i]? with
  |none=>rw[e] at OY;cases OY
  |some b=>
   rw[e] at OY
   cases OY
   simp only[e,KL] at hQ
   exact JD hQ
 .have e:((List.range (bs.map Value.bool).toArray.size).any λi=>(bs[i]?).getD true)=bs.any id:=by
   rw[Ir,HI];exact pv bs
  rw[e];exact⟨.bl (bs.any id),H,I.kept (rH hk),rfl,q⟩
def EO:V->Option Int->Option Int->Hp->VK->Prop:=λx lo hi H Q=>∃z,x= .str z/\z.length<=sizeLine/\Q (.str (Txt.slice z lo hi)) H
theorem Bi:SlR X EO:=by
 intro pins s σ H x v vl vu lo hi sl Q I rx hs pl pu h;obtain⟨z,rfl,hz,q⟩:=h;obtain⟨t,rfl⟩:=rx;refine⟨"str",_,F.slot_str_getitem.lookup,Nd _ _ _,?_⟩;have fin:∀t' k,EP X pins σ Q (.str (Txt.slice z lo hi) t') {s with toks:=k}:=λt' k=>⟨.str _,H,I.tok _,⟨t',rfl⟩,q⟩
 cases pl with
 |none=>
  cases pu with
  |none=>exact Ki (l:=none) (u:=none) (st:=none) hs rfl (LL ⟨Ip (MW z _ _) hz,fin⟩)
  |int j tj=>exact Ki (l:=none) (u:=some (j,tj)) (st:=none) hs rfl (LL ⟨Ip (MW z _ _) hz,fin⟩)
 |int i ti=>
  cases pu with
  |none=>exact Ki (l:=some (i,ti)) (u:=none) (st:=none) hs rfl (LL ⟨Ip (MW z _ _) hz,fin⟩)
  |int j tj=>exact Ki (l:=some (i,ti)) (u:=some (j,tj)) (st:=none) hs rfl (LL ⟨Ip (MW z _ _) hz,fin⟩)
def Fv (K:Qc):V->Option Int->Option Int->Hp->VK->Prop:=λx lo hi H Q=>Ej K x lo hi H Q\/Fn K x lo hi H Q\/EO x lo hi H Q
theorem BM:SlR X (Fv X.K):=sl_list.or (sl_tup.or Bi)
theorem RelV.plainB {x:V}{v:Value}(r:RelV x v)(b:Bool):plainIs v (.bool b)=true/\(v==Value.bool b)=decide (x= .bl b):=by
 cases x with
 |non=>cases r;exact⟨rfl,rfl⟩
 |bl c=>cases r;exact⟨rfl,by cases b<;>cases c<;>rfl⟩
 |int _=>obtain⟨t,rfl⟩:=r;exact⟨rfl,rfl⟩
 |str _=>obtain⟨t,rfl⟩:=r;exact⟨rfl,rfl⟩
 |byt _=>obtain⟨t,rfl⟩:=r;exact⟨rfl,rfl⟩
 |flt _=>obtain⟨t,rfl⟩:=r;exact⟨rfl,rfl⟩
 |ref _=>cases r;exact⟨rfl,rfl⟩
 |ty _=>cases r;exact⟨rfl,rfl⟩
def GH (neg:Bool):R2:=λx y H Q=>(y= .non\/∃b,y= .bl b)/\Q (.bl (if neg then !decide (x=y) else decide (x=y))) H
theorem EH:OpR X (compareOp .Is) (GH false):=by
 intro pins s σ H x y v u Q I rx ry h;obtain⟨hy,q⟩:=h;rcases hy with rfl|⟨b,rfl⟩
 .cases ry;exact is_none_gen ⟨.bl _,H,I,by rw[rx.none_iff];rfl,q⟩
 .cases ry;exact wpAny_is_plain (rx.plainB b).1 ⟨.bl _,H,I,by rw[(rx.plainB b).2];rfl,q⟩
theorem jg:OpR X (compareOp .IsNot) (GH true):=by
 intro pins s σ H x y v u Q I rx ry h;obtain⟨hy,q⟩:=h;rcases hy with rfl|⟨b,rfl⟩
 .cases ry;exact isnot_none_gen ⟨.bl _,H,I,by rw[rx.none_iff];rfl,q⟩
 .cases ry;exact wpAny_isNot_plain (rx.plainB b).1 ⟨.bl _,H,I,by rw[(rx.plainB b).2];rfl,q⟩
def TyB (K:Qc)(H:Hp):V->String->Prop
 | .non,t=>t="NoneType"
 | .bl _,t=>t="bool"
 | .int _,t=>t="int"
 | .str _,t=>t="str"
 | .ref a,t=>(t="list"/\∃xs,SqL K H a xs)\/(t="tuple"/\∃xs,SqT K H a xs)\/(t="dict"/\∃kvs,Rd H a (.dK kvs))
 |_,_=>False
def ef (t T:String):Bool:=t==T||(t=="bool"&&T=="int")
def yG (K:Qc):List V->Hp->VK->Prop:=λxs H Q=>∃x T t,xs=[x,.ty T]/\TyB K H x t/\(T="str"\/T="int"\/T="bool"\/T="list"\/T="tuple"\/T="dict")/\Q (.bl (ef t T)) H
theorem V4 {K:Qc}{t T:String}(ht:t="NoneType"\/t="bool"\/t="int"\/t="str"\/t="list"\/t="tuple"\/t="dict")(hT:T="str"\/T="int"\/T="bool"\/T="list"\/T="tuple"\/T="dict"):
  PySem.W.kitOne K (.type t) (.type T)=some (ef t T):=by
 rcases ht with rfl|rfl|rfl|rfl|rfl|rfl|rfl<;>rcases hT with rfl|rfl|rfl|rfl|rfl|rfl<;>rfl
theorem call_isi:CallR X (.builtin "isinstance") (yG X.K):=by
 intro pins s σ H xs us Q I r h;obtain⟨x,T,t,rfl,ty,hT,q⟩:=h;obtain⟨u,c,rfl,rx,rc⟩:=V7 r;cases rc;have fin:∀tk,EP X pins σ Q (.bool (ef t T)) {s with toks:=tk}:=λtk=>⟨.bl _,H,I.tok tk,rfl,q⟩
 cases x with
 |non=>cases ty;cases (show u=Value.none from rx);exact JN PySem.W.kitx_none I.kIn True.intro (V4 (by simp) hT) (λz=>nomatch z) fin
 |bl y=>cases ty;cases (show u=Value.bool y from rx);exact JN PySem.W.kitx_bool I.kIn True.intro (V4 (by simp) hT) (λz=>nomatch z) fin
 |int i=>cases ty;obtain⟨t,q⟩:=(show ∃t,u=Value.int i t from rx);cases q;exact JN PySem.W.kitx_int I.kIn True.intro (V4 (by simp) hT) (λz=>nomatch z) fin
 |str y=>cases ty;obtain⟨t,q⟩:=(show ∃t,u=Value.str y t from rx);cases q;exact JN PySem.W.kitx_str I.kIn True.intro (V4 (by simp) hT) (λz=>nomatch z) fin
 |byt _=>exact False.elim ty
 |flt _=>exact False.elim ty
 |ty _=>exact False.elim ty
 |ref a=>
  cases (show u=Value.ref a from rx)
  rcases ty with⟨rfl,ys,hy⟩|⟨rfl,ys,hy⟩|⟨rfl,kvs,hy⟩
  .obtain⟨a_,_,⟨o,n,e,c,_,_⟩,_⟩:=I.list hy
   exact JN PySem.W.kitx_list I.kIn ⟨o,e,c⟩ (V4 (by simp) hT) (λz=>nomatch z) fin
  .obtain⟨a_,_,⟨o,e,c,_⟩,_⟩:=I.tuple hy
   exact JN PySem.W.kitx_tuple I.kIn ⟨o,e,c⟩ (V4 (by simp) hT) (λz=>nomatch z) fin
  .obtain⟨_,_,vs,_,o,es,ep,h1,h2,_⟩:=N0 I.hok hy
   exact JN Oe I.kIn ⟨o,h1,h2.1⟩ (V4 (by simp) hT) (λz=>nomatch z) fin
end
section
variable {X:Cx}
def kn (K:Qc):R2:=λx y H Q=>yf (λi j=> .int (i+j)) x y H Q\/(∃i j,x= .str i/\y= .str j/\i.length+j.length<=sizeLine/\Q (.str (i++j)) H)\/DF x y H Q\/Ah K x y H Q
theorem yv:OpR X (binaryOp .Add) (kn X.K):=op_add.or (op_add_str.or (op_cat.or zd))
theorem op_in_sgn:OpR X (compareOp .In) (λx y H Q=>∃c j,x=yy c/\y= .str j/\Q (.bl (decide (c∈j.cps.toList))) H):=by
 intro pins s σ H x y v u Q I rx ry h;obtain⟨c,j,rfl,rfl,q⟩:=h;refine sL pins s σ H _ _ v u Q I rx ry ⟨⟨#[c]⟩,j,rfl,rfl,?_⟩;rw[StrLaws.found_one];exact q
theorem op_notIn_sgn:OpR X (compareOp .NotIn) (λx y H Q=>∃c j,x=yy c/\y= .str j/\Q (.bl (!decide (c∈j.cps.toList))) H):=by
 intro pins s σ H x y v u Q I rx ry h;obtain⟨c,j,rfl,rfl,q⟩:=h;refine lI pins s σ H _ _ v u Q I rx ry ⟨⟨#[c]⟩,j,rfl,rfl,?_⟩;rw[StrLaws.found_one];exact q
theorem pj (hu:X.A.units+1<cLine):OpR X (compareOp .In) (λy x H Q=>∃a o,x= .ref a/\DGet H a y o/\Q (.bl o.isSome) H):=by
 intro pins s σ H y x v u Q I ry rx h;obtain⟨a,o,rfl,g,q⟩:=h;cases rx;exact GF hu I g ry λs' I'=>⟨.bl _,H,I',rfl,q⟩
theorem jC (hu:X.A.units+1<cLine):OpR X (compareOp .NotIn) (λy x H Q=>∃a o,x= .ref a/\DGet H a y o/\Q (.bl (!o.isSome)) H):=by
 intro pins s σ H y x v u Q I ry rx h;obtain⟨a,o,rfl,g,q⟩:=h;cases rx;exact zu hu I g ry λs' I'=>⟨.bl _,H,I',rfl,q⟩
def tm (K:Qc):R2:=λx y H Q=>(∃c j,x=yy c/\y= .str j/\Q (.bl (decide (c∈j.cps.toList))) H)\/Fy K false x y H Q\/(∃a o,y= .ref a/\DGet H a x o/\Q (.bl o.isSome) H)
def gW (K:Qc):R2:=λx y H Q=>(∃c j,x=yy c/\y= .str j/\Q (.bl (!decide (c∈j.cps.toList))) H)\/Fy K true x y H Q\/(∃a o,y= .ref a/\DGet H a x o/\Q (.bl (!o.isSome)) H)
theorem AM (hu:X.A.units+1<cLine):OpR X (compareOp .In) (tm X.K):=op_in_sgn.or (op_in_seq.or (pj hu))
theorem uv (hu:X.A.units+1<cLine):OpR X (compareOp .NotIn) (gW X.K):=op_notIn_sgn.or (op_notIn_seq.or (jC hu))
def Ec:R2:=λx y H Q=>yf (λi j=> .bl (decide (i<j))) x y H Q\/(∃i j,x= .str i/\y= .str j/\Q (.bl (decide (i.cps.toList<j.cps.toList))) H)
theorem de:OpR X (compareOp .Lt) Ec:=op_lt.or sJ
theorem zK (hu:X.A.units+1<cLine):IxR X (λx y H Q=>∃a v,x= .ref a/\DGet H a y (some v)/\Q v H):=by
 intro value slice pins s σ H x y v u Q I rx ry h hs;obtain⟨a,z,rfl,g,q⟩:=h;cases rx;exact tail_any (nO I g) PySem.F.slot_dict_getitem.lookup (uA hu I g ry λw2 s' I' r'=>⟨z,H,I',r',q⟩) hs
def nu (K:Qc):R2:=λx y H Q=>GW K x y H Q\/(∃a v,x= .ref a/\DGet H a y (some v)/\Q v H)
theorem BW (hu:X.A.units+1<cLine):IxR X (nu X.K):=ix_seq.or (zK hu)
def uC (K:Qc):List V->Hp->VK->Prop:=λxs H Q=>(∃x n,xs=[x]/\DH K x H n/\Q (.int n) H)\/(∃a kvs,xs=[V.ref a]/\Rd H a (.dK kvs)/\Q (.int kvs.length) H)
theorem call_lenX:CallR X (.builtin "len") (uC X.K):=by
 refine call_len.or ?_;intro pins s σ H xs us Q I r h;obtain⟨a,kvs,rfl,ha,q⟩:=h;obtain⟨u,rfl,ru⟩:=K1 r;cases ru;exact DG I ha λt s' I'=>⟨.int kvs.length,H,I',⟨t,rfl⟩,q⟩
end
def K3 (P:Program)(w:World)(K:Qc)(mg:Str->Option Value)(base:Heap)(CX:mR)(k:Nat)(x:Str)(ps:List Str)(n_:List V)(sp:Sp):Prop:=
 ∃f fd ds,A1 P w K mg base CX k f fd ps sp/\mg x=some (.ref f)/\PySem.W.keepIn K (.ref f)=true/\Binds K fd ps ds/\Vals n_ ds
section
variable {X:Cx} {CX:mR} {k:Nat} {x:Str} {ps:List Str} {n_:List V} {sp:Sp} {E:XK} {e:Expr} {es:List Expr} {t:TA} {p pos:Pos}
theorem xl (C:K3 X.prog X.w X.K X.mg X.base CX k x ps n_ sp)(hr:Room k X.A)(hx:cU CX X E)(ha:PA X (e::es) t)(hg:Gl X x:=by rfl)
  (r_:(x==("__debug__":Str))=false:=by decide) (he:starEach (e::es) X.env=(false,eval e X.env)::starEach es X.env:=by rfl) (Nl:(backTo pos (starEach es X.env)).any (·.1)=false:=by rfl):
  PE X (.Call (.Name x p) (e::es) [] pos) (nv sp n_ E t):=by
 obtain⟨f,fd,ds,F,hm,hk,hb,hd⟩:=C
 exact yr F hr hg hm hk hb hd hx ha r_ he Nl
def Ff (mg:Str->Option Value)(x:Str)(v:V):Prop:=∃u,mg x=some u/\RelV v u
theorem BP {v:V}(h:Ff X.mg x v)(hg:Gl X x:=by rfl)(hd:(x==("__debug__":Str))=false:=by decide):PE X (.Name x pos) (tC v):=by
 obtain⟨u,hm,r⟩:=h;exact yx hg hm r hd
theorem u6 {k:Nat}{A:Around}(r:Room k A):A.units+1<cLine:=by have:=r.un;lia
end
section
variable {K:Qc} {σ:St} {H:Hp} {Q:VK} {D:nZ} {nx bk ct:St->Hp->Prop} {rt:VK}
theorem DX {i:Nat}{v:V}(h:σ[i]?=some (some v))(q:Q v H):yi i σ H Q:=⟨v,h,q⟩
theorem Hq {v:V}(q:Q v H):tC v σ H Q:=q
theorem GK {r:R2}{ta tb:TE}(q:ta σ H λx H1=>tb σ H1 λy H2=>r x y H2 Q):zr r ta tb σ H Q:=q
theorem BU {t:TE}{Qb:Bool->Hp->Prop}(q:t σ H λx H'=>∃k,x= .bl k/\Qb k H'):wY t σ H Qb:=q
theorem GN {b:Bool}{Qb:Bool->Prop}(q:Qb b):∃k,V.bl b= .bl k/\Qb k:=⟨b,rfl,q⟩
theorem ED {b:Bool}{Qb:Bool->Prop}(q:Qb b):∃k,xj K (V.bl b) H k/\Qb k:=⟨b,rfl,q⟩
theorem Eu {t:TT}{Qb:Bool->Hp->Prop}(q:t σ H λc H1=>Qb (!c) H1):CK t σ H Qb:=q
theorem Eh {t u:TT}{Qb:Bool->Hp->Prop}(q:t σ H λc H1=>if c=true then u σ H1 Qb else Qb false H1):Bm t u σ H Qb:=q
theorem Gw {t u:TT}{Qb:Bool->Hp->Prop}(q:t σ H λc H1=>if c=true then Qb true H1 else u σ H1 Qb):Gj t u σ H Qb:=q
theorem Bx {ta tb:TE}(q:ta σ H λx H1=>∃c,x= .bl c/\if c=true then tb σ H1 Q else Q (.bl false) H1):vE ta tb σ H Q:=q
theorem Dr {ta tb:TE}(q:ta σ H λx H1=>∃c,x= .bl c/\if c=true then Q (.bl true) H1 else tb σ H1 Q):Ca ta tb σ H Q:=q
theorem Cg {ta:TE}(q:ta σ H λx H1=>∃c,x= .bl c/\Q (.bl (!c)) H1):vd ta σ H Q:=q
theorem Gb {t:TT}{ta tb:TE}(q:t σ H λc H1=>if c=true then ta σ H1 Q else tb σ H1 Q):GI t ta tb σ H Q:=q
theorem DA {Qa:List V->Hp->Prop}(q:Qa [] H):sQ σ H Qa:=q
theorem Bc {ta:TE}{tr:TA}{Qa:List V->Hp->Prop}(q:ta σ H λx H1=>tr σ H1 λxs H2=>Qa (x::xs) H2):qD ta tr σ H Qa:=q
theorem Ck {sp:Sp}{n_:List V}{E:XK}{t:TA}(q:t σ H λvs H1=>sp (vs++n_) H1 Q E):nv sp n_ E t σ H Q:=q
theorem FY {r:List V->Hp->VK->Prop}{t:TA}(q:t σ H λvs H1=>r vs H1 Q):Av r t σ H Q:=q
theorem Gk {r:V->Option Int->Option Int->Hp->VK->Prop}{te:TE}{tl th:TO}(q:te σ H λx H1=>tl σ H1 λl H2=>th σ H2 λu H3=>r x l u H3 Q):FN r te tl th σ H Q:=q
theorem uX {Qo:Option Int->Hp->Prop}(q:Qo none H):mH σ H Qo:=q
theorem AE {t:TE}{Qo:Option Int->Hp->Prop}(q:t σ H λx H1=>∃i,x= .int i/\Qo (some i) H1):xm t σ H Qo:=q
theorem DW {i:Int}{Qo:Int->Prop}(q:Qo i):∃j,V.int i= .int j/\Qo j:=⟨i,rfl,q⟩
theorem sS {i j:Int}(q:Q (.int (i+j)) H):kn K (.int i) (.int j) H Q:= .inl ⟨i,j,rfl,rfl,q⟩
theorem N3 {i j:Str}(h:i.length+j.length<=sizeLine)(q:Q (.str (i++j)) H):kn K (.str i) (.str j) H Q:= .inr (.inl ⟨i,j,rfl,rfl,h,q⟩)
theorem Gi {g:Int->Int->V}{i j:Int}(q:Q (g i j) H):yf g (.int i) (.int j) H Q:=⟨i,j,rfl,rfl,q⟩
theorem GX {C:Int->Int->Prop}{g:Int->Int->V}{i j:Int}(h:C i j)(q:Q (g i j) H):rI C g (.int i) (.int j) H Q:=⟨i,j,rfl,rfl,h,q⟩
theorem xB {i j:Int}(q:Q (.bl (decide (i<j))) H):Ec (.int i) (.int j) H Q:= .inl ⟨i,j,rfl,rfl,q⟩
theorem nP {i j:Int}(q:Q (.bl (decide (i=j))) H):FI (.int i) (.int j) H Q:=⟨rfl,by rw[gR];rw[show(i==j)=decide (i=j) from Lw i j];exact q⟩
theorem ox {i j:Str}(q:Q (.bl (decide (i=j))) H):FI (.str i) (.str j) H Q:=⟨rfl,by rw[kT];rw[show(i==j)=decide (i=j) from Lw i j];exact q⟩
theorem wH {c:Nat}{j:Str}(q:Q (.bl (decide (c∈j.cps.toList))) H):tm K (yy c) (.str j) H Q:= .inl ⟨c,j,rfl,rfl,q⟩
theorem fQ {y:Str}(h:y.length<=sizeLine)(q:Q (.int y.length) H):uC K [.str y] H Q:= .inl ⟨.str y,y.length,rfl,⟨h,rfl⟩,q⟩
theorem x5 {p:Addr}{xs:List V}(h:SqL K H p xs)(q:Q (.int xs.length) H):uC K [.ref p] H Q:= .inl ⟨.ref p,xs.length,rfl,.inl ⟨xs,h,rfl⟩,q⟩
theorem G4 {p:Addr}{kvs:List (j3×V)}(h:Rd H p (.dK kvs))(q:Q (.int kvs.length) H):uC K [.ref p] H Q:= .inr ⟨p,kvs,rfl,h,q⟩
theorem i6 {p:Addr}{xs:List V}{i:Int}{v:V}(h:SqL K H p xs)(e:jB xs i=some v)(q:Q v H):nu K (.ref p) (.int i) H Q:= .inl (.inl ⟨p,xs,i,v,rfl,rfl,h,e,q⟩)
theorem b5 {p:Addr}{xs:List V}{i:Int}{v:V}(h:SqT K H p xs)(e:jB xs i=some v)(q:Q v H):nu K (.ref p) (.int i) H Q:= .inl (.inr (.inl ⟨p,xs,i,v,rfl,rfl,h,e,q⟩))
theorem bM {z:Str}{i:Int}{c:Nat}(hz:z.length<=sizeLine)(e:jB z.cps.toList i=some c)(q:Q (yy c) H):nu K (.str z) (.int i) H Q:= .inl (.inr (.inr ⟨z,i,c,rfl,rfl,hz,e,q⟩))
theorem C2 {p:Addr}{y v:V}(g:DGet H p y (some v))(q:Q v H):nu K (.ref p) y H Q:= .inr ⟨p,v,rfl,g,q⟩
theorem mZ {p:Addr}{xs:List V}{lo hi:Option Int}(h:SqL K H p xs)(q:∀p,H p=none->Q (.ref p) (p0 H p (.lst (cX xs lo hi)))):Fv K (.ref p) lo hi H Q:= .inl ⟨p,xs,rfl,h,q⟩
theorem ow {l b:Addr}{xs zs:List V}(h1:H l=some (.lst xs))(h2:H b=some (.lst zs))(hz:xs.length+zs.length<=sizeLine)(q:∀p,H p=none->Q (.ref p) (p0 H p (.lst (xs++zs)))):kn K (.ref l) (.ref b) H Q:= .inr (.inr (.inl ⟨l,b,xs,zs,rfl,rfl,h1,h2,hz,q⟩))
theorem Dp {neg:Bool}{x:V}(q:Q (.bl (if neg then !decide (x= .non) else decide (x= .non))) H):GH neg x .non H Q:=⟨.inl rfl,q⟩
theorem fX {x:V}{t T:String}(ty:TyB K H x t)(hT:T="str"\/T="int"\/T="bool"\/T="list"\/T="tuple"\/T="dict")(q:Q (.bl (ef t T)) H):yG K [x,.ty T] H Q:=⟨x,T,t,rfl,ty,hT,q⟩
theorem jP {p:Addr}{bs:List Bool}(h:SqL K H p (bs.map V.bl))(q:Q (.bl (bs.all id)) H):uh K [.ref p] H Q:=⟨p,bs,rfl,h,q⟩
theorem DQ {t:TA}(q:t σ H λxs H1=>xs.length<=sizeLine/\∀p,H1 p=none->Q (.ref p) (p0 H1 p (.tup xs))):AF t σ H Q:=q
theorem Fe {t:TA}(q:t σ H λxs H1=>xs.length<=sizeLine/\∀p,H1 p=none->Q (.ref p) (p0 H1 p (.lst xs))):BV t σ H Q:=q
theorem M8 {t u:TS}(q:t ⟨u ⟨nx,rt,bk,ct⟩,rt,bk,ct⟩ σ H):wC t u ⟨nx,rt,bk,ct⟩ σ H:=q
theorem BB (q:nx σ H):ye ⟨nx,rt,bk,ct⟩ σ H:=q
theorem DO {te:TE}(q:te σ H rt):Cz te ⟨nx,rt,bk,ct⟩ σ H:=q
theorem AY {te:TE}(q:te σ H λ_ H1=>nx σ H1):wo te ⟨nx,rt,bk,ct⟩ σ H:=q
theorem Ds {c:TT}{t u:TS}(q:c σ H λb H1=>if b=true then t ⟨nx,rt,bk,ct⟩ σ H1 else u ⟨nx,rt,bk,ct⟩ σ H1):Bt c t u ⟨nx,rt,bk,ct⟩ σ H:=q
theorem EG {te:TE}{g:TG}(q:te σ H λx H1=>g x σ H1 nx):pL te g ⟨nx,rt,bk,ct⟩ σ H:=q
theorem AI {i:Nat}{v:V}{Qs:St->Hp->Prop}(q:Qs (σ.set i (some v)) H):P8 i v σ H Qs:=q
end
section
variable {X:Cx} {pins:List (Addr×Obj)} {σ:St} {H:Hp} {s:Shared} {d:Addr} {kvs:List (j3×V)} {o:Obj}
abbrev E3 (d:Addr)(o:Obj)(kvs:List (j3×V))(H:Hp):Hp:=p0 H d (.frz o (.dK kvs))
theorem Inv.freeze (I:Inv X pins σ H s)(h:H d=some (.dK kvs))(ho:s.heap.get? d=some o):Inv X pins σ (E3 d o kvs H) s:=by
 have nd:∀b u,H b=some u->u≠ .dK kvs->b≠d:=λb u e n z=>by
  subst z;rw[h] at e;exact n (Ie e).symm
 have hok:HOk X.prog X.w (E3 d o kvs H) s.heap:=λb u e=>by
  have st:∀{a:Addr} {u:HO},ObjOk X.prog X.w H s.heap a u->ObjOk X.prog X.w (E3 d o kvs H) s.heap a u:=fun{a u} x=>
   x.stay (λc v _ q=>q) (λc q=>by unfold E3;rw[b7 (nd c _ q (by intro z;cases z))];exact q) λc xs q=>by unfold E3;rw[b7 (nd c _ q (by intro z;cases z))];exact q
  by_cases hb:b=d
  .subst hb;unfold E3 at e;rw[b9] at e;cases e;exact⟨ho,st (I.hok _ _ h)⟩
  .unfold E3 at e;rw[b7 hb] at e;exact st (I.hok b u e)
 have q:=I.un (H':=E3 d o kvs H) (h':=s.heap) (t':=s.toks) ⟨λb o e n hb hx=>e,λb o e n hb hx=>⟨o.slots,e⟩,λb o e n hx=>by
  unfold E3;rw[b7 (λz=>by subst z;rw[h] at n;cases n)];exact n,λb o e _=>⟨o,e⟩,λb xs e=>by unfold E3;rw[b7 (nd b _ e (by intro z;cases z))];exact e,
  λb o u e=>by unfold E3;rw[b7 (nd b _ e (by intro z;cases z))];exact e,λb ps e=>⟨#[],by unfold E3;rw[b7 (nd b _ e (by intro z;cases z))];simpa using e⟩⟩ hok
 exact q
def EJ:Option HO->Option HO
 |some (.frz _ u)=>some u
 |o=>o
def thaw (d:Addr)(H:Hp):Hp:=λb=>if b=d then EJ (H d) else H b
theorem O8 {b:Addr}(h:b≠d):thaw d H b=H b:=by unfold thaw;rw[if_neg h]
theorem thaw_at {u:HO}(h:H d=some (.frz o u)):thaw d H d=some u:=by unfold thaw;rw[if_pos rfl,h];rfl
theorem we {u:HO}(h:H d=some (.frz o u)):thaw d H=p0 H d u:=by
 funext b;by_cases hb:b=d
 .subst hb;rw[thaw_at h,b9]
 .rw[O8 hb,b7 hb]
theorem qP (h:∀o u,H d≠some (.frz o u)):thaw d H=H:=by
 funext b;by_cases hb:b=d
 .subst hb;unfold thaw;rw[if_pos rfl];cases q:H b with
  |none=>rfl
  |some u=>cases u with
   |frz o u=>exact absurd q (h o u)
   |_=>rfl
 .exact O8 hb
def zb (X:Cx)(th:Hp->Hp):Prop:=∀(pins:List (Addr×Obj)) (σ:St) (H:Hp) (s:Shared),Inv X pins σ H s->Inv X pins σ (th H) s
theorem eQ:zb X id:=λ_ _ _ _ I=>I
theorem tV (hn:∀o u,X.H₀ d≠some (.frz o u)):zb X (thaw d):=λpins σ H s I=>by
 by_cases hf:∃o u,H d=some (.frz o u)
 .obtain⟨o,u,h⟩:=hf;rw[we h];have nd:∀b v,H b=some v->v≠ .frz o u->b≠d:=λb v e n z=>by
   subst z;rw[h] at e;exact n (Ie e).symm
  have nn:∀b,H b=none->b≠d:=λb e z=>by subst z;rw[h] at e;cases e
  have st:∀{a:Addr} {v:HO},ObjOk X.prog X.w H s.heap a v->ObjOk X.prog X.w (p0 H d u) s.heap a v:=fun{a v} x=>
   x.stay (λc v _ q=>q) (λc q=>by rw[b7 (nd c _ q (by intro z;cases z))];exact q) λc xs q=>by rw[b7 (nd c _ q (by intro z;cases z))];exact q
  refine⟨I.ok,I.os,I.bare,⟨I.base.keep,I.base.slot,λb ob e n hx=>?_,I.base.there,λb xs e=>?_,λb ob v e=>?_,λb ps e=>?_⟩,I.loc,I.cell,?_,λx c e=>?_,λp hp=>?_,λb v e=>?_,I.len⟩
  .have q:=I.base.free b ob e n hx;rw[b7 (nn b q)];exact q
  .have q:=I.base.tups b xs e;rw[b7 (nd b _ q (by intro z;cases z))];exact q
  .have q:=I.base.frzs b ob v e;rw[b7 (λz=>by subst z;exact hn ob v e)];exact q
  .obtain⟨m,q⟩:=I.base.tbls b ps e;exact⟨m,by rw[b7 (nd b _ q (by intro z;cases z))];exact q⟩
  .rw[b7 (nn _ I.free)];exact I.free
  .have q:=I.freeC x c e;rw[b7 (nn _ q)];exact q
  .obtain⟨a1,a2,a3⟩:=I.pin p hp;exact⟨a1,by rw[b7 (nn _ a2)];exact a2,a3⟩
  .by_cases hb:b=d
   .subst hb;rw[b9] at e;cases e;exact st (I.hok _ _ h).2
   .rw[b7 hb] at e;exact st (I.hok b v e)
 .rw[qP λo u e=>hf ⟨o,u,e⟩];exact I
theorem Same.thaw {H H':Hp}(h:H d=some (.dK kvs))(e:Same (E3 d o kvs H) H'):Same H (thaw d H'):=λb u q=>by
 by_cases hb:b=d
 .subst hb;rw[h] at q;cases q;have z:=e b _ (show E3 b o kvs H b=some _ from b9);exact thaw_at z
 .rw[O8 hb];exact e b u (by unfold E3;rw[b7 hb];exact q)
end
abbrev mQ:=St->Hp->(It->(Hp->Hp)->Hp->Prop)->Prop
def uM (X:Cx)(tg iter:Expr)(wi:mQ):Prop:=
 ∀(pins:List (Addr×Obj)) (s:Shared) (σ:St) (H:Hp) (R:It->(Hp->Hp)->Hp->Prop),Inv X pins σ H s->wi σ H R->
  wpAny (model X.prog X.w) X.A (eval iter X.env) (λv s1=>wpAny (model X.prog X.w) X.A (pyIter v) (FE X pins σ tg λJ H'=>∃th,zb X th/\R J th H') X.xe s1) X.xe s
theorem PI.two {X:Cx}{tg iter:Expr}{wi:TI}(h:PI X tg iter wi):uM X tg iter (λσ H R=>wi σ H λJ H'=>R J id H'):=by
 intro pins s σ H R I q;refine E9 (h pins s σ H _ I q) λv s1 h1=>E9 h1 λSM s2 h2=>?_;obtain⟨it,fp,tn,J,H',e,I',T,st,f,q⟩:=h2;exact⟨it,fp,tn,J,H',e,I',T,st,f,id,eQ,q⟩
def zl (J:It)(th:Hp->Hp)(g:TG)(tb:TS)(nx:St->Hp->Prop)(rt:VK)(σ:St)(H1:Hp):Prop:=∃W:Nat->Nat->St->Hp->Prop,(∃m,W 0 m σ H1)/\∀i m σ H,W i m σ H->
 (J.stop i H/\nx σ (th H))\/(J.go i H/\∃N:St->Hp->Prop,(∀σ' H',N σ' H'->∃m',m'<m/\W (i+1) m' σ' H')/\∀x H',J.yld i H x H'->g x σ H' λσ2 H2=>tb ⟨N,λv H=>rt v (th H),λσ H=>nx σ (th H),N⟩ σ2 H2)
def vV (wi:mQ)(g:TG)(tb:TS):TS:=λD σ H=>wi σ H λJ th H1=>zl J th g tb D.nx D.rt σ H1
theorem yJ {X:Cx}{tg iter:Expr}{body:List Stmt}{wi:mQ}{g:TG}{tb:TS}{pos:Pos}(hp:PassesOwn (model X.prog X.w) X.A X.env X.xe)(hc:X.calm=true)(hi:uM X tg iter wi)(hg:PG X tg g)(hb:PSs X body tb)
  (hs:∀x,foldedSetIterable iter X.env x=pure x:=by intro _;rfl):PS X (.For tg iter body [] pos) (vV wi g tb):=by
 intro pins s σ H D I h
 refine wpAny_For (E9 (hi pins s σ H _ I h) λv s1 h1=>E9 h1 λSM s2 h2=>?_) hs
 obtain⟨it,fp,tn,J,H2,e,I2,T,ML,f2,th,Oo,W,⟨m0,w0⟩,turn⟩:=h2
 subst e
 have OW:∀{H':Hp},(∀b∈fp,H' b=none)->∀b∈fp,dO X pins H' b:=λhn b hb=>⟨hn b hb,(f2 b hb).2⟩
 refine codeAny_forLoop_any (λn s'=>∃i σ' H',Inv X pins σ' H' s'/\tn i s'.heap/\(∀b∈fp,H' b=none)/\W i n σ' H') ?_ m0 ⟨0,σ,H2,I2,ML,λb hb=>(f2 b hb).1,w0⟩
 rintro n s3 ⟨i,σ3,H3,I3,S',S_,w3⟩
 rcases turn i n σ3 H3 w3 with⟨stop,qn⟩|⟨go,N,hN,step⟩
 .refine JU hp (E9 (T.done X rfl rfl rfl hc i pins s3 σ3 H3 X.xe I3 (OW S_) S' stop) λr s4 ⟨hr,I4⟩=>?_)
  subst hr
  exact KU ⟨σ3,th H3,Oo _ _ _ _ I4,qn⟩
 .refine JU hp (E9 (T.item X rfl rfl rfl hc i pins s3 σ3 H3 X.xe I3 (OW S_) S' go) λr s4 ⟨u,hr,h4⟩=>?_)
  subst hr
  refine JU hp (E9 h4 λ_ s5 ⟨x,H5,I5,r5,y5,st5,fr5⟩=>?_)
  have VJ:=I5.pinned (OW fr5) (T.obj _ _ st5)
  refine JU hp (E9 (hg _ s5 σ3 H5 x u _ VJ r5 (step x H5 y5)) λ_ s6 ⟨σ6,H6,I6,q6⟩=>?_)
  refine JU hp (E9 (hb _ s6 σ6 H6 _ I6 q6) λf s7 q7=>?_)
  have again:∀{σ7:St} {H7:Hp},Inv X (pins++ja fp s5.heap) σ7 H7 s7->N σ7 H7->∃m,m<n/\∃i σ' H',Inv X pins σ' H' s7/\tn i s7.heap/\(∀b∈fp,H' b=none)/\W i m σ' H':=fun{σ7 H7} I7 n7=>by
   obtain⟨m',hm,w7⟩:=hN σ7 H7 n7;refine⟨m',hm,i+1,σ7,H7,I7.unpinned,T.keep _ _ _ st5 λb hb o e=>(I7.pin (b,o) (Ia _ (Ia _ (Z4 hb e)))).1,λb hb=>?_,w7⟩;obtain⟨o,e,d⟩:=T.obj _ _ st5 b hb;exact(I7.pin (b,o) (Ia _ (Ia _ (Z4 hb e)))).2.1
  cases f with
  |next=>obtain⟨σ7,H7,I7,n7⟩:=q7;exact again I7 n7
  |cont=>obtain⟨σ7,H7,I7,n7⟩:=q7;exact again I7 n7
  |brk=>obtain⟨σ7,H7,I7,q7⟩:=q7;exact⟨σ7,th H7,Oo _ _ _ _ I7.unpinned,q7⟩
  |ret v=>obtain⟨x7,σ7,H7,I7,r7,q7⟩:=q7;exact⟨x7,σ7,th H7,Oo _ _ _ _ I7.unpinned,r7,q7⟩
def xx (own:List Str)(js:List Nat)(J:It)(th:Hp->Hp)(g:TG)(ti:TT)(te:TE)(Q:VK)(σ:St)(H1:Hp):Prop:=∃W:Nat->Nat->List V->Hp->Prop,(∃m,W 0 m [] H1)/\∀i m out H,W i m out H->
 (J.stop i H/\∀D,H D=none->out.length<=sizeLine/\Q (.ref D) (th (p0 H D (.lst out))))\/
 (J.go i H/\∀x H',J.yld i H x H'->g x (xW own js σ) H' λσ2 H2=>σ2.drop own.length=js.map (λj=>(σ[j]?).join)/\ti σ2 H2 λb H3=>
  if b=true then te σ2 H3 λv H4=>out.length<=sizeLine/\∃m',m'<m/\W (i+1) m' (out++[v]) H4 else ∃m',m'<m/\W (i+1) m' out H3)
def iP (own:List Str)(js:List Nat)(wi:mQ)(g:TG)(ti:TT)(te:TE):TE:=λσ H Q=>wi σ H λJ th H1=>xx own js J th g ti te Q σ H1
def AX:TT:=λ_ H Q=>Q true H
theorem Dk {X:Cx}:qc X [] AX:=GG
theorem tJ {X:Cx}{own:List Str}{js:List Nat}{scope:Scope}{tg iter elt:Expr}{ifs:List Expr}{pos:Pos}{g:TG}{ti:TT}{te:TE}{wi:mQ}(S:CU X own js scope=true)(hc:X.calm=true)(hit:uM X tg iter wi)
  (hg:∀C s H fp,PG (cu X own js scope C s H fp) tg g) (hi:∀C s H fp,qc (cu X own js scope C s H fp) ifs ti) (he:∀C s H fp,PE (cu X own js scope C s H fp) elt te)
  (hs:∀x,foldedSetIterable iter X.env x=pure x:=by intro _;rfl):
  PE X (.ListComp elt [⟨tg,iter,ifs,0⟩] scope pos) (iP own js wi g ti te):=by
 have SB:=uN S
 intro pins s σ H Q I h
 rw[eval_ListComp]
 refine Mq (use:=none) rfl hs (iW (SB.cells I)) SB.kind SB.names (E9 (hit pins s σ H _ I h) λv s1 h1=>E9 h1 λSM s2 h2=>?_)
 obtain⟨it,fp,tn,J,H2,e,I2,T,ML,f2,th,Oo,W,⟨m0,w0⟩,turn⟩:=h2
 subst e
 refine JX (wpAny_newFunctionEnv SB.nocell (by intro y hy;simp at hy) (λh₁ hns₁ hsb₁=>?_) SB.kind)
 dsimp only at hns₁ hsb₁⊢
 generalize Rx:s2.heap.push {cls:= .type "list",dict:=none,data:= .seq ([]:List Value).toArray}=G2 at hns₁ hsb₁⊢
 have Tc:G2.objs.size=s2.heap.objs.size+1:=by rw[←Rx,Nt]
 have Ol:s2.heap.objs.size≠G2.objs.size:=by rw[Tc];exact Im (Nat.lt_succ_self _)
 have hC:s2.heap.objs.size<=G2.objs.size:=by rw[Tc];exact LM _
 have old:∀b o,s2.heap.get? b=some o->h₁.get? b=some o:=λb o e=>
  hsb₁.extBut b o (Im (Ib (HZ e) hC)) (HS _ (Rx▸HS _ e))
 have z_:∀b∈fp,∃o,s2.heap.get? b=some o:=λb hb=>let ⟨o,e,_⟩:=T.obj _ _ ML b hb;⟨o,e⟩
 have x_:h₁.get? s2.heap.objs.size=some {cls:= .type "list",data:= .seq ([]:List Value).toArray}:=
  hsb₁.extBut _ _ Ol (HS _ (Rx▸Iq _ rfl))
 have loop:∀s3:Shared,s3={s2 with heap:=h₁,toks:=s2.toks+([]:List (Str×Value)).length}->
   codeAny (model X.prog X.w) X.A (.compLoop (.ListComp elt [⟨tg,iter,ifs,0⟩] scope pos) 0 (.ref it) (.ref s2.heap.objs.size) (compEnvC scope (gG scope X.env) G2.objs.size X.env))
    (compPost (model X.prog X.w) X.A X.xe none (EP X pins σ Q) (.ref s2.heap.objs.size) G2.objs.size) s3:=by
  rintro s3 rfl
  refine jN (K:=λout H'=>Q (.ref s2.heap.objs.size) (th (p0 H' s2.heap.objs.size (.lst out)))) SB hc T I2 f2 (HJ _) hC Ol z_ (hg _ _ _ _) (hi _ _ _ _) (he _ _ _ _) W (λi m out H' w=>?_) (λout H' s' B hl k=>?_) w0
   ⟨Inv.block SB I2 f2 z_ hC hns₁ old,I2.hok.fresh (HJ _),[],_,.nil,x_⟩ (T.keep _ _ _ ML λb _ o e=>old b o e) (λb hb=>(f2 b hb).1)
  .rcases turn i m out H' w with⟨a,b⟩|c
   .exact .inl ⟨a,λn=>b _ n⟩
   .exact .inr c
  .obtain⟨mm,hn,_⟩:=B.inv.loc
   exact⟨mm,hn,λh' sb=>⟨.ref s2.heap.objs.size,_,Oo _ _ _ _ (B.out I2 f2 (HJ _) hC Ol hl sb),rfl,k⟩⟩
 exact codeAny_compStart_list (loop _ rfl) (T.self _ 0 _ _ _ (T.keep _ _ _ ML λb _ o e=>old b o e) (loop _ rfl))
theorem B7 {α β : Type} {F : α -> β -> Prop} : ∀ {l₁ : List α} {l₂ : List β} {i : Nat} {a : α}, Paired F l₁ l₂ -> l₁[i]? = some a -> ∃ b, l₂[i]? = some b /\ F a b
 := by
  intro l₁ l₂ i a hp e;induction hp generalizing i with
  | nil => cases e
  | cons r _ ih => cases i with
    | zero => cases e; exact ⟨_, rfl, r⟩
    | succ i => exact ih e
section
variable {P:Program} {w:World}
theorem gN {k:j3}{v:Value}(h:(l0 P w).is k v=true):RelV (kV k) v:=by
 rcases B1 (show cJ k v=true from h) with⟨i,t,rfl,rfl⟩|⟨x,t,rfl,rfl⟩
 .exact⟨t,rfl⟩
 .exact⟨t,rfl⟩
theorem xN {k:j3}{v:Value}(h:(l0 P w).is k v=true):∀a,v≠ .ref a:=by
 rcases B1 (show cJ k v=true from h) with⟨i,t,rfl,rfl⟩|⟨x,t,rfl,rfl⟩<;>exact λa z=>by cases z
structure vP (P:Program) (w:World) (d:Addr) (o:Obj) (kvs:List (j3×V)) (vs:List (j3×Value)) (ep:Nat):Prop where
 kv:KV kvs vs
 at_:∀h:Heap,h.get? d=some o->h.DictAt (l0 P w) d vs ep
 nd:(kvs.map (·.1)).Nodup
theorem eJ {H:Hp}{h:Heap}{d:Addr}{kvs:List (j3×V)}(ok:HOk P w H h)(e:Rd H d (.dK kvs)):(d==sysModules)=false/\∃o vs ep,h.get? d=some o/\vP P w d o kvs vs ep:=by
 obtain⟨z,hd,vs,rel,o,es,ep,h1,r⟩:=N0 ok e;refine⟨hd,o,vs,ep,h1,rel,λh' e'=>⟨o,es,e',r⟩,?_⟩;rw[KV.keys rel];exact r.2.2.2.2
def Fs (d:Addr)(o:Obj)(kvs:List (j3×V))(f:j3×V->V):It:=
 ⟨λi H=>H d=some (.frz o (.dK kvs))/\i<kvs.length,λi H x H'=>H'=H/\∃kv,kvs[i]?=some kv/\x=f kv,λi H=>H d=some (.frz o (.dK kvs))/\kvs.length<=i⟩
def Dy (d:Addr)(o:Obj)(kvs:List (j3×V)):It:=
 ⟨λi H=>H d=some (.frz o (.dK kvs))/\i<kvs.length,λi H x H'=>∃t kv,kvs[i]?=some kv/\H t=none/\x= .ref t/\H'=p0 H t (.tup [kV kv.1,kv.2]),λi H=>H d=some (.frz o (.dK kvs))/\kvs.length<=i⟩
theorem tS {K:Qc}{tg:Expr}{d:Addr}{o:Obj}{kvs:List (j3×V)}{vs:List (j3×Value)}{ep:Nat}(D:vP P w d o kvs vs ep)(it:Addr):
  eT P w K tg (Fs d o kvs λkv=>kV kv.1) [it] it (λi h=>h.IsKeyIter it d i vs.length ep) where
 mem:=by simp
 obj:=λi h st b hb=>by
  have e:b=it:=by simpa using hb
  subst e;obtain⟨o,e,c,dd⟩:=st;exact⟨o,e,λv z=>by rw[dd] at z;cases z⟩
 keep:=λi h h' st k=>st.at λo e=>k it (by simp) o e
 item:=by
  intro X hP hw hK hc i pins s σ H E I hf st hg;subst hP hw hK;obtain⟨OZ,hi⟩:=hg;obtain⟨f0,f1,f2,f3,f4,f5⟩:=hf it (by simp);have dat:=D.at_ s.heap (I.hok d _ OZ).1;have hl:=KV.length D.kv;obtain⟨kv,i'⟩:∃kv,kvs[i]?=some kv:=⟨kvs[i],by simp [hi]⟩
  obtain⟨⟨k,x⟩,hx⟩:∃p,vs[i]?=some p:=⟨vs[i]'(by lia),by simp [show i<vs.length by lia]⟩
  have Sk:kv.1=k:=by
   have e1:(kvs.map (·.1))[i]?=some kv.1:=by rw[HK,i'];rfl
   rw[KV.keys D.kv,HK,hx] at e1;exact(Ie e1).symm
  refine wpAny_pyNext_dict_item st dat hx λkey h' y_ hit' hs'=>?_;have I1:Inv X pins σ H {s with heap:=h'}:=I.turned (t':=s.toks) (λb o hb e=>hs'.extBut b o hb e) f0 f1 f3 f4 f5;exact⟨key,rfl,qU (xN y_) ⟨kV kv.1,H,I1,by rw[Sk];exact gN y_,⟨rfl,kv,i',rfl⟩,hit',λb hb=>(hf b hb).1⟩⟩
 done:=by
  intro X hP hw hK hc i pins s σ H E I hf st hg;subst hP hw hK;obtain⟨OZ,hi⟩:=hg;obtain⟨f0,f1,f2,f3,f4,f5⟩:=hf it (by simp);have dat:=D.at_ s.heap (I.hok d _ OZ).1;have hl:=KV.length D.kv;exact wpAny_pyNext_dict_end (I.ok.hd hc) st dat (by simp;lia) λh' eb=>⟨rfl,I.turned (t':=s.toks) (λb o hb e=>eb b o hb e) f0 f1 f3 f4 f5⟩
 self:=λ_ _ _ _ _ st h=>wpAny_pyIter_keyiter st h
theorem qf {K:Qc}{elts:List Expr}{x1}{j_:Pos}{d:Addr}{o:Obj}{kvs:List (j3×V)}{vs:List (j3×Value)}{ep:Nat}(D:vP P w d o kvs vs ep)(it:Addr):
  eT P w K (.Tuple elts x1 j_) (Dy d o kvs) [it] it (λi h=>∃ok ov,IsItemIter h it d i vs.length ep ok ov) where
 mem:=by simp
 obj:=λi h st b hb=>by
  have e:b=it:=by simpa using hb
  subst e;obtain⟨ok,ov,e⟩:=st;exact⟨_,e,λv z=>by
   have z':Data.fields _=Data.cell v:=z;cases z'⟩
 keep:=λi h h' st k=>let ⟨ok,ov,e⟩:=st;⟨ok,ov,k it (by simp) _ e⟩
 item:=by
  intro X hP hw hK hc i pins s σ H E I hf st hg;subst hP hw hK;obtain⟨OZ,hi⟩:=hg;obtain⟨ok,ov,st⟩:=st;obtain⟨f0,f1,f2,f3,f4,f5⟩:=hf it (by simp);have dat:=D.at_ s.heap (I.hok d _ OZ).1;have hl:=KV.length D.kv;obtain⟨kv,i'⟩:∃kv,kvs[i]?=some kv:=⟨kvs[i],by simp [hi]⟩
  obtain⟨⟨k,x⟩,hx⟩:∃p,vs[i]?=some p:=⟨vs[i]'(by lia),by simp [show i<vs.length by lia]⟩
  obtain⟨Sk,rx⟩:kv.1=k/\RelV kv.2 x:=by
   have q:=B7 D.kv i';obtain⟨p,hp,r⟩:=q;rw[hx] at hp;cases hp;exact r
  refine wpAny_pyNext_items_item st dat hx λkey h' y_ hout htup hsz hk=>?_;have QR:it<s.heap.objs.size:=HZ st;refine⟨.ref s.heap.objs.size,rfl,wpAny_letOwnedTupleGo_items (s:={s with heap:=h'}) hout λG' hit'' hs''=>?_⟩;have Nm:Heap.SameBut it h' G':=hs'';have kp:∀b o,b≠it->s.heap.get? b=some o->G'.get? b=some o:=λb o hb e=>Nm.extBut b o hb (hk b o hb e);have O':G'.get? s.heap.objs.size=some {cls:= .type "tuple",data:= .seq #[key,x]}:=Nm.extBut _ _ (LY QR) htup;have fresh:H s.heap.objs.size=none:=I.hok.fresh (HJ _);have VM:∀b o,s.heap.get? b=some o->b≠s.heap.objs.size:=λb o e=>Im (HZ e);have hH:∀b u,H b=some u->b≠s.heap.objs.size/\b≠it:=λb u e=>⟨i8 e fresh,i8 e f0⟩
  have hok:HOk X.prog X.w (p0 H s.heap.objs.size (.tup [kV kv.1,kv.2])) G':=λb u e=>by
   by_cases hb:b=s.heap.objs.size
   .subst hb;rw[b9] at e;cases e;refine⟨by show 2<=sizeLine;decide,[key,x],.cons (by rw[Sk];exact gN y_) (.cons rx .nil),⟨_,O',rfl,_,rfl⟩⟩
   .rw[b7 hb] at e;refine(I.hok b u e).stay (λc v hc q=>kp c v ?_ q) (λc q=>by rw[b7 (hH c _ q).1];exact q) λc xs q=>by rw[b7 (hH c _ q).1];exact q
    rcases hc with z|z
    .rw[z];exact(hH b _ e).2
    .exact(hH c _ z).2
  have I1:Inv X pins σ (p0 H s.heap.objs.size (.tup [kV kv.1,kv.2])) {s with heap:=G'}:=by
   refine I.call' (s':={s with heap:=G'}) (ch:=[it]) rfl ⟨λb o e n hb hx=>kp b o (by simpa using hx) e,λb o e n hb hx=>⟨o.slots,kp b o (by simpa using hx) e⟩,λb o e n hx=>by rw[b7 (VM b o e)];exact n,
    λb o e hx=>⟨o,kp b o (by simpa using hx) e⟩,λb xs e=>by rw[b7 (hH b _ e).1];exact e,λb ob v e=>by rw[b7 (hH b _ e).1];exact e,λb ps e=>⟨#[],by rw[b7 (hH b _ e).1];simpa using e⟩⟩ hok I.bare λb hb=>?_
   have e:b=it:=by simpa using hb
   subst e;exact⟨f3,f1,f4,f5⟩
  refine⟨.ref s.heap.objs.size,_,I1,rfl,⟨_,kv,i',fresh,rfl,rfl⟩,⟨_,_,hit''⟩,λb hb=>?_⟩;have e:b=it:=by simpa using hb
  subst e;rw[b7 (Im QR)];exact f0
 done:=by
  intro X hP hw hK hc i pins s σ H E I hf st hg;subst hP hw hK;obtain⟨OZ,hi⟩:=hg;obtain⟨ok,ov,st⟩:=st;obtain⟨f0,f1,f2,f3,f4,f5⟩:=hf it (by simp);have dat:=D.at_ s.heap (I.hok d _ OZ).1;have hl:=KV.length D.kv;exact wpAny_pyNext_items_end (I.ok.hd hc) st dat (by simp;lia) λh' eb=>⟨rfl,I.turned (t':=s.toks) (λb o hb e=>eb b o hb e) f0 f1 f3 f4 f5⟩
 self:=λ_ _ _ _ _ st h=>by
  obtain⟨ok,ov,st⟩:=st;exact PySem.W.kcp_self st h
end
section
variable {X:Cx} {tg:Expr}
def rIterD (mk:Addr->Obj->List (j3×V)->It)(v:V)(H:Hp)(R:It->(Hp->Hp)->Hp->Prop):Prop:=
 ∃d kvs,v= .ref d/\((H d=some (.dK kvs)/\((kvs.map (·.1)).Nodup->∀o,R (mk d o kvs) (thaw d) (E3 d o kvs H)))\/(∃o,H d=some (.frz o (.dK kvs))/\((kvs.map (·.1)).Nodup->R (mk d o kvs) id H)))
theorem rIterD.go {mk:Addr->Obj->List (j3×V)->It}{x:V}{u:Value}{pins:List (Addr×Obj)}{σ:St}{H:Hp}{s:Shared}{R:It->(Hp->Hp)->Hp->Prop}(I:Inv X pins σ H s)(r:RelV x u)(h:rIterD mk x H R):
  ∃d kvs o vs ep th H',u= .ref d/\(d==sysModules)=false/\s.heap.get? d=some o/\vP X.prog X.w d o kvs vs ep/\Inv X pins σ H' s/\zb X th/\R (mk d o kvs) th H':=by
 obtain⟨d,kvs,e,h⟩:=h
 subst e
 cases r
 rcases h with⟨h,q⟩|⟨o,h,q⟩
 .obtain⟨hd,o,vs,ep,ho,D⟩:=eJ I.hok (.inl h)
  refine⟨d,kvs,o,vs,ep,thaw d,_,rfl,hd,ho,D,I.freeze h ho,tV λob v z=>?_,q D.nd o⟩
  have z':=I.base.frzs d ob v z
  rw[h] at z';cases z'
 .obtain⟨hd,o',vs,ep,ho,D⟩:=eJ I.hok (.inr ⟨o,h⟩)
  have e:=(I.hok d _ h).1
  rw[ho] at e;cases e
  exact⟨d,kvs,_,vs,ep,id,H,rfl,hd,ho,D,I,eQ,q D.nd⟩
theorem rIter.mono {K:Qc}{v:V}{H:Hp}{R R':It->Hp->Prop}(h:rIter K v H R)(k:∀J H,R J H->R' J H):rIter K v H R':=by
 rcases h with⟨a,e,hq,q⟩|⟨a,e,hq,q⟩|⟨x,e,q⟩
 .exact .inl ⟨a,e,hq,k _ _ q⟩
 .exact .inr (.inl ⟨a,e,hq,k _ _ q⟩)
 .exact .inr (.inr ⟨x,e,k _ _ q⟩)
abbrev GS (d:Addr)(o:Obj)(kvs:List (j3×V)):It:=Fs d o kvs λkv=>kV kv.1
def xV (K:Qc)(v:V)(H:Hp)(R:It->(Hp->Hp)->Hp->Prop):Prop:=rIter K v H (λJ H'=>R J id H')\/rIterD GS v H R
def FH (K:Qc)(tl:TE):mQ:=λσ H R=>tl σ H λv H1=>xV K v H1 R
theorem EB {l:Expr}{tl:TE}(hl:PE X l tl):uM X tg l (FH X.K tl):=by
 intro pins s σ H R I h;refine E9 (hl pins s σ H _ I h) λv s1 ⟨x,H1,I1,r1,q1⟩=>?_;rcases q1 with q1|q1
 .exact wu I1 r1 (q1.mono λJ H' q=>⟨id,eQ,q⟩)
 .obtain⟨d,kvs,o,vs,ep,th,H',rfl,hd,ho,D,I2,Oo,q⟩:=rIterD.go I1 r1 q1;refine wpAny_pyIter_dict hd (D.at_ _ ho) ?_;refine⟨s1.heap.objs.size,[s1.heap.objs.size],_,_,H',rfl,I2.kept (t':=s1.toks) λb o e=>HS _ e,tS D _,⟨_,Iq _ rfl,rfl,rfl⟩,λb hb=>?_,th,Oo,q⟩;have e:b=s1.heap.objs.size:=by simpa using hb
  subst e;exact I2.fpOk (HJ _) (I2.hok.fresh (HJ _))
def pU (tl:TE):mQ:=λσ H R=>tl σ H λv H1=>rIterD Dy v H1 R
theorem vg {elts:List Expr}{x1}{j_:Pos}{o:Expr}{tl:TE}{apos b_:Pos}(ho:PE X o tl)
  (g_:attributeBase o "items" X.env (eval o X.env)=eval o X.env:=by rfl) (h_:(apos.endLine==b_.line)=true:=by rfl):
  uM X (.Tuple elts x1 j_) (.Call (.Attribute o "items" apos) [] [] b_) (pU tl):=by
 intro pins s σ H R I h
 refine KZ g_ h_ (E9 (ho pins s σ H _ I h) λv s1 ⟨x,H1,I1,r1,q1⟩=>?_)
 obtain⟨d,kvs,ob,vs,ep,th,H',rfl,hd,z_,D,I2,Oo,q⟩:=rIterD.go I1 r1 q1
 have Qe:=(D.at_ _ z_).dictOf
 refine⟨"dict","dict.items",F.plainAttrs_dict,F.slot_dict_items,F.type_dict_items,Qe.typeIs,Qe.mapOf.noDict,JB rfl (LK ?_)⟩
 refine Jw F.slot_dict_items Qe.typeIs F.entry_dict_items (F.args_dict_items_1 _) (meets_dict_items (l0 X.prog X.w) d hd) ⟨⟨vs,Qe⟩,?_⟩
 have I3:Inv X pins σ H' {s1 with heap:=s1.heap.push {cls:= .type "dict_items",data:= .fields #[.ref d]}}:=I2.kept (t':=s1.toks) λb o e=>HS _ e
 refine wpAny_pyIter_items (s:={s1 with heap:=s1.heap.push {cls:= .type "dict_items",data:= .fields #[.ref d]}}) (knd:=l0 X.prog X.w) ⟨_,Iq _ rfl,rfl,rfl⟩ (D.at_ _ (HS _ z_)) ?_
 generalize hG:s1.heap.push {cls:= .type "dict_items",data:= .fields #[.ref d]}=G at I3⊢
 refine⟨G.objs.size,[G.objs.size],_,_,H',rfl,I3.kept (t':=s1.toks) λb o e=>HS _ e,qf D _,⟨.none,.none,Iq _ rfl⟩,λb hb=>?_,th,Oo,q⟩
 have e:b=G.objs.size:=by simpa using hb
 subst e
 exact I3.fpOk (HJ _) (I3.hok.fresh (HJ _))
end
section
variable {J:It} {th:Hp->Hp} {n:Nat} {g:TG} {tb:TS} {nx bk ct:St->Hp->Prop} {rt:VK} {σ:St} {H:Hp} {own:List Str} {js:List Nat} {ti:TT} {te:TE} {Q:VK} {K:Qc}
theorem Q3 (Pv:Nat->St->Hp->Prop)(h0:Pv 0 σ H)(Pz:∀i σ H,i<n->Pv i σ H->J.go i H)
  (hs:∀i x σ H H',i<n->Pv i σ H->J.yld i H x H'->g x σ H' λσ2 H2=>tb ⟨Pv (i+1),λv H=>rt v (th H),λσ H=>nx σ (th H),Pv (i+1)⟩ σ2 H2)
  (hd:∀σ H,Pv n σ H->J.stop n H/\nx σ (th H)):
  zl J th g tb nx rt σ H:=by
 refine⟨λi m σ H=>m=n -i/\i<=n/\Pv i σ H,⟨n,by simp,Jv _,h0⟩,?_⟩
 rintro i m σ H ⟨rfl,hi,p⟩
 by_cases j':i<n
 .exact .inr ⟨Pz i σ H j' p,Pv (i+1),λσ' H' p'=>⟨n -(i+1),by lia,rfl,j',p'⟩,λx H' y=>hs i x σ H H' j' p y⟩
 .have e:i=n:=by lia
  subst e
  exact .inl (hd σ H p)
theorem w5 (Pv:Nat->List V->Hp->Prop)(h0:Pv 0 [] H)(Pz:∀i out H,i<n->Pv i out H->J.go i H)
  (hs:∀(N:List V->Hp->Prop) i x out H H',i<n->Pv i out H->J.yld i H x H'->(∀O_ H',Pv (i+1) O_ H'->N O_ H')->g x (xW own js σ) H' λσ2 H2=>σ2.drop own.length=js.map (λj=>(σ[j]?).join)/\ti σ2 H2 λb H3=>
   if b=true then te σ2 H3 λv H4=>out.length<=sizeLine/\N (out++[v]) H4 else N out H3)
  (hd:∀out H,Pv n out H->J.stop n H/\∀D,H D=none->out.length<=sizeLine/\Q (.ref D) (th (p0 H D (.lst out)))):
  xx own js J th g ti te Q σ H:=by
 refine⟨λi m out H=>m=n -i/\i<=n/\Pv i out H,⟨n,by simp,Jv _,h0⟩,?_⟩
 rintro i m out H ⟨rfl,hi,p⟩
 by_cases j':i<n
 .exact .inr ⟨Pz i out H j' p,λx H' y=>hs (λO_ H'=>∃m',m'<n -i/\m'=n -(i+1)/\i+1<=n/\Pv (i+1) O_ H') i x out H H' j' p y λO_ H' q=>⟨n -(i+1),by lia,rfl,j',q⟩⟩
 .have e:i=n:=by lia
  subst e
  exact .inl (hd out H p)
theorem De {wi:mQ}(q:wi σ H λJ th H1=>zl J th g tb nx rt σ H1):vV wi g tb ⟨nx,rt,bk,ct⟩ σ H:=q
theorem CC {wi:mQ}(q:wi σ H λJ th H1=>xx own js J th g ti te Q σ H1):iP own js wi g ti te σ H Q:=q
theorem EV {Qb:Bool->Hp->Prop}(q:Qb true H):AX σ H Qb:=q
theorem Gn {tl:TE}{R:It->(Hp->Hp)->Hp->Prop}(q:tl σ H λv H1=>xV K v H1 R):FH K tl σ H R:=q
theorem uR {x:Str}{R:It->(Hp->Hp)->Hp->Prop}(q:R (Its x) id H):xV K (.str x) H R:= .inl (.inr (.inr ⟨x,rfl,q⟩))
theorem x9 {a:Addr}{xs:List V}{R:It->(Hp->Hp)->Hp->Prop}(h:SqL K H a xs)(q:R (Itl K a) id H):xV K (.ref a) H R:= .inl (.inl ⟨a,rfl,⟨xs,h⟩,q⟩)
theorem nE {d:Addr}{kvs:List (j3×V)}{R:It->(Hp->Hp)->Hp->Prop}(h:H d=some (.dK kvs))(q:(kvs.map (·.1)).Nodup->∀o,R (GS d o kvs) (thaw d) (E3 d o kvs H)):xV K (.ref d) H R:=
 .inr ⟨d,kvs,rfl,.inl ⟨h,q⟩⟩
theorem zc {tl:TE}{R:It->(Hp->Hp)->Hp->Prop}(q:tl σ H λv H1=>rIterD Dy v H1 R):pU tl σ H R:=q
theorem D4 {d:Addr}{kvs:List (j3×V)}{R:It->(Hp->Hp)->Hp->Prop}(h:H d=some (.dK kvs))(q:(kvs.map (·.1)).Nodup->∀o,R (Dy d o kvs) (thaw d) (E3 d o kvs H)):rIterD Dy (.ref d) H R:=⟨d,kvs,rfl,.inl ⟨h,q⟩⟩
theorem Br {ta:TA}{R:It->Hp->Prop}(q:ta σ H λvs H1=>∃j:Int,vs=[.int j]/\-(2 ^ 62)<=j/\j<2 ^ 62/\R (Fw 0 j.toNat) H1):wR ta σ H R:=q
theorem G5 {i:Int}{R:Int->Prop}(h0:0<=i)(h1:i<1000000)(q:R i):∃j:Int,[V.int i]=[.int j]/\-(2 ^ 62)<=j/\j<2 ^ 62/\R j:=⟨i,rfl,by lia,by lia,q⟩
theorem C4 {p:Prop}[Decidable p]{A B:Prop}(h1:p->A)(h2:¬p->B):if decide p=true then A else B:=by
 by_cases h:p
 .rw[if_pos (IA h)];exact h1 h
 .rw[if_neg (by simp [h])];exact h2 h
theorem bo {p:Prop}[Decidable p]{A B:Prop}(h1:¬p->A)(h2:p->B):if(!decide p)=true then A else B:=by
 by_cases h:p
 .rw[if_neg (by simp [h])];exact h2 h
 .rw[if_pos (by simp [h])];exact h1 h
theorem X3 {b:Bool}{A B:Prop}(h1:b=true->A)(h2:b=false->B):if b=true then A else B:=by
 cases b with
 |true=>rw[if_pos rfl];exact h1 rfl
 |false=>rw[if_neg IB];exact h2 rfl
theorem dS {b:Bool}{A B:Prop}(h1:b=false->A)(h2:b=true->B):if(!b)=true then A else B:=by
 cases b with
 |true=>rw[if_neg (by simp)];exact h2 rfl
 |false=>rw[if_pos (by simp)];exact h1 rfl
theorem Fg {A B:Prop}(h:A):if(!false)=true then A else B:=by rw[if_pos (by rfl)];exact h
theorem ET {A B:Prop}(h:B):if(!true)=true then A else B:=by rw[if_neg (by decide)];exact h
theorem zU {t u:TS}(P:St->Hp->Prop)(h1:∀σ H,P σ H->u ⟨nx,rt,bk,ct⟩ σ H)(h2:∀nx':St->Hp->Prop,(∀σ H,P σ H->nx' σ H)->t ⟨nx',rt,bk,ct⟩ σ H):wC t u ⟨nx,rt,bk,ct⟩ σ H:=h2 _ h1
theorem b0 {o:HO}{p:Addr}(hp:H p=none):∃H',p0 H p o=H'/\H' p=some o/\Same H H'/\∀b,b≠p->H' b=H b:=⟨_,rfl,b9,λb u e=>by rw[b7 (i8 e hp)];exact e,λb hb=>b7 hb⟩
theorem fg {α:Type}{xs:List α}{i:Int}(h0:0<=i)(h1:i<xs.length):∃v,jB xs i=some v/\xs[i.toNat]?=some v:=by
 obtain⟨j,rfl⟩:=Mw h0;have hj:j<xs.length:=by lia
 exact⟨xs[j],b4 (by simp [hj]),by simp [hj]⟩
theorem cn (x y:Str):(x++y).length=x.length+y.length:=by
 show(x.cps++y.cps).size=_;simp [Str.length]
theorem dU (c:Nat):(⟨#[c]⟩:Str).length=1:=rfl
theorem pz (x:Str):x.length=x.cps.toList.length:=by simp [Str.length]
theorem d9 {n:Nat}(h:n<=1000):n<=sizeLine:=Ip h (by decide)
theorem Same.rd {H H':Hp}{a:Addr}{u:HO}(s:Same H H')(h:Rd H a u):Rd H' a u:=by
 rcases h with h|⟨o,h⟩
 .exact .inl (s _ _ h)
 .exact .inr ⟨o,s _ _ h⟩
theorem Same.tup {H H':Hp}{a:Addr}{xs:List V}(s:Same H H')(h:SqT K H a xs):SqT K H' a xs:=by
 rcases h with h|h
 .exact .inl (s.rd h)
 .exact .inr h
theorem TyB.mono {H H':Hp}{v:V}{t:String}(h:TyB K H v t)(s:Same H H'):TyB K H' v t:=by
 cases v with
 |ref a=>
  rcases h with⟨e,xs,h⟩|⟨e,xs,h⟩|⟨e,kvs,h⟩
  .exact .inl ⟨e,xs,s.seq h⟩
  .exact .inr (.inl ⟨e,xs,s.tup h⟩)
  .exact .inr (.inr ⟨e,kvs,s.rd h⟩)
 |_=>exact h
theorem Its.lt {x:Str}{i:Nat}{H H':Hp}{v:V}(h:(Its x).yld i H v H'):H'=H/\∃c,x.cps.toList[i]?=some c/\v=yy c:=by
 obtain⟨e,c,hc,hv⟩:=h;exact⟨e,c,by simpa using hc,hv⟩
theorem Itl.get {a:Addr}{xs:List V}{i:Nat}{H H':Hp}{v:V}(h:(Itl K a).yld i H v H')(hx:SqL K H a xs):H'=H/\xs[i]?=some v:=⟨h.1,h.2 xs hx⟩
theorem C7 {α β:Type}{l:List α}{i:Nat}{a:α}(f:α->β)(h:l[i]?=some a):(l.take i).map f++[f a]=(l.take (i+1)).map f:=by
 rw[IE,h];simp
end
section
variable {X:Cx} (K:Qc) {a e:Expr} {ta te:TE} {tg:Expr} {pos:Pos}
theorem G0 (h:X.K=K:=by rfl):OpR X (binaryOp .Add) (kn K):=h▸yv
theorem kIn (hu:X.A.units+1<cLine)(h:X.K=K:=by rfl):OpR X (compareOp .In) (tm K):=h▸AM hu
theorem aA (hu:X.A.units+1<cLine)(h:X.K=K:=by rfl):OpR X (compareOp .NotIn) (gW K):=h▸uv hu
theorem k8 (hu:X.A.units+1<cLine)(h:X.K=K:=by rfl):IxR X (nu K):=h▸BW hu
theorem Df (h:X.K=K:=by rfl):SlR X (Fv K):=h▸BM
theorem sI (hc:X.calm=true)(h:X.K=K:=by rfl):CallR X (.builtin "all") (uh K):=h▸uj hc
theorem Gg (hc:X.calm=true)(h:X.K=K:=by rfl):CallR X (.builtin "any") (Fo K):=h▸uz hc
def Cf (ta:TE):TT:=λσ H Q=>ta σ H λx H'=>∃k,xj K x H' k/\Q k H'
theorem Gh (ha:PE X a ta)(h:X.K=K:=by rfl)(he:∀whole,isTrue a X.env whole=(do let v←whole;standAt a.pos;holding [v] (truthy v)):=by intro _;rfl):PT X a (Cf K ta):=h▸wG ha he
theorem Cq {σ:St}{H:Hp}{Qb:Bool->Hp->Prop}(q:ta σ H λx H'=>∃k,xj K x H' k/\Qb k H'):Cf K ta σ H Qb:=q
theorem Hb (hl:PE X a ta)(h:X.K=K:=by rfl):uM X tg a (FH K ta):=h▸EB hl
theorem GJ {es:List Expr}{k:Nat}{t:pK}{n:Nat}(hc:X.calm=true)(hg:zR X es t)(h:X.K=K:=by rfl)
  (hn:(assignEach es X.env).length=n:=by rfl) (OU:(assignEach es X.env).findIdx? (·.1)=none:=by rfl):PG X (.Tuple es k pos) (ve K n t):=h▸AW hc hg hn OU
end
def u9:Expr->Bool
 | .Starred _ _=>false
 |_=>true
def A7 (es:List Expr):Bool:=es.all u9
theorem J0 {e:Expr}{es:List Expr}{env:Env}(h:u9 e=true):starEach (e::es) env=(false,eval e env)::starEach es env:=by
 cases e<;>first|rfl|cases h
theorem aX {env:Env}{pos:Pos}:∀{es:List Expr},A7 es=true->(backTo pos (starEach es env)).any (·.1)=false
 |[],_=>rfl
 |e::es,h=>by
  have h':(u9 e&&A7 es)=true:=h;rw[Io] at h';rw[J0 h'.1];show(false||(backTo pos (starEach es env)).any (·.1))=false;rw[aX h'.2];rfl
theorem rN {e:Expr}{es:List Expr}{env:Env}(h:u9 e=true):assignEach (e::es) env=(false,assign e env)::assignEach es env:=by
 cases e<;>first|rfl|cases h
theorem vM {env:Env}:∀{es:List Expr},A7 es=true->(assignEach es env).length=es.length
 |[],_=>rfl
 |e::es,h=>by
  have h':(u9 e&&A7 es)=true:=h;rw[Io] at h';rw[rN h'.1,IV,vM h'.2,IV]
theorem wI {env:Env}:∀{es:List Expr},A7 es=true->(assignEach es env).findIdx? (·.1)=none
 |[],_=>rfl
 |e::es,h=>by
  have h':(u9 e&&A7 es)=true:=h;rw[Io] at h';rw[rN h'.1,List.findIdx?_cons];simp [wI h'.2]
section
variable {X:Cx} {K:Qc} {e:Expr} {es:List Expr} {te:TE} {t:TA} {x:Str} {p pos:Pos} {id T:String} {r:List V->Hp->VK->Prop}
theorem Hr (ha:PE X e te)(hr:PA X es t)(h:u9 e=true:=by rfl):PA X (e::es) (qD te t):=yI ha hr (J0 h)
theorem cB (hc:CallR X (.builtin id) r)(hm:X.mg x=none)(hv:bootBuiltins x=some (.builtin id))(ha:PA X (e::es) t)(hg:Gl X x:=by rfl)(hn:x≠"__name__":=by decide)(r_:(x==("__debug__":Str))=false:=by decide)
  (h:A7 (e::es)=true:=by rfl):PE X (.Call (.Name x p) (e::es) [] pos) (Av r t):=by
 have h':(u9 e&&A7 es)=true:=h
 rw[Io] at h'
 exact vT hc hg hm hv ha hn r_ (J0 h'.1) (aX h'.2)
theorem Hg (hc:CallR X (.type T) r)(hm:X.mg x=none)(hv:bootBuiltins x=some (.type T))(ha:PA X (e::es) t)(hg:Gl X x:=by rfl)(hn:x≠"__name__":=by decide)(r_:(x==("__debug__":Str))=false:=by decide)
  (h:A7 (e::es)=true:=by rfl):PE X (.Call (.Name x p) (e::es) [] pos) (Av r t):=by
 have h':(u9 e&&A7 es)=true:=h
 rw[Io] at h'
 exact uB hc hg hm hv ha hn r_ (J0 h'.1) (aX h'.2)
theorem cC {CX:mR}{k:Nat}{ps:List Str}{n_:List V}{sp:Sp}{E:XK}(C:K3 X.prog X.w X.K X.mg X.base CX k x ps n_ sp)(hr:Room k X.A)(hx:cU CX X E)(ha:PA X (e::es) t)(hg:Gl X x:=by rfl)
  (r_:(x==("__debug__":Str))=false:=by decide) (h:A7 (e::es)=true:=by rfl):PE X (.Call (.Name x p) (e::es) [] pos) (nv sp n_ E t):=by
 have h':(u9 e&&A7 es)=true:=h
 rw[Io] at h'
 exact xl C hr hx ha hg r_ (J0 h'.1) (aX h'.2)
theorem gT {tg:Expr}{k:Nat}{u:pK}(hc:X.calm=true)(hg:zR X es u)(hK:X.K=K:=by rfl)(h:A7 es=true:=by rfl):PG X (.Tuple es k pos) (ve K es.length u):=GJ K hc hg hK (vM h) (wI h)
theorem gC {g:TG}{u:pK}(h1:PG X e g)(h2:zR X es u)(h:u9 e=true:=by rfl):zR X (e::es) (qW g u):=xP h1 h2 (by rw[rN h];rfl)
end
structure QE (X:Cx) (e:Expr) (t:TE):Prop where
 r:PE X e t
structure QT (X:Cx) (e:Expr) (t:TT):Prop where
 r:PT X e t
structure QW (X:Cx) (e:Expr) (t:TT):Prop where
 r:PW X e t
structure QA (X:Cx) (es:List Expr) (t:TA):Prop where
 r:PA X es t
structure QS (X:Cx) (st:Stmt) (t:TS):Prop where
 r:PS X st t
structure QSs (X:Cx) (st:List Stmt) (t:TS):Prop where
 r:PSs X st t
structure QG (X:Cx) (tg:Expr) (t:TG):Prop where
 r:PG X tg t
structure FD (X:Cx) (tg:List Expr) (t:pK):Prop where
 r:zR X tg t
structure QI (X:Cx) (tg iter:Expr) (t:mQ):Prop where
 r:uM X tg iter t
structure Fu (X:Cx) (ifs:List Expr) (t:TT):Prop where
 r:qc X ifs t
structure QO (X:Cx) (e:Option Expr) (t:TO):Prop where
 r:PO X e t
structure QP (X:Cx) (pos:Pos) (keys:List (Option Expr)) (values:List Expr) (Vz:List (TE×TE)):Prop where
 r:Ht X pos keys values Vz
section
variable {X:Cx} {a b c e o:Expr} {es:List Expr} {ta tb tc te to:TE} {tA PY:TT} {t:TA} {U7:List Expr} {pos apos b_ p2:Pos} {x:Str} {p:Pos} {QU T:String}
theorem lF {j}:QE X (.Constant .none j pos) (tC .non):=⟨BX⟩
theorem uJ {b:Bool}{j}:QE X (.Constant (.bool b) j pos) (tC (.bl b)):=⟨Ef⟩
theorem d8 {i:Int}{j}:QE X (.Constant (.int i) j pos) (tC (.int i)):=⟨Bo⟩
theorem fP {x:Str}{j}:QE X (.Constant (.str x) j pos) (tC (.str x)):=⟨Cr⟩
theorem qV (i:Nat)(hN:X.N[i]?=some x:=by rfl)(hv:Gz X.env.scope x:=by first|exact Or.inl rfl|exact Or.inr (Or.inl rfl)|exact Or.inr (Or.inr rfl))(hd:(x==("__debug__":Str))=false:=by decide)
  (Ni:(x==("__classdict__":Str))=false:=by decide):QE X (.Name x pos) (yi i):=⟨Be hN hv hd Ni⟩
theorem GD {v:V}(h:Ff X.mg x v)(hg:Gl X x:=by rfl)(hd:(x==("__debug__":Str))=false:=by decide):QE X (.Name x pos) (tC v):=⟨BP h hg hd⟩
theorem CT (n:String)(hm:X.mg x=none)(hv:bootBuiltins x=some (.type n))(hg:Gl X x:=by rfl)(hn:x≠"__name__":=by decide)(hd:(x==("__debug__":Str))=false:=by decide):QE X (.Name x pos) (tC (.ty n)):=⟨yR hg hm hv rfl hn hd⟩
theorem B6 {op:Operator}{r:R2}(ho:OpR X (binaryOp op) r)(ha:QE X a ta)(hb:QE X b tb):QE X (.BinOp a op b pos) (zr r ta tb):=⟨CZ ho ha.r hb.r⟩
theorem GZ {op:UnaryOp}{r:V->Hp->VK->Prop}(ho:FA X (unaryOp op) r)(ha:QE X a ta):QE X (.UnaryOp op a pos) (GA r ta):=⟨DY ho ha.r⟩
theorem GC (ha:QE X a ta):QE X (.UnaryOp .Not a pos) (vd ta):=⟨Ci ha.r⟩
theorem AN {op}(h:QE X a ta):QE X (.BoolOp op [a] pos) ta:=⟨CO h.r⟩
theorem Fm (ha:QE X a ta)(hb:QE X (.BoolOp .And (b::U7) pos) tb):QE X (.BoolOp .And (a::b::U7) pos) (vE ta tb):=⟨AG ha.r hb.r⟩
theorem Hv (ha:QE X a ta)(hb:QE X (.BoolOp .Or (b::U7) pos) tb):QE X (.BoolOp .Or (a::b::U7) pos) (Ca ta tb):=⟨Fl ha.r hb.r⟩
theorem dy {op:CmpOp}{r:R2}(ho:OpR X (compareOp op) r)(ha:QE X a ta)(hb:QE X b tb)(hm:behindInMarks op b=false):QE X (.Compare a [op] [b] pos) (zr r ta tb):=⟨zq ho ha.r hb.r hm⟩
theorem u4 {op:CmpOp}{r:R2}(ho:OpR X (compareOp op) r)(ha:QE X a ta)(hb:QE X b tb)(hm:behindInMarks op b=false):QT X (.Compare a [op] [b] pos) (wY (zr r ta tb)):=⟨zL ho ha.r hb.r hm⟩
theorem Ed (hc:QT X c tA)(ha:QE X a ta)(hb:QE X b tb):QE X (.IfExp c a b pos) (GI tA ta tb):=⟨uZ hc.r ha.r hb.r⟩
theorem Fq:QO X none mH:=⟨yp⟩
theorem CV (h:QE X e te):QO X (some e) (xm te):=⟨zH h.r⟩
theorem EE {lo hi:Option Expr}{tl th:TO}{r:V->Option Int->Option Int->Hp->VK->Prop}(hr:SlR X r)(he:QE X e te)(hl:QO X lo tl)(hu:QO X hi th):QE X (.Subscript e (.Slice lo hi none p2) pos) (FN r te tl th):=⟨xi hr he.r hl.r hu.r⟩
theorem k7 {r:R2}(hr:IxR X r)(ha:QE X a ta)(hb:QE X b tb)(hs:rf b):QE X (.Subscript a b pos) (zr r ta tb):=⟨DN hr ha.r hb.r hs⟩
theorem bR (h:QA X es t):QE X (.List es pos) (BV t):=⟨BN h.r⟩
theorem G3 {x1}(h:QA X es t):QE X (.Tuple es x1 pos) (AF t):=⟨Bz h.r⟩
theorem uH:QE X (.Dict [] [] pos) vv:=⟨xn⟩
theorem j6:QA X [] sQ:=⟨Bq⟩
theorem i9 (ha:QE X e te)(hr:QA X es t)(h:u9 e=true:=by rfl):QA X (e::es) (qD te t):=⟨Hr ha.r hr.r h⟩
theorem qB {r:List V->Hp->VK->Prop}(hc:CallR X (.builtin QU) r)(hm:X.mg x=none)(hv:bootBuiltins x=some (.builtin QU))(ha:QA X (e::es) t)(hg:Gl X x:=by rfl)(hn:x≠"__name__":=by decide)(r_:(x==("__debug__":Str))=false:=by decide)
  (h:A7 (e::es)=true:=by rfl):QE X (.Call (.Name x p) (e::es) [] pos) (Av r t):=⟨cB hc hm hv ha.r hg hn r_ h⟩
theorem fu {r:List V->Hp->VK->Prop}(hc:CallR X (.type T) r)(hm:X.mg x=none)(hv:bootBuiltins x=some (.type T))(ha:QA X (e::es) t)(hg:Gl X x:=by rfl)(hn:x≠"__name__":=by decide)(r_:(x==("__debug__":Str))=false:=by decide)
  (h:A7 (e::es)=true:=by rfl):QE X (.Call (.Name x p) (e::es) [] pos) (Av r t):=⟨Hg hc hm hv ha.r hg hn r_ h⟩
theorem qC {CX:mR}{k:Nat}{ps:List Str}{n_:List V}{sp:Sp}{E:XK}(C:K3 X.prog X.w X.K X.mg X.base CX k x ps n_ sp)(hr:Room k X.A)(hx:cU CX X E)(ha:QA X (e::es) t)(hg:Gl X x:=by rfl)
  (r_:(x==("__debug__":Str))=false:=by decide) (h:A7 (e::es)=true:=by rfl):QE X (.Call (.Name x p) (e::es) [] pos) (nv sp n_ E t):=⟨cC C hr hx ha.r hg r_ h⟩
theorem qM {name:Str}{r:V->List V->Hp->VK->Prop}(pa:PlainAttrs T)(slot:Slot T name QU)(PZ:typeOf (.builtin QU)=pure (.type "method_descriptor"))(hm:uL X QU r)(K:Qc)(ho:QE X o to)(ha:QA X (e::es) t)(hK:X.K=K:=by rfl)
  (g_:attributeBase o name X.env (eval o X.env)=eval o X.env:=by rfl)
  (h:A7 (e::es)=true:=by rfl) (h2:decide ((e::es).length<30)=true:=by rfl) (h_:(apos.endLine==b_.line)=true:=by rfl):QE X (.Call (.Attribute o name apos) (e::es) [] b_) (GB K T r to t):=by
 have h':(u9 e&&A7 es)=true:=h
 rw[Io] at h'
 have p_:∀{l:List Expr},A7 l=true->(backTo b_ (starEach l X.env)).all (λx=>!x.1)=true:=fun{l} hl=>by
  have q:=aX (env:=X.env) (pos:=b_) hl;rw[IH];intro y hy;rw[Oi] at q;simpa using q y hy
 subst hK
 refine⟨DD pa slot PZ hm ho.r ha.r g_ ?_ h_ (J0 h'.1) (aX h'.2)⟩
 rw[p_ h]
 show(true&&true&&decide ((e::es).length+0+0<30))=true
 simpa using h2
theorem ER {name:Str}{r:V->List V->Hp->VK->Prop}(pa:PlainAttrs T)(slot:Slot T name QU)(PZ:typeOf (.builtin QU)=pure (.type "method_descriptor"))(hm:uL X QU r)(K:Qc)(ho:QE X o to)(hK:X.K=K:=by rfl)
  (g_:attributeBase o name X.env (eval o X.env)=eval o X.env:=by rfl) (h_:(apos.endLine==b_.line)=true:=by rfl):QE X (.Call (.Attribute o name apos) [] [] b_) (AS K T r to):=⟨hK▸CL pa slot PZ hm ho.r g_ h_⟩
theorem E7 {own:List Str}{js:List Nat}{scope:Scope}{tg iter elt:Expr}{ifs:List Expr}{g:TG}{ti:TT}{wi:mQ}(S:CU X own js scope=true)(hc:X.calm=true)(hit:QI X tg iter wi)
  (hg:∀C s H fp,QG (cu X own js scope C s H fp) tg g) (hi:∀C s H fp,Fu (cu X own js scope C s H fp) ifs ti) (he:∀C s H fp,QE (cu X own js scope C s H fp) elt te)
  (hs:∀x,foldedSetIterable iter X.env x=pure x:=by intro _;rfl):QE X (.ListComp elt [⟨tg,iter,ifs,0⟩] scope pos) (iP own js wi g ti te):=
 ⟨tJ S hc hit.r (λC s H fp=>(hg C s H fp).r) (λC s H fp=>(hi C s H fp).r) (λC s H fp=>(he C s H fp).r) hs⟩
theorem aM:Fu X [] AX:=⟨Dk⟩
theorem iS (h:QT X c tA):Fu X [c] tA:=⟨FZ h.r⟩
theorem cS (ha:QT X a tA):QT X (.UnaryOp .Not a pos) (CK tA):=⟨Cs ha.r⟩
theorem N2 (K:Qc)(ha:QE X a ta)(h:X.K=K:=by rfl)(he:∀whole,isTrue a X.env whole=(do let v←whole;standAt a.pos;holding [v] (truthy v)):=by intro _;rfl):QT X a (Cf K ta):=⟨Gh K ha.r h he⟩
theorem pJ (h:QW X a tA):QT X a tA:=⟨h.r.pt⟩
theorem bF (ha:QT X a tA):QW X (.BoolOp .And [a] pos) tA:=⟨zz ha.r⟩
theorem iC (ha:QT X a tA):QW X (.BoolOp .Or [a] pos) tA:=⟨Cy ha.r⟩
theorem cM (ha:QT X a tA)(hb:QW X (.BoolOp .And (b::U7) pos) PY):QW X (.BoolOp .And (a::b::U7) pos) (Bm tA PY):=⟨BR ha.r hb.r⟩
theorem lB (ha:QT X a tA)(hb:QW X (.BoolOp .Or (b::U7) pos) PY):QW X (.BoolOp .Or (a::b::U7) pos) (Gj tA PY):=⟨EC ha.r hb.r⟩
theorem G1 {i:Nat}(hN:X.N.Nodup)(hi:X.N[i]?=some x)(hx:Al X.env.scope x)(hf:X.fn x=true\/X.env.scope.names.lookup x=some .local:=by first|exact .inl rfl|exact .inr rfl|assumption):QG X (.Name x pos) (P8 i):=⟨yt hN hi hx hf⟩
theorem pI:FD X [] CM:=⟨zO⟩
theorem dw {g:TG}{u:pK}(h1:QG X e g)(h2:FD X es u)(h:u9 e=true:=by rfl):FD X (e::es) (qW g u):=⟨gC h1.r h2.r h⟩
theorem pP (K:Qc){k:Nat}{u:pK}(hc:X.calm=true)(hg:FD X es u)(hK:X.K=K:=by rfl)(h:A7 es=true:=by rfl):QG X (.Tuple es k pos) (ve K es.length u):=⟨gT (tg:= .Name Str.empty pos) hc hg.r hK h⟩
theorem lV {i:Expr}{ti:TE}{u:oU}(ho:QE X o to)(hi:QE X i ti)(hs:tM X u)
  (ha:∀v,assign (.Subscript o i pos) X.env v=(do
   let ov←holding [v] (eval o X.env)
   let iv←holding [v,ov] (eval i X.env)
   standAt pos
   holding [v,ov,iv] (setItem ov iv v)
   release [v,ov,iv] []):=by intro _;rfl):QG X (.Subscript o i pos) (yn to ti u):=⟨AZ ho.r hi.r hs ha⟩
theorem N7 (K:Qc){tg:Expr}(hl:QE X a ta)(h:X.K=K:=by rfl):QI X tg a (FH K ta):=⟨Hb K hl.r h⟩
def Cj (wi:TI):mQ:=λσ H R=>wi σ H λJ H'=>R J id H'
theorem Dz {wi:TI}{σ:St}{H:Hp}{R:It->(Hp->Hp)->Hp->Prop}(q:wi σ H λJ H'=>R J id H'):Cj wi σ H R:=q
theorem eX {tg:Expr}(hm:X.mg "range"=none)(ha:QA X [a] t)(hg:Gl X "range":=by rfl)(h:u9 a=true:=by rfl):QI X tg (.Call (.Name "range" p) [a] [] pos) (Cj (wR t)):=⟨(ug hg hm ha.r (J0 h)).two⟩
theorem R6 {elts:List Expr}{x1}{j_:Pos}(ho:QE X o to)
  (g_:attributeBase o "items" X.env (eval o X.env)=eval o X.env:=by rfl) (h_:(apos.endLine==b_.line)=true:=by rfl):QI X (.Tuple elts x1 j_) (.Call (.Attribute o "items" apos) [] [] b_) (pU to):=⟨vg ho.r g_ h_⟩
variable {st:Stmt} {YV body orelse:List Stmt} {u u':TS} {g:TG}
theorem ck:QSs X [] ye:=⟨zC⟩
theorem B0 (h:QS X st u):QSs X [st] u:=⟨zk h.r⟩
theorem u7 (h1:QS X st u)(h2:QSs X YV u'):QSs X (st::YV) (wC u u'):=⟨uW h1.r h2.r⟩
theorem j8 {i:Nat}{pos':Pos}(hN:X.N.Nodup)(hi:X.N[i]?=some x)(hx:Al X.env.scope x)(he:QE X e te)(hs:swapsWith e (some (.Name x pos')) pos.line X.env=pure false:=by rfl)(hf:X.fn x=true\/X.env.scope.names.lookup x=some .local:=by first|exact .inl rfl|exact .inr rfl):
  QS X (.Assign [.Name x pos'] e pos) (pL te (P8 i)):=⟨CF hN hi hx he.r hs hf⟩
theorem aw {tg:Expr}(he:QE X e te)(hg:QG X tg g)(hs:swapsWithSole [tg] e pos.line X.env=pure false:=by rfl)(hw:swappedStores [tg] e X.env=pure none:=by rfl)(h:u9 tg=true:=by rfl):QS X (.Assign [tg] e pos) (pL te g):=
 ⟨Ax he.r hg.r hs hw (by rw[rN h];rfl)⟩
theorem aU (hc:QT X c tA)(ht:QSs X body u)(he:QSs X orelse u'):QS X (.If c body orelse pos) (Bt tA u u'):=⟨EA hc.r ht.r he.r⟩
theorem A0 (he:QE X e te):QS X (.Return (some e) pos) (Cz te):=⟨Bn he.r⟩
theorem oP (he:QE X e te)(hs:swapsWith e none pos.line X.env=pure false:=by rfl):QS X (.Expr e pos) (wo te):=⟨ze he.r hs⟩
theorem P2 {tg iter:Expr}{wi:mQ}(hp:PassesOwn (model X.prog X.w) X.A X.env X.xe)(hc:X.calm=true)(hi:QI X tg iter wi)(hg:QG X tg g)(hb:QSs X body u)(hs:∀x,foldedSetIterable iter X.env x=pure x:=by intro _;rfl):QS X (.For tg iter body [] pos) (vV wi g u):=
 ⟨yJ hp hc hi.r hg.r hb.r hs⟩
theorem BI (hp:PassesOwn (model X.prog X.w) X.A X.env X.xe)(hc:QT X c tA)(hb:QSs X body u):QS X (.While c body [] pos) (wL tA u):=⟨vp hp hc.r hb.r⟩
end
theorem aq:∀{ss:List Str} {us:List Value},Vals (ss.map V.str) us->StrsAre us ss
 |[],_,.nil=> .nil
 |x::ss,_,.cons r t=>by
  obtain⟨k,rfl⟩:=r;exact .cons x k (aq t)
theorem af:∀{us:List Value} {ss:List Str},StrsAre us ss->Vals (ss.map V.str) us
 |_,_,.nil=> .nil
 |_,_,.cons y t r=> .cons ⟨t,rfl⟩ (af r)
theorem V6:∀{xs:List V} {us:List Value},xs.length=us.length->(∀(i:Nat) x u,xs[i]?=some x->us[i]?=some u->RelV x u)->Vals xs us
 |[],[],_,_=> .nil
 |[],_::_,h,_=>by simp at h
 |_::_,[],h,_=>by simp at h
 |x::xs,u::us,h,k=> .cons (k 0 x u rfl rfl) (V6 (by simpa using h) λi y v e1 e2=>k (i+1) y v (by simpa using e1) (by simpa using e2))
section
variable {X:Cx}
theorem Inv.newL {pins:List (Addr×Obj)}{σ:St}{H:Hp}{s:Shared}{h':Heap}{tk:Nat}{a:Addr}{xs:List V}{out:Array Value}{e:Nat}(I:Inv X pins σ H s)(k:∀b u,s.heap.get? b=some u->h'.get? b=some u)(ha:s.heap.objs.size<=a)
  (ho:h'.get? a=some {cls:= .type "list",data:= .seq out e}) (rv:Vals xs out.toList) (hz:xs.length<=sizeLine):Inv X pins σ (p0 H a (.lst xs)) {s with heap:=h',toks:=tk}:=
 I.laid k ha ⟨hz,out.toList,e,rv,by rw[ho]⟩
theorem ObjOk.live {P:Program}{w:World}{H:Hp}{h:Heap}{a:Addr}{o:HO}(x:ObjOk P w H h a o):∃ob,h.get? a=some ob:=by
 cases o with
 |lst xs=>obtain⟨_,_,_,_,e⟩:=x;exact⟨_,e⟩
 |tup xs=>obtain⟨_,_,_,o,e,_⟩:=x;exact⟨_,e⟩
 |dK kvs=>obtain⟨_,_,_,_,o,_,_,e,_⟩:=x;exact⟨_,e⟩
 |dT kvs=>obtain⟨_,_,_,_,o,_,_,e,_⟩:=x;exact⟨_,e⟩
 |set S n=>obtain⟨o,_,_,_,e,_⟩:=x;exact⟨_,e⟩
 |ins C dx fs=>obtain⟨_,_,_,e,_⟩:=x;exact⟨_,e⟩
 |own y=>exact x
 |xd fs=>obtain⟨_,⟨_,_,_,e,_⟩,_⟩:=x;exact⟨_,e⟩
 |rng lo hi=>obtain⟨_,_,_,e⟩:=x;exact⟨_,e⟩
 |frz ob u=>obtain⟨e,_⟩:=x;exact⟨_,e⟩
 |tbl ps=>exact⟨_,(show h.get? a=some _ from x)⟩
 |met f y=>exact⟨_,(show h.get? a=some _ from x)⟩
 |ext φ=>obtain⟨_,e,_⟩:=x;exact e
theorem Inv.newN {pins:List (Addr×Obj)}{σ:St}{H:Hp}{s:Shared}{h':Heap}{tk:Nat}{a:Addr}{xs:List V}{out:Array Value}{e:Nat}(I:Inv X pins σ H s)(k:∀b u,s.heap.get? b=some u->h'.get? b=some u)(hn:s.heap.get? a=none)
  (ho:h'.get? a=some {cls:= .type "list",data:= .seq out e}) (rv:Vals xs out.toList) (hz:xs.length<=sizeLine):H a=none/\Inv X pins σ (p0 H a (.lst xs)) {s with heap:=h',toks:=tk}:=by
 have hH:H a=none:=by
  cases q:H a with
  |none=>rfl
  |some u=>
   obtain⟨ob,z⟩:=(I.hok a u q).live
   rw[hn] at z;cases z
 have na:∀b o,s.heap.get? b=some o->b≠a:=λb o z w=>by rw[w,hn] at z;cases z
 have nh:∀b u,H b=some u->b≠a:=λb u z=>i8 z hH
 refine⟨hH,I.un ⟨λb o z n _ _=>k b o z,λb o z n _ _=>⟨o.slots,k b o z⟩,λb o z n _=>by rw[b7 (na b o z)];exact n,λb o z _=>⟨o,k b o z⟩,λb ys z=>by rw[b7 (nh b _ z)];exact z,
  λb ob u z=>by rw[b7 (nh b _ z)];exact z,λb ps z=>⟨#[],by rw[b7 (nh b _ z)];simpa using z⟩⟩ λb u z=>?_⟩
 by_cases hb:b=a
 .subst hb
  rw[b9] at z;cases z
  exact⟨hz,out.toList,e,rv,by rw[ho]⟩
 .rw[b7 hb] at z
  exact(I.hok b u z).stay (λc v _ y=>k c v y) (λc y=>by rw[b7 (nh c _ y)];exact y) λc ys y=>by rw[b7 (nh c _ y)];exact y
def lM (K:Qc):List V->Hp->VK->Prop:=λxs H Q=>∃(p:Addr) (ss:List Str),xs=[.ref p]/\(SqL K H p (ss.map V.str)\/∃kvs:List (j3×V),Rd H p (.dK kvs)/\kvs.map (·.1)=ss.map Sum.inr)/\ss.length<64/\
 ∀MM:List Str,MM.Perm ss->sortedS MM=true->∀l,H l=none->Q (.ref l) (p0 H l (.lst (MM.map V.str)))
theorem uq {M:Program}{w:World}{A:Around}{E:Value->Shared->Prop}{s:Shared}{a:Addr}{vs:List Value}{ss:List Str}{n:Nat}{Q:Value->Shared->Prop}(ho:s.heap.get? a=some (seqObj "list" vs.toArray n))(hS:StrsAre vs ss)(UO:vs.length<64)
  (h:∀(out:Array Value) (MM:List Str),StrsAre out.toList MM->MM.Perm ss->sortedS MM=true->Q .none {s with heap:=sortedHeap s.heap a vs out}):
  wpAny (model M w) A (call (.builtin "list.sort") [.ref a]) Q E s:=by
 refine KJ PySem.F.slot_list_sort ⟨_,ho,rfl⟩ PySem.F.entry_list_sort ?_ (PySem.F.args_list_sort_1 _)
 refine list_sort_treeK strKind_oneLt ho hS.keysOf (λv₁ v₂ U7 e=>keyKind_strs (by rw[←e];exact hS)) UO λMO hp hs=>?_
 obtain⟨MM,h1,h2,h3⟩:=sorted_out_str hS hp hs
 exact⟨_,rfl,h _ MM h1 h2 h3⟩
theorem lT (hc:X.calm=true):CallR X (.builtin "sorted") (lM X.K):=by
 intro pins s σ H xs us Q I r h;obtain⟨p,ss,rfl,hx,UO,q⟩:=h;obtain⟨u,rfl,ru⟩:=K1 r;cases ru;have Sl:(64:Nat)<=sizeLine:=by decide
 rcases hx with hx|⟨kvs,hx,hk⟩
 .obtain⟨a_,rv,ht,hz⟩:=I.list hx;have hS:=aq rv;have hl:a_.length=ss.length:=by have:=rv.length;simpa using this.symm
  refine sorted_strs ht.isList hS (by lia) λout MM a1 a2 a3=>?_;obtain⟨e,he⟩:=sortedAll_at s.heap a_ out;have Py:=a2.length_eq;exact⟨.ref (s.heap.objs.size+1),_,I.newL (tk:=s.toks) (λ_ _=>sortedAll_old) (LM _) he (af a1) (by rw[HI];lia),rfl,q MM a2 a3 _ (I.hok.fresh (LM _))⟩
 .obtain⟨hd,o,vs,ep,ho,D⟩:=eJ I.hok hx;have dat:=D.at_ _ ho;have hlen:kvs.length=ss.length:=by have:=Jm List.length hk;simpa using this
  have H_:=KV.length D.kv;refine Calls.call_function_entry kind_sorted plain_sorted entry_sorted (args_sorted1 _) ?_;unfold Builtin.«sorted»;refine HR (m:=checkCount "sorted" 1 1 _) (Ig ?_);refine HR (PySem.W.kdu_collect (A:=X.A.in1) (PySem.W.kdl_dict (knd:=l0 X.prog X.w) (kvs:=vs) (ep:=ep) hd) (I.ok.hd hc) dat (by lia) λh' tk acc hkp x_=>?_);have hl:acc.toList.length=vs.length:=by rw[KO];exact x_.1
  have hS:StrsAre acc.toList ss:=by
   refine aq (V6 (by rw[HI];lia) λi x u e1 e2=>?_);obtain⟨k,y,hy,VN⟩:=x_.2 i u (by rw[←Kv];exact e2);have e3:(kvs.map (·.1))[i]?=some k:=by rw[KV.keys D.kv,HK,hy];rfl
   rw[hk,HK] at e3;rw[HK] at e1;cases e4:ss[i]? with
   |none=>rw[e4] at e1;cases e1
   |some z=>
    rw[e4] at e1 e3
    cases e1
    cases e3
    exact gN VN
  refine HR (wpAny_newList ?_ (by rw[hl];lia));refine HR (Ji (uq (s:={s with heap:=h'.push {cls:= .type "list",data:= .seq acc.toList.toArray},toks:=tk}) (n:=0) (Iq _ rfl) hS (by lia) λout MM a1 a2 a3=>?_));obtain⟨e,he⟩:=sortedHeap_at (h:=h'.push {cls:= .type "list",data:= .seq acc.toList.toArray}) (a:=h'.objs.size) (vs:=acc.toList) (n:=0) (out:=out) (Iq _ rfl);have k_:s.heap.get? h'.objs.size=none:=by
   cases z:s.heap.get? h'.objs.size with
   |none=>rfl
   |some ob=>exact absurd (HZ (hkp _ _ z)) (Jo _)
  have Py:=a2.length_eq;obtain⟨hH,I2⟩:=I.newN (tk:=tk) (h':=sortedHeap (h'.push {cls:= .type "list",data:= .seq acc.toList.toArray}) h'.objs.size acc.toList out) (xs:=MM.map V.str) (λb u eb=>by
   have hb:=HZ (hkp b u eb);rw[sortedHeap_old (b:=b) (Im hb) (by rw[Nt];exact Nat.lt_succ_of_lt hb)];exact HS _ (hkp b u eb)) k_ he (af a1) (by rw[HI];lia)
  exact Ig ⟨_,rfl,.ref h'.objs.size,_,I2,rfl,q MM a2 a3 _ hH⟩
def ni (K:Qc):List V->Hp->VK->Prop:=λxs H Q=>(∃p ys,xs=[.ref p]/\(SqL K H p ys\/SqT K H p ys)/\∀l,H l=none->Q (.ref l) (p0 H l (.lst ys)))\/
 (∃(p:Addr) (kvs:List (j3×V)),xs=[.ref p]/\Rd H p (.dK kvs)/\∀l,H l=none->Q (.ref l) (p0 H l (.lst (kvs.map λkv=>kV kv.1))))
theorem qp (hc:X.calm=true):CallR X (.type "list") (ni X.K):=by
 refine call_list_of.or ?_;intro pins s σ H xs us Q I r h;obtain⟨p,kvs,rfl,hx,q⟩:=h;obtain⟨u,rfl,ru⟩:=K1 r;cases ru;obtain⟨hd,o,vs,ep,ho,D⟩:=eJ I.hok hx;have H_:=KV.length D.kv;have hz:kvs.length<=sizeLine:=(N0 I.hok hx).1;refine PySem.W.kdl_call (PySem.W.kdl_dict (knd:=l0 X.prog X.w) (kvs:=vs) (ep:=ep) hd) (I.ok.hd hc) (D.at_ _ ho) (by lia) λh' tk acc c hkp hS x_=>?_;refine⟨.ref s.heap.objs.size,_,I.newL (tk:=tk) hkp (HJ _) hS (V6 (by have:=x_.1;simp;lia) λi x u e1 e2=>?_) (by rw[HI];exact hz),rfl,q _ (I.hok.fresh (HJ _))⟩;obtain⟨k,y,hy,VN⟩:=x_.2 i u (by rw[←Kv];exact e2);rw[HK] at e1;cases e4:kvs[i]? with
 |none=>rw[e4] at e1;cases e1
 |some kv=>
  rw[e4] at e1
  cases e1
  have e3:(kvs.map (·.1))[i]?=some kv.1:=by rw[HK,e4];rfl
  rw[KV.keys D.kv,HK,hy] at e3
  cases e3
  exact gN VN
def zX:List V->Hp->VK->Prop:=λxs H Q=>∃(p:Addr) (kvs:List (j3×V)),xs=[.ref p]/\Rd H p (.dK kvs)/\∀l,H l=none->Q (.ref l) (p0 H l (.dK kvs))
theorem pF:CallR X (.type "dict") zX:=by
 intro pins s σ H xs us Q I r h;obtain⟨p,kvs,rfl,hx,q⟩:=h;obtain⟨u,rfl,ru⟩:=K1 r;cases ru;exact vm I hx λl s' hl I'=>⟨.ref l,_,I',rfl,q l hl⟩
def rE:R2:=λx y H Q=>rI CMul (λi j=> .int (i*j)) x y H Q\/(∃z n,x= .str z/\y= .int n/\z.length<=1000/\-1000<=n/\n<=1000/\Q (.str (Txt.mul z n)) H)
theorem op_mulY:OpR X (binaryOp .Mult) rE:=by
 refine op_mul.or ?_;intro pins s σ H x y v u Q I rx ry h;obtain⟨z,n,rfl,rfl,h1,h2,h3,q⟩:=h;obtain⟨t,rfl⟩:=rx;obtain⟨t',rfl⟩:=ry;exact SB.mul (mulOk_of 1000 1000 h1 h3 (by lia) (by decide) (by decide)) λt2 k=>⟨.str _,H,I.tok _,⟨t2,rfl⟩,q⟩
def qH:oU:=λo i v H Q=>zZ o i v H Q\/(∃a H',o= .ref a/\DPut H a i v H'/\Q H')
theorem ym (hu:X.A.units+1<cLine):tM X qH:=by
 intro pins s σ H o i v ov iv u Q I ro ri rv h;rcases h with h|⟨a,H',rfl,g,q⟩
 .exact wV pins s σ H o i v ov iv u Q I ro ri rv h
 .cases ro;exact tW hu I g ri rv λs' I'=>⟨H',I',q⟩
end
section
variable {X:Cx}
theorem Inv.pairNew {pins:List (Addr×Obj)}{σ:St}{H:Hp}{s:Shared}{fp:List Addr}{h':Heap}{tk:Nat}{x y:V}{u v:Value}{e:Nat}(I:Inv X pins σ H s)(hf:∀b∈fp,dO X pins H b)
  (kp:∀b o,b∉fp->s.heap.get? b=some o->h'.get? b=some o) (there:∀b∈fp,b<s.heap.objs.size) (tup:h'.get? s.heap.objs.size=some {cls:= .type "tuple",data:= .seq #[u,v] e}) (rx:RelV x u) (ry:RelV y v):
  H s.heap.objs.size=none/\Inv X pins σ (p0 H s.heap.objs.size (.tup [x,y])) {s with heap:=h',toks:=tk}/\∀b∈fp,p0 H s.heap.objs.size (.tup [x,y]) b=none:=by
 have fresh:H s.heap.objs.size=none:=I.hok.fresh (HJ _)
 have VM:∀b o,s.heap.get? b=some o->b≠s.heap.objs.size:=λb o z=>Im (HZ z)
 have hH:∀b w,H b=some w->b≠s.heap.objs.size/\b∉fp:=λb w z=>⟨i8 z fresh,λm=>by rw[(hf b m).1] at z;cases z⟩
 have hok:HOk X.prog X.w (p0 H s.heap.objs.size (.tup [x,y])) h':=λb w z=>by
  by_cases hb:b=s.heap.objs.size
  .subst hb;rw[b9] at z;cases z;exact⟨by show 2<=sizeLine;decide,[u,v],.cons rx (.cons ry .nil),⟨_,tup,rfl,_,rfl⟩⟩
  .rw[b7 hb] at z;refine(I.hok b w z).stay (λc ob hc q=>kp c ob ?_ q) (λc q=>by rw[b7 (hH c _ q).1];exact q) λc ys q=>by rw[b7 (hH c _ q).1];exact q
   rcases hc with m|m
   .rw[m];exact(hH b _ z).2
   .exact(hH c _ m).2
 refine⟨fresh,I.call' (s':={s with heap:=h',toks:=tk}) (ch:=fp) rfl ⟨λb o z n _ hx=>kp b o hx z,λb o z n _ hx=>⟨o.slots,kp b o hx z⟩,λb o z n _=>by rw[b7 (VM b o z)];exact n,
  λb o z hx=>⟨o,kp b o hx z⟩,λb ys z=>by rw[b7 (hH b _ z).1];exact z,λb ob w z=>by rw[b7 (hH b _ z).1];exact z,λb ps z=>⟨#[],by rw[b7 (hH b _ z).1];simpa using z⟩⟩ hok I.bare λb hb=>?_,λb hb=>?_⟩
 .obtain⟨f0,f1,f2,f3,f4,f5⟩:=hf b hb
  exact⟨f3,f1,f4,f5⟩
 .rw[b7 (Im (there b hb))];exact(hf b hb).1
theorem Inv.turnedAll {pins:List (Addr×Obj)}{σ:St}{H:Hp}{s:Shared}{fp:List Addr}{h':Heap}{tk:Nat}(I:Inv X pins σ H s)(hf:∀b∈fp,dO X pins H b)
  (kp:∀b o,b∉fp->s.heap.get? b=some o->h'.get? b=some o):Inv X pins σ H {s with heap:=h',toks:=tk}:=by
 have hH:∀b w,H b=some w->b∉fp:=λb w z m=>by rw[(hf b m).1] at z;cases z
 refine I.call' (s':={s with heap:=h',toks:=tk}) (ch:=fp) rfl ⟨λb o z n _ hx=>kp b o hx z,λb o z n _ hx=>⟨o.slots,kp b o hx z⟩,λb o z n _=>n,
  λb o z hx=>⟨o,kp b o hx z⟩,λb ys z=>z,λb ob w z=>z,λb ps z=>⟨#[],by simpa using z⟩⟩ (λb w z=>?_) I.bare λb hb=>?_
 .refine(I.hok b w z).stay (λc ob hc q=>kp c ob ?_ q) (λc q=>q) λc ys q=>q
  rcases hc with m|m
  .rw[m];exact hH b _ z
  .exact hH c _ m
 .obtain⟨f0,f1,f2,f3,f4,f5⟩:=hf b hb
  exact⟨f3,f1,f4,f5⟩
end
def FU (K:Qc)(l:Addr):It:=
 ⟨λi H=>∃xs x,SqL K H l xs/\xs[i]?=some x,λi H x H'=>∃t v,(∀xs,SqL K H l xs->xs[i]?=some v)/\H t=none/\x= .ref t/\H'=p0 H t (.tup [.int i,v]),λi H=>∃xs,SqL K H l xs/\xs.length<=i⟩
theorem sk {P:Program}{w:World}{K:Qc}{elts:List Expr}{x1}{j_:Pos}{en it l:Addr}(C_:en≠it):eT P w K (.Tuple elts x1 j_) (FU K l) [en,it] en (λi h=>∃old,IsEnum h en it i old/\h.IsListIter it l i) where
 mem:=by simp
 obj:=λi h st b hb=>by
  obtain⟨old,h1,o,e,c,d⟩:=st;have o_:b=en\/b=it:=by simpa using hb
  rcases o_ with rfl|rfl
  .exact⟨_,h1,λv z=>by
    have z':Data.fields _=Data.cell v:=z;cases z'⟩
  .exact⟨o,e,λv z=>by rw[d] at z;cases z⟩
 keep:=λi h h' st k=>by
  obtain⟨old,h1,h2⟩:=st;exact⟨old,k en (by simp) _ h1,h2.at λo e=>k it (by simp) o e⟩
 item:=by
  intro X hP hw hK hc i pins s σ H E I hf st hg;subst hP hw hK;obtain⟨old,Pa,ML⟩:=st;obtain⟨xs,x,hq,hx⟩:=hg;obtain⟨a_,rv,p,hz⟩:=I.list hq;obtain⟨u,hu,ru⟩:=rv.get hx;have PB:en<s.heap.objs.size:=HZ Pa;have hit:it<s.heap.objs.size:=by obtain⟨o,e,_⟩:=ML;exact HZ e
  refine wpAny_pyNext_enum_item Pa ML p.isList (x:=u) (by simpa using hu) C_ λh' QM hit1 ht1 VO Ry=>?_;refine⟨.ref s.heap.objs.size,rfl,wpAny_letOwnedTupleGo_enum (s:={s with heap:=h',toks:=s.toks+1}) QM λG' he'' hs''=>?_⟩;have Nm:Heap.SameBut en h' G':=hs'';have O':G'.get? s.heap.objs.size=some {cls:= .type "tuple",data:= .seq #[.int i s.toks,u]}:=Nm.extBut _ _ (LY PB) ht1;obtain⟨fr,I1,VP⟩:=I.pairNew (fp:=[en,it]) (h':=G') (tk:=s.toks+1) (x:= .int i) (y:=x) hf (λb o hb e=>by
   have o_:b≠en/\b≠it:=by simpa using hb
   exact Nm.extBut b o o_.1 (Ry b o o_.1 o_.2 e)) (λb hb=>by
   have o_:b=en\/b=it:=by simpa using hb
   rcases o_ with rfl|rfl
   .exact PB
   .exact hit) O' ⟨_,rfl⟩ ru
  refine⟨.ref s.heap.objs.size,_,I1,rfl,⟨_,x,λys hy=>by rw[I.list_inj hy hq];exact hx,fr,rfl,rfl⟩,⟨_,he'',?_⟩,VP⟩;exact hit1.at λo e=>Nm.extBut it o (JC C_) e
 done:=by
  intro X hP hw hK hc i pins s σ H E I hf st hg;subst hP hw hK;obtain⟨old,Pa,ML⟩:=st;obtain⟨xs,hq,hx⟩:=hg;obtain⟨a_,rv,p,hz⟩:=I.list hq;have hl:=rv.length;exact wpAny_pyNext_enum_end (I.ok.hd hc) Pa ML p.isList (by simp;lia) λh' eb=>⟨rfl,I.turnedAll (fp:=[en,it]) (tk:=s.toks) hf λb o hb e=>eb b o (by
   have o_:b≠en/\b≠it:=by simpa using hb
   exact o_.2) e⟩
 self:=λ_ _ _ _ _ st h=>by
  obtain⟨old,Pa,ML⟩:=st;exact wpAny_pyIter_enum Pa h
section
variable {X:Cx} {a b:Expr} {t:TA} {p pos:Pos}
end
def Gy (K : Qc) (l m : Addr) : It :=
  ⟨λi H => ∃ xs ys x y, SqL K H l xs /\ SqL K H m ys /\ xs[i]? = some x /\ ys[i]? = some y,
   λi H v H' => ∃ t x y, (∀ xs, SqL K H l xs -> xs[i]? = some x) /\ (∀ ys, SqL K H m ys -> ys[i]? = some y) /\ H t = none /\ v = .ref t /\ H' = p0 H t (.tup [x, y]),
   λi H => ∃ xs ys, SqL K H l xs /\ SqL K H m ys /\ (xs.length <= i \/ ys.length <= i)⟩
theorem A4 {h:Heap}{a b:Addr}{o u:Obj}(e:h.get? a=some o)(e':h.get? b=some u)(n:o.cls≠u.cls):a≠b:=λz=>by
 subst z;rw[e] at e';cases e';exact n rfl
theorem vc {P:Program}{w:World}{K:Qc}{elts:List Expr}{x1}{j_:Pos}{z TI TO i1 i2 l m:Addr}(YW:i1≠i2)(hT:TI≠TO):
  eT P w K (.Tuple elts x1 j_) (Gy K l m) [z,TI,TO,i1,i2] z (λi h=>IsZip h z TI TO .none/\IsPair h TI (.ref i1) (.ref i2)/\(∃a b,IsPair h TO a b)/\h.IsListIter i1 l i/\h.IsListIter i2 m i) where
 mem:=by simp
 obj:=λi h st b hb=>by
  obtain⟨z1,z2,⟨a,c,z3⟩,⟨o4,e4,c4,d4⟩,⟨o5,e5,c5,d5⟩⟩:=st;have o_:b=z\/b=TI\/b=TO\/b=i1\/b=i2:=by simpa using hb
  rcases o_ with rfl|rfl|rfl|rfl|rfl
  .exact⟨_,z1,λv q=>by
    have q':Data.fields _=Data.cell v:=q;cases q'⟩
  .exact⟨_,z2,λv q=>by
    have q':Data.seq _ _=Data.cell v:=q;cases q'⟩
  .exact⟨_,z3,λv q=>by
    have q':Data.seq _ _=Data.cell v:=q;cases q'⟩
  .exact⟨o4,e4,λv q=>by rw[d4] at q;cases q⟩
  .exact⟨o5,e5,λv q=>by rw[d5] at q;cases q⟩
 keep:=λi h h' st k=>by
  obtain⟨z1,z2,⟨a,c,z3⟩,z4,z5⟩:=st;exact⟨k z (by simp) _ z1,k TI (by simp) _ z2,⟨a,c,k TO (by simp) _ z3⟩,z4.at λo e=>k i1 (by simp) o e,z5.at λo e=>k i2 (by simp) o e⟩
 item:=by
  intro X hP hw hK hc i pins s σ H E I hf st hg;subst hP hw hK;obtain⟨z1,z2,⟨a,c,z3⟩,z4,z5⟩:=st;obtain⟨xs,ys,x,y,hq,QV,hx,hy⟩:=hg;obtain⟨a_,rv,p,hz⟩:=I.list hq;obtain⟨its',Sm,p',Rz⟩:=I.list QV;obtain⟨u,hu,ru⟩:=rv.get hx;obtain⟨u',UQ,ru'⟩:=Sm.get hy;obtain⟨o4,e4,c4,d4⟩:=id z4;obtain⟨o5,e5,c5,d5⟩:=id z5;obtain⟨o6,n6,e6,c6,_⟩:=id p;obtain⟨o7,n7,e7,c7,_⟩:=id p';have D:ZipApart z TI TO i1 i2 l m:=
   ⟨A4 z2 z1 (by simp),A4 z3 z1 (by simp),A4 e4 z1 (by rw[c4];simp),A4 e5 z1 (by rw[c5];simp),hT,A4 z2 e4 (by rw[c4];simp),A4 z2 e5 (by rw[c5];simp),A4 z3 e4 (by rw[c4];simp),A4 z3 e5 (by rw[c5];simp),YW,
    A4 e6 z1 (by rw[c6];simp),A4 e6 z3 (by rw[c6];simp),A4 e6 e4 (by rw[c6,c4];simp),A4 e6 e5 (by rw[c6,c5];simp),A4 e7 z1 (by rw[c7];simp),A4 e7 z3 (by rw[c7];simp),A4 e7 e4 (by rw[c7,c4];simp),A4 e7 e5 (by rw[c7,c5];simp)⟩
  refine wpAny_pyNext_zip_item D z1 z2 z3 z4 z5 p.isList p'.isList (x:=u) (y:=u') (by simpa using hu) (by simpa using UQ) λh' a1 a2 a3 a4 a5 a6 a7=>?_;refine⟨.ref s.heap.objs.size,rfl,wpAny_letOwnedTupleGo_zip (s:={s with heap:=h'}) a1 λG' b1 b2=>?_⟩;have Nm:Heap.SameBut z h' G':=b2;have lt:∀b∈[z,TI,TO,i1,i2],b<s.heap.objs.size:=λb hb=>by
   have o_:b=z\/b=TI\/b=TO\/b=i1\/b=i2:=by simpa using hb
   rcases o_ with rfl|rfl|rfl|rfl|rfl
   .exact HZ z1
   .exact HZ z2
   .exact HZ z3
   .exact HZ e4
   .exact HZ e5
  have QX:∀b o,b≠z->h'.get? b=some o->G'.get? b=some o:=λb o hb e=>Nm.extBut b o hb e;obtain⟨fr,I1,VP⟩:=I.pairNew (fp:=[z,TI,TO,i1,i2]) (h':=G') (tk:=s.toks) (x:=x) (y:=y) hf (λb o hb e=>by
   have o_:b≠z/\b≠TI/\b≠TO/\b≠i1/\b≠i2:=by simpa using hb
   exact QX b o o_.1 (a7 b o o_.1 o_.2.2.1 o_.2.2.2.1 o_.2.2.2.2 e)) lt (QX _ _ (LY (HZ z1)) a5) ru ru'
  refine⟨.ref s.heap.objs.size,_,I1,rfl,⟨_,x,y,λzs hs=>by rw[I.list_inj hs hq];exact hx,λzs hs=>by rw[I.list_inj hs QV];exact hy,fr,rfl,rfl⟩,⟨b1,?_,⟨u,u',?_⟩,?_,?_⟩,VP⟩
  .exact QX _ _ D.TIz (a7 TI _ D.TIz D.TITO D.TIi1 D.TIi2 z2)
  .exact QX _ _ D.TOz a2
  .exact a3.at λo e=>QX _ o D.i1z e
  .exact a4.at λo e=>QX _ o D.i2z e
 done:=by
  intro X hP hw hK hc i pins s σ H E I hf st hg;subst hP hw hK;obtain⟨z1,z2,⟨a,c,z3⟩,z4,z5⟩:=st;obtain⟨xs,ys,hq,QV,hx⟩:=hg;obtain⟨a_,rv,p,hz⟩:=I.list hq;obtain⟨its',Sm,p',Rz⟩:=I.list QV;have hl:=rv.length;have Py:=Sm.length;obtain⟨o4,e4,c4,d4⟩:=id z4;obtain⟨o5,e5,c5,d5⟩:=id z5;obtain⟨o6,n6,e6,c6,_⟩:=id p;obtain⟨o7,n7,e7,c7,_⟩:=id p';have D:ZipApart z TI TO i1 i2 l m:=
   ⟨A4 z2 z1 (by simp),A4 z3 z1 (by simp),A4 e4 z1 (by rw[c4];simp),A4 e5 z1 (by rw[c5];simp),hT,A4 z2 e4 (by rw[c4];simp),A4 z2 e5 (by rw[c5];simp),A4 z3 e4 (by rw[c4];simp),A4 z3 e5 (by rw[c5];simp),YW,
    A4 e6 z1 (by rw[c6];simp),A4 e6 z3 (by rw[c6];simp),A4 e6 e4 (by rw[c6,c4];simp),A4 e6 e5 (by rw[c6,c5];simp),A4 e7 z1 (by rw[c7];simp),A4 e7 z3 (by rw[c7];simp),A4 e7 e4 (by rw[c7,c4];simp),A4 e7 e5 (by rw[c7,c5];simp)⟩
  refine wpAny_pyNext_zip_end (I.ok.hd hc) D z1 z2 z3 z4 z5 p.isList p'.isList ?_ λh' eb=>⟨rfl,I.turnedAll (fp:=[z,TI,TO,i1,i2]) (tk:=s.toks) hf λb o hb e=>?_⟩
  .rcases hx with hx|hx
   .exact .inl (by simp;lia)
   .exact .inr (by simp;lia)
  .have o_:b≠z/\b≠TI/\b≠TO/\b≠i1/\b≠i2:=by simpa using hb
   exact eb b o o_.1 o_.2.2.1 o_.2.2.2.1 o_.2.2.2.2 e
 self:=λ_ _ _ _ _ st h=>MG st.1 h
section
variable {X:Cx} {a b:Expr} {t:TA} {p pos:Pos}
def Bp (K:Qc)(ta:TA):TI:=λσ H R=>ta σ H λvs H1=>∃l m xs ys,vs=[.ref l,.ref m]/\SqL K H1 l xs/\SqL K H1 m ys/\R (Gy K l m) H1
theorem Bu {elts:List Expr}{x1}{j_:Pos}(hg:Gl X "zip")(hm:X.mg "zip"=none)(ha:PA X [a,b] t)(hs:starEach [a,b] X.env=[(false,eval a X.env),(false,eval b X.env)])(Nm:starEach [b] X.env=[(false,eval b X.env)]):
  PI X (.Tuple elts x1 j_) (.Call (.Name "zip" p) [a,b] [] pos) (Bp X.K t):=by
 intro pins s σ H R I h
 refine Call_ (ai I hg hm Boot.«zip» (Jk (E9 (ha pos pins s σ H _ I h) λus s1 ⟨vs,H1,I1,r1,q1⟩=>?_) (by rw[hs,Nm]) (by rw[Nm];rfl)))
 obtain⟨l,m,xs,ys,e,hq,QV,q⟩:=q1
 subst e
 obtain⟨u,v,rfl,ru,rv⟩:=V7 r1
 cases ru
 cases rv
 obtain⟨a_,rv,pl,hz⟩:=I1.list hq
 obtain⟨its',Sm,Td,Rz⟩:=I1.list QV
 refine call_zip_2 pl.isList Td.isList λh' z1 z2 z3 z4 z5 hsz hk=>?_
 have I2:Inv X pins σ H1 {s1 with heap:=h'}:=I1.kept (t':=s1.toks) hk
 refine MG (s:={s1 with heap:=h'}) z1 ?_
 refine⟨s1.heap.objs.size+4,[s1.heap.objs.size+4,s1.heap.objs.size+2,s1.heap.objs.size+3,s1.heap.objs.size,s1.heap.objs.size+1],_,_,H1,rfl,I2,vc (l:=l) (m:=m) (show(s1.heap.objs.size:Nat)≠s1.heap.objs.size+1 by lia) (show(s1.heap.objs.size+2:Nat)≠s1.heap.objs.size+3 by lia),⟨z1,z2,⟨_,_,z3⟩,z4,z5⟩,λc hc=>?_,q⟩
 have o_:c=s1.heap.objs.size+4\/c=s1.heap.objs.size+2\/c=s1.heap.objs.size+3\/c=s1.heap.objs.size\/c=s1.heap.objs.size+1:=by simpa using hc
 have hle:s1.heap.objs.size<=c:=by
  rcases o_ with rfl|rfl|rfl|rfl|rfl<;>first|exact Nat.le_add_right _ _|exact HJ _
 exact I1.fpOk hle (I1.hok.fresh hle)
end
section
variable {X:Cx} (K:Qc) {a b:Expr} {t:TA} {p pos:Pos}
theorem F4 (hc:X.calm=true)(h:X.K=K:=by rfl):CallR X (.builtin "sorted") (lM K):=h▸lT hc
theorem AU {elts:List Expr}{x1}{j_:Pos}(hm:X.mg "zip"=none)(ha:QA X [a,b] t)(hg:Gl X "zip":=by rfl)(h:u9 a=true:=by rfl)(h':u9 b=true:=by rfl)(hK:X.K=K:=by rfl):QI X (.Tuple elts x1 j_) (.Call (.Name "zip" p) [a,b] [] pos) (Cj (Bp K t)):=
 ⟨hK▸(Bu hg hm ha.r (by rw[J0 h,J0 h'];rfl) (J0 h')).two⟩
end
theorem z8 {X:Cx}:uL X "list.append" qL:=um
section
variable {K:Qc} {σ:St} {H:Hp} {Q:VK}
theorem z6 {p:Addr}{kvs:List (j3×V)}{ss:List Str}(h:Rd H p (.dK kvs))(hk:kvs.map (·.1)=ss.map Sum.inr)(UO:ss.length<64)(q:∀MM:List Str,MM.Perm ss->sortedS MM=true->∀l,H l=none->Q (.ref l) (p0 H l (.lst (MM.map V.str)))):lM K [.ref p] H Q:=⟨p,ss,rfl,.inr ⟨kvs,h,hk⟩,UO,q⟩
theorem iV {p:Addr}{kvs:List (j3×V)}(h:Rd H p (.dK kvs))(q:∀l,H l=none->Q (.ref l) (p0 H l (.lst (kvs.map λkv=>kV kv.1)))):ni K [.ref p] H Q:= .inr ⟨p,kvs,rfl,h,q⟩
theorem pB {p:Addr}{xs:List V}(h:SqL K H p xs)(q:∀l,H l=none->Q (.ref l) (p0 H l (.lst xs))):ni K [.ref p] H Q:= .inl ⟨p,xs,rfl,.inl h,q⟩
theorem sW {i j:Int}(h:CMul i j)(q:Q (.int (i*j)) H):rE (.int i) (.int j) H Q:= .inl ⟨i,j,rfl,rfl,h,q⟩
theorem tf {z:Str}{n:Int}(h1:z.length<=1000)(h2: -1000<=n)(h3:n<=1000)(q:Q (.str (Txt.mul z n)) H):rE (.str z) (.int n) H Q:= .inr ⟨z,n,rfl,rfl,h1,h2,h3,q⟩
theorem Cn {to ti:TE}{t:oU}{v:V}{Qs:St->Hp->Prop}(q:to σ H λo H1=>ti σ H1 λi H2=>t o i v H2 λH3=>Qs σ H3):yn to ti t v σ H Qs:=q
theorem x6 {a:Addr}{kvs:List (j3×V)}{k:j3}{v:V}{Qh:Hp->Prop}(h:H a=some (.dK kvs))(hl:kvs.length<sizeLine)(q:Qh (p0 H a (.dK (D0 kvs k v)))):qH (.ref a) (kV k) v H Qh:= .inr ⟨a,_,rfl,DPut.k h hl,q⟩
theorem Ez {ta:TA}{R:It->Hp->Prop}(q:ta σ H λvs H1=>∃l m xs ys,vs=[.ref l,.ref m]/\SqL K H1 l xs/\SqL K H1 m ys/\R (Gy K l m) H1):Bp K ta σ H R:=q
theorem J6 {n:Nat}{t:pK}{a:Addr}{xs:List V}{Qs:St->Hp->Prop}(h:SqT K H a xs)(hl:xs.length=n)(q:t xs σ H Qs):ve K n t (.ref a) σ H Qs:=⟨a,xs,rfl,h,hl,q⟩
theorem yU {t:TG}{u:pK}{v:V}{r:List V}{Qs:St->Hp->Prop}(q:t v σ H λσ' H'=>u r σ' H' Qs):qW t u (v::r) σ H Qs:=⟨v,r,rfl,q⟩
theorem CJ {Qs:St->Hp->Prop}(q:Qs σ H):CM [] σ H Qs:=⟨rfl,q⟩
theorem FR {T:String}{r:V->List V->Hp->VK->Prop}{to:TE}{t:TA}(q:to σ H λx H1=>Dj K T x H1/\t σ H1 λxs H2=>r x xs H2 Q):GB K T r to t σ H Q:=q
theorem DV {T:String}{r:V->List V->Hp->VK->Prop}{to:TE}(q:to σ H λx H1=>Dj K T x H1/\r x [] H1 Q):AS K T r to σ H Q:=q
theorem P5 {p:Addr}{x:V}{o:Option V}(g:DGet H p x o)(q:Q (.bl o.isSome) H):tm K x (.ref p) H Q:= .inr (.inr ⟨p,o,rfl,g,q⟩)
theorem V3 {p:Addr}{x:V}{o:Option V}(g:DGet H p x o)(q:Q (.bl (!o.isSome)) H):gW K x (.ref p) H Q:= .inr (.inr ⟨p,o,rfl,g,q⟩)
theorem xh {p:Addr}{x:V}{xs:List V}(h:SqL K H p xs\/SqT K H p xs)(h1:D6 x=true)(h2:xs.all D6=true)(q:Q (.bl (Dv x xs)) H):tm K x (.ref p) H Q:= .inr (.inl ⟨p,xs,rfl,h,h1,h2,q⟩)
theorem hZ {p:Addr}{xs:List V}{lo hi:Option Int}(h:SqT K H p xs)(hw:¬(HT.sIx xs.length 0 lo=0/\HT.sIx xs.length xs.length hi=xs.length))(q:∀p,H p=none->Q (.ref p) (p0 H p (.tup (cX xs lo hi)))):Fv K (.ref p) lo hi H Q:= .inr (.inl ⟨p,xs,rfl,h,hw,q⟩)
theorem G7 {a:Addr}{kvs:List (j3×V)}{k:j3}(e:Rd H a (.dK kvs)):DGet H a (kV k) (p9 kvs k):= .inl ⟨kvs,k,e,rfl,rfl⟩
end
open PySem.AutoSeq1 (wpAny_loadPart')
def EqP (P:Program)(w:World)(A:Around)(s:Shared)(y x:Value)(b:Bool):Prop:=∀(E:Value->Shared->Prop) (Q:Bool->Shared->Prop),Q b s->wpAny (model P w) A (eqBool y x) Q E s
def RcP (P:Program)(w:World)(A:Around)(s:Shared)(y x:Value)(b:Bool):Prop:=∀(E:Value->Shared->Prop) (Q:Value->Shared->Prop),Q (.bool b) s->wpAny (model P w) A (richCompare .Eq y x) Q E s
theorem EqP.of {P:Program}{w:World}{A:Around}{s:Shared}{y x:Value}{b:Bool}(h:SeqAt.EqAt A s y x b):EqP P w A s y x b:=λE Q q=>h P w E Q q
theorem EqP.refs {P:Program}{w:World}{A:Around}{s:Shared}{l m:Addr}{k:Bool}(C_:l≠m)(h:RcP P w A s (.ref l) (.ref m) k):EqP P w A s (.ref l) (.ref m) k:=λE Q q=>by
 unfold eqBool;refine Ji (wpAny_ite_split (λz=>absurd (Value.ref.inj (eq_of_beq z)) C_) λ_=>HR (h E _ (JD q)))
theorem Bh {P:Program}{w:World}(l m:Addr)(xs ys:Array Value)(n1 n2:Nat)(d1 d2:Option Addr)(s1 s2:Array (Option Value))(f:Nat->Bool):
  MeetsIn P w (Builtin.«tuple.__eq__» ⟨[.ref l,.ref m],[]⟩) (λA R s=>
   s.heap.get? l=some {cls:= .type "tuple",dict:=d1,data:= .seq xs n1,slots:=s1}/\s.heap.get? m=some {cls:= .type "tuple",dict:=d2,data:= .seq ys n2,slots:=s2}/\
   (∀j (g1:j<xs.size) (g2:j<ys.size),EqP P w A.in1 s xs[j] ys[j] (f j))/\
   R (.ok (.ret (.bool ((List.range (min xs.size ys.size)).all f&&xs.size==ys.size)))) s):=
 .of_wp λA R s hyp=>by
  obtain⟨hp,gg,dr,tk,os⟩:=s;obtain⟨e1,e2,he,fin⟩:=hyp;have sub:=Mr;have len:(xs.toList.zip ys.toList).length=min xs.size ys.size:=by simp
  wp_walk using wpAny_loadPart' e1,wpAny_loadPart' e2,wpAny_forIn_list _ (λmore acc st=>acc.1=none/\st=⟨hp,gg,dr,tk,os⟩/\∃i,more=(xs.toList.zip ys.toList).drop i/\
   R (.ok (.ret (.bool (((List.range (min xs.size ys.size)).drop i).all f&&xs.size==ys.size)))) ⟨hp,gg,dr,tk,os⟩) _
  case turn=>
   rintro⟨y,x⟩ more acc st ⟨ha,rfl,i,hi,hR⟩
   have lt:i<(xs.toList.zip ys.toList).length:=by
    rcases JA i (xs.toList.zip ys.toList).length with z|z
    .exact z
    .rw[Ko z] at hi;cases hi
   have lm:i<min xs.size ys.size:=len▸lt
   have lx:i<xs.size:=Ib lm (Nat.min_le_left _ _)
   have ly:i<ys.size:=Ib lm (MC _ _)
   rw[Jh lt] at hi
   injection hi with h1 h2
   have q1:y=xs[i]:=by simpa using Jm Prod.fst h1
   have q2:x=ys[i]:=by simpa using Jm Prod.snd h1
   subst q1 q2
   have VQ:(List.range (min xs.size ys.size)).drop i=i::(List.range (min xs.size ys.size)).drop (i+1):=by simp [Jh,lm]
   rw[VQ,Kh] at hR
   refine HR (he i lx ly _ _ ?_)
   cases hf:f i with
   |true=>
    rw[hf] at hR
    wp_walk
    exact⟨rfl,rfl,i+1,h2,by simpa using hR⟩
   |false=>
    rw[hf] at hR
    wp_walk
    exact⟨_,rfl,by simpa using hR⟩
  case fin=>
   rintro⟨c1,c2⟩ st ⟨ha,rfl,i,hi,hR⟩
   simp only at ha
   subst ha
   have ge:min xs.size ys.size<=i:=by
    rcases JA i (xs.toList.zip ys.toList).length with z|z
    .rw[Jh z] at hi;cases hi
    .exact len▸z
   rw[Ko (by simpa using ge)] at hR
   wp_walk
   exact⟨_,rfl,by simpa [Builtin.Tuple.tupleCompareSizes] using hR⟩
  case h=>
   exact⟨rfl,rfl,0,rfl,by simpa using fin⟩
theorem RcP.tup {P:Program}{w:World}{A:Around}{s:Shared}{l m:Addr}{xs ys:Array Value}{f:Nat->Bool}(hl:s.heap.IsTuple l xs)(hm:s.heap.IsTuple m ys)(hu:A.units<cLine)
  (he:∀j (g1:j<xs.size) (g2:j<ys.size),EqP P w A.in1 s xs[j] ys[j] (f j)):RcP P w A s (.ref l) (.ref m) ((List.range (min xs.size ys.size)).all f&&xs.size==ys.size):=λE Q q=>by
 obtain⟨⟨c1,d1,a1,s1⟩,o1,k1,n1,t1⟩:=id hl
 obtain⟨⟨c2,d2,a2,s2⟩,o2,k2,n2,t2⟩:=id hm
 simp only at k1 t1 k2 t2
 subst k1 t1 k2 t2
 refine JO (op:= .Eq) ⟨_,o1,rfl⟩ ⟨_,o2,rfl⟩ MY (Jw MY ⟨_,o1,rfl⟩ PySem.F.entry_tuple_eq (PySem.F.args_tuple_eq_2 _ _) (Bh l m xs ys n1 n2 d1 d2 s1 s2 f) ⟨o1,o2,he,?_⟩) hu
 exact⟨(λz=>nomatch z),q⟩
def R4:List V->List V->Bool
 |[],[]=>true
 |x::xs,y::ys=>dv x y&&R4 xs ys
 |_,_=>false
inductive Eq1 (K:Qc) (H:Hp):V->V->Bool->Prop
 |flat {x y:V}:D6 x=true->D6 y=true->Eq1 K H x y (dv x y)
 |tup {a b:Addr} {xs ys:List V}:SqT K H a xs->SqT K H b ys->xs.all D6=true->ys.all D6=true->Eq1 K H (.ref a) (.ref b) (R4 xs ys)
 |nt {a:Addr} {xs:List V}:SqT K H a xs->Eq1 K H .non (.ref a) false
 |tn {a:Addr} {xs:List V}:SqT K H a xs->Eq1 K H (.ref a) .non false
theorem hJ:∀{x:V},D6 x=true->dv x x=true
 | .non,_=>rfl
 | .bl b,_=>by simp [dv]
 | .int i,_=>by simp [dv]
 | .str x,_=>by simp [dv]
theorem bZ:∀{xs:List V},xs.all D6=true->R4 xs xs=true
 |[],_=>rfl
 |x::xs,h=>by
  rw[Kh,Io] at h;show(dv x x&&R4 xs xs)=true;rw[hJ h.1,bZ h.2];rfl
theorem O1:∀(xs ys:List V),((List.range (min xs.length ys.length)).all (λj=>dv (xs.getD j .non) (ys.getD j .non))&&xs.length==ys.length)=R4 xs ys
 |[],[]=>rfl
 |[],_::_=>by simp [R4]
 |_::_,[]=>by simp [R4]
 |x::xs,y::ys=>by
  have ih:=O1 xs ys;have e:min (x::xs).length (y::ys).length=min xs.length ys.length+1:=by simp
  rw[e,Lm,Kh,JK];show((dv x y&&(List.range (min xs.length ys.length)).all _)&&(xs.length+1==ys.length+1))=(dv x y&&R4 xs ys);rw[←ih,Bool.and_assoc];congr 1;congr 1;simp
section
variable {X:Cx} {pins:List (Addr×Obj)} {σ:St} {H:Hp} {s:Shared} {A:Around}
theorem Eq1.at_ {x y:V}{u v:Value}{b:Bool}(I:Inv X pins σ H s)(h:Eq1 X.K H x y b)(rx:RelV x u)(ry:RelV y v)(hu:A.units+8<cLine):SeqAt.EqAt A s u v b:=by
 cases h with
 |flat fx fy=>exact bV rx ry fx fy
 | @tup a c xs ys ha hc fx fy=>
  cases rx
  cases ry
  obtain⟨a_,r1,p1,z1⟩:=I.tuple ha
  obtain⟨its',r2,p2,z2⟩:=I.tuple hc
  by_cases hac:a=c
  .subst hac
   have e:=I.tuple_inj ha hc
   subst e
   rw[bZ fx]
   exact Ku _
  .have l1:=r1.length
   have l2:=r2.length
   have q:=SeqAt.RcAt.tuples (A:=A) (e:=λj=>dv (xs.getD j .non) (ys.getD j .non)) (show s.heap.IsTuple a a_.toArray from p1) (show s.heap.IsTuple c its'.toArray from p2) (by lia) λj g1 g2=>by
    have Nx:j<a_.length:=by simpa using g1
    have Ny:j<its'.length:=by simpa using g2
    have x1:xs[j]?=some (xs[j]'(by lia)):=by simp [show j<xs.length by lia]
    have y1:ys[j]?=some (ys[j]'(by lia)):=by simp [show j<ys.length by lia]
    obtain⟨u1,Oq,N'⟩:=r1.get x1;obtain⟨u2,Ou,N_⟩:=r2.get y1;have e1:a_.toArray[j]=u1:=by
     have:=HH Nx;rw[Oq] at this;simpa using(Ie this).symm
    have e2:its'.toArray[j]=u2:=by
     have:=HH Ny;rw[Ou] at this;simpa using(Ie this).symm
    rw[e1,e2];have d1:xs.getD j .non=xs[j]'(by lia):=by rw[IG,x1];rfl
    have d2:ys.getD j .non=ys[j]'(by lia):=by rw[IG,y1];rfl
    rw[d1,d2];exact bV N' N_ (IH.mp fx _ (ID _)) (IH.mp fy _ (ID _))
   have e3:a_.toArray.size=xs.length:=by simp [l1]
   have e4:its'.toArray.size=ys.length:=by simp [l2]
   rw[e3,e4,O1] at q
   exact .of_refs hac q
 | @nt a xs ha=>
  cases rx
  cases ry
  obtain⟨a_,r1,p1,z1⟩:=I.tuple ha
  exact SeqAt.EqAt.none_tuple (show s.heap.IsTuple a a_.toArray from p1) (by lia)
 | @tn a xs ha=>
  cases rx
  cases ry
  obtain⟨a_,r1,p1,z1⟩:=I.tuple ha
  exact SeqAt.EqAt.tuple_none (show s.heap.IsTuple a a_.toArray from p1) (by lia)
end
inductive EqH (K:Qc) (H:Hp) (kb:List (j3×V)):List (j3×V)->Bool->Prop
 |nil:EqH K H kb [] true
 |miss {k:j3} {v:V} {r:List (j3×V)}:p9 kb k=none->EqH K H kb ((k,v)::r) false
 |hit {k:j3} {v y:V} {r:List (j3×V)} {e b:Bool}:p9 kb k=some y->Eq1 K H v y e->EqH K H kb r b->EqH K H kb ((k,v)::r) (e&&b)
def EqD (K:Qc)(H:Hp)(a b:Addr)(r:Bool):Prop:=(a=b/\r=true)\/(a≠b/\∃ka kb r0,Rd H a (.dK ka)/\Rd H b (.dK kb)/\EqH K H kb ka r0/\r=(ka.length==kb.length&&r0))
section
variable {X:Cx} {pins:List (Addr×Obj)} {σ:St} {H:Hp} {s:Shared} {A:Around}
theorem EqH.hits {kb:List (j3×V)}{vb:List (j3×Value)}(I:Inv X pins σ H s)(hu:A.units+8<cLine)(rb:KV kb vb){ka:List (j3×V)}{r:Bool}(h:EqH X.K H kb ka r):∀{va:List (j3×Value)},KV ka va->PySem.W.KeqHits A s vb va r:=by
 induction h with
 |nil=>
  intro va t
  cases t
  exact .nil
 | @miss k v r hn=>
  intro va t
  cases t with
  | @cons _ q _ l e t=>
   obtain⟨k',u⟩:=q
   have VR:k=k':=e.1
   subst VR
   refine .miss ?_
   have z:=KV.val rb k
   rw[hn] at z
   cases e:valueAt vb k with
   |none=>rfl
   |some y=>rw[e] at z;exact False.elim z
 | @hit k v y r e b hy h1 hr ih=>
  intro va t
  cases t with
  | @cons _ q _ l e t=>
   obtain⟨k',u⟩:=q
   have VR:k=k':=e.1
   subst VR
   have z:=KV.val rb k
   rw[hy] at z
   cases e5:valueAt vb k with
   |none=>rw[e5] at z;exact False.elim z
   |some y'=>
    rw[e5] at z
    exact .hit e5 (h1.at_ I e.2 z hu) (ih t)
theorem EqD.at_ {a b:Addr}{r:Bool}(I:Inv X pins σ H s)(h:EqD X.K H a b r)(hu:A.units+16<cLine):EqP X.prog X.w A s (.ref a) (.ref b) r:=by
 rcases h with⟨rfl,rfl⟩|⟨C_,ka,kb,r0,h1,h2,h3,rfl⟩
 .exact .of (Ku _)
 .obtain⟨z1,d1,va,ra,da⟩:=N0 I.hok h1;obtain⟨z2,d2,vb,rb,db⟩:=N0 I.hok h2;refine .refs C_ λE Q q=>?_;have l1:=KV.length ra;have l2:=KV.length rb;exact PySem.W.keq_eq (knd:=l0 X.prog X.w) d1 d2 da db (by lia) (λ_=>h3.hits (A:=A.in1) I (by show A.units+1+8<_;lia) rb ra) (by rw[←l1,←l2];exact q)
def DP (K:Qc):R2:=λx y H Q=>∃a b p q p' q' r r',x= .ref a/\y= .ref b/\SqT K H a [.ref p,.ref q]/\SqT K H b [.ref p',.ref q']/\EqD K H p p' r/\EqD K H q q' r'/\Q (.bl (r&&r')) H
theorem BH (hu:X.A.units+64<cLine):OpR X (compareOp .Eq) (DP X.K):=by
 intro pins s σ H x y v u Q I rx ry h;obtain⟨a,b,p,q,p',q',r,r',rfl,rfl,ha,hb,h1,h2,k⟩:=h;cases rx;cases ry;obtain⟨a_,v1,t1,_⟩:=I.tuple ha;obtain⟨its',v2,t2,_⟩:=I.tuple hb;obtain⟨_,_,rfl,e1,e2⟩:=V7 v1;obtain⟨_,_,rfl,e3,e4⟩:=V7 v2;cases e1;cases e2;cases e3;cases e4;refine RcP.tup (P:=X.prog) (w:=X.w) (f:=λj=>if j=0 then r else r') (show s.heap.IsTuple a _ from t1) (show s.heap.IsTuple b _ from t2) (by lia) (λj g1 g2=>?_) _ _ ⟨.bl (r&&r'),H,I,by show Value.bool _=Value.bool _;simp [JZ],k⟩;have g:j<2:=by simpa using g1
 match j,g with
 |0,_=>exact h1.at_ I (by show X.A.units+1+16<_;lia)
 |1,_=>exact h2.at_ I (by show X.A.units+1+16<_;lia)
def EL (K:Qc):R2:=λx y H Q=>∃a b xs ys,x= .ref a/\y= .ref b/\SqL K H a xs/\SqL K H b ys/\xs.all D6=true/\ys.all D6=true/\Q (.bl (R4 xs ys)) H
theorem dR:∀{xs ys:List V},xs.length≠ys.length->R4 xs ys=false
 |[],[],h=>absurd rfl h
 |[],_::_,_=>rfl
 |_::_,[],_=>rfl
 |x::xs,y::ys,h=>by
  show(dv x y&&R4 xs ys)=false;rw[dR (by simpa using h),Nr]
theorem AH (hu:X.A.units+64<cLine):OpR X (compareOp .Eq) (EL X.K):=by
 intro pins s σ H x y v u Q I rx ry h;obtain⟨a,b,xs,ys,rfl,rfl,ha,hb,fx,fy,k⟩:=h;cases rx;cases ry;obtain⟨a_,r1,p1,z1⟩:=I.list ha;obtain⟨its',r2,p2,z2⟩:=I.list hb;have l1:=r1.length;have l2:=r2.length;have e3:a_.toArray.size=xs.length:=by simp [l1]
 have e4:its'.toArray.size=ys.length:=by simp [l2]
 by_cases hl:xs.length=ys.length
 .have q:=SeqAt.RcAt.lists (A:=X.A) (e:=λj=>dv (xs.getD j .non) (ys.getD j .non)) p1.isList p2.isList (by rw[e3,e4];exact hl) (by lia) λj g1 g2=>by
   have Nx:j<a_.length:=by simpa using g1
   have Ny:j<its'.length:=by simpa using g2
   have x1:xs[j]?=some (xs[j]'(by lia)):=by simp [show j<xs.length by lia]
   have y1:ys[j]?=some (ys[j]'(by lia)):=by simp [show j<ys.length by lia]
   obtain⟨u1,Oq,N'⟩:=r1.get x1;obtain⟨u2,Ou,N_⟩:=r2.get y1;have e1:a_.toArray[j]=u1:=by
    have:=HH Nx;rw[Oq] at this;simpa using(Ie this).symm
   have e2:its'.toArray[j]=u2:=by
    have:=HH Ny;rw[Ou] at this;simpa using(Ie this).symm
   rw[e1,e2];have d1:xs.getD j .non=xs[j]'(by lia):=by rw[IG,x1];rfl
   have d2:ys.getD j .non=ys[j]'(by lia):=by rw[IG,y1];rfl
   rw[d1,d2];exact bV N' N_ (IH.mp fx _ (ID _)) (IH.mp fy _ (ID _))
  have e5:=O1 xs ys;rw[hl,Nat.min_self,ME,Ld] at e5;rw[e3,hl,e5] at q;exact q X.prog X.w _ _ ⟨.bl _,H,I,rfl,k⟩
 .refine KP (A:=X.A) p1.isList p2.isList (by rw[e3,e4];simpa using hl) (by lia) X.prog X.w _ _ ⟨.bl _,H,I,?_,k⟩;rw[dR hl];rfl
def EI (K:Qc):R2:=λx y H Q=>(∃a b xs ys,x= .ref a/\y= .ref b/\SqT K H a xs/\SqT K H b ys/\xs.all D6=true/\ys.all D6=true/\Q (.bl (R4 xs ys)) H)\/(∃a xs,x= .non/\y= .ref a/\SqT K H a xs/\Q (.bl false) H)
theorem BJ (hu:X.A.units+64<cLine):OpR X (compareOp .Eq) (EI X.K):=by
 intro pins s σ H x y v u Q I rx ry h;rcases h with⟨a,b,xs,ys,rfl,rfl,ha,hb,fx,fy,k⟩|⟨a,xs,rfl,rfl,ha,k⟩
 .cases rx;cases ry;obtain⟨a_,r1,p1,z1⟩:=I.tuple ha;obtain⟨its',r2,p2,z2⟩:=I.tuple hb;have l1:=r1.length;have l2:=r2.length;have q:=SeqAt.RcAt.tuples (A:=X.A) (e:=λj=>dv (xs.getD j .non) (ys.getD j .non)) (show s.heap.IsTuple a a_.toArray from p1) (show s.heap.IsTuple b its'.toArray from p2) (by lia) λj g1 g2=>by
   have Nx:j<a_.length:=by simpa using g1
   have Ny:j<its'.length:=by simpa using g2
   have x1:xs[j]?=some (xs[j]'(by lia)):=by simp [show j<xs.length by lia]
   have y1:ys[j]?=some (ys[j]'(by lia)):=by simp [show j<ys.length by lia]
   obtain⟨u1,Oq,N'⟩:=r1.get x1;obtain⟨u2,Ou,N_⟩:=r2.get y1;have e1:a_.toArray[j]=u1:=by
    have:=HH Nx;rw[Oq] at this;simpa using(Ie this).symm
   have e2:its'.toArray[j]=u2:=by
    have:=HH Ny;rw[Ou] at this;simpa using(Ie this).symm
   rw[e1,e2];have d1:xs.getD j .non=xs[j]'(by lia):=by rw[IG,x1];rfl
   have d2:ys.getD j .non=ys[j]'(by lia):=by rw[IG,y1];rfl
   rw[d1,d2];exact bV N' N_ (IH.mp fx _ (ID _)) (IH.mp fy _ (ID _))
  have e3:a_.toArray.size=xs.length:=by simp [l1]
  have e4:its'.toArray.size=ys.length:=by simp [l2]
  rw[e3,e4,O1] at q;exact q X.prog X.w _ _ ⟨.bl _,H,I,rfl,k⟩
 .cases rx;cases ry;obtain⟨a_,r1,p1,z1⟩:=I.tuple ha;exact SeqAt.RcAt.none_tuple (A:=X.A) (show s.heap.IsTuple a a_.toArray from p1) (by lia) X.prog X.w _ _ ⟨.bl false,H,I,rfl,k⟩
def lS (K:Qc):R2:=λx y H Q=>FI x y H Q\/EL K x y H Q\/EI K x y H Q\/DP K x y H Q
theorem Ho (K:Qc){k:Nat}(hr:Room k X.A)(h:X.K=K:=by rfl):OpR X (compareOp .Eq) (lS K):=h▸op_eq.or ((AH hr.units).or ((BJ hr.units).or (BH hr.units)))
end
section
variable {K:Qc} {H:Hp} {Q:VK}
theorem xf {i j:Int}(q:Q (.bl (decide (i=j))) H):lS K (.int i) (.int j) H Q:= .inl (nP q)
theorem xY {i j:Str}(q:Q (.bl (decide (i=j))) H):lS K (.str i) (.str j) H Q:= .inl (ox q)
theorem wJ {a b:Addr}{xs ys:List V}(ha:SqT K H a xs)(hb:SqT K H b ys)(fx:xs.all D6=true)(fy:ys.all D6=true)(q:Q (.bl (R4 xs ys)) H):lS K (.ref a) (.ref b) H Q:= .inr (.inr (.inl (.inl ⟨a,b,xs,ys,rfl,rfl,ha,hb,fx,fy,q⟩)))
end
section
variable {K:Qc} {σ:St} {H H' H1:Hp} {Q:VK} {d:Addr} {kvs:List (j3×V)} {o:Obj}
theorem mV {i j:Int}(q:Q (.bl (!decide (i=j))) H):Gx (.int i) (.int j) H Q:=⟨rfl,by rw[gR];rw[show(i==j)=decide (i=j) from Lw i j];exact q⟩
theorem Gq {r:V->Hp->VK->Prop}{ta:TE}(q:ta σ H λx H1=>r x H1 Q):GA r ta σ H Q:=q
theorem DL {i:Int}(q:Q (.int (-i)) H):rU (λi=> .int (-i)) (.int i) H Q:=⟨i,rfl,q⟩
def nf:HO->Bool
 | .frz _ _=>false
 |_=>true
def Le (H H':Hp):Prop:=∀a u,nf u=true->Rd H a u->Rd H' a u
theorem Le.trans (a:Le H H1)(b:Le H1 H'):Le H H':=λx u n h=>b x u n (a x u n h)
theorem Same.le (s:Same H H'):Le H H':=λa u _ h=>s.rd h
theorem K9 (h:H d=some (.dK kvs)):Le H (E3 d o kvs H):=λa u n r=>by
 by_cases e:a=d
 .subst e;rcases r with r|⟨o',r⟩
  .rw[h] at r;cases r;exact .inr ⟨o,b9⟩
  .rw[h] at r;cases r
 .unfold E3 Rd;rw[b7 e];exact r
theorem rF:Le H (thaw d H):=λa u n r=>by
 by_cases e:a=d
 .subst e;rcases r with r|⟨o',r⟩
  .rw[qP λo v z=>by rw[r] at z;cases z;cases n];exact .inl r
  .exact .inl (thaw_at r)
 .unfold Rd;rw[O8 e];exact r
theorem Le.tup {a:Addr}{xs:List V}(l:Le H H')(h:SqT K H a xs):SqT K H' a xs:=by
 rcases h with h|h
 .exact .inl (l _ _ rfl h)
 .exact .inr h
theorem Le.lst {a:Addr}{xs:List V}(l:Le H H')(h:SqL K H a xs):SqL K H' a xs:=by
 rcases h with h|h
 .exact .inl (l _ _ rfl h)
 .exact .inr h
theorem Le.dic {a:Addr}(l:Le H H')(h:Rd H a (.dK kvs)):Rd H' a (.dK kvs):=l _ _ rfl h
abbrev F0:=Str×Str×Str
structure A6 where
 pts:List (Str×Str)
 ts:List (Str×F0)
def j4 (pts:List (Str×Str)):List (j3×V):=pts.map λx=>(Sum.inr x.1,.str x.2)
def ba (t:F0):List V:=[.str t.1,.str t.2.1,.str t.2.2]
def TieAt (K:Qc)(H:Hp)(kv:j3×V)(x:Str×F0):Prop:=kv.1=Sum.inr x.1/\∃a,kv.2= .ref a/\SqT K H a (ba x.2)
def TiesIs (K:Qc)(H:Hp)(kvs:List (j3×V))(ts:List (Str×F0)):Prop:=Paired (TieAt K H) kvs ts
structure WebAt (K:Qc) (H:Hp) (a p q:Addr) (kvs:List (j3×V)) (W:A6):Prop where
 tup:SqT K H a [.ref p,.ref q]
 pts:Rd H p (.dK (j4 W.pts))
 ties:Rd H q (.dK kvs)
 ts:TiesIs K H kvs W.ts
theorem TieAt.mono {kv:j3×V}{x:Str×F0}(l:Le H H')(h:TieAt K H kv x):TieAt K H' kv x:=let ⟨e,a,ea,s⟩:=h;⟨e,a,ea,l.tup s⟩
theorem TiesIs.mono {ts:List (Str×F0)}(l:Le H H')(h:TiesIs K H kvs ts):TiesIs K H' kvs ts:=Paired.imp' (λ_ _ z=>z.mono l) h
theorem WebAt.mono {a p q:Addr}{W:A6}(l:Le H H')(h:WebAt K H a p q kvs W):WebAt K H' a p q kvs W:=⟨l.tup h.tup,l.dic h.pts,l.dic h.ties,h.ts.mono l⟩
theorem TiesIs.length {ts:List (Str×F0)}(h:TiesIs K H kvs ts):kvs.length=ts.length:=IC h
theorem TiesIs.keys {ts:List (Str×F0)}(h:TiesIs K H kvs ts):kvs.map (·.1)=ts.map λx=>Sum.inr x.1:=by
 unfold TiesIs at h;induction h with
 |nil=>rfl
 |cons r _ ih=>rw[IP,IP,ih,r.1]
theorem TiesIs.get {ts:List (Str×F0)}{i:Nat}{kv:j3×V}(h:TiesIs K H kvs ts)(e:kvs[i]?=some kv):∃x,ts[i]?=some x/\TieAt K H kv x:=B7 h e
theorem TiesIs.val {ts:List (Str×F0)}{n:Str}:∀{kvs:List (j3×V)} {ts:List (Str×F0)},TiesIs K H kvs ts->n∈ts.map (·.1)->∃a x,p9 kvs (Sum.inr n:j3)=some (.ref a)/\(n,x)∈ts/\SqT K H a (ba x)
 |_,_,.nil,h=>by simp at h
 |kv::r,x::ts,.cons t u,h=>by
  obtain⟨e,a,ea,s⟩:=t;by_cases hn:x.1=n
  .subst hn;refine⟨a,x.2,?_,Iw,s⟩;rw[C3 e,ea]
  .have h':n∈ts.map (·.1):=by
    rcases Iz.mp h with z|z
    .exact absurd z.symm hn
    .exact z
   obtain⟨b,y,h1,h2,h3⟩:=TiesIs.val (ts:=ts) u h';refine⟨b,y,?_,Ij _ h2,h3⟩;rw[C6 (by rw[e];intro z;exact hn (Jx z))];exact h1
theorem B5 (pts:List (Str×Str)):(j4 pts).map (·.1)=pts.map λx=>Sum.inr x.1:=by
 unfold j4;rw[Iy];rfl
def lt (a b:Str):Bool:=decide (a.cps.toList<b.cps.toList)
def vN (ss:List Str):Bool:=(ss.dropLast.zip ss.tail).all λp=>lt p.1 p.2
theorem rB:∀a b:List Nat,ltCps a b=true\/a=b\/ltCps b a=true
 |[],[]=> .inr (.inl rfl)
 |[],_::_=> .inl rfl
 |_::_,[]=> .inr (.inr rfl)
 |x::r,y::t=>by
  rcases Om x y with h|h|h
  .exact .inl (by simp [ltCps,h])
  .subst h;rcases rB r t with z|z|z
   .exact .inl (by simp [ltCps,z])
   .exact .inr (.inl (by rw[z]))
   .exact .inr (.inr (by simp [ltCps,z]))
  .exact .inr (.inr (by simp [ltCps,h]))
theorem Fj {a b:Str}(h:ltCps b.cps.toList a.cps.toList=false)(C_:a≠b):lt a b=true:=by
 unfold lt;rw[←ltCps_eq];rcases rB a.cps.toList b.cps.toList with z|z|z
 .exact z
 .exfalso;apply C_;obtain⟨⟨l⟩⟩:=a;obtain⟨⟨m⟩⟩:=b;have z':l=m:=z;rw[z']
 .rw[z] at h;cases h
theorem kC (x y:Str)(r:List Str):vN (x::y::r)=(lt x y&&vN (y::r)):=by
 unfold vN;simp [List.dropLast]
theorem gM:∀{ss:List Str},sortedS ss=true->ss.Nodup->vN ss=true
 |[],_,_=>rfl
 |[_],_,_=>rfl
 |x::y::r,h,n=>by
  have h':(!ltCps y.cps.toList x.cps.toList&&risingS y r)=true:=h;rw[Io] at h';have n':=IM.mp n;rw[kC,Fj (by simpa using h'.1) (λz=>n'.1 (by rw[z];exact Iw)),gM (ss:=y::r) h'.2 n'.2];rfl
end
theorem Inv.off {X:Cx}{pins:List (Addr×Obj)}{σ:St}{H:Hp}{s:Shared}{C:Addr}{h':Heap}(I:Inv X pins σ H s)(hH:H C=none)(h0:X.s₀.heap.objs.size<=C)(h1:C≠X.env.locals)(h2:∀x c,X.env.cells.lookup x=some c->c≠C)(h3:∀p∈X.pn++pins,p.1≠C)(sb:Heap.SameBut C s.heap h'):Inv X pins σ H {s with heap:=h'}:=by
 refine I.call' (s':={s with heap:=h'}) (ch:=[C]) rfl ?_ ?_ I.bare λb hb=>?_
 .have same:∀b,b∉[C]->h'.get? b=s.heap.get? b:=λb hb=>sb.2 b λz=>hb (by rw[z];exact Iw);refine⟨λb o q n hb hx=>?_,λb o q n hb hx=>?_,λb o q n hx=>n,λb o q hx=>?_,λb xs q=>q,λb o u q=>q,λb ps q=>⟨#[],by rw[Array.append_empty];exact q⟩⟩
  .show h'.get? b=_;rw[same b hx];exact q
  .exact⟨o.slots,(same b hx).trans q⟩
  .exact⟨o,(same b hx).trans q⟩
 .refine λb ob e=>(I.hok b ob e).stay (λc w' hc q=>(sb.2 c ?_).trans q) (λ_ q=>q) λ_ _ q=>q;rintro rfl;rcases hc with rfl|hc
  .rw[hH] at e;cases e
  .rw[hH] at hc;cases hc
 .rw[Ih.mp hb];exact⟨.inr h0,h1,h2,h3⟩
theorem pN {X:Cx}{own:List Str}{js:List Nat}{scope:Scope}{tg iter elt:Expr}{ifs:List Expr}{pos Pb py:Pos}{g:TG}{ti:TT}{te:TE}{wi:mQ}{i:Nat}{y:Str}(hN:X.N.Nodup)(hy:X.N[i]?=some y)(hl:Al X.env.scope y)(S:CU X own js scope=true)(hc:X.calm=true)(hit:uM X tg iter wi)
  (hg:∀C s H fp,PG (cu X own js scope C s H fp) tg g) (hi:∀C s H fp,qc (cu X own js scope C s H fp) ifs ti) (he:∀C s H fp,PE (cu X own js scope C s H fp) elt te)
  (VS:swapsWith (.ListComp elt [⟨tg,iter,ifs,0⟩] scope pos) (some (.Name y py)) Pb.line X.env=pure true)
  (hf:X.fn y=true\/X.env.scope.names.lookup y=some .local)
  (hs:∀x,foldedSetIterable iter X.env x=pure x):
  PS X (.Assign [.Name y py] (.ListComp elt [⟨tg,iter,ifs,0⟩] scope pos) Pb) (pL (iP own js wi g ti te) (P8 i)):=by
 have SB:=uN S
 intro pins s σ H D I h
 rw[exec_Assign_Name_used _ _ _ _ VS]
 refine HR (NK (HR ?_))
 show wpAny _ X.A (do let _←comprehension (.ListComp elt [⟨tg,iter,ifs,0⟩] scope pos) scope X.env _ (newList []) false (eval iter X.env) (some (assign (.Name y py) X.env))) _ _ s
 refine HR (LH (Mq (use:=some (assign (.Name y py) X.env)) (Q:=λ_ s'=>SP X pins D .next s') rfl hs (iW (SB.cells I)) SB.kind SB.names (E9 (hit pins s σ H _ I h) λv s1 h1=>E9 h1 λSM s2 h2=>?_)) (λ_ s' hq=>Ig (Ig hq)) λ_ _ e=>e)
 obtain⟨it,fp,tn,J,H2,e,I2,T,ML,f2,th,Oo,W,⟨m0,w0⟩,turn⟩:=h2
 subst e
 refine JX (wpAny_newFunctionEnv SB.nocell (by intro y hy;simp at hy) (λh₁ hns₁ hsb₁=>?_) SB.kind)
 dsimp only at hns₁ hsb₁⊢
 generalize Rx:s2.heap.push {cls:= .type "list",dict:=none,data:= .seq ([]:List Value).toArray}=G2 at hns₁ hsb₁⊢
 have Tc:G2.objs.size=s2.heap.objs.size+1:=by rw[←Rx,Nt]
 have Ol:s2.heap.objs.size≠G2.objs.size:=by rw[Tc];exact Im (Nat.lt_succ_self _)
 have hC:s2.heap.objs.size<=G2.objs.size:=by rw[Tc];exact LM _
 have old:∀b o,s2.heap.get? b=some o->h₁.get? b=some o:=λb o e=>
  hsb₁.extBut b o (Im (Ib (HZ e) hC)) (HS _ (Rx▸HS _ e))
 have off:∀b o,s2.heap.get? b=some o->b≠G2.objs.size:=λb o e=>Im (Ib (HZ e) hC)
 have z_:∀b∈fp,∃o,s2.heap.get? b=some o:=λb hb=>let ⟨o,e,_⟩:=T.obj _ _ ML b hb;⟨o,e⟩
 have x_:h₁.get? s2.heap.objs.size=some {cls:= .type "list",data:= .seq ([]:List Value).toArray}:=
  hsb₁.extBut _ _ Ol (HS _ (Rx▸Iq _ rfl))
 have loop:∀s3:Shared,s3={s2 with heap:=h₁,toks:=s2.toks+([]:List (Str×Value)).length}->
   codeAny (model X.prog X.w) X.A (.compLoop (.ListComp elt [⟨tg,iter,ifs,0⟩] scope pos) 0 (.ref it) (.ref s2.heap.objs.size) (compEnvC scope (gG scope X.env) G2.objs.size X.env))
    (compPost (model X.prog X.w) X.A X.xe (some (assign (.Name y py) X.env)) (λ_ s'=>SP X pins D .next s') (.ref s2.heap.objs.size) G2.objs.size) s3:=by
  rintro s3 rfl
  refine jN (K:=λout H'=>P8 i (.ref s2.heap.objs.size) σ (th (p0 H' s2.heap.objs.size (.lst out))) D.nx) SB hc T I2 f2 (HJ _) hC Ol z_ (hg _ _ _ _) (hi _ _ _ _) (he _ _ _ _) W (λi m out H' w=>?_) (λout H' s' B Py k=>?_) w0
   ⟨Inv.block SB I2 f2 z_ hC hns₁ old,I2.hok.fresh (HJ _),[],_,.nil,x_⟩ (T.keep _ _ _ ML λb _ o e=>old b o e) (λb hb=>(f2 b hb).1)
  .rcases turn i m out H' w with⟨a,b⟩|c
   .exact .inl ⟨a,λn=>b _ n⟩
   .exact .inr c
  .obtain⟨mm,hn,_⟩:=B.inv.loc
   have VF:H' G2.objs.size=none:=B.inv.free
   have IJ:=B.out I2 f2 (HJ _) hC Ol Py (h':=s'.heap) (Heap.SameBut.refl _ _)
   show wpAny _ X.A (assign (.Name y py) X.env (.ref s2.heap.objs.size)) _ _ s'
   refine wpAny_assign_Name (jZ IJ hN hy hl (v:= .ref s2.heap.objs.size) rfl (λUJ I'' hx=>?_) hf)
   obtain⟨a,sa,ha⟩:=hx
   have haC:G2.objs.size≠a:=by
    rcases ha with rfl|ha
    .exact JC (Im (Ib I2.lt hC))
    .obtain⟨_,o,ho,_⟩:=I2.cell _ _ ha;exact JC (off _ _ ho)
   refine⟨mm,hn.sameBut sa haC,λh' sb=>⟨_,_,Oo _ _ _ _ (I''.off (by rw[b7 (JC Ol)];exact VF) (Ip I2.sz hC) (JC (Im (Ib I2.lt hC))) (λx c e=>?_) (λp hp=>off _ _ (I2.pin p hp).1) sb),k⟩⟩
   obtain⟨_,o,ho,_⟩:=I2.cell _ _ e
   exact off _ _ ho
 exact codeAny_compStart_list (loop _ rfl) (T.self _ 0 _ _ _ (T.keep _ _ _ ML λb _ o e=>old b o e) (loop _ rfl))
theorem bG {X:Cx}{own:List Str}{js:List Nat}{scope:Scope}{tg iter elt:Expr}{ifs:List Expr}{pos Pb py:Pos}{g:TG}{ti:TT}{te:TE}{wi:mQ}{i:Nat}{y:Str}(hN:X.N.Nodup)(hy:X.N[i]?=some y)(hl:Al X.env.scope y)(S:CU X own js scope=true)(hc:X.calm=true)(hit:QI X tg iter wi)
  (hg:∀C s H fp,QG (cu X own js scope C s H fp) tg g) (hi:∀C s H fp,Fu (cu X own js scope C s H fp) ifs ti) (he:∀C s H fp,QE (cu X own js scope C s H fp) elt te)
  (VS:swapsWith (.ListComp elt [⟨tg,iter,ifs,0⟩] scope pos) (some (.Name y py)) Pb.line X.env=pure true:=by rfl)
  (hf:X.fn y=true\/X.env.scope.names.lookup y=some .local:=by first|exact .inl rfl|exact .inr rfl)
  (hs:∀x,foldedSetIterable iter X.env x=pure x:=by intro _;rfl):QS X (.Assign [.Name y py] (.ListComp elt [⟨tg,iter,ifs,0⟩] scope pos) Pb) (pL (iP own js wi g ti te) (P8 i)):=
 ⟨pN hN hy hl S hc hit.r (λC s H fp=>(hg C s H fp).r) (λC s H fp=>(hi C s H fp).r) (λC s H fp=>(he C s H fp).r) VS hf hs⟩
open PySem.AutoSeq1 (wpAny_loadPart')
def NcP (P:Program)(w:World)(A:Around)(s:Shared)(y x:Value)(b:Bool):Prop:=∀(E:Value->Shared->Prop) (Q:Value->Shared->Prop),Q (.bool b) s->wpAny (model P w) A (richCompare .NotEq y x) Q E s
theorem BY {P:Program}{w:World}(l m:Addr)(xs ys:Array Value)(n1 n2:Nat)(d1 d2:Option Addr)(s1 s2:Array (Option Value))(f:Nat->Bool):
  MeetsIn P w (Builtin.«tuple.__ne__» ⟨[.ref l,.ref m],[]⟩) (λA R s=>
   s.heap.get? l=some {cls:= .type "tuple",dict:=d1,data:= .seq xs n1,slots:=s1}/\s.heap.get? m=some {cls:= .type "tuple",dict:=d2,data:= .seq ys n2,slots:=s2}/\
   (∀j (g1:j<xs.size) (g2:j<ys.size),EqP P w A.in1 s xs[j] ys[j] (f j))/\
   R (.ok (.ret (.bool (!((List.range (min xs.size ys.size)).all f&&xs.size==ys.size))))) s):=
 .of_wp λA R s hyp=>by
  obtain⟨hp,gg,dr,tk,os⟩:=s;obtain⟨e1,e2,he,fin⟩:=hyp;have sub:=Mr;have len:(xs.toList.zip ys.toList).length=min xs.size ys.size:=by simp
  wp_walk using wpAny_loadPart' e1,wpAny_loadPart' e2,wpAny_forIn_list _ (λmore acc st=>acc.1=none/\st=⟨hp,gg,dr,tk,os⟩/\∃i,more=(xs.toList.zip ys.toList).drop i/\
   R (.ok (.ret (.bool (!(((List.range (min xs.size ys.size)).drop i).all f&&xs.size==ys.size))))) ⟨hp,gg,dr,tk,os⟩) _
  case turn=>
   rintro⟨y,x⟩ more acc st ⟨ha,rfl,i,hi,hR⟩
   have lt:i<(xs.toList.zip ys.toList).length:=by
    rcases JA i (xs.toList.zip ys.toList).length with z|z
    .exact z
    .rw[Ko z] at hi;cases hi
   have lm:i<min xs.size ys.size:=len▸lt
   have lx:i<xs.size:=Ib lm (Nat.min_le_left _ _)
   have ly:i<ys.size:=Ib lm (MC _ _)
   rw[Jh lt] at hi
   injection hi with h1 h2
   have q1:y=xs[i]:=by simpa using Jm Prod.fst h1
   have q2:x=ys[i]:=by simpa using Jm Prod.snd h1
   subst q1 q2
   have VQ:(List.range (min xs.size ys.size)).drop i=i::(List.range (min xs.size ys.size)).drop (i+1):=by simp [Jh,lm]
   rw[VQ,Kh] at hR
   refine HR (he i lx ly _ _ ?_)
   cases hf:f i with
   |true=>
    rw[hf] at hR
    wp_walk
    exact⟨rfl,rfl,i+1,h2,by simpa using hR⟩
   |false=>
    rw[hf] at hR
    wp_walk
    exact⟨_,rfl,by simpa using hR⟩
  case fin=>
   rintro⟨c1,c2⟩ st ⟨ha,rfl,i,hi,hR⟩
   simp only at ha
   subst ha
   have ge:min xs.size ys.size<=i:=by
    rcases JA i (xs.toList.zip ys.toList).length with z|z
    .rw[Jh z] at hi;cases hi
    .exact len▸z
   rw[Ko (by simpa using ge)] at hR
   wp_walk
   exact⟨_,rfl,by simpa [Builtin.Tuple.tupleCompareSizes,bne] using hR⟩
  case h=>
   exact⟨rfl,rfl,0,rfl,by simpa using fin⟩
theorem NcP.tup {P:Program}{w:World}{A:Around}{s:Shared}{l m:Addr}{xs ys:Array Value}{f:Nat->Bool}(hl:s.heap.IsTuple l xs)(hm:s.heap.IsTuple m ys)(hu:A.units<cLine)
  (he:∀j (g1:j<xs.size) (g2:j<ys.size),EqP P w A.in1 s xs[j] ys[j] (f j)):NcP P w A s (.ref l) (.ref m) (!((List.range (min xs.size ys.size)).all f&&xs.size==ys.size)):=λE Q q=>by
 obtain⟨⟨c1,d1,a1,s1⟩,o1,k1,n1,t1⟩:=id hl
 obtain⟨⟨c2,d2,a2,s2⟩,o2,k2,n2,t2⟩:=id hm
 simp only at k1 t1 k2 t2
 subst k1 t1 k2 t2
 refine JO (op:= .NotEq) ⟨_,o1,rfl⟩ ⟨_,o2,rfl⟩ MZ (Jw MZ ⟨_,o1,rfl⟩ PySem.F.entry_tuple_ne (PySem.F.args_tuple_ne_2 _ _) (BY l m xs ys n1 n2 d1 d2 s1 s2 f) ⟨o1,o2,he,?_⟩) hu
 exact⟨(λz=>nomatch z),q⟩
section
variable {X:Cx} {pins:List (Addr×Obj)} {σ:St} {H:Hp} {s:Shared} {A:Around}
def EX (K:Qc):R2:=λx y H Q=>∃a b p q p' q' r r',x= .ref a/\y= .ref b/\SqT K H a [.ref p,.ref q]/\SqT K H b [.ref p',.ref q']/\EqD K H p p' r/\EqD K H q q' r'/\Q (.bl (!(r&&r'))) H
theorem BZ (hu:X.A.units+64<cLine):OpR X (compareOp .NotEq) (EX X.K):=by
 intro pins s σ H x y v u Q I rx ry h;obtain⟨a,b,p,q,p',q',r,r',rfl,rfl,ha,hb,h1,h2,k⟩:=h;cases rx;cases ry;obtain⟨a_,v1,t1,_⟩:=I.tuple ha;obtain⟨its',v2,t2,_⟩:=I.tuple hb;obtain⟨_,_,rfl,e1,e2⟩:=V7 v1;obtain⟨_,_,rfl,e3,e4⟩:=V7 v2;cases e1;cases e2;cases e3;cases e4;refine NcP.tup (P:=X.prog) (w:=X.w) (f:=λj=>if j=0 then r else r') (show s.heap.IsTuple a _ from t1) (show s.heap.IsTuple b _ from t2) (by lia) (λj g1 g2=>?_) _ _ ⟨.bl (!(r&&r')),H,I,by show Value.bool _=Value.bool _;simp [JZ],k⟩;have g:j<2:=by simpa using g1
 match j,g with
 |0,_=>exact h1.at_ I (by show X.A.units+1+16<_;lia)
 |1,_=>exact h2.at_ I (by show X.A.units+1+16<_;lia)
def DZ (K:Qc):R2:=λx y H Q=>∃a b xs ys,x= .ref a/\y= .ref b/\SqL K H a xs/\SqL K H b ys/\xs.all D6=true/\ys.all D6=true/\Q (.bl (!R4 xs ys)) H
theorem BO (hu:X.A.units+64<cLine):OpR X (compareOp .NotEq) (DZ X.K):=by
 intro pins s σ H x y v u Q I rx ry h;obtain⟨a,b,xs,ys,rfl,rfl,ha,hb,fx,fy,k⟩:=h;cases rx;cases ry;obtain⟨a_,r1,p1,z1⟩:=I.list ha;obtain⟨its',r2,p2,z2⟩:=I.list hb;have l1:=r1.length;have l2:=r2.length;have e3:a_.toArray.size=xs.length:=by simp [l1]
 have e4:its'.toArray.size=ys.length:=by simp [l2]
 by_cases hl:xs.length=ys.length
 .have q:=SeqAt.RcNeAt.lists (A:=X.A) (e:=λj=>dv (xs.getD j .non) (ys.getD j .non)) p1.isList p2.isList (by rw[e3,e4];exact hl) (by lia) λj g1 g2=>by
   have Nx:j<a_.length:=by simpa using g1
   have Ny:j<its'.length:=by simpa using g2
   have x1:xs[j]?=some (xs[j]'(by lia)):=by simp [show j<xs.length by lia]
   have y1:ys[j]?=some (ys[j]'(by lia)):=by simp [show j<ys.length by lia]
   obtain⟨u1,Oq,N'⟩:=r1.get x1;obtain⟨u2,Ou,N_⟩:=r2.get y1;have e1:a_.toArray[j]=u1:=by
    have:=HH Nx;rw[Oq] at this;simpa using(Ie this).symm
   have e2:its'.toArray[j]=u2:=by
    have:=HH Ny;rw[Ou] at this;simpa using(Ie this).symm
   rw[e1,e2];have d1:xs.getD j .non=xs[j]'(by lia):=by rw[IG,x1];rfl
   have d2:ys.getD j .non=ys[j]'(by lia):=by rw[IG,y1];rfl
   rw[d1,d2];exact bV N' N_ (IH.mp fx _ (ID _)) (IH.mp fy _ (ID _))
  have e5:=O1 xs ys;rw[hl,Nat.min_self,ME,Ld] at e5;rw[e3,hl,e5] at q;exact q X.prog X.w _ _ ⟨.bl _,H,I,rfl,k⟩
 .refine SeqAt.RcNeAt.lists_lengths (A:=X.A) p1.isList p2.isList (by rw[e3,e4];simpa using hl) (by lia) X.prog X.w _ _ ⟨.bl _,H,I,?_,k⟩;rw[dR hl];rfl
def EW (K:Qc):R2:=λ_ _ _ _=>False
theorem Bf (hu:X.A.units+64<cLine):OpR X (compareOp .NotEq) (EW X.K):=by
 intro pins s σ H x y v u Q I rx ry h;exact h.elim
def Ad (K:Qc):R2:=λ_ _ _ _=>False
def Af (K:Qc):R2:=λ_ _ _ _=>False
theorem zA (hu:X.A.units+64<cLine):OpR X (compareOp .Eq) (Ad X.K):=by
 intro pins s σ H x y v u Q I rx ry h;exact h.elim
theorem zw (hu:X.A.units+64<cLine):OpR X (compareOp .NotEq) (Af X.K):=by
 intro pins s σ H x y v u Q I rx ry h;exact h.elim
def CG (K:Qc):R2:=λx y H Q=>lS K x y H Q\/Ad K x y H Q
theorem FP (K:Qc){k:Nat}(hr:Room k X.A)(h:X.K=K:=by rfl):OpR X (compareOp .Eq) (CG K):=(Ho K hr h).or (h▸zA hr.units)
def Bw (K:Qc):R2:=λx y H Q=>Gx x y H Q\/DZ K x y H Q\/EW K x y H Q\/EX K x y H Q\/Af K x y H Q
theorem Hd (K:Qc){k:Nat}(hr:Room k X.A)(h:X.K=K:=by rfl):OpR X (compareOp .NotEq) (Bw K):=h▸op_ne.or ((BO hr.units).or ((Bf hr.units).or ((BZ hr.units).or (zw hr.units))))
end
section
variable {K:Qc} {H:Hp} {Q:VK}
theorem FL {x y:V}(q:lS K x y H Q):CG K x y H Q:= .inl q
theorem oE {i j:Int}(q:Q (.bl (!decide (i=j))) H):Bw K (.int i) (.int j) H Q:= .inl (mV q)
theorem lG {j:Str}(q:Q (.bl false) H):lS K .non (.str j) H Q:= .inl ⟨rfl,by rw[show decide (V.non=V.str j)=false by simp];exact q⟩
theorem my {a:Addr}{xs:List V}(ha:SqT K H a xs)(q:Q (.bl false) H):lS K .non (.ref a) H Q:= .inr (.inr (.inl (.inr ⟨a,xs,rfl,rfl,ha,q⟩)))
end
section
variable {X:Cx} {o e f:Expr} {apos b_:Pos} {td ty tx:TE} {name:Str}
theorem DT (hb:attributeBase o name X.env (eval o X.env)=eval o X.env)(hl:(apos.endLine==b_.line)=true)(h:u9 e=true):M1 X o name apos e b_:=by
 have z:starEach [e] X.env=[(false,eval e X.env)]:=J0 (es:=[]) h;have z2:backTo b_ (starEach [e] X.env)=[(false,eval e X.env)]:=by rw[z];rfl
 exact⟨hb,by rw[z2];rfl,hl,z2⟩
theorem Dm (hb:attributeBase o name X.env (eval o X.env)=eval o X.env)(hl:(apos.endLine==b_.line)=true)(h:u9 e=true)(h':u9 f=true):M2 X o name apos e f b_:=by
 have z:starEach [e,f] X.env=[(false,eval e X.env),(false,eval f X.env)]:=by rw[J0 (es:=[f]) h,J0 (es:=[]) h'];rfl
 have z2:backTo b_ (starEach [e,f] X.env)=[(false,eval e X.env),(false,eval f X.env)]:=by rw[z];rfl
 exact⟨hb,by rw[z2];rfl,hl,z2⟩
theorem rD (hu:X.A.units+1<cLine)(ho:QE X o td)(he:QE X e ty)(hb:attributeBase o "get" X.env (eval o X.env)=eval o X.env:=by rfl)(hl:(apos.endLine==b_.line)=true:=by rfl)(h:u9 e=true:=by rfl):
  QE X (.Call (.Attribute o "get" apos) [e] [] b_) (pG td ty):=⟨xM hu ho.r he.r (DT hb hl h)⟩
theorem Fh (hu:X.A.units+1<cLine)(ho:QE X o td)(he:QE X e ty)(hf:QE X f tx)(hb:attributeBase o "get" X.env (eval o X.env)=eval o X.env:=by rfl)(hl:(apos.endLine==b_.line)=true:=by rfl)(h:u9 e=true:=by rfl)(h':u9 f=true:=by rfl):
  QE X (.Call (.Attribute o "get" apos) [e,f] [] b_) (pV td ty tx):=⟨ya hu ho.r he.r hf.r (Dm hb hl h h')⟩
end
section
variable {σ:St} {H:Hp} {Q:VK} {td ty tx:TE}
theorem Ex (q:td σ H λx H1=>∃a,x= .ref a/\Ey H1 a/\ty σ H1 λy H2=>∃o,DGet H2 a y o/\Q (o.getD .non) H2):pG td ty σ H Q:=q
end
open Sem (wp)
section
variable {prog:Program} {w:World} {KT:Type} [DecidableEq KT] {knd:KeyKind prog w KT} {A:Around} {E:Value->Shared->Prop} {s:Shared}
end
section
variable {prog:Program} {w:World} {KT:Type} [DecidableEq KT] {knd:KeyKind prog w KT} {A:Around} {E:Value->Shared->Prop} {s:Shared}
open PySem.AutoSeq1 (wpAny_loadPart')
end
section
variable {X:Cx} {a:Expr} {t:TA} {p pos:Pos}
def qu (K:Qc)(ta:TA):mQ:=λσ H R=>ta σ H λvs H1=>∃v,vs=[v]/\((∃l xs,v= .ref l/\SqL K H1 l xs/\R (FU K l) id H1)\/False)
theorem xE {elts:List Expr}{x1}{j_:Pos}(hg:Gl X "enumerate")(hm:X.mg "enumerate"=none)(ha:PA X [a] t)(hs:starEach [a] X.env=[(false,eval a X.env)]):uM X (.Tuple elts x1 j_) (.Call (.Name "enumerate" p) [a] [] pos) (qu X.K t):=by
 intro pins s σ H R I h;refine Call_ (ai I hg hm Boot.«enumerate» (Jk (E9 (ha pos pins s σ H _ I h) λus s1 ⟨vs,H1,I1,r1,q1⟩=>?_) hs rfl));obtain⟨v,e,q⟩:=q1;subst e;obtain⟨u,rfl,ru⟩:=K1 r1;rcases q with⟨l,xs,rfl,hq,q⟩|q
 .cases ru;obtain⟨a_,rv,pl,hz⟩:=I1.list hq;refine call_enumerate_list pl.isList λh' he hit hsz hk=>?_;have I2:Inv X pins σ H1 {s1 with heap:=h'}:=I1.kept (t':=s1.toks) hk;refine wpAny_pyIter_enum (s:={s1 with heap:=h'}) he ?_;refine⟨s1.heap.objs.size+1,[s1.heap.objs.size+1,s1.heap.objs.size],_,_,H1,rfl,I2,sk (l:=l) (Nat.succ_ne_self _),⟨_,he,hit⟩,λb hb=>?_,id,eQ,q⟩;have o_:b=s1.heap.objs.size+1\/b=s1.heap.objs.size:=by simpa using hb
  rcases o_ with rfl|rfl
  .exact I1.fpOk (LM _) (I1.hok.fresh (LM _))
  .exact I1.fpOk (HJ _) (I1.hok.fresh (HJ _))
 .exact q.elim
theorem ee (K:Qc){elts:List Expr}{x1}{j_:Pos}(hm:X.mg "enumerate"=none)(ha:QA X [a] t)(hg:Gl X "enumerate":=by rfl)(h:u9 a=true:=by rfl)(hK:X.K=K:=by rfl):QI X (.Tuple elts x1 j_) (.Call (.Name "enumerate" p) [a] [] pos) (qu K t):=
 ⟨hK▸xE hg hm ha.r (J0 h)⟩
end
section
variable {K:Qc} {σ:St} {H:Hp} {ta:TA} {R:It->(Hp->Hp)->Hp->Prop}
theorem yP (q:ta σ H λvs H1=>∃v,vs=[v]/\((∃l xs,v= .ref l/\SqL K H1 l xs/\R (FU K l) id H1)\/False)):qu K ta σ H R:=q
end
open Sem (wp)
theorem kY:typeLookup (.type "list") "keys"=pure none:=by rw[Na,Lx];kernel_rfl
section
variable {prog:Program} {w:World} {A:Around} {E:Value->Shared->Prop} {s:Shared}
theorem tF {a:Addr}{o:Obj}{xs:Array Value}{k:Nat}{Q:Option Value->Shared->Prop}
  (hx:s.heap.get? a=some o) (hc:o.cls= .type "list") (I_:o.data= .seq xs k) (hd:o.dict=none) (hA:A.handled=none)
  (h:∀h' tk,(∀b ob,s.heap.get? b=some ob->h'.get? b=some ob)->Q none {s with heap:=h',toks:=tk}):
  wpAny (model prog w) A (getAttr? (.ref a) "keys") Q E s:=by
 obtain⟨c,dct,dat,sl⟩:=o
 simp only at hc I_ hd
 subst hc I_ hd
 obtain⟨hp,g,d,tk,os⟩:=s
 have hT:∀tk',(⟨hp,g,d,tk',os⟩:Shared).TypeIs (.ref a) "list":=λ_=>⟨_,hx,rfl⟩
 have f1:=sub_AttributeError
 have f3:=KQ.lookup
 have f4:=KQ.bind (.ref a)
 have f5:=am_list_getattr_none
 unfold getAttr? getAttrBy? getAttrBy
 repeat(any_goals (first|assumption|exact hT _|((with_reducible show wpAny _ _ (call (Value.builtin "list.__getattribute__") _ _) _ _ _);refine Mn KQ (hT _) am_entry_list_getattribute (F.args_list_getattribute_2 _ _) (meets_getattribute_miss_list a xs k sl "keys" _ kY (by decide+kernel) (by decide+kernel)) ⟨hx,hA,λh' tk' e q_=>?_⟩)|wp_step))
 obtain⟨t',u',he⟩:=q_.there
 show wpAny _ _ (getattributeRaised _ _ _ _ _ _ _) _ _ _
 unfold getattributeRaised
 repeat(any_goals (first|assumption|wp_step))
 exact h _ _ q_.keeps
end
theorem K4:entryFor table "dict.update.loop"=some Builtin.«dict.update.loop»:=entryFor_of_tree (by kernel_rfl)
theorem C1:plainId "dict.update.loop"=true:=by decide+kernel
section
variable {prog:Program} {w:World} {KT:Type} [DecidableEq KT] {knd:KeyKind prog w KT} {A:Around} {E:Value->Shared->Prop}
def PairAt (knd:KeyKind prog w KT)(h:Heap)(d it:Addr)(u:Value)(kv:KT×Value):Prop:=∃t key,u= .ref t/\h.IsTuple t #[key,kv.2]/\knd.is kv.1 key=true/\t≠d/\t≠it
theorem PairAt.keep {h h':Heap}{d it:Addr}{u:Value}{kv:KT×Value}(p:PairAt knd h d it u kv)(k:∀b o,b≠d->b≠it->h.get? b=some o->h'.get? b=some o):PairAt knd h' d it u kv:=by
 obtain⟨t,key,e,⟨o,ho,r⟩,hk,h1,h2⟩:=p;exact⟨t,key,e,⟨o,k t o h1 h2 ho,r⟩,hk,h1,h2⟩
theorem uf {d it l:Addr}{items:List Value}{res:Value}(hh:A.handled=none)(RA:d≠it)(VT:l≠it)(VU:l≠d):
  ∀(more:List (KT×Value)) (i:Nat) (s:Shared) (kvs:List (KT×Value)) (R:Result->Shared->Prop),
   s.heap.IsListIter it l i->s.heap.IsList l items.toArray->Paired (PairAt knd s.heap d it) (items.drop i) more->s.heap.DictOf knd d kvs->kvs.length+more.length<=sizeLine->
   (∀h' tk,(∀b o,b≠d->b≠it->s.heap.get? b=some o->h'.get? b=some o)->h'.DictOf knd d (more.foldl (λa x=>stored a x.1 x.2) kvs)->R (.ok (.ret res)) {s with heap:=h',toks:=tk})->
   codeAny (model prog w) A (.builtin "dict.update.loop" ⟨[.ref d,.ref it,rawInt (i:Int),res],[]⟩) R s:=by
 intro more
 induction more with
 |nil=>
  intro i s kvs R hit hl hp hd hz hR
  have hx:items.toArray[i]?=none:=by
   have hn:items.drop i=[]:=by cases s_:items.drop i with
    |nil=>rfl
    |cons x r=>rw[s_] at hp;cases hp
   have:=LC.mp hn;simp;lia
  refine Jt K4 ?_
  rw[Jj C1 _]
  show wpAny _ A.in1 (pyNext (.ref it)>>=_) _ _ s
  refine HR (Lu (A:=A.in1) hh hit hl hx λh' eb=>?_)
  show wpAny _ A.in1 (Builtin.Dict.addKeywords d []>>=_) _ _ _
  refine HR (Ig (Ig ?_))
  exact hR h' s.toks (λb o h1 h2 e=>eb b o h2 e) (hd.extBut eb RA)
 |cons kv more ih=>
  intro i s kvs R hit hl hp hd hz hR
  obtain⟨x,hx,hp0,Ov⟩:∃x,items.toArray[i]?=some x/\PairAt knd s.heap d it x kv/\Paired (PairAt knd s.heap d it) (items.drop (i+1)) more:=by
   cases s_:items.drop i with
   |nil=>rw[s_] at hp;cases hp
   |cons x r=>
    rw[s_] at hp
    cases hp with
    |cons h1 h2=>
     refine⟨x,?_,h1,?_⟩
     .have z:=Jm List.head? s_
      simpa using z
     .have z:=Jm List.tail s_
      rw[Nu] at z
      rw[z];exact h2
  obtain⟨t,key,rfl,⟨ot,Te,hct,nt,hdt⟩,y_,h1,h2⟩:=hp0
  refine Jt K4 ?_
  rw[Jj C1 _]
  show wpAny _ A.in1 (pyNext (.ref it)>>=_) _ _ s
  refine HR (Ll hit hl hx λh' hit' hs'=>?_)
  have Tf:h'.get? t=some ot:=hs'.extBut _ _ h2 Te
  refine HR (Ji (HR (wpAny_tryCatch ?_)))
  unfold Builtin.Dict.pairItems
  refine HR (Ma (s:={s with heap:=h'}) ⟨_,Tf,hct⟩ ?_)
  rw[if_pos (by decide)]
  refine HR (Mf (s:={s with heap:=h'}) Tf hdt ?_)
  refine Ig ?_
  show wpAny _ A.in1 (holding [key,kv.2] (dictSet d key kv.2)) _ _ _
  refine Ji (wpAny_dictSet_pairs (s:={s with heap:=h'}) (kvs:=kvs) y_ (hd.extBut hs'.extBut RA) (λG' dd hs''=>?_) (by simp only[IV] at hz;lia))
  have kp:∀b o,b≠d->b≠it->s.heap.get? b=some o->G'.get? b=some o:=λb o hb1 Ob e=>hs''.extBut b o hb1 (hs'.extBut b o Ob e)
  refine Ig ⟨JR C1 _,?_⟩
  refine ih (i+1) _ (stored kvs kv.1 kv.2) R ?_ ?_ (Paired.imp' (λ_ _ z=>z.keep kp) Ov) dd ?_ (λh3 tk k3 d3=>hR h3 tk (λb o e1 e2 e=>k3 b o e1 e2 (kp b o e1 e2 e)) d3)
  .exact hit'.at λo e=>hs''.extBut it o (JC RA) e
  .obtain⟨ol,D_,r⟩:=hl
   exact⟨ol,kp l ol VU VT D_,r⟩
  .have z:=stored_length_le kvs kv.1 kv.2
   simp only[IV] at hz
   lia
theorem gF {l:Addr}{items:List Value}{o:Obj}{n:Nat}{more:List (KT×Value)}{s:Shared}{Q:Value->Shared->Prop}(hh:A.handled=none)(ho:s.heap.get? l=some o)(hc:o.cls= .type "list")(I_:o.data= .seq items.toArray n)(Tg:o.dict=none)(hz:more.length<=sizeLine)
  (hp:Paired (λu kv=>∃t key,u= .ref t/\s.heap.IsTuple t #[key,kv.2]/\knd.is kv.1 key=true) items more)
  (h:∀h' tk,h'.DictOf knd s.heap.objs.size (more.foldl (λa x=>stored a x.1 x.2) [])->(∀b o,s.heap.get? b=some o->h'.get? b=some o)->Q (.ref s.heap.objs.size) {s with heap:=h',toks:=tk}):
  wpAny (model prog w) A (call (.type "dict") [.ref l]) Q E s:=by
 refine callType_codes (Q₁:=λobj s₁=>obj= .ref s.heap.objs.size/\s₁={s with heap:=s.heap.push {cls:= .type "dict",data:= .dict #[]}}) F.kt_called_dict (F.kt_typeCall_dict_1 _) F.entry_dict_init (kt_code_dict_new _ ⟨rfl,rfl⟩) ?_
 rintro obj s₁ ⟨rfl,rfl⟩
 have ND:(s.heap.push {cls:= .type "dict",data:= .dict #[]}).DictOf knd s.heap.objs.size []:=MS s.heap
 have SX:l≠s.heap.objs.size:=Im (HZ ho)
 refine⟨ND.typeIs,F.args_dict_init_2 _ _,?_⟩
 unfold Builtin.«dict.__init__»
 refine HR ?_
 unfold Builtin.Dict.selfAndRest
 refine HR (Ly ND.typeIs ?_)
 show wpAny _ _ (pure (s.heap.objs.size,[Value.ref l])) _ _ _
 refine Ig ?_
 show wpAny _ _ (Builtin.Dict.updateFrom "dict.__init__" s.heap.objs.size (.ref l) [] .none) _ _ _
 unfold Builtin.Dict.updateFrom
 have Pd:(s.heap.push {cls:= .type "dict",data:= .dict #[]}).get? l=some o:=HS _ ho
 refine HR (Ma (s:={s with heap:=s.heap.push {cls:= .type "dict",data:= .dict #[]}}) ⟨_,Pd,hc⟩ ?_)
 rw[if_pos (by decide)]
 refine HR (tF (s:={s with heap:=s.heap.push {cls:= .type "dict",data:= .dict #[]}}) Pd hc I_ Tg hh λh2 Qf k2=>?_)
 rw[if_pos (show((none:Option Value).isNone)=true from rfl)]
 have OM:h2.get? l=some o:=k2 l o Pd
 have hd2:h2.DictOf knd s.heap.objs.size []:=let ⟨od,es,ep,e,r⟩:=ND;⟨od,es,ep,k2 _ _ e,r⟩
 have j':s.heap.objs.size<h2.objs.size:=by obtain⟨od,es,ep,e,r⟩:=hd2;exact HZ e
 have up:∀b ob,s.heap.get? b=some ob->(h2.push {cls:= .type "list_iterator",data:= .fields #[.ref l,.int 0 0]}).get? b=some ob:=λb ob e=>HS _ (k2 b ob (HS _ e))
 refine HR (Ot (HR (KC (l:=l) (items:=items.toArray) ⟨o,OM,hc,n,I_⟩ ?_)))
 refine Ig ⟨JR C1 _,?_⟩
 refine uf (knd:=knd) (l:=l) (items:=items) (A:=A.in1) hh (Im j') (Im (HZ OM)) SX more 0 _ [] _ ⟨_,Iq _ rfl,rfl,rfl⟩ ⟨o,HS _ OM,hc,n,I_⟩ ?_ (hd2.push _) (by simpa using hz) λh3 tk k3 d3=>⟨rfl,h h3 tk d3 λb ob e=>k3 b ob (Im (HZ e)) (Im (MR (HZ e) j')) (up b ob e)⟩
 rw[Mg]
 refine Paired.imp' (λu kv z=>?_) hp
 obtain⟨t,key,rfl,⟨ot,Te,r⟩,hk⟩:=z
 exact⟨t,key,rfl,⟨ot,up t ot Te,r⟩,hk,Im (HZ Te),Im (MR (HZ Te) j')⟩
end
section
variable {X:Cx}
def PrV (K:Qc)(H:Hp)(x:V)(kv:j3×V):Prop:=∃t,x= .ref t/\SqT K H t [kV kv.1,kv.2]
def Y4 (kvs:List (j3×V)):List (j3×V):=kvs.foldl (λa x=>D0 a x.1 x.2) []
theorem KV.puts:∀{ps:List (j3×V)} {qs:List (j3×Value)} {a:List (j3×V)} {b:List (j3×Value)},KV ps qs->KV a b->KV (ps.foldl (λa x=>D0 a x.1 x.2) a) (qs.foldl (λa x=>stored a x.1 x.2) b)
 |_,_,_,_,.nil,h=>h
 |_::_,_::_,a,b,.cons r t,h=>by
  obtain⟨e,rv⟩:=r;rw[Kx,Kx];refine KV.puts t ?_;rw[←e];exact KV.put h _ rv
theorem bI:∀(ps:List (j3×V)) (a:List (j3×V)),(ps.foldl (λa x=>D0 a x.1 x.2) a).length<=a.length+ps.length
 |[],a=>HJ _
 |p::r,a=>by
  rw[Kx,IV];have z:=bI r (D0 a p.1 p.2);have z2:=K2 a p.1 p.2;lia
theorem AK {pins : List (Addr × Obj)} {σ : L2.St} {H : Hp} {s : Shared} (I : Inv X pins σ H s) : ∀ {xs : List V} {kvs : List (j3 × V)} {us : List Value}, Paired (PrV X.K H) xs kvs -> Vals xs us -> ∃ more : List (j3 × Value), KV kvs more /\ Paired (λu kv => ∃ t key, u = Value.ref t /\ s.heap.IsTuple t #[key, kv.2] /\ (l0 X.prog X.w).is kv.1 key = true) us more
 := by
  intro xs kvs us hp hv;induction hp generalizing us with
  | nil => cases hv; exact ⟨[], .nil, .nil⟩
  | @cons x kv l m r t ih => cases hv with
    | cons r' t' =>
      obtain ⟨tt, rfl, sq⟩ := r
      cases r'
      obtain ⟨a_, v1, t1, _⟩ := I.tuple sq
      obtain ⟨key, v, rfl, rk, rv⟩ := V7 v1
      obtain ⟨more, h1, h2⟩ := ih t'
      exact ⟨(kv.1, v) :: more, .cons ⟨rfl, rv⟩ h1, .cons ⟨tt, key, rfl, t1, eG rk⟩ h2⟩
def wK (K:Qc):List V->Hp->VK->Prop:=λxs H Q=>∃(p:Addr) (ys:List V) (kvs:List (j3×V)),xs=[.ref p]/\SqL K H p ys/\Paired (PrV K H) ys kvs/\kvs.length<=sizeLine/\∀l,H l=none->Q (.ref l) (p0 H l (.dK (Y4 kvs)))
theorem pH (hc:X.calm=true):CallR X (.type "dict") (wK X.K):=by
 intro pins s σ H xs us Q I r h;obtain⟨p,ys,kvs,rfl,hq,hp,hz,q⟩:=h;obtain⟨u,rfl,ru⟩:=K1 r;cases ru;obtain⟨a_,rv,pl,_⟩:=I.list hq;obtain⟨more,kv,pr⟩:=AK I hp rv;obtain⟨o,n,e,c,hd,dt⟩:=pl;have hl:more.length=kvs.length:=(KV.length kv).symm;refine gF (knd:=l0 X.prog X.w) (I.ok.hd hc) e c dt hd (by lia) pr λh' tk dd k=>?_;refine⟨.ref s.heap.objs.size,_,?_,rfl,q _ (I.hok.fresh (HJ _))⟩;refine I.laid (a:=s.heap.objs.size) (o:= .dK (Y4 kvs)) (t':=tk) k (HJ _) (fq ?_ (JM.mpr (JC (Im I.big))) (KV.puts kv .nil) dd);have z:=bI kvs [];unfold Y4;simp only[La] at z;lia
def mx (K:Qc):List V->Hp->VK->Prop:=λxs H Q=>zX xs H Q\/wK K xs H Q
theorem P1 (K:Qc)(hc:X.calm=true)(h:X.K=K:=by rfl):CallR X (.type "dict") (mx K):=by
 subst h;intro pins s σ H xs us Q I r h;rcases h with h|h
 .exact pF pins s σ H xs us Q I r h
 .exact pH hc pins s σ H xs us Q I r h
end
section
variable {K:Qc} {H:Hp} {Q:VK}
theorem C9 {p:Addr}{kvs:List (j3×V)}(h:Rd H p (.dK kvs))(q:∀l,H l=none->Q (.ref l) (p0 H l (.dK kvs))):mx K [.ref p] H Q:= .inl ⟨p,kvs,rfl,h,q⟩
theorem N8 {p:Addr}{xs:List V}{kvs:List (j3×V)}(h:SqL K H p xs)(hp:Paired (PrV K H) xs kvs)(hz:kvs.length<=sizeLine)(q:∀l,H l=none->Q (.ref l) (p0 H l (.dK (Y4 kvs)))):mx K [.ref p] H Q:= .inr ⟨p,xs,kvs,rfl,h,hp,hz,q⟩
end
section
variable {X:Cx}
end
theorem ObjOk.there {P:Program}{w:World}{H:Hp}{h:Heap}{a:Addr}{o:HO}(x:ObjOk P w H h a o):∃u,h.get? a=some u:=by
 induction o with
 |lst xs=>obtain⟨_,_,_,_,e⟩:=x;exact⟨_,e⟩
 |tup xs=>obtain⟨_,_,_,o,e,_⟩:=x;exact⟨_,e⟩
 |dK kvs=>obtain⟨_,_,_,_,o,_,_,e,_⟩:=x;exact⟨_,e⟩
 |dT kvs=>obtain⟨_,_,_,_,o,_,_,e,_⟩:=x;exact⟨_,e⟩
 |set S n=>obtain⟨o,_,_,_,e,_⟩:=x;exact⟨_,e⟩
 |ins C dx fs=>obtain⟨_,_,_,e,_⟩:=x;exact⟨_,e⟩
 |own y=>exact x
 |xd fs=>obtain⟨_,⟨_,_,_,e,_⟩,_⟩:=x;exact⟨_,e⟩
 |rng lo hi=>obtain⟨_,_,_,e⟩:=x;exact⟨_,e⟩
 |frz ob u=>obtain⟨e,_⟩:=x;exact⟨_,e⟩
 |tbl ps=>exact⟨_,show h.get? a=some _ from x⟩
 |met f y=>exact⟨_,show h.get? a=some _ from x⟩
 |ext φ=>obtain⟨_,e,_⟩:=x;exact e
structure Fly (P:Program) (w:World) (outer:List Env) (H:Hp) (s:Shared) (a C:Addr) (a0:Value) (B:Heap) (H':Hp) (s':Shared):Prop where
 fl:Heap.FlyingW B outer a (.ref C) a0 s'.heap
 os:s'.os=s.os
 bare:AllBare s'.gens
 un:Un (Z3 outer) [] H H' s.heap s'.heap
 hok:HOk P w H' s'.heap
 kp:∀b o,s.heap.get? b=some o->H b=none->b∉Z3 outer->B.get? b=some o
 th:∀b o,s.heap.get? b=some o->b∉Z3 outer->∃o',B.get? b=some o'
 tr:∀b o,H' b=some o->∃u,B.get? b=some u
 nw:H' a=none
def qr (P:Program)(w:World):mR:=λouter H s E e s'=>∃(a C:Addr) (a0:Value) (B:Heap) (H':Hp),e= .ref a/\Fly P w outer H s a C a0 B H' s'/\E (.ref C) (some a) H'
theorem pE {P:Program}{w:World}{H:Hp}{B h h':Heap}(ok:HOk P w H h)(tr:∀b o,H b=some o->∃u,B.get? b=some u)(k1:B.StaysIn h)(k2:B.StaysIn h'):HOk P w H h':=λa o e=>
 (ok a o e).stay (λb u hb q=>by
  have hH:∃o',H b=some o':=by
   rcases hb with rfl|hb
   .exact⟨_,e⟩
   .exact⟨_,hb⟩
  obtain⟨o',PU⟩:=hH;obtain⟨u',UQ⟩:=tr b o' PU;have z:=k1 b u' UQ;rw[q] at z;cases z;exact k2 b _ UQ) (λ_ z=>z) λ_ _ z=>z
section
variable {X:Cx} {pins:List (Addr×Obj)} {σ:St} {H:Hp} {s s':Shared}
theorem F8 {base h:Heap}{l:List Env}(F:h.FunFrames base l){b:Addr}{o:Obj}(hb:b∈Z3 l)(e:h.get? b=some o):∀vs,o.data≠ .fields vs:=by
 obtain⟨_,o',h1,h2⟩:=F.mem hb;rw[e] at h1;cases h1;exact h2
theorem Fly.land {a C:Addr}{a0:Value}{B:Heap}{H':Hp}{h':Heap}(I:Inv X pins σ H s)(F:Fly X.prog X.w X.stack H s a C a0 B H' s')(k:B.StaysIn h')(sl:s'.heap.UpToSlots h')(t':Nat):
  Inv X pins σ H' {s' with heap:=h',toks:=t'}:=by
 have fr:=F.fl.2.2.1
 have u:Un (Z3 X.stack) [] H H' s.heap h':=by
  refine⟨λb o e n hb _=>k b o (F.kp b o e n hb),λb o e n hb _=>?_,F.un.free,λb o e _=>?_,F.un.tups,F.un.frzs,F.un.tbls⟩
  .obtain⟨s1,e1⟩:=F.un.slot b o e n hb (by simp);obtain⟨s2,e2⟩:=sl b _ e1 (F8 fr hb e1);exact⟨s2,e2⟩
  .by_cases hb:b∈Z3 X.stack
   .obtain⟨o',e1⟩:=F.un.there b o e (by simp);obtain⟨s2,e2⟩:=sl b _ e1 (F8 fr hb e1);exact⟨_,e2⟩
   .obtain⟨o',e1⟩:=F.th b o e hb;exact⟨o',k b o' e1⟩
 have hok:=pE F.hok F.tr F.fl.1 k
 exact I.call' (s':={s' with heap:=h',toks:=t'}) (ch:=[]) F.os u hok F.bare (λb z=>absurd z (by simp))
end
section
variable {P:Program} {w:World} {K:Qc} {mg:Str->Option Value} {base:Heap} {N:List Str} {qual:Str} {scope:Scope} {f:Addr} {cd:Value} {A:Around} {outer:List Env} {s0:Shared} {H0:Hp} {E:XK}
theorem eN {b:Addr}(hb:b∈Z3 outer):b∈Z3 (envOfC qual scope s0.heap.objs.size f cd::outer):=by
 unfold Z3 at*;rw[Kf];split
 .exact hb
 .exact Ij _ hb
theorem gK {b:Addr}{o:Obj}(e:s0.heap.get? b=some o)(hb:b∉Z3 outer):b∉Z3 (envOfC qual scope s0.heap.objs.size f cd::outer):=λz=>by
 unfold Z3 at z hb;rw[Kf] at z;have hl:=HZ e;rcases Iz.mp z with z|z
 .rw[z] at hl;exact absurd hl (Jo _)
 .exact hb z
theorem lh {pins:List (Addr×Obj)}{σ:St}{H:Hp}{s:Shared}{h1:Heap}{e C:Addr}{vs:List Value}(I:Inv (gy (qr P w) P w K mg base N qual scope f cd A outer s0 H0 E) pins σ H s)
  (hx:Heap.MadeExcOf s.heap h1 e (.ref C) vs) (q:E (.ref C) (some e) H):(gy (qr P w) P w K mg base N qual scope f cd A outer s0 H0 E).xe (.ref e) {s with heap:=h1}:=by
 have OU:∀env∈(envOfC qual scope s0.heap.objs.size f cd::outer),∀b,env.frame=some b->b∈Z3 (envOfC qual scope s0.heap.objs.size f cd::outer):=λenv he b hb=>LZ.mpr ⟨env,he,hb⟩
 have fr:s.heap.FunFrames base (envOfC qual scope s0.heap.objs.size f cd::outer):=I.stack
 have tr:∀b o,H b=some o->∃u,(PySem.W.hideAll s.heap (Z3 (envOfC qual scope s0.heap.objs.size f cd::outer))).get? b=some u:=λb o z=>by
  obtain⟨u,hu⟩:=(I.hok b o z).there;refine⟨u,KN _ hu λhb=>?_⟩;have:=I.stkFree b hb;rw[z] at this;cases this
 have nw:H e=none:=by
  cases z:H e with
  |none=>rfl
  |some o=>
   obtain⟨u,hu⟩:=(I.hok e o z).there
   rw[hx.new] at hu;cases hu
 have F_:Un (Z3 outer) [] H0 H s0.heap s.heap:=I.base
 refine wpAny_leaves_madeW (base:=PySem.W.hideAll s.heap (Z3 (envOfC qual scope s0.heap.objs.size f cd::outer))) I.ok.frames rfl (λb o z=>LW _ z) (PySem.W.funFrames_hide fr OU) hx λh' t x1 x2 x3 x4=>?_
 have kp:∀b o,s0.heap.get? b=some o->H0 b=none->b∉Z3 outer->(PySem.W.hideAll s.heap (Z3 (envOfC qual scope s0.heap.objs.size f cd::outer))).get? b=some o:=λb o z n hb=>
  KN _ (F_.keep b o z n hb (by simp)) (gK z hb)
 have th:∀b o,s0.heap.get? b=some o->b∉Z3 outer->∃o',(PySem.W.hideAll s.heap (Z3 (envOfC qual scope s0.heap.objs.size f cd::outer))).get? b=some o':=λb o z hb=>by
  obtain⟨o',z'⟩:=F_.there b o z (by simp);exact⟨o',KN _ z' (gK z hb)⟩
 have hk:=x1.1
 refine⟨e,C,_,_,H,rfl,⟨x1,I.os,I.bare,⟨λb o z n hb _=>hk b o (kp b o z n hb),λb o z n hb _=>?_,λb o z n _=>F_.free b o z n (by simp),λb o z _=>?_,F_.tups,F_.frzs,F_.tbls⟩,?_,kp,th,tr,nw⟩,q⟩
 .obtain⟨s1,e1⟩:=F_.slot b o z n hb (by simp)
  have nf:=F8 fr (eN hb) e1
  obtain⟨s2,e2⟩:=x4 b _ (hx.keeps _ _ e1) nf
  exact⟨s2,e2⟩
 .by_cases hb:b∈Z3 outer
  .obtain⟨o',e1⟩:=F_.there b o z (by simp)
   obtain⟨s2,e2⟩:=x4 b _ (hx.keeps _ _ e1) (F8 fr (eN hb) e1)
   exact⟨_,e2⟩
  .obtain⟨o',e1⟩:=th b o z hb
   exact⟨o',hk b o' e1⟩
 .exact pE I.hok tr (λb o z=>LW _ z) hk
theorem Ag:cU (qr P w) (gy (qr P w) P w K mg base N qual scope f cd A outer s0 H0 E) E:=by
 intro pins σ H s e s' I h;obtain⟨a,C,a0,B,H',rfl,F,q⟩:=h;have fr:=F.fl.2.2.1;have F_:Un (Z3 outer) [] H0 H s0.heap s.heap:=I.base;refine wpAny_leaves_onW I.ok.frames rfl F.fl λh' x1 x2=>?_;have hk:=x1.1;have kp:∀b o,s0.heap.get? b=some o->H0 b=none->b∉Z3 outer->B.get? b=some o:=λb o z n hb=>
  F.kp b o (F_.keep b o z n hb (by simp)) (F_.free b o z n (by simp)) (gK z hb)
 have th:∀b o,s0.heap.get? b=some o->b∉Z3 outer->∃o',B.get? b=some o':=λb o z hb=>by
  obtain⟨o',z'⟩:=F_.there b o z (by simp);exact F.th b o' z' (gK z hb)
 have ub:Un (Z3 (envOfC qual scope s0.heap.objs.size f cd::outer)) [] H H' s.heap s'.heap:=F.un;refine⟨a,C,a0,B,H',rfl,⟨x1,F.os.trans I.os,F.bare,⟨λb o z n hb _=>hk b o (kp b o z n hb),λb o z n hb _=>?_,λb o z n _=>?_,λb o z _=>?_,λb xs z=>ub.tups b xs (F_.tups b xs z),λb o u z=>ub.frzs b o u (F_.frzs b o u z),λb ps z=>?_⟩,pE F.hok F.tr F.fl.1 hk,kp,th,F.tr,F.nw⟩,q⟩
 .obtain⟨s1,e1⟩:=F_.slot b o z n hb (by simp);obtain⟨s2,e2⟩:=ub.slot b _ e1 (F_.free b o z n (by simp)) (eN hb) (by simp);obtain⟨s3,e3⟩:=x2 b _ e2 (F8 fr (eN hb) e2);exact⟨s3,e3⟩
 .obtain⟨o',e1⟩:=F_.there b o z (by simp);exact ub.free b o' e1 (F_.free b o z n (by simp)) (by simp)
 .by_cases hb:b∈Z3 outer
  .obtain⟨o',e1⟩:=F_.there b o z (by simp);obtain⟨o2,e2⟩:=ub.there b o' e1 (by simp);obtain⟨s3,e3⟩:=x2 b _ e2 (F8 fr (eN hb) e2);exact⟨_,e3⟩
  .obtain⟨o',e1⟩:=th b o z hb;exact⟨o',hk b o' e1⟩
 .obtain⟨m1,e1⟩:=F_.tbls b ps z;obtain⟨m2,e2⟩:=ub.tbls b _ e1;exact⟨m1++m2,by rw[e2,NJ]⟩
end
def CS:List Value:=[.type "ValueError",.type "Exception",.type "BaseException",.type "object"]
structure ExC (K:Qc) (mg:Str->Option Value) (x:Str) (C:Addr):Prop where
 bound:mg x=some (.ref C)
 exc:PySem.W.excIn K C CS "ValueError.__new__"=true
theorem ExC.own {K:Qc}{mg:Str->Option Value}{x:Str}{C:Addr}{h:Heap}(O:ExC K mg x C)(X:K.In h):OwnCls x C CS "ValueError.__new__" mg h:=by
 have q:=O.exc;refine⟨O.bound,?_⟩;unfold PySem.W.excIn at q;split at q
 .rename_i g1 g2 g3 lk
  split at q
  .rename_i c2 l2 i0 i1 i2 i3 nn i5 em es
   simp only[Io,QZ,Jn] at q;obtain⟨⟨⟨⟨⟨ea,eb⟩,q1⟩,q2⟩,q3⟩,q4⟩:=q;subst ea;subst eb;obtain⟨y1,y2,y3,y4,y5,y6,y7,y8,y9,y10,y11⟩:=g2;dsimp only at em q1 q3 q4;subst em q1;have e3:g3= #[i0,i1,i2,i3,some (.builtin "ValueError.__new__"),i5]:=by
    cases g3 with
    |mk l=>
     have PX:l=[i0,i1,i2,i3,some (.builtin "ValueError.__new__"),i5]:=es
     rw[PX]
   subst e3;exact⟨l2,y4,y1,y5,y2,y6,y7,y8,y9,y10,g1,i0,i1,i2,i3,i5,h.nsMap y4,X _ _ lk,Heap.Ns.of_isNs (PySem.W.isNs_of_in X q3),PySem.W.nsMap_none_of_in X q3 q4,PySem.W.tail_of_in X q2⟩
  .cases q
 .cases q
def pf (X:Cx)(E:XK):Prop:=∀(pins:List (Addr×Obj)) (σ:St) (H:Hp) (s:Shared) (h1:Heap) (e C:Addr) (vs:List Value),Inv X pins σ H s->Heap.MadeExcOf s.heap h1 e (.ref C) vs->E (.ref C) (some e) H->X.xe (.ref e) {s with heap:=h1}
theorem gS {P:Program}{w:World}{K:Qc}{mg:Str->Option Value}{base:Heap}{N:List Str}{qual:Str}{scope:Scope}{f:Addr}{cd:Value}{A:Around}{outer:List Env}{s0:Shared}{H0:Hp}{E:XK}:
  pf (gy (qr P w) P w K mg base N qual scope f cd A outer s0 H0 E) E:=λ_ _ _ _ _ _ _ _ I hx q=>lh I hx q
def pZ (C:Addr)(E:XK)(ta:TA):TS:=λ_ σ H=>ta σ H λvs H1=>vs.length<=sizeLine/\∀e,H1 e=none->E (.ref C) (some e) H1
section
variable {X:Cx} {E:XK} {x:Str} {C:Addr} {np b_ pos:Pos} {e:Expr} {es:List Expr} {ta:TA}
theorem wz (R:pf X E)(O:ExC X.K X.mg x C)(hc:X.calm=true)(ha:PA X (e::es) ta)(hg:Gl X x:=by rfl)(r_:(x==("__debug__":Str))=false:=by decide)(h:A7 (e::es)=true:=by rfl):
  PS X (.Raise (some (.Call (.Name x np) (e::es) [] b_)) none pos) (pZ C E ta):=by
 intro pins s σ H D I hw
 have h':(u9 e&&A7 es)=true:=h
 rw[Io] at h'
 have h1:starEach (e::es) X.env=(false,eval e X.env)::starEach es X.env:=J0 h'.1
 have h2:(backTo b_ (starEach es X.env)).any (·.1)=false:=aX h'.2
 obtain⟨tl,y0,y1,y2,y3,y4,y5,y6,y7,y8,y9,u0,u1,u2,u3,u5,mN,hC,hN,QY,T⟩:=(O.own I.ok.mod.kin).obj
 refine wpAny_Raise_call_subT (k5:=u5) (k3:=u3) (k2:=u2) (k1:=u1) (k0:=u0) (dd:=y9) (col:=y8) (ab:=y7) (sub:=y6) (sn:=y5) (hdct:=y4) (bs:=y3) (q:=y2) (nm:=y1) (N:=y0) (C:=C) (bm:=tl) (mN:=mN) PySem.F.excBase_ValueError (T.hasType (by decide)) (I.ok.hd hc) ?_ QY (dz I hg O.bound ⟨rfl,?_⟩ r_)
 .rw[h1]
  show(false||(backTo b_ (starEach es X.env)).any (·.1))=false
  rw[h2];rfl
 .have Th:=ha b_ pins s σ H _ I hw
  rw[h1] at Th⊢
  refine KD (E9 Th λus s1 ⟨vs,H1,I1,r,q1,q2⟩=>?_)
  refine⟨rfl,by rw[←r.length];exact q1,I1.bk _ _ hC,hN.keeps I1.bk,T.keeps I1.bk,λh2 e2 hm=>?_⟩
  have nw:H1 e2=none:=by
   cases z:H1 e2 with
   |none=>rfl
   |some o=>
    obtain⟨u,hu⟩:=(I1.hok e2 o z).there
    rw[hm.new] at hu;cases hu
  exact R pins σ H1 s1 h2 e2 C us I1 hm (q2 e2 nw)
theorem mI (R:pf X E)(O:ExC X.K X.mg x C)(hc:X.calm=true)(ha:QA X (e::es) ta)(hg:Gl X x:=by rfl)(r_:(x==("__debug__":Str))=false:=by decide)(h:A7 (e::es)=true:=by rfl):
  QS X (.Raise (some (.Call (.Name x np) (e::es) [] b_)) none pos) (pZ C E ta):=⟨wz R O hc ha.r hg r_ h⟩
def GV (te:TE)(c:Str):TE:=λσ H Q=>te σ H λv H1=>∃y:Str,v= .str y/\y.length+c.length<=1000/\∀z:Str,Q (.str z) H1
theorem Hz {te:TE}{c:Str}{p1 p2:Pos}{j}(he:QE X e te):QE X (.JoinedStr [.FormattedValue e (-1) none p1,.Constant (.str c) j p2] pos) (GV te c):=⟨by
 intro pins s σ H Q I h;refine JoinedStr_many (joinParts_cons (FormattedValue_plain (E9 (he.r pins s σ H _ I h) λu s1 ⟨v,H1,I1,r,y,ev,hl,q⟩=>?_)));subst ev;obtain⟨t,rfl⟩:=(show ∃t,u=Value.str y t from r)
 refine formatField_str (λt' tk=>?_) (d9 (by lia));refine⟨d9 (by rw[NP];show 0+_<=1000;lia),joinParts_cons ?_⟩;have hc:=(fP (X:=X) (x:=c) (j:=j) (pos:=p2)).r pins {s1 with toks:=tk} σ H1 (λv H2=>v= .str c/\H2=H1) (I1.tok tk) ⟨rfl,rfl⟩;refine E9 hc λu2 s2 ⟨v2,H2,I2,r2,e2,e3⟩=>?_;subst e2 e3;obtain⟨t2,rfl⟩:=(show ∃t,u2=Value.str c t from r2)
 have hz:(Str.empty++y++c).length<=sizeLine:=d9 (by rw[NP,NP];show 0+_+_<=1000;lia);refine⟨hz,joinParts_nil ⟨.str (Str.empty++y++c),H2,I2.tok _,⟨_,rfl⟩,q _⟩ hz⟩⟩
end
theorem Fun.okE {P:Program}{w:World}{K:Qc}{mg:Str->Option Value}{base:Heap}{x qual:Str}{st:Stmt}{f:Addr}{fd:FuncData}{N ps:List Str}{k:Nat}{sp:Sp}(F:Fun K x qual st f fd)(S:j5 N ps (i7 st))(len:∀vs H Q E,sp vs H Q E->vs.length=ps.length)
  (B_:∀(d_:Value) (A:Around) (outer:List Env) (s:Shared) (H:Hp) (vs:List V) (Q:VK) (E:XK),Room k (A.deeper (envOfC qual (i7 st) s.heap.objs.size f d_))->sp vs H Q E->
   ∃t,PSs (gy (qr P w) P w K mg base N qual (i7 st) f d_ A outer s H E) (F5 st) t/\t {nx:=λ_ H'=>Q .non H',rt:=Q} (cH N vs) H):A1 P w K mg base (qr P w) (k+1) f fd ps sp:=by
 obtain⟨oc,od,kV,doc,pm,an,d_,ct,My,rfl,lk,Ni⟩:=F.ex
 exact vZ lk Ni S len λA outer s H vs Q E hr OL=>B_ d_ A outer s H vs Q E hr OL
abbrev Cx.pinned (X:Cx)(pins:List (Addr×Obj)):Cx:={X with pn:=X.pn++pins}
def Hw (X:Cx)(pins:List (Addr×Obj))(Es:St->XK):Value->Shared->Prop:=λe s'=>∃(i_:List (Addr×Obj)) (σ:St) (H:Hp) (s:Shared),Inv (X.pinned pins) i_ σ H s/\qr X.prog X.w X.stack H s (Es σ) e s'
abbrev Cx.tried (X:Cx)(pins:List (Addr×Obj))(Es:St->XK):Cx:={X with pn:=X.pn++pins,xe:=Hw X pins Es}
abbrev Cx.suite (X:Cx)(e:Addr):Cx:={X with A:=X.A.mark (some (.ref e)),calm:=false,xe:=λ_ _=>False}
section
variable {X:Cx} {pins i_:List (Addr×Obj)} {Es:St->XK} {σ:St} {H:Hp} {s:Shared} {e:Addr}
theorem Inv.toTried (I:Inv X pins σ H s):Inv (X.tried pins Es) [] σ H s:=
 ⟨⟨I.ok.mod,I.ok.kind,I.ok.glob,I.ok.blt,I.ok.above,I.ok.inj,I.ok.has,I.ok.cab,I.ok.hd,I.ok.frames,I.ok.stk,I.ok.exf,I.ok.bs,I.ok.bsz,I.ok.noex,I.ok.exfs,I.ok.funs,I.ok.frf⟩,
  I.os,I.bare,I.base,I.loc,I.cell,I.free,I.freeC,λp hp=>I.pin p (by simpa using hp),I.hok,I.len⟩
theorem Inv.ofTried (I:Inv (X.tried pins Es) i_ σ H s):Inv X pins σ H s:=
 ⟨⟨I.ok.mod,I.ok.kind,I.ok.glob,I.ok.blt,I.ok.above,I.ok.inj,I.ok.has,I.ok.cab,I.ok.hd,I.ok.frames,I.ok.stk,I.ok.exf,I.ok.bs,I.ok.bsz,I.ok.noex,I.ok.exfs,I.ok.funs,I.ok.frf⟩,
  I.os,I.bare,I.base,I.loc,I.cell,I.free,I.freeC,λp hp=>I.pin p (HU _ hp),I.hok,I.len⟩
theorem Inv.ofPinned (I:Inv (X.pinned pins) i_ σ H s):Inv X pins σ H s:=
 ⟨⟨I.ok.mod,I.ok.kind,I.ok.glob,I.ok.blt,I.ok.above,I.ok.inj,I.ok.has,I.ok.cab,I.ok.hd,I.ok.frames,I.ok.stk,I.ok.exf,I.ok.bs,I.ok.bsz,I.ok.noex,I.ok.exfs,I.ok.funs,I.ok.frf⟩,
  I.os,I.bare,I.base,I.loc,I.cell,I.free,I.freeC,λp hp=>I.pin p (HU _ hp),I.hok,I.len⟩
theorem Inv.triedPinned (I:Inv (X.tried pins Es) i_ σ H s):Inv (X.pinned pins) i_ σ H s:=
 ⟨⟨I.ok.mod,I.ok.kind,I.ok.glob,I.ok.blt,I.ok.above,I.ok.inj,I.ok.has,I.ok.cab,I.ok.hd,I.ok.frames,I.ok.stk,I.ok.exf,I.ok.bs,I.ok.bsz,I.ok.noex,I.ok.exfs,I.ok.funs,I.ok.frf⟩,
  I.os,I.bare,I.base,I.loc,I.cell,I.free,I.freeC,I.pin,I.hok,I.len⟩
theorem nT (A:Around)(h:Option Value):(A.mark h).frames=A.frames:=rfl
theorem Inv.toSuite (I:Inv X pins σ H s):Inv (X.suite e) pins σ H s:=
 ⟨⟨I.ok.mod,I.ok.kind,I.ok.glob,I.ok.blt,I.ok.above,I.ok.inj,I.ok.has,I.ok.cab,(λz=>nomatch z),(nT _ _).trans I.ok.frames,I.ok.stk,I.ok.exf,I.ok.bs,I.ok.bsz,I.ok.noex,I.ok.exfs,I.ok.funs,I.ok.frf⟩,
  I.os,I.bare,I.base,I.loc,I.cell,I.free,I.freeC,I.pin,I.hok,I.len⟩
theorem Inv.ofSuite (ok:X.Ok)(I:Inv (X.suite e) pins σ H s):Inv X pins σ H s:=
 ⟨ok,I.os,I.bare,I.base,I.loc,I.cell,I.free,I.freeC,I.pin,I.hok,I.len⟩
def bE (a C:Addr)(h:Heap):Prop:=∃o vs,h.get? a=some o/\o.cls= .ref C/\o.data= .fields vs
theorem wF {P:Program}{w:World}{H:Hp}{h:Heap}{a C:Addr}(x:bE a C h):ObjOk P w H h a (.ext (bE a C)):=by
 obtain⟨o,vs,e,c,d⟩:=x;refine⟨⟨o,vs,e,c,d⟩,⟨o,e⟩,λh1 h2 ⟨o',vs',e',c',d'⟩ k=>⟨o',vs',k _ e',c',d'⟩⟩
theorem Inv.track {a C:Addr}(I:Inv X pins σ H s)(hn:H a=none)(x:bE a C s.heap)(h0:X.s₀.heap.get? a=none)(hp:∀p∈X.pn++pins,p.1≠a):Inv X pins σ (p0 H a (.ext (bE a C))) s:=by
 obtain⟨o,vs,e,c,d⟩:=id x;have ne0:∀b ob,X.s₀.heap.get? b=some ob->b≠a:=λb ob z q=>by rw[q,h0] at z;cases z
 refine⟨I.ok,I.os,I.bare,⟨I.base.keep,I.base.slot,λb ob z n hx=>?_,I.base.there,λb xs z=>?_,λb ob u z=>?_,λb ps z=>?_⟩,I.loc,I.cell,?_,λy c' z=>?_,λp hq=>?_,λb u z=>?_,I.len⟩
 .rw[b7 (ne0 b ob z)];exact I.base.free b ob z n hx
 .have z':=I.base.tups b xs z;rw[b7 λq=>by rw[q,hn] at z';cases z'];exact z'
 .have z':=I.base.frzs b ob u z;rw[b7 λq=>by rw[q,hn] at z';cases z'];exact z'
 .obtain⟨more,z'⟩:=I.base.tbls b ps z;exact⟨more,by rw[b7 λq=>by rw[q,hn] at z';cases z'];exact z'⟩
 .obtain⟨m,⟨oL,es,ep,hL,dL,_⟩,_⟩:=I.loc;rw[b7 λq=>?_]
  .exact I.free
  .rw[q,e] at hL;cases hL;rw[d] at dL;cases dL
 .obtain⟨v,oc,Rp,hod⟩:=I.cell y c' z;rw[b7 λq=>?_]
  .exact I.freeC y c' z
  .rw[q,e] at Rp;cases Rp;rw[d] at hod;cases hod
 .obtain⟨p1,p2,p3,p4,p5⟩:=I.pin p hq;exact⟨p1,by rw[b7 (hp p hq)];exact p2,p3,p4,p5⟩
 .by_cases q:b=a
  .subst q;rw[b9] at z;cases z;exact wF x
  .rw[b7 q] at z;refine(I.hok b u z).stay (λ_ _ _ q=>q) (λb' q'=>?_) λb' xs q'=>?_
   .rw[b7 λk=>by rw[k,hn] at q';cases q'];exact q'
   .rw[b7 λk=>by rw[k,hn] at q';cases q'];exact q'
end
def vO (sp:Sp)(n_:List V)(Es:St->XK)(t:TA):TE:=λσ H Q=>t σ H λvs H1=>sp (vs++n_) H1 Q (Es σ)
section
variable {X:Cx} {pins:List (Addr×Obj)} {Es:St->XK} {k:Nat} {ps:List Str} {n_:List V} {sp:Sp} {x:Str} {p pos:Pos} {e:Expr} {es:List Expr} {t:TA}
theorem GQ (C:K3 X.prog X.w X.K X.mg X.base (qr X.prog X.w) k x ps n_ sp)(hr:Room k X.A)(ha:QA (X.tried pins Es) (e::es) t)(hg:Gl X x:=by rfl)
  (r_:(x==("__debug__":Str))=false:=by decide) (h:A7 (e::es)=true:=by rfl):QE (X.tried pins Es) (.Call (.Name x p) (e::es) [] pos) (vO sp n_ Es t):=⟨by
 have h':(u9 e&&A7 es)=true:=h
 rw[Io] at h'
 obtain⟨f,fd,ds,F,hm,hk,hb,hd⟩:=C
 intro i_ s σ H Q I hw
 refine JQ (dz I hg hm ?_ r_)
 refine NL (h₀:=X.base) I.ok.mod.kin hk (E9 (ha.r pos i_ s σ H _ I hw) λus s1 ⟨vs,H1,I1,r,q⟩=>⟨I1.kIn,?_⟩) (J0 h'.1) (aX h'.2)
 have r2:Vals (vs++n_) (us++ds):=r.append hd
 have hl:(us++ds).length=ps.length:=by rw[←r2.length];exact F.len _ _ _ _ q
 refine wpAny_call (Lv (F.run X.A X.stack s1 H1 ⟨us,[]⟩ (us++ds) (vs++n_) Q (Es σ) hr I1.env0 (hb s1 us I1.kIn hl) r2 q) λr s' hq=>?_)
 cases r with
 |error e=>exact⟨i_,σ,H1,s1,I1.triedPinned,hq⟩
 |ok fl=>
  cases fl with
  |ret u=>exact I1.after hq
  |next=>exact False.elim hq
  |brk=>exact False.elim hq
  |cont=>exact False.elim hq⟩
end
theorem oG {M:Model}{A:Around}{E:Value->Shared->Prop}{K:Qc}{s:Shared}{a C T:Addr}{b:Bool}{Q:Bool->Shared->Prop}(X:K.In s.heap)(x:bE a C s.heap)(hm:PySem.W.typeIn K (.ref T)=some (.type "type"))
  (he:PySem.W.subIn K (.ref T) (.type "BaseException")=some true) (hc:(PySem.W.clsIn K T).isSome=true) (hs:PySem.W.subIn K (.ref C) (.ref T)=some b) (q:Q b s):wpAny M A (excMatches (.ref a) (.ref T)) Q E s:=by
 obtain⟨oe,vs,ex,ec,ed⟩:=x
 have L1:PySem.W.Looks M s.heap (isInstance (.ref T) (.type "tuple")) false:=(PySem.W.looks_typeIn X hm).andThen (PySem.W.Looks.of_pure tc_notTuple)
 have L2:PySem.W.Looks M s.heap (isType (.ref T)) true:=by
  unfold PySem.W.clsIn at hc;split at hc
  .rename_i lk
   intro A' Q' E' s' k q';unfold isType loadHead;exact HR (wpAny_loadPart (k _ _ (X _ _ lk)) (Ig q'))
  .cases hc
 have L3:=NF (M:=M) X he
 have L4:PySem.W.Looks M s.heap (typeOf (.ref a)) (.ref C):=by
  have z:PySem.W.Looks M s.heap (typeOf (.ref a)) oe.cls:=(PySem.W.Looks.ld ex).andThen .now;rw[ec] at z;exact z
 have L5:=NF (M:=M) X hs
 unfold excMatches
 refine HR (L1.here ?_)
 simp only[Lc,Nc]
 have LX:PySem.W.Looks M s.heap (isExcClass (.ref T)) true:=by
  unfold isExcClass;exact L2.andThen (by simpa using L3)
 refine HR (Ig ?_)
 refine HR ?_
 rw[Lb]
 refine HR (HR (LX.here ?_))
 simp only[Bool.not_true,Lc,Nc]
 refine Ig ?_
 simp only[Mh]
 refine Ig ?_
 refine HR (L4.here ?_)
 refine HR ?_
 rw[Lb]
 refine HR (HR (L5.here ?_))
 cases b with
 |true=>
  simp only[Oa]
  exact Ig (Ig (Ig q))
 |false=>
  simp only[Lc,Nc]
  refine Ig ?_
  simp only[Mh]
  exact Ig (Ig q)
structure GL (K:Qc) (mg:Str->Option Value) (x:Str) (T:Addr):Prop where
 bound:mg x=some (.ref T)
 ty:PySem.W.typeIn K (.ref T)=some (.type "type")
 exc:PySem.W.subIn K (.ref T) (.type "BaseException")=some true
 cls:(PySem.W.clsIn K T).isSome=true
section
variable {X:Cx} {x n:Str} {T:Addr} {np Pe pos:Pos} {i:Nat} {b₀:Stmt} {body suite:List Stmt} {tb:(St->XK)->TS} {ts:TS}
end
end L2
namespace L2
open PySem PySem.Spec PyProof.Rows PySem.W
section
variable {X:Cx}
end
def cA (K:Frag)(x:Str):Addr:=match nsIn K mainGlobals x with
 |some (some (.ref C))=>C
 |_=>0
section
variable {K:Frag} {σ:St} {H:Hp} {Q:VK} {D:nZ}
theorem yk {C:Addr}{E:XK}{ta:TA}(q:ta σ H λvs H1=>vs.length<=sizeLine/\∀e,H1 e=none->E (.ref C) (some e) H1):pZ C E ta D σ H:=q
theorem Gm {te:TE}{c:Str}(q:te σ H λv H1=>∃y:Str,v= .str y/\y.length+c.length<=1000/\∀z:Str,Q (.str z) H1):GV te c σ H Q:=q
theorem zB {sp:Sp}{n_:List V}{Es:St->XK}{t:TA}(q:t σ H λvs H1=>sp (vs++n_) H1 Q (Es σ)):vO sp n_ Es t σ H Q:=q
end
section
variable {X:Cx}
def Dq (K:Frag):R2:=λ_ _ _ _=>False
theorem Co (hu:X.A.units+64<cLine):OpR X (compareOp .NotEq) (Dq X.K):=by
 intro pins s σ H x y v u Q I rx ry h;exact h.elim
def Ar (K:Frag):R2:=λx y H Q=>Bw K x y H Q\/Dq K x y H Q
theorem FQ (K:Frag){k:Nat}(hr:Room k X.A)(h:X.K=K:=by rfl):OpR X (compareOp .NotEq) (Ar K):=(Hd K hr h).or (h▸Co hr.units)
def zD:V->List V->Hp->VK->Prop:=λx vs H Q=>∃a kvs,x= .ref a/\vs=[]/\H a=some (.dK kvs)/\Q .non (p0 H a (.dK []))
theorem iR:uL X "dict.clear" zD:=by
 intro pins s σ H x vs v us Q I rx rv h;obtain⟨a,kvs,rfl,rfl,hH,q⟩:=h;cases rx;have P_:=rv.zero;subst P_;exact zm I hH λs' I'=>⟨.non,_,I',rfl,q⟩
end
section
variable {K:Frag} {H:Hp} {Q:VK}
theorem xH {i j:Int}(q:Q (.bl (!decide (i=j))) H):Ar K (.int i) (.int j) H Q:= .inl (oE q)
end
def J5 (ka kb:List (j3×V)):List (j3×V):=kb.foldl (λa x=>D0 a x.1 x.2) ka
theorem jT:∀{kb ka:List (j3×V)},(J5 ka kb).length<=ka.length+kb.length
 |[],ka=>HJ _
 |p::r,ka=>by
  show(J5 (D0 ka p.1 p.2) r).length<=_;have z:=jT (kb:=r) (ka:=D0 ka p.1 p.2);have z2:=K2 ka p.1 p.2;rw[IV];lia
section
variable {X:Cx}
def zI:V->List V->Hp->VK->Prop:=λx vs H Q=>∃a b ka kb,x= .ref a/\vs=[.ref b]/\H a=some (.dK ka)/\Rd H b (.dK kb)/\a≠b/\ka.length+kb.length<=1000/\Q .non (p0 H a (.dK (J5 ka kb)))
theorem Q4:uL X "dict.update" zI:=by
 intro pins s σ H x vs v us Q I rx rv h;obtain⟨a,b,ka,kb,rfl,rfl,hA,hB,C_,hl,q⟩:=h;cases rx;obtain⟨u,rfl,ru⟩:=K1 rv;cases ru;obtain⟨z,hd,va,ra,da⟩:=rm I.hok hA;obtain⟨z2,hd2,vb,rb,db⟩:=N0 I.hok hB;have lz:ka.length+kb.length<=sizeLine:=d9 hl;refine Jw Ka da.typeIs PySem.F.entry_dict_update (PySem.F.args_dict_update_2 _ _) (meets_dict_update (l0 X.prog X.w) a b C_ hd2) ⟨va,vb,da,db,by rw[←ra.length,←rb.length];exact lz,λh' dd' _ hs=>?_⟩;have he:∃q,h'.get? a=some q:=let ⟨q,_,_,hq,_⟩:=dd';⟨q,hq⟩
 have Oh:=jT (kb:=kb) (ka:=ka);refine⟨.non,_,cm (t':=s.toks) I (by rw[hA];exact True.intro) hs he (fq (kvs:=J5 ka kb) (Ip Oh lz) hd (KV.puts rb ra) dd'),rfl,q⟩
end
section
open PySem.Builtin PySem.Builtin.Str
end
def aS (σ:List Str)(x:Str):List Str:=if x∈σ then σ else σ++[x]
def fm (ss:List Str):List Str:=ss.foldl aS []
theorem rM (σ:List Str)(x:Str):(aS σ x).length<=σ.length+1:=by
 unfold aS;split
 .lia
 .rw[HQ];simp
theorem xg {σ:List Str}{x y:Str}:y∈aS σ x↔y∈σ\/y=x:=by
 unfold aS;split
 .next h=>exact⟨.inl,λz=>z.elim id λe=>e▸h⟩
 .simp
theorem jf:∀(ss σ:List Str),(ss.foldl aS σ).length<=σ.length+ss.length
 |[],σ=>HJ _
 |x::r,σ=>by
  have z:=jf r (aS σ x);have z2:=rM σ x;rw[Kx,IV];lia
theorem kO:∀(ss σ:List Str),σ.Nodup->((ss.foldl aS σ).length=σ.length+ss.length↔(σ++ss).Nodup)
 |[],σ,nd=>by simp [nd]
 |x::r,σ,nd=>by
  rw[Kx,IV];by_cases h:x∈σ
  .have e:aS σ x=σ:=by unfold aS;rw[if_pos h]
   rw[e];have z:=jf r σ;constructor
   .intro q;lia
   .intro q;exact absurd rfl ((Iu.mp q).2.2 x h x (by simp))
  .have e:aS σ x=σ++[x]:=by unfold aS;rw[if_neg h]
   have nd':(σ++[x]).Nodup:=Iu.mpr ⟨nd,by simp,λa ha b hb e=>h (by
    have hbx:b=x:=by simpa using hb
    rw[←hbx,←e];exact ha)⟩
   have z:=kO r (σ++[x]) nd';rw[e];rw[HQ,Il] at z;rw[IF] at z;show _↔(σ++([x]++r)).Nodup;rw[←z];lia
theorem nF (ss:List Str):(fm ss).length=ss.length↔ss.Nodup:=by
 have z:=kO ss [] JG;simpa [fm] using z
section
variable {prog:Program} {w:World} {A:Around} {E:Value->Shared->Prop}
def StrsAre:List Value->List Str->Prop:=Paired λu x=>∃t,u= .str x t
theorem xD {d it l:Addr}{items:List Value}(hh:A.handled=none)(RA:d≠it)(VT:l≠it)(VU:l≠d):
  ∀(more:List Str) (i:Nat) (s:Shared) (σ:List Str) (R:Result->Shared->Prop),
   s.heap.IsListIter it l i->s.heap.IsList l items.toArray->StrsAre (items.drop i) more->s.heap.SetOf (strKind prog w) d (λk=>decide (k∈σ)) σ.length->σ.length+more.length<2000->
   (∀h' tk,(∀b o,b≠d->b≠it->s.heap.get? b=some o->h'.get? b=some o)->h'.SetOf (strKind prog w) d (λk=>decide (k∈more.foldl aS σ)) (more.foldl aS σ).length->R (.ok (.ret .none)) {s with heap:=h',toks:=tk})->
   codeAny (model prog w) A (.builtin "set.update.loop" ⟨[.ref d,.ref it],[]⟩) R s:=by
 intro more
 induction more with
 |nil=>
  intro i s σ R hit hl hp hd hz hR
  have hx:items.toArray[i]?=none:=by
   have hn:items.drop i=[]:=by cases s_:items.drop i with
    |nil=>rfl
    |cons x r=>rw[s_] at hp;cases hp
   have:=LC.mp hn;simp;lia
  refine Jt F.entry_set_update_loop ?_
  rw[Jj Lf _]
  show wpAny _ A.in1 (pyNext (.ref it)>>=_) _ _ s
  refine HR (Lu (A:=A.in1) hh hit hl hx λh' eb=>?_)
  show wpAny _ A.in1 (ret Value.none) _ _ _
  refine Ig (hR h' s.toks (λb o h1 h2 e=>eb b o h2 e) ?_)
  obtain⟨o,es,ep,t,ho,r⟩:=hd
  exact⟨o,es,ep,t,eb d o RA ho,r⟩
 |cons x more ih=>
  intro i s σ R hit hl hp hd hz hR
  obtain⟨u,hx,⟨t,rfl⟩,Ov⟩:∃u,items.toArray[i]?=some u/\(∃t,u=Value.str x t)/\StrsAre (items.drop (i+1)) more:=by
   cases s_:items.drop i with
   |nil=>rw[s_] at hp;cases hp
   |cons u r=>
    rw[s_] at hp
    cases hp with
    |cons h1 h2=>
     refine⟨u,?_,h1,?_⟩
     .have z:=Jm List.head? s_
      simpa using z
     .have z:=Jm List.tail s_
      rw[Nu] at z
      rw[z];exact h2
  simp only[IV] at hz
  refine Jt F.entry_set_update_loop ?_
  rw[Jj Lf _]
  show wpAny _ A.in1 (pyNext (.ref it)>>=_) _ _ s
  refine HR (Ll hit hl hx λh' hit' hs'=>?_)
  have SI:h'.SetOf (strKind prog w) d (λk=>decide (k∈σ)) σ.length:=by
   obtain⟨o,es,ep,tb,ho,r⟩:=hd;exact⟨o,es,ep,tb,hs'.extBut d o RA ho,r⟩
  refine HR (Ji ?_)
  unfold setAdd
  refine Ji (HR ((strKind prog w).pyHash (k:=x) (strKind_is _ _ _ _) ?_))
  refine wpAny_setAddHashed_of (knd:=strKind prog w) (s:={s with heap:=h',toks:=s.toks+1}) (strKind_is _ _ _ _) rfl SI (by unfold scanBound;lia) λG' hs'' VW=>?_
  have hS3:G'.SetOf (strKind prog w) d (λk=>decide (k∈aS σ x)) (aS σ x).length:=by
   refine SetOf_congr VW (λk=>?_) ?_
   .rw[II];simp [xg]
   .unfold aS;by_cases h:x∈σ
    .rw[if_pos (by simpa using h),if_pos h]
    .rw[if_neg (by simpa using h),if_neg h,HQ];rfl
  have kp:∀b o,b≠d->b≠it->s.heap.get? b=some o->G'.get? b=some o:=λb o hb1 Ob e=>(hs''.2 b hb1).trans (hs'.extBut b o Ob e)
  have hle:=rM σ x
  refine Ig ⟨JR Lf _,?_⟩
  refine ih (i+1) _ (aS σ x) R ?_ ?_ Ov hS3 (by lia) (λh3 tk k3 d3=>hR h3 tk (λb o e1 e2 e=>k3 b o e1 e2 (kp b o e1 e2 e)) d3)
  .exact hit'.at λo e=>(hs''.2 it (JC RA)).trans e
  .obtain⟨ol,D_,r⟩:=hl
   exact⟨ol,kp l ol VU VT D_,r⟩
end
section
variable {prog:Program} {w:World} {A:Around} {E:Value->Shared->Prop}
set_option maxHeartbeats 3200000 in
theorem jI {l:Addr}{items:List Value}{o:Obj}{n:Nat}{ss:List Str}{s:Shared}{Q:Value->Shared->Prop}(hh:A.handled=none)(ho:s.heap.get? l=some o)(hc:o.cls= .type "list")(I_:o.data= .seq items.toArray n)(hz:ss.length<1000)(hp:StrsAre items ss)
  (h:∀h' tk,h'.SetOf (strKind prog w) s.heap.objs.size (λk=>decide (k∈fm ss)) (fm ss).length->(∀b o,s.heap.get? b=some o->h'.get? b=some o)->Q (.ref s.heap.objs.size) {s with heap:=h',toks:=tk}):
  wpAny (model prog w) A (call (.type "set") [.ref l]) Q E s:=by
 obtain⟨c1,c2,c3⟩:=Ky.mro
 have c4:=Ky.made;have c5:=Ky.sub;have c6:=Ky.notType;have c7:=Ky.canCreate;have c8:=F.typeCall_set_1 (.ref l)
 refine wpAny_call (codeAny_of_tree (show wpAny _ _ (callAny (.type "set") _) _ _ _ from Ig ⟨Code.quiet_builtin _ (by decide+kernel),Jt F.entry_type_call ?_⟩))
 rw[Around.under_plain (weight_type_call_type "set" [Value.ref l] []) rfl]
 repeat(any_goals first|assumption|wp_step)
 refine Lv (code_set_new_1 (E:=E) (.ref l) (Q₁:=λob st=>∃led:Bool,ob= .ref s.heap.objs.size/\st={s with heap:=s.heap.push {cls:= .type "set",dict:=none,data:= .set #[] 0 (.fresh 0 0 led)}}) λled=>⟨led,rfl,rfl⟩) λr1 Pa hr1=>?_
 match r1,hr1 with
 | .error _,hr1=>exact hr1
 | .ok .next,hr1=>exact hr1.elim
 | .ok .brk,hr1=>exact hr1.elim
 | .ok .cont,hr1=>exact hr1.elim
 | .ok (.ret ob),hr1=>
  obtain⟨led,rfl,rfl⟩:=hr1
  have UR:(s.heap.push {cls:= .type "set",dict:=none,data:= .set #[] 0 (.fresh 0 0 led)}).get? s.heap.objs.size=some {cls:= .type "set",dict:=none,data:= .set #[] 0 (.fresh 0 0 led)}:=Iq _ rfl
  have Pd:(s.heap.push {cls:= .type "set",dict:=none,data:= .set #[] 0 (.fresh 0 0 led)}).get? l=some o:=HS _ ho
  have SX:l≠s.heap.objs.size:=Im (HZ ho)
  generalize hP:s.heap.push {cls:= .type "set",dict:=none,data:= .set #[] 0 (.fresh 0 0 led)}=Ov at UR Pd
  have c9:Shared.TypeIs {s with heap:=Ov} (.ref s.heap.objs.size) "set":=⟨_,UR,rfl⟩
  have c10:=Ky.init.lookup;have c11:=Ky.init.bind (.ref s.heap.objs.size)
  repeat(any_goals first|assumption|wp_step)
  refine Lv (codeAny_call_builtin (R:=wants (λr st=>r= .none/\∃h2 Qf,st={s with heap:=h2,toks:=Qf}/\h2.SetOf (strKind prog w) s.heap.objs.size (λk=>decide (k∈fm ss)) (fm ss).length/\(∀b o,s.heap.get? b=some o->h2.get? b=some o)) E) Ky.init.plain F.entry_set_init (check_set_init_1 c9 ?_)) λr2 ML hr2=>?_
  .obtain⟨k1,k2,k3,k4⟩:=o
   dsimp only at hc I_
   subst hc I_
   have d1:=F.sub_list_set;have d2:=F.sub_list_frozenset;have d3:(Value.type "list"==Value.type "dict")=false:=by decide
   have NM:Ov.IsList l items.toArray:=⟨_,Pd,rfl,n,rfl⟩
   unfold Builtin.«set.__init__» noKeywords Builtin.Frozenset.updateFrom
   generalize hPI:pyIter=PI
   wp_walk
   subst hPI
   refine KC NM (HR (wpAny_runValue ?_))
   have hsz:s.heap.objs.size<Ov.objs.size:=HZ UR
   refine xD (l:=l) (items:=items) (A:=A.in1.in1) (by simpa using hh) (Im hsz) (Im (HZ Pd)) SX ss 0 _ [] _ ⟨_,Iq _ rfl,rfl,rfl⟩ (NM.push _) (by rw[Mg];exact hp) ?_ (by simpa using(show ss.length<2000 by lia)) λh3 tk3 Sn d3'=>?_
   .have hg:(Ov.push {cls:= .type "list_iterator",data:= .fields #[.ref l,.int 0 0]}).get? s.heap.objs.size=some {cls:= .type "set",dict:=none,data:= .set #[] 0 (.fresh 0 0 led)}:=HS _ UR
    exact SetOf_congr ((setObjOf_fresh (knd:=strKind prog w) led).setOf hg (by unfold scanBound;lia)) (λ_=>by simp) rfl
   .show wpAny _ _ _ _ _ _
    refine Ig (show wpAny _ _ (ret Value.none) _ _ _ from Ig ⟨rfl,h3,tk3,rfl,d3',λb ob e=>?_⟩)
    have e1:Ov.get? b=some ob:=by rw[←hP];exact HS _ e
    exact Sn b ob (Im (HZ e)) (Im (HZ e1)) (HS _ e1)
  .match r2,hr2 with
   | .error _,hr2=>exact hr2
   | .ok .next,hr2=>exact hr2.elim
   | .ok .brk,hr2=>exact hr2.elim
   | .ok .cont,hr2=>exact hr2.elim
   | .ok (.ret r),hr2=>
    obtain⟨rfl,h2,Qf,rfl,VW,RB⟩:=hr2
    repeat(any_goals first|assumption|wp_step)
    exact h _ _ VW RB
end
def cZ (a:Addr)(n:Nat)(h:Heap):Prop:=∃o es ep t,h.get? a=some o/\o.ExactSet/\o.data= .set es ep t/\t.fits es.size=true/\es.size=n
theorem sO {P:Program}{w:World}{H:Hp}{h:Heap}{a:Addr}{n:Nat}(x:cZ a n h):ObjOk P w H h a (.ext (cZ a n)):=by
 obtain⟨o,es,ep,t,e,r⟩:=x;exact⟨⟨o,es,ep,t,e,r⟩,⟨o,e⟩,λh1 h2 ⟨o',PX,Ro,t',e',r'⟩ k=>⟨o',PX,Ro,t',k _ e',r'⟩⟩
theorem kh:∀{ss:List Str} {us:List Value},Vals (ss.map V.str) us->StrsAre us ss
 |[],_,.nil=> .nil
 |x::r,_,.cons h t=> .cons h (kh t)
section
variable {X:Cx}
def zS (K:Qc):List V->Hp->VK->Prop:=λxs H Q=>∃(p:Addr) (ss:List Str),xs=[.ref p]/\SqL K H p (ss.map V.str)/\ss.length<1000/\∀l,H l=none->Q (.ref l) (p0 H l (.ext (cZ l (fm ss).length)))
theorem ui (hc:X.calm=true):CallR X (.type "set") (zS X.K):=by
 intro pins s σ H xs us Q I r h;obtain⟨p,ss,rfl,hq,hz,q⟩:=h;obtain⟨u,rfl,ru⟩:=K1 r;cases ru;obtain⟨a_,rv,⟨o,n,e,c,hd,dt⟩,_⟩:=I.list hq;refine jI (I.ok.hd hc) e c dt hz (kh rv) λh' tk hS k=>?_;refine⟨.ref s.heap.objs.size,_,?_,rfl,q _ (I.hok.fresh (HJ _))⟩;obtain⟨o',es,ep,t,h1,h2,h3,_,_,_,h7,h8⟩:=hS;exact I.laid (a:=s.heap.objs.size) (t':=tk) k (HJ _) (sO ⟨o',es,ep,t,h1,h2,h3,h7,h8⟩)
def An (K:Qc):List V->Hp->VK->Prop:=λxs H Q=>uC K xs H Q\/∃p n,xs=[V.ref p]/\H p=some (.ext (cZ p n))/\n<=1000/\Q (.int n) H
theorem call_lenS:CallR X (.builtin "len") (An X.K):=by
 refine call_lenX.or ?_;intro pins s σ H xs us Q I r h;obtain⟨p,n,rfl,hp,hn,q⟩:=h;obtain⟨u,rfl,ru⟩:=K1 r;cases ru;obtain⟨o,es,ep,t,h1,h2,h3,h4,h5⟩:=(I.hok p _ hp).1;exact call_len_set h1 h2 h3 h4 (by lia) ⟨.int n,H,I.tok _,⟨_,by rw[h5]⟩,q⟩
theorem Ek (K:Qc)(hc:X.calm=true)(h:X.K=K:=by rfl):CallR X (.type "set") (zS K):=h▸ui hc
end
open PySem.AutoSeq1 (wpAny_loadPart')
open PySem.MeetsSeq PySem.MeetsSeq2 PySem.MeetsSeq3
theorem mX:plainId "list.__eq__.loop"=true:=plain_eq_loop
section
variable {P:Program} {w:World}
theorem oI (l m:Addr)(xs ys:Array Value)(n1 n2:Nat)(d1 d2:Option Addr)(s1 s2:Array (Option Value))(hz:xs.size=ys.size)(f:Nat->Bool)(md:Int)(So:md=2\/md=3):∀(k i:Nat),xs.size -i=k->
  MeetsIn P w (Builtin.«list.__eq__.loop» ⟨[.ref l,.ref m,rawInt i,rawInt md],[]⟩) (λA R s=>
   s.heap.get? l=some {cls:= .type "list",dict:=d1,data:= .seq xs n1,slots:=s1}/\s.heap.get? m=some {cls:= .type "list",dict:=d2,data:= .seq ys n2,slots:=s2}/\
   (∀j (g1:j<xs.size) (g2:j<ys.size),EqP P w A.in1 s xs[j] ys[j] (f j))/\
   R (.ok (.ret (.bool (if md=2 then((List.range xs.size).drop i).all f else !((List.range xs.size).drop i).all f)))) s):=by
 intro k
 induction k with
 |zero=>
  intro i hk
  intro A R s hyp
  obtain⟨hp,gg,dr,tk,os⟩:=s
  obtain⟨e1,e2,he,fin⟩:=hyp
  have x1:xs[((i:Nat):Int).toNat]?=none:=by simp;lia
  have x2:ys[((i:Nat):Int).toNat]?=none:=by simp;lia
  have x3:(List.range xs.size).drop i=[]:=by simp;lia
  rw[x3] at fin
  rcases So with rfl|rfl
  .wp_walk using wpAny_loadPart' e1,wpAny_loadPart' e2
   rw[x1,x2]
   wp_walk using wpAny_loadPart' e1,wpAny_loadPart' e2
   show R (.ok (.ret (.bool (xs.size==ys.size)))) _
   rw[hz];simpa using fin
  .wp_walk using wpAny_loadPart' e1,wpAny_loadPart' e2
   rw[x1,x2]
   wp_walk using wpAny_loadPart' e1,wpAny_loadPart' e2
   show R (.ok (.ret (.bool (xs.size !=ys.size)))) _
   rw[hz];simpa using fin
 |succ k ih=>
  intro i hk
  intro A R s hyp
  have ih:=ih (i+1) (by lia)
  obtain⟨hp,gg,dr,tk,os⟩:=s
  obtain⟨e1,e2,he,fin⟩:=hyp
  have l1:i<xs.size:=by lia
  have l2:i<ys.size:=by lia
  have x1:xs[((i:Nat):Int).toNat]?=some xs[i]:=by simp [l1]
  have x2:ys[((i:Nat):Int).toNat]?=some ys[i]:=by simp [l2]
  have x3:(List.range xs.size).drop i=i::(List.range xs.size).drop (i+1):=by simp [Jh,l1]
  have x4:((i:Int)+1)=((i+1:Nat):Int):=by push_cast;rfl
  rw[x3,Kh] at fin
  rcases So with rfl|rfl
  .wp_walk using wpAny_loadPart' e1,wpAny_loadPart' e2
   rw[x1,x2]
   refine HR (he i l1 l2 _ _ ?_)
   cases hf:f i with
   |true=>
    rw[hf] at fin
    wp_walk
    rw[x4]
    refine⟨JR mX _,Jt Mz ?_⟩
    rw[Jj mX _]
    exact ih A R _ ⟨e1,e2,he,by simpa using fin⟩
   |false=>
    rw[hf] at fin
    wp_walk using wpAny_loadPart' e1,wpAny_loadPart' e2
    rw[x1,x2]
    wp_walk
    simpa using fin
  .wp_walk using wpAny_loadPart' e1,wpAny_loadPart' e2
   rw[x1,x2]
   refine HR (he i l1 l2 _ _ ?_)
   cases hf:f i with
   |true=>
    rw[hf] at fin
    wp_walk
    rw[x4]
    refine⟨JR mX _,Jt Mz ?_⟩
    rw[Jj mX _]
    exact ih A R _ ⟨e1,e2,he,by simpa using fin⟩
   |false=>
    rw[hf] at fin
    wp_walk using wpAny_loadPart' e1,wpAny_loadPart' e2
    rw[x1,x2]
    wp_walk
    simpa using fin
theorem BE (l m:Addr)(xs ys:Array Value)(n1 n2:Nat)(d1 d2:Option Addr)(s1 s2:Array (Option Value))(hz:xs.size=ys.size)(f:Nat->Bool):
  MeetsIn P w (Builtin.«list.__eq__» ⟨[.ref l,.ref m],[]⟩) (λA R s=>
   s.heap.get? l=some {cls:= .type "list",dict:=d1,data:= .seq xs n1,slots:=s1}/\s.heap.get? m=some {cls:= .type "list",dict:=d2,data:= .seq ys n2,slots:=s2}/\
   (∀j (g1:j<xs.size) (g2:j<ys.size),EqP P w A.in1 s xs[j] ys[j] (f j))/\R (.ok (.ret (.bool ((List.range xs.size).all f)))) s):=by
 intro A R s hyp
 obtain⟨hp,gg,dr,tk,os⟩:=s
 obtain⟨e1,e2,he,fin⟩:=hyp
 have q1:=AutoSeq1.sub_list_list;have q2:¬(xs.size !=ys.size)=true:=by simp [hz]
 wp_walk using wpAny_loadPart' e1,wpAny_loadPart' e2
 refine⟨JR mX _,Jt Mz ?_⟩
 rw[Jj mX _]
 exact oI l m xs ys n1 n2 d1 d2 s1 s2 hz f 2 (.inl rfl) _ 0 rfl A R _ ⟨e1,e2,he,by simpa using fin⟩
theorem CB (l m:Addr)(xs ys:Array Value)(n1 n2:Nat)(d1 d2:Option Addr)(s1 s2:Array (Option Value))(hz:xs.size=ys.size)(f:Nat->Bool):
  MeetsIn P w (Builtin.«list.__ne__» ⟨[.ref l,.ref m],[]⟩) (λA R s=>
   s.heap.get? l=some {cls:= .type "list",dict:=d1,data:= .seq xs n1,slots:=s1}/\s.heap.get? m=some {cls:= .type "list",dict:=d2,data:= .seq ys n2,slots:=s2}/\
   (∀j (g1:j<xs.size) (g2:j<ys.size),EqP P w A.in1 s xs[j] ys[j] (f j))/\R (.ok (.ret (.bool (!(List.range xs.size).all f)))) s):=by
 intro A R s hyp
 obtain⟨hp,gg,dr,tk,os⟩:=s
 obtain⟨e1,e2,he,fin⟩:=hyp
 have q1:=AutoSeq1.sub_list_list;have q2:¬(xs.size !=ys.size)=true:=by simp [hz]
 wp_walk using wpAny_loadPart' e1,wpAny_loadPart' e2
 refine⟨JR mX _,Jt Mz ?_⟩
 rw[Jj mX _]
 exact oI l m xs ys n1 n2 d1 d2 s1 s2 hz f 3 (.inr rfl) _ 0 rfl A R _ ⟨e1,e2,he,by simpa using fin⟩
theorem RcP.lst {A:Around}{s:Shared}{l m:Addr}{xs ys:Array Value}{f:Nat->Bool}(hl:s.heap.IsList l xs)(hm:s.heap.IsList m ys)(hz:xs.size=ys.size)(hu:A.units<cLine)
  (he:∀j (g1:j<xs.size) (g2:j<ys.size),EqP P w A.in1 s xs[j] ys[j] (f j)):RcP P w A s (.ref l) (.ref m) ((List.range xs.size).all f):=λE Q q=>by
 obtain⟨⟨c1,d1,a1,s1⟩,o1,k1,n1,t1⟩:=id hl
 obtain⟨⟨c2,d2,a2,s2⟩,o2,k2,n2,t2⟩:=id hm
 simp only at k1 t1 k2 t2
 subst k1 t1 k2 t2
 refine JO (op:= .Eq) ⟨_,o1,rfl⟩ ⟨_,o2,rfl⟩ Nj (Jw Nj ⟨_,o1,rfl⟩ PySem.F.entry_list_eq (PySem.F.args_list_eq_2 _ _) (BE l m xs ys n1 n2 d1 d2 s1 s2 hz f) ⟨o1,o2,he,?_⟩) hu
 exact⟨(λz=>nomatch z),q⟩
theorem NcP.lst {A:Around}{s:Shared}{l m:Addr}{xs ys:Array Value}{f:Nat->Bool}(hl:s.heap.IsList l xs)(hm:s.heap.IsList m ys)(hz:xs.size=ys.size)(hu:A.units<cLine)
  (he:∀j (g1:j<xs.size) (g2:j<ys.size),EqP P w A.in1 s xs[j] ys[j] (f j)):NcP P w A s (.ref l) (.ref m) (!(List.range xs.size).all f):=λE Q q=>by
 obtain⟨⟨c1,d1,a1,s1⟩,o1,k1,n1,t1⟩:=id hl
 obtain⟨⟨c2,d2,a2,s2⟩,o2,k2,n2,t2⟩:=id hm
 simp only at k1 t1 k2 t2
 subst k1 t1 k2 t2
 refine JO (op:= .NotEq) ⟨_,o1,rfl⟩ ⟨_,o2,rfl⟩ Nk (Jw Nk ⟨_,o1,rfl⟩ PySem.F.entry_list_ne (PySem.F.args_list_ne_2 _ _) (CB l m xs ys n1 n2 d1 d2 s1 s2 hz f) ⟨o1,o2,he,?_⟩) hu
 exact⟨(λz=>nomatch z),q⟩
end
def EqN (K:Qc)(H:Hp):Nat->V->V->Bool->Prop
 |0,x,y,b=>Eq1 K H x y b\/∃a c,x= .ref a/\y= .ref c/\EqD K H a c b
 |n+1,x,y,b=>EqN K H n x y b\/∃(a c:Addr) (xs ys:List V) (bs:List Bool),x= .ref a/\y= .ref c/\a≠c/\((SqT K H a xs/\SqT K H c ys)\/(SqL K H a xs/\SqL K H c ys))/\xs.length=ys.length/\bs.length=xs.length/\
   (∀(j:Nat) (x' y':V) (b':Bool),xs[j]?=some x'->ys[j]?=some y'->bs[j]?=some b'->EqN K H n x' y' b')/\b=bs.all id
theorem E5:∀(bs:List Bool),(List.range bs.length).all (λj=>bs.getD j true)=bs.all id
 |[]=>rfl
 |b::r=>by
  rw[IV,Lm,Kh,JK];show(b&&(List.range r.length).all λj=>r.getD j true)=(b&&r.all id);rw[E5 r]
section
variable {X:Cx} {pins:List (Addr×Obj)} {σ:St} {H:Hp} {s:Shared}
theorem fz {n:Nat}{xs ys:List V}{bs:List Bool}{us vs:List Value}{A:Around}(r1:Vals xs us)(r2:Vals ys vs)(hl:xs.length=ys.length)(hb:bs.length=xs.length)
  (he:∀(j:Nat) (x' y':V) (b':Bool),xs[j]?=some x'->ys[j]?=some y'->bs[j]?=some b'->EqN X.K H n x' y' b')
  (at_:∀{x y:V} {u v:Value} {b:Bool},EqN X.K H n x y b->RelV x u->RelV y v->EqP X.prog X.w A.in1 s u v b):
  ∀j (g1:j<us.toArray.size) (g2:j<vs.toArray.size),EqP X.prog X.w A.in1 s us.toArray[j] vs.toArray[j] (bs.getD j true):=λj g1 g2=>by
 have l1:=r1.length
 have l2:=r2.length
 have Nx:j<us.length:=by simpa using g1
 have Ny:j<vs.length:=by simpa using g2
 have x1:xs[j]?=some (xs[j]'(by lia)):=HH _
 have y1:ys[j]?=some (ys[j]'(by lia)):=HH _
 have b1:bs[j]?=some (bs[j]'(by lia)):=HH _
 obtain⟨u1,Oq,N'⟩:=r1.get x1
 obtain⟨u2,Ou,N_⟩:=r2.get y1
 have e1:us.toArray[j]=u1:=by
  have:=HH Nx;rw[Oq] at this;simpa using(Ie this).symm
 have e2:vs.toArray[j]=u2:=by
  have:=HH Ny;rw[Ou] at this;simpa using(Ie this).symm
 rw[e1,e2,IG,b1]
 exact at_ (he j _ _ _ x1 y1 b1) N' N_
theorem EqN.at_ (I:Inv X pins σ H s):∀{n:Nat} {A:Around} {x y:V} {u v:Value} {b:Bool},EqN X.K H n x y b->RelV x u->RelV y v->A.units+32+n<cLine->EqP X.prog X.w A s u v b:=by
 intro n;induction n with
 |zero=>
  intro A x y u v b h rx ry hu
  rcases h with h|⟨a,c,rfl,rfl,h⟩
  .exact .of (h.at_ I rx ry (by lia))
  .cases rx
   cases ry
   exact h.at_ I (by lia)
 |succ n ih=>
  intro A x y u v b h rx ry hu
  rcases h with h|⟨a,c,xs,ys,bs,rfl,rfl,C_,hh,hl,hb,he,rfl⟩
  .exact ih h rx ry (by lia)
  .cases rx
   cases ry
   have l_:A.in1.units=A.units+1:=rfl
   rcases hh with⟨h1,h2⟩|⟨h1,h2⟩
   .obtain⟨us,r1,p1,z1⟩:=I.tuple h1
    obtain⟨vs,r2,p2,z2⟩:=I.tuple h2
    have l1:=r1.length
    have l2:=r2.length
    have q:=RcP.tup (P:=X.prog) (w:=X.w) (A:=A) (f:=λj=>bs.getD j true) (show s.heap.IsTuple a us.toArray from p1) (show s.heap.IsTuple c vs.toArray from p2) (by lia) (fz r1 r2 hl hb he λz q1 q2=>ih z q1 q2 (by lia))
    have e3:min us.toArray.size vs.toArray.size=bs.length:=by simp;lia
    have e4:(us.toArray.size==vs.toArray.size)=true:=by simp;lia
    rw[e3,e4,E5,Ld] at q
    exact .refs C_ q
   .obtain⟨us,r1,p1,z1⟩:=I.list h1
    obtain⟨vs,r2,p2,z2⟩:=I.list h2
    have l1:=r1.length
    have l2:=r2.length
    have q:=RcP.lst (P:=X.prog) (w:=X.w) (A:=A) (f:=λj=>bs.getD j true) p1.isList p2.isList (by simp;lia) (by lia) (fz r1 r2 hl hb he λz q1 q2=>ih z q1 q2 (by lia))
    have e3:us.toArray.size=bs.length:=by simp;lia
    rw[e3,E5] at q
    exact .refs C_ q
end
def FV (K:Qc)(H:Hp)(x y:V)(bs:List Bool):Prop:=∃(a c:Addr) (xs ys:List V),x= .ref a/\y= .ref c/\((SqT K H a xs/\SqT K H c ys)\/(SqL K H a xs/\SqL K H c ys))/\xs.length=ys.length/\bs.length=xs.length/\
 ∀(j:Nat) (x' y':V) (b':Bool),xs[j]?=some x'->ys[j]?=some y'->bs[j]?=some b'->EqN K H 8 x' y' b'
section
variable {X:Cx}
def Eb (K:Qc):R2:=λx y H Q=>∃bs,FV K H x y bs/\Q (.bl (bs.all id)) H
def Em (K:Qc):R2:=λx y H Q=>∃bs,FV K H x y bs/\Q (.bl (!bs.all id)) H
theorem AA (hu:X.A.units+64<cLine):OpR X (compareOp .Eq) (Eb X.K):=by
 intro pins s σ H x y v u Q I rx ry h;obtain⟨bs,⟨a,c,xs,ys,rfl,rfl,hh,hl,hb,he⟩,k⟩:=h;cases rx;cases ry;have l_:X.A.in1.units=X.A.units+1:=rfl;rcases hh with⟨h1,h2⟩|⟨h1,h2⟩
 .obtain⟨us,r1,p1,z1⟩:=I.tuple h1;obtain⟨vs,r2,p2,z2⟩:=I.tuple h2;have l1:=r1.length;have l2:=r2.length;have q:=RcP.tup (P:=X.prog) (w:=X.w) (A:=X.A) (f:=λj=>bs.getD j true) (show s.heap.IsTuple a us.toArray from p1) (show s.heap.IsTuple c vs.toArray from p2) (by lia) (fz r1 r2 hl hb he λz q1 q2=>EqN.at_ I z q1 q2 (by lia));have e3:min us.toArray.size vs.toArray.size=bs.length:=by simp;lia
  have e4:(us.toArray.size==vs.toArray.size)=true:=by simp;lia
  rw[e3,e4,E5,Ld] at q;exact q _ _ ⟨.bl _,H,I,rfl,k⟩
 .obtain⟨us,r1,p1,z1⟩:=I.list h1;obtain⟨vs,r2,p2,z2⟩:=I.list h2;have l1:=r1.length;have l2:=r2.length;have q:=RcP.lst (P:=X.prog) (w:=X.w) (A:=X.A) (f:=λj=>bs.getD j true) p1.isList p2.isList (by simp;lia) (by lia) (fz r1 r2 hl hb he λz q1 q2=>EqN.at_ I z q1 q2 (by lia));have e3:us.toArray.size=bs.length:=by simp;lia
  rw[e3,E5] at q;exact q _ _ ⟨.bl _,H,I,rfl,k⟩
theorem BG (hu:X.A.units+64<cLine):OpR X (compareOp .NotEq) (Em X.K):=by
 intro pins s σ H x y v u Q I rx ry h;obtain⟨bs,⟨a,c,xs,ys,rfl,rfl,hh,hl,hb,he⟩,k⟩:=h;cases rx;cases ry;have l_:X.A.in1.units=X.A.units+1:=rfl;rcases hh with⟨h1,h2⟩|⟨h1,h2⟩
 .obtain⟨us,r1,p1,z1⟩:=I.tuple h1;obtain⟨vs,r2,p2,z2⟩:=I.tuple h2;have l1:=r1.length;have l2:=r2.length;have q:=NcP.tup (P:=X.prog) (w:=X.w) (A:=X.A) (f:=λj=>bs.getD j true) (show s.heap.IsTuple a us.toArray from p1) (show s.heap.IsTuple c vs.toArray from p2) (by lia) (fz r1 r2 hl hb he λz q1 q2=>EqN.at_ I z q1 q2 (by lia));have e3:min us.toArray.size vs.toArray.size=bs.length:=by simp;lia
  have e4:(us.toArray.size==vs.toArray.size)=true:=by simp;lia
  rw[e3,e4,E5,Ld] at q;exact q _ _ ⟨.bl _,H,I,rfl,k⟩
 .obtain⟨us,r1,p1,z1⟩:=I.list h1;obtain⟨vs,r2,p2,z2⟩:=I.list h2;have l1:=r1.length;have l2:=r2.length;have q:=NcP.lst (P:=X.prog) (w:=X.w) (A:=X.A) (f:=λj=>bs.getD j true) p1.isList p2.isList (by simp;lia) (by lia) (fz r1 r2 hl hb he λz q1 q2=>EqN.at_ I z q1 q2 (by lia));have e3:us.toArray.size=bs.length:=by simp;lia
  rw[e3,E5] at q;exact q _ _ ⟨.bl _,H,I,rfl,k⟩
def rZ (K:Qc):R2:=λx y H Q=>Ar K x y H Q\/Em K x y H Q
theorem gk (K:Qc){k:Nat}(hr:Room k X.A)(h:X.K=K:=by rfl):OpR X (compareOp .NotEq) (rZ K):=(FQ K hr h).or (h▸BG hr.units)
def iH (K:Qc):R2:=λx y H Q=>CG K x y H Q\/Eb K x y H Q
theorem G8 (K:Qc){k:Nat}(hr:Room k X.A)(h:X.K=K:=by rfl):OpR X (compareOp .Eq) (iH K):=(FP K hr h).or (h▸AA hr.units)
end
def mP (v d:Addr)(h:Heap):Prop:=h.IsValuesView v d
theorem zG {P:Program}{w:World}{H:Hp}{h:Heap}{v d:Addr}(x:mP v d h):ObjOk P w H h v (.ext (mP v d)):=by
 obtain⟨o,e,r⟩:=x;exact⟨⟨o,e,r⟩,⟨o,e⟩,λh1 h2 ⟨o',e',r'⟩ k=>⟨o',k _ e',r'⟩⟩
section
variable {X:Cx}
def yF:V->List V->Hp->VK->Prop:=λx vs H Q=>∃d kvs,x= .ref d/\vs=[]/\Rd H d (.dK kvs)/\∀v,H v=none->Q (.ref v) (p0 H v (.ext (mP v d)))
theorem Q6:uL X "dict.values" yF:=by
 intro pins s σ H x vs v us Q I rx rv h;obtain⟨d,kvs,rfl,rfl,hd,q⟩:=h;cases rx;have P_:=rv.zero;subst P_;obtain⟨z,hs,ws,rel,dd⟩:=N0 I.hok hd;refine Jw Kb dd.typeIs PySem.F.entry_dict_values (PySem.F.args_dict_values_1 _) (meets_dict_values (l0 X.prog X.w) d hs) ⟨⟨ws,dd⟩,?_⟩;refine⟨.ref s.heap.objs.size,_,?_,rfl,q _ (I.hok.fresh (HJ _))⟩;exact I.laid (a:=s.heap.objs.size) (t':=s.toks) (λb u e=>HS _ e) (HJ _) (zG ⟨_,Iq _ rfl,rfl,rfl⟩)
def lR (K:Qc):List V->Hp->VK->Prop:=λxs H Q=>ni K xs H Q\/∃(v d:Addr) (kvs:List (j3×V)),xs=[.ref v]/\H v=some (.ext (mP v d))/\Rd H d (.dK kvs)/\∀l,H l=none->Q (.ref l) (p0 H l (.lst (kvs.map (·.2))))
theorem qx (hc:X.calm=true):CallR X (.type "list") (lR X.K):=by
 refine(qp hc).or ?_;intro pins s σ H xs us Q I r h;obtain⟨v,d,kvs,rfl,hv,hx,q⟩:=h;obtain⟨u,rfl,ru⟩:=K1 r;cases ru;have hvv:mP v d s.heap:=(I.hok v _ hv).1;obtain⟨hd,o,vs,ep,ho,D⟩:=eJ I.hok hx;have H_:=KV.length D.kv;have hz:kvs.length<=sizeLine:=(N0 I.hok hx).1;refine PySem.W.kdl_call (PySem.W.kdl_values (knd:=l0 X.prog X.w) (kvs:=vs) (ep:=ep)) (I.ok.hd hc) ⟨hvv,D.at_ _ ho⟩ (by lia) λh' tk acc c hkp hS x_=>?_;refine⟨.ref s.heap.objs.size,_,I.newL (tk:=tk) hkp (HJ _) hS (V6 (by have:=x_.1;simp;lia) λi x u e1 e2=>?_) (by rw[HI];exact hz),rfl,q _ (I.hok.fresh (HJ _))⟩;obtain⟨k,hy⟩:=x_.2 i u (by rw[←Kv];exact e2);rw[HK] at e1;obtain⟨kv,e4,rfl⟩:=IL.mp e1;obtain⟨q1,YX,q2,q3⟩:=B7 (show Paired _ kvs vs from D.kv) e4;rw[hy] at YX;cases YX;exact q3
theorem eW (K:Qc)(hc:X.calm=true)(h:X.K=K:=by rfl):CallR X (.type "list") (lR K):=h▸qx hc
end
section
variable {K:Qc} {H:Hp} {Q:VK}
theorem ph {xs:List V}(h:ni K xs H Q):lR K xs H Q:= .inl h
theorem aY {v d:Addr}{kvs:List (j3×V)}(hv:H v=some (.ext (mP v d)))(hd:Rd H d (.dK kvs))(q:∀l,H l=none->Q (.ref l) (p0 H l (.lst (kvs.map (·.2))))):lR K [.ref v] H Q:= .inr ⟨v,d,kvs,rfl,hv,hd,q⟩
end
section
variable {prog:Program} {w:World} {A:Around} {E:Value->Shared->Prop}
end
section
variable {X:Cx}
end
section
variable {prog:Program} {w:World} {A:Around} {E:Value->Shared->Prop} {s:Shared}
theorem sC {Q:Int->Shared->Prop}(h:Q 0xFCA86420 {s with toks:=s.toks+1}):wpAny (model prog w) A (pyHash .none) Q E s:=by
 have hT:s.TypeIs Value.none "NoneType":=rfl;unfold pyHash pyHashByItsType;refine HR ?_;rw[cRoomFor,if_neg (show ¬([Value.none].any Value.onHeap)=true by decide)];refine Ig (HR (wpAny_specialOf hT JP.lookup ?_));refine(show wpAny _ _ (if(some (Value.builtin "NoneType.__hash__")==some Value.none)=true then _ else _) Q E s from ?_);rw[if_neg (by decide)];refine HR (wpAny_specialOf hT JP.lookup ?_);refine(show wpAny _ _ (callSpecialIfBoundUnlessNone? Value.none "__hash__" _>>=_) Q E s from ?_);refine HR (wpAny_callSpecialIfBoundUnlessNone?_slot hT JP (KJ JP hT PySem.F.entry_NoneType_hash (show wpAny _ _ (do ret (←mkInt 0xFCA86420)) _ _ s from wpAny_ret_mkInt ?_) (PySem.F.args_NoneType_hash_1 _)));refine(show wpAny _ _ (if(decide (-(2:Int) ^ 63<=0xFCA86420)&&decide ((0xFCA86420:Int)<2 ^ 63))=true then _ else _) Q E _ from ?_);rw[if_pos (by decide)];exact Ig h
end
abbrev jx:=Option j3
def GO:jx->Value->Bool
 |none,.none=>true
 |none,_=>false
 |some k,v=>cJ k v
theorem N4:∀{k:jx} {v:Value},GO k v=true->(k=none/\v=Value.none)\/(∃i t,k=some (Sum.inl i)/\v=Value.int i t)\/(∃x t,k=some (Sum.inr x)/\v=Value.str x t)
 |none,v,h=>by cases v<;>first|exact .inl ⟨rfl,rfl⟩|cases h
 |some k,v,h=>by
  rcases B1 (show cJ k v=true from h) with⟨i,t,rfl,rfl⟩|⟨x,t,rfl,rfl⟩
  .exact .inr (.inl ⟨i,t,rfl,rfl⟩)
  .exact .inr (.inr ⟨x,t,rfl,rfl⟩)
def Fc (w:World):jx->Int
 |none=>0xFCA86420
 |some k=>Dx w k
def dQ (prog:Program)(w:World):PySem.KeyKind prog w jx where
 is:=GO
 hash:=Fc w
 inj:=λv a b ha hb=>by
  rcases N4 ha with⟨rfl,rfl⟩|⟨i,t,rfl,rfl⟩|⟨x,t,rfl,rfl⟩<;>rcases N4 hb with⟨rfl,e⟩|⟨j,u,rfl,e⟩|⟨y,u,rfl,e⟩<;>first|rfl|(cases e<;>rfl)
 byValue:=λk v h=>by
  rcases N4 h with⟨rfl,rfl⟩|⟨i,t,rfl,rfl⟩|⟨x,t,rfl,rfl⟩<;>rfl
 pyHash:=λhv h=>by
  rcases N4 hv with⟨rfl,rfl⟩|⟨i,t,rfl,rfl⟩|⟨x,t,rfl,rfl⟩
  .exact sC h
  .exact wpAny_pyHash_int h
  .exact wpAny_pyHash_str h
 eqBool:=fun{A E s a b u v Q} hu hv h=>by
  have dk:∀{k k':j3},decide ((some k:jx)=some k')=decide (k=k'):=fun{k k'}=>by
   by_cases e:k=k'
   .subst e;simp
   .rw[Iv e,Iv λz=>e (Ie z)]
  rcases N4 hu with⟨rfl,rfl⟩|⟨i,t,rfl,rfl⟩|⟨x,t,rfl,rfl⟩<;>rcases N4 hv with⟨rfl,rfl⟩|⟨j,t',rfl,rfl⟩|⟨y,t',rfl,rfl⟩
  .exact Ku _ _ _ _ _ (by simpa using h)
  .exact SeqAt.EqAt.none_int j t' _ _ _ _ (by simpa using h)
  .exact SeqAt.EqAt.none_str y t' _ _ _ _ (by simpa using h)
  .exact SeqAt.EqAt.int_none i t _ _ _ _ (by simpa using h)
  .rw[dk,xc] at h;exact wpAny_eqBool_int h
  .rw[dk,vJ] at h;exact LU i t y t' _ _ _ _ h
  .exact SeqAt.EqAt.str_none x t _ _ _ _ (by simpa using h)
  .rw[dk,xG] at h;exact LV x t j t' _ _ _ _ h
  .rw[dk,vA] at h;exact wpAny_eqBool_str h
 «strs»:=λk x t v h=>by
  rcases N4 h with⟨rfl,e⟩|⟨i,u,rfl,e⟩|⟨y,u,rfl,e⟩
  .exact nomatch e
  .exact nomatch e
  .injection e with e1 _
   subst e1;cases v<;>rfl
def aB (P:Program)(w:World)(a:Addr)(n:Nat)(h:Heap):Prop:=(a==sysModules)=false/\∃vs,h.DictOf (dQ P w) a vs/\vs.length=n
theorem pY {P P':Program}{w w':World}{H:Hp}{h:Heap}{a:Addr}{n:Nat}(x:aB P w a n h):ObjOk P' w' H h a (.ext (aB P w a n)):=by
 obtain⟨hs,vs,⟨o,es,ep,e,r⟩,hl⟩:=x;exact⟨⟨hs,vs,⟨o,es,ep,e,r⟩,hl⟩,⟨o,e⟩,λh1 h2 ⟨hs',vs',⟨o',PX,Ro,e',r'⟩,Py⟩ k=>⟨hs',vs',⟨o',PX,Ro,k _ e',r'⟩,Py⟩⟩
theorem il {P:Program}{w:World}:∀{es:List DictEntry} {vs:List (j3×Value)},Pairs (l0 P w) es vs->Pairs (dQ P w) es (vs.map λx=>(some x.1,x.2))
 |_,_,.nil=> .nil
 |_,_,.cons h e t=> .cons h e (il t)
theorem yL {P:Program}{w:World}{h:Heap}{a:Addr}{vs:List (j3×Value)}(dd:h.DictOf (l0 P w) a vs):h.DictOf (dQ P w) a (vs.map λx=>(some x.1,x.2)):=by
 obtain⟨o,es,ep,h1,h2,h3,h4,h5,h6⟩:=dd;refine⟨o,es,ep,h1,h2,h3,λe he=>?_,il h5,?_⟩
 .obtain⟨k,q1,q2⟩:=h4 e he;exact⟨some k,q1,q2⟩
 .rw[Iy];have e:((λx:jx×Value=>x.1)∘λx:j3×Value=>((some x.1:jx),x.2))=(λk:j3=>(some k:jx))∘λx:j3×Value=>x.1:=rfl;rw[e,←Iy];exact Kc _ (λa b h z=>h (Ie z)) h6
theorem oZ {vs:List (j3×Value)}{v:Value}:stored (vs.map λx=>((some x.1:jx),x.2)) none v=(vs.map λx=>((some x.1:jx),x.2))++[(none,v)]:=by
 unfold stored;rw[if_neg];intro z;obtain⟨x,hx,e⟩:=Jq.mp z;obtain⟨y,_,rfl⟩:=HP.mp hx;cases IY e
section
variable {X:Cx}
def xu (P:Program)(w:World):oU:=λo i v H Q=>qH o i v H Q\/∃a kvs,o= .ref a/\i= .non/\H a=some (.dK kvs)/\kvs.length<1000/\Q (p0 H a (.ext (aB P w a (kvs.length+1))))
theorem vI (hu:X.A.units+1<cLine):tM X (xu X.prog X.w):=by
 intro pins s σ H o i v ov iv u Q I ro ri rv h;rcases h with h|⟨a,kvs,rfl,rfl,hA,hl,q⟩
 .exact ym hu pins s σ H o i v ov iv u Q I ro ri rv h
 .cases ro;cases ri;obtain⟨z,hd,vs,rel,dd⟩:=rm I.hok hA;have H_:=rel.length;refine wpAny_setItem_pairs (knd:=dQ X.prog X.w) (k:=none) (hsz:=by rw[HI];lia) rfl (yL dd) λh' dd' hs=>?_;rw[oZ] at dd';have he:∃q,h'.get? a=some q:=let ⟨q,_,_,hq,_⟩:=dd';⟨q,hq⟩
  exact⟨_,cm I (by rw[hA];exact True.intro) hs he (pY ⟨hd,_,dd',by rw[HQ,HI,H_];rfl⟩),q⟩
def jW (K:Qc)(P:Program)(w:World):List V->Hp->VK->Prop:=λxs H Q=>An K xs H Q\/∃p n,xs=[V.ref p]/\H p=some (.ext (aB P w p n))/\n<=1000/\Q (.int n) H
theorem sV:CallR X (.builtin "len") (jW X.K X.prog X.w):=by
 refine call_lenS.or ?_;intro pins s σ H xs us Q I r h;obtain⟨p,n,rfl,hp,hn,q⟩:=h;obtain⟨u,rfl,ru⟩:=K1 r;cases ru;obtain⟨hs,vs,dd,hl⟩:=(I.hok p _ hp).1;refine call_len_dict hs dd (by lia) ?_;rw[hl];exact⟨.int n,H,I.tok _,⟨_,rfl⟩,q⟩
theorem Fb (K:Qc)(h:X.K=K:=by rfl):CallR X (.builtin "len") (jW K X.prog X.w):=h▸sV
def rh (K:Qc)(P:Program)(w:World):List V->Hp->VK->Prop:=λxs H Q=>yG K xs H Q\/∃p n T,xs=[V.ref p,.ty T]/\H p=some (.ext (aB P w p n))/\(T="str"\/T="int"\/T="bool"\/T="list"\/T="tuple"\/T="dict")/\Q (.bl (ef "dict" T)) H
theorem sE:CallR X (.builtin "isinstance") (rh X.K X.prog X.w):=by
 refine call_isi.or ?_;intro pins s σ H xs us Q I r h;obtain⟨p,n,T,rfl,hp,hT,q⟩:=h;obtain⟨u,c,rfl,rx,rc⟩:=V7 r;cases rx;cases rc;obtain⟨hs,vs,⟨o,es,ep,h1,h2,r⟩,hl⟩:=(I.hok p _ hp).1;exact JN Oe I.kIn ⟨o,h1,h2.1⟩ (V4 (by simp) hT) (λz=>nomatch z) λtk=>⟨.bl _,H,I.tok tk,rfl,q⟩
theorem EF (K:Qc)(h:X.K=K:=by rfl):CallR X (.builtin "isinstance") (rh K X.prog X.w):=h▸sE
end
section
variable {K:Qc} {P:Program} {w:World} {H:Hp} {Q:VK}
theorem C5 {xs:List V}(h:uC K xs H Q):jW K P w xs H Q:= .inl (.inl h)
theorem kB {p:Addr}{n:Nat}(h:H p=some (.ext (cZ p n)))(hn:n<=1000)(q:Q (.int n) H):jW K P w [.ref p] H Q:= .inl (.inr ⟨p,n,rfl,h,hn,q⟩)
theorem xT {p:Addr}{n:Nat}(h:H p=some (.ext (aB P w p n)))(hn:n<=1000)(q:Q (.int n) H):jW K P w [.ref p] H Q:= .inr ⟨p,n,rfl,h,hn,q⟩
theorem gc {xs:List V}(h:yG K xs H Q):rh K P w xs H Q:= .inl h
theorem G9 {o i v:V}{Qh:Hp->Prop}(h:qH o i v H Qh):xu P w o i v H Qh:= .inl h
theorem wZ {x y:V}(h:lS K x y H Q):iH K x y H Q:= .inl (FL h)
theorem xk {i j:Int}(q:Q (.bl (decide (i=j))) H):iH K (.int i) (.int j) H Q:=wZ (xf q)
theorem jt {i j:Str}(q:Q (.bl (decide (i=j))) H):iH K (.str i) (.str j) H Q:=wZ (xY q)
theorem nU {i j:Int}(q:Q (.bl (!decide (i=j))) H):rZ K (.int i) (.int j) H Q:= .inl (xH q)
end
theorem kK {X:Cx}(K:Qc)(P:Program)(w:World)(h:X.K=K:=by rfl)(hp:X.prog=P:=by rfl)(hw:X.w=w:=by rfl):CallR X (.builtin "isinstance") (rh K P w):=by subst hp hw;exact EF K h
theorem C8 {X:Cx}(K:Qc)(P:Program)(w:World)(h:X.K=K:=by rfl)(hp:X.prog=P:=by rfl)(hw:X.w=w:=by rfl):CallR X (.builtin "len") (jW K P w):=by subst hp hw;exact Fb K h
theorem z9 {X:Cx}(P:Program)(w:World)(hu:X.A.units+1<cLine)(hp:X.prog=P:=by rfl)(hw:X.w=w:=by rfl):tM X (xu P w):=by subst hp hw;exact vI hu
section
variable {X:Cx} {a b:Expr} {ta:TA} {x y:Str} {pos:Pos}
end
section
variable {σ:St} {H:Hp} {nx:St->Hp->Prop} {rt:VK} {bk ct:St->Hp->Prop} {ta:TA}
end
section
variable {P:Program} {w:World}
theorem ue {K:Qc}{tg:Expr}{d:Addr}{o:Obj}{kvs:List (j3×V)}{vs:List (j3×Value)}{ep:Nat}(D:vP P w d o kvs vs ep)(it:Addr):
  eT P w K tg (Fs d o kvs λkv=>kv.2) [it] it (λi h=>h.IsValIter it d i vs.length ep) where
 mem:=by simp
 obj:=λi h st b hb=>by
  have e:b=it:=by simpa using hb
  subst e;obtain⟨o,e,c,dd⟩:=st;exact⟨o,e,λv z=>by rw[dd] at z;cases z⟩
 keep:=λi h h' st k=>let ⟨o,e,r⟩:=st;⟨o,k it (by simp) o e,r⟩
 item:=by
  intro X hP hw hK hc i pins s σ H E I hf st hg;subst hP hw hK;obtain⟨OZ,hi⟩:=hg;obtain⟨f0,f1,f2,f3,f4,f5⟩:=hf it (by simp);have dat:=D.at_ s.heap (I.hok d _ OZ).1;have hl:=KV.length D.kv;obtain⟨kv,i'⟩:∃kv,kvs[i]?=some kv:=⟨kvs[i],by simp [hi]⟩
  obtain⟨⟨k,x⟩,hx⟩:∃p,vs[i]?=some p:=⟨vs[i]'(by lia),by simp [show i<vs.length by lia]⟩
  obtain⟨Sk,rx⟩:kv.1=k/\RelV kv.2 x:=by
   have q:=B7 D.kv i';obtain⟨p,hp,r⟩:=q;rw[hx] at hp;cases hp;exact r
  refine wpAny_pyNext_values_item st dat hx λh' MO hs'=>?_;have I1:Inv X pins σ H {s with heap:=h'}:=I.turned (t':=s.toks) (λb o hb e=>hs'.extBut b o hb e) f0 f1 f3 f4 f5;obtain⟨oo,e,c,dd⟩:=id MO;exact⟨x,rfl,ng (s:={s with heap:=h'}) e c dd (by decide) ⟨kv.2,H,I1,rx,⟨rfl,kv,i',rfl⟩,MO,λb hb=>(hf b hb).1⟩⟩
 done:=by
  intro X hP hw hK hc i pins s σ H E I hf st hg;subst hP hw hK;obtain⟨OZ,hi⟩:=hg;obtain⟨f0,f1,f2,f3,f4,f5⟩:=hf it (by simp);have dat:=D.at_ s.heap (I.hok d _ OZ).1;have hl:=KV.length D.kv;exact wpAny_pyNext_values_end (I.ok.hd hc) st dat (by simp;lia) λh' eb=>⟨rfl,I.turned (t':=s.toks) (λb o hb e=>eb b o hb e) f0 f1 f3 f4 f5⟩
 self:=λ_ _ _ _ _ st h=>wpAny_pyIter_valiter st h
end
section
variable {X:Cx} {tg:Expr}
abbrev GP (d:Addr)(o:Obj)(kvs:List (j3×V)):It:=Fs d o kvs λkv=>kv.2
def mi (tl:TE):mQ:=λσ H R=>tl σ H λv H1=>rIterD GP v H1 R
theorem sG {o:Expr}{tl:TE}{apos b_:Pos}(ho:PE X o tl)
  (g_:attributeBase o "values" X.env (eval o X.env)=eval o X.env:=by rfl) (h_:(apos.endLine==b_.line)=true:=by rfl):
  uM X tg (.Call (.Attribute o "values" apos) [] [] b_) (mi tl):=by
 intro pins s σ H R I h
 refine KZ g_ h_ (E9 (ho pins s σ H _ I h) λv s1 ⟨x,H1,I1,r1,q1⟩=>?_)
 obtain⟨d,kvs,ob,vs,ep,th,H',rfl,hd,z_,D,I2,Oo,q⟩:=rIterD.go I1 r1 q1
 have Qe:=(D.at_ _ z_).dictOf
 refine⟨"dict","dict.values",F.plainAttrs_dict,F.slot_dict_values,F.type_dict_values,Qe.typeIs,Qe.mapOf.noDict,JB rfl (LK ?_)⟩
 refine Jw F.slot_dict_values Qe.typeIs F.entry_dict_values (F.args_dict_values_1 _) (meets_dict_values (l0 X.prog X.w) d hd) ⟨⟨vs,Qe⟩,?_⟩
 have I3:Inv X pins σ H' {s1 with heap:=s1.heap.push {cls:= .type "dict_values",data:= .fields #[.ref d]}}:=I2.kept (t':=s1.toks) λb o e=>HS _ e
 refine wpAny_pyIter_values (s:={s1 with heap:=s1.heap.push {cls:= .type "dict_values",data:= .fields #[.ref d]}}) (knd:=l0 X.prog X.w) ⟨_,Iq _ rfl,rfl,rfl⟩ (D.at_ _ (HS _ z_)) ?_
 generalize hG:s1.heap.push {cls:= .type "dict_values",data:= .fields #[.ref d]}=G at I3⊢
 refine⟨G.objs.size,[G.objs.size],_,_,H',rfl,I3.kept (t':=s1.toks) λb o e=>HS _ e,ue D _,⟨_,Iq _ rfl,rfl,rfl⟩,λb hb=>?_,th,Oo,q⟩
 have e:b=G.objs.size:=by simpa using hb
 subst e
 exact I3.fpOk (HJ _) (I3.hok.fresh (HJ _))
theorem vf {tg o:Expr}{to:TE}{apos b_:Pos}(ho:QE X o to)
  (g_:attributeBase o "values" X.env (eval o X.env)=eval o X.env:=by rfl) (h_:(apos.endLine==b_.line)=true:=by rfl):QI X tg (.Call (.Attribute o "values" apos) [] [] b_) (mi to):=⟨sG ho.r g_ h_⟩
theorem tq {tl:TE}{σ:St}{H:Hp}{R:It->(Hp->Hp)->Hp->Prop}(q:tl σ H λv H1=>rIterD GP v H1 R):mi tl σ H R:=q
end
section
variable {J:It} {th:Hp->Hp} {n:Nat} {g:TG} {tb:TS} {nx:L2.St->Hp->Prop} {rt:VK} {σ:L2.St} {H:Hp}
theorem J2 (Pv:Nat->L2.St->Hp->Prop)(h0:Pv 0 σ H)(Pz:∀i σ H,i<n->Pv i σ H->J.go i H)
  (hs:∀(bk:L2.St->Hp->Prop) i x σ H H',i<n->Pv i σ H->J.yld i H x H'->g x σ H' λσ2 H2=>tb ⟨Pv (i+1),λv H=>rt v (th H),bk,Pv (i+1)⟩ σ2 H2)
  (hd:∀σ H,Pv n σ H->J.stop n H/\nx σ (th H)):zl J th g tb nx rt σ H:=Q3 Pv h0 Pz (hs λσ H=>nx σ (th H)) hd
end
section
variable {prog:Program} {w:World} {A:Around} {E:Value->Shared->Prop} {s:Shared}
end
theorem fW {α β:Type}{F:α->β->Prop}:∀{l:List α} {m:List β} {b:β},Paired F l m->b∈m->∃a∈l,F a b
 |_,_,_,.cons r t,h=>by
  rcases Iz.mp h with e|e
  .exact⟨_,Iw,e▸r⟩
  .obtain⟨a,h1,h2⟩:=fW t e;exact⟨a,Ij _ h1,h2⟩
section
variable {X:Cx}
end
section
variable {K:Qc} {P:Program} {w:World} {H:Hp} {Q:VK} {σ:L2.St}
end
def CW:Value->V
 | .none=> .non
 | .bool b=> .bl b
 | .int i _=> .int i
 | .str x _=> .str x
 | .bytes b _=> .byt b
 | .float b _=> .flt b
 | .ref a=> .ref a
 | .type n=> .ty n
 |_=> .non
theorem wg {v:V}{u:Value}(r:RelV v u):CW u=v:=by
 cases v with
 |non=>rw[show u=Value.none from r];rfl
 |bl b=>rw[show u=Value.bool b from r];rfl
 |int i=>obtain⟨t,rfl⟩:=r;rfl
 |str x=>obtain⟨t,rfl⟩:=r;rfl
 |byt x=>obtain⟨t,rfl⟩:=r;rfl
 |flt x=>obtain⟨t,rfl⟩:=r;rfl
 |ref a=>rw[show u=Value.ref a from r];rfl
 |ty n=>rw[show u=Value.type n from r];rfl
theorem DJ {f:V->Bool}:∀{xs:List V} {us:List Value},Vals xs us->us.countP (f∘CW)=xs.countP f
 |_,_,.nil=>rfl
 |_,_,.cons r t=>by rw[MH,MH,DJ t,Function.comp,wg r]
section
variable {X:Cx}
end
def vq (K:Qc)(a:Addr)(xs:List V):It:=
 ⟨λi H=>SqL K H a xs/\i<xs.length,λi H x H'=>H'=H/\xs[xs.length -1 -i]?=some x,λi _=>i=xs.length⟩
theorem vD {P:Program}{w:World}{K:Qc}{tg:Expr}(a it:Addr)(xs:List V):eT P w K tg (vq K a xs) [it] it (λi h=>h.IsRevIter it a ((xs.length:Int) -1 -(i:Int))) where
 mem:=by simp
 obj:=λi h st b hb=>by
  have e:b=it:=by simpa using hb
  subst e;obtain⟨o,e,c,d⟩:=st;exact⟨o,e,λv z=>by rw[d] at z;cases z⟩
 keep:=λi h h' st k=>st.at λo e=>k it (by simp) o e
 item:=by
  intro X hP hw hK hc i pins s σ H E I hf st hg;subst hP hw hK;obtain⟨hq,hi⟩:=hg;obtain⟨a_,rv,p,hz⟩:=I.list hq;have hj:xs.length -1 -i<xs.length:=by lia
  obtain⟨u,hu,ru⟩:=rv.get (HH hj);obtain⟨f0,f1,f2,f3,f4,f5⟩:=hf it (by simp);have Pa:s.heap.IsRevIter it a ((xs.length -1 -i:Nat):Int):=by
   have e:((xs.length -1 -i:Nat):Int)=(xs.length:Int) -1 -(i:Int):=by lia
   rw[e];exact st
  refine wpAny_pyNext_rev_item Pa p.isList (x:=u) (by simpa using hu) λh' MO sb=>?_;have I1:Inv X pins σ H {s with heap:=h'}:=I.turned (t':=s.toks) (λb o hb e=>(sb.2 b hb).trans e) f0 f1 f3 f4 f5;obtain⟨o,e,c,d⟩:=id MO;have ML:h'.IsRevIter it a ((xs.length:Int) -1 -((i+1:Nat):Int)):=by
   have e:(xs.length:Int) -1 -((i+1:Nat):Int)=((xs.length -1 -i:Nat):Int) -1:=by lia
   rw[e];exact MO
  exact⟨u,rfl,ng (s:={s with heap:=h'}) e c d (by decide) ⟨_,H,I1,ru,⟨rfl,HH hj⟩,ML,λb hb=>(hf b hb).1⟩⟩
 done:=by
  intro X hP hw hK hc i pins s σ H E I hf st hg;subst hP hw hK;have YY:i=xs.length:=hg;obtain⟨f0,f1,f2,f3,f4,f5⟩:=hf it (by simp);have Pa:s.heap.IsRevIter it a (-1):=by
   have e:(-1:Int)=(xs.length:Int) -1 -(i:Int):=by lia
   rw[e];exact st
  exact wpAny_pyNext_rev_end (I.ok.hd hc) Pa λh' eb=>⟨rfl,I.turned (t':=s.toks) (λb o hb e=>eb b o hb e) f0 f1 f3 f4 f5⟩
 self:=λ_ _ _ _ _ st h=>wpAny_pyIter_revIter st h
section
variable {X:Cx} {a:Expr} {t:TA} {p pos:Pos} {tg:Expr}
def Ay (K:Qc)(ta:TA):mQ:=λσ H R=>ta σ H λvs H1=>∃l xs,vs=[.ref l]/\SqL K H1 l xs/\R (vq K l xs) id H1
theorem CN (hg:Gl X "reversed")(hm:X.mg "reversed"=none)(ha:PA X [a] t)(hs:starEach [a] X.env=[(false,eval a X.env)]):uM X tg (.Call (.Name "reversed" p) [a] [] pos) (Ay X.K t):=by
 intro pins s σ H R I h;refine Call_ (ai I hg hm Boot.«reversed» (Jk (E9 (ha pos pins s σ H _ I h) λus s1 ⟨vs,H1,I1,r1,q1⟩=>?_) hs rfl));obtain⟨l,xs,e,hq,q⟩:=q1;subst e;obtain⟨u,rfl,ru⟩:=K1 r1;cases ru;obtain⟨a_,rv,pl,hz⟩:=I1.list hq;have hl:=rv.length;refine call_reversed_list pl.isList ?_;have I2:Inv X pins σ H1 {s1 with heap:=s1.heap.push (revObj l ((a_.toArray.size:Int) -1))}:=I1.kept (t':=s1.toks) λb o e=>HS _ e;have st:(s1.heap.push (revObj l ((a_.toArray.size:Int) -1))).IsRevIter s1.heap.objs.size l ((xs.length:Int) -1 -((0:Nat):Int)):=by
  refine⟨_,Iq _ rfl,rfl,?_⟩;show Data.fields #[.ref l,rawInt ((a_.toArray.size:Int) -1)]=_;rw[show(a_.toArray.size:Int) -1=(xs.length:Int) -1 -((0:Nat):Int) by rw[Ir];lia]
 refine wpAny_pyIter_revIter (s:={s1 with heap:=s1.heap.push (revObj l ((a_.toArray.size:Int) -1))}) st ?_;refine⟨s1.heap.objs.size,[s1.heap.objs.size],_,_,H1,rfl,I2,vD l _ xs,st,λb hb=>?_,id,eQ,q⟩;have e:b=s1.heap.objs.size:=by simpa using hb
 subst e;exact I1.fpOk (HJ _) (I1.hok.fresh (HJ _))
theorem nk (K:Qc)(hm:X.mg "reversed"=none)(ha:QA X [a] t)(hg:Gl X "reversed":=by rfl)(h:u9 a=true:=by rfl)(hK:X.K=K:=by rfl):QI X tg (.Call (.Name "reversed" p) [a] [] pos) (Ay K t):=
 ⟨hK▸CN hg hm ha.r (J0 h)⟩
end
section
variable {K:Qc} {σ:L2.St} {H:Hp} {ta:TA} {R:It->(Hp->Hp)->Hp->Prop}
theorem Dd (q:ta σ H λvs H1=>∃l xs,vs=[V.ref l]/\SqL K H1 l xs/\R (vq K l xs) id H1):Ay K ta σ H R:=q
end
abbrev kN (h:Heap)(z TI TO:Addr)(f0:Value)(b:Bool):Prop:=h.get? z=some {cls:= .type "zip",dict:=none,data:= .fields #[f0,.bool b,.bool false,.ref TI,.ref TO],slots:= #[]}
section
variable {prog:Program} {w:World} {A:Around} {E:Value->Shared->Prop} {s:Shared}
theorem oK {z TI TO T:Addr}{b:Bool}{ot:Obj}{Q:Bool->Shared->Prop}(hz:kN s.heap z TI TO (rawInt T) b)(hT:s.heap.get? T=some ot)
  (hQ:∀h',kN h' z TI TO (rawInt T) true->Heap.SameBut z s.heap h'->Q false {s with heap:=h'}):wpAny (model prog w) A (Builtin.SmallTypes.ownedTupleIsFree (.ref z)) Q E s:=by
 unfold Builtin.SmallTypes.ownedTupleIsFree
 refine HR (Kt hz rfl (x:=rawInt T) rfl ?_)
 refine HR (PySem.W.kdx_alive (show s.heap.get? ((T:Int).toNat)=some ot by rw[NZ];exact hT) ?_)
 rw[if_neg (by simp)]
 refine HR (Kt hz rfl (x:= .bool b) rfl ?_)
 cases b with
 |true=>
  rw[if_neg (by decide)]
  exact Ig (hQ s.heap hz (Heap.SameBut.refl _ _))
 |false=>
  rw[if_pos (by decide)]
  exact HR (wpAny_setField_rec hz (by simp) λh' g' s'=>Ig (hQ h' g' s'))
theorem sy {z TI TO T i1 i2 l1 l2:Addr}{k1 k2:Nat}{b:Bool}{ot:Obj}{xs ys:Array Value}{x y:Value}{Q:Option Value->Shared->Prop}(D:ZipApart z TI TO i1 i2 l1 l2)
  (hz:kN s.heap z TI TO (rawInt T) b) (VX:s.heap.get? T=some ot) (Sq:IsPair s.heap TI (.ref i1) (.ref i2))
  (h1:s.heap.IsListIter i1 l1 k1) (h2:s.heap.IsListIter i2 l2 k2) (NM:s.heap.IsList l1 xs) (Oh:s.heap.IsList l2 ys) (hx:xs[k1]?=some x) (hy:ys[k2]?=some y)
  (hQ:∀h',kN h' z TI TO (rawInt T) true->h'.IsListIter i1 l1 (k1+1)->h'.IsListIter i2 l2 (k2+1)->IsPair h' s.heap.objs.size x y->
   (∀c o,c≠z->c≠i1->c≠i2->s.heap.get? c=some o->h'.get? c=some o)->Q (some (.ref s.heap.objs.size)) {s with heap:=h'}):wpAny (model prog w) A (pyNext (.ref z)) Q E s:=by
 have hT:s.TypeIs (.ref z) "zip":=⟨_,hz,rfl⟩
 unfold pyNext
 refine HR (wpAny_attempt (KY (name:=Str.ofString "__next__") hT LN (KJ LN hT F.entry_zip_next ?_ (F.args_zip_next_1 _))))
 show wpAny (model prog w) _ (field (.ref z) 2>>=_) _ _ _
 refine HR (Kt hz rfl (x:= .bool false) rfl ?_)
 show wpAny (model prog w) _ (field (.ref z) 3>>=_) _ _ _
 refine HR (Kt hz rfl (x:= .ref TI) rfl (HR (Mf Sq rfl ?_)))
 show wpAny (model prog w) _ (Builtin.SmallTypes.ownedTupleIsFree (.ref z)>>=_) _ _ _
 refine HR (oK hz VX λk1' g1 s1=>?_)
 rw[if_neg (by decide)]
 dsimp only
 refine HR ?_
 rw[←NR]
 simp only[Lb,Mh]
 refine HR (HR (Ji ?_))
 show wpAny (model prog w) _ (Builtin.SmallTypes.nextOf (.ref i1)>>=_) _ _ _
 refine HR (Ln (h1.extBut s1.extBut D.i1z) (NM.extBut s1.extBut D.l1z) hx λYZ g2 s2=>Ig (Ig ?_))
 refine HR (HR (Ji ?_))
 show wpAny (model prog w) _ (Builtin.SmallTypes.nextOf (.ref i2)>>=_) _ _ _
 refine HR (Ln ((h2.extBut s1.extBut D.i2z).extBut s2.extBut D.i12.symm) ((Oh.extBut s1.extBut D.l2z).extBut s2.extBut D.l2i1) hy λSn g3 s3=>Ig (Ig (Ig ?_)))
 have sz:Sn.objs.size=s.heap.objs.size:=by rw[s3.1,s2.1,s1.1]
 have up:∀c o,c≠z->c≠i1->c≠i2->s.heap.get? c=some o->Sn.get? c=some o:=λc o c1 c2 c3 e=>s3.extBut _ _ c3 (s2.extBut _ _ c2 (s1.extBut _ _ c1 e))
 refine HR (wpAny_newTuple (Ig ⟨_,rfl,?_⟩) (by show 2<=sizeLine;decide))
 refine Ig ?_
 show Q (some (.ref Sn.objs.size)) _
 rw[sz]
 refine hQ _ (HS _ (s3.extBut _ _ D.i2z.symm (s2.extBut _ _ D.i1z.symm g1))) ((g2.extBut s3.extBut D.i12).at λo e=>HS _ e) (g3.at λo e=>HS _ e) ?_ λc o c1 c2 c3 e=>HS _ (up c o c1 c2 c3 e)
 rw[←sz]
 exact Iq _ rfl
theorem wd {z TI TO T i1 i2 l1 l2:Addr}{k1 k2:Nat}{b:Bool}{ot:Obj}{xs ys:Array Value}{Q:Option Value->Shared->Prop}(hh:A.handled=none)(D:ZipApart z TI TO i1 i2 l1 l2)
  (hz:kN s.heap z TI TO (rawInt T) b) (VX:s.heap.get? T=some ot) (Sq:IsPair s.heap TI (.ref i1) (.ref i2))
  (h1:s.heap.IsListIter i1 l1 k1) (h2:s.heap.IsListIter i2 l2 k2) (NM:s.heap.IsList l1 xs) (Oh:s.heap.IsList l2 ys) (OA:xs[k1]?=none\/ys[k2]?=none)
  (hQ:∀h',(∀c o,c≠z->c≠i1->c≠i2->s.heap.get? c=some o->h'.get? c=some o)->Q none {s with heap:=h'}):wpAny (model prog w) A (pyNext (.ref z)) Q E s:=by
 have hT:s.TypeIs (.ref z) "zip":=⟨_,hz,rfl⟩
 unfold pyNext
 refine HR (wpAny_attempt (KY (name:=Str.ofString "__next__") hT LN (KJ LN hT F.entry_zip_next ?_ (F.args_zip_next_1 _))))
 show wpAny (model prog w) _ (field (.ref z) 2>>=_) _ _ _
 refine HR (Kt hz rfl (x:= .bool false) rfl ?_)
 show wpAny (model prog w) _ (field (.ref z) 3>>=_) _ _ _
 refine HR (Kt hz rfl (x:= .ref TI) rfl (HR (Mf Sq rfl ?_)))
 show wpAny (model prog w) _ (Builtin.SmallTypes.ownedTupleIsFree (.ref z)>>=_) _ _ _
 refine HR (oK hz VX λk1' g1 s1=>?_)
 rw[if_neg (by decide)]
 dsimp only
 refine HR ?_
 rw[←NR]
 simp only[Lb,Mh]
 refine HR (HR (Ji ?_))
 show wpAny (model prog w) _ (Builtin.SmallTypes.nextOf (.ref i1)>>=_) _ _ _
 cases hx:xs[k1]? with
 |none=>
  refine HR (wpAny_nextOf_list_end hh (h1.extBut s1.extBut D.i1z) (NM.extBut s1.extBut D.l1z) hx λYZ e s2 he=>?_)
  obtain⟨oe,VY,VZ⟩:=he
  exact HR (wpAny_isInstance (T:="StopIteration") (b:=true) ⟨oe,VY,VZ⟩ isSubtype_stop (Ig (hQ _ λc o c1 c2 c3 x=>s2 _ _ c2 (s1.extBut _ _ c1 x))))
 |some x=>
  have hy:ys[k2]?=none:=by
   rcases OA with h|h
   .rw[hx] at h;cases h
   .exact h
  refine HR (Ln (h1.extBut s1.extBut D.i1z) (NM.extBut s1.extBut D.l1z) hx λYZ g2 s2=>Ig (Ig ?_))
  refine HR (HR (Ji ?_))
  show wpAny (model prog w) _ (Builtin.SmallTypes.nextOf (.ref i2)>>=_) _ _ _
  refine HR (wpAny_nextOf_list_end hh ((h2.extBut s1.extBut D.i2z).extBut s2.extBut D.i12.symm) ((Oh.extBut s1.extBut D.l2z).extBut s2.extBut D.l2i1) hy λSn e s3 he=>?_)
  obtain⟨oe,VY,VZ⟩:=he
  exact HR (wpAny_isInstance (T:="StopIteration") (b:=true) ⟨oe,VY,VZ⟩ isSubtype_stop (Ig (hQ _ λc o c1 c2 c3 x=>s3 _ _ c3 (s2.extBut _ _ c2 (s1.extBut _ _ c1 x)))))
end
theorem oB:typeLookup (.type "zip") "keys"=pure none:=by rw[Na,Lx];kernel_rfl
theorem sv:typeLookup (.type "zip") "__getattr__"=pure none:=by rw[Na,Lx];kernel_rfl
section
variable {prog:Program} {w:World} {A:Around} {E:Value->Shared->Prop} {s:Shared}
theorem wW (a:Addr)(fs:Array Value)(u:Tok):Meets (Builtin.«object.__getattribute__» ⟨[.ref a,.str "keys" u],[]⟩) (λA R s=>s.heap.get? a=some {cls:= .type "zip",dict:=none,data:= .fields fs,slots:= #[]}/\raisesAttr (.ref a) "keys" A R s):=
 Meets.of_wp λprog w A R s hs=>by
  obtain⟨hp,g,d,tk,os⟩:=s;obtain⟨hx,hs⟩:=hs;have hT:(⟨hp,g,d,tk,os⟩:Shared).TypeIs (.ref a) "zip":=⟨_,hx,rfl⟩
  have Y':=oB;unfold Builtin.«object.__getattribute__»;repeat(any_goals (first|assumption|wp_step))
  exact wpAny_raiseAttrError hs.1 hs.2 (attrMsg_fits (by decide+kernel) (by decide+kernel))
theorem qi:entryFor table "zip.__getattribute__"=some Builtin.«object.__getattribute__»:=entryFor_alias (id':="object.__getattribute__") (by kernel_rfl) (by decide+kernel) (by decide+kernel) (by kernel_rfl)
theorem oM {a:Addr}{fs:Array Value}{Q:Option Value->Shared->Prop}(hx:s.heap.get? a=some {cls:= .type "zip",dict:=none,data:= .fields fs,slots:= #[]})(hA:A.handled=none)
  (h:∀h' tk,(∀b ob,s.heap.get? b=some ob->h'.get? b=some ob)->Q none {s with heap:=h',toks:=tk}):wpAny (model prog w) A (getAttr? (.ref a) "keys") Q E s:=by
 obtain⟨hp,g,d,tk,os⟩:=s
 have hT:∀tk',(⟨hp,g,d,tk',os⟩:Shared).TypeIs (.ref a) "zip":=λ_=>⟨_,hx,rfl⟩
 have f1:=sub_AttributeError
 have f3:=Lg.lookup
 have f4:=Lg.bind (.ref a)
 have f5:=sv
 unfold getAttr? getAttrBy? getAttrBy
 repeat(any_goals (first|assumption|exact hT _|((with_reducible show wpAny _ _ (call (Value.builtin "zip.__getattribute__") _ _) _ _ _);refine Mn Lg (hT _) qi (F.args_zip_getattribute_2 _ _) (wW a fs _) ⟨hx,hA,λh' tk' e q_=>?_⟩)|wp_step))
 obtain⟨t',u',he⟩:=q_.there
 show wpAny _ _ (getattributeRaised _ _ _ _ _ _ _) _ _ _
 unfold getattributeRaised
 repeat(any_goals (first|assumption|wp_step))
 exact h _ _ q_.keeps
end
section
variable {prog:Program} {w:World} {A:Around} {E:Value->Shared->Prop} {s:Shared}
structure ZipSt (h:Heap) (d z TI TO i1 i2 l1 l2:Addr) (k:Nat) (xs ys:Array Value):Prop where
 ti:IsPair h TI (.ref i1) (.ref i2)
 a1:h.IsListIter i1 l1 k
 a2:h.IsListIter i2 l2 k
 b1:h.IsList l1 xs
 b2:h.IsList l2 ys
 st:(∃a b,IsZip h z TI TO .none/\IsPair h TO a b)\/∃(T:Addr) (b:Bool) (ot:Obj),kN h z TI TO (rawInt T) b/\h.get? T=some ot/\T≠z/\T≠i1/\T≠i2/\T≠d
structure mw (d z TI TO i1 i2 l1 l2:Addr):Prop where
 z:z≠d
 TI:TI≠d
 TO:TO≠d
 i1:i1≠d
 i2:i2≠d
 l1:l1≠d
 l2:l2≠d
theorem ZipSt.keep {h h':Heap}{d z TI TO i1 i2 l1 l2:Addr}{k:Nat}{xs ys:Array Value}(Z:ZipSt h d z TI TO i1 i2 l1 l2 k xs ys)(O:mw d z TI TO i1 i2 l1 l2)(kp:∀c o,c≠d->h.get? c=some o->h'.get? c=some o):ZipSt h' d z TI TO i1 i2 l1 l2 k xs ys:=by
 refine⟨kp _ _ O.TI Z.ti,Z.a1.at λo e=>kp _ o O.i1 e,Z.a2.at λo e=>kp _ o O.i2 e,?_,?_,?_⟩
 .obtain⟨o,ho,r⟩:=Z.b1;exact⟨o,kp _ _ O.l1 ho,r⟩
 .obtain⟨o,ho,r⟩:=Z.b2;exact⟨o,kp _ _ O.l2 ho,r⟩
 .rcases Z.st with⟨a,b,h1,h2⟩|⟨T,b,ot,h1,h2,h3⟩
  .exact .inl ⟨a,b,kp _ _ O.z h1,kp _ _ O.TO h2⟩
  .exact .inr ⟨T,b,ot,kp _ _ O.z h1,kp _ _ h3.2.2.2 h2,h3⟩
theorem sr {d z TI TO i1 i2 l1 l2:Addr}{k:Nat}{xs ys:Array Value}{x y:Value}{od:Obj}{Q:Option Value->Shared->Prop}(D:ZipApart z TI TO i1 i2 l1 l2)(O:mw d z TI TO i1 i2 l1 l2)(hd:s.heap.get? d=some od)
  (Z:ZipSt s.heap d z TI TO i1 i2 l1 l2 k xs ys) (hx:xs[k]?=some x) (hy:ys[k]?=some y)
  (hQ:∀h',ZipSt h' d z TI TO i1 i2 l1 l2 (k+1) xs ys->IsPair h' s.heap.objs.size x y->(∀c o,c≠z->c≠TO->c≠i1->c≠i2->s.heap.get? c=some o->h'.get? c=some o)->Q (some (.ref s.heap.objs.size)) {s with heap:=h'}):
  wpAny (model prog w) A (pyNext (.ref z)) Q E s:=by
 have lt:∀{c:Addr} {o:Obj},s.heap.get? c=some o->s.heap.objs.size≠c:=fun{c o} e=>LY (HZ e)
 rcases Z.st with⟨a,b,h1,h2⟩|⟨T,b,ot,h1,h2,h3,h4,h5,h6⟩
 .refine wpAny_pyNext_zip_item D h1 Z.ti h2 Z.a1 Z.a2 Z.b1 Z.b2 hx hy λh' q1 q2 q3 q4 q5 q6 q7=>hQ h' ⟨q7 _ _ D.TIz D.TITO D.TIi1 D.TIi2 Z.ti,q3,q4,?_,?_,?_⟩ q5 q7
  .obtain⟨o,ho,r⟩:=Z.b1;exact⟨o,q7 _ _ D.l1z D.l1TO D.l1i1 D.l1i2 ho,r⟩
  .obtain⟨o,ho,r⟩:=Z.b2;exact⟨o,q7 _ _ D.l2z D.l2TO D.l2i1 D.l2i2 ho,r⟩
  .obtain⟨o1,e1,_⟩:=Z.a1
   obtain⟨o2,e2,_⟩:=Z.a2
   exact .inr ⟨_,false,_,q1,q5,lt h1,lt e1,lt e2,lt hd⟩
 .refine sy D h1 h2 Z.ti Z.a1 Z.a2 Z.b1 Z.b2 hx hy λh' q1 q3 q4 q5 q7=>hQ h' ⟨q7 _ _ D.TIz D.TIi1 D.TIi2 Z.ti,q3,q4,?_,?_,.inr ⟨T,true,ot,q1,q7 _ _ h3 h4 h5 h2,h3,h4,h5,h6⟩⟩ q5 λc o c1 _ c3 c4 e=>q7 c o c1 c3 c4 e
  .obtain⟨o,ho,r⟩:=Z.b1;exact⟨o,q7 _ _ D.l1z D.l1i1 D.l1i2 ho,r⟩
  .obtain⟨o,ho,r⟩:=Z.b2;exact⟨o,q7 _ _ D.l2z D.l2i1 D.l2i2 ho,r⟩
theorem xS {d z TI TO i1 i2 l1 l2:Addr}{k:Nat}{xs ys:Array Value}{Q:Option Value->Shared->Prop}(hh:A.handled=none)(D:ZipApart z TI TO i1 i2 l1 l2)
  (Z:ZipSt s.heap d z TI TO i1 i2 l1 l2 k xs ys) (OA:xs[k]?=none\/ys[k]?=none)
  (hQ:∀h',(∀c o,c≠z->c≠TO->c≠i1->c≠i2->s.heap.get? c=some o->h'.get? c=some o)->Q none {s with heap:=h'}):wpAny (model prog w) A (pyNext (.ref z)) Q E s:=by
 rcases Z.st with⟨a,b,h1,h2⟩|⟨T,b,ot,h1,h2,h3,h4,h5,h6⟩
 .exact wpAny_pyNext_zip_end hh D h1 Z.ti h2 Z.a1 Z.a2 Z.b1 Z.b2 OA hQ
 .exact wd hh D h1 h2 Z.ti Z.a1 Z.a2 Z.b1 Z.b2 OA λh' q=>hQ h' λc o c1 _ c3 c4 e=>q c o c1 c3 c4 e
end
section
variable {prog:Program} {w:World} {KT:Type} [DecidableEq KT] {knd:KeyKind prog w KT} {A:Around} {E:Value->Shared->Prop}
def jc (knd:KeyKind prog w KT)(u:Value×Value)(kv:KT×Value):Prop:=knd.is kv.1 u.1=true/\u.2=kv.2
theorem oS {d z TI TO i1 i2 l1 l2:Addr}{xs ys:List Value}{res:Value}(hh:A.handled=none)(D:ZipApart z TI TO i1 i2 l1 l2)(O:mw d z TI TO i1 i2 l1 l2):
  ∀(more:List (KT×Value)) (i:Nat) (s:Shared) (kvs:List (KT×Value)) (R:Result->Shared->Prop),
   ZipSt s.heap d z TI TO i1 i2 l1 l2 i xs.toArray ys.toArray->Paired (jc knd) ((xs.zip ys).drop i) more->s.heap.DictOf knd d kvs->kvs.length+more.length<=sizeLine->
   (∀h' tk,(∀b o,b≠d->b≠z->b≠TO->b≠i1->b≠i2->s.heap.get? b=some o->h'.get? b=some o)->h'.DictOf knd d (more.foldl (λa x=>stored a x.1 x.2) kvs)->R (.ok (.ret res)) {s with heap:=h',toks:=tk})->
   codeAny (model prog w) A (.builtin "dict.update.loop" ⟨[.ref d,.ref z,rawInt (i:Int),res],[]⟩) R s:=by
 intro more
 induction more with
 |nil=>
  intro i s kvs R Z hp hd hz hR
  have OA:xs.toArray[i]?=none\/ys.toArray[i]?=none:=by
   have hn:(xs.zip ys).drop i=[]:=by cases s_:(xs.zip ys).drop i with
    |nil=>rfl
    |cons x r=>rw[s_] at hp;cases hp
   have hl:=LC.mp hn;rw[Kd] at hl;by_cases h:xs.length<=i
   .exact .inl (by simp;lia)
   .exact .inr (by simp;lia)
  refine Jt K4 ?_
  rw[Jj C1 _]
  show wpAny _ A.in1 (pyNext (.ref z)>>=_) _ _ s
  refine HR (xS (A:=A.in1) hh D Z OA λh' kp=>?_)
  show wpAny _ A.in1 (Builtin.Dict.addKeywords d []>>=_) _ _ _
  refine HR (Ig (Ig ?_))
  refine hR h' s.toks (λb o _ h1 h2 h3 h4 e=>kp b o h1 h2 h3 h4 e) ?_
  obtain⟨od,es,ep,e,r⟩:=hd
  exact⟨od,es,ep,kp d od (JC O.z) (JC O.TO) (JC O.i1) (JC O.i2) e,r⟩
 |cons kv more ih=>
  intro i s kvs R Z hp hd hz hR
  obtain⟨x,y,hx,hy,hk,Ov⟩:∃x y,xs.toArray[i]?=some x/\ys.toArray[i]?=some y/\jc knd (x,y) kv/\Paired (jc knd) ((xs.zip ys).drop (i+1)) more:=by
   cases s_:(xs.zip ys).drop i with
   |nil=>rw[s_] at hp;cases hp
   |cons u r=>
    rw[s_] at hp
    cases hp with
    |cons h1 h2=>
     have z1:(xs.zip ys)[i]?=some u:=by
      have z:=Jm List.head? s_;simpa using z
     obtain⟨q1,q2⟩:=KH.mp z1
     refine⟨u.1,u.2,by simpa using q1,by simpa using q2,h1,?_⟩
     have z:=Jm List.tail s_
     rw[Nu] at z
     rw[z];exact h2
  obtain⟨y_,hv⟩:=hk
  obtain⟨od,es,ep,Y_,rod⟩:=id hd
  refine Jt K4 ?_
  rw[Jj C1 _]
  show wpAny _ A.in1 (pyNext (.ref z)>>=_) _ _ s
  refine HR (sr D O Y_ Z hx hy λh' Z' hT kp=>?_)
  refine HR (Ji (HR (wpAny_tryCatch ?_)))
  unfold Builtin.Dict.pairItems
  refine HR (Ma (s:={s with heap:=h'}) ⟨_,hT,rfl⟩ ?_)
  rw[if_pos (by decide)]
  refine HR (Mf (s:={s with heap:=h'}) hT rfl ?_)
  refine Ig ?_
  show wpAny _ A.in1 (holding [x,y] (dictSet d x y)) _ _ _
  have SI:h'.DictOf knd d kvs:=⟨od,es,ep,kp d od (JC O.z) (JC O.TO) (JC O.i1) (JC O.i2) Y_,rod⟩
  refine Ji (wpAny_dictSet_pairs (s:={s with heap:=h'}) (kvs:=kvs) y_ SI (λG' dd hs''=>?_) (by simp only[IV] at hz;lia))
  have QX:∀b o,b≠d->b≠z->b≠TO->b≠i1->b≠i2->s.heap.get? b=some o->G'.get? b=some o:=λb o h0 h1 h2 h3 h4 e=>hs''.extBut b o h0 (kp b o h1 h2 h3 h4 e)
  refine Ig ⟨JR C1 _,?_⟩
  have ey:y=kv.2:=hv
  rw[ey] at dd
  refine ih (i+1) _ (stored kvs kv.1 kv.2) R (Z'.keep O λc o hc e=>hs''.extBut c o hc e) Ov dd ?_ (λh3 tk k3 d3=>hR h3 tk (λb o h0 h1 h2 h3 h4 e=>k3 b o h0 h1 h2 h3 h4 (QX b o h0 h1 h2 h3 h4 e)) d3)
  have z:=stored_length_le kvs kv.1 kv.2
  simp only[IV] at hz
  lia
end
section
variable {prog:Program} {w:World} {KT:Type} [DecidableEq KT] {knd:KeyKind prog w KT} {A:Around} {E:Value->Shared->Prop}
theorem jE {z TI TO i1 i2 l1 l2:Addr}{xs ys:List Value}{more:List (KT×Value)}{a b:Value}{s:Shared}{Q:Value->Shared->Prop}(hh:A.handled=none)(D:ZipApart z TI TO i1 i2 l1 l2)
  (hz:IsZip s.heap z TI TO .none) (Sq:IsPair s.heap TI (.ref i1) (.ref i2)) (Za:IsPair s.heap TO a b) (h1:s.heap.IsListIter i1 l1 0) (h2:s.heap.IsListIter i2 l2 0) (NM:s.heap.IsList l1 xs.toArray) (Oh:s.heap.IsList l2 ys.toArray)
  (hlen:more.length<=sizeLine) (hp:Paired (jc knd) (xs.zip ys) more)
  (h:∀h' tk,h'.DictOf knd s.heap.objs.size (more.foldl (λa x=>stored a x.1 x.2) [])->(∀b o,b≠z->b≠TO->b≠i1->b≠i2->s.heap.get? b=some o->h'.get? b=some o)->Q (.ref s.heap.objs.size) {s with heap:=h',toks:=tk}):
  wpAny (model prog w) A (call (.type "dict") [.ref z]) Q E s:=by
 refine callType_codes (Q₁:=λobj s₁=>obj= .ref s.heap.objs.size/\s₁={s with heap:=s.heap.push {cls:= .type "dict",data:= .dict #[]}}) F.kt_called_dict (F.kt_typeCall_dict_1 _) F.entry_dict_init (kt_code_dict_new _ ⟨rfl,rfl⟩) ?_
 rintro obj s₁ ⟨rfl,rfl⟩
 have ND:(s.heap.push {cls:= .type "dict",data:= .dict #[]}).DictOf knd s.heap.objs.size []:=MS s.heap
 have ne:∀{c:Addr} {o:Obj},s.heap.get? c=some o->c≠s.heap.objs.size:=fun{c o} e=>Im (HZ e)
 obtain⟨o1,e1,r1⟩:=id h1
 obtain⟨o2,e2,r2⟩:=id h2
 obtain⟨o3,e3,r3⟩:=id NM
 obtain⟨o4,e4,r4⟩:=id Oh
 have O:mw s.heap.objs.size z TI TO i1 i2 l1 l2:=⟨ne hz,ne Sq,ne Za,ne e1,ne e2,ne e3,ne e4⟩
 refine⟨ND.typeIs,F.args_dict_init_2 _ _,?_⟩
 unfold Builtin.«dict.__init__»
 refine HR ?_
 unfold Builtin.Dict.selfAndRest
 refine HR (Ly ND.typeIs ?_)
 show wpAny _ _ (pure (s.heap.objs.size,[Value.ref z])) _ _ _
 refine Ig ?_
 show wpAny _ _ (Builtin.Dict.updateFrom "dict.__init__" s.heap.objs.size (.ref z) [] .none) _ _ _
 unfold Builtin.Dict.updateFrom
 have VO:(s.heap.push {cls:= .type "dict",data:= .dict #[]}).get? z=some _:=HS _ hz
 refine HR (Ma (s:={s with heap:=s.heap.push {cls:= .type "dict",data:= .dict #[]}}) ⟨_,VO,rfl⟩ ?_)
 rw[if_pos (by decide)]
 refine HR (oM (s:={s with heap:=s.heap.push {cls:= .type "dict",data:= .dict #[]}}) VO hh λh2 Qf k2=>?_)
 rw[if_pos (show((none:Option Value).isNone)=true from rfl)]
 have up:∀b ob,s.heap.get? b=some ob->h2.get? b=some ob:=λb ob e=>k2 b ob (HS _ e)
 have hd2:h2.DictOf knd s.heap.objs.size []:=let ⟨od,es,ep,e,r⟩:=ND;⟨od,es,ep,k2 _ _ e,r⟩
 refine HR (Ot (HR (MG (f0:= .none) (up _ _ hz) ?_)))
 refine Ig ⟨JR C1 _,?_⟩
 refine oS (knd:=knd) (xs:=xs) (ys:=ys) (A:=A.in1) hh D O more 0 _ [] _ ⟨up _ _ Sq,⟨o1,up _ _ e1,r1⟩,⟨o2,up _ _ e2,r2⟩,⟨o3,up _ _ e3,r3⟩,⟨o4,up _ _ e4,r4⟩,.inl ⟨a,b,up _ _ hz,up _ _ Za⟩⟩ (by rw[Mg];exact hp) hd2 (by simpa using hlen) λh3 tk k3 d3=>⟨rfl,h h3 tk d3 λb ob c1 c2 c3 c4 e=>k3 b ob (ne e) c1 c2 c3 c4 (up b ob e)⟩
end
section
variable {X:Cx} {a b:Expr} {t:TA} {p pos p2 OC:Pos}
def FT (K:Qc)(t:TA):TE:=λσ H Q=>t σ H λvs H1=>∃(l m:Addr) (ks:List j3) (ys:List V),vs=[.ref l,.ref m]/\SqL K H1 l (ks.map kV)/\SqL K H1 m ys/\∀d,H1 d=none->Q (.ref d) (p0 H1 d (.dK (Y4 (ks.zip ys))))
theorem tO {P : Program} {w : World} : ∀ {ks : List j3} {ys : List V} {us vs : List Value}, Vals (ks.map kV) us -> Vals ys vs -> ∃ more, Paired (jc (l0 P w)) (us.zip vs) more /\ KV (ks.zip ys) more
 := by
  intro ks ys us vs hu hv;induction ks generalizing ys us vs with
  | nil => cases hu; exact ⟨[], .nil, .nil⟩
  | cons k ks ih => cases hu with
    | cons r t => cases hv with
      | nil => exact ⟨[], .nil, .nil⟩
      | cons r' t' =>
        obtain ⟨more, h1, h2⟩ := ih t t'
        exact ⟨(k, _) :: more, .cons ⟨eG r, rfl⟩ h1, .cons ⟨rfl, r'⟩ h2⟩
theorem Dt (V':Gl X "dict")(So:X.mg "dict"=none)(V_:Gl X "zip")(Wa:X.mg "zip"=none)(hc:X.calm=true)(ha:PA X [a,b] t)(hs:starEach [a,b] X.env=[(false,eval a X.env),(false,eval b X.env)])(Nm:starEach [b] X.env=[(false,eval b X.env)])
  (Zb:starEach [Expr.Call (.Name "zip" p2) [a,b] [] OC] X.env=[(false,eval (Expr.Call (.Name "zip" p2) [a,b] [] OC) X.env)]):PE X (.Call (.Name "dict" p) [.Call (.Name "zip" p2) [a,b] [] OC] [] pos) (FT X.K t):=by
 intro pins s σ H Q I h
 refine JQ (ai I V' So Boot.«dict» (Jk ?_ Zb rfl) (by decide) (by decide))
 rw[Zb]
 show wpAny _ _ (spliced [(false,eval (Expr.Call (.Name "zip" p2) [a,b] [] OC) X.env)]) _ _ s
 refine Kp ?_
 refine JQ (ai I V_ Wa Boot.«zip» (Jk (E9 (ha OC pins s σ H _ I h) λus s1 ⟨vs,H1,I1,r1,q1⟩=>?_) (by rw[hs,Nm]) (by rw[Nm];rfl)) (by decide) (by decide))
 obtain⟨l,m,ks,ys,e,hq,QV,q⟩:=q1
 subst e
 obtain⟨u,v,rfl,ru,rv⟩:=V7 r1
 cases ru
 cases rv
 obtain⟨a_,rv,pl,hz⟩:=I1.list hq
 obtain⟨its',Sm,Td,Rz⟩:=I1.list QV
 obtain⟨more,g1,g2⟩:=tO (P:=X.prog) (w:=X.w) rv Sm
 refine call_zip_2 pl.isList Td.isList λh' z1 z2 z3 z4 z5 hsz hk=>?_
 refine Lp ?_
 have ll:(l:Nat)<(s1.heap.objs.size:Nat):=by obtain⟨o,e,_⟩:=pl.isList;exact HZ e
 have lm:(m:Nat)<(s1.heap.objs.size:Nat):=by obtain⟨o,e,_⟩:=Td.isList;exact HZ e
 have D:ZipApart (s1.heap.objs.size+4) (s1.heap.objs.size+2) (s1.heap.objs.size+3) s1.heap.objs.size (s1.heap.objs.size+1) l m:=by
  constructor<;>first|exact Im (Ib ll (by lia))|exact Im (Ib lm (by lia))|(intro z;have z':(_:Nat)=(_:Nat):=z;lia)
 have Zc:more.length<=sizeLine:=by
  have e1:=KV.length g2;rw[Kd] at e1;lia
 refine jE (knd:=l0 X.prog X.w) (s:={s1 with heap:=h'}) (I.ok.hd hc) D z1 z2 z3 z4 z5 ?_ ?_ Zc g1 λh3 tk d3 k3=>?_
 .obtain⟨o,e,r⟩:=pl.isList;exact⟨o,hk _ _ e,r⟩
 .obtain⟨o,e,r⟩:=Td.isList;exact⟨o,hk _ _ e,r⟩
 have Tg:s1.heap.objs.size<=h'.objs.size:=by rw[hsz];lia
 refine⟨.ref h'.objs.size,_,I1.laid (a:=h'.objs.size) (t':=tk) (λb o e=>?_) Tg (fq (kvs:=Y4 (ks.zip ys)) ?_ ?_ (KV.puts g2 .nil) d3),rfl,q _ (I1.hok.fresh Tg)⟩
 .have hb:(b:Nat)<(s1.heap.objs.size:Nat):=HZ e
  exact k3 b o (Im (Ib hb (by lia))) (Im (Ib hb (by lia))) (Im (Ib hb (by lia))) (Im (Ib hb (by lia))) (hk _ _ e)
 .have z:=bI (ks.zip ys) []
  unfold Y4
  have e1:=KV.length g2
  simp only[La] at z
  lia
 .exact JM.mpr (JC (Im (Ib I1.big Tg)))
theorem GR (K:Qc)(So:X.mg "dict"=none)(Wa:X.mg "zip"=none)(hc:X.calm=true)(ha:QA X [a,b] t)(V':Gl X "dict":=by rfl)(V_:Gl X "zip":=by rfl)(h:u9 a=true:=by rfl)(h':u9 b=true:=by rfl)(hK:X.K=K:=by rfl):
  QE X (.Call (.Name "dict" p) [.Call (.Name "zip" p2) [a,b] [] OC] [] pos) (FT K t):=⟨hK▸Dt V' So V_ Wa hc ha.r (by rw[J0 h,J0 h'];rfl) (J0 h') (J0 rfl)⟩
theorem FX {K:Qc}{σ:L2.St}{H:Hp}{Q:VK}{t:TA}(q:t σ H λvs H1=>∃(l m:Addr) (ks:List j3) (ys:List V),vs=[.ref l,.ref m]/\SqL K H1 l (ks.map kV)/\SqL K H1 m ys/\∀d,H1 d=none->Q (.ref d) (p0 H1 d (.dK (Y4 (ks.zip ys))))):FT K t σ H Q:=q
end
open PySem.AutoSeq1 (wpAny_loadPart')
open PySem.MeetsSeq PySem.MeetsSeq2 PySem.MeetsSeq3
def EqL (K:Qc)(H:Hp)(x y:V)(b:Bool):Prop:=∃(a c:Addr) (xs ys:List V),x= .ref a/\y= .ref c/\SqL K H a xs/\SqL K H c ys/\xs.all D6=true/\ys.all D6=true/\b=R4 xs ys
section
variable {X:Cx} {pins:List (Addr×Obj)} {σ:St} {H:Hp} {s:Shared} {A:Around}
theorem EqL.at_ {x y:V}{u v:Value}{b:Bool}(I:Inv X pins σ H s)(h:EqL X.K H x y b)(rx:RelV x u)(ry:RelV y v)(hu:A.units+8<cLine):SeqAt.EqAt A s u v b:=by
 obtain⟨a,c,xs,ys,rfl,rfl,ha,hc,fx,fy,rfl⟩:=h;cases rx;cases ry;obtain⟨a_,r1,p1,z1⟩:=I.list ha;obtain⟨its',r2,p2,z2⟩:=I.list hc;by_cases hac:a=c
 .subst hac;have e:=I.list_inj ha hc;subst e;rw[bZ fx];exact Ku _
 .have l1:=r1.length;have l2:=r2.length;by_cases hl:xs.length=ys.length
  .have q:=SeqAt.RcAt.lists (A:=A) (e:=λj=>dv (xs.getD j .non) (ys.getD j .non)) p1.isList p2.isList (by simp;lia) (by lia) λj g1 g2=>by
    have Nx:j<a_.length:=by simpa using g1
    have Ny:j<its'.length:=by simpa using g2
    have x1:xs[j]?=some (xs[j]'(by lia)):=by simp [show j<xs.length by lia]
    have y1:ys[j]?=some (ys[j]'(by lia)):=by simp [show j<ys.length by lia]
    obtain⟨u1,Oq,N'⟩:=r1.get x1;obtain⟨u2,Ou,N_⟩:=r2.get y1;have e1:a_.toArray[j]=u1:=by
     have:=HH Nx;rw[Oq] at this;simpa using(Ie this).symm
    have e2:its'.toArray[j]=u2:=by
     have:=HH Ny;rw[Ou] at this;simpa using(Ie this).symm
    rw[e1,e2];have d1:xs.getD j .non=xs[j]'(by lia):=by rw[IG,x1];rfl
    have d2:ys.getD j .non=ys[j]'(by lia):=by rw[IG,y1];rfl
    rw[d1,d2];exact bV N' N_ (IH.mp fx _ (ID _)) (IH.mp fy _ (ID _))
   have e3:a_.toArray.size=min xs.length ys.length:=by simp;lia
   have z:=O1 xs ys;rw[show(xs.length==ys.length)=true by simpa using hl,Ld] at z;rw[e3,z] at q;exact .of_refs hac q
  .rw[dR hl];exact .of_refs hac (KP p1.isList p2.isList (by simp;lia) (by lia))
end
section
variable {X:Cx}
def qR (K:Qc):V->List V->Hp->VK->Prop:=λx vs H Q=>∃(l:Addr) (xs:List V) (y:V) (f:V->Bool),x= .ref l/\vs=[y]/\H l=some (.lst xs)/\(∀z∈xs,EqL K H z y (f z))/\Q (.int (xs.countP f:Nat)) H
theorem gz {k:Nat}(hr:Room k X.A):uL X "list.count" (qR X.K):=by
 intro pins s σ H x vs v us Q I rx rv h;obtain⟨l,xs,y,f,rfl,rfl,hl,he,q⟩:=h;cases rx;obtain⟨u,rfl,ru⟩:=K1 rv;obtain⟨hz,a_,n,r,hle,e⟩:=I.lstM hl;refine Mn F.slot_list_count ⟨_,e,rfl⟩ F.entry_list_count (F.args_list_count_2 _ _) (SeqAt.list_countAt l a_.toArray n _ _ u (f∘CW)) ⟨e,λw hw=>?_,?_⟩
 .obtain⟨z,Rz,rz⟩:=fW r (show w∈a_ by simpa using hw);have g:=EqL.at_ (A:=X.A.in1) I (he z Rz) rz ru (by have:=hr.un;show X.A.units+1+8<cLine;lia);rw[show(f∘CW) w=f z by show f (CW w)=f z;rw[wg rz]];exact g
 .refine⟨.int (xs.countP f:Nat),H,I.tok _,⟨s.toks,?_⟩,q⟩;show Value.int (a_.countP (f∘CW):Nat) _=_;rw[DJ r]
theorem gD {X:Cx}{k:Nat}(K:Qc)(hr:Room k X.A)(h:X.K=K:=by rfl):uL X "list.count" (qR K):=h▸gz hr
theorem mG {X:Cx}:uL X "list.pop" Ea:=Aw
theorem Ge {pos:Pos}:QE X (.Dict [] [] pos) wy:=⟨vn⟩
end
section
variable {P:Program} {w:World}
end
section
variable {X:Cx}
end
section
variable {K:Qc} {H:Hp} {Q:VK} {x y:V}
end
end L2
namespace PySem
section
variable {prog:Program} {w:World} {K:Type} [DecidableEq K] {A:Around} {E:Value->Shared->Prop} {s:Shared}
theorem V0 {knd:HeapKind prog w K}{d a:Addr}{xs:List (K×Addr×Value)}{k:K}{v:Value}{Q:Value->Shared->Prop}(hu:knd.room A)(y_:knd.is s.heap k a)(hm:s.heap.DictOfH knd d xs)
  (RC:∀p,atKey xs k=some p->Q p.2 {s with toks:=s.toks+knd.draws k})
  (hQ:atKey xs k=none->∀h',h'.DictOfH knd d (storedH xs k a v)->Heap.SameBut d s.heap h'->Q v {s with heap:=h',toks:=s.toks+knd.draws k})
  (hsz:xs.length<=sizeLine):
  wpAny (model prog w) A (dictSetDefault d (.ref a) v) Q E s:=by
 obtain⟨o,es,ep,ho,hc,hd,he,Zd,hn⟩:=hm
 unfold dictSetDefault
 try with_reducible refine Ji ?_
 refine HR (knd.pyHash hu y_ ?_)
 refine HR (wpAny_dictFind_heap (s:={s with toks:=s.toks+knd.draws k}) hu y_ ho hd he Zd hn ?_ ?_)
 .intro k_
  have Wc:k∉xs.map (·.1):=not_mem_keys_of_get k_
  refine HR (Ot (HR (wpAny_updateDictKeys (hz:=by have e:=size_of_entries he;lia) (s:={s with toks:=s.toks+knd.draws k}) ho hd (Ig (hQ (Lq k_) _ ⟨_,_,ep+1,Heap.get?_update_self _ ho (Obj.isFreed_of_dict (Obj.data_mapDictKeys hd _)),
   hc.mapDictKeys _,Obj.data_mapDictKeys hd _,?_,?_,?_⟩ (LO ..))))))
  .rw[storedH_new (Lq k_)]
   simp [he,entryOfKey]
  .rw[storedH_new (Lq k_)]
   intro x hx
   rcases Ic.mp hx with hx|hx
   .exact knd.keeps (Zd x hx) ho hd (LO ..)
   .simp only[Ih] at hx
    subst hx
    exact knd.keeps y_ ho hd (LO ..)
  .rw[storedH_new (Lq k_)]
   rw[HL,Iu]
   refine⟨hn,by simp,?_⟩
   intro x hx y hy
   simp only[IP,Mb,Ih] at hy
   subst hy
   exact λe=>Wc (e▸hx)
 .intro j p hj
  refine HR (wpAny_dictEntries (s:={s with toks:=s.toks+knd.draws k}) ho hd ?_)
  rw[entry_at he j,hj]
  exact HR (Ot (Ig (RC _ (atKey_of_get hn hj))))
theorem ao (knd:HeapKind prog w K)(d a:Addr)(hd:(d==sysModules)=false)(dflt:Value):
  MeetsIn prog w (Builtin.«dict.setdefault» ⟨[.ref d,.ref a,dflt],[]⟩) (λA R s=>knd.room A.in1/\∃k xs,knd.is s.heap k a/\s.heap.DictOfH knd d xs/\xs.length<=sizeLine/\
   (∀p,atKey xs k=some p->R (.ok (.ret p.2)) {s with toks:=s.toks+knd.draws k})/\
   (atKey xs k=none->∀h',h'.DictOfH knd d (storedH xs k a dflt)->Heap.SameBut d s.heap h'->R (.ok (.ret dflt)) {s with heap:=h',toks:=s.toks+knd.draws k})):=
 .of_wp λA R s ⟨hu,k,xs,hk,hm,hz,h1,h2⟩=>by
  unfold Builtin.«dict.setdefault»;refine HR ?_;unfold Builtin.Dict.keyAndDefault;refine HR (Ly hm.typeIs ?_);show wpAny _ _ (pure (d,Value.ref a,some dflt)) _ _ s;refine Ig ?_;show wpAny _ _ (if(d==sysModules)=true then _ else(dictSetDefault d (.ref a) dflt>>=_)) _ _ s;rw[if_neg (by rw[hd];exact IB)];exact HR (V0 hu hk hm (λp hp=>Ig ⟨_,rfl,h1 p hp⟩) (λhn h' hm' hs'=>Ig ⟨dflt,rfl,h2 hn h' hm' hs'⟩) hz)
end
end PySem
namespace L2
open PySem PySem.Spec PyProof.Rows
section
variable {X:Cx}
def zM:V->List V->Hp->VK->Prop:=λx vs H Q=>∃(d t:Addr) (kvs:List (List j3×V)) (k:List j3) (v:V),x= .ref d/\vs=[.ref t,v]/\H d=some (.dT kvs)/\H t=some (.tup (k.map kV))/\kvs.length<sizeLine/\
 (match p9 kvs k with|some u=>Q u H|none=>Q v (p0 H d (.dT (D0 kvs k v))))
theorem cq {k:Nat}(hr:Room k X.A):uL X "dict.setdefault" zM:=by
 intro pins s σ H x vs v us Q I rx rv h;obtain⟨d,t,kvs,k',y,rfl,rfl,e,et,hl,q⟩:=h;cases rx;obtain⟨u1,u2,rfl,r1,r2⟩:=V7 rv;cases r1;obtain⟨z,hd,xs,rel,dd⟩:=Aq I.hok e;have hz:xs.length<=sizeLine:=by rw[←IC rel];exact z
 have Py:(D0 kvs k' y).length<=sizeLine:=by have:=K2 kvs k' y;lia
 refine Jw F.slot_dict_setdefault dd.typeIs F.entry_dict_setdefault (F.args_dict_setdefault_3 _ _ _) (ao (tupleKind (l0 X.prog X.w)) d t hd u2) ⟨JJ (by have:=hr.un;lia),k',xs,aW I.hok et,dd,hz,λp hp=>?_,λhn h' dd' hs=>?_⟩
 .have hw:(atKey xs k').map (·.2)=some p.2:=by rw[hp];rfl
  have ro:=rel.val k';rw[hw] at ro;cases hv:p9 kvs k' with
  |none=>rw[hv] at ro;cases ro
  |some w'=>
   rw[hv] at ro q
   exact⟨w',H,I.tok _,ro,q⟩
 .have ro:=rel.val k';rw[hn] at ro;cases hv:p9 kvs k' with
  |some w'=>rw[hv] at ro;cases ro
  |none=>
   rw[hv] at q
   refine⟨y,_,?_,r2,q⟩
   obtain⟨o',es,ep,hq,h2,h3,h4,_,h5⟩:=dd'
   refine cm I (by rw[e];exact True.intro) hs ⟨o',hq⟩ ⟨Py,hd,_,(rel.put k' et r2).keeps λc ys ec=>?_,o',es,ep,hq,h2,h3,h4,h5⟩
   rw[b7 (zY ec e (λz=>nomatch z))]
   exact ec
end
section
variable {X:Cx}
def vH (K:Qc):List V->Hp->VK->Prop:=λxs H Q=>∃(t:Addr) (a b:Str),xs=[.ref t]/\SqT K H t [.str a,.str b]/\Q (.str (if a.cps.toList<b.cps.toList then b else a)) H
theorem ux (hc:X.calm=true):CallR X (.builtin "max") (vH X.K):=by
 intro pins s σ H xs us Q I r h;obtain⟨t,a,b,rfl,ht,q⟩:=h;obtain⟨u,rfl,ru⟩:=K1 r;cases ru;obtain⟨a_,rv,p,hz⟩:=I.tuple ht;obtain⟨_,_,rfl,⟨t1,rfl⟩,⟨t2,rfl⟩⟩:=V7 rv;refine call_max_walk (wpAny_pyIter_tuple (show s.heap.IsTuple t #[Value.str a t1,Value.str b t2] from p) ?_);have j':t<s.heap.objs.size:=by
  obtain⟨o,e,_⟩:=(show s.heap.IsTuple t #[Value.str a t1,Value.str b t2] from p)
  exact HZ e
 have kp:∀c o,s.heap.get? c=some o->(s.heap.push {cls:= .type "tuple_iterator",data:= .fields #[.ref t,.int 0 0]}).get? c=some o:=λc o e=>HS _ e;refine⟨s.heap.objs.size,[s.heap.objs.size,t],[s.heap.objs.size],2,_,_,λi j=>decide ((if j=0 then a else b).cps.toList<(if i=0 then a else b).cps.toList),rfl,Walks.tuple (A:=X.A.in1) (show X.A.in1.handled=none from I.ok.hd hc) s.heap.objs.size t (Im j') #[Value.str a t1,Value.str b t2],⟨⟨_,Iq _ rfl,rfl,rfl⟩,let ⟨o,e,r⟩:=p;⟨o,kp _ _ e,r⟩⟩,λc NB=>?_,by decide,?_,?_⟩
 .show c<(s.heap.push _).objs.size;rcases Iz.mp NB with rfl|NB
  .simp [Heap.push]
  .rw[Ih.mp NB];have z:s.heap.objs.size<(s.heap.push {cls:= .type "tuple_iterator",data:= .fields #[.ref t,.int 0 0]}).objs.size:=by simp [Heap.push]
   exact MR j' z
 .intro i j vi vj s' Q' E' hi hj hQ;have key:∀(i:Nat) (v:Value),(#[Value.str a t1,Value.str b t2]:Array Value)[i]?=some v->∃tk,v= .str (if i=0 then a else b) tk:=λi v h=>by
   match i,h with
   |0,h=>exact⟨t1,by simpa using h.symm⟩
   |1,h=>exact⟨t2,by simpa using h.symm⟩
   |n+2,h=>simp at h
  obtain⟨k1,rfl⟩:=key i vi hi;obtain⟨k2,rfl⟩:=key j vj hj;exact richCompare_gives (op:= .Gt) (Nd _ _ _) (Nd _ _ _) F.slot_str_gt F.entry_str_gt (F.args_str_gt_2 _ _) (gives_str_gt _ _ _ _) (λe=>nomatch e) hQ
 .intro v h' tk hv hk;have I2:Inv X pins σ H {s with heap:=h',toks:=tk}:=I.kept λc o e=>hk c o (λz=>by rw[Ih.mp z] at e;exact absurd (HZ e) (Jo _)) (kp c o e);refine⟨_,H,I2,?_,q⟩;by_cases hl:a.cps.toList<b.cps.toList
  .have e:argBest (λi j=>decide ((if j=0 then a else b).cps.toList<(if i=0 then a else b).cps.toList)) (2 -1)=1:=by show(if decide (a.cps.toList<b.cps.toList)=true then 1 else 0)=1;rw[if_pos (IA hl)]
   rw[e] at hv;rw[if_pos hl];exact⟨t2,by simpa using hv.symm⟩
  .have e:argBest (λi j=>decide ((if j=0 then a else b).cps.toList<(if i=0 then a else b).cps.toList)) (2 -1)=0:=by show(if decide (a.cps.toList<b.cps.toList)=true then 1 else 0)=0;rw[if_neg (by rw[Iv hl];decide)]
   rw[e] at hv;rw[if_neg hl];exact⟨t1,by simpa using hv.symm⟩
theorem DI (K:Qc)(hc:X.calm=true)(h:X.K=K:=by rfl):CallR X (.builtin "max") (vH K):=h▸ux hc
end
theorem CH {K:Qc}{H:Hp}{Q:VK}{t:Addr}{a b:Str}(h:SqT K H t [.str a,.str b])(q:Q (.str (if a.cps.toList<b.cps.toList then b else a)) H):vH K [.ref t] H Q:=⟨t,a,b,rfl,h,q⟩
structure FunD (K:Qc) (x qual:Str) (st:Stmt) (T:Addr) (f:Addr) (fd:FuncData):Prop where
 ex:∃(oc:Value) (od:Option Addr) (kV doc pm:Value) (an:Option Addr) (d_ ct:Value) (My:Array (Option Value)),
  fd=PySem.W.fnOf x qual (M4 st) (F5 st) (i7 st) (.ref T) kV doc pm an d_ ct/\K.lookup f=some ⟨oc,od,.func fd,My⟩/\PySem.W.codeIn K d_ qual=true
 kp:PySem.W.keepIn K (.ref f)=true
section
variable {P:Program} {w:World} {K:Qc} {mg:Str->Option Value} {base:Heap}
theorem FunD.ok {x qual:Str}{st:Stmt}{T f:Addr}{fd:FuncData}{N ps:List Str}{k:Nat}{sp:Sp}(F:FunD K x qual st T f fd)(S:j5 N ps (i7 st))(len:∀vs H Q E,sp vs H Q E->vs.length=ps.length)
  (B_:∀(d_:Value) (A:Around) (outer:List Env) (s:Shared) (H:Hp) (vs:List V) (Q:VK) (E:XK),Room k (A.deeper (envOfC qual (i7 st) s.heap.objs.size f d_))->sp vs H Q E->
   ∃t,PSs (gy B8 P w K mg base N qual (i7 st) f d_ A outer s H E).nox (F5 st) t/\t {nx:=λ_ H'=>Q .non H',rt:=Q} (cH N vs) H):A1 P w K mg base B8 (k+1) f fd ps sp:=by
 obtain⟨oc,od,kV,doc,pm,an,d_,ct,My,rfl,lk,Ni⟩:=F.ex
 refine vZ lk Ni S len λA outer s H vs Q E hr OL=>?_
 obtain⟨t,h,q⟩:=B_ d_ A outer s H vs Q E hr OL
 exact⟨t,h.nox,q⟩
theorem yY {x qual:Str}{st:Stmt}{T f:Addr}{oc:Value}{od an:Option Addr}{My:Array (Option Value)}{kV doc pm d_ ct:Value}(l:K.lookup f=some ⟨oc,od,.func (PySem.W.fnOf x qual (M4 st) (F5 st) (i7 st) (.ref T) kV doc pm an d_ ct),My⟩)
  (c:PySem.W.codeIn K d_ qual=true) (k:PySem.W.keepIn K (.ref f)=true):FunD K x qual st T f (PySem.W.fnOf x qual (M4 st) (F5 st) (i7 st) (.ref T) kV doc pm an d_ ct):=⟨⟨oc,od,kV,doc,pm,an,d_,ct,My,rfl,l,c⟩,k⟩
end
open PySem.AutoSeq1 (wpAny_loadPart')
open PySem.MeetsSeq PySem.MeetsSeq2 PySem.MeetsSeq3
section
variable {P:Program} {w:World}
end
section
variable {X:Cx}
end
section
variable {α β:Type}
end
def Hi (rk:Value->Int)(p:Keyed):Keyed:=(.int (rk p.1) 0,p.2)
def kA (rk:Value->Int)(st:SortSt)(i:Nat):Int:=K ((arrOf st).map (Hi rk)) i
structure TB (kd:SortKind) (base:Array Keyed) (st:SortSt):Prop where
 pm:(arrOf st).Perm base
 kd:kindOf st=kd
 fl:failedOf st=none
 pe:pendingOf st= #[]
section
variable {prog:Program} {w:World} {A:Around} {E:Value->Shared->Prop} {s:Shared} {rk:Value->Int} {kd:SortKind} {base:Array Keyed} {st:SortSt}
def Hc (rk:Value->Int)(st:SortSt)(n:Nat):Prop:=∀i j,i<=j->j<n->kA rk st i<=kA rk st j
end
section
variable {prog:Program} {w:World} {A:Around} {E:Value->Shared->Prop} {s:Shared} {rk:Value->Int} {kd:SortKind} {base:Array Keyed} {st:SortSt}
structure TD (rk:Value->Int) (base:Array Keyed) (st:SortSt):Prop where
 pm:(arrOf st).Perm base
 fl:failedOf st=none
 pe:pendingOf st= #[(0,base.size,0)]
 up:Hc rk st base.size
end
def Gp:V->List Nat
 | .str a=>a.cps.toList
 | .bl b=>[b.toNat]
 |_=>[]
abbrev Gf (xs:List V):List (List Nat):=xs.map Gp
theorem zJ {a b:Str}(h:a.cps.toList=b.cps.toList):a=b:=by
 cases a;cases b;congr;exact Array.toList_inj.mp h
section
variable {P:Program} {w:World} {A:Around} {E:Value->Shared->Prop} {s:Shared}
end
abbrev Hu:=List (List Nat)
section
variable {P:Program} {w:World} {A:Around} {E:Value->Shared->Prop} {s:Shared}
structure Hk (h:Heap) (kf:Value->Hu) (v:Value):Prop where
 at_:∃(a:Addr) (us:List Value) (xs:List V) (x:Str) (r:List V),v= .ref a/\h.IsTuple a us.toArray/\Vals xs us/\xs= .str x::r/\kf v=Gf xs
end
section
variable {P:Program} {w:World} {A:Around} {E:Value->Shared->Prop} {s:Shared}
end
section
variable {X:Cx}
end
abbrev Lk:=Str×Bool×Bool
def Ei (c:Lk):List V:=[.str c.1,.bl c.2.1,.bl c.2.2]
theorem El (c d:Lk):R4 (Ei c) (Ei d)=decide (c=d):=by
 obtain⟨c1,c2,c3⟩:=c;obtain⟨d1,d2,d3⟩:=d;show(c1==d1&&(c2==d2&&(c3==d3&&true)))=_;rw[II];simp
theorem Bv {c d:Lk}(h:Ei c=Ei d):c=d:=by
 obtain⟨c1,c2,c3⟩:=c;obtain⟨d1,d2,d3⟩:=d;have h1:=V.str.inj (Kj h).1;have h2:=V.bl.inj (Kj (Kj h).2).1;have h3:=V.bl.inj (Kj (Kj (Kj h).2).2).1;rw[show c1=d1 from h1,show c2=d2 from h2,show c3=d3 from h3]
def nR (K:Qc)(H:Hp)(xs:List V)(cs:List Lk):Prop:=Paired (λv c=>∃t,v=V.ref t/\SqT K H t (Ei c)) xs cs
structure LkV (K:Qc) (H:Hp) (u:V) (kd:Str) (cs:List Lk):Prop where
 ex:∃(a l:Addr) (xs:List V),u= .ref a/\SqT K H a [.str kd,.ref l]/\SqL K H l xs/\nR K H xs cs
section
variable {X:Cx} {pins:List (Addr×Obj)} {σ:St} {H:Hp} {s:Shared}
theorem uT (I : Inv X pins σ H s) : ∀ {xs : List V} {cs ds : List Lk}, nR X.K H xs cs -> nR X.K H xs ds -> cs = ds
 := by
  intro xs cs ds h1 h2;induction h1 generalizing ds with
  | nil => cases h2; rfl
  | cons a r ih => cases h2 with
    | cons a' r' =>
      obtain ⟨t, e, h⟩ := a
      obtain ⟨t', e', h'⟩ := a'
      rw [e] at e'
      cases e'
      rw [Bv (I.tuple_inj h h'), ih r']
theorem EK (I:Inv X pins σ H s){A:Around}{l m:Addr}{xs ys:List V}{cs ds:List Lk}(h1:SqL X.K H l xs)(h2:SqL X.K H m ys)(p1:nR X.K H xs cs)(p2:nR X.K H ys ds)(hu:A.units+48<cLine):EqP X.prog X.w A s (.ref l) (.ref m) (decide (cs=ds)):=by
 by_cases e:l=m
 .subst e;have ex:=I.list_inj h1 h2;subst ex;rw[IA (uT I p1 p2)];exact .of (Ku _)
 .obtain⟨us,r1,q1,z1⟩:=I.list h1;obtain⟨vs,r2,q2,z2⟩:=I.list h2;have a1:=r1.length;have a2:=r2.length;have b1:=IC p1;have b2:=IC p2;by_cases hl:xs.length=ys.length
  .have q:=RcP.lst (P:=X.prog) (w:=X.w) (A:=A) (f:=λj=>decide (cs[j]?=ds[j]?)) q1.isList q2.isList (by simp;lia) (by lia) λj g1 g2=>by
    have Nx:j<us.length:=by simpa using g1
    have Ny:j<vs.length:=by simpa using g2
    have x1:xs[j]?=some (xs[j]'(by lia)):=HH _;have y1:ys[j]?=some (ys[j]'(by lia)):=HH _;obtain⟨u1,Oq,N'⟩:=r1.get x1;obtain⟨u2,Ou,N_⟩:=r2.get y1;have e1:us.toArray[j]=u1:=by
     have:=HH Nx;rw[Oq] at this;simpa using(Ie this).symm
    have e2:vs.toArray[j]=u2:=by
     have:=HH Ny;rw[Ou] at this;simpa using(Ie this).symm
    obtain⟨c,hc,t1,et1,s1⟩:=B7 p1 x1;obtain⟨d,hd,t2,We,s2⟩:=B7 p2 y1;rw[e1,e2,hc,hd];rw[et1] at N';rw[We] at N_;have z:=EqN.at_ (n:=0) (A:=A.in1) I (.inl (Eq1.tup s1 s2 rfl rfl)) N' N_ (by show A.units+1+32+0<cLine;lia);rw[El] at z;rw[show decide (some c=some d)=decide (c=d) by simp];exact z
   have e3:(List.range us.toArray.size).all (λj=>decide (cs[j]?=ds[j]?))=decide (cs=ds):=by
    rw[II,IH,Ii];constructor
    .intro h;refine Ow λj=>?_;rcases JA j us.length with z|z
     .exact IY (h j (by simpa using z))
     .rw[IX (by lia),IX (by lia)]
    .rintro rfl j _;exact IA rfl
   rw[e3] at q;exact .refs e q
  .have C_:cs≠ds:=λz=>hl (by rw[b1,b2,z]);rw[Iv C_];exact .of (.of_refs e (KP q1.isList q2.isList (by simp;lia) (by lia)))
end
section
variable {X:Cx}
def Ab (K:Qc):R2:=λx y H Q=>∃(kd J':Str) (cs ds:List Lk),LkV K H x kd cs/\LkV K H y J' ds/\Q (.bl (decide (kd=J')&&decide (cs=ds))) H
theorem zp (hu:X.A.units+64<cLine):OpR X (compareOp .Eq) (Ab X.K):=by
 intro pins s σ H x y v u Q I rx ry h;obtain⟨kd,J',cs,ds,⟨a,l,xs,rfl,t1,s1,p1⟩,⟨c,m,ys,rfl,t2,s2,p2⟩,k⟩:=h;cases rx;cases ry;obtain⟨us,r1,q1,z1⟩:=I.tuple t1;obtain⟨vs,r2,q2,z2⟩:=I.tuple t2;obtain⟨u1,u2,rfl,⟨US,rfl⟩,e2⟩:=V7 r1;obtain⟨v1,v2,rfl,⟨Qf,rfl⟩,f2⟩:=V7 r2;cases e2;cases f2;have q:=RcP.tup (P:=X.prog) (w:=X.w) (A:=X.A) (f:=λj=>if j=0 then decide (kd=J') else decide (cs=ds)) (show s.heap.IsTuple a #[Value.str kd US,Value.ref l] from q1) (show s.heap.IsTuple c #[Value.str J' Qf,Value.ref m] from q2) (by lia) λj g1 g2=>by
  match j,g1,g2 with
  |0,_,_=>
   have z:=EqP.of (P:=X.prog) (w:=X.w) (bV (A:=X.A.in1) (s:=s) (y:= .str kd) (x:= .str J') ⟨US,rfl⟩ ⟨Qf,rfl⟩ rfl rfl)
   rw[show dv (.str kd) (.str J')=decide (kd=J') from rfl] at z
   exact z
  |1,_,_=>exact EK (A:=X.A.in1) I s1 s2 p1 p2 (by show X.A.units+1+48<cLine;lia)
  |n+2,g1,_=>exact absurd g1 (by simp)
 have e:((List.range (min (#[Value.str kd US,Value.ref l]:Array Value).size (#[Value.str J' Qf,Value.ref m]:Array Value).size)).all (λj=>if j=0 then decide (kd=J') else decide (cs=ds))&&(#[Value.str kd US,Value.ref l]:Array Value).size==(#[Value.str J' Qf,Value.ref m]:Array Value).size)=(decide (kd=J')&&decide (cs=ds)):=by
  show(([0,1]:List Nat).all _&&true)=_;simp
 rw[e] at q;exact q _ _ ⟨.bl _,H,I,rfl,k⟩
def Am (K:Qc):R2:=λx y H Q=>iH K x y H Q\/Ab K x y H Q
theorem EZ (K:Qc){k:Nat}(hr:Room k X.A)(h:X.K=K:=by rfl):OpR X (compareOp .Eq) (Am K):=(G8 K hr h).or (h▸zp hr.units)
def EqA (K:Qc)(H:Hp)(x y:V)(b:Bool):Prop:=(∃a c,x= .str a/\y= .str c/\b=decide (a=c))\/∃(kd J':Str) (cs ds:List Lk),LkV K H x kd cs/\LkV K H y J' ds/\b=(decide (kd=J')&&decide (cs=ds))
theorem EY {K:Qc}{H:Hp}{Q:VK}{x y:V}{b:Bool}(h:EqA K H x y b)(q:Q (.bl b) H):Am K x y H Q:=by
 rcases h with⟨a,c,rfl,rfl,rfl⟩|⟨kd,J',cs,ds,h1,h2,rfl⟩
 .exact .inl (jt q)
 .exact .inr ⟨kd,J',cs,ds,h1,h2,q⟩
theorem LkV.mono {K:Qc}{H H':Hp}{u:V}{kd:Str}{cs:List Lk}(l:Le H H')(h:LkV K H u kd cs):LkV K H' u kd cs:=by
 obtain⟨a,m,xs,e,t,s,p⟩:=h;exact⟨a,m,xs,e,l.tup t,l.lst s,Paired.imp' (λ_ _ ⟨t,e,z⟩=>⟨t,e,l.tup z⟩) p⟩
theorem EqA.mono {K:Qc}{H H':Hp}{x y:V}{b:Bool}(l:Le H H')(h:EqA K H x y b):EqA K H' x y b:=by
 rcases h with h|⟨kd,J',cs,ds,h1,h2,e⟩
 .exact .inl h
 .exact .inr ⟨kd,J',cs,ds,h1.mono l,h2.mono l,e⟩
end
open PySem.AutoSeq1 (wpAny_loadPart')
open PySem.MeetsSeq PySem.MeetsSeq2 PySem.MeetsSeq3
section
variable {P:Program} {w:World}
end
section
variable {X:Cx}
theorem gx {X:Cx}:Fz X "list.extend" qT:=tG
end
structure FnIn (K:Qc) (n:Str) (st:Stmt) (f:Addr):Prop where
 a:PySem.W.nsIn K mainGlobals n=some (some (.ref f))
 F:∃fd,Fun K n n st f fd
theorem FnIn.mk' {K:Qc}{n:Str}{st:Stmt}{f:Addr}{oc:Value}{od an:Option Addr}{My:Array (Option Value)}{kV doc pm d_ ct:Value}(a:PySem.W.nsIn K mainGlobals n=some (some (.ref f)))(l:K.lookup f=some ⟨oc,od,.func (PySem.W.fnOf n n (M4 st) (F5 st) (i7 st) .none kV doc pm an d_ ct),My⟩)
  (c:PySem.W.codeIn K d_ n=true) (k:PySem.W.keepIn K (.ref f)=true):FnIn K n st f:=⟨a,_,Ct l c k⟩
theorem j9 {P:Program}{w:World}{K:Qc}{mg:Str->Option Value}{base h:Heap}{CX:mR}{k:Nat}{n:Str}{st:Stmt}{ps:List Str}{sp:Sp}{f:Addr}(X:K.In h)(G:h.Ns mainGlobals mg)(a:FnIn K n st f)(ok:∀{f fd},Fun K n n st f fd->A1 P w K mg base CX k f fd ps sp)
  (b:∀(kV doc pm:Value) (an:Option Addr) (d_ ct:Value) (us:List Value),us.length=ps.length->bindArgs (PySem.W.fnOf n n (M4 st) (F5 st) (i7 st) .none kV doc pm an d_ ct) ⟨us,[]⟩=pure (ps.zip us)):K3 P w K mg base CX k n ps [] sp:=by
 obtain⟨fd,F⟩:=a.F
 exact⟨f,_,[],ok F,Jy X G a.a,F.kp,F.binds b,.nil⟩
theorem CD {P:Program}{w:World}{K:Qc}{mg:Str->Option Value}{h:Heap}{CX:mR}{k:Nat}{st:Stmt}{p:Str}{sp:Sp}{f fa:Addr}(X:K.In h)(G:h.Ns mainGlobals mg)(Wf:mg "law"=some (.ref fa))(a:FnIn K "law" st f)(ok:∀{base f fd},Fun K "law" "law" st f fd->A1 P w K mg base CX k f fd [p] sp)
  (b:∀(kV doc pm:Value) (an:Option Addr) (d_ ct:Value) (s:Shared) (v:Value),BindsTo s (PySem.W.fnOf "law" "law" (M4 st) (F5 st) (i7 st) .none kV doc pm an d_ ct) ⟨[v],[]⟩ [(p,v)]):
  ∃fd:FuncData,(∀(s:Shared) (v:Value),BindsTo s fd ⟨[v],[]⟩ [(p,v)])/\∀base:Heap,K.In base->base.Ns mainGlobals mg->A1 P w K mg base CX k fa fd [p] sp:=by
 obtain⟨fd,F⟩:=a.F
 have e:=Wf.symm.trans (Jy X G a.a)
 cases e
 obtain⟨oc,od,kV,doc,pm,an,d_,ct,My,rfl,lk,Ni⟩:=id F.ex
 exact⟨_,λs v=>b _ _ _ _ _ _ s v,λbase _ _=>ok F⟩
section
variable {fd:FuncData} {ps:List Str} {us:List Value}
theorem uc {us:List Value}{n:Nat}(h:us.length=n+1):∃a r,us=a::r/\r.length=n:=by
 cases us with
 |nil=>cases h
 |cons a r=>exact⟨a,r,rfl,Nat.succ.inj h⟩
theorem Hh (h:us.length=1)(g:∀a:Value,bindArgs fd ⟨[a],[]⟩=pure (ps.zip [a])):bindArgs fd ⟨us,[]⟩=pure (ps.zip us):=by
 obtain⟨a,us,rfl,h1⟩:=uc h;cases us with
 |nil=>exact g a
 |cons _ _=>cases h1
theorem Hx (h:us.length=2)(g:∀a b:Value,bindArgs fd ⟨[a,b],[]⟩=pure (ps.zip [a,b])):bindArgs fd ⟨us,[]⟩=pure (ps.zip us):=by
 obtain⟨a,us,rfl,h1⟩:=uc h;obtain⟨b,us,rfl,h2⟩:=uc h1;cases us with
 |nil=>exact g a b
 |cons _ _=>cases h2
theorem Hj (h:us.length=3)(g:∀a b c:Value,bindArgs fd ⟨[a,b,c],[]⟩=pure (ps.zip [a,b,c])):bindArgs fd ⟨us,[]⟩=pure (ps.zip us):=by
 obtain⟨a,us,rfl,h1⟩:=uc h;obtain⟨b,us,rfl,h2⟩:=uc h1;obtain⟨c,us,rfl,h3⟩:=uc h2;cases us with
 |nil=>exact g a b c
 |cons _ _=>cases h3
theorem HF (h:us.length=4)(g:∀a b c d:Value,bindArgs fd ⟨[a,b,c,d],[]⟩=pure (ps.zip [a,b,c,d])):bindArgs fd ⟨us,[]⟩=pure (ps.zip us):=by
 obtain⟨a,us,rfl,h1⟩:=uc h;obtain⟨b,us,rfl,h2⟩:=uc h1;obtain⟨c,us,rfl,h3⟩:=uc h2;obtain⟨d,us,rfl,h4⟩:=uc h3;cases us with
 |nil=>exact g a b c d
 |cons _ _=>cases h4
theorem Hl (h:us.length=5)(g:∀a b c d e:Value,bindArgs fd ⟨[a,b,c,d,e],[]⟩=pure (ps.zip [a,b,c,d,e])):bindArgs fd ⟨us,[]⟩=pure (ps.zip us):=by
 obtain⟨a,us,rfl,h1⟩:=uc h;obtain⟨b,us,rfl,h2⟩:=uc h1;obtain⟨c,us,rfl,h3⟩:=uc h2;obtain⟨d,us,rfl,h4⟩:=uc h3;obtain⟨e,us,rfl,h5⟩:=uc h4;cases us with
 |nil=>exact g a b c d e
 |cons _ _=>cases h5
theorem Hf (h:us.length=6)(g:∀a b c d e f:Value,bindArgs fd ⟨[a,b,c,d,e,f],[]⟩=pure (ps.zip [a,b,c,d,e,f])):bindArgs fd ⟨us,[]⟩=pure (ps.zip us):=by
 obtain⟨a,us,rfl,h1⟩:=uc h;obtain⟨b,us,rfl,h2⟩:=uc h1;obtain⟨c,us,rfl,h3⟩:=uc h2;obtain⟨d,us,rfl,h4⟩:=uc h3;obtain⟨e,us,rfl,h5⟩:=uc h4;obtain⟨f,us,rfl,h6⟩:=uc h5;cases us with
 |nil=>exact g a b c d e f
 |cons _ _=>cases h6
end
section
variable {J:It} {th:Hp->Hp} {g:V->St->Hp->(St->Hp->Prop)->Prop} {tb:TS} {nx:St->Hp->Prop} {rt:V->Hp->Prop} {σ:St} {H:Hp} {n:Nat}
end
def wD (K:Qc)(T:Addr)(tb:(St->XK)->TS)(ts:TS):TS:=λD σ H=>
 tb (λσ' c oa H'=>∃C a,c= .ref C/\oa=some a/\PySem.W.subIn K (.ref C) (.ref T)=some true/\ts D σ' (p0 H' a (.ext (bE a C)))) D σ H
theorem vk {K:Qc}{T:Addr}{tb:(St->XK)->TS}{ts:TS}{D:nZ}{σ:St}{H:Hp}(q:tb (λσ' c oa H'=>∃C a,c= .ref C/\oa=some a/\PySem.W.subIn K (.ref C) (.ref T)=some true/\ts D σ' (p0 H' a (.ext (bE a C)))) D σ H):wD K T tb ts D σ H:=q
section
variable {X:Cx} {x:Str} {T:Addr} {np Pe pos:Pos} {b₀:Stmt} {body suite:List Stmt} {tb:(St->XK)->TS} {ts:TS}
theorem yo (O:GL X.K X.mg x T)(hb:∀pins Es,PSs (X.tried pins Es) body (tb Es))(hs:∀e,PSs (X.suite e) (b₀::suite) ts)
  (OU:X.stack=X.env::X.outer) (Oc:X.env.frame=some X.env.locals) (hex:X.ex=[]) (hg:Gl X x:=by rfl) (r_:(x==("__debug__":Str))=false:=by decide):
  PS X (.Try body [.ExceptHandler (some (.Name x np)) none (b₀::suite) Pe] [] [] pos) (wD X.K T tb ts):=by
 intro pins s σ H D I hw
 refine wpAny_Try_except (LH (hb pins _ [] s σ H D I.toTried hw) (λf s1 q=>?_) λe s1 q=>?_)
 .cases f with
  |next=>obtain⟨σ',H',I',q'⟩:=q;exact KU ⟨σ',H',I'.ofTried,q'⟩
  |brk=>obtain⟨σ',H',I',q'⟩:=q;exact⟨σ',H',I'.ofTried,q'⟩
  |cont=>obtain⟨σ',H',I',q'⟩:=q;exact⟨σ',H',I'.ofTried,q'⟩
  |ret u=>obtain⟨v,σ',H',I',r',q'⟩:=q;exact⟨v,σ',H',I'.ofTried,r',q'⟩
 .obtain⟨i_,σ',H1,s2,I2',a,C',a0,B,H',rfl,F,C,a',ec,ea,MQ,MN⟩:=q
  cases ec
  cases ea
  have I2:=I2'.ofPinned
  have J_:=F.fl
  rw[OU] at J_
  refine wpAny_looks_onW (by rw[I.ok.frames,OU]) Oc J_ λh4 held4 sm4=>?_
  refine wpAny_landsW held4 λh5 hfl5 sm5=>?_
  have I5:Inv X pins σ' H' {s1 with heap:=h5}:=F.land I2 hfl5.1 (sm4.trans sm5) s1.toks
  have UU:bE a C' h5:=by
   obtain⟨oe,vs,z1,z2,z3,_⟩:=hfl5.first;exact⟨oe,vs,z1,z2,z3⟩
  refine wpAny_handleBy_cons (codeAny_handlers_test ?_) (by intro q;cases q)
  refine dz (X:=X.suite a) (I5.toSuite (e:=a)) hg O.bound ?_ r_
  refine oG I5.kIn UU O.ty O.exc O.cls MQ ?_
  refine codeAny_handlers_suite ?_
  refine lands_againW hfl5 λh6 hfl6 sm6=>?_
  have I6:Inv X pins σ' H' {s1 with heap:=h6}:=F.land I2 hfl6.1 ((sm4.trans sm5).trans sm6) s1.toks
  have Ze:bE a C' h6:=by
   obtain⟨oe,vs,z1,z2,z3,_⟩:=hfl6.first;exact⟨oe,vs,z1,z2,z3⟩
  have nB:B.get? a=none:=hfl6.2.1
  have nfr:a∉Z3 X.stack:=λhb=>by
   obtain⟨oe,vs,z1,z2,z3⟩:=Ze;rw[OU] at hb;exact F8 hfl6.2.2.1 hb z1 vs z3
  have n2:s2.heap.get? a=none:=by
   cases z:s2.heap.get? a with
   |none=>rfl
   |some o=>
    obtain⟨o',z'⟩:=F.th a o z nfr
    rw[nB] at z';cases z'
  have n0:X.s₀.heap.get? a=none:=by
   cases z:X.s₀.heap.get? a with
   |none=>rfl
   |some o=>
    obtain⟨o',z'⟩:=I2.base.there a o z (by rw[hex];simp)
    rw[n2] at z';cases z'
  have I7:=(I6.track F.nw Ze n0 λp hp q=>by
   have z:=(I2.pin p hp).1;rw[q,n2] at z;cases z).toSuite (e:=a)
  refine LH (hs a pins _ _ _ _ I7 MN) (λf s9 q=>?_) λ_ _ z=>z.elim
  cases f with
  |next=>obtain⟨σ9,H9,I9,q9⟩:=q;exact⟨_,_,I9.ofSuite I.ok,q9⟩
  |brk=>obtain⟨σ9,H9,I9,q9⟩:=q;exact⟨_,_,I9.ofSuite I.ok,q9⟩
  |cont=>obtain⟨σ9,H9,I9,q9⟩:=q;exact⟨_,_,I9.ofSuite I.ok,q9⟩
  |ret u=>obtain⟨v9,σ9,H9,I9,r9,q9⟩:=q;exact⟨_,_,_,I9.ofSuite I.ok,r9,q9⟩
theorem Ak (O:GL X.K X.mg x T)(hb:∀pins Es,QSs (X.tried pins Es) body (tb Es))(hs:∀e,QSs (X.suite e) (b₀::suite) ts)
  (OU:X.stack=X.env::X.outer:=by rfl) (Oc:X.env.frame=some X.env.locals:=by rfl) (hex:X.ex=[]:=by rfl) (hg:Gl X x:=by rfl) (r_:(x==("__debug__":Str))=false:=by decide):
  QS X (.Try body [.ExceptHandler (some (.Name x np)) none (b₀::suite) Pe] [] [] pos) (wD X.K T tb ts):=⟨yo O (λp E=>(hb p E).r) (λe=>(hs e).r) OU Oc hex hg r_⟩
end
section
variable {X:Cx} {e:Expr} {te:TE} {pos p2 p3 p4:Pos} {j:Nat}
end
section
variable {X:Cx} {pins:List (Addr×Obj)} {σ:St} {H:Hp} {s:Shared} {h':Heap}
end
section
variable {X:Cx}
end
section
variable {K:Qc} {H:Hp} {Q:VK}
end
def Ai:R2:=λx y H Q=>rE x y H Q\/rI IntMulOk (λi j=> .int (i*j)) x y H Q
theorem yZ {X:Cx}:OpR X (binaryOp .Mult) Ai:=op_mulY.or (En λ_ _ _ _ _ _ _ hc q=>mul_int q hc)
theorem qG {i:Int}{n:Nat}(h:i.natAbs<2 ^ n):Builtin.Int.intBits i<=n:=by
 unfold Builtin.Int.intBits;split
 .exact Jv _
 .rename_i hz
  have hp:i.natAbs≠0:=λe=>hz (by rw[Int.natAbs_eq_zero.mp e];rfl);exact(Nat.log2_lt hp).mpr h
theorem yB {i j:Int}(h1:i.natAbs<2 ^ 1000)(h2:j.natAbs<2 ^ 1000):IntMulOk i j:=by
 have e1:=qG h1;have e2:=qG h2;unfold IntMulOk;have e3:Builtin.Int.intTooBig (Builtin.Int.intBits i+Builtin.Int.intBits j:Nat)=false:=by
  unfold Builtin.Int.intTooBig;refine Iv (Int.not_lt.mpr ?_);have h:((2000:Nat):Int)<=bitsLine:=by decide
  exact Int.le_trans (Int.ofNat_le.mpr (by lia)) h
 intro h;rw[Io] at h;have h2:=h.2;first
 |(rw[e3] at h2;cases h2)
 |(rw[show((Builtin.Int.intBits i:Int)+(Builtin.Int.intBits j:Int))=((Builtin.Int.intBits i+Builtin.Int.intBits j:Nat):Int) by simp,e3] at h2;cases h2)
theorem BA {i j:Int}{H:Hp}{Q:VK}(h:IntMulOk i j)(q:Q (.int (i*j)) H):Ai (.int i) (.int j) H Q:= .inr ⟨i,j,rfl,rfl,h,q⟩
end L2
set_option maxHeartbeats 1000000
namespace K63
open PySem PySem.Spec PyProof.Rows L2
def Q2 (i:Nat):Stmt:=PySem.Challenge.pw_gluework_k63_choices.main.body.getD i (.Pass ⟨0,0,0,0⟩)
abbrev ae:Stmt:=Q2 10
theorem sc_is_text_of:j5 ["thing","signs","most"] ["thing","signs","most"] (i7 ae):=⟨rfl,rfl,rfl,by decide+kernel,rfl,by decide+kernel,by decide+kernel⟩
abbrev fw:Stmt:=Q2 11
theorem sc_is_name:j5 ["thing"] ["thing"] (i7 fw):=⟨rfl,rfl,rfl,by decide+kernel,rfl,by decide+kernel,by decide+kernel⟩
abbrev df:Stmt:=Q2 12
theorem sc_in_order:j5 ["named"] ["named"] (i7 df):=⟨rfl,rfl,rfl,by decide+kernel,rfl,by decide+kernel,by decide+kernel⟩
abbrev gZ:Stmt:=Q2 13
theorem sc_copied:j5 ["web"] ["web"] (i7 gZ):=⟨rfl,rfl,rfl,by decide+kernel,rfl,by decide+kernel,by decide+kernel⟩
abbrev jl:Stmt:=Q2 14
theorem sc_things:j5 ["web"] ["web"] (i7 jl):=⟨rfl,rfl,rfl,by decide+kernel,rfl,by decide+kernel,by decide+kernel⟩
abbrev fH:Stmt:=Q2 15
theorem sc_without:j5 ["web","names","points","ties","name"] ["web","names"] (i7 fH):=⟨rfl,rfl,rfl,by decide+kernel,rfl,by decide+kernel,by decide+kernel⟩
abbrev ig:Stmt:=Q2 16
theorem sc_united:j5 ["web","more","points","ties"] ["web","more"] (i7 ig):=⟨rfl,rfl,rfl,by decide+kernel,rfl,by decide+kernel,by decide+kernel⟩
abbrev X7:Stmt:=Q2 17
theorem sc_tie_renamed:j5 ["tie","names"] ["tie","names"] (i7 X7):=⟨rfl,rfl,rfl,by decide+kernel,rfl,by decide+kernel,by decide+kernel⟩
abbrev eV:Stmt:=Q2 18
theorem sc_renamed:j5 ["web","names","points","ties"] ["web","names"] (i7 eV):=⟨rfl,rfl,rfl,by decide+kernel,rfl,by decide+kernel,by decide+kernel⟩
abbrev dm:Stmt:=Q2 20
theorem sc_is_match:j5 ["piece","web","match","names"] ["piece","web","match"] (i7 dm):=⟨rfl,rfl,rfl,by decide+kernel,rfl,by decide+kernel,by decide+kernel⟩
abbrev pC:Stmt:=Q2 21
theorem sc_line:j5 ["piece","match"] ["piece","match"] (i7 pC):=⟨rfl,rfl,rfl,by decide+kernel,rfl,by decide+kernel,by decide+kernel⟩
abbrev S0:Stmt:=Q2 22
theorem sc_matches:j5 ["piece","web","fixed"] ["piece","web","fixed"] (i7 S0):=⟨rfl,rfl,rfl,by decide+kernel,rfl,by decide+kernel,by decide+kernel⟩
abbrev X6:Stmt:=Q2 23
theorem sc_first_match:j5 ["piece","web","fixed"] ["piece","web","fixed"] (i7 X6):=⟨rfl,rfl,rfl,by decide+kernel,rfl,by decide+kernel,by decide+kernel⟩
abbrev Y2:Stmt:=Q2 24
theorem sc_first_found:j5 ["piece","web","piece_looks","web_looks","fixed","told"] ["piece","web","piece_looks","web_looks","fixed"] (i7 Y2):=⟨rfl,rfl,rfl,by decide+kernel,rfl,by decide+kernel,by decide+kernel⟩
abbrev lJ:Stmt:=Q2 25
theorem sc_found:j5 ["piece","web","piece_looks","web_looks","fixed","most","told","choices","places","names"] ["piece","web","piece_looks","web_looks","fixed","most"] (i7 lJ):=⟨rfl,rfl,rfl,by decide+kernel,rfl,by decide+kernel,by decide+kernel⟩
abbrev ie:Stmt:=Q2 26
theorem sc_may_be:j5 ["name","image","fixed"] ["name","image","fixed"] (i7 ie):=⟨rfl,rfl,rfl,by decide+kernel,rfl,by decide+kernel,by decide+kernel⟩
abbrev Q8:Stmt:=Q2 27
theorem sc_point_choices:j5 ["piece_looks","web_looks","fixed","choices","name","look","alike"] ["piece_looks","web_looks","fixed"] (i7 Q8):=⟨rfl,rfl,rfl,by decide+kernel,rfl,by decide+kernel,by decide+kernel⟩
abbrev aG:Stmt:=Q2 28
theorem sc_tie_places:j5 ["piece","web","fixed","places","name","tie","there","image","other"] ["piece","web","fixed"] (i7 aG):=⟨rfl,rfl,rfl,by decide+kernel,rfl,by decide+kernel,by decide+kernel⟩
abbrev iG:Stmt:=Q2 29
theorem sc_enough:j5 ["lists"] ["lists"] (i7 iG):=⟨rfl,rfl,rfl,by decide+kernel,rfl,by decide+kernel,by decide+kernel⟩
abbrev mF:Stmt:=Q2 30
theorem sc_lines:j5 ["piece","choices","places","most","names","told","waiting","begun","image"] ["piece","choices","places","most"] (i7 mF):=⟨rfl,rfl,rfl,by decide+kernel,rfl,by decide+kernel,by decide+kernel⟩
abbrev jq:Stmt:=Q2 31
theorem sc_images:j5 ["piece","choices","places","begun","names","name","put","unlike"] ["piece","choices","places","begun"] (i7 jq):=⟨rfl,rfl,rfl,by decide+kernel,rfl,by decide+kernel,by decide+kernel⟩
abbrev Y3:Stmt:=Q2 32
theorem sc_tie_choices:j5 ["piece","places","put","name","ends"] ["piece","places","put","name"] (i7 Y3):=⟨rfl,rfl,rfl,by decide+kernel,rfl,by decide+kernel,by decide+kernel⟩
abbrev cT:Stmt:=Q2 33
theorem sc_has_room:j5 ["piece","places","put","name","image","longer","due"] ["piece","places","put","name","image"] (i7 cT):=⟨rfl,rfl,rfl,by decide+kernel,rfl,by decide+kernel,by decide+kernel⟩
abbrev oV:Stmt:=Q2 35
theorem sc_both:j5 ["web","other"] ["web","other"] (i7 oV):=⟨rfl,rfl,rfl,by decide+kernel,rfl,by decide+kernel,by decide+kernel⟩
abbrev lg:Stmt:=Q2 36
theorem sc_alone:j5 ["web","other"] ["web","other"] (i7 lg):=⟨rfl,rfl,rfl,by decide+kernel,rfl,by decide+kernel,by decide+kernel⟩
abbrev pq:Stmt:=Q2 37
theorem sc_kept:j5 ["rule"] ["rule"] (i7 pq):=⟨rfl,rfl,rfl,by decide+kernel,rfl,by decide+kernel,by decide+kernel⟩
abbrev kR:Stmt:=Q2 38
theorem sc_taken:j5 ["rule"] ["rule"] (i7 kR):=⟨rfl,rfl,rfl,by decide+kernel,rfl,by decide+kernel,by decide+kernel⟩
abbrev du:Stmt:=Q2 39
theorem sc_fresh_of:j5 ["rule"] ["rule"] (i7 du):=⟨rfl,rfl,rfl,by decide+kernel,rfl,by decide+kernel,by decide+kernel⟩
abbrev ij:Stmt:=Q2 41
theorem sc_picked:j5 ["put","names"] ["put","names"] (i7 ij):=⟨rfl,rfl,rfl,by decide+kernel,rfl,by decide+kernel,by decide+kernel⟩
abbrev jk:Stmt:=Q2 42
theorem sc_barred:j5 ["web","rule","match","number","bar","told"] ["web","rule","match"] (i7 jk):=⟨rfl,rfl,rfl,by decide+kernel,rfl,by decide+kernel,by decide+kernel⟩
abbrev bA:Stmt:=Q2 43
theorem sc_taken_out:j5 ["step"] ["step"] (i7 bA):=⟨rfl,rfl,rfl,by decide+kernel,rfl,by decide+kernel,by decide+kernel⟩
abbrev Y0:Stmt:=Q2 44
theorem sc_names_serve:j5 ["web","rule","fresh","names"] ["web","rule","fresh"] (i7 Y0):=⟨rfl,rfl,rfl,by decide+kernel,rfl,by decide+kernel,by decide+kernel⟩
abbrev fK:Stmt:=Q2 45
theorem sc_rest_of:j5 ["web","step","rule","rest"] ["web","step"] (i7 fK):=⟨rfl,rfl,rfl,by decide+kernel,rfl,by decide+kernel,by decide+kernel⟩
abbrev pT:Stmt:=Q2 46
theorem sc_done:j5 ["web","step","rule","rest"] ["web","step"] (i7 pT):=⟨rfl,rfl,rfl,by decide+kernel,rfl,by decide+kernel,by decide+kernel⟩
abbrev je:Stmt:=Q2 47
theorem sc_behind:j5 ["step","rule","put"] ["step"] (i7 je):=⟨rfl,rfl,rfl,by decide+kernel,rfl,by decide+kernel,by decide+kernel⟩
abbrev X9:Stmt:=Q2 49
theorem sc_can_be_done:j5 ["web","rule","match"] ["web","rule","match"] (i7 X9):=⟨rfl,rfl,rfl,by decide+kernel,rfl,by decide+kernel,by decide+kernel⟩
abbrev fF:Stmt:=Q2 50
theorem sc_choices:j5 ["web","rules","told","number","rule"] ["web","rules"] (i7 fF):=⟨rfl,rfl,rfl,by decide+kernel,rfl,by decide+kernel,by decide+kernel⟩
abbrev av:Stmt:=Q2 52
theorem sc__law_cells:j5 ["_law_script","_law_start","_law_many"] ["_law_script","_law_start","_law_many"] (i7 av):=⟨rfl,rfl,rfl,by decide+kernel,rfl,by decide+kernel,by decide+kernel⟩
abbrev T6:Stmt:=Q2 53
theorem sc__law_cell_at:j5 ["_law_script","_law_k"] ["_law_script","_law_k"] (i7 T6):=⟨rfl,rfl,rfl,by decide+kernel,rfl,by decide+kernel,by decide+kernel⟩
abbrev aI:Stmt:=Q2 54
theorem sc__law_kinds:j5 ["_law_cell","_law_letters","_law_size","_law_at","_law_kinds_here","_law_k","_law_kind","_law_j"] ["_law_cell"] (i7 aI):=⟨rfl,rfl,rfl,by decide+kernel,rfl,by decide+kernel,by decide+kernel⟩
abbrev Z9:Stmt:=Q2 55
theorem sc__law_names:j5 ["_law_cell","_law_many","_law_letters","_law_size","_law_at","_law_signs","_law_names_here","_law_k","_law_name","_law_j"] ["_law_cell","_law_many"] (i7 Z9):=⟨rfl,rfl,rfl,by decide+kernel,rfl,by decide+kernel,by decide+kernel⟩
abbrev az:Stmt:=Q2 56
theorem sc__law_words:j5 ["_law_cell","_law_many","_law_letters","_law_size","_law_at","_law_words_here","_law_k","_law_word","_law_j","_law_step"] ["_law_cell","_law_many"] (i7 az):=⟨rfl,rfl,rfl,by decide+kernel,rfl,by decide+kernel,by decide+kernel⟩
abbrev W5:Stmt:=Q2 57
theorem sc__law_digits:j5 ["_law_cell","_law_many","_law_number","_law_digits_here","_law_k"] ["_law_cell","_law_many"] (i7 W5):=⟨rfl,rfl,rfl,by decide+kernel,rfl,by decide+kernel,by decide+kernel⟩
abbrev dq:Stmt:=Q2 58
theorem sc__law_web:j5 ["_law_cells_here","_law_names_here","_law_kinds_here","_law_points","_law_ties","_law_k","_law_cell","_law_ends","_law_start"] ["_law_cells_here","_law_names_here","_law_kinds_here"] (i7 dq):=⟨rfl,rfl,rfl,by decide+kernel,rfl,by decide+kernel,by decide+kernel⟩
abbrev T7:Stmt:=Q2 59
theorem sc__law_planted:j5 ["_law_web_here","_law_piece","_law_names_here","_law_put","_law_name","_law_new","_law_points","_law_ties","_law_tie"] ["_law_web_here","_law_piece","_law_names_here"] (i7 T7):=⟨rfl,rfl,rfl,by decide+kernel,rfl,by decide+kernel,by decide+kernel⟩
abbrev aZ:Stmt:=Q2 60
theorem sc__law_left:j5 ["_law_digits_here","_law_words_here","_law_kinds_here","_law_points","_law_ties","_law_many","_law_k","_law_start","_law_end"] ["_law_digits_here","_law_words_here","_law_kinds_here"] (i7 aZ):=⟨rfl,rfl,rfl,by decide+kernel,rfl,by decide+kernel,by decide+kernel⟩
abbrev aK:Stmt:=Q2 61
theorem sc__law_right:j5 ["_law_left_here","_law_digits_here","_law_words_here","_law_kinds_here","_law_points","_law_ties","_law_k","_law_name","_law_tie","_law_ends","_law_start"] ["_law_left_here","_law_digits_here","_law_words_here","_law_kinds_here"] (i7 aK):=⟨rfl,rfl,rfl,by decide+kernel,rfl,by decide+kernel,by decide+kernel⟩
abbrev aV:Stmt:=Q2 62
theorem sc__law_rule:j5 ["_law_cell","_law_words_here","_law_kinds_here","_law_digits_here","_law_left_here","_law_bars","_law_points","_law_ties","_law_ends","_law_more","_law_lines"] ["_law_cell","_law_words_here","_law_kinds_here"] (i7 aV):=⟨rfl,rfl,rfl,by decide+kernel,rfl,by decide+kernel,by decide+kernel⟩
abbrev X1:Stmt:=Q2 63
theorem sc__law_copied:j5 ["_law_web_here"] ["_law_web_here"] (i7 X1):=⟨rfl,rfl,rfl,by decide+kernel,rfl,by decide+kernel,by decide+kernel⟩
abbrev dg:Stmt:=Q2 64
theorem sc__law_can:j5 ["_law_web_here","_law_rule_here","_law_match","_law_fresh","_law_name","_law_found"] ["_law_web_here","_law_rule_here","_law_match"] (i7 dg):=⟨rfl,rfl,rfl,by decide+kernel,rfl,by decide+kernel,by decide+kernel⟩
abbrev O4:Stmt:=Q2 65
theorem sc__law_all_rules:j5 ["_law_cells_here","_law_words_here","_law_kinds_here","_law_rules"] ["_law_cells_here","_law_words_here","_law_kinds_here"] (i7 O4):=⟨rfl,rfl,rfl,by decide+kernel,rfl,by decide+kernel,by decide+kernel⟩
abbrev yc:Stmt:=Q2 66
theorem sc_law:j5 ["_law_script","_law_cells_here","_law_kinds_here","_law_words_here","_law_rules","_law_names_here","_law_web_here","_law_due","_law_number","_law_match","_law_copies","_law_handed","_law_found"] ["_law_script"] (i7 yc):=⟨rfl,rfl,rfl,by decide+kernel,rfl,by decide+kernel,by decide+kernel⟩
abbrev aP:Str:="abcdefghijklmnopqrstuvwxyz"
abbrev eI:Str:="abcdefghijklmnopqrstuvwxyz0123456789."
structure Txt (K:Qc) (mg:Str->Option Value):Prop where
 r_Barred:ExC K mg "Barred" (cA K "Barred")
 r_Loose:ExC K mg "Loose" (cA K "Loose")
 r_NoMatch:ExC K mg "NoMatch" (cA K "NoMatch")
 r_NoNames:ExC K mg "NoNames" (cA K "NoNames")
 t_GlueError:GL K mg "GlueError" (cA K "GlueError")
 s_Barred_GlueError:PySem.W.subIn K (.ref (cA K "Barred")) (.ref (cA K "GlueError"))=some true
 s_Loose_GlueError:PySem.W.subIn K (.ref (cA K "Loose")) (.ref (cA K "GlueError"))=some true
 s_NoMatch_GlueError:PySem.W.subIn K (.ref (cA K "NoMatch")) (.ref (cA K "GlueError"))=some true
 s_NoNames_GlueError:PySem.W.subIn K (.ref (cA K "NoNames")) (.ref (cA K "GlueError"))=some true
 b_all:mg "all"=none
 b_any:mg "any"=none
 b_bool:mg "bool"=none
 b_dict:mg "dict"=none
 b_enumerate:mg "enumerate"=none
 b_int:mg "int"=none
 b_isinstance:mg "isinstance"=none
 b_len:mg "len"=none
 b_list:mg "list"=none
 b_max:mg "max"=none
 b_min:mg "min"=none
 b_range:mg "range"=none
 b_reversed:mg "reversed"=none
 b_set:mg "set"=none
 b_sorted:mg "sorted"=none
 b_str:mg "str"=none
 b_zip:mg "zip"=none
 c_MOST_NAME_SIGNS:Ff mg "MOST_NAME_SIGNS" (.int 24)
 c_NAME_SIGNS:Ff mg "NAME_SIGNS" (.str eI)
 c_SMALL_LETTERS:Ff mg "SMALL_LETTERS" (.str aP)
abbrev kSL:Str:="abcdefghijklmnopqrstuvwxyz"
abbrev kNS:Str:="abcdefghijklmnopqrstuvwxyz0123456789."
def dN (x signs:Str):Bool:=x.cps.toList.all λc=>decide (c∈signs.cps.toList)
def K5 (x signs:Str)(most:Int):Bool:=decide (1<=(x.length:Int))&&decide ((x.length:Int)<=most)&&dN x signs
def FC (x signs:Str):Bool:=decide (x.cps.toList.headD 0∈signs.cps.toList)
def Q9 (x:Str):Bool:=K5 x kNS 24&&FC x kSL
def Z0 (x:Str):Bool:=K5 x kSL 8
def EM (K:Qc)(H:Hp)(v:V):Prop:=∃t,TyB K H v t/\t≠"str"
def Ap (K:Qc)(f:Str->Bool)(v:V)(H:Hp)(Q:VK):Prop:=
 (∃x,v= .str x/\x.length<=1000/\∀H',Same H H'->Q (.bl (f x)) H')\/(EM K H v/\∀H',Same H H'->Q (.bl false) H')
def cO (K:Qc):Sp:=λvs H Q _=>∃v signs most,vs=[v,.str signs,.int most]/\Ap K (λx=>K5 x signs most) v H Q
def iJ (K:Qc):Sp:=λvs H Q _=>∃v,vs=[v]/\Ap K Q9 v H Q
def yE (H:Hp)(Q:VK)(P:List Str->Prop):Prop:=∀(p:Addr) (H':Hp) (ss:List Str),H p=none->Same H H'->H' p=some (.lst (ss.map V.str))->P ss->Q (.ref p) H'
def h9 (W:A6):List Str:=W.pts.map (·.1)++W.ts.map (·.1)
structure WebIs (n:Nat) (K:Qc) (H:Hp) (a p q:Addr) (kvs:List (j3×V)) (W:A6):Prop where
 at_:WebAt K H a p q kvs W
 hp:H p=some (.dK (j4 W.pts))
 hq:H q=some (.dK kvs)
 ne:p≠q
 nd:(h9 W).Nodup
 len:(h9 W).length<=n
 ends:∀x∈W.ts,x.2.2.1∈W.pts.map (·.1)/\x.2.2.2∈W.pts.map (·.1)
 nl:∀x∈h9 W,x.length<=100
theorem WebIs.same {n:Nat}{K:Qc}{H H':Hp}{a p q:Addr}{kvs:List (j3×V)}{W:A6}(h:WebIs n K H a p q kvs W)(s:Same H H'):WebIs n K H' a p q kvs W:=⟨h.at_.mono s.le,s _ _ h.hp,s _ _ h.hq,h.ne,h.nd,h.len,h.ends,h.nl⟩
local macro_rules| `(tactic|walk_at "b")=> `(tactic|(intro _ _ _ _ _ _ us hl;first|exact bn0 hl rfl|exact Hh hl λ_=>rfl|exact Hx hl λ_ _=>rfl|exact Hj hl λ_ _ _=>rfl|exact HF hl λ_ _ _ _=>rfl|exact Hl hl λ_ _ _ _ _=>rfl|exact Hf hl λ_ _ _ _ _ _=>rfl))
local macro_rules| `(tactic|walk_at "E")=> `(tactic|first
 |(with_reducible (first|refine r_par ?_|refine yk ?_|refine Gm ?_|refine zB ?_|refine EG ?_|refine AI ?_|refine Hq ?_|refine GK ?_|refine Ds ?_|refine DO ?_|refine AY ?_|refine BB ?_|refine De ?_|refine CC ?_|refine Gn ?_|refine zc ?_|refine tq ?_|refine Dd ?_|refine FX ?_|refine Br ?_|refine Dz ?_|refine EV ?_|refine BU ?_|refine GN ?_|refine ED ?_|refine Eu ?_|refine Eh ?_|refine Gw ?_|refine Bx ?_|refine Dr ?_|refine Cg ?_|refine Gb ?_|refine DA ?_|refine Bc ?_|refine Ck ?_|refine FY ?_|refine Gk ?_|refine uX ?_|refine AE ?_|refine DW ?_|refine r_chain ?_|refine sS ?_|refine Gi ?_|refine xB ?_|refine r_lt_str ?_|refine nP ?_|refine r_eq_bl ?_|refine ox ?_|refine wH ?_|refine r_notIn_sgn ?_|refine r_is ?_|refine xk ?_|refine w_eq_bl ?_|refine jt ?_|refine mV ?_|refine nU ?_|refine w_ne_bl ?_|refine w_ne_str ?_|refine oE ?_|refine n_ne_bl ?_|refine n_ne_str ?_|refine Ex ?_|refine yP ?_|refine Cn ?_|refine r_enum ?_|refine Ez ?_|refine yU ?_|refine CJ ?_|refine FR ?_|refine DV ?_|refine Gq ?_|refine DL ?_|refine Dp ?_|refine uR ?_|refine DQ ?_|refine Fe ?_|refine Ga ?_|refine FJ ?_|refine Fg ?_|refine ET ?_))
 |((with_reducible refine' DX ?h ?_);(case h=>rfl))
 |with_reducible refine Cq _ ?_
 |((with_reducible refine' sW ?c ?_);(case c=>(unfold CMul;lia)))
 |((with_reducible refine' GX ?c ?_);(case c=>(first|lia|(dsimp only<;>lia)|(unfold CMul;lia)|(unfold Dc;lia)|(unfold CY;decide)|exact Int.pow_pos (by decide)))))
local macro_rules| `(tactic|walk_at "R")=> `(tactic|first|with_reducible refine M8 ?_|with_reducible refine r_try ?_|walk_at "E")
local macro_rules| `(tactic|walk_at "r")=> `(tactic|repeat walk_at "R")
local macro_rules| `(tactic|walk_at "e")=> `(tactic|repeat walk_at "E")
local macro_rules| `(tactic|walk_at "l")=> `(tactic|first|exact Or.inl rfl|exact Or.inr rfl)
section
variable {P:Program} {w:World} {K:Qc} {mg:Str->Option Value} {base:Heap}
def aT (i:Int):Nat:=("abcdefghijklmnopqrstuvwxyz":Str).cps.toList.getD i.toNat 0
theorem qo (i:Int)(h0:0<=i)(h1:i<26):jB ("abcdefghijklmnopqrstuvwxyz":Str).cps.toList i=some (aT i):=by
 have hl:("abcdefghijklmnopqrstuvwxyz":Str).cps.toList.length=26:=by decide+kernel
 obtain⟨v,hv,MX⟩:=fg (xs:=("abcdefghijklmnopqrstuvwxyz":Str).cps.toList) h0 (by rw[hl];exact h1);rw[hv];unfold aT;rw[IG,MX];rfl
theorem wO:∀i j:Nat,i<26->j<26->aT i=aT j->i=j:=by
 have h:∀i,i<26->∀j,j<26->aT (i:Nat)=aT (j:Nat)->i=j:=by decide+kernel
 exact λi j hi hj=>h i hi j hj
theorem ji {f:Nat->Str}:∀{n:Nat},(∀i j,i<n->j<n->f i=f j->i=j)->((List.range n).map f).Nodup
 |0,_=>JG
 |n+1,h=>by
  rw[JZ,HL];refine R3 (ji λi j hi hj=>h i j (by lia) (by lia)) λm=>?_;obtain⟨i,hi,e⟩:=HP.mp m;have Sj:=KG.mp hi;have z:=h i n (by lia) (by lia) e;lia
theorem fL:("abcdefghijklmnopqrstuvwxyz":Str).length<=sizeLine:=by decide+kernel
theorem eO (ss:List Str):(ss.map V.str).all D6=true:=by
 rw[JK,IH];intro _ _;rfl
theorem CQ {kvs:List (j3×V)}{k:j3}{v:V}(h:(kvs.map (·.1)).Nodup):((D0 kvs k v).map (·.1)).Nodup:=by
 cases e:p9 kvs k with
 |none=>exact yz v h e
 |some x=>
  unfold D0
  rw[if_pos (by rw[I0,e];rfl),Iy]
  have e2:((λkv:j3×V=>kv.1)∘λkv=>if kv.1=k then(kv.1,v) else kv)=λkv=>kv.1:=by
   funext kv;show(if kv.1=k then(kv.1,v) else kv).1=kv.1;split<;>rfl
  rw[e2];exact h
theorem Z8 {K:Qc}{H:Hp}{d:Addr}{k1 k2 kv:_}{x:Str×F0}(h:H d=some (.dK k1))(t:TieAt K H kv x):TieAt K (p0 H d (.dK k2)) kv x:=by
 obtain⟨e,a,ea,s⟩:=t;refine⟨e,a,ea,?_⟩;rcases s with s|s
 .refine .inl ?_;by_cases z:a=d
  .subst z;rcases s with s|⟨_,s⟩<;>(rw[h] at s;cases s)
  .unfold Rd;rw[b7 z];exact s
 .exact .inr s
theorem A3 {H H1:Hp}{d:Addr}{o:HO}(s:Same H H1)(h:H d=none):Same H (p0 H1 d o):=λb u e=>by
 rw[b7 (i8 e h)];exact s _ _ e
theorem A9 {ss:List Str}{i:Int}(h0:0<=i)(h1:i<ss.length):∃x,jB (ss.map V.str) i=some (.str x)/\x∈ss:=by
 obtain⟨v,hv,MX⟩:=fg (xs:=ss.map V.str) h0 (by rw[HI];exact h1);rw[HK] at MX;obtain⟨x,hx,e⟩:=IL.mp MX;exact⟨x,by rw[hv,e],HX hx⟩
theorem r6 {α:Type}(l:List (Str×α)):(l.map (·.1)).map (Sum.inr:Str->j3)=l.map λx=>Sum.inr x.1:=by rw[Iy];rfl
theorem K7 {l:List Str}{n:Str}(h:(Sum.inr n:j3)∈l.map (Sum.inr:Str->j3)):n∈l:=by
 obtain⟨x,hx,e⟩:=HP.mp h;rw[←Jx e];exact hx
theorem D5 {kvs:List (j3×V)}{k:j3}(h:k∉kvs.map (·.1)):p9 kvs k=none:=by
 cases e:p9 kvs k with
 |none=>rfl
 |some v=>exact absurd (rQ e) h
theorem vF {a:List (Str×Str)}{b:List (Str×F0)}{n:Str}{t:F0}(h:(a.map (·.1)++b.map (·.1)).Nodup)(f:n∉a.map (·.1)++b.map (·.1)):(a.map (·.1)++(b++[(n,t)]).map (·.1)).Nodup:=by
 rw[HL,←IF];exact R3 h f
theorem vz {a:List (Str×Str)}{b:List (Str×F0)}{n s:Str}(h:(a.map (·.1)++b.map (·.1)).Nodup)(f:n∉a.map (·.1)++b.map (·.1)):((a++[(n,s)]).map (·.1)++b.map (·.1)).Nodup:=by
 have z:=R3 h f;refine(List.Perm.nodup_iff ?_).mpr z;rw[HL,IF,IF];exact Lz _ Kz
theorem sh {a:List (Str×Str)}{b:List (Str×F0)}{n:Str}{t:F0}{l:List Str}(h:∀x∈a.map (·.1)++b.map (·.1),x∈l)(f:n∈l):∀x∈a.map (·.1)++(b++[(n,t)]).map (·.1),x∈l:=by
 intro x hx;rw[HL,←IF] at hx;rcases Ic.mp hx with h'|h'
 .exact h x h'
 .have:x=n:=by simpa using h'
  rw[this];exact f
theorem si {a:List (Str×Str)}{b:List (Str×F0)}{n s:Str}{l:List Str}(h:∀x∈a.map (·.1)++b.map (·.1),x∈l)(f:n∈l):∀x∈(a++[(n,s)]).map (·.1)++b.map (·.1),x∈l:=by
 intro x hx;rw[HL,IF] at hx;rcases Ic.mp hx with h'|h'
 .exact h x (HU _ h')
 .rcases Ic.mp h' with h2|h2
  .have:x=n:=by simpa using h2
   rw[this];exact f
  .exact h x (Ia _ h2)
theorem p7 {α β:Type}{F:α->β->Prop}:∀{l:List α} {m:List β} {a:α} {b:β},Paired F l m->F a b->Paired F (l++[a]) (m++[b])
 |_,_,_,_,.nil,h=> .cons h .nil
 |_,_,_,_,.cons r t,h=> .cons r (p7 t h)
theorem eo:∀{kvs:List (j3×V)} {kv:j3×V},(kvs.map (·.1)).Nodup->kv∈kvs->p9 kvs kv.1=some kv.2
 |p::r,kv,nd,h=>by
  have nd':=IM.mp (show(p.1::r.map (·.1)).Nodup from nd);rcases Iz.mp h with z|z
  .rw[z];exact C3 rfl
  .rw[C6 λe=>nd'.1 (by rw[e];exact HP.mpr ⟨kv,z,rfl⟩)];exact eo nd'.2 z
theorem Cv {kvs:List (j3×V)}{ss:List Str}(hk:kvs.map (·.1)=ss.map Sum.inr)(nd:(kvs.map (·.1)).Nodup):kvs=ss.map λs=>(Sum.inr s,(p9 kvs (Sum.inr s:j3)).getD .non):=by
 have h1:kvs=kvs.map λkv=>(kv.1,(p9 kvs kv.1).getD .non):=by
  have:∀kv∈kvs,kv=(kv.1,(p9 kvs kv.1).getD .non):=λkv h=>by rw[eo nd h];rfl
  exact(Md kvs).symm.trans (JE this)
 have h2:(kvs.map λkv=>(kv.1,(p9 kvs kv.1).getD V.non))=(kvs.map (·.1)).map λk=>(k,(p9 kvs k).getD .non):=by rw[Iy];rfl
 rw[hk,Iy] at h2;exact h1.trans h2
theorem jn:∀{r a:List (j3×V)},((a++r).map (·.1)).Nodup->r.foldl (λa x=>D0 a x.1 x.2) a=a++r
 |[],a,_=>by simp
 |p::r,a,nd=>by
  rw[Kx];have nd':((a++[p]++r).map (·.1)).Nodup:=by rw[IF];exact nd
  have hf:p.1∉a.map (·.1):=λm=>by
   rw[HL] at nd;exact(Iu.mp nd).2.2 p.1 m p.1 (by simp) rfl
  rw[E6 p.2 (D5 hf),jn (r:=r) (a:=a++[(p.1,p.2)]) nd',IF];rfl
theorem U0 {kvs:List (j3×V)}(nd:(kvs.map (·.1)).Nodup):Y4 kvs=kvs:=by
 unfold Y4;rw[jn (by simpa using nd)];rfl
theorem PrV.mono {K:Qc}{H H':Hp}{x:V}{kv:j3×V}(l:Le H H')(h:PrV K H x kv):PrV K H' x kv:=let ⟨t,e,s⟩:=h;⟨t,e,l.tup s⟩
theorem V1 {α β:Type}{F:α->β->Prop}{l2 m:List α}(h:l2.Perm m):∀{r:List β},Paired F m r->∃r',Paired F l2 r'/\r'.Perm r:=by
 induction h with
 |nil=>intro r p;cases p;exact⟨[],.nil,.nil⟩
 |cons x _ ih=>
  intro r p
  cases p with
  |cons a b=>
   obtain⟨r',h1,h2⟩:=ih b
   exact⟨_::r',.cons a h1,h2.cons _⟩
 |swap x y l=>
  intro r p
  cases p with
  |cons a b=>
   cases b with
   |cons c d=>exact⟨_::_::_,.cons c (.cons a d),.swap _ _ _⟩
 |trans _ _ ih1 ih2=>
  intro r p
  obtain⟨r',h1,h2⟩:=ih2 p
  obtain⟨r'',h3,h4⟩:=ih1 h1
  exact⟨r'',h3,h4.trans h2⟩
theorem aF:∀pts:List (Str×Str),Paired (fun(kv:j3×V) (x:Str×Str)=>kv=(Sum.inr x.1,.str x.2)) (j4 pts) pts
 |[]=> .nil
 |x::r=> .cons rfl (aF r)
theorem cY:∀{kvs:List (j3×V)} {pts:List (Str×Str)},Paired (fun(kv:j3×V) (x:Str×Str)=>kv=(Sum.inr x.1,.str x.2)) kvs pts->kvs=j4 pts
 |_,_,.nil=>rfl
 |_,_,.cons e t=>by rw[e,cY t];rfl
theorem vt {kvs:List (j3×V)}{pts:List (Str×Str)}(h:kvs.Perm (j4 pts)):∃f_,kvs=j4 f_/\f_.Perm pts:=by
 obtain⟨r,h1,h2⟩:=V1 h (aF pts);exact⟨r,cY h1,h2⟩
theorem k9 (pts:List (Str×Str)):(j4 pts).length=pts.length:=by unfold j4;rw[HI]
theorem dD {pts:List (Str×Str)}{i:Nat}{kv:j3×V}(h:(j4 pts)[i]?=some kv):∃x,pts[i]?=some x/\kv=(Sum.inr x.1,.str x.2):=by
 unfold j4 at h;rw[HK] at h;obtain⟨x,hx,e⟩:=IL.mp h;exact⟨x,hx,e.symm⟩
theorem Q1 {D d:Addr}{kvs:List (j3×V)}{o:Obj}{u:HO}{H H1:Hp}(h:H d=some (.dK kvs))(s:Same (E3 d o kvs H) H1)(hD:H1 D=none):Same H (thaw d (p0 H1 D u)):=
 Same.thaw h λb v z=>by rw[b7 (i8 (s _ _ z) hD)];exact s _ _ z
theorem bg {D d:Addr}{kvs:List (j3×V)}{o:Obj}{u:HO}{H H1:Hp}(s:Same (E3 d o kvs H) H1)(hD:H1 D=none):(thaw d (p0 H1 D u)) D=some u:=by
 have hDq:D≠d:=λz=>by rw[z,s _ _ b9] at hD;cases hD
 rw[O8 hDq,b9]
theorem lQ {D d:Addr}{u:HO}{H1:Hp}(hD:H1 D=none):Le H1 (thaw d (p0 H1 D u)):=by
 have s:Same H1 (p0 H1 D u):=λb v z=>by rw[b7 (i8 z hD)];exact z
 exact s.le.trans rF
theorem ah {pts:List (Str×Str)}(h:(pts.map (·.1)).Nodup):((j4 pts).map (·.1)).Nodup:=by
 rw[B5,←r6];refine Kc _ ?_ h;exact λa b h z=>h (Jx z)
theorem P9 {α:Type}:∀{l:List (Str×α)} {n:Str} {x y:α},(l.map (·.1)).Nodup->(n,x)∈l->(n,y)∈l->x=y
 |p::r,n,x,y,nd,hx,hy=>by
  have nd':=IM.mp (show(p.1::r.map (·.1)).Nodup from nd);rcases Iz.mp hx with zx|zx
  .rcases Iz.mp hy with zy|zy
   .have:=zx.trans zy.symm;exact(JS this).2
   .exact absurd (HP.mpr ⟨(n,y),zy,by rw[←zx]⟩) nd'.1
  .rcases Iz.mp hy with zy|zy
   .exact absurd (HP.mpr ⟨(n,x),zx,by rw[←zy]⟩) nd'.1
   .exact P9 nd'.2 zx zy
theorem cf {K:Qc}{H:Hp}{kvs:List (j3×V)}{ts:List (Str×F0)}{n:Str}{t:F0}(w:TiesIs K H kvs ts)(nd:(ts.map (·.1)).Nodup)(h:(n,t)∈ts):∃a,p9 kvs (Sum.inr n:j3)=some (.ref a)/\SqT K H a (ba t):=by
 obtain⟨a,x,h1,h2,h3⟩:=TiesIs.val (ts:=ts) w (HP.mpr ⟨(n,t),h,rfl⟩);rw[P9 nd h h2];exact⟨a,h1,h3⟩
theorem aC {pts:List (Str×Str)}{n k:Str}(nd:(pts.map (·.1)).Nodup)(h:(n,k)∈pts):p9 (j4 pts) (Sum.inr n:j3)=some (.str k):=
 eo (kv:=(Sum.inr n,.str k)) (ah nd) (HP.mpr ⟨(n,k),h,rfl⟩)
theorem iq {n:Str}:∀{gs:List Str},Dv (.str n) (gs.map V.str)=decide (n∈gs)
 |[]=>rfl
 |g::r=>by
  show(dv (.str g) (.str n)||Dv (.str n) (r.map V.str))=_;rw[iq (gs:=r),show dv (.str g) (.str n)=decide (g=n) by unfold dv;rw[II];simp];rw[II];simp;constructor
  .rintro(h|h)
   .exact .inl h.symm
   .exact .inr h
  .rintro(h|h)
   .exact .inl h.symm
   .exact .inr h
theorem U4 {K:Qc}{H:Hp}{Q:VK}{l:Addr}{gs:List Str}{n:Str}(h:SqL K H l (gs.map V.str))(q:Q (.bl (!decide (n∈gs))) H):gW K (.str n) (.ref l) H Q:=
 .inr (.inl ⟨l,_,rfl,.inl h,rfl,eO _,by rw[if_pos rfl,iq];exact q⟩)
theorem rT {K:Qc}{H:Hp}{Q:VK}{l:Addr}{gs:List Str}{n:Str}(h:SqL K H l (gs.map V.str))(q:Q (.bl (decide (n∈gs))) H):tm K (.str n) (.ref l) H Q:=
 xh (.inl h) rfl (eO _) (by rw[iq];exact q)
def eu (gs:List Str):j3->Bool
 | .inr n=>decide (n∈gs)
 |_=>false
theorem O7 {α β:Type}{F:α->β->Prop}{f:α->Bool}{g:β->Bool}(h:∀a b,F a b->f a=g b):∀{l:List α} {m:List β},Paired F l m->Paired F (l.filter f) (m.filter g)
 |_,_,.nil=> .nil
 |a::l,b::m,.cons r t=>by
  have z:=O7 h t;have e:=h a b r;cases hb:g b with
  |true=>rw[IQ (by rw[e,hb]),IQ hb];exact .cons r z
  |false=>rw[IW (by rw[e,hb];simp),IW (by rw[hb];simp)];exact z
theorem N5 {α β:Type}{f:α->β}{p:α->Bool}{l:List α}(h:(l.map f).Nodup):((l.filter p).map f).Nodup:=h.sublist ((Jf).map f)
theorem tD {ka kb:List (j3×V)}(nd:((ka++kb).map (·.1)).Nodup):J5 ka kb=ka++kb:=jn nd
theorem ay {α β:Type}{F:α->β->Prop}:∀{l1 l2:List α} {m1 m2:List β},Paired F l1 m1->Paired F l2 m2->Paired F (l1++l2) (m1++m2)
 |_,_,_,_,.nil,h=>h
 |_,_,_,_,.cons r t,h=> .cons r (ay t h)
theorem rL {K:Qc}{H:Hp}{kvs:List (j3×V)}{ts:List (Str×F0)}(w:TiesIs K H kvs ts)(h:(ts.map (·.1)).Nodup):(kvs.map (·.1)).Nodup:=by
 rw[w.keys,←r6];refine Kc _ ?_ h;exact λa b h z=>h (Jx z)
theorem P6 {K:Qc}{H:Hp}{d:Addr}{k1 k2:List (j3×V)}{kvs:List (j3×V)}{ts:List (Str×F0)}(h:H d=some (.dK k1))(w:TiesIs K H kvs ts):TiesIs K (p0 H d (.dK k2)) kvs ts:=Paired.imp' (λ_ _ z=>Z8 h z) w
theorem Cu {α:Type}{l m:List (Str×α)}(h1:(l.map (·.1)).Nodup)(h2:(m.map (·.1)).Nodup)(h:∀n∈m.map (·.1),n∉l.map (·.1)):((l++m).map (·.1)).Nodup:=by
 rw[HL];exact Iu.mpr ⟨h1,h2,λa ha b hb e=>h b hb (e▸ha)⟩
theorem F9 {pts:List (Str×Str)}{n:Str}:(p9 (j4 pts) (Sum.inr n:j3)).isSome=decide (n∈pts.map (·.1)):=by
 rw[←I0,II,Jq,Ii];constructor
 .rintro⟨kv,i',e⟩;obtain⟨x,hx,rfl⟩:=HP.mp i';exact HP.mpr ⟨x,hx,Jx (IY e)⟩
 .intro m;obtain⟨x,hx,rfl⟩:=HP.mp m;exact⟨_,HP.mpr ⟨x,hx,rfl⟩,IA rfl⟩
theorem R9 {K:Qc}{H:Hp}{kvs:List (j3×V)}{ts:List (Str×F0)}{n:Str}(w:TiesIs K H kvs ts):(p9 kvs (Sum.inr n:j3)).isSome=decide (n∈ts.map (·.1)):=by
 by_cases hn:n∈ts.map (·.1)
 .obtain⟨a,x,h1,_⟩:=TiesIs.val (ts:=ts) w hn;rw[h1,IA hn];rfl
 .cases e:p9 kvs (Sum.inr n:j3) with
  |none=>simp [hn]
  |some v=>
   have z:=rQ e
   rw[w.keys,←r6] at z
   exact absurd (K7 z) hn
theorem xQ {pts:List (Str×Str)}:(j4 pts).map (λkv=>kV kv.1)=(pts.map (·.1)).map V.str:=by unfold j4;rw[Iy,Iy];rfl
theorem vL {α:Type}{xs:List α}(h:0<xs.length):∃v,jB xs (-1)=some v/\v∈xs:=by
 have e:zf xs.length (-1)=some (xs.length -1):=by
  unfold zf;rw[if_neg (by lia),if_pos (by lia)];congr 1;lia
 refine⟨xs[xs.length -1],?_,ID _⟩;unfold jB;rw[e];show xs[xs.length -1]?=_;exact HH (by lia)
theorem qa {K:Qc}{H:Hp}{kb:List (j3×V)}:∀{ka:List (j3×V)},(∀kv∈ka,∃y,p9 kb kv.1=some y/\Eq1 K H kv.2 y true)->EqH K H kb ka true
 |[],_=> .nil
 |kv::r,h=>by
  obtain⟨y,h1,h2⟩:=h kv Iw;exact EqH.hit (e:=true) (b:=true) h1 h2 (qa λx hx=>h x (Ij _ hx))
theorem zQ {K:Qc}{H:Hp}(s:Str):Eq1 K H (.str s) (.str s) true:=by
 have z:=Eq1.flat (K:=K) (H:=H) (x:= .str s) (y:= .str s) rfl rfl;rw[hJ rfl] at z;exact z
theorem uS {K:Qc}{H:Hp}{a b:Addr}{t:F0}(h:SqT K H a (ba t))(h':SqT K H b (ba t)):Eq1 K H (.ref a) (.ref b) true:=by
 have z:=Eq1.tup h h' rfl rfl;rw[bZ rfl] at z;exact z
theorem rJ {K:Qc}{H:Hp}{p p':Addr}{pts f_:List (Str×Str)}(C_:p≠p')(h1:Rd H p (.dK (j4 pts)))(h2:Rd H p' (.dK (j4 f_)))(pm:pts.Perm f_)(nd:(f_.map (·.1)).Nodup):EqD K H p p' true:=
 .inr ⟨C_,_,_,true,h1,h2,qa λkv i'=>by
  obtain⟨x,hx,rfl⟩:=HP.mp i';exact⟨_,aC nd (pm.mem_iff.mp hx),zQ _⟩,by rw[k9,k9,pm.length_eq];simp⟩
theorem uU {K:Qc}{H:Hp}{q q':Addr}{kvs c_:List (j3×V)}{ts NN:List (Str×F0)}(C_:q≠q')(h1:Rd H q (.dK kvs))(h2:Rd H q' (.dK c_))(w:TiesIs K H kvs ts)(w':TiesIs K H c_ NN)(pm:ts.Perm NN)(nd:(NN.map (·.1)).Nodup):EqD K H q q' true:=
 .inr ⟨C_,_,_,true,h1,h2,qa λkv i'=>by
  obtain⟨i,hi⟩:=JT i';obtain⟨x,hx,ex,b,eb,sb⟩:=w.get hi;obtain⟨c,e1,e2⟩:=cf w' nd (pm.mem_iff.mp (HX hx));refine⟨.ref c,by rw[ex];exact e1,?_⟩;rw[eb];exact uS sb e2,by rw[w.length,w'.length,pm.length_eq];simp⟩
theorem gX:∀{kvs:List (j3×V)} {k:j3} {v:V},p9 kvs k=some v->(k,v)∈kvs
 |p::r,k,v,h=>by
  by_cases e:p.1=k
  .rw[C3 e] at h;rw[←e,←Ie h];exact Iw
  .rw[C6 e] at h;exact Ij _ (gX h)
theorem xo (a b:F0):R4 (ba a) (ba b)=decide (a=b):=by
 obtain⟨a1,a2,a3⟩:=a;obtain⟨b1,b2,b3⟩:=b;show(a1==b1&&(a2==b2&&(a3==b3&&true)))=_;rw[II];simp
theorem nY (a:F0):(ba a).all D6=true:=rfl
theorem lX {pts:List (Str×Str)}{n:Str}{v:V}(h:p9 (j4 pts) (Sum.inr n:j3)=some v):∃k,v= .str k/\(n,k)∈pts:=by
 obtain⟨x,hx,e⟩:=HP.mp (gX h);obtain⟨x1,x2⟩:=x;have e1:=(JS e).1;have e2:=(JS e).2;exact⟨x2,e2.symm,by rw[←Jx e1];exact hx⟩
theorem DB {H:Hp}{Q:VK}{pts:List (Str×Str)}{m k:Str}(nd:(pts.map (·.1)).Nodup)(q:Q (.bl (decide ((m,k)∈pts))) H):iH K ((p9 (j4 pts) (Sum.inr m:j3)).getD .non) (.str k) H Q:=by
 cases e:p9 (j4 pts) (Sum.inr m:j3) with
 |none=>
  refine wZ (lG ?_)
  rw[Iv (λz=>by rw[aC nd z] at e;cases e)] at q;exact q
 |some v=>
  obtain⟨k2,rfl,hk⟩:=lX e
  refine jt ?_
  have:decide (k2=k)=decide ((m,k)∈pts):=by
   rw[II,Ii,Ii];exact⟨λz=>z▸hk,λz=>P9 nd hk z⟩
  rw[this];exact q
theorem BS {H:Hp}{Q:VK}{kvs:List (j3×V)}{ts:List (Str×F0)}{m:Str}{y:F0}{l:Addr}(w:TiesIs K H kvs ts)(nd:(ts.map (·.1)).Nodup)(hl:SqT K H l (ba y))(q:Q (.bl (decide ((m,y)∈ts))) H):iH K ((p9 kvs (Sum.inr m:j3)).getD .non) (.ref l) H Q:=by
 by_cases hm:m∈ts.map (·.1)
 .obtain⟨a,x,h1,h2,h3⟩:=TiesIs.val (ts:=ts) w hm;rw[h1];refine wZ (wJ h3 hl (nY _) (nY _) ?_);rw[xo];have:decide (x=y)=decide ((m,y)∈ts):=by
   rw[II,Ii,Ii];exact⟨λz=>z▸h2,λz=>P9 nd h2 z⟩
  rw[this];exact q
 .have e:p9 kvs (Sum.inr m:j3)=none:=by
   have z:=R9 (n:=m) w;rw[Iv hm] at z;cases e:p9 kvs (Sum.inr m:j3) with
   |none=>rfl
   |some v=>rw[e] at z;cases z
  rw[e];refine wZ (my hl ?_);rw[Iv (λz=>hm (HP.mpr ⟨_,z,rfl⟩))] at q;exact q
theorem E1 {W:A6}(h:(h9 W).Nodup):(W.pts.map (·.1)).Nodup:=(Iu.mp h).1
theorem N1 {W:A6}(h:(h9 W).Nodup):(W.ts.map (·.1)).Nodup:=(Iu.mp h).2.1
theorem Au {t:String}(h:t≠"str"):ef t "str"=false:=by
 unfold ef;have e1:(t=="str")=false:=by simpa using h
 rw[e1];simp
abbrev dE (P:Program)(w:World)(K:Qc)(mg:Str->Option Value)(base:Heap):Prop:=K3 P w K mg base B8 1 "is_text_of" ["thing","signs","most"] [] (cO K)
theorem jD {f:Addr}{fd:FuncData}(T:Txt K mg)(F:Fun K "is_text_of" "is_text_of" ae f fd):A1 P w K mg base B8 1 f fd ["thing","signs","most"] (cO K):=by
 refine F.ok sc_is_text_of (λvs H Q E h=>?_) (λd_ A outer s H vs Q E hr h=>?_)
 .obtain⟨v,signs,most,rfl,_⟩:=h;rfl
 .obtain⟨v,signs,most,rfl,h⟩:=h;have hN:=sc_is_text_of.nd;have hu:=u6 hr;refine⟨_,QSs.r (u7 (aU (pJ (lB (cS (N2 K (qB (kK K P w) T.b_isinstance Boot.«isinstance» (i9 (qV 0) (i9 (CT "str" T.b_str Boot.«str») j6))))) (lB (u4 de (qB (C8 K P w) T.b_len Boot.«len» (i9 (qV 0) j6)) d8 (p8 _)) (iC (u4 qz (qB (C8 K P w) T.b_len Boot.«len» (i9 (qV 0) j6)) (qV 2) (p8 _)))))) (B0 (A0 uJ)) ck)
   (B0 (A0 (qB (sI K rfl) T.b_all Boot.«all» (i9 (E7 (own:=["sign"]) (js:=[1]) (by kernel_rfl) rfl (N7 K (qV 0)) (λ_ _ _ _=>(G1 (i:=0) (show List.Nodup (["sign","signs"]:List Str) by decide+kernel) rfl (by walk_at "l"))) (λ_ _ _ _=>aM) (λ_ _ _ _=>(dy (kIn K hu) (qV 0) (qV 1) (by rfl)))) j6))))),?_⟩
  rcases h with⟨x,rfl,hx,k⟩|⟨⟨t,ty,ht⟩,k⟩
  .walk_at "r";refine gc (fX (t:="str") rfl (by simp) ?_);walk_at "r";rw[if_neg (by decide)];walk_at "r";refine C5 (fQ (d9 hx) ?_);walk_at "r";refine C4 (λh1=>?_) (λh1=>?_)
   .walk_at "r";have e:K5 x signs most=false:=by
     unfold K5;rw[Iv (by lia)];rfl
    rw[←e];exact k H (Same.refl H)
   .walk_at "r";refine C5 (fQ (d9 hx) ?_);walk_at "r";refine C4 (λh2=>?_) (λh2=>?_)
    .walk_at "r";have e:K5 x signs most=false:=by
      unfold K5;rw[Iv (show ¬((x.length:Int)<=most) by lia)];simp
     rw[←e];exact k H (Same.refl H)
    .walk_at "r";refine w5 (n:=x.cps.size) (λi out H'=>H'=H/\out=(x.cps.toList.take i).map λc=>V.bl (decide (c∈signs.cps.toList))) ⟨rfl,rfl⟩ (λi out H' hi _=>by exact hi) ?_ ?_
     .rintro N i v out H1 H2 hi ⟨rfl,rfl⟩ y hN;obtain⟨rfl,c,hc,rfl⟩:=Its.lt y;walk_at "r";refine⟨rfl,?_⟩;walk_at "r";refine⟨d9 (by rw[HI,HV,←pz];lia),hN _ _ ⟨rfl,?_⟩⟩;exact C7 (λc=>V.bl (decide (c∈signs.cps.toList))) hc
     .rintro out H1 ⟨rfl,rfl⟩;refine⟨HJ _,λD hD=>⟨d9 (by rw[HI,HV,←pz];lia),?_⟩⟩;walk_at "r";refine jP (bs:=x.cps.toList.map λc=>decide (c∈signs.cps.toList)) (SqL.of ?_) ?_
      .show p0 H1 D _ D=_;rw[b9,HW (by simp),Iy];rfl
      .have e:K5 x signs most=(x.cps.toList.map λc=>decide (c∈signs.cps.toList)).all id:=by
        unfold K5 dN;rw[IA (show 1<=(x.length:Int) by lia),IA (show(x.length:Int)<=most by lia),JK];rfl
       rw[←e];exact k _ λb o q=>by
        show p0 H1 D _ b=_;rw[b7 (i8 q hD)];exact q
  .walk_at "r";refine gc (fX ty (by simp) ?_);rw[Au ht];walk_at "r";exact k H (Same.refl H)
theorem xX {x:Str}(h:1<=(x.length:Int)):jB x.cps.toList 0=some (x.cps.toList.headD 0):=by
 refine b4 (j:=0) ?_;have hl:=pz x;cases e:x.cps.toList with
 |nil=>rw[e] at hl;simp at hl;lia
 |cons c r=>rfl
abbrev kF (P:Program)(w:World)(K:Qc)(mg:Str->Option Value)(base:Heap):Prop:=K3 P w K mg base B8 2 "is_name" ["thing"] [] (iJ K)
theorem oX {f:Addr}{fd:FuncData}(T:Txt K mg)(aL:dE P w K mg base)(F:Fun K "is_name" "is_name" fw f fd):A1 P w K mg base B8 2 f fd ["thing"] (iJ K):=by
 refine F.ok sc_is_name (λvs H Q E h=>?_) (λd_ A outer s H vs Q E hr h=>?_)
 .obtain⟨v,rfl,_⟩:=h;rfl
 .obtain⟨v,rfl,h⟩:=h;have hN:=sc_is_name.nd;have hu:=u6 hr;refine⟨_,QSs.r (B0 (A0 (Fm (qC aL (hr.mono (by decide)) j7 (i9 (qV 0) (i9 (GD T.c_NAME_SIGNS) (i9 (GD T.c_MOST_NAME_SIGNS) j6)))) (AN (dy (kIn K hu) (k7 (k8 K hu) (qV 0) d8 (λ_ _=>rfl)) (GD T.c_SMALL_LETTERS) (by rfl)))))),?_⟩;walk_at "r";refine⟨v,_,_,rfl,?_⟩;rcases h with⟨x,rfl,hx,k⟩|⟨no,k⟩
  .refine .inl ⟨x,rfl,hx,λH' sm=>?_⟩;walk_at "r";refine X3 (λe=>?_) (λe=>?_)
   .walk_at "r";have h1:1<=(x.length:Int):=by
     unfold K5 at e;simp only[Io,Ii] at e;exact e.1.1
    refine bM (d9 hx) (xX h1) ?_;walk_at "r";have e2:Q9 x=FC x kSL:=by
     unfold Q9;rw[show K5 x kNS 24=true from e,NS]
    have q:=k H' sm;rw[e2] at q;exact q
   .have e2:Q9 x=false:=by
     unfold Q9;rw[show K5 x kNS 24=false from e,Bool.false_and]
    have q:=k H' sm;rw[e2] at q;exact q
  .refine .inr ⟨no,λH' sm=>?_⟩;walk_at "r";exact k H' sm--SPLIT
def Gv (a b:Str):Prop:=a.cps.toList<b.cps.toList
theorem eR:∀{ss:List Str},vN ss=true->ss.Pairwise Gv
 |[],_=> .nil
 |[_],_=>Lh _ _
 |x::y::r,h=>by
  rw[kC,Io] at h;have ih:=eR h.2;have UW:x.cps.toList<y.cps.toList:=IY h.1;refine Li.mpr ⟨λz hz=>?_,ih⟩;rcases Iz.mp hz with e|e
  .rw[e];exact UW
  .exact List.lt_trans UW ((Li.mp ih).1 z e)
theorem oC:∀{a b:List Str},a.Pairwise Gv->b.Pairwise Gv->a.Perm b->a=b
 |[],b,_,_,p=>(List.Perm.nil_eq p)
 |x::r,[],_,_,p=>(List.Perm.eq_nil p)
 |x::r,y::t,h1,h2,p=>by
  have PC:=Li.mp h1;have Zf:=Li.mp h2;have e:x=y:=Classical.byContradiction λne=>by
   have m1:x∈y::t:=p.mem_iff.mp Iw;have m2:y∈x::r:=p.mem_iff.mpr Iw;rcases Iz.mp m1 with z|z
   .exact ne z
   .rcases Iz.mp m2 with z'|z'
    .exact ne z'.symm
    .have q1:y.cps.toList<x.cps.toList:=Zf.1 x z;have q2:x.cps.toList<y.cps.toList:=PC.1 y z';exact MA q1 q2
  subst e;rw[oC PC.2 Zf.2 (List.Perm.cons_inv p)]
theorem E4 {a b:List Str}(h1:sortedS a=true)(h2:sortedS b=true)(nd:a.Nodup)(p:a.Perm b):a=b:=
 oC (eR (gM h1 nd)) (eR (gM h2 (p.nodup_iff.mp nd))) p
structure Ordr (W:A6) (s1 s2:List Str):Prop where
 p1:s1.Perm (W.pts.map (·.1))
 p2:s2.Perm (W.ts.map (·.1))
 o1:sortedS s1=true
 o2:sortedS s2=true
theorem Ordr.mem {W:A6}{s1 s2:List Str}(h:Ordr W s1 s2){n:Str}:n∈s1++s2↔n∈h9 W:=by
 unfold h9;rw[Ic,Ic,h.p1.mem_iff,h.p2.mem_iff]
theorem Ordr.perm {W:A6}{s1 s2:List Str}(h:Ordr W s1 s2):(s1++s2).Perm (h9 W):=h.p1.append h.p2
theorem Ordr.len {W:A6}{s1 s2:List Str}(h:Ordr W s1 s2):(s1++s2).length=(h9 W).length:=h.perm.length_eq
def j0 (kvm:List (j3×V))(n:Str):Str:=match p9 kvm (Sum.inr n:j3) with
 |some (.str s)=>s
 |_=>""
theorem cc {kvm:List (j3×V)}{n s:Str}(h:p9 kvm (Sum.inr n:j3)=some (.str s)):j0 kvm n=s:=by unfold j0;rw[h]
def TxtAt (kvm:List (j3×V))(n:Str):Prop:=∃s,p9 kvm (Sum.inr n:j3)=some (.str s)
theorem TxtAt.at_ {kvm:List (j3×V)}{n:Str}(h:TxtAt kvm n):p9 kvm (Sum.inr n:j3)=some (.str (j0 kvm n)):=by
 obtain⟨s,hs⟩:=h;rw[cc hs];exact hs
theorem Cp {H:Hp}{Q:VK}{d:Addr}{kvm:List (j3×V)}{n:Str}(hD:Rd H d (.dK kvm))(h:TxtAt kvm n)(q:Q (.str (j0 kvm n)) H):nu K (.ref d) (.str n) H Q:=
 C2 (by have z:=G7 (k:=Sum.inr n) hD;rw[h.at_] at z;exact z) q
def kD (K:Qc):Sp:=λvs H Q _=>∃(a p q:Addr) (kvs:List (j3×V)) (W:A6),vs=[.ref a]/\WebAt K H a p q kvs W/\(h9 W).length<=60/\∀(l:Addr) (H':Hp) (s1 s2:List Str),H l=none->Same H H'->H' l=some (.lst ((s1++s2).map V.str))->Ordr W s1 s2->Q (.ref l) H'
theorem C0 (W:A6):(h9 W).length=W.pts.length+W.ts.length:=by unfold h9;rw[HQ,HI,HI]
abbrev K8 (P:Program)(w:World)(K:Qc)(mg:Str->Option Value)(base:Heap):Prop:=K3 P w K mg base B8 1 "things" ["web"] [] (kD K)
theorem su {f:Addr}{fd:FuncData}(T:Txt K mg)(F:Fun K "things" "things" jl f fd):A1 P w K mg base B8 1 f fd ["web"] (kD K):=by
 refine F.ok sc_things (λvs H Q E h=>?_) (λd_ A outer s H vs Q E hr h=>?_)
 .obtain⟨a,p,q,kvs,W,rfl,_⟩:=h;rfl
 .obtain⟨a,p,q,kvs,W,rfl,hW,h1,k⟩:=h;rw[C0] at h1;have hN:=sc_things.nd;have hu:=u6 hr;refine⟨_,QSs.r (B0 (A0 (B6 (G0 K) (qB (F4 K rfl) T.b_sorted Boot.«sorted» (i9 (k7 (k8 K hu) (qV 0) d8 (λ_ _=>rfl)) j6)) (qB (F4 K rfl) T.b_sorted Boot.«sorted» (i9 (k7 (k8 K hu) (qV 0) d8 (λ_ _=>rfl)) j6))))),?_⟩;walk_at "r";refine b5 hW.tup (b4 (j:=0) rfl) ?_;walk_at "r";refine z6 (ss:=W.pts.map (·.1)) hW.pts (by rw[B5,r6]) (by rw[HI];lia) (λs1 a1 a2 l1 n1=>?_);obtain⟨H1,e1,f1,m1,_⟩:=b0 (o:= .lst _) n1;rw[e1];have W1:=hW.mono m1.le;walk_at "r";refine b5 W1.tup (b4 (j:=1) rfl) ?_;walk_at "r";refine z6 (ss:=W.ts.map (·.1)) W1.ties (by rw[W1.ts.keys,r6]) (by rw[HI];lia) (λs2 b1 b2 l2 n2=>?_);obtain⟨H2,e2,f2,m2,_⟩:=b0 (o:= .lst _) n2;rw[e2];have g1:=a1.length_eq;have g2:=b1.length_eq;rw[HI] at g1 g2;refine ow (m2 _ _ f1) f2 (d9 (by rw[HI,HI];lia)) (λl3 n3=>?_);obtain⟨H3,e3,f3,m3,_⟩:=b0 (o:= .lst _) n3;rw[e3];refine k l3 H3 s1 s2 (m1.free (m2.free n3)) (m1.trans (m2.trans m3)) ?_ ⟨a1,b1,a2,b2⟩;rw[f3,HL]
def gr (K:Qc):Sp:=λvs H Q _=>∃(d:Addr) (kvs:List (j3×V)) (ss:List Str),vs=[.ref d]/\Rd H d (.dK kvs)/\kvs.map (·.1)=ss.map Sum.inr/\ss.Nodup/\ss.length<=60/\∀(l:Addr) (H':Hp) (c_:List (j3×V)),H l=none->Same H H'->H' l=some (.dK c_)->c_.Perm kvs->Q (.ref l) H'
def NewP (K:Qc)(H:Hp)(Q:VK)(W:A6):Prop:=∀(a p q:Addr) (kvs:List (j3×V)) (W':A6) (H':Hp),Same H H'->WebAt K H' a p q kvs W'->H' p=some (.dK (j4 W'.pts))->H' q=some (.dK kvs)->p≠q->H p=none->H q=none->W'.pts.Perm W.pts->W'.ts.Perm W.ts->Q (.ref a) H'
def kI (K:Qc):Sp:=λvs H Q _=>∃(a p q:Addr) (kvs:List (j3×V)) (W:A6),vs=[.ref a]/\WebAt K H a p q kvs W/\(W.pts.map (·.1)).Nodup/\(W.ts.map (·.1)).Nodup/\W.pts.length<=60/\W.ts.length<=60/\NewP K H Q W
abbrev ju (P:Program)(w:World)(K:Qc)(mg:Str->Option Value)(base:Heap):Prop:=K3 P w K mg base B8 1 "in_order" ["named"] [] (gr K)
theorem mY {f:Addr}{fd:FuncData}(T:Txt K mg)(F:Fun K "in_order" "in_order" df f fd):A1 P w K mg base B8 1 f fd ["named"] (gr K):=by
 refine F.ok sc_in_order (λvs H Q E h=>?_) (λd_ A outer s H vs Q E hr h=>?_)
 .obtain⟨d,kvs,ss,rfl,_⟩:=h;rfl
 .obtain⟨d,kvs,ss,rfl,hd,hk,G_,hl,k⟩:=h;have nd:(kvs.map (·.1)).Nodup:=by
   rw[hk];refine Kc _ ?_ G_;exact λa b h z=>h (Jx z)
  have hN:=sc_in_order.nd;have hu:=u6 hr;refine⟨_,QSs.r (B0 (A0 (fu (P1 K rfl) T.b_dict Boot.«dict» (i9 (E7 (own:=["name"]) (js:=[0]) (by kernel_rfl) rfl (N7 K (qB (F4 K rfl) T.b_sorted Boot.«sorted» (i9 (qV 0) j6))) (λ_ _ _ _=>(G1 (i:=0) (show List.Nodup (["name","named"]:List Str) by decide+kernel) rfl (by walk_at "l"))) (λ_ _ _ _=>aM) (λ_ _ _ _=>(G3 (i9 (qV 0) (i9 (k7 (k8 K hu) (qV 1) (qV 0) (λ_ _=>rfl)) j6))))) j6)))),?_⟩;walk_at "r";refine z6 (ss:=ss) hd hk (by lia) (λs1 a1 a2 l1 n1=>?_);obtain⟨H1,e1,f1,m1,_⟩:=b0 (o:= .lst _) n1;rw[e1];have hd1:=m1.rd hd;have NM:=a1.length_eq;refine x9 (SqL.of f1) ?_;refine w5 (n:=s1.length) (λi out H'=>Same H1 H'/\Paired (PrV K H') out ((s1.take i).map λs=>(Sum.inr s,(p9 kvs (Sum.inr s:j3)).getD .non))) ⟨Same.refl _,.nil⟩ (λi out H' hi hp=>⟨_,.str (s1[i]),SqL.of (hp.1 _ _ f1),by rw[HK,HH hi];rfl⟩) ?_ ?_
  .rintro N i v out H2 H3 hi ⟨s2,pr⟩ y hN';obtain⟨rfl,hx⟩:=Itl.get y (SqL.of (s2 _ _ f1));rw[HK] at hx;obtain⟨x,q_,rfl⟩:=IL.mp hx;have hxk:(Sum.inr x:j3)∈kvs.map (·.1):=by
    rw[hk];exact HP.mpr ⟨x,a1.mem_iff.mp (HX q_),rfl⟩
   obtain⟨kv,i',ekv⟩:=HP.mp hxk;have ev:=eo nd i';rw[ekv] at ev;have e7:s1.take (i+1)=s1.take i++[x]:=by rw[IE,q_];rfl
   walk_at "r";refine⟨rfl,?_⟩;walk_at "r";refine C2 (v:=kv.2) (by have z':=G7 (k:=Sum.inr x) (s2.rd hd1);rw[ev] at z';exact z') ?_;walk_at "r";refine⟨d9 (by simp),λt nt=>?_⟩;obtain⟨H4,e4,f4,m4,_⟩:=b0 (o:= .tup _) nt;rw[e4];have D_:=IC pr;rw[HI,HV] at D_;refine⟨d9 (by lia),hN' _ _ ⟨s2.trans m4,?_⟩⟩;rw[e7,HL];refine p7 (Paired.imp' (λ_ _ z=>PrV.mono m4.le z) pr) ⟨t,rfl,?_⟩;show SqT K _ t [V.str x,(p9 kvs (Sum.inr x:j3)).getD V.non];rw[ev];exact SqT.of f4
  .rintro out H2 ⟨s2,pr⟩;have D_:=IC pr;rw[HI,HV] at D_;refine⟨⟨_,SqL.of (s2 _ _ f1),by rw[HI];exact HJ _⟩,λD hD=>⟨d9 (by lia),?_⟩⟩;obtain⟨H5,e5,f5,m5,_⟩:=b0 (o:= .lst out) hD;show sQ _ (p0 _ D _) _;rw[e5];walk_at "r";rw[HW (HJ _)] at pr;refine N8 (SqL.of f5) (Paired.imp' (λ_ _ z=>PrV.mono m5.le z) pr) (d9 (by rw[HI];lia)) (λl nl=>?_);obtain⟨H6,e6,f6,m6,_⟩:=b0 (o:= .dK _) nl;rw[e6];have mA:=m1.trans (s2.trans (m5.trans m6));have Q_:(s1.map λs=>((Sum.inr s:j3),(p9 kvs (Sum.inr s:j3)).getD V.non)).Perm kvs:=by
    refine List.Perm.trans (a1.map _) ?_;rw[←Cv hk nd]
   rw[U0 ((Q_.map _).nodup_iff.mpr nd)] at f6;exact k l H6 _ ((m1.trans (s2.trans m5)).free nl) mA f6 Q_
abbrev dY (P:Program)(w:World)(K:Qc)(mg:Str->Option Value)(base:Heap):Prop:=K3 P w K mg base B8 2 "copied" ["web"] [] (kI K)
theorem ur {f:Addr}{fd:FuncData}(T:Txt K mg)(aD:ju P w K mg base)(F:Fun K "copied" "copied" gZ f fd):A1 P w K mg base B8 2 f fd ["web"] (kI K):=by
 refine F.ok sc_copied (λvs H Q E h=>?_) (λd_ A outer s H vs Q E hr h=>?_)
 .obtain⟨a,p,q,kvs,W,rfl,_⟩:=h;rfl
 .obtain⟨a,p,q,kvs,W,rfl,hW,d1,d2,l1,l2,k⟩:=h;have hN:=sc_copied.nd;have hu:=u6 hr;refine⟨_,QSs.r (B0 (A0 (G3 (i9 (qC aD (hr.mono (by decide)) j7 (i9 (k7 (k8 K hu) (qV 0) d8 (λ_ _=>rfl)) j6)) (i9 (qC aD (hr.mono (by decide)) j7 (i9 (k7 (k8 K hu) (qV 0) d8 (λ_ _=>rfl)) j6)) j6))))),?_⟩;walk_at "r";refine b5 hW.tup (b4 (j:=0) rfl) ?_;walk_at "r";refine⟨p,j4 W.pts,W.pts.map (·.1),rfl,hW.pts,by rw[B5,r6],d1,by rw[HI];exact l1,λp' H1 kp np' m1 f1 pm1=>?_⟩;have W1:=hW.mono m1.le;walk_at "r";refine b5 W1.tup (b4 (j:=1) rfl) ?_;walk_at "r";refine⟨q,kvs,W.ts.map (·.1),rfl,W1.ties,by rw[W1.ts.keys,r6],d2,by rw[HI];exact l2,λq' H2 kq nq' m2 f2 pm2=>?_⟩;walk_at "r";refine⟨d9 (by simp),λl9 n9=>?_⟩;obtain⟨H9,e9,f9,m9,_⟩:=b0 (o:= .tup _) n9;rw[e9];obtain⟨f_,rfl,pp⟩:=vt pm1;have W2:=hW.mono (m1.trans (m2.trans m9)).le;obtain⟨NN,w',pt⟩:=V1 pm2 W2.ts;have g1:=m9 _ _ (m2 _ _ f1);have g2:=m9 _ _ f2;exact k l9 p' q' kq ⟨f_,NN⟩ H9 (m1.trans (m2.trans m9)) ⟨SqT.of f9,.inl g1,.inl g2,w'⟩ g1 g2 (i8 f1 nq') np' (m1.free nq') pp pt
structure Ew (W:A6):Prop where
 nm:∀x∈h9 W,Q9 x=true
 kd:∀x∈W.pts,Z0 x.2=true
 tk:∀x∈W.ts,Z0 x.2.1=true
theorem jU {x s:Str}{m:Int}(h:K5 x s m=true):(x.length:Int)<=m:=by
 unfold K5 at h;simp only[Io,Ii] at h;exact h.1.2
theorem vC {x:Str}(h:Q9 x=true):x.length<=1000:=by
 unfold Q9 at h;have:=jU (Io _ _▸h).1;lia
theorem vy:ef "dict" "dict"=true:=rfl--SPLIT
structure qh (m:Nat) (W:A6):Prop where
 good:Ew W
 kds:∀n∈h9 W,Z0 n=true
 l1:W.pts.length<=m
 l2:W.ts.length<=m
def qJ (K:Qc):Sp:=λvs H Q _=>∃(a p q a' p' q':Addr) (kvs c_:List (j3×V)) (W O:A6),vs=[.ref a,.ref a']/\WebIs 24 K H a p q kvs W/\WebIs 24 K H a' p' q' c_ O/\∀(l:Addr) (H':Hp) (s1 s2:List Str),H l=none->Same H H'->Ordr W s1 s2->H' l=some (.lst (((s1++s2).filter λn=>decide (n∈h9 O)).map V.str))->Q (.ref l) H'
def oN (K:Qc):Sp:=λvs H Q _=>∃(a p q a' p' q':Addr) (kvs c_:List (j3×V)) (W O:A6),vs=[.ref a,.ref a']/\WebIs 24 K H a p q kvs W/\WebIs 24 K H a' p' q' c_ O/\∀(l:Addr) (H':Hp) (s1 s2:List Str),H l=none->Same H H'->Ordr W s1 s2->H' l=some (.lst (((s1++s2).filter λn=>!decide (n∈h9 O)).map V.str))->Q (.ref l) H'
theorem bW (n:Nat):(List.replicate n true).all id=true:=by rw[IH];intro b hb;exact(NT.mp hb).2--SPLIT
abbrev vU (P:Program)(w:World)(K:Qc)(mg:Str->Option Value)(base:Heap):Prop:=K3 P w K mg base B8 2 "both" ["web","other"] [] (qJ K)
theorem zF {f:Addr}{fd:FuncData}(T:Txt K mg)(z7:K8 P w K mg base)(F:Fun K "both" "both" oV f fd):A1 P w K mg base B8 2 f fd ["web","other"] (qJ K):=by
 refine F.ok sc_both (λvs H Q E h=>?_) (λd_ A outer s H vs Q E hr h=>?_)
 .obtain⟨a,p,q,a',p',q',kvs,c_,W,O,rfl,_⟩:=h;rfl
 .obtain⟨a,p,q,a',p',q',kvs,c_,W,O,rfl,hW,hO,k⟩:=h;have hWl:=hW.len;have hN:=sc_both.nd;have hu:=u6 hr;refine⟨_,QSs.r (B0 (A0 (E7 (own:=["name"]) (js:=[1]) (by kernel_rfl) rfl (N7 K (qC z7 (hr.mono (by decide)) j7 (i9 (qV 0) j6))) (λ_ _ _ _=>(G1 (i:=0) (show List.Nodup (["name","other"]:List Str) by decide+kernel) rfl (by walk_at "l"))) (λ_ _ _ _=>(iS (pJ (lB (u4 (kIn K hu) (qV 0) (k7 (k8 K hu) (qV 1) d8 (λ_ _=>rfl)) (by rfl)) (iC (u4 (kIn K hu) (qV 0) (k7 (k8 K hu) (qV 1) d8 (λ_ _=>rfl)) (by rfl))))))) (λ_ _ _ _=>(qV 0))))),?_⟩;walk_at "r";refine⟨a,p,q,kvs,W,rfl,hW.at_,by lia,λl1 H1 s1 s2 n1 m1 f1 or=>?_⟩;have hlen:=or.len;refine x9 (SqL.of f1) ?_;refine w5 (n:=(s1++s2).length) (λi out H'=>Same H1 H'/\out=(((s1++s2).take i).filter λn=>decide (n∈h9 O)).map V.str) ⟨Same.refl _,rfl⟩ (λi out H' hi hp=>⟨_,.str ((s1++s2)[i]),SqL.of (hp.1 _ _ f1),by rw[HK,HH hi];rfl⟩) ?_ ?_
  .rintro N i v out H3' H3 hi ⟨s3,rfl⟩ y hN';obtain⟨rfl,hx⟩:=Itl.get y (SqL.of (s3 _ _ f1));rw[HK,HH hi] at hx;cases hx;have O3:=hO.at_.mono (m1.trans s3).le;have e7:(s1++s2).take (i+1)=(s1++s2).take i++[(s1++s2)[i]]:=by rw[IE,HH hi];rfl
   have J_:=HY (λn=>decide (n∈h9 O)) ((s1++s2).take i);rw[HV] at J_;have yes:(decide ((s1++s2)[i]∈h9 O))=true->((((s1++s2).take i).filter λn=>decide (n∈h9 O)).map V.str).length<=sizeLine/\N ((((s1++s2).take i).filter λn=>decide (n∈h9 O)).map V.str++[V.str (s1++s2)[i]]) H3:=λhb=>by
    refine⟨d9 (by rw[HI];lia),hN' _ _ ⟨s3,?_⟩⟩;rw[e7,IS,IQ (p:=λn=>decide (n∈h9 O)) hb,Jz,HL];rfl
   have no:(decide ((s1++s2)[i]∈h9 O))=false->N ((((s1++s2).take i).filter λn=>decide (n∈h9 O)).map V.str) H3:=λhb=>by
    refine hN' _ _ ⟨s3,?_⟩;rw[e7,IS,IW (p:=λn=>decide (n∈h9 O)) (by rw[hb];simp),Jz,Jl]
   walk_at "r";refine⟨rfl,?_⟩;walk_at "r";refine b5 O3.tup (b4 (j:=0) rfl) ?_;refine P5 (G7 (k:=Sum.inr (s1++s2)[i]) O3.pts) ?_;rw[F9];walk_at "r";refine C4 (λb1=>?_) (λb1=>?_)
   .walk_at "r";refine yes (by rw[IA (show(s1++s2)[i]∈h9 O from HU _ b1)])
   .walk_at "r";refine b5 O3.tup (b4 (j:=1) rfl) ?_;refine P5 (G7 (k:=Sum.inr (s1++s2)[i]) O3.ties) ?_;rw[R9 O3.ts];walk_at "r";refine C4 (λb2=>?_) (λb2=>?_)
    .walk_at "r";refine yes (by rw[IA (show(s1++s2)[i]∈h9 O from Ia _ b2)])
    .exact no (by rw[Iv (show(s1++s2)[i]∉h9 O from λz=>(Ic.mp z).elim b1 b2)])
  .rintro out H3 ⟨s3,rfl⟩;have J_:=HY (λn=>decide (n∈h9 O)) ((s1++s2).take (s1++s2).length);rw[HV] at J_;refine⟨⟨_,SqL.of (s3 _ _ f1),by rw[HI];exact HJ _⟩,λD hD=>⟨d9 (by rw[HI];lia),?_⟩⟩;rw[HW (HJ _)];obtain⟨H4,e4,f4,m4,_⟩:=b0 (H:=H3) (o:= .lst (((s1++s2).filter λn=>decide (n∈h9 O)).map V.str)) hD;refine k D _ s1 s2 ((m1.trans s3).free hD) ?_ or ?_
   .show Same _ (p0 _ D _);rw[e4];exact m1.trans (s3.trans m4)
   .show p0 _ D _ D=_;rw[b9]
abbrev mh (P:Program)(w:World)(K:Qc)(mg:Str->Option Value)(base:Heap):Prop:=K3 P w K mg base B8 2 "alone" ["web","other"] [] (oN K)
theorem vx {f:Addr}{fd:FuncData}(T:Txt K mg)(z7:K8 P w K mg base)(F:Fun K "alone" "alone" lg f fd):A1 P w K mg base B8 2 f fd ["web","other"] (oN K):=by
 refine F.ok sc_alone (λvs H Q E h=>?_) (λd_ A outer s H vs Q E hr h=>?_)
 .obtain⟨a,p,q,a',p',q',kvs,c_,W,O,rfl,_⟩:=h;rfl
 .obtain⟨a,p,q,a',p',q',kvs,c_,W,O,rfl,hW,hO,k⟩:=h;have hWl:=hW.len;have hN:=sc_alone.nd;have hu:=u6 hr;refine⟨_,QSs.r (B0 (A0 (E7 (own:=["name"]) (js:=[1]) (by kernel_rfl) rfl (N7 K (qC z7 (hr.mono (by decide)) j7 (i9 (qV 0) j6))) (λ_ _ _ _=>(G1 (i:=0) (show List.Nodup (["name","other"]:List Str) by decide+kernel) rfl (by walk_at "l"))) (λ_ _ _ _=>(iS (pJ (cM (u4 (aA K hu) (qV 0) (k7 (k8 K hu) (qV 1) d8 (λ_ _=>rfl)) (by rfl)) (bF (u4 (aA K hu) (qV 0) (k7 (k8 K hu) (qV 1) d8 (λ_ _=>rfl)) (by rfl))))))) (λ_ _ _ _=>(qV 0))))),?_⟩;walk_at "r";refine⟨a,p,q,kvs,W,rfl,hW.at_,by lia,λl1 H1 s1 s2 n1 m1 f1 or=>?_⟩;have hlen:=or.len;refine x9 (SqL.of f1) ?_;refine w5 (n:=(s1++s2).length) (λi out H'=>Same H1 H'/\out=(((s1++s2).take i).filter λn=>!decide (n∈h9 O)).map V.str) ⟨Same.refl _,rfl⟩ (λi out H' hi hp=>⟨_,.str ((s1++s2)[i]),SqL.of (hp.1 _ _ f1),by rw[HK,HH hi];rfl⟩) ?_ ?_
  .rintro N i v out H3' H3 hi ⟨s3,rfl⟩ y hN';obtain⟨rfl,hx⟩:=Itl.get y (SqL.of (s3 _ _ f1));rw[HK,HH hi] at hx;cases hx;have O3:=hO.at_.mono (m1.trans s3).le;have e7:(s1++s2).take (i+1)=(s1++s2).take i++[(s1++s2)[i]]:=by rw[IE,HH hi];rfl
   have J_:=HY (λn=>!decide (n∈h9 O)) ((s1++s2).take i);rw[HV] at J_;have yes:(!decide ((s1++s2)[i]∈h9 O))=true->((((s1++s2).take i).filter λn=>!decide (n∈h9 O)).map V.str).length<=sizeLine/\N ((((s1++s2).take i).filter λn=>!decide (n∈h9 O)).map V.str++[V.str (s1++s2)[i]]) H3:=λhb=>by
    refine⟨d9 (by rw[HI];lia),hN' _ _ ⟨s3,?_⟩⟩;rw[e7,IS,IQ (p:=λn=>!decide (n∈h9 O)) hb,Jz,HL];rfl
   have no:(!decide ((s1++s2)[i]∈h9 O))=false->N ((((s1++s2).take i).filter λn=>!decide (n∈h9 O)).map V.str) H3:=λhb=>by
    refine hN' _ _ ⟨s3,?_⟩;rw[e7,IS,IW (p:=λn=>!decide (n∈h9 O)) (by rw[hb];simp),Jz,Jl]
   walk_at "r";refine⟨rfl,?_⟩;walk_at "r";refine b5 O3.tup (b4 (j:=0) rfl) ?_;refine V3 (G7 (k:=Sum.inr (s1++s2)[i]) O3.pts) ?_;rw[F9];walk_at "r";refine bo (λb1=>?_) (λb1=>?_)
   .walk_at "r";refine b5 O3.tup (b4 (j:=1) rfl) ?_;refine V3 (G7 (k:=Sum.inr (s1++s2)[i]) O3.ties) ?_;rw[R9 O3.ts];walk_at "r";refine bo (λb2=>?_) (λb2=>?_)
    .walk_at "r";refine yes (by rw[Iv (show(s1++s2)[i]∉h9 O from λz=>(Ic.mp z).elim b1 b2)];rfl)
    .exact no (by rw[IA (show(s1++s2)[i]∈h9 O from Ia _ b2)];rfl)
   .exact no (by rw[IA (show(s1++s2)[i]∈h9 O from HU _ b1)];rfl)
  .rintro out H3 ⟨s3,rfl⟩;have J_:=HY (λn=>!decide (n∈h9 O)) ((s1++s2).take (s1++s2).length);rw[HV] at J_;refine⟨⟨_,SqL.of (s3 _ _ f1),by rw[HI];exact HJ _⟩,λD hD=>⟨d9 (by rw[HI];lia),?_⟩⟩;rw[HW (HJ _)];obtain⟨H4,e4,f4,m4,_⟩:=b0 (H:=H3) (o:= .lst (((s1++s2).filter λn=>!decide (n∈h9 O)).map V.str)) hD;refine k D _ s1 s2 ((m1.trans s3).free hD) ?_ or ?_
   .show Same _ (p0 _ D _);rw[e4];exact m1.trans (s3.trans m4)
   .show p0 _ D _ D=_;rw[b9]
structure Sd where
 a:Addr
 p:Addr
 q:Addr
 kvs:List (j3×V)
 W:A6
def SdIs (K:Qc)(H:Hp)(s:Sd):Prop:=WebIs 24 K H s.a s.p s.q s.kvs s.W
theorem SdIs.same {H H':Hp}{s:Sd}(h:SdIs K H s)(m:Same H H'):SdIs K H' s:=WebIs.same h m
structure RuleIs (K:Qc) (H:Hp) (r bl:Addr) (L R:Sd) (bs:List Sd):Prop where
 tup:SqT K H r [.ref L.a,.ref R.a,.ref bl]
 l:SdIs K H L
 r:SdIs K H R
 bl:SqL K H bl (bs.map λs=>V.ref s.a)
 bars:∀b∈bs,SdIs K H b
theorem RuleIs.same {H H':Hp}{r bl:Addr}{L R:Sd}{bs:List Sd}(h:RuleIs K H r bl L R bs)(m:Same H H'):RuleIs K H' r bl L R bs:=⟨m.tup h.tup,h.l.same m,h.r.same m,m.seq h.bl,λb hb=>(h.bars b hb).same m⟩
structure Dg (n:Str) (L R:A6):Prop where
 p:∀k,(n,k)∈L.pts↔(n,k)∈R.pts
 t:∀t,(n,t)∈L.ts↔(n,t)∈R.ts
structure Gs (L R:A6) (bs:List Sd):Prop where
 l:qh 4 L
 r:qh 4 R
 ag:∀n∈h9 L,n∈h9 R->Dg n L R
 len:bs.length<=3
 bars:∀b∈bs,qh 6 b.W/\(∀x∈L.pts,x∈b.W.pts)/\∀x∈L.ts,x∈b.W.ts
def qA (K:Qc):Sp:=λvs H Q _=>∃(r bl:Addr) (L R:Sd) (bs:List Sd),vs=[.ref r]/\RuleIs K H r bl L R bs/\∀(l:Addr) (H':Hp) (s1 s2:List Str),H l=none->Same H H'->Ordr L.W s1 s2->H' l=some (.lst (((s1++s2).filter λn=>decide (n∈h9 R.W)).map V.str))->Q (.ref l) H'
def mW (K:Qc):Sp:=λvs H Q _=>∃(r bl:Addr) (L R:Sd) (bs:List Sd),vs=[.ref r]/\RuleIs K H r bl L R bs/\∀(l:Addr) (H':Hp) (s1 s2:List Str),H l=none->Same H H'->Ordr L.W s1 s2->H' l=some (.lst (((s1++s2).filter λn=>!decide (n∈h9 R.W)).map V.str))->Q (.ref l) H'
def gf (K:Qc):Sp:=λvs H Q _=>∃(r bl:Addr) (L R:Sd) (bs:List Sd),vs=[.ref r]/\RuleIs K H r bl L R bs/\∀(l:Addr) (H':Hp) (s1 s2:List Str),H l=none->Same H H'->Ordr R.W s1 s2->H' l=some (.lst (((s1++s2).filter λn=>!decide (n∈h9 L.W)).map V.str))->Q (.ref l) H'
abbrev yd (P:Program)(w:World)(K:Qc)(mg:Str->Option Value)(base:Heap):Prop:=K3 P w K mg base B8 3 "kept" ["rule"] [] (qA K)
theorem yM {f:Addr}{fd:FuncData}(T:Txt K mg)(qd:vU P w K mg base)(F:Fun K "kept" "kept" pq f fd):A1 P w K mg base B8 3 f fd ["rule"] (qA K):=by
 refine F.ok sc_kept (λvs H Q E h=>?_) (λd_ A outer s H vs Q E hr h=>?_)
 .obtain⟨r,bl,L,R,bs,rfl,_⟩:=h;rfl
 .obtain⟨r,bl,L,R,bs,rfl,K',k⟩:=h;have hN:=sc_kept.nd;have hu:=u6 hr;refine⟨_,QSs.r (B0 (A0 (qC qd (hr.mono (by decide)) j7 (i9 (k7 (k8 K hu) (qV 0) d8 (λ_ _=>rfl)) (i9 (k7 (k8 K hu) (qV 0) d8 (λ_ _=>rfl)) j6))))),?_⟩;walk_at "r";refine b5 K'.tup (b4 (j:=0) rfl) ?_;walk_at "r";refine b5 K'.tup (b4 (j:=1) rfl) ?_;walk_at "r";exact⟨_,_,_,_,_,_,_,_,_,_,rfl,K'.l,K'.r,λl H' s1 s2 n m o f=>k l H' s1 s2 n m o f⟩
abbrev sj (P:Program)(w:World)(K:Qc)(mg:Str->Option Value)(base:Heap):Prop:=K3 P w K mg base B8 3 "taken" ["rule"] [] (mW K)
theorem vG {f:Addr}{fd:FuncData}(T:Txt K mg)(cj:mh P w K mg base)(F:Fun K "taken" "taken" kR f fd):A1 P w K mg base B8 3 f fd ["rule"] (mW K):=by
 refine F.ok sc_taken (λvs H Q E h=>?_) (λd_ A outer s H vs Q E hr h=>?_)
 .obtain⟨r,bl,L,R,bs,rfl,_⟩:=h;rfl
 .obtain⟨r,bl,L,R,bs,rfl,K',k⟩:=h;have hN:=sc_taken.nd;have hu:=u6 hr;refine⟨_,QSs.r (B0 (A0 (qC cj (hr.mono (by decide)) j7 (i9 (k7 (k8 K hu) (qV 0) d8 (λ_ _=>rfl)) (i9 (k7 (k8 K hu) (qV 0) d8 (λ_ _=>rfl)) j6))))),?_⟩;walk_at "r";refine b5 K'.tup (b4 (j:=0) rfl) ?_;walk_at "r";refine b5 K'.tup (b4 (j:=1) rfl) ?_;walk_at "r";exact⟨_,_,_,_,_,_,_,_,_,_,rfl,K'.l,K'.r,λl H' s1 s2 n m o f=>k l H' s1 s2 n m o f⟩
abbrev dn (P:Program)(w:World)(K:Qc)(mg:Str->Option Value)(base:Heap):Prop:=K3 P w K mg base B8 3 "fresh_of" ["rule"] [] (gf K)
theorem oA {f:Addr}{fd:FuncData}(T:Txt K mg)(cj:mh P w K mg base)(F:Fun K "fresh_of" "fresh_of" du f fd):A1 P w K mg base B8 3 f fd ["rule"] (gf K):=by
 refine F.ok sc_fresh_of (λvs H Q E h=>?_) (λd_ A outer s H vs Q E hr h=>?_)
 .obtain⟨r,bl,L,R,bs,rfl,_⟩:=h;rfl
 .obtain⟨r,bl,L,R,bs,rfl,K',k⟩:=h;have hN:=sc_fresh_of.nd;have hu:=u6 hr;refine⟨_,QSs.r (B0 (A0 (qC cj (hr.mono (by decide)) j7 (i9 (k7 (k8 K hu) (qV 0) d8 (λ_ _=>rfl)) (i9 (k7 (k8 K hu) (qV 0) d8 (λ_ _=>rfl)) j6))))),?_⟩;walk_at "r";refine b5 K'.tup (b4 (j:=1) rfl) ?_;walk_at "r";refine b5 K'.tup (b4 (j:=0) rfl) ?_;walk_at "r";exact⟨_,_,_,_,_,_,_,_,_,_,rfl,K'.r,K'.l,λl H' s1 s2 n m o f=>k l H' s1 s2 n m o f⟩
def bz (K:Qc):Sp:=λvs H Q _=>∃(t d:Addr) (x:F0) (kvm:List (j3×V)),vs=[.ref t,.ref d]/\SqT K H t (ba x)/\Rd H d (.dK kvm)/\TxtAt kvm x.2.1/\TxtAt kvm x.2.2/\∀(l:Addr) (H':Hp),H l=none->Same H H'->H' l=some (.tup (ba (x.1,j0 kvm x.2.1,j0 kvm x.2.2)))->Q (.ref l) H'
structure Y9 (P W:A6) (kvm:List (j3×V)):Prop where
 len:kvm.length=(h9 P).length
 txt:∀n∈h9 P,TxtAt kvm n
 nd:((h9 P).map (j0 kvm)).Nodup
 pts:∀x∈P.pts,(j0 kvm x.1,x.2)∈W.pts
 ts:∀x∈P.ts,(j0 kvm x.1,(x.2.1,j0 kvm x.2.2.1,j0 kvm x.2.2.2))∈W.ts
theorem yw {pts:List (Str×Str)}{n s:Str}(h:n∉pts.map (·.1)):D0 (j4 pts) (Sum.inr n:j3) (.str s)=j4 (pts++[(n,s)]):=by
 rw[E6 _ (D5 (by rw[B5,←r6];exact λm=>h (K7 m)))];unfold j4;rw[HL];rfl
theorem Q0 {ms:List (Str×Str)}{n m:Str}(nd:(ms.map (·.1)).Nodup)(h:(n,m)∈ms):j0 (j4 ms) n=m:=cc (aC nd h)
abbrev O5 (P:Program)(w:World)(K:Qc)(mg:Str->Option Value)(base:Heap):Prop:=K3 P w K mg base B8 1 "tie_renamed" ["tie","names"] [] (bz K)
theorem iE {f:Addr}{fd:FuncData}(T:Txt K mg)(F:Fun K "tie_renamed" "tie_renamed" X7 f fd):A1 P w K mg base B8 1 f fd ["tie","names"] (bz K):=by
 refine F.ok sc_tie_renamed (λvs H Q E h=>?_) (λd_ A outer s H vs Q E hr h=>?_)
 .obtain⟨t,d,x,kvm,rfl,_⟩:=h;rfl
 .obtain⟨t,d,⟨x1,x2,x3⟩,kvm,rfl,hT,hD,k1,k2,k⟩:=h;have hN:=sc_tie_renamed.nd;have hu:=u6 hr;refine⟨_,QSs.r (B0 (A0 (G3 (i9 (k7 (k8 K hu) (qV 0) d8 (λ_ _=>rfl)) (i9 (k7 (k8 K hu) (qV 1) (k7 (k8 K hu) (qV 0) d8 (λ_ _=>rfl)) (λ_ _=>rfl)) (i9 (k7 (k8 K hu) (qV 1) (k7 (k8 K hu) (qV 0) d8 (λ_ _=>rfl)) (λ_ _=>rfl)) j6)))))),?_⟩;walk_at "r";refine b5 hT (b4 (j:=0) rfl) ?_;walk_at "r";refine b5 hT (b4 (j:=1) rfl) ?_;refine Cp hD k1 ?_;walk_at "r";refine b5 hT (b4 (j:=2) rfl) ?_;refine Cp hD k2 ?_;walk_at "r";refine⟨d9 (by simp),λl9 n9=>?_⟩;obtain⟨H9,e9,f9,m9,_⟩:=b0 (o:= .tup _) n9;rw[e9];exact k l9 H9 n9 m9 f9
def jy (x:Str):List Str->List Str
 |[]=>[x]
 |y::r=>if ltCps y.cps.toList x.cps.toList=true then y::jy x r else x::y::r
def ql:List Str->List Str
 |[]=>[]
 |x::r=>jy x (ql r)
theorem jV (x:Str):∀l,(jy x l).Perm (x::l)
 |[]=> .refl _
 |y::r=>by
  unfold jy;split
  .exact((jV x r).cons y).trans (.swap _ _ _)
  .exact .refl _
theorem fT:∀l,(ql l).Perm l
 |[]=> .refl _
 |x::r=>(jV x _).trans ((fT r).cons x)
theorem oy {a b:Str}(h:ltCps a.cps.toList b.cps.toList=true):ltCps b.cps.toList a.cps.toList=false:=by
 rw[ltCps_eq] at h⊢;exact Iv (MA (IY h))
theorem oH {x:Str}:∀{l:List Str} {p:Str},risingS p l=true->ltCps x.cps.toList p.cps.toList=false->risingS p (jy x l)=true
 |[],p,_,h=>by unfold jy;unfold risingS;rw[h];rfl
 |y::r,p,h1,h=>by
  have PC:(!ltCps y.cps.toList p.cps.toList&&risingS y r)=true:=h1;rw[Io] at PC;unfold jy;split
  .next e=>
   show(!ltCps y.cps.toList p.cps.toList&&risingS y (jy x r))=true;rw[PC.1,oH PC.2 (oy e)];rfl
  .next e=>
   show(!ltCps x.cps.toList p.cps.toList&&(!ltCps y.cps.toList x.cps.toList&&risingS y r))=true;rw[h,PC.2];simpa using e
theorem kZ:∀l,sortedS (ql l)=true
 |[]=>rfl
 |x::r=>by
  have ih:=kZ r;show sortedS (jy x (ql r))=true;cases e:ql r with
  |nil=>rfl
  |cons y t=>
   rw[e] at ih
   unfold jy
   split
   .next z=>exact oH ih (oy z)
   .next z=>
    show(!ltCps y.cps.toList x.cps.toList&&risingS y t)=true
    rw[show risingS y t=true from ih];simpa using z
def E2 (ts:List (Str×F0))(n:Str):F0:=match ts.find? (λx=>decide (x.1=n)) with
 |some x=>x.2
 |none=>("","","")
theorem eY:∀{ts:List (Str×F0)} {n:Str} {t:F0},(ts.map (·.1)).Nodup->(n,t)∈ts->E2 ts n=t
 |[],_,_,_,h=>nomatch h
 |x::r,n,t,nd,h=>by
  unfold E2;have nd':=IM.mp (show(x.1::r.map (·.1)).Nodup from nd);by_cases e:x.1=n
  .rw[List.find?_cons_of_pos (by simpa using e)];rcases Iz.mp h with z|z
   .rw[←z]
   .exact absurd (HP.mpr ⟨_,z,rfl⟩) (e▸nd'.1)
  .rw[List.find?_cons_of_neg (by simpa using e)];rcases Iz.mp h with z|z
   .exact absurd (by rw[←z]) e
   .exact eY nd'.2 z
theorem bp {ts:List (Str×F0)}{n:Str}(h:n∈ts.map (·.1)):(n,E2 ts n)∈ts:=by
 unfold E2;cases e:ts.find? (λx=>decide (x.1=n)) with
 |none=>
  obtain⟨x,hx,z⟩:=HP.mp h
  exact absurd (List.find?_eq_none.mp e x hx) (by simpa using z)
 |some x=>
  have z:x.1=n:=by simpa using List.find?_some e
  rw[←z];exact List.mem_of_find?_eq_some e
def M9 (fx:List (Str×Str))(n im:Str):Bool:=if n∈fx.map (·.1) then decide (im=j0 (j4 fx) n) else !decide (im∈fx.map (·.2))
def oR (L:Str->Str->Bool)(gp:List Str)(fx:List (Str×Str))(n:Str):List Str:=(gp.filter (L n)).filter (M9 fx n)
def rR (W:A6)(gt:List Str)(fx:List (Str×Str))(n:Str)(t:F0):List Str:=gt.filter λim=>decide (E2 W.ts im=t)&&M9 fx n im
def gv (nm b:List Str)(x:Str):Str:=j0 (j4 (nm.zip b)) x
def tP (W:A6)(gt:List Str)(fx:List (Str×Str))(nm b:List Str)(x:Str×F0):List Str:=rR W gt fx x.1 (x.2.1,gv nm b x.2.2.1,gv nm b x.2.2.2)
def yq (a b:Str):Str:=if a.cps.toList<b.cps.toList then b else a
def bq (ts:List (Str×F0))(n:Str):List (Str×F0):=ts.filter λx=>decide (yq x.2.2.1 x.2.2.2=n)
def uQ (ls:List (List Str)):Bool:=ls.all λd=>decide (ls.count d<=d.length)
def U6 (L:Str->Str->Bool)(Pc W:A6)(gp gt:List Str)(fx:List (Str×Str))(nm b:List Str):List Str:=match nm[b.length]? with
 |none=>[]
 |some n=>if n∈Pc.ts.map (·.1) then(tP W gt fx nm b (n,E2 Pc.ts n)).filter (λx=>!decide (x∈b))
  else((oR L gp fx n).filter (λx=>!decide (x∈b))).filter λim=>uQ ((bq Pc.ts n).map (tP W gt fx nm (b++[im])))
def eZ (img:List Str->List Str):Nat->List Str->List (List Str)
 |0,b=>[b]
 |k+1,b=>(img b).flatMap λx=>eZ img k (b++[x])
def gn:List (List Str)->List Str->List (List Str)
 |[],b=>[b]
 |c::r,b=>c.flatMap λx=>gn r (b++[x])
def Ft (img:List Str->List Str)(j:Nat)(row:List Str):Prop:=∀(i:Nat) (x:Str),j<=i->row[i]?=some x->x∈img (row.take i)
theorem dZ:∀{bs:List (List Str)} {b row:List Str},row∈gn bs b->∃t,row=b++t/\t.length=bs.length/\∀(i:Nat) (x:Str) (c:List Str),t[i]?=some x->bs[i]?=some c->x∈c
 |[],b,row,h=>by
  rw[Ih.mp h];exact⟨[],by simp,rfl,λi x c hx _=>by simp at hx⟩
 |c::r,b,row,h=>by
  obtain⟨x,hx,h'⟩:=List.mem_flatMap.mp h;obtain⟨t,e,hl,hm⟩:=dZ h';refine⟨x::t,by rw[e];simp,by simp [hl],λi y d hy hd=>?_⟩;cases i with
  |zero=>cases hy;cases hd;exact hx
  |succ i=>exact hm i y d hy hd
theorem bS {α β:Type}(p:α->Bool)(F:α->List β):∀l:List α,(l.filter p).flatMap F=l.flatMap λx=>if p x=true then F x else []
 |[]=>rfl
 |a::l=>by
  cases e:p a with
  |true=>rw[IQ e,JF,JF,if_pos e,bS p F l]
  |false=>rw[IW (by rw[e];decide),JF,if_neg (by rw[e];decide),bS p F l];rfl
theorem di {α β:Type}{F G:α->List β}:∀{l:List α},(∀x∈l,F x=G x)->l.flatMap F=l.flatMap G
 |[],_=>rfl
 |a::l,h=>by rw[JF,JF,h a Iw,di λx hx=>h x (Ij _ hx)]
theorem O6 {α:Type}{p q:α->Bool}:∀{l:List α},(∀x∈l,p x=q x)->l.filter p=l.filter q
 |[],_=>rfl
 |a::l,h=>by
  have z:=O6 (l:=l) λx hx=>h x (Ij _ hx);rw[Km,Km,h a Iw,z]
open Classical in
theorem yb {img:List Str->List Str}:∀{bs:List (List Str)} {b:List Str},(∀(j:Nat) (c:List Str),bs[j]?=some c->∀b':List Str,b'.length=b.length+j->img b'=c.filter λx=>decide (x∈img b'))->
  eZ img bs.length b=(gn bs b).filter λrow=>decide (Ft img b.length row)
 |[],b,_=>by
  show [b]=[b].filter _;rw[IQ (by
   refine IA λi x hi hx=>?_;rw[IX hi] at hx;cases hx)];rfl
 |c::r,b,h=>by
  show(img b).flatMap (λx=>eZ img r.length (b++[x]))=(c.flatMap λx=>gn r (b++[x])).filter _;have h0:=h 0 c rfl b (by lia);have hF:∀x,eZ img r.length (b++[x])=(gn r (b++[x])).filter λrow=>decide (Ft img (b++[x]).length row):=λx=>
   yb λj d hd b' hb=>h (j+1) d hd b' (by rw[hb,HQ,Il];lia)
  rw[List.filter_flatMap,h0,bS];refine di λx hx=>?_;rw[hF x];by_cases l_:x∈img b
  .rw[if_pos (IA l_)];refine O6 λrow m_=>?_;obtain⟨t,e,_⟩:=dZ m_;rw[II,Ii,Ii];constructor
   .intro ok i y hi hy;by_cases z:i=b.length
    .have e1:row[i]?=some x:=by rw[e,z];simp
     rw[e1] at hy;cases hy;have e2:row.take i=b:=by rw[e,z];simp
     rw[e2];exact l_
    .exact ok i y (by rw[HQ,Il];lia) hy
   .intro ok i y hi hy;exact ok i y (by rw[HQ,Il] at hi;lia) hy
  .rw[if_neg (by rw[Iv l_];decide)];refine(Lo.mpr λrow m_=>?_).symm;obtain⟨t,e,_⟩:=dZ m_;intro ok;have z:=IY ok b.length x (HJ _) (by rw[e];simp);rw[show row.take b.length=b by rw[e];simp] at z;exact l_ z
theorem nM {c:List Str}{p:Str->Bool}:c.filter p=c.filter λx=>decide (x∈c.filter p):=O6 λx hx=>by
 rw[II,Ii,Ik];exact⟨λh=>⟨hx,h⟩,λh=>h.2⟩
theorem qN:∀(nm b:List Str),((nm.zip b).map (·.1)).Sublist nm
 |[],_=> .slnil
 |_::_,[]=>List.nil_sublist _
 |n::nm,x::b=>(qN nm b).cons_cons n
theorem kW {nm:List Str}(b:List Str)(nd:nm.Nodup):((nm.zip b).map (·.1)).Nodup:=nd.sublist (qN nm b)
theorem mr {nm b:List Str}{i:Nat}{n x:Str}(h1:nm[i]?=some n)(h2:b[i]?=some x):(n,x)∈nm.zip b:=by
 have z:(nm.zip b)[i]?=some (n,x):=by rw[KH];exact⟨h1,h2⟩
 exact HX z
theorem mS {nm b:List Str}{i:Nat}{n x:Str}(nd:nm.Nodup)(h1:nm[i]?=some n)(h2:b[i]?=some x):gv nm b n=x:=Q0 (kW b nd) (mr h1 h2)
theorem wB {nm row:List Str}(nd:nm.Nodup)(hl:row.length=nm.length):nm.map (gv nm row)=row:=by
 refine Ow λi=>?_;rw[HK];by_cases hi:i<nm.length
 .rw[HH hi,HH (show i<row.length by lia)];exact Jm some (mS nd (HH hi) (HH (by lia)))
 .rw[IX (by lia),IX (by lia)];rfl
theorem jO:∀{l m:List Str},l.Nodup->(∀x∈l,x∈m)->l.length<=m.length
 |[],m,_,_=>Jv _
 |x::r,m,nd,h=>by
  have nd':=IM.mp nd;have hx:=h x Iw;have z:=jO (l:=r) (m:=m.erase x) nd'.2 λy hy=>(List.mem_erase_of_ne (λe:y=x=>nd'.1 (by rw[←e];exact hy))).mpr (h y (Ij _ hy));rw[List.length_erase_of_mem hx] at z;have:0<m.length:=List.length_pos_of_mem hx;rw[IV];lia
theorem kz {α:Type}(f:α->List Str)(d:List Str):∀ts:List α,(ts.map f).count d=(ts.filter λt=>decide (f t=d)).length
 |[]=>rfl
 |t::r=>by
  rw[IP,List.count_cons,kz f d r,Km];by_cases e:f t=d
  .rw[if_pos (by simpa using e),if_pos (by simpa using e)];rfl
  .rw[if_neg (by simpa using e),if_neg (by simpa using e)];rfl
theorem Ae {α:Type}{ts:List α}{f:α->List Str}{r:α->Str}(hm:∀t∈ts,r t∈f t)(nd:(ts.map r).Nodup):uQ (ts.map f)=true:=by
 unfold uQ;rw[IH];intro d hd;rw[Ii,kz];have z:((ts.filter λt=>decide (f t=d)).map r).length<=d.length:=by
  refine jO (nd.sublist (Jf.map r)) λx hx=>?_;obtain⟨t,ht,rfl⟩:=HP.mp hx;rw[Ik] at ht;rw[←IY ht.2];exact hm t ht.1
 rw[HI] at z;exact z
def me (fx:List (Str×Str))(nm row:List Str):Prop:=∀x∈fx,gv nm row x.1=x.2
structure SrchP (L:Str->Str->Bool) (Pc W:A6) (s1 s2 gp gt:List Str) (fx:List (Str×Str)):Prop where
 o:Ordr Pc s1 s2
 o':Ordr W gp gt
 nd:(h9 Pc).Nodup
 nd':(h9 W).Nodup
 ends:∀x∈Pc.ts,x.2.2.1∈Pc.pts.map (·.1)/\x.2.2.2∈Pc.pts.map (·.1)
 fnd:(fx.map (·.1)).Nodup
 fin:∀x∈fx,x.1∈h9 Pc
 ls:∀n x,n∈Pc.pts.map (·.1)->x∈W.pts.map (·.1)->L n x=true->j0 (j4 W.pts) x=j0 (j4 Pc.pts) n
 lc:∀row,Y9 Pc W (j4 ((s1++s2).zip row))->∀x∈Pc.pts,L x.1 (gv (s1++s2) row x.1)=true
section
variable {L:Str->Str->Bool} {Pc W:A6} {s1 s2 gp gt:List Str} {fx:List (Str×Str)}
def om (s1 s2 gp gt:List Str):List (List Str):=List.replicate s1.length gp++List.replicate s2.length gt
theorem jr:(om s1 s2 gp gt).length=(s1++s2).length:=by unfold om;simp
theorem SrchP.nn (S:SrchP L Pc W s1 s2 gp gt fx):(s1++s2).Nodup:=S.o.perm.nodup_iff.mpr S.nd
theorem SrchP.is1 (S:SrchP L Pc W s1 s2 gp gt fx){i:Nat}{n:Str}(h:(s1++s2)[i]?=some n):(n∉Pc.ts.map (·.1)/\i<s1.length)\/(n∈Pc.ts.map (·.1)/\s1.length<=i):=by
 by_cases hi:i<s1.length
 .refine .inl ⟨λz=>?_,hi⟩;rw[Je hi] at h;have m1:n∈s1:=HX h;exact(Iu.mp S.nn).2.2 n m1 n (S.o.p2.mem_iff.mpr z) rfl
 .rw[Jr (by lia)] at h;exact .inr ⟨S.o.p2.mem_iff.mp (HX h),by lia⟩
theorem yX {L c:List Str}{p:Str->Bool}(e:L=c.filter p):L=c.filter λx=>decide (x∈L):=by subst e;exact nM
theorem vW (S:SrchP L Pc W s1 s2 gp gt fx){j:Nat}{c b:List Str}(h:(om s1 s2 gp gt)[j]?=some c)(hb:b.length=j):U6 L Pc W gp gt fx (s1++s2) b=c.filter λx=>decide (x∈U6 L Pc W gp gt fx (s1++s2) b):=by
 have hj:j<(s1++s2).length:=by
  rw[←jr (gp:=gp) (gt:=gt)];rcases JA j (om s1 s2 gp gt).length with z|z
  .exact z
  .rw[IX z] at h;cases h
 have hn:(s1++s2)[b.length]?=some ((s1++s2)[j]):=by rw[hb];exact HH hj
 have hc:c=if j<s1.length then gp else gt:=by
  unfold om at h;by_cases z:j<s1.length
  .rw[Je (by simpa using z),KW,if_pos z] at h;rw[if_pos z];exact(Ie h).symm
  .rw[Jr (by simpa using z),Jp,KW,if_pos (by rw[HQ] at hj;lia)] at h;rw[if_neg z];exact(Ie h).symm
 obtain⟨p,e⟩:∃p,U6 L Pc W gp gt fx (s1++s2) b=c.filter p:=by
  unfold U6;rw[hn];dsimp only;rcases S.is1 (i:=j) (HH hj) with⟨h1,h2⟩|⟨h1,h2⟩
  .rw[if_neg h1,hc,if_pos h2];unfold oR;rw[Kr,Kr,Kr];exact⟨_,rfl⟩
  .rw[if_pos h1,hc,if_neg (by lia)];unfold tP rR;rw[Kr];exact⟨_,rfl⟩
 exact yX e
theorem iB {n:Str}{l:List Str}(h:n∈l):∃i:Nat,l[i]?=some n:=JT h
theorem SrchP.pt_idx (S:SrchP L Pc W s1 s2 gp gt fx){n:Str}(h:n∈Pc.pts.map (·.1)):∃i:Nat,i<s1.length/\(s1++s2)[i]?=some n:=by
 obtain⟨i,hi⟩:=iB (S.o.p1.mem_iff.mpr h);have hl:i<s1.length:=by
  rcases JA i s1.length with z|z
  .exact z
  .rw[IX z] at hi;cases hi
 exact⟨i,hl,by rw[Je hl];exact hi⟩
theorem gQ {nm row:List Str}{i j:Nat}{n:Str}(nd:nm.Nodup)(hl:row.length=nm.length)(h:nm[i]?=some n)(Wg:i<j):gv nm (row.take j) n=gv nm row n:=by
 have hi:i<nm.length:=by
  rcases JA i nm.length with z|z
  .exact z
  .rw[IX z] at h;cases h
 have h2:row[i]?=some row[i]:=HH (by lia);rw[mS nd h h2,mS nd h (b:=row.take j) (x:=row[i]) (by rw[Me,if_pos Wg];exact h2)]
theorem AR {n x:Str}{nm row:List Str}(fnd:(fx.map (·.1)).Nodup)(d:me fx nm row)(inj:∀y∈fx,gv nm row y.1=gv nm row n->y.1=n)(e:gv nm row n=x):M9 fx n x=true:=by
 unfold M9;split
 .next h=>
  obtain⟨y,hy,rfl⟩:=HP.mp h;rw[Q0 fnd (show(y.1,y.2)∈fx from hy),←e];exact IA (d y hy)
 .next h=>
  have z:x∉fx.map (·.2):=λz=>by
   obtain⟨y,hy,ey⟩:=HP.mp z;have z1:=d y hy;rw[ey,←e] at z1;exact h (by rw[←inj y hy z1];exact HP.mpr ⟨y,hy,rfl⟩)
  simpa using z
theorem Fp {pts:List (Str×Str)}{g:List Str}{x kd:Str}(nd:(pts.map (·.1)).Nodup)(p:g.Perm (pts.map (·.1)))(h:x∈g)(hk:j0 (j4 pts) x=kd):(x,kd)∈pts:=by
 obtain⟨y,hy,rfl⟩:=HP.mp (p.mem_iff.mp h);rw[Q0 nd (show(y.1,y.2)∈pts from hy)] at hk;rw[←hk];exact hy
theorem Et {Q:A6}{kvm:List (j3×V)}{x y:Str}(nd:((h9 Q).map (j0 kvm)).Nodup)(hx:x∈h9 Q)(hy:y∈h9 Q)(e:j0 kvm x=j0 kvm y):x=y:=by
 obtain⟨i,hi⟩:=iB hx;obtain⟨j,hj⟩:=iB hy;have e1:((h9 Q).map (j0 kvm))[i]?=some (j0 kvm x):=by rw[HK,hi];rfl
 have e2:((h9 Q).map (j0 kvm))[j]?=some (j0 kvm x):=by rw[HK,hj,e];rfl
 have li:i<((h9 Q).map (j0 kvm)).length:=by
  rcases JA i ((h9 Q).map (j0 kvm)).length with z|z
  .exact z
  .rw[IX z] at e1;cases e1
 have z:=(Ox li nd).mp (e1.trans e2.symm);rw[z,hj] at hi;exact(Ie hi).symm
theorem gL (S:SrchP L Pc W s1 s2 gp gt fx){i:Nat}{e:Str}(hi:i<s1.length)(he:e∈Pc.pts.map (·.1))(hle:¬(s1[i].cps.toList<e.cps.toList)):∃j:Nat,j<=i/\(s1++s2)[j]?=some e:=by
 obtain⟨j,hj,Wh⟩:=S.pt_idx he;refine⟨j,?_,Wh⟩;rcases JA i j with z|z
 .exfalso;have nd1:s1.Nodup:=(Iu.mp S.nn).1;have pw:=eR (gM S.o.o1 nd1);have w:=KI.mp pw i j hi hj z;rw[Je hj,HH hj] at Wh;rw[Ie Wh] at w;exact hle w
 .exact z
end
section
variable {L:Str->Str->Bool} {Pc W:A6} {s1 s2 gp gt:List Str} {fx:List (Str×Str)}
theorem bY {α:Type}{l:List α}{i:Nat}{x:α}(h:l[i]?=some x):i<l.length:=by
 rcases JA i l.length with z|z
 .exact z
 .rw[IX z] at h;cases h
theorem mem_ch {n x:Str}:x∈oR L gp fx n↔x∈gp/\L n x=true/\M9 fx n x=true:=by
 unfold oR;rw[Ik,Ik,and_assoc]
theorem mem_pl {n x:Str}{t:F0}:x∈rR W gt fx n t↔x∈gt/\E2 W.ts x=t/\M9 fx n x=true:=by
 unfold rR;rw[Ik,Io,Ii]
theorem Ba (S:SrchP L Pc W s1 s2 gp gt fx){row:List Str}(hl:row.length=(s1++s2).length)(ok:Ft (U6 L Pc W gp gt fx (s1++s2)) 0 row):Y9 Pc W (j4 ((s1++s2).zip row))/\me fx (s1++s2) row:=by
 have nn:=S.nn;have key:∀(i:Nat) (n x:Str),(s1++s2)[i]?=some n->row[i]?=some x->x∉row.take i/\M9 fx n x=true/\(n∉Pc.ts.map (·.1)->(x,j0 (j4 Pc.pts) n)∈W.pts)/\(n∈Pc.ts.map (·.1)->(x,((E2 Pc.ts n).1,gv (s1++s2) row (E2 Pc.ts n).2.1,gv (s1++s2) row (E2 Pc.ts n).2.2))∈W.ts):=by
  intro i n x hn hx;have Wi:=bY hn;have h0:=ok i x (Jv _) hx;have j':(row.take i).length=i:=by rw[HV];lia
  unfold U6 at h0;rw[j',hn] at h0;dsimp only at h0;rcases S.is1 hn with⟨h1,h2⟩|⟨h1,h2⟩
  .rw[if_neg h1,Ik,Ik,mem_ch] at h0;refine⟨by simpa using h0.1.2,h0.1.1.2.2,λ_=>Fp (E1 S.nd') S.o'.p1 h0.1.1.1 (S.ls n x ((Ic.mp (S.o.mem.mp (HX hn))).resolve_right h1) (S.o'.p1.mem_iff.mp h0.1.1.1) h0.1.1.2.1),λz=>absurd z h1⟩
  .rw[if_pos h1,Ik] at h0;have hm:=mem_pl.mp (show x∈rR W gt fx n _ from h0.1);refine⟨by simpa using h0.2,hm.2.2,λz=>absurd h1 z,λ_=>?_⟩;have l_:=bp h1;have he:=S.ends _ l_;obtain⟨j1,Zg,Ry⟩:=S.pt_idx he.1;obtain⟨j2,Zh,RB⟩:=S.pt_idx he.2;have e1:=gQ (j:=i) nn hl Ry (by lia);have e2:=gQ (j:=i) nn hl RB (by lia);have z:=bp (S.o'.p2.mem_iff.mp hm.1);rw[hm.2.1] at z;dsimp only at z e1 e2;rw[e1,e2] at z;exact z
 have Wj:row.Nodup:=by
  refine KI.mpr λi j hi hj Wg e=>?_;have z:=(key j ((s1++s2)[j]'(by lia)) row[j] (HH (by lia)) (HH hj)).1;refine z (HX (i:=i) ?_);rw[Me,if_pos Wg,HH hi,e]
 have UX:∀n∈s1++s2,∃(i:Nat) (x:Str),(s1++s2)[i]?=some n/\row[i]?=some x/\gv (s1++s2) row n=x:=λn hn=>by
  obtain⟨i,hi⟩:=iB hn;have Wi:=bY hi;exact⟨i,row[i],hi,HH (by lia),mS nn hi (HH (by lia))⟩
 refine⟨⟨?_,λn hn=>?_,?_,λx hx=>?_,λx hx=>?_⟩,λx hx=>?_⟩
 .rw[k9,Kd,←S.o.len];lia
 .obtain⟨i,x,h1,h2,_⟩:=UX n (S.o.mem.mpr hn);exact⟨x,aC (kW row nn) (mr h1 h2)⟩
 .have e:=wB nn hl;exact((S.o.perm.map (gv (s1++s2) row)).nodup_iff).mp (by rw[e];exact Wj)
 .have hm:x.1∈h9 Pc:=HU _ (HP.mpr ⟨x,hx,rfl⟩);obtain⟨i,y,h1,h2,h3⟩:=UX x.1 (S.o.mem.mpr hm);have k_:x.1∉Pc.ts.map (·.1):=λz=>(Iu.mp S.nd).2.2 x.1 (HP.mpr ⟨x,hx,rfl⟩) x.1 z rfl;have z:=(key i x.1 y h1 h2).2.2.1 k_;rw[Q0 (E1 S.nd) (show(x.1,x.2)∈Pc.pts from hx)] at z;rw[show j0 (j4 ((s1++s2).zip row)) x.1=y from h3];exact z
 .have hm:x.1∈Pc.ts.map (·.1):=HP.mpr ⟨x,hx,rfl⟩;obtain⟨i,y,h1,h2,h3⟩:=UX x.1 (S.o.mem.mpr (Ia _ hm));have z:=(key i x.1 y h1 h2).2.2.2 hm;rw[eY (N1 S.nd) (show(x.1,x.2)∈Pc.ts from hx)] at z;rw[show j0 (j4 ((s1++s2).zip row)) x.1=y from h3];exact z
 .obtain⟨i,y,h1,h2,h3⟩:=UX x.1 (S.o.mem.mpr (S.fin x hx));have z:=(key i x.1 y h1 h2).2.1;unfold M9 at z;rw[if_pos (HP.mpr ⟨x,hx,rfl⟩),Q0 S.fnd (show(x.1,x.2)∈fx from hx)] at z;rw[h3];exact IY z
theorem qF (S:SrchP L Pc W s1 s2 gp gt fx){row:List Str}(f:Y9 Pc W (j4 ((s1++s2).zip row)))(d:me fx (s1++s2) row){n:Str}(hn:n∈h9 Pc):M9 fx n (gv (s1++s2) row n)=true:=
 AR S.fnd d (λy hy e=>Et f.nd (S.fin y hy) hn e) rfl
theorem uP (S:SrchP L Pc W s1 s2 gp gt fx){row:List Str}(f:Y9 Pc W (j4 ((s1++s2).zip row)))(d:me fx (s1++s2) row){x:Str×Str}(hx:x∈Pc.pts):gv (s1++s2) row x.1∈oR L gp fx x.1:=by
 have z:=f.pts x hx;exact mem_ch.mpr ⟨S.o'.p1.mem_iff.mpr (HP.mpr ⟨_,z,rfl⟩),S.lc row f x hx,qF S f d (HU _ (HP.mpr ⟨x,hx,rfl⟩))⟩
theorem xJ (S:SrchP L Pc W s1 s2 gp gt fx){row:List Str}(f:Y9 Pc W (j4 ((s1++s2).zip row)))(d:me fx (s1++s2) row){x:Str×F0}(hx:x∈Pc.ts):gv (s1++s2) row x.1∈tP W gt fx (s1++s2) row x:=by
 have z:=f.ts x hx;exact mem_pl.mpr ⟨S.o'.p2.mem_iff.mpr (HP.mpr ⟨_,z,rfl⟩),eY (N1 S.nd') z,qF S f d (Ia _ (HP.mpr ⟨x,hx,rfl⟩))⟩
theorem Cd (S:SrchP L Pc W s1 s2 gp gt fx){row:List Str}(f:Y9 Pc W (j4 ((s1++s2).zip row)))(d:me fx (s1++s2) row):uQ (Pc.pts.map λx=>oR L gp fx x.1)=true:=by
 refine Ae (r:=λx=>gv (s1++s2) row x.1) (λx hx=>uP S f d hx) ?_;have z:=f.nd;unfold h9 at z;rw[HL,Iy] at z;exact(Iu.mp z).1
theorem rW (S:SrchP L Pc W s1 s2 gp gt fx){row:List Str}(hl:row.length=(s1++s2).length){i:Nat}{x:Str×F0}(h1:∃j:Nat,j<i/\(s1++s2)[j]?=some x.2.2.1)(h2:∃j:Nat,j<i/\(s1++s2)[j]?=some x.2.2.2):tP W gt fx (s1++s2) (row.take i) x=tP W gt fx (s1++s2) row x:=by
 obtain⟨j1,a1,b1⟩:=h1;obtain⟨j2,a2,b2⟩:=h2;unfold tP;rw[gQ S.nn hl b1 a1,gQ S.nn hl b2 a2]
theorem Cm (S:SrchP L Pc W s1 s2 gp gt fx){row:List Str}(hl:row.length=(s1++s2).length)(f:Y9 Pc W (j4 ((s1++s2).zip row)))(d:me fx (s1++s2) row):Ft (U6 L Pc W gp gt fx (s1++s2)) 0 row:=by
 have nn:=S.nn;have e:=wB nn hl;have Wj:row.Nodup:=by
  rw[←e];exact((S.o.perm.map (gv (s1++s2) row)).nodup_iff).mpr f.nd
 intro i x _ hx;have Wi:=bY hx;have hn:(s1++s2)[i]?=some ((s1++s2)[i]'(by lia)):=HH (by lia);generalize (s1++s2)[i]'(by lia)=n at hn;have hg:gv (s1++s2) row n=x:=mS nn hn hx;have j':(row.take i).length=i:=by rw[HV];lia
 have QY:x∉row.take i:=λz=>by
  obtain⟨j,hj⟩:=iB z;rw[Me] at hj;split at hj
  .next hji=>
   have z2:=(Ox (bY hj) Wj).mp (hj.trans hx.symm);lia
  .cases hj
 unfold U6;rw[j',hn];dsimp only;rcases S.is1 hn with⟨h1,h2⟩|⟨h1,h2⟩
 .rw[if_neg h1];have hm:n∈Pc.pts.map (·.1):=by
   rcases Ic.mp (S.o.mem.mp (HX hn)) with z|z
   .exact z
   .exact absurd z h1
  obtain⟨y,hy,ey⟩:=HP.mp hm;have hc:=uP S f d hy;rw[ey,hg] at hc;refine Ik.mpr ⟨Ik.mpr ⟨hc,by simpa using QY⟩,?_⟩;have et:row.take i++[x]=row.take (i+1):=by rw[IE,hx];rfl
  rw[et];have Qg:s1[i]=n:=by
   rw[Je h2,HH h2] at hn;exact Ie hn
  refine Ae (r:=λt=>gv (s1++s2) row t.1) (λt ht=>?_) ?_
  .unfold bq at ht;rw[Ik,Ii] at ht;have he:=S.ends t ht.1;have m1:¬(s1[i].cps.toList<t.2.2.1.cps.toList):=by
    rw[Qg,←ht.2];unfold yq;split
    .next z=>exact MA z
    .exact Mi _
   have m2:¬(s1[i].cps.toList<t.2.2.2.cps.toList):=by
    rw[Qg,←ht.2];unfold yq;split
    .exact Mi _
    .next z=>exact z
   obtain⟨j1,a1,b1⟩:=gL S h2 he.1 m1;obtain⟨j2,a2,b2⟩:=gL S h2 he.2 m2;rw[rW S hl ⟨j1,by lia,b1⟩ ⟨j2,by lia,b2⟩];exact xJ S f d ht.1
  .have z:=f.nd;unfold h9 at z;rw[HL,Iy,Iy] at z;exact((Iu.mp z).2.1).sublist (Jf.map _)
 .rw[if_pos h1];have l_:=bp h1;have he:=S.ends _ l_;obtain⟨j1,Zg,Ry⟩:=S.pt_idx he.1;obtain⟨j2,Zh,RB⟩:=S.pt_idx he.2;have hp:=xJ S f d l_;rw[←rW S hl (i:=i) ⟨j1,by lia,Ry⟩ ⟨j2,by lia,RB⟩] at hp;refine Ik.mpr ⟨?_,by simpa using QY⟩;have YY:gv (s1++s2) row (n,E2 Pc.ts n).1=x:=hg;rw[YY] at hp;exact hp
open Classical in
noncomputable def gu (Pc W:A6)(s1 s2 gp gt:List Str)(fx:List (Str×Str)):List (List Str):=(gn (om s1 s2 gp gt) []).filter λrow=>decide (Y9 Pc W (j4 ((s1++s2).zip row))/\me fx (s1++s2) row)
theorem nG {row:List Str}(h:row∈gn (om s1 s2 gp gt) []):row.length=(s1++s2).length:=by
 obtain⟨t,e,hl,_⟩:=dZ h;rw[e,MU,hl,jr]
open Classical in
theorem wx (S:SrchP L Pc W s1 s2 gp gt fx):eZ (U6 L Pc W gp gt fx (s1++s2)) (s1++s2).length []=gu Pc W s1 s2 gp gt fx:=by
 rw[←jr (gp:=gp) (gt:=gt),yb λj c hc b' hb=>vW S hc (by rw[hb];simp)];unfold gu;refine O6 λrow m_=>?_;have hl:=nG m_;rw[II,Ii,Ii];exact⟨λok=>Ba S hl ok,λh=>Cm S hl h.1 h.2⟩
open Classical in
theorem tE (S:SrchP L Pc W s1 s2 gp gt fx)(h:uQ (Pc.pts.map λx=>oR L gp fx x.1)=false):gu Pc W s1 s2 gp gt fx=[]:=by
 unfold gu;refine Lo.mpr λrow _ z=>?_;have z:=IY z;rw[Cd S z.1 z.2] at h;cases h
end
def kM (K:Qc):Sp:=λvs H Q _=>∃(d:Addr) (n im:Str) (fx:List (Str×Str)),vs=[.str n,.str im,.ref d]/\H d=some (.dK (j4 fx))/\∀H',Same H H'->Q (.bl (M9 fx n im)) H'
theorem nS {pts:List (Str×Str)}{n:Str}(h:n∈pts.map (·.1)):p9 (j4 pts) (Sum.inr n:j3)=some (.str (j0 (j4 pts) n)):=by
 cases e:p9 (j4 pts) (Sum.inr n:j3) with
 |none=>have z:=F9 (pts:=pts) (n:=n);rw[e,IA h] at z;cases z
 |some v=>
  obtain⟨k',rfl,_⟩:=lX e
  rw[cc e]
theorem wM {pts:List (Str×Str)}:(j4 pts).map (·.2)=(pts.map (·.2)).map V.str:=by unfold j4;rw[Iy,Iy];rfl
abbrev ix (P:Program)(w:World)(K:Qc)(mg:Str->Option Value)(base:Heap):Prop:=K3 P w K mg base B8 1 "may_be" ["name","image","fixed"] [] (kM K)
theorem sx {f:Addr}{fd:FuncData}(T:Txt K mg)(F:Fun K "may_be" "may_be" ie f fd):A1 P w K mg base B8 1 f fd ["name","image","fixed"] (kM K):=by
 refine F.ok sc_may_be (λvs H Q E h=>?_) (λd_ A outer s H vs Q E hr h=>?_)
 .obtain⟨d,n,im,fx,rfl,_⟩:=h;rfl
 .obtain⟨d,n,im,fx,rfl,hd,k⟩:=h;have hN:=sc_may_be.nd;have hu:=u6 hr;refine⟨_,QSs.r (u7 (aU (u4 (kIn K hu) (qV 0) (qV 2) (by rfl)) (B0 (A0 (dy (G8 K hr) (qV 1) (k7 (k8 K hu) (qV 2) (qV 0) (λ_ _=>rfl)) (p8 _)))) ck)
   (B0 (A0 (dy (aA K hu) (qV 1) (fu (eW K rfl) T.b_list Boot.«list» (i9 (ER Jc Kb KR Q6 K (qV 2)) j6)) (by rfl))))),?_⟩
  walk_at "r";refine P5 (G7 (k:=Sum.inr n) (.inl hd)) ?_;rw[F9];walk_at "r";refine C4 (λh1=>?_) (λh1=>?_)
  .walk_at "r";refine C2 (v:= .str (j0 (j4 fx) n)) (by have z:=G7 (k:=Sum.inr n) (.inl hd);rw[nS h1] at z;exact z) ?_;walk_at "r";have e:M9 fx n im=decide (im=j0 (j4 fx) n):=by unfold M9;rw[if_pos h1]
   rw[←e];exact k H (Same.refl H)
  .walk_at "r";refine⟨.inr (.inr (.inl ⟨rfl,.inl ⟨_,hd⟩⟩)),?_⟩;walk_at "r";refine⟨d,_,rfl,rfl,.inl hd,λv1 n1=>?_⟩;obtain⟨H1,e1,f1,m1,_⟩:=b0 (o:= .ext (mP v1 d)) n1;rw[e1];walk_at "r";refine aY f1 (.inl (m1 _ _ hd)) (λl2 n2=>?_);obtain⟨H2,e2,f2,m2,_⟩:=b0 (o:= .lst _) n2;rw[e2];refine U4 (gs:=fx.map (·.2)) (SqL.of (by rw[f2,wM])) ?_;have e:M9 fx n im=!decide (im∈fx.map (·.2)):=by unfold M9;rw[if_neg h1]
   rw[←e];exact k H2 (m1.trans m2)
def LstAt (H:Hp)(v:V)(l:List Str):Prop:=∃a,v= .ref a/\H a=some (.lst (l.map V.str))
theorem LstAt.same {H H':Hp}{v:V}{l:List Str}(h:LstAt H v l)(s:Same H H'):LstAt H' v l:=let ⟨a,e,z⟩:=h;⟨a,e,s _ _ z⟩
def ChAt (H:Hp)(F:Str×Str->List Str)(kvs:List (j3×V))(pts:List (Str×Str)):Prop:=Paired (λkv x=>kv.1=Sum.inr x.1/\LstAt H kv.2 (F x)) kvs pts
theorem ChAt.same {H H':Hp}{F:Str×Str->List Str}{kvs:List (j3×V)}{pts:List (Str×Str)}(h:ChAt H F kvs pts)(s:Same H H'):ChAt H' F kvs pts:=Paired.imp' (λ_ _ z=>⟨z.1,z.2.same s⟩) h
theorem ChAt.keys {H:Hp}{F:Str×Str->List Str}:∀{kvs:List (j3×V)} {pts:List (Str×Str)},ChAt H F kvs pts->kvs.map (·.1)=(pts.map (·.1)).map Sum.inr
 |_,_,.nil=>rfl
 |_,_,.cons a t=>by rw[IP,a.1,ChAt.keys t];rfl
theorem sZ {p:Str->Bool}{s:List Str}{i:Nat}{x:Str}(h:s[i]?=some x)(hp:p x=true):(s.take (i+1)).filter p=(s.take i).filter p++[x]:=by
 rw[IE,h,IS];show _++List.filter p [x]=_;rw[IQ hp];rfl
theorem pQ {p:Str->Bool}{s:List Str}{i:Nat}{x:Str}(h:s[i]?=some x)(hp:p x=false):(s.take (i+1)).filter p=(s.take i).filter p:=by
 rw[IE,h,IS];show _++List.filter p [x]=_;rw[IW (by rw[hp];decide)];simp
theorem fG {p:Str->Bool}{s:List Str}{i:Nat}:((s.take i).filter p).length<=s.length:=Ip (HY _ _) (by rw[HV];lia)
theorem O0 {p b:Addr}{o:Obj}{kvs:List (j3×V)}{H:Hp}(h:b≠p):E3 p o kvs H b=H b:=b7 h
theorem Bj {p:Addr}{o:Obj}{kvs:List (j3×V)}{H:Hp}:E3 p o kvs H p=some (.frz o (.dK kvs)):=b9
theorem dC {p:Addr}{o:Obj}{kvs:List (j3×V)}{H H1:Hp}(s:Same H H1):Same (E3 p o kvs H) (E3 p o kvs H1):=λb u hb=>by
 by_cases z:b=p
 .rw[z,Bj] at hb⊢;exact hb
 .rw[O0 z] at hb⊢;exact s _ _ hb
theorem zi {kvs:List (j3×V)}{pp:List (Str×Str)}{i:Nat}{kv:j3×V}(h:kvs.map (·.1)=(pp.map (·.1)).map Sum.inr)(e:kvs[i]?=some kv):∃x,pp[i]?=some x/\kv.1=Sum.inr x.1:=by
 have z:(kvs.map (·.1))[i]?=some kv.1:=by rw[HK,e];rfl
 rw[h,HK,HK] at z;cases e2:pp[i]? with
 |none=>rw[e2] at z;cases z
 |some x=>rw[e2] at z;exact⟨x,rfl,(Ie z).symm⟩
theorem yT {kvs:List (j3×V)}{k:j3}(h:k∈kvs.map (·.1)):∃u,p9 kvs k=some u:=by
 induction kvs with
 |nil=>cases h
 |cons p r ih=>
  by_cases e:p.1=k
  .exact⟨p.2,C3 e⟩
  .rw[C6 e]
   exact ih ((Iz.mp h).resolve_left λz=>e z.symm)
def Z1 (K:Qc):Sp:=λvs H Q _=>∃(p g d:Addr) (e_ v_:List (j3×V)) (pp gg fx:List (Str×Str)) (L:Str->Str->Bool) (gp:List Str),vs=[.ref p,.ref g,.ref d]/\H p=some (.dK e_)/\e_.map (·.1)=(pp.map (·.1)).map Sum.inr/\(pp.map (·.1)).Nodup/\pp.length<=30/\Rd H g (.dK v_)/\v_.map (·.1)=(gg.map (·.1)).map Sum.inr/\(gg.map (·.1)).Nodup/\gg.length<=30/\gp.Perm (gg.map (·.1))/\sortedS gp=true/\
 (∀(n:Str) (v:V) (m:Str) (u:V),(Sum.inr n,v)∈e_->p9 v_ (Sum.inr m:j3)=some u->EqA K H u v (L n m))/\H d=some (.dK (j4 fx))/\d≠p/\
 ∀(c:Addr) (H':Hp) (kvs:List (j3×V)),H c=none->Same H H'->H' c=some (.dK kvs)->ChAt H' (λx=>oR L gp fx x.1) kvs pp->Q (.ref c) H'
abbrev aR (P:Program)(w:World)(K:Qc)(mg:Str->Option Value)(base:Heap):Prop:=K3 P w K mg base B8 2 "point_choices" ["piece_looks","web_looks","fixed"] [] (Z1 K)
theorem fc {f:Addr}{fd:FuncData}(T:Txt K mg)(Z2:ix P w K mg base)(F:Fun K "point_choices" "point_choices" Q8 f fd):A1 P w K mg base B8 2 f fd ["piece_looks","web_looks","fixed"] (Z1 K):=by
 refine F.ok sc_point_choices (λvs H Q E h=>?_) (λd_ A outer s H vs Q E hr h=>?_)
 .obtain⟨p,g,d,e_,v_,pp,gg,fx,L,gp,rfl,_⟩:=h;rfl
 .obtain⟨p,g,d,e_,v_,pp,gg,fx,L,gp,rfl,hp,hkp,npp,lpp,hg,hkg,ngg,lgg,pgp,ogp,hEq,hd,Ti,k⟩:=h;have lkp:e_.length=pp.length:=by have z:=Jm List.length hkp;rwa [HI,HI,HI] at z
  have ngp:gp.Nodup:=pgp.nodup_iff.mpr ngg;have Wk:gp.length<=30:=by rw[pgp.length_eq,HI];exact lgg
  have hN:=sc_point_choices.nd;have hu:=u6 hr;refine⟨_,QSs.r (u7 (j8 (i:=3) hN rfl (by walk_at "l") uH)
   (u7 (P2 IK rfl (R6 (qV 0)) (pP K rfl (dw (G1 (i:=4) hN rfl (by walk_at "l")) (dw (G1 (i:=5) hN rfl (by walk_at "l")) pI)))
    (u7 (bG (i:=6) hN rfl (by walk_at "l") (own:=["image"]) (js:=[5,1]) (by kernel_rfl) rfl (N7 K (qB (F4 K rfl) T.b_sorted Boot.«sorted» (i9 (qV 1) j6))) (λ_ _ _ _=>(G1 (i:=0) (show List.Nodup (["image","look","web_looks"]:List Str) by decide+kernel) rfl (by walk_at "l"))) (λ_ _ _ _=>(iS (u4 (EZ K hr) (k7 (k8 K hu) (qV 2) (qV 0) (λ_ _=>rfl)) (qV 1) (p8 _)))) (λ_ _ _ _=>(qV 0)))
   (B0 (aw (E7 (own:=["image"]) (js:=[4,2]) (by kernel_rfl) rfl (N7 K (qV 6)) (λ_ _ _ _=>(G1 (i:=0) (show List.Nodup (["image","name","fixed"]:List Str) by decide+kernel) rfl (by walk_at "l"))) (λ_ _ _ _=>(iS (N2 K (qC Z2 (hr.mono (by decide)) j7 (i9 (qV 1) (i9 (qV 0) (i9 (qV 2) j6))))))) (λ_ _ _ _=>(qV 0))) (lV (qV 3) (qV 4) (z9 P w hu))))))
   (B0 (A0 (qV 3))))),?_⟩
  walk_at "r";intro c nc;obtain⟨H1,e1,f1,m1,_⟩:=b0 (o:= .dK []) nc;rw[e1];walk_at "r";have Ov:=m1 _ _ hp;have Qi:c≠p:=(i8 hp nc).symm;refine D4 Ov (λSr o1=>?_);refine J2 (n:=e_.length) (λi σ H'=>∃(kvs:List (j3×V)) (v1 v2 v3:Option V),σ=[some (.ref p),some (.ref g),some (.ref d),some (.ref c),v1,v2,v3]/\Same (E3 p o1 e_ H) H'/\H' c=some (.dK kvs)/\ChAt H' (λx=>oR L gp fx x.1) kvs (pp.take i)) ⟨[],none,none,none,rfl,?_,?_,.nil⟩ (λi σ H' hi hp=>?_) ?_ ?_
  .exact dC m1
  .rw[O0 Qi];exact f1
  .obtain⟨_,_,_,_,_,s,_⟩:=hp;exact⟨s _ _ b9,hi⟩
  .rintro bk i v σ H2' H2 hi ⟨kvs,v1,v2,v3,rfl,s2,Og,ch2⟩ ⟨t,kv,i',nt,rfl,rfl⟩;obtain⟨x,hx,ex⟩:=zi hkp i';obtain⟨kk,look⟩:=kv;have OK:kk=Sum.inr x.1:=ex;subst OK;have Ra:=HX i';obtain⟨H3,e3,f3,m3,_⟩:=b0 (o:= .tup _) nt;rw[e3];have s3:=s2.trans m3;have Zi:Rd H3 g (.dK v_):=((K9 hp).trans s3.le) _ _ rfl hg;have Tj:H3 d=some (.dK (j4 fx)):=s3 _ _ (by rw[O0 Ti];exact hd);refine J6 (SqT.of f3) rfl ?_;walk_at "r";refine z6 (ss:=gg.map (·.1)) Zi hkg (by rw[HI];lia) (λg1 a1 a2 l4 n4=>?_);have eg:g1=gp:=E4 a2 ogp (a1.nodup_iff.mpr ngg) (a1.trans pgp.symm);subst eg;obtain⟨H4,e4,f4,m4,_⟩:=b0 (o:= .lst _) n4;rw[e4];refine x9 (SqL.of f4) ?_;refine w5 (n:=g1.length) (λi out H'=>H'=H4/\out=((g1.take i).filter λim=>L x.1 im).map V.str) ⟨rfl,rfl⟩ (λi out H' hi hp=>⟨g1.map V.str,.str (g1[i]),SqL.of (by rw[hp.1];exact f4),by rw[HK,HH hi];rfl⟩) ?_ ?_
   .rintro N j v out H5 H5' hj ⟨rfl,rfl⟩ y hN';obtain⟨rfl,hy⟩:=Itl.get y (SqL.of f4);rw[HK] at hy;obtain⟨im,Pf,rfl⟩:=IL.mp hy;have l_:im∈gg.map (·.1):=a1.mem_iff.mp (HX Pf);walk_at "r";refine⟨rfl,?_⟩;walk_at "r";obtain⟨u,hu⟩:=yT (kvs:=v_) (k:=Sum.inr im) (by rw[hkg];exact HP.mpr ⟨im,l_,rfl⟩);refine C2 (v:=u) (by have z:=G7 (k:=Sum.inr im) (m4.rd Zi);rw[hu] at z;exact z) ?_;walk_at "r";refine EY (((hEq x.1 look im u Ra hu).mono (K9 hp)).mono (s3.trans m4).le) ?_;walk_at "r";refine X3 (λh1=>?_) (λh1=>?_)
    .walk_at "r";refine⟨d9 (by rw[HI];have:=fG (p:=λim=>L x.1 im) (s:=g1) (i:=j);lia),hN' _ _ ⟨rfl,?_⟩⟩;rw[sZ Pf h1,HL];rfl
    .exact hN' _ _ ⟨rfl,by rw[pQ Pf h1]⟩
   .rintro out H5 ⟨rfl,rfl⟩;refine⟨⟨_,SqL.of f4,by rw[HI];exact HJ _⟩,λD hD=>⟨d9 (by rw[HI];have:=fG (p:=λim=>L x.1 im) (s:=g1) (i:=g1.length);lia),?_⟩⟩;rw[HW (HJ _)];obtain⟨H6,e6,f6,m6,_⟩:=b0 (H:=H5) (o:= .lst ((g1.filter λim=>L x.1 im).map V.str)) hD;generalize Zj:(g1.filter λim=>L x.1 im)=al at e6 f6⊢;have p_:al.length<=30:=by rw[←Zj];exact Ip (HY _ _) Wk
    change P8 _ _ _ (p0 H5 D _) _;rw[e6];walk_at "r";refine x9 (SqL.of f6) ?_;refine w5 (n:=al.length) (λi out H'=>Same H6 H'/\out=((al.take i).filter (M9 fx x.1)).map V.str) ⟨Same.refl _,rfl⟩ (λi out H' hi hp=>⟨_,.str (al[i]),SqL.of (hp.1 _ _ f6),by rw[HK,HH hi];rfl⟩) ?_ ?_
    .rintro N j v out H7 H7' hj ⟨s7,rfl⟩ y hN';obtain⟨rfl,hy⟩:=Itl.get y (SqL.of (s7 _ _ f6));rw[HK] at hy;obtain⟨im,Pf,rfl⟩:=IL.mp hy;walk_at "r";refine⟨rfl,?_⟩;walk_at "r";refine⟨d,x.1,im,fx,rfl,s7 _ _ (m6 _ _ (m4 _ _ Tj)),λH8 m8=>?_⟩;walk_at "r";refine X3 (λh1=>?_) (λh1=>?_)
     .walk_at "r";refine⟨d9 (by rw[HI];have:=fG (p:=M9 fx x.1) (s:=al) (i:=j);lia),hN' _ _ ⟨s7.trans m8,?_⟩⟩;rw[sZ Pf h1,HL];rfl
     .exact hN' _ _ ⟨s7.trans m8,by rw[pQ Pf h1]⟩
    .rintro out H7 ⟨s7,rfl⟩;refine⟨⟨_,SqL.of (s7 _ _ f6),by rw[HI];exact HJ _⟩,λD2 hD2=>⟨d9 (by rw[HI];have:=fG (p:=M9 fx x.1) (s:=al) (i:=al.length);lia),?_⟩⟩;rw[HW (HJ _)];obtain⟨H8,e8,f8,m8,_⟩:=b0 (H:=H7) (o:= .lst ((al.filter (M9 fx x.1)).map V.str)) hD2;have Wl:=m4.trans (m6.trans (s7.trans m8));change yi _ _ (p0 H7 D2 _) _;rw[e8];have Zk:H8 c=some (.dK kvs):=Wl _ _ (m3 _ _ Og);have Wm:=IC ch2;rw[HV] at Wm;walk_at "r";refine G9 (x6 (k:=Sum.inr x.1) Zk (d9 (by lia)) ?_);have fr:x.1∉(pp.take i).map (·.1):=λz=>by
      have e7:pp.take (i+1)=pp.take i++[x]:=by rw[IE,hx];rfl
      have w:((pp.take (i+1)).map (·.1)).Nodup:=npp.sublist ((JL _ _).map _);rw[e7,HL] at w;exact(Iu.mp w).2.2 x.1 z x.1 (by simp) rfl
     have ek:D0 kvs (Sum.inr x.1:j3) (.ref D2)=kvs++[(Sum.inr x.1,.ref D2)]:=E6 _ (D5 (by rw[ch2.keys];exact λm=>fr (K7 m)));have Wn:(E3 p o1 e_ H) c=none:=by rw[O0 Qi];exact nc
     have Zl:∀{v:V} {l:List Str},LstAt H8 v l->LstAt (p0 H8 c (.dK (kvs++[(Sum.inr x.1,V.ref D2)]))) v l:=fun{v l} ⟨a,ea,z⟩=>⟨a,ea,by rw[b7 (λq=>by rw[q,Zk] at z;cases z)];exact z⟩
     refine⟨kvs++[(Sum.inr x.1,.ref D2)],_,_,_,rfl,A3 (s3.trans Wl) Wn,by rw[b9,ek],?_⟩;rw[ek,show pp.take (i+1)=pp.take i++[x] by rw[IE,hx];rfl];refine p7 (Paired.imp' (λ_ _ z=>⟨z.1,Zl (z.2.same (m3.trans Wl))⟩) ch2) ⟨rfl,Zl ⟨D2,rfl,?_⟩⟩;rw[f8];show _=some (HO.lst ((oR L g1 fx x.1).map V.str));unfold oR;rw[show(List.filter (L x.1) g1)=al from Zj]
  .rintro σ H2 ⟨kvs,v1,v2,v3,rfl,s2,Og,ch2⟩;refine⟨⟨s2 _ _ b9,HJ _⟩,?_⟩;walk_at "r";have Wo:thaw p H2 c=some (.dK kvs):=by rw[O8 Qi];exact Og
   rw[HW (by rw[lkp];exact HJ _)] at ch2;refine k c _ kvs nc (Same.thaw hp s2) Wo (Paired.imp' (λkv x z=>⟨z.1,?_⟩) ch2);obtain⟨a,ea,za⟩:=z.2;have hap:a≠p:=λq=>by rw[q,s2 _ _ b9] at za;cases za
   exact⟨a,ea,by rw[O8 hap];exact za⟩
abbrev k2 (a b:Str):List j3:=[Sum.inr a,Sum.inr b]
structure TH (HB H:Hp) (t:Addr) (kvs:List (List j3×V)) (F:Str->Str->List Str):Prop where
 at_:H t=some (.dT kvs)
 no:∀a b,p9 kvs (k2 a b)=none->F a b=[]
 so:∀a b v,p9 kvs (k2 a b)=some v->∃l,v= .ref l/\H l=some (.lst ((F a b).map V.str))/\HB l=none
 inj:∀a b a' b' v,p9 kvs (k2 a b)=some v->p9 kvs (k2 a' b')=some v->a=a'/\b=b'
theorem TH.same {HB H H2:Hp}{t:Addr}{kvs:List (List j3×V)}{F:Str->Str->List Str}(h:TH HB H t kvs F)(s:Same H H2):TH HB H2 t kvs F:=
 ⟨s _ _ h.at_,h.no,λa b v e=>let ⟨l,q,z,f⟩:=h.so a b v e;⟨l,q,s _ _ z,f⟩,h.inj⟩
theorem TH.ext {HB H:Hp}{t:Addr}{kvs:List (List j3×V)}{F G:Str->Str->List Str}(h:TH HB H t kvs F)(e:∀a b,G a b=F a b):TH HB H t kvs G:=by
 have:G=F:=funext λa=>funext λb=>e a b;rw[this];exact h
theorem TH.hit {HB H:Hp}{t l:Addr}{kvs:List (List j3×V)}{F G:Str->Str->List Str}{a' b' im:Str}(h:TH HB H t kvs F)(hv:p9 kvs (k2 a' b')=some (.ref l))(h1:G a' b'=F a' b'++[im])(h2:∀a b,¬(a=a'/\b=b')->G a b=F a b):
  TH HB (p0 H l (.lst ((F a' b').map V.str++[.str im]))) t kvs G:=by
 obtain⟨l',e',z',f'⟩:=h.so _ _ _ hv
 cases e'
 have Rb:t≠l:=λq=>by rw[←q,h.at_] at z';cases z'
 refine⟨by rw[b7 Rb];exact h.at_,λa b e=>?_,λa b v e=>?_,h.inj⟩
 .by_cases q:a=a'/\b=b'
  .rw[q.1,q.2,hv] at e;cases e
  .rw[h2 a b q];exact h.no a b e
 .by_cases q:a=a'/\b=b'
  .obtain⟨rfl,rfl⟩:=q
   rw[hv] at e
   cases e
   exact⟨l,rfl,by rw[b9,h1,HL];rfl,f'⟩
  .obtain⟨l2,e2,z2,f2⟩:=h.so a b v e
   refine⟨l2,e2,?_,f2⟩
   have:l2≠l:=λw=>q (by
    rw[e2,w] at e;exact h.inj a b a' b' _ e hv)
   rw[b7 this,h2 a b q];exact z2
theorem TH.miss {HB H:Hp}{t l:Addr}{kvs:List (List j3×V)}{F G:Str->Str->List Str}{a' b' im:Str}(h:TH HB H t kvs F)(hv:p9 kvs (k2 a' b')=none)(hl:HB l=none)(k_:∀a b,p9 kvs (k2 a b)≠some (.ref l))(j':l≠t)(h1:G a' b'=F a' b'++[im])(h2:∀a b,¬(a=a'/\b=b')->G a b=F a b):
  TH HB (p0 (p0 H t (.dT (D0 kvs (k2 a' b') (.ref l)))) l (.lst ([]++[.str im]))) t (D0 kvs (k2 a' b') (.ref l)) G:=by
 have hk:∀{a b:Str},¬(a=a'/\b=b')->k2 a b≠k2 a' b':=fun{a b} q w=>by
  have w1:=Kj w;have w2:=Kj w1.2;exact q ⟨Jx w1.1,Jx w2.1⟩
 refine⟨by rw[b7 j'.symm,b9],λa b e=>?_,λa b v e=>?_,λa b c d v e e'=>?_⟩
 .by_cases q:a=a'/\b=b'
  .rw[F7,if_pos (by rw[q.1,q.2])] at e;cases e
  .rw[F7,if_neg (hk q)] at e
   rw[h2 a b q];exact h.no a b e
 .by_cases q:a=a'/\b=b'
  .obtain⟨rfl,rfl⟩:=q
   rw[F7,if_pos rfl] at e
   cases e
   exact⟨l,rfl,by rw[b9,h1,h.no _ _ hv];rfl,hl⟩
  .rw[F7,if_neg (hk q)] at e
   obtain⟨l2,e2,z2,f2⟩:=h.so a b v e
   have w1:l2≠l:=λw=>k_ a b (by rw[e,e2,w])
   have w2:l2≠t:=λw=>by rw[w,h.at_] at z2;cases z2
   exact⟨l2,e2,by rw[b7 w1,b7 w2,h2 a b q];exact z2,f2⟩
 .by_cases q:a=a'/\b=b'
  .by_cases q':c=a'/\d=b'
   .exact⟨q.1.trans q'.1.symm,q.2.trans q'.2.symm⟩
   .rw[F7,if_pos (by rw[q.1,q.2])] at e
    rw[F7,if_neg (hk q')] at e'
    cases e
    exact absurd e' (k_ c d)
  .by_cases q':c=a'/\d=b'
   .rw[F7,if_pos (by rw[q'.1,q'.2])] at e'
    rw[F7,if_neg (hk q)] at e
    cases e'
    exact absurd e (k_ a b)
   .rw[F7,if_neg (hk q)] at e
    rw[F7,if_neg (hk q')] at e'
    exact h.inj a b c d v e e'
def PlAt (H:Hp)(v:V)(F:Str->Str->List Str):Prop:=∃(t:Addr) (kvs:List (List j3×V)),v= .ref t/\H t=some (.dT kvs)/\(∀a b,p9 kvs (k2 a b)=none->F a b=[])/\∀a b v,p9 kvs (k2 a b)=some v->LstAt H v (F a b)
theorem PlAt.same {H H':Hp}{v:V}{F:Str->Str->List Str}(h:PlAt H v F)(s:Same H H'):PlAt H' v F:=
 let ⟨t,kvs,e,a,n,z⟩:=h;⟨t,kvs,e,s _ _ a,n,λx y v q=>(z x y v q).same s⟩
def PlsAt (H:Hp)(F:Str×F0->Str->Str->List Str)(kvs:List (j3×V))(ts:List (Str×F0)):Prop:=Paired (λkv x=>kv.1=Sum.inr x.1/\PlAt H kv.2 (F x)) kvs ts
theorem PlsAt.keys {H:Hp}{F:Str×F0->Str->Str->List Str}:∀{kvs:List (j3×V)} {ts:List (Str×F0)},PlsAt H F kvs ts->kvs.map (·.1)=(ts.map (·.1)).map Sum.inr
 |_,_,.nil=>rfl
 |_,_,.cons a t=>by rw[IP,a.1,PlsAt.keys t];rfl
theorem PlsAt.same {H H':Hp}{F:Str×F0->Str->Str->List Str}{kvs:List (j3×V)}{ts:List (Str×F0)}(h:PlsAt H F kvs ts)(s:Same H H'):PlsAt H' F kvs ts:=Paired.imp' (λ_ _ z=>⟨z.1,z.2.same s⟩) h
theorem thaw_at {q a:Addr}{H:Hp}{o:Obj}{w u:HO}(hq:H q=some (.frz o w))(ha:H a=some u)(hu:∀o' w',u≠ .frz o' w'):thaw q H a=some u:=by
 have:a≠q:=λz=>by rw[z,hq] at ha;cases ha;exact hu _ _ rfl
 rw[O8 this];exact ha
theorem LstAt.thaw {q:Addr}{H:Hp}{o:Obj}{w:HO}{v:V}{l:List Str}(hq:H q=some (.frz o w))(h:LstAt H v l):LstAt (thaw q H) v l:=let ⟨a,e,z⟩:=h;⟨a,e,thaw_at hq z (λ_ _ z=>nomatch z)⟩
theorem PlAt.thaw {q:Addr}{H:Hp}{o:Obj}{w:HO}{v:V}{F:Str->Str->List Str}(hq:H q=some (.frz o w))(h:PlAt H v F):PlAt (thaw q H) v F:=
 let ⟨t,kvs,e,a,n,z⟩:=h;⟨t,kvs,e,thaw_at hq a (λ_ _ z=>nomatch z),n,λx y v q=>(z x y v q).thaw hq⟩
def cw (K:Qc):Sp:=λvs H Q _=>∃(a p q a' p' q' d:Addr) (kvs c_:List (j3×V)) (Pc W:A6) (fx:List (Str×Str)) (gt:List Str),vs=[.ref a,.ref a',.ref d]/\WebAt K H a p q kvs Pc/\H q=some (.dK kvs)/\(Pc.ts.map (·.1)).Nodup/\Pc.ts.length<=30/\WebAt K H a' p' q' c_ W/\(W.ts.map (·.1)).Nodup/\W.ts.length<=30/\gt.Perm (W.ts.map (·.1))/\sortedS gt=true/\H d=some (.dK (j4 fx))/\d≠q/\
 ∀(c:Addr) (H':Hp) (e_:List (j3×V)),H c=none->Same H H'->H' c=some (.dK e_)->PlsAt H' (λx a b=>rR W gt fx x.1 (x.2.1,a,b)) e_ Pc.ts->Q (.ref c) H'
abbrev dX (P:Program)(w:World)(K:Qc)(mg:Str->Option Value)(base:Heap):Prop:=K3 P w K mg base B8 2 "tie_places" ["piece","web","fixed"] [] (cw K)
theorem jF {f:Addr}{fd:FuncData}(T:Txt K mg)(Z2:ix P w K mg base)(F:Fun K "tie_places" "tie_places" aG f fd):A1 P w K mg base B8 2 f fd ["piece","web","fixed"] (cw K):=by
 refine F.ok sc_tie_places (λvs H Q E h=>?_) (λd_ A outer s H vs Q E hr h=>?_)
 .obtain⟨a,p,q,a',p',q',d,kvs,c_,Pc,W,fx,gt,rfl,_⟩:=h;rfl
 .obtain⟨a,p,q,a',p',q',d,kvs,c_,Pc,W,fx,gt,rfl,hP,hq,UK,lP,hW,Tn,lW,pgt,ogt,hd,To,k⟩:=h;have Zm:gt.length<=30:=by rw[pgt.length_eq,HI];exact lW
  have NO:=hP.ts.length;have hN:=sc_tie_places.nd;have hu:=u6 hr;refine⟨_,QSs.r (u7 (j8 (i:=3) hN rfl (by walk_at "l") uH)
   (u7 (P2 IK rfl (R6 (k7 (k8 K hu) (qV 0) d8 (λ_ _=>rfl))) (pP K rfl (dw (G1 (i:=4) hN rfl (by walk_at "l")) (dw (G1 (i:=5) hN rfl (by walk_at "l")) pI)))
    (u7 (j8 (i:=6) hN rfl (by walk_at "l") Ge)
   (u7 (P2 IK rfl (N7 K (qB (F4 K rfl) T.b_sorted Boot.«sorted» (i9 (k7 (k8 K hu) (qV 1) d8 (λ_ _=>rfl)) j6))) (G1 (i:=7) hN rfl (by walk_at "l"))
    (u7 (j8 (i:=8) hN rfl (by walk_at "l") (k7 (k8 K hu) (k7 (k8 K hu) (qV 1) d8 (λ_ _=>rfl)) (qV 7) (λ_ _=>rfl)))
   (B0 (aU (pJ (cM (u4 (G8 K hr) (k7 (k8 K hu) (qV 8) d8 (λ_ _=>rfl)) (k7 (k8 K hu) (qV 5) d8 (λ_ _=>rfl)) (p8 _)) (bF (N2 K (qC Z2 (hr.mono (by decide)) j7 (i9 (qV 4) (i9 (qV 7) (i9 (qV 2) j6)))))))) (B0 (oP (qM IT IZ Ja z8 K (qM Jc PySem.F.slot_dict_setdefault PySem.F.type_dict_setdefault (cq hr) K (qV 6) (i9 (EE (Df K) (qV 8) (CV d8) Fq) (i9 (bR j6) j6))) (i9 (qV 7) j6)))) ck))))
   (B0 (aw (qV 6) (lV (qV 3) (qV 4) (z9 P w hu)))))))
   (B0 (A0 (qV 3))))),?_⟩
  walk_at "r";intro c nc;obtain⟨H1,e1,f1,m1,_⟩:=b0 (o:= .dK []) nc;rw[e1];have Zn:c≠q:=(i8 hq nc).symm;walk_at "r";refine b5 (m1.tup hP.tup) (b4 (j:=1) rfl) ?_;refine D4 (m1 _ _ hq) (λSs o1=>?_);refine J2 (n:=kvs.length) (λi σ H'=>∃(e_:List (j3×V)) (v1 v2 v3 v4 v5:Option V),σ=[some (.ref a),some (.ref a'),some (.ref d),some (.ref c),v1,v2,v3,v4,v5]/\Same (E3 q o1 kvs H) H'/\H' c=some (.dK e_)/\PlsAt H' (λx a b=>rR W gt fx x.1 (x.2.1,a,b)) e_ (Pc.ts.take i)) ⟨[],none,none,none,none,none,rfl,dC m1,by rw[O0 Zn];exact f1,.nil⟩ (λi σ H' hi hp=>?_) ?_ ?_
  .obtain⟨_,_,_,_,_,_,_,s,_⟩:=hp;exact⟨s _ _ b9,hi⟩
  .rintro bk i v σ H2' H2 hi ⟨e_,v1,v2,v3,v4,v5,rfl,s2,Og,pl2⟩ ⟨t,kv,i',nt,rfl,rfl⟩;obtain⟨H3,e3,f3,m3,_⟩:=b0 (o:= .tup _) nt;rw[e3];have s3:=s2.trans m3;have UY:=(K9 (o:=o1) hq).trans s3.le;have P3:=hP.mono UY;have W3:=hW.mono UY;have Tj:H3 d=some (.dK (j4 fx)):=s3 _ _ (by rw[O0 To];exact hd);obtain⟨x,hx,ex,tb,eb,sb⟩:=P3.ts.get i';obtain⟨kk,Qj⟩:=kv;have OK:kk=Sum.inr x.1:=ex;have Qk:Qj= .ref tb:=eb;subst OK Qk;refine J6 (SqT.of f3) rfl ?_;walk_at "r";intro th nth;obtain⟨H4,e4,f4,m4,_⟩:=b0 (o:= .dT []) nth;rw[e4];walk_at "r";refine b5 (m4.tup W3.tup) (b4 (j:=1) rfl) ?_;walk_at "r";refine z6 (ss:=W.ts.map (·.1)) (m4.rd W3.ties) (by rw[W3.ts.keys,r6]) (by rw[HI];lia) (λg1 a1 a2 l5 n5=>?_);have eg:g1=gt:=E4 a2 ogt (a1.nodup_iff.mpr Tn) (a1.trans pgt.symm);subst eg;obtain⟨H5,e5,f5,m5,_⟩:=b0 (o:= .lst _) n5;rw[e5];refine x9 (SqL.of f5) ?_;have hl5:H3 l5=none:=m4.free n5;refine J2 (n:=g1.length) (λj σ H'=>∃(kt:List (List j3×V)) (w1 w2:Option V),σ=[some (.ref a),some (.ref a'),some (.ref d),some (.ref c),some (.str x.1),some (.ref tb),some (.ref th),w1,w2]/\Same H3 H'/\H' l5=some (.lst (g1.map V.str))/\kt.length<=j/\(∀A B,p9 kt (k2 A B)≠some (.ref l5))/\TH H3 H' th kt λA B=>(g1.take j).filter λim=>decide (E2 W.ts im=(x.2.1,A,B))&&M9 fx x.1 im) ⟨[],v4,v5,rfl,m4.trans m5,f5,HJ _,(λ_ _ z=>nomatch z),⟨m5 _ _ f4,(λ_ _ _=>rfl),(λ_ _ _ z=>nomatch z),λ_ _ _ _ _ z _=>nomatch z⟩⟩ (λj σ H' hj hp=>?_) ?_ ?_
   .obtain⟨_,_,_,_,_,z,_⟩:=hp;exact⟨g1.map V.str,.str (g1[j]),SqL.of z,by rw[HK,HH hj];rfl⟩
   .rintro bk2 j v σ H6' H6 hj ⟨kt,w1,w2,rfl,s6,RD,lk6,RE,th6⟩ y;obtain⟨rfl,hy⟩:=Itl.get y (SqL.of RD);rw[HK] at hy;obtain⟨im,Pf,rfl⟩:=IL.mp hy;have l_:im∈W.ts.map (·.1):=a1.mem_iff.mp (HX Pf);have W6:=W3.mono s6.le;obtain⟨aa,hv,hT⟩:=cf W6.ts Tn (bp l_);generalize Wq:E2 W.ts im=to at hT;obtain⟨t1,t2,t3⟩:=to;walk_at "r";refine b5 W6.tup (b4 (j:=1) rfl) ?_;walk_at "r";refine C2 (v:= .ref aa) (by have z:=G7 (k:=Sum.inr im) W6.ties;rw[hv] at z;exact z) ?_;walk_at "r";refine b5 hT (b4 (j:=0) rfl) ?_;walk_at "r";refine b5 (s6.tup sb) (b4 (j:=0) rfl) ?_;walk_at "r";have stay:(∀A B,(decide (E2 W.ts im=(x.2.1,A,B))&&M9 fx x.1 im)=false)->∀H7,Same H6 H7->∃(kt:List (List j3×V)) (w1 w2:Option V),[some (.ref a),some (.ref a'),some (.ref d),some (.ref c),some (.str x.1),some (.ref tb),some (.ref th),some (.str im),some (.ref aa)]=[some (.ref a),some (.ref a'),some (.ref d),some (.ref c),some (.str x.1),some (.ref tb),some (.ref th),w1,w2]/\Same H3 H7/\H7 l5=some (.lst (g1.map V.str))/\kt.length<=j+1/\(∀A B,p9 kt (k2 A B)≠some (.ref l5))/\TH H3 H7 th kt λA B=>(g1.take (j+1)).filter λim=>decide (E2 W.ts im=(x.2.1,A,B))&&M9 fx x.1 im:=λhf H7 m7=>
     ⟨kt,_,_,rfl,s6.trans m7,m7 _ _ RD,by lia,RE,(th6.same m7).ext λA B=>pQ Pf (hf A B)⟩
    refine C4 (λh1=>?_) (λh1=>?_)
    .walk_at "r";refine⟨d,x.1,im,fx,rfl,s6 _ _ Tj,λH7 m7=>?_⟩;walk_at "r";refine X3 (λh2=>?_) (λh2=>?_)
     .walk_at "r";have Wr:=th6.same m7;refine⟨.inr (.inr (.inl ⟨rfl,.inr ⟨_,Wr.at_⟩⟩)),?_⟩;walk_at "r";refine hZ (m7.tup hT) (by rintro⟨z,_⟩;exact absurd (show(1:Nat)=0 from z) (by decide)) (λl8 n8=>?_);obtain⟨H8,e8,f8,m8,_⟩:=b0 (o:= .tup [.str t2,.str t3]) n8;rw[show cX (ba (t1,t2,t3)) (some 1) none=[V.str t2,.str t3] from rfl,e8];walk_at "r";refine⟨d9 (by simp),λl9 n9=>?_⟩;obtain⟨H9,e9,f9,m9,o9⟩:=b0 (o:= .lst []) n9;rw[e9];have Su:=Wr.same (m8.trans m9);have Zo:=s6.trans (m7.trans (m8.trans m9));have Zp:H3 l9=none:=(s6.trans (m7.trans m8)).free n9;have Ql:=(m7.trans (m8.trans m9)) _ _ RD;have Nx:((g1.take (j+1)).filter λim=>decide (E2 W.ts im=(x.2.1,t2,t3))&&M9 fx x.1 im)=((g1.take j).filter λim=>decide (E2 W.ts im=(x.2.1,t2,t3))&&M9 fx x.1 im)++[im]:=sZ Pf (by rw[Wq,h2,IA (by rw[show t1=x.2.1 from h1])];rfl);have Ny:∀A B,¬(A=t2/\B=t3)->((g1.take (j+1)).filter λim=>decide (E2 W.ts im=(x.2.1,A,B))&&M9 fx x.1 im)=((g1.take j).filter λim=>decide (E2 W.ts im=(x.2.1,A,B))&&M9 fx x.1 im):=λA B k_=>pQ Pf (by
       rw[Wq,Iv (λz=>k_ ?_)];rfl;have z2:=(JS z).2;exact⟨(JS z2).1.symm,(JS z2).2.symm⟩)
      refine⟨th,l8,kt,k2 t2 t3,.ref l9,rfl,rfl,Su.at_,m9 _ _ f8,d9 (by lia),?_⟩;cases hvk:p9 kt (k2 t2 t3) with
      |some v=>
       obtain⟨l,rfl,hl,Ws⟩:=Su.so _ _ _ hvk
       refine⟨.inl ⟨rfl,_,SqL.of hl⟩,?_⟩
       walk_at "r"
       refine⟨l,_,.str im,rfl,rfl,hl,d9 (by rw[HI];have:=fG (p:=λim=>decide (E2 W.ts im=(x.2.1,t2,t3))&&M9 fx x.1 im) (s:=g1) (i:=j);lia),?_⟩
       have RF:l5≠l:=λz=>RE t2 t3 (by rw[hvk,z])
       exact⟨kt,_,_,rfl,A3 Zo Ws,by rw[b7 RF];exact Ql,by lia,RE,Su.hit hvk Nx Ny⟩
      |none=>
       have j':l9≠th:=λz=>by rw[z,Su.at_] at f9;cases f9
       have k_:∀A B,p9 kt (k2 A B)≠some (.ref l9):=λA B z=>by
        obtain⟨l,e,hl,_⟩:=(Wr.same m8).so _ _ _ z;cases e;rw[n9] at hl;cases hl
       have Zq:l5≠l9:=λz=>by
        have:=(m7.trans m8) _ _ RD;rw[z,n9] at this;cases this
       have h5t:l5≠th:=λz=>by rw[z,Su.at_] at Ql;cases Ql
       refine⟨.inl ⟨rfl,[],SqL.of (by rw[b7 j'];exact f9)⟩,?_⟩
       walk_at "r"
       refine⟨l9,[],.str im,rfl,rfl,by rw[b7 j'];exact f9,d9 (by simp),?_⟩
       have Wt:H3 th=none:=nth
       refine⟨D0 kt (k2 t2 t3) (.ref l9),_,_,rfl,A3 (A3 Zo Wt) Zp,by rw[b7 Zq,b7 h5t];exact Ql,?_,λA B z=>?_,Su.miss hvk Zp k_ j' Nx Ny⟩
       .have:=K2 kt (k2 t2 t3) (.ref l9);lia
       .rw[F7] at z
        split at z
        .cases z;exact Zq rfl
        .exact RE A B z
     .exact stay (λA B=>by rw[h2,Nr]) H7 m7
    .walk_at "r";exact stay (λA B=>by rw[Wq,Iv (λz=>h1 (JS z).1)];rfl) H6 (Same.refl _)
   .rintro σ H6 ⟨kt,w1,w2,rfl,s6,RD,lk6,RE,th6⟩;refine⟨⟨_,SqL.of RD,by rw[HI];exact HJ _⟩,?_⟩;rw[HW (HJ _)] at th6;have Wu:H6 c=some (.dK e_):=s6 _ _ (m3 _ _ Og);have Wm:=IC pl2;rw[HV] at Wm;walk_at "r";refine G9 (x6 (k:=Sum.inr x.1) Wu (d9 (by lia)) ?_);have e7:Pc.ts.take (i+1)=Pc.ts.take i++[x]:=by rw[IE,hx];rfl
    have fr:x.1∉(Pc.ts.take i).map (·.1):=λz=>by
     have w:((Pc.ts.take (i+1)).map (·.1)).Nodup:=UK.sublist ((JL _ _).map _);rw[e7,HL] at w;exact(Iu.mp w).2.2 x.1 z x.1 (by simp) rfl
    have ek:D0 e_ (Sum.inr x.1:j3) (.ref th)=e_++[(Sum.inr x.1,.ref th)]:=E6 _ (D5 (by rw[pl2.keys];exact λm=>fr (K7 m)));have Wn:(E3 q o1 kvs H) c=none:=by rw[O0 Zn];exact nc
    have cL:∀{v:V} {l:List Str},LstAt H6 v l->LstAt (p0 H6 c (.dK (e_++[(Sum.inr x.1,V.ref th)]))) v l:=fun{v l} ⟨a,ea,z⟩=>⟨a,ea,by rw[b7 (λq=>by rw[q,Wu] at z;cases z)];exact z⟩
    have cP:∀{v:V} {F:Str->Str->List Str},PlAt H6 v F->PlAt (p0 H6 c (.dK (e_++[(Sum.inr x.1,V.ref th)]))) v F:=fun{v F} ⟨t,kk,e,z,n,so⟩=>⟨t,kk,e,by rw[b7 (λq=>by rw[q,Wu] at z;cases z)];exact z,n,λA B v e=>cL (so A B v e)⟩
    refine⟨e_++[(Sum.inr x.1,.ref th)],_,_,_,_,_,rfl,A3 (s3.trans s6) Wn,by rw[b9,ek],?_⟩;rw[ek,e7];refine p7 (Paired.imp' (λ_ _ z=>⟨z.1,cP (z.2.same (m3.trans s6))⟩) pl2) ⟨rfl,cP ⟨th,kt,rfl,th6.at_,th6.no,λA B v e=>?_⟩⟩;obtain⟨l,e1,e2,_⟩:=th6.so A B v e;exact⟨l,e1,e2⟩
  .rintro σ H2 ⟨e_,v1,v2,v3,v4,v5,rfl,s2,Og,pl2⟩;refine⟨⟨s2 _ _ b9,HJ _⟩,?_⟩;walk_at "r";have Zr:H2 q=some (.frz o1 (.dK kvs)):=s2 _ _ b9;rw[HW (by lia)] at pl2;exact k c _ e_ nc (Same.thaw hq s2) (thaw_at Zr Og (λ_ _ z=>nomatch z)) (Paired.imp' (λkv x z=>⟨z.1,z.2.thaw Zr⟩) pl2)
def ak (fx:List (Str×Str))(n:Str):Bool:=!decide (n∈fx.map (·.1))
theorem Bg {td ty tx:TE}{σ:L2.St}{H:Hp}{Q:VK}(q:td σ H λx H1=>∃a,x= .ref a/\Ey H1 a/\ty σ H1 λy H2=>tx σ H2 λz H3=>∃o,DGet H3 a y o/\Q (o.getD z) H3):pV td ty tx σ H Q:=q
abbrev LsAt (H:Hp)(xs:List V)(ls:List (List Str)):Prop:=Paired (LstAt H) xs ls
theorem LsAt.same {H H':Hp}{xs:List V}{ls:List (List Str)}(h:LsAt H xs ls)(s:Same H H'):LsAt H' xs ls:=Paired.imp' (λ_ _ z=>z.same s) h
theorem kl:∀l d:List Str,R4 (l.map V.str) (d.map V.str)=decide (l=d)
 |[],[]=>rfl
 |[],_::_=>by simp [R4]
 |_::_,[]=>by simp [R4]
 |x::l,y::d=>by
  show(dv (.str x) (.str y)&&R4 (l.map V.str) (d.map V.str))=_;rw[kl l d,II];simp [dv]
def qI (H:Hp):V->List V
 | .ref a=>match H a with
  |some (.lst xs)=>xs
  |_=>[]
 |_=>[]
theorem ny {H:Hp}{v:V}{l:List Str}(h:LstAt H v l):qI H v=l.map V.str:=by
 obtain⟨a,rfl,z⟩:=h;show(match H a with|some (.lst xs)=>xs|_=>[])=_;rw[z]
theorem oO {H:Hp}{d:List Str}:∀{xs:List V} {ls:List (List Str)},LsAt H xs ls->xs.countP (λz=>R4 (qI H z) (d.map V.str))=ls.count d
 |_,_,.nil=>rfl
 |_,l::_,.cons a t=>by
  rw[MH,List.count_cons,oO t,ny a,kl];by_cases e:l=d
  .rw[if_pos (IA e),if_pos (by simpa using e)]
  .rw[if_neg (by rw[Iv e];decide),if_neg (by simpa using e)]
def jM (K:Qc):Sp:=λvs H Q _=>∃(l:Addr) (xs:List V) (ls:List (List Str)),vs=[.ref l]/\H l=some (.lst xs)/\LsAt H xs ls/\ls.length<=60/\∀H',Same H H'->Q (.bl (uQ ls)) H'
abbrev ia (P:Program)(w:World)(K:Qc)(mg:Str->Option Value)(base:Heap):Prop:=K3 P w K mg base B8 1 "enough" ["lists"] [] (jM K)
theorem uo {f:Addr}{fd:FuncData}(T:Txt K mg)(F:Fun K "enough" "enough" iG f fd):A1 P w K mg base B8 1 f fd ["lists"] (jM K):=by
 refine F.ok sc_enough (λvs H Q E h=>?_) (λd_ A outer s H vs Q E hr h=>?_)
 .obtain⟨l,xs,ls,rfl,_⟩:=h;rfl
 .obtain⟨l,xs,ls,rfl,hl,hx,hn,k⟩:=h;have PD:=IC hx;have hN:=sc_enough.nd;have hu:=u6 hr;refine⟨_,QSs.r (B0 (A0 (qB (sI K rfl) T.b_all Boot.«all» (i9 (E7 (own:=["drawn"]) (js:=[0]) (by kernel_rfl) rfl (N7 K (qV 0)) (λ_ _ _ _=>(G1 (i:=0) (show List.Nodup (["drawn","lists"]:List Str) by decide+kernel) rfl (by walk_at "l"))) (λ_ _ _ _=>aM) (λ_ _ _ _=>(dy Dn (qM IT PySem.F.slot_list_count PySem.F.type_list_count (gD K hr) K (qV 1) (i9 (qV 0) j6)) (qB (C8 K P w) T.b_len Boot.«len» (i9 (qV 0) j6)) (p8 _)))) j6)))),?_⟩;walk_at "r";refine x9 (SqL.of hl) ?_;refine w5 (n:=xs.length) (λi out H'=>H'=H/\out=(ls.take i).map λd=>V.bl (decide (ls.count d<=d.length))) ⟨rfl,rfl⟩ (λi out H' hi hp=>⟨xs,xs[i],SqL.of (by rw[hp.1];exact hl),HH hi⟩) ?_ ?_
  .rintro N i v out H1' H1 hi ⟨rfl,rfl⟩ y hN';obtain⟨rfl,hy⟩:=Itl.get y (SqL.of hl);obtain⟨d,hd,a,rfl,Zs⟩:=B7 hx hy;walk_at "r";refine⟨rfl,?_⟩;walk_at "r";refine⟨.inl ⟨rfl,_,SqL.of hl⟩,?_⟩;walk_at "r";refine⟨l,xs,.ref a,λz=>R4 (qI H1 z) (d.map V.str),rfl,rfl,hl,λz hz=>?_,?_⟩
   .obtain⟨j,hj⟩:=JT hz;obtain⟨e,he,b,rfl,hb⟩:=B7 hx hj;exact⟨b,a,_,_,rfl,rfl,SqL.of hb,SqL.of Zs,eO _,eO _,by show R4 (qI H1 (V.ref b)) _=_;rw[ny ⟨b,rfl,hb⟩]⟩
   .rw[oO hx];walk_at "r";refine C5 (x5 (SqL.of Zs) ?_);rw[HI];walk_at "r";refine⟨d9 (by rw[HI,HV];lia),hN' _ _ ⟨rfl,?_⟩⟩;have e:decide ((ls.count d:Int)<=(d.length:Int))=decide (ls.count d<=d.length):=by rw[II];simp
    rw[e];exact C7 (λd=>V.bl (decide (ls.count d<=d.length))) hd
  .rintro out H1 ⟨rfl,rfl⟩;refine⟨⟨_,SqL.of hl,HJ _⟩,λD hD=>⟨d9 (by rw[HI,HV];lia),?_⟩⟩;rw[HW (by lia)];obtain⟨H2,e2,f2,m2,_⟩:=b0 (H:=H1) (o:= .lst (ls.map λd=>V.bl (decide (ls.count d<=d.length)))) hD;walk_at "r";change uh K _ (p0 H1 D _) _;rw[e2];refine jP (bs:=ls.map λd=>decide (ls.count d<=d.length)) (SqL.of (by rw[f2,Iy];rfl)) ?_;have e:(ls.map λd=>decide (ls.count d<=d.length)).all id=uQ ls:=by unfold uQ;rw[JK];rfl
   rw[e];exact k H2 m2
structure Sx (K:Qc) (H:Hp) (a p q c pl:Addr) (kvs t_ e_:List (j3×V)) (L:Str->Str->Bool) (Pc W:A6) (s1 s2 gp gt:List Str) (fx:List (Str×Str)):Prop where
 S:SrchP L Pc W s1 s2 gp gt fx
 at_:WebAt K H a p q kvs Pc
 hq:H q=some (.dK kvs)
 l1:(h9 Pc).length<=30
 l2:(h9 W).length<=30
 big:((h9 Pc).length+1)*(max W.pts.length W.ts.length+1) ^ ((h9 Pc).filter (ak fx)).length<=1000000
 hc:H c=some (.dK t_)
 ch:ChAt H (λx=>oR L gp fx x.1) t_ Pc.pts
 hl:H pl=some (.dK e_)
 pls:PlsAt H (λx a b=>rR W gt fx x.1 (x.2.1,a,b)) e_ Pc.ts
theorem Sx.same {H H':Hp}{a p q c pl:Addr}{kvs t_ e_:List (j3×V)}{L:Str->Str->Bool}{Pc W:A6}{s1 s2 gp gt:List Str}{fx:List (Str×Str)}(h:Sx K H a p q c pl kvs t_ e_ L Pc W s1 s2 gp gt fx)(s:Same H H'):Sx K H' a p q c pl kvs t_ e_ L Pc W s1 s2 gp gt fx:=
 ⟨h.S,h.at_.mono s.le,s _ _ h.hq,h.l1,h.l2,h.big,s _ _ h.hc,h.ch.same s,s _ _ h.hl,h.pls.same s⟩
theorem iF {α:Type}{R:V->Str×α->Prop}:∀{kvs:List (j3×V)} {ts:List (Str×α)} {x:Str×α},Paired (λkv x=>kv.1=Sum.inr x.1/\R kv.2 x) kvs ts->(ts.map (·.1)).Nodup->x∈ts->∃v,p9 kvs (Sum.inr x.1:j3)=some v/\R v x
 |_,[],_,_,_,hx=>nomatch hx
 |kv::r,y::ts,x,.cons a t,nd,hx=>by
  have nd':=IM.mp (show(y.1::ts.map (·.1)).Nodup from nd);rcases Iz.mp hx with z|z
  .subst z;exact⟨kv.2,C3 a.1,a.2⟩
  .obtain⟨v,h1,h2⟩:=iF t nd'.2 z;refine⟨v,?_,h2⟩;rw[C6 (by rw[a.1];exact λe=>nd'.1 (HP.mpr ⟨x,z,(Jx e).symm⟩))];exact h1
def bT (K:Qc):Sp:=λvs H Q _=>∃(a p q c pl d:Addr) (kvs t_ e_ kvm:List (j3×V)) (L:Str->Str->Bool) (Pc W:A6) (s1 s2 gp gt:List Str) (fx:List (Str×Str)) (x:Str×F0),vs=[.ref a,.ref pl,.ref d,.str x.1]/\Sx K H a p q c pl kvs t_ e_ L Pc W s1 s2 gp gt fx/\x∈Pc.ts/\Rd H d (.dK kvm)/\TxtAt kvm x.2.2.1/\TxtAt kvm x.2.2.2/\
 ∀(v:V) (H':Hp),Same H H'->LstAt H' v (rR W gt fx x.1 (x.2.1,j0 kvm x.2.2.1,j0 kvm x.2.2.2))->Q v H'
abbrev W8 (P:Program)(w:World)(K:Qc)(mg:Str->Option Value)(base:Heap):Prop:=K3 P w K mg base B8 2 "tie_choices" ["piece","places","put","name"] [] (bT K)
theorem iU {f:Addr}{fd:FuncData}(T:Txt K mg)(B9:O5 P w K mg base)(F:Fun K "tie_choices" "tie_choices" Y3 f fd):A1 P w K mg base B8 2 f fd ["piece","places","put","name"] (bT K):=by
 refine F.ok sc_tie_choices (λvs H Q E h=>?_) (λd_ A outer s H vs Q E hr h=>?_)
 .obtain⟨a,p,q,c,pl,d,kvs,t_,e_,kvm,L,Pc,W,s1,s2,gp,gt,fx,x,rfl,_⟩:=h;rfl
 .obtain⟨a,p,q,c,pl,d,kvs,t_,e_,kvm,L,Pc,W,s1,s2,gp,gt,fx,x,rfl,X0,hx,hd,t1,t2,k⟩:=h;obtain⟨aa,hv,hT⟩:=cf X0.at_.ts (N1 X0.S.nd) (show(x.1,x.2)∈Pc.ts from hx);have hN:=sc_tie_choices.nd;have hu:=u6 hr;refine⟨_,QSs.r (u7 (j8 (i:=4) hN rfl (by walk_at "l") (EE (Df K) (qC B9 (hr.mono (by decide)) j7 (i9 (k7 (k8 K hu) (k7 (k8 K hu) (qV 0) d8 (λ_ _=>rfl)) (qV 3) (λ_ _=>rfl)) (i9 (qV 2) j6))) (CV d8) Fq))
   (B0 (A0 (Fh hu (k7 (k8 K hu) (qV 1) (qV 3) (λ_ _=>rfl)) (qV 4) (bR j6))))),?_⟩
  walk_at "r";refine b5 X0.at_.tup (b4 (j:=1) rfl) ?_;walk_at "r";refine C2 (v:= .ref aa) (by have z:=G7 (k:=Sum.inr x.1) X0.at_.ties;rw[hv] at z;exact z) ?_;walk_at "r";refine⟨aa,d,x.2,kvm,rfl,hT,hd,t1,t2,λl1 H1 n1 m1 f1=>?_⟩;walk_at "r";refine hZ (SqT.of f1) (by rintro⟨z,_⟩;exact absurd (show(1:Nat)=0 from z) (by decide)) (λl2 n2=>?_);obtain⟨H2,e2,f2,m2,_⟩:=b0 (o:= .tup [.str (j0 kvm x.2.2.1),.str (j0 kvm x.2.2.2)]) n2;rw[show cX (ba (x.2.1,j0 kvm x.2.2.1,j0 kvm x.2.2.2)) (some 1) none=[V.str (j0 kvm x.2.2.1),.str (j0 kvm x.2.2.2)] from rfl,e2];have X2:=X0.same (m1.trans m2);obtain⟨v,MX,t,kt,rfl,ht,k_,hso⟩:=iF (R:=λv (x:Str×F0)=>PlAt H2 v λa b=>rR W gt fx x.1 (x.2.1,a,b)) (show Paired _ _ _ from X2.pls) (N1 X0.S.nd) hx;walk_at "r";refine Bg ?_;walk_at "r";refine C2 (v:= .ref t) (by have z:=G7 (k:=Sum.inr x.1) (.inl X2.hl);rw[MX] at z;exact z) ?_;refine⟨t,rfl,.inr ⟨_,.inl ht⟩,?_⟩;walk_at "r";refine⟨d9 (by simp),λl3 n3=>?_⟩;obtain⟨H3,e3,f3,m3,_⟩:=b0 (o:= .lst []) n3;rw[e3];refine⟨_,DGet.t (k:=k2 (j0 kvm x.2.2.1) (j0 kvm x.2.2.2)) (m3 _ _ ht) (m3 _ _ f2),?_⟩;have ON:=m1.trans (m2.trans m3);cases hvk:p9 kt (k2 (j0 kvm x.2.2.1) (j0 kvm x.2.2.2)) with
  |none=>exact k _ H3 ON ⟨l3,rfl,by rw[f3];have z:=k_ _ _ hvk;dsimp only at z;rw[z];rfl⟩
  |some v=>exact k _ H3 ON ((hso _ _ _ hvk).same m3)
theorem eL:∀{nm b:List Str} {n x:Str},nm[b.length]?=some n->nm.zip (b++[x])=nm.zip b++[(n,x)]
 |[],b,n,x,h=>by simp at h
 |m::nm,[],n,x,h=>by
  have e:m=n:=by simpa using h
  subst e;simp
 |m::nm,y::b,n,x,h=>by
  have z:=eL (nm:=nm) (b:=b) (n:=n) (x:=x) (by simpa using h);show(m,y)::nm.zip (b++[x])=(m,y)::nm.zip b++[(n,x)];rw[z];rfl
theorem rA (nm:List Str):nm.map V.str=(nm.map (Sum.inr:Str->j3)).map kV:=by rw[Iy];rfl
theorem oJ {nm b:List Str}(nd:nm.Nodup):Y4 ((nm.map (Sum.inr:Str->j3)).zip (b.map V.str))=j4 (nm.zip b):=by
 have e:(nm.map (Sum.inr:Str->j3)).zip (b.map V.str)=j4 (nm.zip b):=by rw[List.zip_map];rfl
 rw[e,U0];rw[B5,←r6];exact Kc _ (λa b h z=>h (Jx z)) (kW b nd)
theorem lD {mm:List (Str×Str)}{n:Str}(h:n∈mm.map (·.1)):TxtAt (j4 mm) n:=⟨_,nS h⟩
theorem kU {nm b:List Str}{i:Nat}{n:Str}(h:nm[i]?=some n)(hi:i<b.length):n∈(nm.zip b).map (·.1):=HP.mpr ⟨(n,b[i]),mr h (HH hi),rfl⟩
theorem tK {nm b:List Str}{n:Str}(nd:nm.Nodup)(h:nm[b.length]?=some n):n∉(nm.zip b).map (·.1):=λz=>by
 have w:=kW (b++[n]) nd;rw[eL h,HL] at w;exact(Iu.mp w).2.2 n z n (by simp) rfl
def fY (K:Qc):Sp:=λvs H Q _=>∃(a p q c pl d:Addr) (kvs t_ e_:List (j3×V)) (L:Str->Str->Bool) (Pc W:A6) (s1 s2 gp gt:List Str) (fx mm:List (Str×Str)) (n im:Str),vs=[.ref a,.ref pl,.ref d,.str n,.str im]/\Sx K H a p q c pl kvs t_ e_ L Pc W s1 s2 gp gt fx/\H d=some (.dK (j4 mm))/\mm.length<=60/\n∉mm.map (·.1)/\
 (∀x∈bq Pc.ts n,x.2.2.1∈(mm++[(n,im)]).map (·.1)/\x.2.2.2∈(mm++[(n,im)]).map (·.1))/\
 ∀H',Same H H'->Q (.bl (uQ ((bq Pc.ts n).map λx=>rR W gt fx x.1 (x.2.1,j0 (j4 (mm++[(n,im)])) x.2.2.1,j0 (j4 (mm++[(n,im)])) x.2.2.2)))) H'
theorem Fd {α:Type}{p:α->Bool}{s:List α}{i:Nat}{x:α}(h:s[i]?=some x)(hp:p x=true):(s.take (i+1)).filter p=(s.take i).filter p++[x]:=by
 rw[IE,h,IS];show _++List.filter p [x]=_;rw[IQ hp];rfl
theorem Fi {α:Type}{p:α->Bool}{s:List α}{i:Nat}{x:α}(h:s[i]?=some x)(hp:p x=false):(s.take (i+1)).filter p=(s.take i).filter p:=by
 rw[IE,h,IS];show _++List.filter p [x]=_;rw[IW (by rw[hp];decide)];simp
theorem Aa {α:Type}{p:α->Bool}{s:List α}{i:Nat}:((s.take i).filter p).length<=s.length:=Ip (HY _ _) (by rw[HV];lia)
abbrev jb (P:Program)(w:World)(K:Qc)(mg:Str->Option Value)(base:Heap):Prop:=K3 P w K mg base B8 3 "has_room" ["piece","places","put","name","image"] [] (fY K)
theorem nz {f:Addr}{fd:FuncData}(T:Txt K mg)(Y5:ia P w K mg base)(E8:W8 P w K mg base)(F:Fun K "has_room" "has_room" cT f fd):A1 P w K mg base B8 3 f fd ["piece","places","put","name","image"] (fY K):=by
 refine F.ok sc_has_room (λvs H Q E h=>?_) (λd_ A outer s H vs Q E hr h=>?_)
 .obtain⟨a,p,q,c,pl,d,kvs,t_,e_,L,Pc,W,s1,s2,gp,gt,fx,mm,n,im,rfl,_⟩:=h;rfl
 .obtain⟨a,p,q,c,pl,d,kvs,t_,e_,L,Pc,W,s1,s2,gp,gt,fx,mm,n,im,rfl,X0,hd,lm,nn,he,k⟩:=h;have NO:=X0.at_.ts.length;have l1:=X0.l1;rw[C0] at l1;have hN:=sc_has_room.nd;have hu:=u6 hr;refine⟨_,QSs.r (u7 (j8 (i:=5) hN rfl (by walk_at "l") (fu (P1 K rfl) T.b_dict Boot.«dict» (i9 (qV 2) j6)))
   (u7 (aw (qV 4) (lV (qV 5) (qV 3) (z9 P w hu)))
   (u7 (bG (i:=6) hN rfl (by walk_at "l") (own:=["tie","told"]) (js:=[3]) (by kernel_rfl) rfl (R6 (k7 (k8 K hu) (qV 0) d8 (λ_ _=>rfl))) (λ_ _ _ _=>(pP K rfl (dw (G1 (i:=0) (show List.Nodup (["tie","told","name"]:List Str) by decide+kernel) rfl (by walk_at "l")) (dw (G1 (i:=1) (show List.Nodup (["tie","told","name"]:List Str) by decide+kernel) rfl (by walk_at "l")) pI)))) (λ_ _ _ _=>(iS (u4 (G8 K hr) (qB (DI K rfl) T.b_max Boot.«max» (i9 (EE (Df K) (qV 1) (CV d8) Fq) j6)) (qV 2) (p8 _)))) (λ_ _ _ _=>(qV 0)))
   (B0 (A0 (qC Y5 (hr.mono (by decide)) j7 (i9 (E7 (own:=["tie"]) (js:=[0,1,5]) (by kernel_rfl) rfl (N7 K (qV 6)) (λ_ _ _ _=>(G1 (i:=0) (show List.Nodup (["tie","piece","places","longer"]:List Str) by decide+kernel) rfl (by walk_at "l"))) (λ_ _ _ _=>aM) (λ_ _ _ _=>(qC E8 (hr.mono (by decide)) j7 (i9 (qV 1) (i9 (qV 2) (i9 (qV 3) (i9 (qV 0) j6))))))) j6))))))),?_⟩
  walk_at "r";refine C9 (.inl hd) (λl1 n1=>?_);obtain⟨H1,e1,f1,m1,_⟩:=b0 (o:= .dK (j4 mm)) n1;rw[e1];walk_at "r";refine G9 (x6 (k:=Sum.inr n) f1 (d9 (by rw[k9];lia)) ?_);rw[yw nn];have f2:(p0 H1 l1 (.dK (j4 (mm++[(n,im)])))) l1=some (.dK (j4 (mm++[(n,im)]))):=b9;have m2:Same H (p0 H1 l1 (.dK (j4 (mm++[(n,im)])))):=A3 m1 n1;generalize p0 H1 l1 (.dK (j4 (mm++[(n,im)])))=H2 at f2 m2⊢;have X2:=X0.same m2;walk_at "r";refine b5 X2.at_.tup (b4 (j:=1) rfl) ?_;refine D4 X2.hq (λSs o3=>?_);refine w5 (n:=kvs.length) (λi out H'=>Same (E3 q o3 kvs H2) H'/\out=((Pc.ts.take i).filter λx=>decide (yq x.2.2.1 x.2.2.2=n)).map λx=>V.str x.1) ⟨Same.refl _,rfl⟩ (λi out H' hi hp=>⟨hp.1 _ _ b9,hi⟩) ?_ ?_
  .rintro N i v out H3' H3 hi ⟨s3,rfl⟩ ⟨t,kv,i',nt,rfl,rfl⟩ hN';obtain⟨H4,e4,f4,m4,_⟩:=b0 (o:= .tup _) nt;rw[e4];have Qm:=(K9 (o:=o3) X2.hq).trans (s3.trans m4).le;have P4:=X2.at_.mono Qm;obtain⟨x,hx,ex,tb,eb,sb⟩:=P4.ts.get i';obtain⟨kk,Qj⟩:=kv;have OK:kk=Sum.inr x.1:=ex;have Qk:Qj= .ref tb:=eb;subst OK Qk;refine J6 (SqT.of f4) rfl ?_;walk_at "r";refine⟨rfl,?_⟩;walk_at "r";refine hZ sb (by rintro⟨z,_⟩;exact absurd (show(1:Nat)=0 from z) (by decide)) (λl5 n5=>?_);obtain⟨H5,e5,f5,m5,_⟩:=b0 (o:= .tup [.str x.2.2.1,.str x.2.2.2]) n5;rw[show cX (ba x.2) (some 1) none=[V.str x.2.2.1,.str x.2.2.2] from rfl,e5];walk_at "r";refine CH (SqT.of f5) ?_;walk_at "r";rw[show(if x.2.2.1.cps.toList<x.2.2.2.cps.toList then x.2.2.2 else x.2.2.1)=yq x.2.2.1 x.2.2.2 from rfl];refine C4 (λh1=>?_) (λh1=>?_)
   .walk_at "r";refine⟨d9 (by rw[HI];have:=Aa (p:=λx:Str×F0=>decide (yq x.2.2.1 x.2.2.2=n)) (s:=Pc.ts) (i:=i);lia),hN' _ _ ⟨s3.trans (m4.trans m5),?_⟩⟩;rw[Fd hx (IA h1),HL];rfl
   .exact hN' _ _ ⟨s3.trans (m4.trans m5),by rw[Fi hx (Iv h1)]⟩
  .rintro out H3 ⟨s3,rfl⟩;refine⟨⟨s3 _ _ b9,HJ _⟩,λD hD=>⟨d9 (by rw[HI];have:=Aa (p:=λx:Str×F0=>decide (yq x.2.2.1 x.2.2.2=n)) (s:=Pc.ts) (i:=kvs.length);lia),?_⟩⟩;rw[HW (by lia)];change P8 _ _ _ (thaw q (p0 H3 D (.lst ((bq Pc.ts n).map λx=>V.str x.1)))) _;have sM:=Q1 X2.hq s3 hD (u:= .lst ((bq Pc.ts n).map λx=>V.str x.1));have fM:=bg s3 hD (u:= .lst ((bq Pc.ts n).map λx=>V.str x.1));generalize thaw q (p0 H3 D (.lst ((bq Pc.ts n).map λx=>V.str x.1)))=HM at sM fM⊢;have XM:=X2.same sM;have Tp:∀x∈bq Pc.ts n,x∈Pc.ts:=λx hx=>(Ik.mp hx).1;have Sv:(bq Pc.ts n).length<=30:=Ip (HY _ _) (by lia);generalize bq Pc.ts n=due at fM Tp Sv he k;walk_at "r";refine x9 (SqL.of fM) ?_;refine w5 (n:=due.length) (λi out H'=>Same HM H'/\LsAt H' out ((due.take i).map λx=>rR W gt fx x.1 (x.2.1,j0 (j4 (mm++[(n,im)])) x.2.2.1,j0 (j4 (mm++[(n,im)])) x.2.2.2))) ⟨Same.refl _,.nil⟩ (λi out H' hi hp=>⟨_,.str (due[i]).1,SqL.of (hp.1 _ _ fM),by rw[HK,HH hi];rfl⟩) ?_ ?_
   .rintro N i v out H4' H4 hi ⟨s4,ls⟩ y hN';obtain⟨rfl,hy⟩:=Itl.get y (SqL.of (s4 _ _ fM));rw[HK] at hy;obtain⟨x,hx,rfl⟩:=IL.mp hy;have M':=HX hx;walk_at "r";refine⟨rfl,?_⟩;walk_at "r";refine⟨a,p,q,c,pl,l1,kvs,t_,e_,_,L,Pc,W,s1,s2,gp,gt,fx,x,rfl,XM.same s4,Tp x M',.inl (s4 _ _ (sM _ _ f2)),lD (he x M').1,lD (he x M').2,λv H5 m5 hv=>?_⟩;have RF:=IC ls;rw[HI,HV] at RF;refine⟨d9 (by lia),hN' _ _ ⟨s4.trans m5,?_⟩⟩;rw[show due.take (i+1)=due.take i++[x] by rw[IE,hx];rfl,HL];exact p7 (LsAt.same ls m5) hv
   .rintro out H4 ⟨s4,ls⟩;have RF:=IC ls;rw[HI,HV] at RF;refine⟨⟨_,SqL.of (s4 _ _ fM),by rw[HI];exact HJ _⟩,λD2 hD2=>⟨d9 (by lia),?_⟩⟩;rw[HW (HJ _)] at ls;obtain⟨H5,e5,f5,m5,_⟩:=b0 (H:=H4) (o:= .lst out) hD2;change sQ _ (p0 H4 D2 _) _;rw[e5];walk_at "r";exact⟨D2,out,_,rfl,f5,LsAt.same ls m5,by rw[HI];lia,λH6 m6=>k H6 (m2.trans (sM.trans (s4.trans (m5.trans m6))))⟩
def jX (K:Qc):Sp:=λvs H Q _=>∃(a p q c pl bl:Addr) (kvs t_ e_:List (j3×V)) (L:Str->Str->Bool) (Pc W:A6) (s1 s2 gp gt:List Str) (fx:List (Str×Str)) (b:List Str),vs=[.ref a,.ref c,.ref pl,.ref bl]/\Sx K H a p q c pl kvs t_ e_ L Pc W s1 s2 gp gt fx/\H bl=some (.lst (b.map V.str))/\b.length<(s1++s2).length/\yE H Q λss=>ss=U6 L Pc W gp gt fx (s1++s2) b
abbrev nJ (P:Program)(w:World)(K:Qc)(mg:Str->Option Value)(base:Heap):Prop:=K3 P w K mg base B8 4 "images" ["piece","choices","places","begun"] [] (jX K)
theorem tu {f:Addr}{fd:FuncData}(T:Txt K mg)(z7:K8 P w K mg base)(E8:W8 P w K mg base)(cW:jb P w K mg base)(F:Fun K "images" "images" jq f fd):A1 P w K mg base B8 4 f fd ["piece","choices","places","begun"] (jX K):=by
 refine F.ok sc_images (λvs H Q E h=>?_) (λd_ A outer s H vs Q E hr h=>?_)
 .obtain⟨a,p,q,c,pl,bl,kvs,t_,e_,L,Pc,W,s1,s2,gp,gt,fx,b,rfl,_⟩:=h;rfl
 .obtain⟨a,p,q,c,pl,bl,kvs,t_,e_,L,Pc,W,s1,s2,gp,gt,fx,b,rfl,X0,hb,Ws,k⟩:=h;have S:=X0.S;have nn:=S.nn;have PF:=S.o.len;have l1:=X0.l1;have l2:=X0.l2;have Zm:gt.length<=30:=by rw[S.o'.p2.length_eq,HI];rw[C0] at l2;lia
  have Wk:gp.length<=30:=by rw[S.o'.p1.length_eq,HI];rw[C0] at l2;lia
  obtain⟨n,hn⟩:∃n,(s1++s2)[b.length]?=some n:=⟨_,HH Ws⟩
  have hN:=sc_images.nd;have hu:=u6 hr;refine⟨_,QSs.r (u7 (j8 (i:=4) hN rfl (by walk_at "l") (qC z7 (hr.mono (by decide)) j7 (i9 (qV 0) j6)))
   (u7 (j8 (i:=5) hN rfl (by walk_at "l") (k7 (k8 K hu) (qV 4) (qB (C8 K P w) T.b_len Boot.«len» (i9 (qV 3) j6)) (λ_ _=>rfl)))
   (u7 (j8 (i:=6) hN rfl (by walk_at "l") (GR K T.b_dict T.b_zip rfl (i9 (qV 4) (i9 (qV 3) j6))))
   (u7 (aU (u4 (kIn K hu) (qV 5) (k7 (k8 K hu) (qV 0) d8 (λ_ _=>rfl)) (by rfl)) (B0 (A0 (E7 (own:=["image"]) (js:=[3]) (by kernel_rfl) rfl (N7 K (qC E8 (hr.mono (by decide)) j7 (i9 (qV 0) (i9 (qV 2) (i9 (qV 6) (i9 (qV 5) j6)))))) (λ_ _ _ _=>(G1 (i:=0) (show List.Nodup (["image","begun"]:List Str) by decide+kernel) rfl (by walk_at "l"))) (λ_ _ _ _=>(iS (u4 (aA K hu) (qV 0) (qV 1) (by rfl)))) (λ_ _ _ _=>(qV 0))))) ck)
   (u7 (bG (i:=7) hN rfl (by walk_at "l") (own:=["image"]) (js:=[3]) (by kernel_rfl) rfl (N7 K (k7 (k8 K hu) (qV 1) (qV 5) (λ_ _=>rfl))) (λ_ _ _ _=>(G1 (i:=0) (show List.Nodup (["image","begun"]:List Str) by decide+kernel) rfl (by walk_at "l"))) (λ_ _ _ _=>(iS (u4 (aA K hu) (qV 0) (qV 1) (by rfl)))) (λ_ _ _ _=>(qV 0)))
   (B0 (A0 (E7 (own:=["image"]) (js:=[0,2,6,5]) (by kernel_rfl) rfl (N7 K (qV 7)) (λ_ _ _ _=>(G1 (i:=0) (show List.Nodup (["image","piece","places","put","name"]:List Str) by decide+kernel) rfl (by walk_at "l"))) (λ_ _ _ _=>(iS (N2 K (qC cW (hr.mono (by decide)) j7 (i9 (qV 1) (i9 (qV 2) (i9 (qV 3) (i9 (qV 4) (i9 (qV 0) j6))))))))) (λ_ _ _ _=>(qV 0)))))))))),?_⟩
  walk_at "r";refine⟨a,p,q,kvs,Pc,rfl,X0.at_,by lia,λln H1 r1 r2 n1 m1 f1 or=>?_⟩;have Tq:r1=s1:=E4 or.o1 S.o.o1 (or.p1.nodup_iff.mpr (E1 S.nd)) (or.p1.trans S.o.p1.symm);have Tr:r2=s2:=E4 or.o2 S.o.o2 (or.p2.nodup_iff.mpr (N1 S.nd)) (or.p2.trans S.o.p2.symm);subst Tq Tr;walk_at "r";refine C5 (x5 (SqL.of (m1 _ _ hb)) ?_);rw[HI];refine i6 (SqL.of f1) (i:=(b.length:Int)) (v:= .str n) (b4 (j:=b.length) (by rw[HK,hn];rfl)) ?_;walk_at "r";refine⟨ln,bl,(r1++r2).map Sum.inr,b.map V.str,rfl,by rw[←rA];exact SqL.of f1,SqL.of (m1 _ _ hb),λd nd=>?_⟩;rw[oJ nn];obtain⟨H2,e2,f2,m2,_⟩:=b0 (o:= .dK (j4 ((r1++r2).zip b))) nd;rw[e2];have OO:=m1.trans m2;have X2:=X0.same OO;have Ob:=OO _ _ hb;walk_at "r";refine b5 X2.at_.tup (b4 (j:=1) rfl) ?_;walk_at "r";refine P5 (G7 (k:=Sum.inr n) X2.at_.ties) ?_;rw[R9 X2.at_.ts];walk_at "r";have OD:∀(p:Str->Bool) (l:List Str),l.length<=30->∀i,((l.take i).filter p).length<=1000:=λp l hl i=>Ip fG (by lia);refine C4 (λh1=>?_) (λh1=>?_)
  .have hle:r1.length<=b.length:=by
    rcases S.is1 hn with⟨z,_⟩|⟨_,z⟩
    .exact absurd h1 z
    .exact z
   have l_:=bp h1;have he:=S.ends _ l_;obtain⟨j1,Zg,Ry⟩:=S.pt_idx he.1;obtain⟨j2,Zh,RB⟩:=S.pt_idx he.2;walk_at "r";refine⟨a,p,q,c,pl,d,kvs,t_,e_,_,L,Pc,W,r1,r2,gp,gt,fx,(n,E2 Pc.ts n),rfl,X2,l_,.inl f2,lD (kU Ry (by lia)),lD (kU RB (by lia)),λv H3 m3 hv=>?_⟩;obtain⟨lv,rfl,H_⟩:=hv;have etc:rR W gt fx n ((E2 Pc.ts n).1,j0 (j4 ((r1++r2).zip b)) (E2 Pc.ts n).2.1,j0 (j4 ((r1++r2).zip b)) (E2 Pc.ts n).2.2)=tP W gt fx (r1++r2) b (n,E2 Pc.ts n):=rfl;dsimp only at H_;rw[etc] at H_;have A_:(tP W gt fx (r1++r2) b (n,E2 Pc.ts n)).length<=30:=Ip (HY _ _) Zm;generalize Wv:tP W gt fx (r1++r2) b (n,E2 Pc.ts n)=tc at H_ A_;refine x9 (SqL.of H_) ?_;refine w5 (n:=tc.length) (λi out H'=>Same H3 H'/\out=((tc.take i).filter λx=>!decide (x∈b)).map V.str) ⟨Same.refl _,rfl⟩ (λi out H' hi hp=>⟨_,.str (tc[i]),SqL.of (hp.1 _ _ H_),by rw[HK,HH hi];rfl⟩) ?_ ?_
   .rintro N i v out H4' H4 hi ⟨s4,rfl⟩ y hN';obtain⟨rfl,hy⟩:=Itl.get y (SqL.of (s4 _ _ H_));rw[HK] at hy;obtain⟨x,hx,rfl⟩:=IL.mp hy;walk_at "r";refine⟨rfl,?_⟩;walk_at "r";refine U4 (gs:=b) (SqL.of (s4 _ _ (m3 _ _ Ob))) ?_;walk_at "r";refine X3 (λh2=>?_) (λh2=>?_)
    .walk_at "r";refine⟨d9 (by rw[HI];exact OD _ _ A_ _),hN' _ _ ⟨s4,?_⟩⟩;rw[sZ hx h2,HL];rfl
    .exact hN' _ _ ⟨s4,by rw[pQ hx h2]⟩
   .rintro out H4 ⟨s4,rfl⟩;refine⟨⟨_,SqL.of (s4 _ _ H_),by rw[HI];exact HJ _⟩,λD hD=>⟨d9 (by rw[HI];exact OD _ _ A_ _),?_⟩⟩;rw[HW (HJ _)];obtain⟨H5,e5,f5,m5,_⟩:=b0 (H:=H4) (o:= .lst ((tc.filter λx=>!decide (x∈b)).map V.str)) hD;show Q _ (p0 H4 D _);rw[e5];refine k D H5 _ (OO.free (m3.free (s4.free hD))) (OO.trans (m3.trans (s4.trans m5))) f5 ?_;unfold U6;rw[hn];dsimp only;rw[if_pos h1,Wv]
  .have j':b.length<r1.length:=by
    rcases S.is1 hn with⟨_,z⟩|⟨z,_⟩
    .exact z
    .exact absurd z h1
   have hm:n∈Pc.pts.map (·.1):=by
    rcases Ic.mp (S.o.mem.mp (HX hn)) with z|z
    .exact z
    .exact absurd z h1
   obtain⟨y,hy,ey⟩:=HP.mp hm;obtain⟨v,hv,lv,rfl,H_⟩:=iF (R:=λv (x:Str×Str)=>LstAt H2 v (oR L gp fx x.1)) (show Paired _ _ _ from X2.ch) (E1 S.nd) hy;rw[ey] at hv H_;have A_:(oR L gp fx n).length<=30:=Ip (HY _ _) (Ip (HY _ _) Wk);generalize Wv:oR L gp fx n=tc at H_ A_;walk_at "r";refine C2 (v:= .ref lv) (by have z:=G7 (k:=Sum.inr n) (.inl X2.hc);rw[hv] at z;exact z) ?_;refine x9 (SqL.of H_) ?_;refine w5 (n:=tc.length) (λi out H'=>Same H2 H'/\out=((tc.take i).filter λx=>!decide (x∈b)).map V.str) ⟨Same.refl _,rfl⟩ (λi out H' hi hp=>⟨_,.str (tc[i]),SqL.of (hp.1 _ _ H_),by rw[HK,HH hi];rfl⟩) ?_ ?_
   .rintro N i v out H4' H4 hi ⟨s4,rfl⟩ y hN';obtain⟨rfl,hy⟩:=Itl.get y (SqL.of (s4 _ _ H_));rw[HK] at hy;obtain⟨x,hx,rfl⟩:=IL.mp hy;walk_at "r";refine⟨rfl,?_⟩;walk_at "r";refine U4 (gs:=b) (SqL.of (s4 _ _ Ob)) ?_;walk_at "r";refine X3 (λh2=>?_) (λh2=>?_)
    .walk_at "r";refine⟨d9 (by rw[HI];exact OD _ _ A_ _),hN' _ _ ⟨s4,?_⟩⟩;rw[sZ hx h2,HL];rfl
    .exact hN' _ _ ⟨s4,by rw[pQ hx h2]⟩
   .rintro out H4 ⟨s4,rfl⟩;refine⟨⟨_,SqL.of (s4 _ _ H_),by rw[HI];exact HJ _⟩,λD hD=>⟨d9 (by rw[HI];exact OD _ _ A_ _),?_⟩⟩;rw[HW (HJ _)];obtain⟨H5,e5,f5,m5,_⟩:=b0 (H:=H4) (o:= .lst ((tc.filter λx=>!decide (x∈b)).map V.str)) hD;have UZ:(tc.filter λx=>!decide (x∈b)).length<=30:=Ip (HY _ _) A_;generalize hun:(tc.filter λx=>!decide (x∈b))=un at e5 f5 UZ⊢;change P8 _ _ _ (p0 H4 D _) _;rw[e5];have w_:=s4.trans m5;have X5:=X2.same w_;walk_at "r";refine x9 (SqL.of f5) ?_;refine w5 (n:=un.length) (λi out H'=>Same H5 H'/\out=((un.take i).filter λim=>uQ ((bq Pc.ts n).map (tP W gt fx (r1++r2) (b++[im])))).map V.str) ⟨Same.refl _,rfl⟩ (λi out H' hi hp=>⟨_,.str (un[i]),SqL.of (hp.1 _ _ f5),by rw[HK,HH hi];rfl⟩) ?_ ?_
    .rintro N i v out H6' H6 hi ⟨s6,rfl⟩ y hN';obtain⟨rfl,hy⟩:=Itl.get y (SqL.of (s6 _ _ f5));rw[HK] at hy;obtain⟨x,hx,rfl⟩:=IL.mp hy;walk_at "r";refine⟨rfl,?_⟩;walk_at "r";have Qg:r1[b.length]=n:=by
      rw[Je j',HH j'] at hn;exact Ie hn
     have ends:∀t∈bq Pc.ts n,t.2.2.1∈((r1++r2).zip b++[(n,x)]).map (·.1)/\t.2.2.2∈((r1++r2).zip b++[(n,x)]).map (·.1):=λt ht=>by
      unfold bq at ht;rw[Ik,Ii] at ht;have he:=S.ends t ht.1;rw[←eL hn];have q1:¬(r1[b.length].cps.toList<t.2.2.1.cps.toList):=by
       rw[Qg,←ht.2];unfold yq;split
       .next z=>exact MA z
       .exact Mi _
      have q2:¬(r1[b.length].cps.toList<t.2.2.2.cps.toList):=by
       rw[Qg,←ht.2];unfold yq;split
       .exact Mi _
       .next z=>exact z
      obtain⟨j1,a1,b1⟩:=gL S j' he.1 q1;obtain⟨j2,a2,b2⟩:=gL S j' he.2 q2;exact⟨kU b1 (by rw[HQ,Il];lia),kU b2 (by rw[HQ,Il];lia)⟩
     refine⟨a,p,q,c,pl,d,kvs,t_,e_,L,Pc,W,r1,r2,gp,gt,fx,(r1++r2).zip b,n,x,rfl,X5.same s6,s6 _ _ (w_ _ _ f2),by rw[Kd];lia,tK nn hn,ends,λH7 m7=>?_⟩;have een:((bq Pc.ts n).map λt=>rR W gt fx t.1 (t.2.1,j0 (j4 ((r1++r2).zip b++[(n,x)])) t.2.2.1,j0 (j4 ((r1++r2).zip b++[(n,x)])) t.2.2.2))=(bq Pc.ts n).map (tP W gt fx (r1++r2) (b++[x])):=by
      rw[←eL hn];rfl
     rw[een];walk_at "r";refine X3 (λh2=>?_) (λh2=>?_)
     .walk_at "r";refine⟨d9 (by rw[HI];exact OD _ _ UZ _),hN' _ _ ⟨s6.trans m7,?_⟩⟩;rw[sZ hx h2,HL];rfl
     .exact hN' _ _ ⟨s6.trans m7,by rw[pQ hx h2]⟩
    .rintro out H6 ⟨s6,rfl⟩;refine⟨⟨_,SqL.of (s6 _ _ f5),by rw[HI];exact HJ _⟩,λD2 hD2=>⟨d9 (by rw[HI];exact OD _ _ UZ _),?_⟩⟩;rw[HW (HJ _)];obtain⟨H7,e7,f7,m7,_⟩:=b0 (H:=H6) (o:= .lst ((un.filter λim=>uQ ((bq Pc.ts n).map (tP W gt fx (r1++r2) (b++[im])))).map V.str)) hD2;show Q _ (p0 H6 D2 _);rw[e7];refine k D2 H7 _ (OO.free (w_.free (s6.free hD2))) (OO.trans (w_.trans (s6.trans m7))) f7 ?_;unfold U6;rw[hn];dsimp only;rw[if_neg h1,Wv,hun]
def ky (img:List Str->List Str):Nat->List Str->Nat
 |0,_=>1
 |k+1,b=>1+((img b).map λx=>ky img k (b++[x])).sum
theorem xU {α:Type}{f:α->Nat}{B:Nat}:∀{l:List α},(∀x∈l,f x<=B)->(l.map f).sum<=l.length*B
 |[],_=>by simp
 |x::l,h=>by
  have z:=xU (l:=l) λy hy=>h y (Ij _ hy);have z1:=h x Iw;rw[IP,MB,IV,Po];lia
theorem By {img:List Str->List Str}{k:Nat}{b:List Str}:1<=ky img k b:=by
 cases k with
 |zero=>exact HJ _
 |succ k=>show 1<=1+_;lia
theorem qy {α:Type}{f:α->Nat}:∀{l:List α},(∀x∈l,1<=f x)->l.length<=(l.map f).sum
 |[],_=>HJ _
 |x::l,h=>by
  have z:=qy (l:=l) λy hy=>h y (Ij _ hy);have z1:=h x Iw;rw[IP,MB,IV];lia
theorem rS {L:Str->Str->Bool}{Pc W:A6}{s1 s2 gp gt:List Str}{fx:List (Str×Str)}(S:SrchP L Pc W s1 s2 gp gt fx)(b:List Str):(U6 L Pc W gp gt fx (s1++s2) b).length<=max W.pts.length W.ts.length:=by
 have h1:=S.o'.p1.length_eq;have h2:=S.o'.p2.length_eq;rw[HI] at h1 h2;unfold U6;split
 .simp
 .split
  .exact Ip (HY _ _) (Ip (HY _ _) (by lia))
  .exact Ip (HY _ _) (Ip (HY _ _) (Ip (HY _ _) (Ip (HY _ _) (by lia))))
theorem rl {c:Str}:∀{l:List Str},l.Nodup->(∀x∈l,x=c)->l.length<=1
 |[],_,_=>Jv _
 |[_],_,_=>HJ _
 |x::y::l,nd,h=>by
  have e1:=h x (by simp);have e2:=h y (by simp);rw[e1,e2] at nd;exact absurd Iw (IM.mp nd).1
theorem yu {L:Str->Str->Bool}{Pc W:A6}{s1 s2 gp gt:List Str}{fx:List (Str×Str)}(S:SrchP L Pc W s1 s2 gp gt fx){b:List Str}{n:Str}(hn:(s1++s2)[b.length]?=some n)(hf:n∈fx.map (·.1)):(U6 L Pc W gp gt fx (s1++s2) b).length<=1:=by
 have Sr:gp.Nodup:=S.o'.p1.nodup_iff.mpr (E1 S.nd');have ndt:gt.Nodup:=S.o'.p2.nodup_iff.mpr (N1 S.nd');have hm:∀im,M9 fx n im=true->im=j0 (j4 fx) n:=λim h=>by
  unfold M9 at h;rw[if_pos hf] at h;exact IY h
 unfold U6;rw[hn];show(if _ then _ else _:List Str).length<=1;split
 .refine rl (c:=j0 (j4 fx) n) ((ndt.sublist Jf).sublist Jf) λx hx=>?_;have z:=(Ik.mp (Ik.mp hx).1).2;exact hm x (Bool.and_eq_true_iff.mp z).2
 .refine rl (c:=j0 (j4 fx) n) ((((Sr.sublist Jf).sublist Jf).sublist Jf).sublist Jf) λx hx=>?_;exact hm x (Ik.mp (Ik.mp (Ik.mp hx).1).1).2
theorem vS {L:Str->Str->Bool}{Pc W:A6}{s1 s2 gp gt:List Str}{fx:List (Str×Str)}(S:SrchP L Pc W s1 s2 gp gt fx):∀(k:Nat) (b:List Str),b.length+k=(s1++s2).length->ky (U6 L Pc W gp gt fx (s1++s2)) k b<=(k+1)*(max W.pts.length W.ts.length+1) ^ (((s1++s2).drop b.length).filter (ak fx)).length
 |0,b,_=>by
  show 1<=_;rw[Nat.zero_add,Nat.one_mul];exact Nat.one_le_pow _ _ (by lia)
 |k+1,b,hk=>by
  obtain⟨n,hn⟩:∃n,(s1++s2)[b.length]?=some n:=⟨_,HH (by lia)⟩
  have hd:(s1++s2).drop b.length=n::(s1++s2).drop (b.length+1):=by
   rw[Jh (by lia)];rw[HH (by lia)] at hn;rw[Ie hn]
  have hM:=rS S b;generalize hMM:max W.pts.length W.ts.length=M at*;have ih:∀x∈U6 L Pc W gp gt fx (s1++s2) b,ky (U6 L Pc W gp gt fx (s1++s2)) k (b++[x])<=(k+1)*(M+1) ^ (((s1++s2).drop (b.length+1)).filter (ak fx)).length:=λx _=>by
   have z:=vS S k (b++[x]) (by rw[HQ,Il];lia);rw[HQ,Il,hMM] at z;exact z
  have z:=xU (f:=λx=>ky (U6 L Pc W gp gt fx (s1++s2)) k (b++[x])) ih;have z2:1<=(M+1) ^ (((s1++s2).drop (b.length+1)).filter (ak fx)).length:=Nat.one_le_pow _ _ (by lia);show 1+_<=(k+1+1)*_;rw[hd,Km];generalize hc:(((s1++s2).drop (b.length+1)).filter (ak fx)).length=c at*;by_cases hf:n∈fx.map (·.1)
  .have h1:=yu S hn hf;rw[if_neg (by unfold ak;simp [hf]),hc];have z3:(U6 L Pc W gp gt fx (s1++s2) b).length*((k+1)*(M+1) ^ c)<=1*((k+1)*(M+1) ^ c):=Nn _ h1;rw[Po (k+1) 1];lia
  .rw[if_pos (by unfold ak;simp [hf]),IV,hc,Nat.pow_succ];have z3:(U6 L Pc W gp gt fx (s1++s2) b).length*((k+1)*(M+1) ^ c)<=M*((k+1)*(M+1) ^ c):=Nn _ hM;have e1:(k+1+1)*((M+1) ^ c*(M+1))=M*((k+1)*(M+1) ^ c)+((k+1)*(M+1) ^ c+((M+1) ^ c*(M+1))):=by
    rw[Po (k+1) 1,Nat.one_mul,←Nat.mul_assoc (k+1),Nat.mul_add ((k+1)*(M+1) ^ c) M 1,Nat.mul_one,Nat.mul_comm ((k+1)*(M+1) ^ c) M];lia
   rw[e1];have z4:1<=(k+1)*(M+1) ^ c:=Nat.mul_pos (by lia) z2;lia
def yg (mo:Option Nat)(rows:List (List Str)):List (List Str):=match mo with
 |none=>rows
 |some k=>rows.take k
def Hm (mo:Option Nat)(n:Int):Bool:=match mo with
 |none=>true
 |some k=>!decide (n=(k:Int))
def Bl (mv:V)(mo:Option Nat):Prop:=(mv= .non/\mo=none)\/(mv= .int 1/\mo=some 1)
def LoAt (H:Hp)(t w:Addr)(xs:List V)(ls:List (List Str)):Prop:=Paired (λv l=>∃a,v=V.ref a/\a≠t/\a≠w/\H a=some (.lst (l.map V.str))) xs ls
theorem LoAt.same {H H':Hp}{t w:Addr}{xs:List V}{ls:List (List Str)}(h:LoAt H t w xs ls)(s:Same H H'):LoAt H' t w xs ls:=Paired.imp' (λ_ _ ⟨a,e,n,m,z⟩=>⟨a,e,n,m,s _ _ z⟩) h
theorem LoAt.upT {H:Hp}{t w:Addr}{xs:List V}{ls:List (List Str)}{u:HO}(h:LoAt H t w xs ls):LoAt (p0 H t u) t w xs ls:=Paired.imp' (λ_ _ ⟨a,e,n,m,z⟩=>⟨a,e,n,m,by rw[b7 n];exact z⟩) h
theorem LoAt.upW {H:Hp}{t w:Addr}{xs:List V}{ls:List (List Str)}{u:HO}(h:LoAt H t w xs ls):LoAt (p0 H w u) t w xs ls:=Paired.imp' (λ_ _ ⟨a,e,n,m,z⟩=>⟨a,e,n,m,by rw[b7 m];exact z⟩) h
theorem eM {α β:Type}{F:α->β->Prop}:∀{xs:List α} {ls:List β},Paired F xs ls->xs≠[]->∃U' x U_ l,xs=U'++[x]/\ls=U_++[l]/\Paired F U' U_/\F x l
 |_,_,.nil,h=>absurd rfl h
 |[x],[l],.cons a .nil,_=>⟨[],x,[],l,rfl,rfl,.nil,a⟩
 |x::y::xs,l::m::ls,.cons a t,_=>by
  obtain⟨U',x',U_,l',e1,e2,h1,h2⟩:=eM t (by simp);exact⟨x::U',x',l::U_,l',by rw[e1];rfl,by rw[e2];rfl,.cons a h1,h2⟩
structure LI (mo:Option Nat) (K:Qc) (img:List Str->List Str) (n:Nat) (H0 H':Hp) (tl wl:Addr) (xt xw:List V) (rows bs:List (List Str)) (m:Nat):Prop where
 s:Same H0 H'
 ht:H' tl=some (.lst xt)
 hw:H' wl=some (.lst xw)
 lt:LoAt H' tl wl xt rows
 lw:LoAt H' tl wl xw bs
 bl:∀b∈bs,b.length<=n
 sum:m=(bs.map λb=>ky img (n -b.length) b).sum
 all:rows++bs.reverse.flatMap (λb=>eZ img (n -b.length) b)=eZ img n []
 big:rows.length+m<=1000000
 le1:mo=some 1->rows.length<=1
def nQ (K:Qc):Sp:=λvs H Q _=>∃(a p q c pl:Addr) (kvs t_ e_:List (j3×V)) (L:Str->Str->Bool) (Pc W:A6) (s1 s2 gp gt:List Str) (fx:List (Str×Str)) (mv:V) (mo:Option Nat),vs=[.ref a,.ref c,.ref pl,mv]/\Bl mv mo/\Sx K H a p q c pl kvs t_ e_ L Pc W s1 s2 gp gt fx/\
 ∀(l:Addr) (H':Hp) (xs:List V),H l=none->Same H H'->H' l=some (.lst xs)->LsAt H' xs (yg mo (gu Pc W s1 s2 gp gt fx))->(gu Pc W s1 s2 gp gt fx).length<=1000000->Q (.ref l) H'
theorem kX {n:Nat}(h:n<=2000000):n<sizeLine:=Mc h (by decide)
theorem lE {H:Hp}{Q:VK}{i:Int}(q:Q (.bl true) H):rZ K (.int i) .non H Q:= .inl (.inl (.inl ⟨rfl,by simpa using q⟩))
theorem ua {H:Hp}{Q:VK}{i:Int}{mv:V}{mo:Option Nat}(h:Bl mv mo)(q:Q (.bl (Hm mo i)) H):rZ K (.int i) mv H Q:=by
 rcases h with⟨rfl,rfl⟩|⟨rfl,rfl⟩
 .exact lE q
 .exact nU q
theorem qO {img:List Str->List Str}:∀{k:Nat} {b:List Str},(eZ img k b).length<=ky img k b
 |0,_=>HJ _
 |k+1,b=>by
  show((img b).flatMap λx=>eZ img k (b++[x])).length<=1+((img b).map λx=>ky img k (b++[x])).sum;rw[List.length_flatMap];have z:((img b).map λx=>(eZ img k (b++[x])).length).sum<=((img b).map λx=>ky img k (b++[x])).sum:=by
   generalize img b=l;induction l with
   |nil=>exact HJ _
   |cons x l ih=>
    rw[IP,IP,MB,MB]
    exact Nat.add_le_add qO ih
  lia
abbrev sf (P:Program)(w:World)(K:Qc)(mg:Str->Option Value)(base:Heap):Prop:=K3 P w K mg base B8 5 "lines" ["piece","choices","places","most"] [] (nQ K)
theorem vw {f:Addr}{fd:FuncData}(T:Txt K mg)(z7:K8 P w K mg base)(iY:nJ P w K mg base)(F:Fun K "lines" "lines" mF f fd):A1 P w K mg base B8 5 f fd ["piece","choices","places","most"] (nQ K):=by
 refine F.ok sc_lines (λvs H Q E h=>?_) (λd_ A outer s H vs Q E hr h=>?_)
 .obtain⟨a,p,q,c,pl,kvs,t_,e_,Lr,Pc,W,s1,s2,gp,gt,fx,mv,mo,rfl,_⟩:=h;rfl
 .obtain⟨a,p,q,c,pl,kvs,t_,e_,Lr,Pc,W,s1,s2,gp,gt,fx,mv,mo,rfl,Sw,X0,k⟩:=h;have S:=X0.S;have PF:=S.o.len;have l1:=X0.l1;have l2:=X0.l2;have l2':=l2;rw[C0] at l2';have RG:=wx S;have hM:=rS S;have Ww:=vS S (s1++s2).length [] (by simp);have Pg:=X0.big;rw[←PF,←(S.o.perm.filter (ak fx)).length_eq] at Pg;rw[show([]:List Str).length=0 from rfl,Mg] at Ww;have hN:=sc_lines.nd;have hu:=u6 hr;refine⟨_,QSs.r (u7 (j8 (i:=4) hN rfl (by walk_at "l") (qC z7 (hr.mono (by decide)) j7 (i9 (qV 0) j6)))
   (u7 (j8 (i:=5) hN rfl (by walk_at "l") (bR j6))
   (u7 (j8 (i:=6) hN rfl (by walk_at "l") (bR (i9 (bR j6) j6)))
   (u7 (BI IK (pJ (cM (N2 K (qV 6)) (bF (u4 (gk K hr) (qB (C8 K P w) T.b_len Boot.«len» (i9 (qV 5) j6)) (qV 3) (p8 _))))) (u7 (j8 (i:=7) hN rfl (by walk_at "l") (ER IT PySem.F.slot_list_pop PySem.F.type_list_pop mG K (qV 6)))
   (B0 (aU (u4 (G8 K hr) (qB (C8 K P w) T.b_len Boot.«len» (i9 (qV 7) j6)) (qB (C8 K P w) T.b_len Boot.«len» (i9 (qV 4) j6)) (p8 _)) (B0 (oP (qM IT IZ Ja z8 K (qV 5) (i9 (qV 7) j6)))) (B0 (P2 IK rfl (nk K T.b_reversed (i9 (qC iY (hr.mono (by decide)) j7 (i9 (qV 0) (i9 (qV 1) (i9 (qV 2) (i9 (qV 7) j6))))) j6)) (G1 (i:=8) hN rfl (by walk_at "l"))
    (B0 (oP (qM IT IZ Ja z8 K (qV 6) (i9 (B6 (G0 K) (qV 7) (bR (i9 (qV 8) j6))) j6))))))))))
   (B0 (A0 (qV 5))))))),?_⟩
  walk_at "r";refine⟨a,p,q,kvs,Pc,rfl,X0.at_,by lia,λln H1 r1 r2 n1 m1 f1 or=>?_⟩;have Tq:r1=s1:=E4 or.o1 S.o.o1 (or.p1.nodup_iff.mpr (E1 S.nd)) (or.p1.trans S.o.p1.symm);have Tr:r2=s2:=E4 or.o2 S.o.o2 (or.p2.nodup_iff.mpr (N1 S.nd)) (or.p2.trans S.o.p2.symm);subst Tq Tr;walk_at "r";refine⟨d9 (by simp),λtl ntl=>?_⟩;obtain⟨H2,e2,f2,m2,_⟩:=b0 (o:= .lst []) ntl;rw[e2];walk_at "r";refine⟨d9 (by simp),λl3 n3=>?_⟩;obtain⟨H3,e3,f3,m3,_⟩:=b0 (o:= .lst []) n3;rw[e3];walk_at "r";refine⟨d9 (by simp),λwl nwl=>?_⟩;obtain⟨H4,e4,f4,m4,_⟩:=b0 (o:= .lst [.ref l3]) nwl;rw[e4];walk_at "r";have Va:=m4 _ _ (m3 _ _ f2);have f3':=m4 _ _ f3;have h3t:l3≠tl:=(i8 f2 n3).symm;have h3w:l3≠wl:=i8 f3 nwl;have Wx:tl≠wl:=i8 (m3 _ _ f2) nwl;have RH:=m2.trans (m3.trans m4);have Ts:H1 wl=none:=m2.free (m3.free nwl);generalize hN:(r1++r2).length=n at*;generalize Wy:U6 Lr Pc W gp gt fx (r1++r2)=img at*;refine⟨λm σ H'=>∃(xt xw:List V) (rows bs:List (List Str)) (v1 v2:Option V),σ=[some (.ref a),some (.ref c),some (.ref pl),some mv,some (.ref ln),some (.ref tl),some (.ref wl),v1,v2]/\LI mo K img n H1 H' tl wl xt xw rows bs m,⟨_,[],[.ref l3],[],[[]],none,none,rfl,⟨RH,Va,f4,.nil,.cons ⟨l3,rfl,h3t,h3w,f3'⟩ .nil,(λb hb=>by rw[Ih.mp hb];exact Jv _),rfl,by simp,?_,λ_=>Jv _⟩⟩,?_⟩
  .show 0+(ky img n []+0)<=1000000;lia
  rintro m σ H5 ⟨xt,xw,rows,bs,v1,v2,rfl,L⟩;have OP:bs.length<=m:=by rw[L.sum];exact qy λ_ _=>By
  have QQ:=IC L.lw;have Rb:=IC L.lt;have hb5:=L.big;walk_at "r";refine⟨!xw.isEmpty,.inl ⟨_,SqL.of L.hw,rfl⟩,?_⟩;cases Qn:xw.isEmpty with
  |true=>
   walk_at "r"
   have Wz:xw=[]:=by simpa using Qn
   have F_:bs=[]:=by
    have:bs.length=0:=by rw[←QQ,Wz];rfl
    exact LB this
   have ha:=L.all
   rw[F_] at ha
   simp only[List.reverse_nil,List.flatMap_nil,Jl] at ha
   rw[RG] at ha
   have hle:=L.le1
   refine k tl H5 xt (m1.free ntl) (m1.trans L.s) L.ht ?_ ?_
   .rw[←ha]
    have e:yg mo rows=rows:=by
     rcases Sw with⟨_,rfl⟩|⟨_,rfl⟩
     .rfl
     .exact HW (hle rfl)
    rw[e]
    exact Paired.imp' (λ_ _ ⟨a,e,_,_,z⟩=>⟨a,e,z⟩) L.lt
   .rw[←ha];lia
  |false=>
   have WA:xw≠[]:=by
    intro z;rw[z] at Qn;cases Qn
   walk_at "r"
   refine C5 (x5 (SqL.of L.ht) ?_)
   walk_at "r"
   refine ua Sw ?_
   walk_at "r"
   refine X3 (λPz=>?_) (λPz=>?_)
   case refine_2=>
    walk_at "r"
    have p_:=L.all
    rw[RG] at p_
    have h1:mo=some 1/\rows.length=1:=by
     rcases Sw with⟨_,rfl⟩|⟨_,rfl⟩
     .cases Pz
     .refine⟨rfl,?_⟩;have z:(!decide ((xt.length:Int)=((1:Nat):Int)))=false:=Pz;simp at z;lia
    have hel:=qO (img:=img) (k:=n) (b:=[])
    rw[RG] at hel
    refine k tl H5 xt (m1.free ntl) (m1.trans L.s) L.ht ?_ (by lia)
    rw[h1.1,←p_]
    show LsAt H5 xt (List.take 1 _)
    rw[List.take_append_of_le_length (by lia),HW (by lia)]
    exact Paired.imp' (λ_ _ ⟨a,e,_,_,z⟩=>⟨a,e,z⟩) L.lt
   have WB:mo=some 1->rows.length=0:=λe=>by
    have z:=L.le1 e;subst e;have z2:(!decide ((xt.length:Int)=((1:Nat):Int)))=true:=Pz;simp at z2;lia
   refine⟨λσ' H'=>∃m',m'<m/\∃(xt xw:List V) (rows bs:List (List Str)) (v1 v2:Option V),σ'=[some (.ref a),some (.ref c),some (.ref pl),some mv,some (.ref ln),some (.ref tl),some (.ref wl),v1,v2]/\LI mo K img n H1 H' tl wl xt xw rows bs m',λσ' H' z=>z,?_⟩
   obtain⟨OE,xv,Qp,b,Zt,Sy,Zu,a5,rfl,Tt,WC,hb⟩:=eM L.lw WA
   have Qq:b∈bs:=by rw[Sy];simp
   have hbn:=L.bl b Qq
   have OF:=L.sum
   rw[Sy,HL,List.sum_append] at OF
   have Qg:([b].map λb=>ky img (n -b.length) b).sum=ky img (n -b.length) b:=by simp
   rw[Qg] at OF
   have p_:=L.all
   rw[Sy,NG,List.reverse_singleton,List.singleton_append,JF] at p_
   have hb'l:Qp.length<=m:=by rw[Sy,HQ] at OP;lia
   have hxw':=IC Zu
   walk_at "r"
   refine⟨.inl ⟨rfl,_,SqL.of L.hw⟩,?_⟩
   walk_at "r"
   refine⟨wl,xw,.ref a5,rfl,rfl,L.hw,by rw[Zt];simp,?_⟩
   rw[show xw.dropLast=OE by rw[Zt];simp]
   have s6:Same H1 (p0 H5 wl (.lst OE)):=A3 L.s Ts
   have f6:(p0 H5 wl (.lst OE)) wl=some (.lst OE):=b9
   have t6:(p0 H5 wl (.lst OE)) tl=some (.lst xt):=by rw[b7 Wx];exact L.ht
   have b6:(p0 H5 wl (.lst OE)) a5=some (.lst (b.map V.str)):=by rw[b7 WC];exact hb
   have WD:LoAt (p0 H5 wl (.lst OE)) tl wl xt rows:=L.lt.upW
   have WE:LoAt (p0 H5 wl (.lst OE)) tl wl OE Qp:=LoAt.upW (show LoAt H5 tl wl OE Qp from Zu)
   generalize p0 H5 wl (.lst OE)=H6 at s6 f6 t6 b6 WD WE⊢
   walk_at "r"
   refine C5 (x5 (SqL.of b6) ?_)
   rw[HI]
   walk_at "r"
   refine C5 (x5 (SqL.of (s6 _ _ f1)) ?_)
   rw[HI,hN]
   walk_at "r"
   refine C4 (λh1=>?_) (λh1=>?_)
   .have PC:b.length=n:=by lia
    walk_at "r"
    refine⟨.inl ⟨rfl,_,SqL.of t6⟩,?_⟩
    walk_at "r"
    refine⟨tl,xt,.ref a5,rfl,rfl,t6,kX (by lia),?_⟩
    rw[PC,Nat.sub_self] at OF p_
    have e1:ky img 0 b=1:=rfl
    have e2:eZ img 0 b=[b]:=rfl
    rw[e1] at OF
    rw[e2] at p_
    have WG:H1 tl=none:=ntl
    refine⟨m -1,by lia,xt++[.ref a5],OE,rows++[b],Qp,_,_,rfl,⟨A3 s6 WG,b9,by rw[b7 Wx.symm];exact f6,p7 WD.upT ⟨a5,rfl,Tt,WC,by rw[b7 Tt];exact b6⟩,WE.upT,λb' o_=>L.bl b' (by rw[Sy];exact HU _ o_),by lia,by rw[IF];exact p_,by rw[HQ,Il];lia,λe=>by rw[HQ,Il,WB e];exact HJ _⟩⟩
   .have PC:b.length<n:=by lia
    obtain⟨kk,Sk⟩:∃kk,n -b.length=kk+1:=⟨n -b.length -1,by lia⟩
    walk_at "r"
    refine⟨a,p,q,c,pl,a5,kvs,t_,e_,Lr,Pc,W,r1,r2,gp,gt,fx,b,rfl,X0.same (m1.trans s6),b6,by lia,λli H7 ss n7 m7 f7 hss=>?_⟩
    rw[Wy] at hss
    subst hss
    walk_at "r"
    refine⟨li,_,rfl,SqL.of f7,?_⟩
    have Wi:=hM b
    have hlit:li≠tl:=(i8 t6 n7).symm
    have WH:li≠wl:=(i8 f6 n7).symm
    refine J2 (n:=(img b).length) (λi σ H'=>∃(RI:List V) (v2:Option V),σ=[some (.ref a),some (.ref c),some (.ref pl),some mv,some (.ref ln),some (.ref tl),some (.ref wl),some (.ref a5),v2]/\Same H1 H'/\H' li=some (.lst ((img b).map V.str))/\H' tl=some (.lst xt)/\H' wl=some (.lst RI)/\H' a5=some (.lst (b.map V.str))/\LoAt H' tl wl xt rows/\LoAt H' tl wl RI (Qp++((img b).reverse.take i).map λx=>b++[x])) ⟨OE,v2,rfl,s6.trans m7,f7,m7 _ _ t6,m7 _ _ f6,m7 _ _ b6,WD.same m7,by simpa using WE.same m7⟩ (λi σ H' hi hp=>?_) ?_ ?_
    .obtain⟨_,_,_,_,z,_⟩:=hp
     exact⟨SqL.of z,by rw[HI];exact hi⟩
    .rintro bk i v σ H8' H8 hi ⟨RI,v2',rfl,s8,g8,t8,w8,b8,lt8,lw8⟩ ⟨rfl,hv⟩
     rw[HI] at hv
     have WI:(img b).reverse[i]?=(img b)[(img b).length -1 -i]?:=List.getElem?_reverse hi
     rw[HK,←WI] at hv
     obtain⟨x,hx,rfl⟩:=IL.mp hv
     have VL:=IC lw8
     rw[HQ,HI,HV] at VL
     walk_at "r"
     refine⟨.inl ⟨rfl,_,SqL.of w8⟩,?_⟩
     walk_at "r"
     refine⟨d9 (by simp),λl9 n9=>?_⟩
     obtain⟨H9,e9,f9,m9,_⟩:=b0 (o:= .lst [.str x]) n9
     rw[e9]
     refine ow (m9 _ _ b8) f9 (Ks (d9 (by rw[HI];simp;lia))) (λTu n10=>?_)
     obtain⟨RJ,RK,RL,Qr,_⟩:=b0 (o:= .lst (b.map V.str++[.str x])) n10
     rw[RK]
     have NQ:=m9.trans Qr
     have WJ:Tu≠tl:=(i8 (m9 _ _ t8) n10).symm
     have Tv:Tu≠wl:=(i8 (m9 _ _ w8) n10).symm
     walk_at "r"
     refine⟨wl,RI,.ref Tu,rfl,rfl,NQ _ _ w8,kX (by lia),?_⟩
     refine⟨RI++[.ref Tu],_,rfl,A3 (s8.trans NQ) Ts,by rw[b7 WH];exact NQ _ _ g8,by rw[b7 Wx];exact NQ _ _ t8,b9,by rw[b7 WC];exact NQ _ _ b8,(lt8.same NQ).upW,?_⟩
     rw[IE,hx,HL,←IF]
     refine p7 (lw8.same NQ).upW ⟨Tu,rfl,WJ,Tv,?_⟩
     rw[b7 Tv,RL,HL];rfl
    .rintro σ H8 ⟨RI,v2',rfl,s8,g8,t8,w8,b8,lt8,lw8⟩
     rw[HW (by rw[List.length_reverse];exact HJ _)] at lw8
     refine⟨by show(img b).length=((img b).map V.str).length;rw[HI],?_⟩
     rw[Sk] at OF p_
     have e1:ky img (kk+1) b=1+((img b).map λx=>ky img kk (b++[x])).sum:=rfl
     have e2:eZ img (kk+1) b=(img b).flatMap λx=>eZ img kk (b++[x]):=rfl
     rw[e1] at OF
     rw[e2] at p_
     have ek:∀x:Str,n -(b++[x]).length=kk:=λx=>by rw[HQ,Il];lia
     have eS:(((img b).reverse.map λx=>b++[x]).map λb=>ky img (n -b.length) b).sum=((img b).map λx=>ky img kk (b++[x])).sum:=by
      rw[Iy,List.map_reverse,List.sum_reverse];exact Jm List.sum (JE λx _=>by show ky img (n -(b++[x]).length) (b++[x])=_;rw[ek x])
     refine⟨m -1,by lia,xt,RI,rows,Qp++(img b).reverse.map λx=>b++[x],_,_,rfl,⟨s8,t8,w8,lt8,lw8,λb' o_=>?_,?_,?_,by lia,L.le1⟩⟩
     .rcases Ic.mp o_ with z|z
      .exact L.bl b' (by rw[Sy];exact HU _ z)
      .obtain⟨x,_,rfl⟩:=HP.mp z
       rw[HQ,Il];lia
     .rw[HL,List.sum_append,eS];lia
     .rw[NG,←List.map_reverse,List.reverse_reverse,NH,List.flatMap_map]
      rw[←p_]
      congr 1
      congr 1
      exact di λx _=>by rw[ek x]
def uK (W:A6):List Str:=ql (W.pts.map (·.1))
def uI (W:A6):List Str:=ql (W.ts.map (·.1))
def V5 (W:A6):List Str:=uK W++uI W
noncomputable def B4 (Pc W:A6)(fx:List (Str×Str)):List (List Str):=gu Pc W (uK Pc) (uI Pc) (uK W) (uI W) fx
theorem O9 (W:A6):Ordr W (uK W) (uI W):=⟨fT _,fT _,kZ _,kZ _⟩
def DcAt (H:Hp)(nm:List Str)(xs:List V)(rows:List (List Str)):Prop:=Paired (λv row=>∃d,v=V.ref d/\H d=some (.dK (j4 (nm.zip row)))) xs rows
theorem DcAt.same {H H':Hp}{nm:List Str}{xs:List V}{rows:List (List Str)}(h:DcAt H nm xs rows)(s:Same H H'):DcAt H' nm xs rows:=Paired.imp' (λ_ _ ⟨d,e,z⟩=>⟨d,e,s _ _ z⟩) h
def EU (H:Hp)(p q:Addr)(fv:V)(fx:List (Str×Str)):Prop:=(fv= .non/\fx=[])\/∃d,fv= .ref d/\H d=some (.dK (j4 fx))/\d≠p/\d≠q
structure Mx (K:Qc) (H:Hp) (a p q a' p' q':Addr) (kvs c_:List (j3×V)) (Pc W:A6) (fx:List (Str×Str)):Prop where
 P:WebIs 30 K H a p q kvs Pc
 G:WebIs 30 K H a' p' q' c_ W
 big:((h9 Pc).length+1)*(max W.pts.length W.ts.length+1) ^ ((h9 Pc).filter (ak fx)).length<=1000000
 fnd:(fx.map (·.1)).Nodup
 fin:∀x∈fx,x.1∈h9 Pc
structure LkP (K:Qc) (H:Hp) (pl wl:Addr) (e_ v_:List (j3×V)) (L:Str->Str->Bool) (Pc W:A6):Prop where
 hp:H pl=some (.dK e_)
 kp:e_.map (·.1)=(Pc.pts.map (·.1)).map Sum.inr
 hg:Rd H wl (.dK v_)
 kg:v_.map (·.1)=(W.pts.map (·.1)).map Sum.inr
 eq:∀(n:Str) (v:V) (m:Str) (u:V),(Sum.inr n,v)∈e_->p9 v_ (Sum.inr m:j3)=some u->EqA K H u v (L n m)
 ls:∀n x,n∈Pc.pts.map (·.1)->x∈W.pts.map (·.1)->L n x=true->j0 (j4 W.pts) x=j0 (j4 Pc.pts) n
 lc:∀row,Y9 Pc W (j4 ((V5 Pc).zip row))->∀x∈Pc.pts,L x.1 (gv (V5 Pc) row x.1)=true
theorem LkP.same {H H':Hp}{pl wl:Addr}{e_ v_:List (j3×V)}{L:Str->Str->Bool}{Pc W:A6}(h:LkP K H pl wl e_ v_ L Pc W)(s:Same H H'):LkP K H' pl wl e_ v_ L Pc W:=⟨s _ _ h.hp,h.kp,s.rd h.hg,h.kg,λn v m u a b=>(h.eq n v m u a b).mono s.le,h.ls,h.lc⟩
def DU (H:Hp)(Q:VK)(mo:Option Nat)(Pc W:A6)(fx:List (Str×Str)):Prop:=∀(l:Addr) (H':Hp) (xs:List V),H l=none->Same H H'->H' l=some (.lst xs)->DcAt H' (V5 Pc) xs (yg mo (B4 Pc W fx))->(B4 Pc W fx).length<=1000000->(∀x∈xs,∃d,x=V.ref d/\H d=none)->Q (.ref l) H'
def oD (K:Qc):Sp:=λvs H Q _=>∃(a p q a' p' q' pl wl:Addr) (kvs c_ e_ v_:List (j3×V)) (L:Str->Str->Bool) (Pc W:A6) (fx:List (Str×Str)) (fv mv:V) (mo:Option Nat),vs=[.ref a,.ref a',.ref pl,.ref wl,fv,mv]/\Mx K H a p q a' p' q' kvs c_ Pc W fx/\LkP K H pl wl e_ v_ L Pc W/\Bl mv mo/\EU H pl q fv fx/\DU H Q mo Pc W fx
theorem yl {H:Hp}{a p q a' p' q' pl wl:Addr}{kvs c_ e_ v_:List (j3×V)}{L:Str->Str->Bool}{Pc W:A6}{fx:List (Str×Str)}(h:Mx K H a p q a' p' q' kvs c_ Pc W fx)(l:LkP K H pl wl e_ v_ L Pc W):SrchP L Pc W (uK Pc) (uI Pc) (uK W) (uI W) fx:=
 ⟨O9 _,O9 _,h.P.nd,h.G.nd,h.P.ends,h.fnd,h.fin,l.ls,l.lc⟩
theorem zV {H:Hp}{F:Str×Str->List Str}:∀{kvs:List (j3×V)} {pts:List (Str×Str)},ChAt H F kvs pts->LsAt H (kvs.map (·.2)) (pts.map F)
 |_,_,.nil=> .nil
 |_,_,.cons a t=> .cons a.2 (zV t)
theorem Mx.same {H0 H1:Hp}{a p q a' p' q':Addr}{kvs c_:List (j3×V)}{Pc W:A6}{fx:List (Str×Str)}(h:Mx K H0 a p q a' p' q' kvs c_ Pc W fx)(s:Same H0 H1):Mx K H1 a p q a' p' q' kvs c_ Pc W fx:=⟨h.P.same s,h.G.same s,h.big,h.fnd,h.fin⟩
theorem zW {mo:Option Nat}{rows:List (List Str)}:(yg mo rows).length<=rows.length:=by
 cases mo with
 |none=>exact HJ _
 |some k=>exact List.length_take_le' _ _
def DR (Pc W:A6)(n m:Str):Bool:=decide (j0 (j4 W.pts) m=j0 (j4 Pc.pts) n)
theorem rC {H:Hp}{a p q a' p' q':Addr}{kvs c_:List (j3×V)}{Pc W:A6}{fx:List (Str×Str)}(M:Mx K H a p q a' p' q' kvs c_ Pc W fx):LkP K H p p' (j4 Pc.pts) (j4 W.pts) (DR Pc W) Pc W:=by
 refine⟨M.P.hp,by rw[B5,r6],M.G.at_.pts,by rw[B5,r6],λn v m u h1 h2=>?_,λn x _ _ h=>IY h,λrow f x hx=>?_⟩
 .obtain⟨y,hy,e⟩:=HP.mp h1;have e1:y.1=n:=Jx (JS e).1;have e2:V.str y.2=v:=(JS e).2;obtain⟨k',rfl,hk'⟩:=lX h2;refine .inl ⟨k',y.2,rfl,e2.symm,?_⟩;unfold DR;rw[cc h2,←e1,Q0 (E1 M.P.nd) (show(y.1,y.2)∈Pc.pts from hy)]
 .have z:=f.pts x hx;refine IA ?_;rw[Q0 (E1 M.P.nd) (show(x.1,x.2)∈Pc.pts from hx)];exact Q0 (E1 M.G.nd) z
abbrev lK (P:Program)(w:World)(K:Qc)(mg:Str->Option Value)(base:Heap):Prop:=K3 P w K mg base B8 6 "found" ["piece","web","piece_looks","web_looks","fixed","most"] [] (oD K)
theorem wU {f:Addr}{fd:FuncData}(T:Txt K mg)(Q5:aR P w K mg base)(Y5:ia P w K mg base)(ax:dX P w K mg base)(z7:K8 P w K mg base)(lO:sf P w K mg base)(F:Fun K "found" "found" lJ f fd):A1 P w K mg base B8 6 f fd ["piece","web","piece_looks","web_looks","fixed","most"] (oD K):=by
 refine F.ok sc_found (λvs H Q E h=>?_) (λd_ A outer s H vs Q E hr h=>?_)
 .obtain⟨a,p,q,a',p',q',pl,wl,kvs,c_,e_,v_,L,Pc,W,fx,fv,mv,mo,rfl,_⟩:=h;rfl
 .obtain⟨a,p,q,a',p',q',pl,wl,kvs,c_,e_,v_,L,Pc,W,fx,fv,mv,mo,rfl,M0,L0,Sw,hf,k⟩:=h;have S:=yl M0 L0;have lP:=M0.P.len;have lW:=M0.G.len;have lP2:=lP;have lW2:=lW;rw[C0] at lP2 lW2;have hN:=sc_found.nd;have hu:=u6 hr;refine⟨_,QSs.r (u7 (j8 (i:=6) hN rfl (by walk_at "l") (Ed (u4 EH (qV 4) lF (p8 _)) uH (qV 4)))
   (u7 (j8 (i:=7) hN rfl (by walk_at "l") (qC Q5 (hr.mono (by decide)) j7 (i9 (qV 2) (i9 (qV 3) (i9 (qV 6) j6)))))
   (u7 (aU (cS (N2 K (qC Y5 (hr.mono (by decide)) j7 (i9 (fu (eW K rfl) T.b_list Boot.«list» (i9 (ER Jc Kb KR Q6 K (qV 7)) j6)) j6)))) (B0 (A0 (bR j6))) ck)
   (u7 (j8 (i:=8) hN rfl (by walk_at "l") (qC ax (hr.mono (by decide)) j7 (i9 (qV 0) (i9 (qV 1) (i9 (qV 6) j6)))))
   (u7 (j8 (i:=9) hN rfl (by walk_at "l") (qC z7 (hr.mono (by decide)) j7 (i9 (qV 0) j6)))
   (B0 (A0 (E7 (own:=["row"]) (js:=[9]) (by kernel_rfl) rfl (N7 K (qC lO (hr.mono (by decide)) j7 (i9 (qV 0) (i9 (qV 7) (i9 (qV 8) (i9 (qV 5) j6)))))) (λ_ _ _ _=>(G1 (i:=0) (show List.Nodup (["row","names"]:List Str) by decide+kernel) rfl (by walk_at "l"))) (λ_ _ _ _=>aM) (λ_ _ _ _=>(GR K T.b_dict T.b_zip rfl (i9 (qV 1) (i9 (qV 0) j6)))))))))))),?_⟩
  refine zU (λσ H'=>∃d,σ=[some (.ref a),some (.ref a'),some (.ref pl),some (.ref wl),some fv,some mv,some (.ref d),none,none,none]/\Same H H'/\H' d=some (.dK (j4 fx))/\d≠pl/\d≠q) ?_ ?_
  .rintro σ H1 ⟨d,rfl,m1,hd,Ti,To⟩;have M1:=M0.same m1;have L1:=L0.same m1;walk_at "r";refine⟨pl,wl,d,e_,v_,Pc.pts,W.pts,fx,L,uK W,rfl,L1.hp,L1.kp,E1 M1.P.nd,by lia,L1.hg,L1.kg,E1 M1.G.nd,by lia,(O9 W).p1,(O9 W).o1,L1.eq,hd,Ti,λc H2 t_ nc m2 hc ch=>?_⟩;have M2:=M1.same m2;walk_at "r";refine⟨.inr (.inr (.inl ⟨rfl,.inl ⟨_,hc⟩⟩)),?_⟩;walk_at "r";refine⟨c,_,rfl,rfl,.inl hc,λv3 n3=>?_⟩;obtain⟨H3,e3,f3,m3,_⟩:=b0 (o:= .ext (mP v3 c)) n3;rw[e3];walk_at "r";refine aY f3 (.inl (m3 _ _ hc)) (λl4 n4=>?_);obtain⟨H4,e4,f4,m4,_⟩:=b0 (o:= .lst _) n4;rw[e4];walk_at "r";have OQ:=m3.trans m4;refine⟨l4,_,_,rfl,f4,LsAt.same (zV ch) OQ,by rw[HI];lia,λH5 m5=>?_⟩;have w_:=OQ.trans m5;have M5:=M2.same w_;walk_at "r";refine dS (λh1=>?_) (λh1=>?_)
   .walk_at "r";refine⟨d9 (by simp),λl6 n6=>?_⟩;obtain⟨H6,e6,f6,m6,_⟩:=b0 (o:= .lst []) n6;rw[e6];have e0:B4 Pc W fx=[]:=tE S h1;refine k l6 H6 [] (m1.free (m2.free (w_.free n6))) (m1.trans (m2.trans (w_.trans m6))) f6 (by rw[e0];rcases Sw with⟨_,rfl⟩|⟨_,rfl⟩<;>exact .nil) (by rw[e0];exact Jv _) (λ_ h=>nomatch h)
   .walk_at "r";refine⟨a,p,q,a',p',q',d,kvs,c_,Pc,W,fx,uI W,rfl,M5.P.at_,M5.P.hq,N1 M5.P.nd,by lia,M5.G.at_,N1 M5.G.nd,by lia,(O9 W).p2,(O9 W).o2,w_ _ _ (m2 _ _ hd),To,λps H6 kvq nps m6 hps pls=>?_⟩;have M6:=M5.same m6;have M_:=w_.trans m6;walk_at "r";refine⟨a,p,q,kvs,Pc,rfl,M6.P.at_,by lia,λln H7 r1 r2 n7 m7 f7 or=>?_⟩;have Tq:r1=uK Pc:=E4 or.o1 (O9 Pc).o1 (or.p1.nodup_iff.mpr (E1 S.nd)) (or.p1.trans (O9 Pc).p1.symm);have Tr:r2=uI Pc:=E4 or.o2 (O9 Pc).o2 (or.p2.nodup_iff.mpr (N1 S.nd)) (or.p2.trans (O9 Pc).p2.symm);subst Tq Tr;have M7:=M6.same m7;have OG:=M_.trans m7;walk_at "r";refine⟨a,p,q,c,ps,kvs,t_,kvq,L,Pc,W,uK Pc,uI Pc,uK W,uI W,fx,mv,mo,rfl,Sw,⟨S,M7.P.at_,M7.P.hq,by lia,by lia,M0.big,OG _ _ hc,ch.same OG,m7 _ _ hps,pls.same m7⟩,λlr H8 xs n8 m8 f8 ls Pg=>?_⟩;have WK:=IC ls;refine x9 (SqL.of f8) ?_;refine w5 (n:=xs.length) (λi out H'=>Same H8 H'/\DcAt H' (V5 Pc) out ((yg mo (B4 Pc W fx)).take i)/\∀x∈out,∃d,x=V.ref d/\H d=none) ⟨Same.refl _,.nil,λ_ h=>nomatch h⟩ (λi out H' hi hp=>⟨xs,xs[i],SqL.of (hp.1 _ _ f8),HH hi⟩) ?_ ?_
    .rintro N i v out H9' H9 hi ⟨s9,dc,Oc⟩ y hN';obtain⟨rfl,hy⟩:=Itl.get y (SqL.of (s9 _ _ f8));obtain⟨row,m_,ar,rfl,har⟩:=B7 ls hy;have Sv:=IC dc;rw[HV] at Sv;walk_at "r";refine⟨rfl,?_⟩;walk_at "r";refine⟨ln,ar,(V5 Pc).map Sum.inr,row.map V.str,rfl,by rw[←rA];exact SqL.of (s9 _ _ (m8 _ _ f7)),SqL.of (s9 _ _ har),λd2 OR=>?_⟩;rw[oJ (nm:=V5 Pc) S.nn];obtain⟨RJ,RK,RL,Qr,_⟩:=b0 (o:= .dK (j4 ((V5 Pc).zip row))) OR;change _/\N _ (p0 H9 d2 (.dK (j4 ((V5 Pc).zip row))));rw[RK];have Tw:(B4 Pc W fx).length<=1000000:=Pg;have Rb:(yg mo (B4 Pc W fx)).length<=(B4 Pc W fx).length:=zW;refine⟨Ks (kX (by lia)),hN' _ _ ⟨s9.trans Qr,?_,λx hx=>?_⟩⟩
     .rw[show(yg mo (B4 Pc W fx)).take (i+1)=(yg mo (B4 Pc W fx)).take i++[row] by rw[IE,show(yg mo (B4 Pc W fx))[i]?=some row from m_];rfl];exact p7 (DcAt.same dc Qr) ⟨d2,rfl,RL⟩
     .rcases Ic.mp hx with z|z
      .exact Oc x z
      .exact⟨d2,Ih.mp z,m1.free (m2.free (OG.free (m8.free (s9.free OR))))⟩
    .rintro out H9 ⟨s9,dc,Oc⟩;have Sv:=IC dc;rw[HV] at Sv;have Tw:(B4 Pc W fx).length<=1000000:=Pg;have Rb:(yg mo (B4 Pc W fx)).length<=(B4 Pc W fx).length:=zW;refine⟨⟨_,SqL.of (s9 _ _ f8),HJ _⟩,λD hD=>⟨Ks (kX (by lia)),?_⟩⟩;rw[HW (by rw[WK];exact HJ _)] at dc;obtain⟨RJ,RK,RL,Qr,_⟩:=b0 (H:=H9) (o:= .lst out) hD;show Q _ (p0 H9 D _);rw[RK];exact k D RJ out (m1.free (m2.free (OG.free (m8.free (s9.free hD))))) (m1.trans (m2.trans (OG.trans (m8.trans (s9.trans Qr))))) RL (dc.same Qr) Pg Oc
  .intro nx hnx;walk_at "r";rcases hf with⟨rfl,rfl⟩|⟨d,rfl,hd,Ti,To⟩
   .rw[if_pos (by simp)];walk_at "r";intro d nd;obtain⟨H1,e1,f1,m1,_⟩:=b0 (o:= .dK []) nd;rw[e1];walk_at "r";exact hnx _ _ ⟨d,rfl,m1,f1,(i8 L0.hp nd).symm,(i8 M0.P.hq nd).symm⟩
   .rw[if_neg (by simp)];walk_at "r";exact hnx _ _ ⟨d,rfl,Same.refl _,hd,Ti,To⟩
def Aj (H:Hp)(nm:List Str)(v:V)(rows:List (List Str)):Prop:=(rows=[]/\v= .non)\/∃(row:List Str) (r:List (List Str)) (d:Addr),rows=row::r/\v= .ref d/\H d=some (.dK (j4 (nm.zip row)))
def bx (K:Qc):Sp:=λvs H Q _=>∃(a p q a' p' q' pl wl:Addr) (kvs c_ e_ v_:List (j3×V)) (L:Str->Str->Bool) (Pc W:A6) (fx:List (Str×Str)) (fv:V),vs=[.ref a,.ref a',.ref pl,.ref wl,fv]/\Mx K H a p q a' p' q' kvs c_ Pc W fx/\LkP K H pl wl e_ v_ L Pc W/\EU H pl q fv fx/\∀(v:V) (H':Hp),Same H H'->Aj H' (V5 Pc) v (B4 Pc W fx)->(∀d,v= .ref d->H d=none)->Q v H'
abbrev cG (P:Program)(w:World)(K:Qc)(mg:Str->Option Value)(base:Heap):Prop:=K3 P w K mg base B8 7 "first_found" ["piece","web","piece_looks","web_looks","fixed"] [] (bx K)
theorem ic {f:Addr}{fd:FuncData}(T:Txt K mg)(aH:lK P w K mg base)(F:Fun K "first_found" "first_found" Y2 f fd):A1 P w K mg base B8 7 f fd ["piece","web","piece_looks","web_looks","fixed"] (bx K):=by
 refine F.ok sc_first_found (λvs H Q E h=>?_) (λd_ A outer s H vs Q E hr h=>?_)
 .obtain⟨a,p,q,a',p',q',pl,wl,kvs,c_,e_,v_,L,Pc,W,fx,fv,rfl,_⟩:=h;rfl
 .obtain⟨a,p,q,a',p',q',pl,wl,kvs,c_,e_,v_,L,Pc,W,fx,fv,rfl,M0,L0,hf,k⟩:=h;have hN:=sc_first_found.nd;have hu:=u6 hr;refine⟨_,QSs.r (u7 (j8 (i:=5) hN rfl (by walk_at "l") (qC aH (hr.mono (by decide)) j7 (i9 (qV 0) (i9 (qV 1) (i9 (qV 2) (i9 (qV 3) (i9 (qV 4) (i9 d8 j6))))))))
   (B0 (A0 (Ed (N2 K (qV 5)) (k7 (k8 K hu) (qV 5) d8 (λ_ _=>rfl)) lF)))),?_⟩
  walk_at "r";refine⟨a,p,q,a',p',q',pl,wl,kvs,c_,e_,v_,L,Pc,W,fx,fv,.int 1,some 1,rfl,M0,L0,.inr ⟨rfl,rfl⟩,hf,λl H1 xs nl m1 f1 dc _ Oc=>?_⟩;have Vb:DcAt H1 (V5 Pc) xs ((B4 Pc W fx).take 1):=dc;have PD:=IC Vb;walk_at "r";refine⟨!xs.isEmpty,.inl ⟨_,SqL.of f1,rfl⟩,?_⟩;cases hr:B4 Pc W fx with
  |nil=>
   rw[hr] at Vb PD
   have Wz:xs=[]:=LB (by simpa using PD)
   subst Wz
   rw[if_neg (by decide)]
   walk_at "r"
   exact k .non H1 m1 (.inl ⟨hr,rfl⟩) λ_ z=>nomatch z
  |cons row r=>
   rw[hr] at Vb PD
   obtain⟨x,rfl⟩:∃x,xs=[x]:=by
    match xs,PD with
    |[x],_=>exact⟨x,rfl⟩
   obtain⟨WL,Tx,d,rfl,hd⟩:=B7 (i:=0) Vb rfl
   have er:row=WL:=Ie Tx
   subst er
   rw[if_pos (by rfl)]
   walk_at "r"
   refine i6 (SqL.of f1) (b4 (j:=0) rfl) ?_
   walk_at "r"
   exact k (.ref d) H1 m1 (.inr ⟨row,r,d,hr,rfl,hd⟩) λd' e=>by
    obtain⟨d2,e2,z⟩:=Oc (.ref d) (by simp);have e3:d=d2:=by injection e2
    have e4:d=d':=by injection e
    rw[←e4,e3];exact z
def bu (K:Qc):Sp:=λvs H Q _=>∃(a p q a' p' q' d:Addr) (kvs c_:List (j3×V)) (Pc W:A6) (fx:List (Str×Str)),vs=[.ref a,.ref a',.ref d]/\Mx K H a p q a' p' q' kvs c_ Pc W fx/\H d=some (.dK (j4 fx))/\d≠p/\d≠q/\∀(v:V) (H':Hp),Same H H'->Aj H' (V5 Pc) v (B4 Pc W fx)->(∀d,v= .ref d->H d=none)->Q v H'
abbrev cR (P:Program)(w:World)(K:Qc)(mg:Str->Option Value)(base:Heap):Prop:=K3 P w K mg base B8 8 "first_match" ["piece","web","fixed"] [] (bu K)
theorem iZ {f:Addr}{fd:FuncData}(T:Txt K mg)(Y1:cG P w K mg base)(F:Fun K "first_match" "first_match" X6 f fd):A1 P w K mg base B8 8 f fd ["piece","web","fixed"] (bu K):=by
 refine F.ok sc_first_match (λvs H Q E h=>?_) (λd_ A outer s H vs Q E hr h=>?_)
 .obtain⟨a,p,q,a',p',q',d,kvs,c_,Pc,W,fx,rfl,_⟩:=h;rfl
 .obtain⟨a,p,q,a',p',q',d,kvs,c_,Pc,W,fx,rfl,M0,hd,n1,n2,k⟩:=h;have hN:=sc_first_match.nd;have hu:=u6 hr;refine⟨_,QSs.r (B0 (A0 (qC Y1 (hr.mono (by decide)) j7 (i9 (qV 0) (i9 (qV 1) (i9 (k7 (k8 K hu) (qV 0) d8 (λ_ _=>rfl)) (i9 (k7 (k8 K hu) (qV 1) d8 (λ_ _=>rfl)) (i9 (qV 2) j6)))))))),?_⟩;walk_at "r";refine b5 M0.P.at_.tup (b4 (j:=0) rfl) ?_;walk_at "r";refine b5 M0.G.at_.tup (b4 (j:=0) rfl) ?_;walk_at "r";exact⟨a,p,q,a',p',q',p,p',kvs,c_,_,_,_,Pc,W,fx,.ref d,rfl,M0,rC M0,.inr ⟨d,rfl,hd,n1,n2⟩,k⟩
def J3 (K:Qc):Sp:=λvs H Q _=>∃(a p q a' p' q':Addr) (kvs c_:List (j3×V)) (Pc W:A6),vs=[.ref a,.ref a',.non]/\Mx K H a p q a' p' q' kvs c_ Pc W []/\DU H Q none Pc W []
theorem iX {f:Addr}{fd:FuncData}(T:Txt K mg)(aH:lK P w K mg base){T9:Addr}(F:FunD K "matches" "matches" S0 T9 f fd):A1 P w K mg base B8 7 f fd ["piece","web","fixed"] (J3 K):=by
 refine F.ok sc_matches (λvs H Q E h=>?_) (λd_ A outer s H vs Q E hr h=>?_)
 .obtain⟨a,p,q,a',p',q',kvs,c_,Pc,W,rfl,_⟩:=h;rfl
 .obtain⟨a,p,q,a',p',q',kvs,c_,Pc,W,rfl,M0,k⟩:=h;have hN:=sc_matches.nd;have hu:=u6 hr;refine⟨_,QSs.r (B0 (A0 (qC aH (hr.mono (by decide)) j7 (i9 (qV 0) (i9 (qV 1) (i9 (k7 (k8 K hu) (qV 0) d8 (λ_ _=>rfl)) (i9 (k7 (k8 K hu) (qV 1) d8 (λ_ _=>rfl)) (i9 (qV 2) (i9 lF j6))))))))),?_⟩;walk_at "r";refine b5 M0.P.at_.tup (b4 (j:=0) rfl) ?_;walk_at "r";refine b5 M0.G.at_.tup (b4 (j:=0) rfl) ?_;walk_at "r";exact⟨a,p,q,a',p',q',p,p',kvs,c_,_,_,_,Pc,W,[],.non,.non,none,rfl,M0,rC M0,.inl ⟨rfl,rfl⟩,.inl ⟨rfl,rfl⟩,k⟩
theorem x8 {t u:TS}{nx:L2.St->Hp->Prop}{rt:V->Hp->Prop}{bk ct:L2.St->Hp->Prop}{σ:L2.St}{H:Hp}(h:∀nx':L2.St->Hp->Prop,(∀σ H,u ⟨nx,rt,bk,ct⟩ σ H->nx' σ H)->t ⟨nx',rt,bk,ct⟩ σ H):wC t u ⟨nx,rt,bk,ct⟩ σ H:=h _ λ_ _ z=>z
theorem WebIs.up {n m:Nat}{H:Hp}{a p q:Addr}{kvs:List (j3×V)}{W:A6}(h:WebIs n K H a p q kvs W)(l:n<=m):WebIs m K H a p q kvs W:=⟨h.at_,h.hp,h.hq,h.ne,h.nd,Ip h.len l,h.ends,h.nl⟩
structure BQ (B W:A6) (fx:List (Str×Str)):Prop where
 big:((h9 B).length+1)*(max W.pts.length W.ts.length+1) ^ ((h9 B).filter (ak fx)).length<=1000000
 fnd:(fx.map (·.1)).Nodup
 fin:∀x∈fx,x.1∈h9 B
def Eg (H H':Hp)(v:V)(bs:List Sd)(W:A6)(fx:List (Str×Str)):Prop:=
 ((∀b∈bs,B4 b.W W fx=[])/\v= .non)\/∃(i:Nat) (b:Sd) (row:List Str) (r:List (List Str)) (t d:Addr),bs[i]?=some b/\(∀b'∈bs.take i,B4 b'.W W fx=[])/\B4 b.W W fx=row::r/\v= .ref t/\H' t=some (.tup [.int (i:Int),.ref d])/\H' d=some (.dK (j4 ((V5 b.W).zip row)))/\H d=none
def ko (K:Qc):Sp:=λvs H Q _=>∃(S L R:Sd) (r bl m:Addr) (bs:List Sd) (fx:List (Str×Str)),vs=[.ref S.a,.ref r,.ref m]/\SdIs K H S/\RuleIs K H r bl L R bs/\bs.length<=10/\H m=some (.dK (j4 fx))/\(∀b∈bs,m≠b.p/\m≠b.q/\BQ b.W S.W fx)/\∀(v:V) (H':Hp),Same H H'->Eg H H' v bs S.W fx->Q v H'
abbrev oh (P:Program)(w:World)(K:Qc)(mg:Str->Option Value)(base:Heap):Prop:=K3 P w K mg base B8 9 "barred" ["web","rule","match"] [] (ko K)
theorem uE {f:Addr}{fd:FuncData}(T:Txt K mg)(X8:cR P w K mg base)(F:Fun K "barred" "barred" jk f fd):A1 P w K mg base B8 9 f fd ["web","rule","match"] (ko K):=by
 refine F.ok sc_barred (λvs H Q E h=>?_) (λd_ A outer s H vs Q E hr h=>?_)
 .obtain⟨S,L,R,r,bl,m,bs,fx,rfl,_⟩:=h;rfl
 .obtain⟨S,L,R,r,bl,m,bs,fx,rfl,hS,hR,OP,hm,hb,k⟩:=h;have hN:=sc_barred.nd;have hu:=u6 hr;refine⟨_,QSs.r (u7 (P2 IK rfl (ee K T.b_enumerate (i9 (k7 (k8 K hu) (qV 1) d8 (λ_ _=>rfl)) j6)) (pP K rfl (dw (G1 (i:=3) hN rfl (by walk_at "l")) (dw (G1 (i:=4) hN rfl (by walk_at "l")) pI)))
    (u7 (j8 (i:=5) hN rfl (by walk_at "l") (qC X8 (hr.mono (by decide)) j7 (i9 (qV 4) (i9 (qV 0) (i9 (qV 2) j6)))))
   (B0 (aU (u4 jg (qV 5) lF (p8 _)) (B0 (A0 (G3 (i9 (qV 3) (i9 (qV 5) j6))))) ck))))
   (B0 (A0 lF))),?_⟩
  refine x8 λQt hx=>?_;walk_at "e";refine b5 hR.tup (b4 (j:=2) rfl) ?_;refine⟨_,rfl,.inl ⟨bl,_,rfl,hR.bl,?_⟩⟩;refine J2 (n:=bs.length) (λi σ H'=>Same H H'/\(∃v3 v4 v5,σ=[some (.ref S.a),some (.ref r),some (.ref m),v3,v4,v5])/\∀b∈bs.take i,B4 b.W S.W fx=[]) ⟨Same.refl _,⟨_,_,_,rfl⟩,λb h=>by simp at h⟩ (λi σ H' hi hp=>⟨_,.ref (bs[i]).a,hp.1.seq hR.bl,by rw[HK,HH hi];rfl⟩) ?_ ?_
  .rintro bk i v σ H1 H1' hi ⟨s1,⟨v3,v4,v5,rfl⟩,k_⟩ ⟨t,x,hx9,nt,rfl,rfl⟩;have q_:=hx9 _ (s1.seq hR.bl);rw[HK,HH hi] at q_;cases q_;have Zv:=ID hi;obtain⟨n1,n2,B⟩:=hb _ Zv;obtain⟨H2,e2,f2,m2,_⟩:=b0 (o:= .tup _) nt;rw[e2];have s2:=s1.trans m2;have R2:=hR.same s2;refine J6 (SqT.of f2) rfl ?_;walk_at "e";refine x8 λRc hx2=>?_;walk_at "e";refine⟨_,_,_,_,_,_,m,_,_,_,_,fx,rfl,⟨WebIs.up (R2.bars _ Zv) (by lia),WebIs.up (hS.same s2) (by lia),B.big,B.fnd,B.fin⟩,s2 _ _ hm,n1,n2,λv' H3 m3 fst nw=>?_⟩;refine hx2 [some (.ref S.a),some (.ref r),some (.ref m),some (.int (i:Int)),some (.ref (bs[i]).a),some v'] _ ?_;rcases fst with⟨e,rfl⟩|⟨row,rr,d,e,rfl,hd⟩
   .walk_at "e";rw[if_neg (by simp)];walk_at "e";refine⟨s2.trans m3,⟨_,_,_,rfl⟩,λb h=>?_⟩;rw[IE,HH hi] at h;rcases Ic.mp h with z|z
    .exact k_ b z
    .rw[show b=bs[i] by simpa using z];exact e
   .walk_at "e";rw[if_pos (by simp)];walk_at "e";refine⟨d9 (by simp),λt4 n4=>?_⟩;obtain⟨H4,e4,f4,m4,_⟩:=b0 (o:= .tup [.int (i:Int),.ref d]) n4;rw[e4];exact k _ _ (s2.trans (m3.trans m4)) (.inr ⟨i,_,row,rr,t4,d,HH hi,k_,e,rfl,f4,m4 _ _ hd,s2.free (nw d rfl)⟩)
  rintro σ H1 ⟨s1,⟨v3,v4,v5,rfl⟩,k_⟩;refine⟨⟨_,s1.seq hR.bl,by rw[HI];exact HJ _⟩,?_⟩;rw[HW (HJ _)] at k_;refine hx [some (.ref S.a),some (.ref r),some (.ref m),v3,v4,v5] H1 ?_;walk_at "e";exact k _ _ s1 (.inl ⟨k_,rfl⟩)
theorem wj:∀x∈kSL.cps.toList,x∈kNS.cps.toList:=by decide+kernel
def Wd (ws:List Str)(lo hi:Nat)(n:Str):Prop:=∃j,lo<=j/\j<hi/\ws[j]?=some n
theorem bU {ws:List Str}(nd:ws.Nodup){i j:Nat}{n:Str}(h1:ws[i]?=some n)(h2:ws[j]?=some n):i=j:=by
 obtain⟨hi,e1⟩:=Js.mp h1;obtain⟨hj,e2⟩:=Js.mp h2;have z:=KI.mp nd;rcases Om i j with h|h|h
 .exact absurd (e1.trans e2.symm) (z i j hi hj h)
 .exact h
 .exact absurd (e2.trans e1.symm) (z j i hj hi h)
structure LR (ws:List Str) (i1 i2 i3 i4:Nat) (PL:List (Str×Str)) (TL:List (Str×F0)) (PR:List (Str×Str)) (TR:List (Str×F0)):Prop where
 pl:∀x∈PL,Wd ws 0 i1 x.1/\Z0 x.2=true
 tl:∀x∈TL,Wd ws 4 (4+i2) x.1/\Z0 x.2.1=true/\x.2.2.1∈PL.map (·.1)/\x.2.2.2∈PL.map (·.1)
 ndl:(PL.map (·.1)).Nodup
 ndt:(TL.map (·.1)).Nodup
 ll:PL.length<=i1
 lt:TL.length<=i2
 pr:∀x∈PR,(x∈PL\/Wd ws 8 (8+i3) x.1)/\Z0 x.2=true
 tr:∀x∈TR,(x∈TL\/Wd ws 10 (10+i4) x.1)/\Z0 x.2.1=true/\x.2.2.1∈PR.map (·.1)/\x.2.2.2∈PR.map (·.1)
 ndr:(PR.map (·.1)).Nodup
 ndu:(TR.map (·.1)).Nodup
 lr:PR.length<=i1+i3
 lu:TR.length<=i2+i4
theorem fj {x:Str}(h:Z0 x=true):x.length<=8:=by
 have:=jU (show K5 x kSL 8=true from h);lia
theorem EqN.of0 {H:Hp}{x y:V}{b:Bool}(h:EqN K H 0 x y b):∀n,EqN K H n x y b
 |0=>h
 |n+1=> .inl (EqN.of0 h n)
theorem iD {H:Hp}{A C:Sd}{n:Nat}(h:SdIs K H A)(h':SdIs K H C)(p1:A.W.pts.Perm C.W.pts)(p2:A.W.ts.Perm C.W.ts)(hp:A.p≠C.p)(hq:A.q≠C.q):EqN K H (n+1) (.ref A.a) (.ref C.a) true:=by
 by_cases e:A.a=C.a
 .exact EqN.of0 (.inr ⟨A.a,C.a,rfl,rfl,.inl ⟨e,rfl⟩⟩) _
 .refine .inr ⟨A.a,C.a,[.ref A.p,.ref A.q],[.ref C.p,.ref C.q],[true,true],rfl,rfl,e,.inl ⟨h.at_.tup,h'.at_.tup⟩,rfl,rfl,λj x y b hx hy hb=>?_,rfl⟩;match j,hx,hy,hb with
  |0,hx,hy,hb=>
   cases hx;cases hy;cases hb
   exact EqN.of0 (.inr ⟨A.p,C.p,rfl,rfl,rJ hp h.at_.pts h'.at_.pts p1 (E1 h'.nd)⟩) _
  |1,hx,hy,hb=>
   cases hx;cases hy;cases hb
   exact EqN.of0 (.inr ⟨A.q,C.q,rfl,rfl,uU hq h.at_.ties h'.at_.ties h.at_.ts h'.at_.ts p2 (N1 h'.nd)⟩) _
  |j+2,hx,_,_=>cases hx
def DK (H:Hp)(a:Addr):Prop:=∃k,H a=some (.dK k)
structure Wb (K:Qc) (H:Hp) (s:Sd):Prop where
 t:SqT K H s.a [.ref s.p,.ref s.q]
 p:DK H s.p
 q:DK H s.q
def bQ (gs:List Str)(W:A6):A6:=⟨W.pts.filter λx=>!decide (x.1∈gs),W.ts.filter λx=>!decide (x.1∈gs)⟩
def kS (gs:List Str)(W:A6):Bool:=(bQ gs W).ts.any λx=>decide (x.2.2.1∈gs)||decide (x.2.2.2∈gs)
def iQ (K:Qc):Sp:=λvs H Q E=>∃(a l p q:Addr) (kvs:List (j3×V)) (W:A6) (gs:List Str),vs=[.ref a,.ref l]/\WebAt K H a p q kvs W/\H p=some (.dK (j4 W.pts))/\H q=some (.dK kvs)/\SqL K H l (gs.map V.str)/\(W.pts.map (·.1)).Nodup/\(W.ts.map (·.1)).Nodup/\W.pts.length<=60/\W.ts.length<=60/\(∀x∈W.ts,x.1.length<=100)/\
 if kS gs W=true then ∀H' e,Same H H'->H' e=none->E (.ref (cA K "Loose")) (some e) H' else NewP K H Q (bQ gs W)
theorem NewP.mono {K:Qc}{H H1:Hp}{Q:VK}{W:A6}(s:Same H H1)(k:NewP K H Q W):NewP K H1 Q W:=λa p q kvs W' H' s' h1 h2 h3 h4 h5 h6 h7 h8=>k a p q kvs W' H' (s.trans s') h1 h2 h3 h4 (s.free h5) (s.free h6) h7 h8
abbrev kc (P:Program)(w:World)(K:Qc)(mg:Str->Option Value)(base:Heap):Prop:=K3 P w K mg base (qr P w) 3 "without" ["web","names"] [] (iQ K)
theorem qg {f:Addr}{fd:FuncData}(T:Txt K mg)(K6:dY P w K mg base)(F:Fun K "without" "without" fH f fd):A1 P w K mg base (qr P w) 3 f fd ["web","names"] (iQ K):=by
 refine F.okE sc_without (λvs H Q E h=>?_) (λd_ A outer s H vs Q E hr h=>?_)
 .obtain⟨a,l,p,q,kvs,W,gs,rfl,_⟩:=h;rfl
 .obtain⟨a,l,p,q,kvs,W,gs,rfl,hW,hp,hq,hL,nd1,OR,l1,l2,PF,k⟩:=h;have Nl:=k9 W.pts;have NO:=hW.ts.length;have hN:=sc_without.nd;have hu:=u6 hr;refine⟨_,QSs.r (u7 (j8 (i:=2) hN rfl (by walk_at "l") (fu (P1 K rfl) T.b_dict Boot.«dict» (i9 (E7 (own:=["name","kind"]) (js:=[1]) (by kernel_rfl) rfl (R6 (k7 (k8 K hu) (qV 0) d8 (λ_ _=>rfl))) (λ_ _ _ _=>(pP K rfl (dw (G1 (i:=0) (show List.Nodup (["name","kind","names"]:List Str) by decide+kernel) rfl (by walk_at "l")) (dw (G1 (i:=1) (show List.Nodup (["name","kind","names"]:List Str) by decide+kernel) rfl (by walk_at "l")) pI)))) (λ_ _ _ _=>(iS (u4 (aA K hu) (qV 0) (qV 2) (by rfl)))) (λ_ _ _ _=>(G3 (i9 (qV 0) (i9 (qV 1) j6))))) j6)))
   (u7 (j8 (i:=3) hN rfl (by walk_at "l") (fu (P1 K rfl) T.b_dict Boot.«dict» (i9 (E7 (own:=["name","tie"]) (js:=[1]) (by kernel_rfl) rfl (R6 (k7 (k8 K hu) (qV 0) d8 (λ_ _=>rfl))) (λ_ _ _ _=>(pP K rfl (dw (G1 (i:=0) (show List.Nodup (["name","tie","names"]:List Str) by decide+kernel) rfl (by walk_at "l")) (dw (G1 (i:=1) (show List.Nodup (["name","tie","names"]:List Str) by decide+kernel) rfl (by walk_at "l")) pI)))) (λ_ _ _ _=>(iS (u4 (aA K hu) (qV 0) (qV 2) (by rfl)))) (λ_ _ _ _=>(G3 (i9 (qV 0) (i9 (qV 1) j6))))) j6)))
   (u7 (P2 PassesOwn.leaving rfl (N7 K (qB (F4 K rfl) T.b_sorted Boot.«sorted» (i9 (qV 3) j6))) (G1 (i:=4) hN rfl (by walk_at "l"))
    (B0 (aU (pJ (lB (u4 (kIn K hu) (k7 (k8 K hu) (k7 (k8 K hu) (qV 3) (qV 4) (λ_ _=>rfl)) d8 (λ_ _=>rfl)) (qV 1) (by rfl)) (iC (u4 (kIn K hu) (k7 (k8 K hu) (k7 (k8 K hu) (qV 3) (qV 4) (λ_ _=>rfl)) d8 (λ_ _=>rfl)) (qV 1) (by rfl))))) (B0 (mI gS T.r_Loose rfl (i9 (Hz (qV 4)) j6))) ck)))
   (B0 (A0 (qC K6 (hr.mono (by decide)) j7 (i9 (G3 (i9 (qV 2) (i9 (qV 3) j6))) j6))))))),?_⟩
  walk_at "r";refine b5 hW.tup (b4 (j:=0) rfl) ?_;refine D4 hp (λSr o1=>?_);refine w5 (n:=(j4 W.pts).length) (λi out H'=>Same (E3 p o1 (j4 W.pts) H) H'/\Paired (PrV K H') out (j4 ((W.pts.take i).filter λx=>!decide (x.1∈gs)))) ⟨Same.refl _,.nil⟩ (λi out H' hi hp=>⟨hp.1 _ _ b9,hi⟩) ?_ ?_
  .rintro N i v out H1 H2 hi ⟨s1,pr⟩ ⟨t,kv,i',nt,rfl,rfl⟩ hN';obtain⟨x,hx,rfl⟩:=dD i';obtain⟨H3,e3,f3,m3,_⟩:=b0 (o:= .tup _) nt;rw[e3];have L3:=((K9 (o:=o1) hp).trans (s1.trans m3).le).lst hL;have e7:W.pts.take (i+1)=W.pts.take i++[x]:=by rw[IE,hx];rfl
   have D_:=IC pr;have J_:=HY (λx:Str×Str=>!decide (x.1∈gs)) (W.pts.take i);rw[k9] at D_;rw[HV] at J_;refine J6 (SqT.of f3) rfl ?_;walk_at "r";refine⟨rfl,?_⟩;walk_at "r";refine U4 L3 ?_;walk_at "r";refine dS (λhb=>?_) (λhb=>?_)
   .walk_at "r";refine⟨d9 (by simp),λt4 n4=>?_⟩;obtain⟨H4,e4,f4,m4,_⟩:=b0 (o:= .tup _) n4;rw[e4];refine⟨d9 (by lia),hN' _ _ ⟨s1.trans (m3.trans m4),?_⟩⟩;rw[e7,IS,IQ (by rw[hb];rfl),Jz];unfold j4 at pr⊢;rw[HL];exact p7 (Paired.imp' (λ_ _ z=>PrV.mono (m3.trans m4).le z) pr) ⟨t4,rfl,SqT.of f4⟩
   .refine hN' _ _ ⟨s1.trans m3,?_⟩;rw[e7,IS,IW (by rw[hb];simp),Jz,Jl];exact Paired.imp' (λ_ _ z=>PrV.mono m3.le z) pr
  .rintro out H1 ⟨s1,pr⟩;have D_:=IC pr;have J_:=HY (λx:Str×Str=>!decide (x.1∈gs)) (W.pts.take (j4 W.pts).length);rw[k9] at D_;rw[HV] at J_;refine⟨⟨s1 _ _ b9,HJ _⟩,λD hD=>⟨d9 (by lia),?_⟩⟩;have sM:=Q1 hp s1 hD (u:= .lst out);have fM:=bg s1 hD (u:= .lst out);have RM:=Paired.imp' (λ_ _ z=>PrV.mono (lQ (d:=p) (u:= .lst out) hD) z) pr;generalize thaw p (p0 H1 D (.lst out))=HM at sM fM RM⊢;rw[HW (by lia)] at RM;walk_at "r";refine N8 (SqL.of fM) RM (d9 (by rw[k9];refine Ip (HY _ _) ?_;lia)) (λpp npp=>?_);have eP:Y4 (j4 (W.pts.filter λx=>!decide (x.1∈gs)))=j4 (bQ gs W).pts:=U0 (ah (N5 nd1));rw[eP];obtain⟨H2,e2,f2,m2,_⟩:=b0 (o:= .dK (j4 (bQ gs W).pts)) npp;show P8 _ _ _ (p0 HM pp (.dK (j4 (bQ gs W).pts))) _;rw[e2];have s2:=sM.trans m2;have W2:=hW.mono s2.le;have RN:=s2 _ _ hq;have L2':=s2.seq hL;walk_at "r";refine b5 W2.tup (b4 (j:=1) rfl) ?_;refine D4 RN (λSs o2=>?_);refine w5 (n:=kvs.length) (λi out H'=>Same (E3 q o2 kvs H2) H'/\Paired (PrV K H') out ((kvs.take i).filter λkv=>!eu gs kv.1)) ⟨Same.refl _,.nil⟩ (λi out H' hi hp=>⟨hp.1 _ _ b9,hi⟩) ?_ ?_
   .rintro N i v out H3 H3' hi ⟨s3,pr3⟩ ⟨t,kv,i',nt,rfl,rfl⟩ hN';obtain⟨H4,e4,f4,m4,_⟩:=b0 (o:= .tup _) nt;rw[e4];have Qm:=(K9 (o:=o2) RN).trans (s3.trans m4).le;have L4:=Qm.lst L2';obtain⟨x,hx,ex,b,eb,sb⟩:=(W2.ts.mono Qm).get i';obtain⟨kk,Qj⟩:=kv;have OK:kk=Sum.inr x.1:=ex;have Qk:Qj= .ref b:=eb;subst OK Qk;have e7:kvs.take (i+1)=kvs.take i++[(Sum.inr x.1,.ref b)]:=by rw[IE,i'];rfl
    have WN:=IC pr3;have Ph:=HY (λkv:j3×V=>!eu gs kv.1) (kvs.take i);rw[HV] at Ph;refine J6 (SqT.of f4) rfl ?_;walk_at "r";refine⟨rfl,?_⟩;walk_at "r";refine U4 L4 ?_;walk_at "r";refine dS (λhb=>?_) (λhb=>?_)
    .walk_at "r";refine⟨d9 (by simp),λt5 n5=>?_⟩;obtain⟨H5,e5,f5,m5,_⟩:=b0 (o:= .tup _) n5;rw[e5];refine⟨d9 (by lia),hN' _ _ ⟨s3.trans (m4.trans m5),?_⟩⟩;rw[e7,IS,IQ (p:=λkv:j3×V=>!eu gs kv.1) (by show(!decide (x.1∈gs))=true;rw[hb];rfl),Jz];exact p7 (Paired.imp' (λ_ _ z=>PrV.mono (m4.trans m5).le z) pr3) ⟨t5,rfl,SqT.of f5⟩
    .refine hN' _ _ ⟨s3.trans m4,?_⟩;rw[e7,IS,IW (p:=λkv:j3×V=>!eu gs kv.1) (by show ¬(!decide (x.1∈gs))=true;rw[hb];simp),Jz,Jl];exact Paired.imp' (λ_ _ z=>PrV.mono m4.le z) pr3
   .rintro Qu H3 ⟨s3,pr3⟩;have WN:=IC pr3;have Ph:=HY (λkv:j3×V=>!eu gs kv.1) (kvs.take kvs.length);rw[HV] at Ph;refine⟨⟨s3 _ _ b9,HJ _⟩,λD3 hD3=>⟨d9 (by lia),?_⟩⟩;have WO:=Q1 RN s3 hD3 (u:= .lst Qu);have Zw:=bg s3 hD3 (u:= .lst Qu);have RO:=Paired.imp' (λ_ _ z=>PrV.mono (lQ (d:=q) (u:= .lst Qu) hD3) z) pr3;generalize thaw q (p0 H3 D3 (.lst Qu))=HM3 at WO Zw RO⊢;rw[HW (HJ _)] at RO;have ndk:((kvs.filter λkv=>!eu gs kv.1).map (·.1)).Nodup:=N5 Ss;walk_at "r";refine N8 (SqL.of Zw) RO (d9 (by refine Ip (HY _ _) ?_;lia)) (λqq nqq=>?_);rw[U0 ndk];obtain⟨H4,e4,f4,m4,_⟩:=b0 (o:= .dK (kvs.filter λkv=>!eu gs kv.1)) nqq;show P8 _ _ _ (p0 HM3 qq _) _;rw[e4];have s4:=s2.trans (WO.trans m4);have W4:=hW.mono s4.le;have TT:TiesIs K H4 (kvs.filter λkv=>!eu gs kv.1) (bQ gs W).ts:=O7 (λkv x z=>by rw[z.1];rfl) W4.ts;have hpp:=(WO.trans m4) _ _ f2;generalize hkf:(kvs.filter λkv=>!eu gs kv.1)=kvf at TT f4 ndk;have lkf:kvf.length<=60:=by rw[←hkf];refine Ip (HY _ _) ?_;lia
    have L4:=s4.seq hL;walk_at "r";refine z6 (ss:=(bQ gs W).ts.map (·.1)) (.inl f4) (by rw[TT.keys,r6]) (by rw[HI,←TT.length];lia) (λs1 a1 a2 ls1 n1=>?_);obtain⟨H5,e5,f5,m5,_⟩:=b0 (o:= .lst _) n1;rw[e5];have ndt:((bQ gs W).ts.map (·.1)).Nodup:=N5 OR;refine x9 (SqL.of f5) ?_;refine Q3 (n:=s1.length) (λi σ H'=>Same H5 H'/\(∃v4,σ=[some (.ref a),some (.ref l),some (.ref pp),some (.ref qq),v4])/\∀n∈s1.take i,∀t:F0,(n,t)∈(bQ gs W).ts->(decide (t.2.1∈gs)||decide (t.2.2∈gs))=false) ⟨Same.refl _,⟨_,rfl⟩,by simp⟩ (λi σ H' hi hp=>⟨_,.str (s1[i]),SqL.of (hp.1 _ _ f5),by rw[HK,HH hi];rfl⟩) ?_ ?_
    .rintro i v σ H6' H6 hi ⟨s6,⟨v4,rfl⟩,ha⟩ y;obtain⟨rfl,hx⟩:=Itl.get y (SqL.of (s6 _ _ f5));rw[HK] at hx;obtain⟨nm,q_,rfl⟩:=IL.mp hx;have Oj:=a1.mem_iff.mp (HX q_);obtain⟨⟨Sz,tt⟩,l_,rfl⟩:=HP.mp Oj;have PH:=m5.trans s6;obtain⟨c,ev,sc⟩:=cf (TT.mono PH.le) ndt l_;have L6:=PH.seq L4;have F6:Rd H6 qq (.dK kvf):= .inl (PH _ _ f4);have loud:(decide (tt.2.1∈gs)||decide (tt.2.2∈gs))=true->∀e,H6 e=none->E (.ref (cA K "Loose")) (some e) H6:=λhb e he=>by
      have hl:kS gs W=true:=Jq.mpr ⟨_,l_,hb⟩;rw[if_pos hl] at k;exact k H6 e (s4.trans PH) he
     have Zx:Sz.length<=100:=PF _ (Ik.mp l_).1;have Zy:(" is not taken out, but an end of it is":Str).length<=100:=by decide+kernel
     walk_at "r";refine C2 (v:= .ref c) (by have z':=G7 (k:=Sum.inr Sz) F6;rw[ev] at z';exact z') ?_;walk_at "r";refine b5 sc (b4 (j:=1) rfl) ?_;walk_at "r";refine rT L6 ?_;walk_at "r";refine C4 (λh1=>?_) (λh1=>?_)
     .walk_at "r";refine⟨Sz,rfl,by lia,λz=>?_⟩;walk_at "r";exact⟨d9 (by simp),loud (by rw[IA h1];rfl)⟩
     .walk_at "r";refine C2 (v:= .ref c) (by have z':=G7 (k:=Sum.inr Sz) F6;rw[ev] at z';exact z') ?_;walk_at "r";refine b5 sc (b4 (j:=2) rfl) ?_;walk_at "r";refine rT L6 ?_;walk_at "r";refine C4 (λh2=>?_) (λh2=>?_)
      .walk_at "r";refine⟨Sz,rfl,by lia,λz=>?_⟩;walk_at "r";exact⟨d9 (by simp),loud (by rw[IA h2,Bool.or_true])⟩
      .walk_at "r";refine⟨s6,⟨_,rfl⟩,λn hn t ht=>?_⟩;rw[IE,q_] at hn;rcases Ic.mp hn with h'|h'
       .exact ha n h' t ht
       .have SK:n=Sz:=by simpa using h'
        subst SK;rw[P9 ndt ht l_,Iv h1,Iv h2];rfl
    .rintro σ H6 ⟨s6,⟨v4,rfl⟩,ha⟩;refine⟨⟨_,SqL.of (s6 _ _ f5),by rw[HI];exact HJ _⟩,?_⟩;rw[HW (HJ _)] at ha;have hl:¬kS gs W=true:=λz=>by
      obtain⟨x,hx,hb⟩:=Jq.mp z;rw[ha x.1 (a1.mem_iff.mpr (HP.mpr ⟨x,hx,rfl⟩)) x.2 hx] at hb;cases hb
     rw[if_neg hl] at k;have PH:=m5.trans s6;walk_at "r";refine⟨d9 (by simp),λt9 n9=>?_⟩;obtain⟨H9,e9,f9,m9,_⟩:=b0 (o:= .tup _) n9;rw[e9];have Vc:=PH.trans m9;walk_at "r";exact⟨t9,pp,qq,kvf,bQ gs W,rfl,⟨SqT.of f9,.inl (Vc _ _ hpp),.inl (Vc _ _ f4),TT.mono Vc.le⟩,N5 nd1,ndt,Ip (HY _ _) l1,Ip (HY _ _) l2,NewP.mono (s4.trans Vc) k⟩
def rK (K:Qc):Sp:=λvs H Q _=>∃(a p q d:Addr) (kvs:List (j3×V)) (W:A6) (kvm:List (j3×V)),vs=[.ref a,.ref d]/\WebAt K H a p q kvs W/\(h9 W).length<=60/\Rd H d (.dK kvm)/\(∀n∈h9 W,TxtAt kvm n)/\∀(l:Addr) (H':Hp) (s1 s2:List Str),H l=none->Same H H'->H' l=some (.lst (((s1++s2).map (j0 kvm)).map V.str))->Ordr W s1 s2->Q (.ref l) H'
abbrev wm (P:Program)(w:World)(K:Qc)(mg:Str->Option Value)(base:Heap):Prop:=K3 P w K mg base B8 2 "line" ["piece","match"] [] (rK K)
theorem yN {f:Addr}{fd:FuncData}(T:Txt K mg)(z7:K8 P w K mg base)(F:Fun K "line" "line" pC f fd):A1 P w K mg base B8 2 f fd ["piece","match"] (rK K):=by
 refine F.ok sc_line (λvs H Q E h=>?_) (λd_ A outer s H vs Q E hr h=>?_)
 .obtain⟨a,p,q,d,kvs,W,kvm,rfl,_⟩:=h;rfl
 .obtain⟨a,p,q,d,kvs,W,kvm,rfl,hW,hl,hD,hT,k⟩:=h;have hN:=sc_line.nd;have hu:=u6 hr;refine⟨_,QSs.r (B0 (A0 (E7 (own:=["name"]) (js:=[1]) (by kernel_rfl) rfl (N7 K (qC z7 (hr.mono (by decide)) j7 (i9 (qV 0) j6))) (λ_ _ _ _=>(G1 (i:=0) (show List.Nodup (["name","match"]:List Str) by decide+kernel) rfl (by walk_at "l"))) (λ_ _ _ _=>aM) (λ_ _ _ _=>(k7 (k8 K hu) (qV 1) (qV 0) (λ_ _=>rfl)))))),?_⟩;walk_at "r";refine⟨a,p,q,kvs,W,rfl,hW,hl,λl1 H1 s1 s2 n1 m1 f1 or=>?_⟩;have hlen:=or.len;refine x9 (SqL.of f1) ?_;refine w5 (n:=(s1++s2).length) (λi out H'=>Same H1 H'/\out=((s1++s2).take i).map λn=>V.str (j0 kvm n)) ⟨Same.refl _,rfl⟩ (λi out H' hi hp=>⟨_,.str ((s1++s2)[i]),SqL.of (hp.1 _ _ f1),by rw[HK,HH hi];rfl⟩) ?_ ?_
  .rintro N i v out H2 H3 hi ⟨s3,rfl⟩ y hN';obtain⟨rfl,hx⟩:=Itl.get y (SqL.of (s3 _ _ f1));rw[HK,HH hi] at hx;cases hx;walk_at "r";refine⟨rfl,?_⟩;walk_at "r";refine Cp ((m1.trans s3).rd hD) (hT _ (or.mem.mp (ID hi))) ?_;refine⟨d9 (by rw[HI,HV];lia),hN' _ _ ⟨s3,?_⟩⟩;exact C7 (λn:Str=>V.str (j0 kvm n)) (HH hi)
  .rintro out H2 ⟨s3,rfl⟩;refine⟨⟨_,SqL.of (s3 _ _ f1),by rw[HI];exact HJ _⟩,λD hD'=>⟨d9 (by rw[HI,HV];lia),?_⟩⟩;rw[HW (HJ _)];obtain⟨H3,e3,f3,m3,_⟩:=b0 (o:= .lst ((s1++s2).map λn=>V.str (j0 kvm n))) hD';refine k D _ s1 s2 ((m1.trans s3).free hD') ?_ ?_ or
   .show Same _ (p0 _ D _);rw[e3];exact m1.trans (s3.trans m3)
   .show p0 _ D _ D=_;rw[b9,Iy];rfl
open Classical in
noncomputable def tY (P W:A6)(kvm:List (j3×V)):Bool:=decide (Y9 P W kvm)
open Classical in
theorem iA {P W:A6}{kvm:List (j3×V)}(h:¬Y9 P W kvm):tY P W kvm=false:=by unfold tY;exact Iv h
open Classical in
theorem qK {P W:A6}{kvm:List (j3×V)}(h:Y9 P W kvm):tY P W kvm=true:=by unfold tY;exact IA h
def Gr (K:Qc)(PG:Program)(w:World)(H:Hp)(mv:V)(P W:A6)(b:Bool):Prop:=
 (∃t,TyB K H mv t/\t≠"dict"/\b=false)\/
 (∃d n,mv= .ref d/\H d=some (.ext (aB PG w d n))/\n<=1000/\n≠(h9 P).length/\b=false)\/
 (∃d kvm,mv= .ref d/\H d=some (.dK kvm)/\(kvm.map (·.1)).Nodup/\kvm.length<=100/\(∀kv∈kvm,∃t,TyB K H kv.2 t)/\b=tY P W kvm)
theorem Cb {t:String}(h:t≠"dict"):ef t "dict"=false:=by
 unfold ef;rw[show(t=="dict")=false by simpa using h];simp
def yh (kvm:List (j3×V))(n:Str):Bool:=match p9 kvm (Sum.inr n:j3) with
 |some (.str _)=>true
 |_=>false
theorem txB_iff {kvm:List (j3×V)}{n:Str}:yh kvm n=true↔TxtAt kvm n:=by
 unfold yh TxtAt;constructor
 .intro h;split at h
  .next s e=>exact⟨s,e⟩
  .cases h
 .rintro⟨s,e⟩;rw[e]
theorem Ce {H:Hp}{v:V}{t:String}(h:TyB K H v t):ef t "str"=(match v with| .str _=>true|_=>false):=by
 cases v with
 |non=>cases h;rfl
 |bl _=>cases h;rfl
 |int _=>cases h;rfl
 |str _=>cases h;rfl
 |ref a=>rcases h with⟨rfl,_⟩|⟨rfl,_⟩|⟨rfl,_⟩<;>rfl
 |_=>exact h.elim
theorem BK {H:Hp}{kvm:List (j3×V)}(h:∀kv∈kvm,∃t,TyB K H kv.2 t)(n:Str):∃t,TyB K H ((p9 kvm (Sum.inr n:j3)).getD .non) t/\ef t "str"=yh kvm n:=by
 unfold yh;cases e:p9 kvm (Sum.inr n:j3) with
 |none=>exact⟨"NoneType",rfl,rfl⟩
 |some v=>
  obtain⟨t,ht⟩:=h _ (gX e)
  refine⟨t,ht,?_⟩
  rw[Ce (v:=v) ht]
  cases v<;>rfl
def gj (K:Qc)(P:Program)(w:World):Sp:=λvs H Q _=>∃(a p q a' p' q':Addr) (kvs c_:List (j3×V)) (Pc W:A6) (mv:V) (b:Bool),vs=[.ref a,.ref a',mv]/\WebIs 24 K H a p q kvs Pc/\WebIs 24 K H a' p' q' c_ W/\Gr K P w H mv Pc W b/\∀H',Same H H'->Q (.bl b) H'
abbrev iz (P:Program)(w:World)(K:Qc)(mg:Str->Option Value)(base:Heap):Prop:=K3 P w K mg base B8 3 "is_match" ["piece","web","match"] [] (gj K P w)
theorem mU {f:Addr}{fd:FuncData}(T:Txt K mg)(z7:K8 P w K mg base)(oY:wm P w K mg base)(B9:O5 P w K mg base)(F:Fun K "is_match" "is_match" dm f fd):A1 P w K mg base B8 3 f fd ["piece","web","match"] (gj K P w):=by
 refine F.ok sc_is_match (λvs H Q E h=>?_) (λd_ A outer s H vs Q E hr h=>?_)
 .obtain⟨a,p,q,a',p',q',kvs,c_,Pc,W,mv,b,rfl,_⟩:=h;rfl
 .obtain⟨a,p,q,a',p',q',kvs,c_,Pc,W,mv,b,rfl,hP,hW,hM,k⟩:=h;have hPl:=hP.len;have hN:=sc_is_match.nd;have hu:=u6 hr;refine⟨_,QSs.r (u7 (j8 (i:=3) hN rfl (by walk_at "l") (qC z7 (hr.mono (by decide)) j7 (i9 (qV 0) j6)))
   (u7 (aU (pJ (lB (cS (N2 K (qB (kK K P w) T.b_isinstance Boot.«isinstance» (i9 (qV 2) (i9 (CT "dict" T.b_dict Boot.«dict») j6))))) (iC (u4 (gk K hr) (qB (C8 K P w) T.b_len Boot.«len» (i9 (qV 2) j6)) (qB (C8 K P w) T.b_len Boot.«len» (i9 (qV 3) j6)) (p8 _))))) (B0 (A0 uJ)) ck)
   (u7 (aU (cS (N2 K (qB (sI K rfl) T.b_all Boot.«all» (i9 (E7 (own:=["name"]) (js:=[2]) (by kernel_rfl) rfl (N7 K (qV 3)) (λ_ _ _ _=>(G1 (i:=0) (show List.Nodup (["name","match"]:List Str) by decide+kernel) rfl (by walk_at "l"))) (λ_ _ _ _=>aM) (λ_ _ _ _=>(qB (kK K P w) T.b_isinstance Boot.«isinstance» (i9 (rD hu (qV 1) (qV 0)) (i9 (CT "str" T.b_str Boot.«str») j6))))) j6)))) (B0 (A0 uJ)) ck)
   (u7 (aU (u4 (gk K hr) (qB (C8 K P w) T.b_len Boot.«len» (i9 (fu (Ek K rfl) T.b_set Boot.«set» (i9 (qC oY (hr.mono (by decide)) j7 (i9 (qV 0) (i9 (qV 2) j6))) j6)) j6)) (qB (C8 K P w) T.b_len Boot.«len» (i9 (qV 3) j6)) (p8 _)) (B0 (A0 uJ)) ck)
   (u7 (aU (cS (N2 K (qB (sI K rfl) T.b_all Boot.«all» (i9 (E7 (own:=["name","kind"]) (js:=[2,1]) (by kernel_rfl) rfl (R6 (k7 (k8 K hu) (qV 0) d8 (λ_ _=>rfl))) (λ_ _ _ _=>(pP K rfl (dw (G1 (i:=0) (show List.Nodup (["name","kind","match","web"]:List Str) by decide+kernel) rfl (by walk_at "l")) (dw (G1 (i:=1) (show List.Nodup (["name","kind","match","web"]:List Str) by decide+kernel) rfl (by walk_at "l")) pI)))) (λ_ _ _ _=>aM) (λ_ _ _ _=>(dy (G8 K hr) (rD hu (k7 (k8 K hu) (qV 3) d8 (λ_ _=>rfl)) (k7 (k8 K hu) (qV 2) (qV 0) (λ_ _=>rfl))) (qV 1) (p8 _)))) j6)))) (B0 (A0 uJ)) ck)
   (B0 (A0 (qB (sI K rfl) T.b_all Boot.«all» (i9 (E7 (own:=["name","tie"]) (js:=[2,1]) (by kernel_rfl) rfl (R6 (k7 (k8 K hu) (qV 0) d8 (λ_ _=>rfl))) (λ_ _ _ _=>(pP K rfl (dw (G1 (i:=0) (show List.Nodup (["name","tie","match","web"]:List Str) by decide+kernel) rfl (by walk_at "l")) (dw (G1 (i:=1) (show List.Nodup (["name","tie","match","web"]:List Str) by decide+kernel) rfl (by walk_at "l")) pI)))) (λ_ _ _ _=>aM) (λ_ _ _ _=>(dy (G8 K hr) (rD hu (k7 (k8 K hu) (qV 3) d8 (λ_ _=>rfl)) (k7 (k8 K hu) (qV 2) (qV 0) (λ_ _=>rfl))) (qC B9 (hr.mono (by decide)) j7 (i9 (qV 1) (i9 (qV 2) j6))) (p8 _)))) j6))))))))),?_⟩
  walk_at "r";refine⟨a,p,q,kvs,Pc,rfl,hP.at_,by lia,λln H1 s1 s2 n1 m1 f1 or=>?_⟩;have hlen:=or.len;walk_at "r";rcases hM with⟨t,ty,ht,rfl⟩|⟨d,n,rfl,hd,hn,C_,rfl⟩|⟨d,kvm,rfl,hD0,Vd,Zc,PZ,rfl⟩
  .refine gc (fX (ty.mono m1) (by simp) ?_);rw[Cb ht];walk_at "r";exact k _ m1
  .refine .inr ⟨d,n,"dict",rfl,m1 _ _ hd,by simp,?_⟩;rw[vy];walk_at "r";refine xT (m1 _ _ hd) hn ?_;walk_at "r";refine C5 (x5 (SqL.of f1) ?_);rw[HI,hlen];walk_at "r";refine bo (λhz=>?_) (λhz=>absurd (NU.mp hz) C_);walk_at "r";exact k _ m1
  have hD:Rd H d (.dK kvm):= .inl hD0;have D1:=m1.rd hD;refine gc (fX (t:="dict") (.inr (.inr ⟨rfl,_,D1⟩)) (by simp) ?_);rw[vy];walk_at "r";refine C5 (G4 D1 ?_);walk_at "r";refine C5 (x5 (SqL.of f1) ?_);rw[HI,hlen];walk_at "r";refine bo (λhz=>?_) (λhz=>?_)
  .walk_at "r";rw[←iA (P:=Pc) (W:=W) (kvm:=kvm) (λz=>hz (by rw[z.len]))];exact k _ m1
  have Rz:kvm.length=(h9 Pc).length:=NU.mp hz;walk_at "r";refine x9 (SqL.of f1) ?_;refine w5 (n:=(s1++s2).length) (λi out H'=>Same H1 H'/\out=((s1++s2).take i).map λn=>V.bl (yh kvm n)) ⟨Same.refl _,rfl⟩ (λi out H' hi hp=>⟨_,.str ((s1++s2)[i]),SqL.of (hp.1 _ _ f1),by rw[HK,HH hi];rfl⟩) ?_ ?_
  .rintro N i v out H2 H3 hi ⟨s3,rfl⟩ y hN';obtain⟨rfl,hx⟩:=Itl.get y (SqL.of (s3 _ _ f1));rw[HK,HH hi] at hx;cases hx;walk_at "r";refine⟨rfl,?_⟩;walk_at "r";refine⟨d,rfl,.inl ⟨_,s3.rd D1⟩,?_⟩;walk_at "r";refine⟨_,G7 (k:=Sum.inr (s1++s2)[i]) (s3.rd D1),?_⟩;obtain⟨t,ht,e⟩:=BK (K:=K) PZ (s1++s2)[i];walk_at "r";refine gc (fX (ht.mono (m1.trans s3)) (by simp) ?_);rw[e];refine⟨d9 (by rw[HI,HV];lia),hN' _ _ ⟨s3,?_⟩⟩;exact C7 (λn:Str=>V.bl (yh kvm n)) (HH hi)
  .rintro out H2 ⟨s3,rfl⟩;refine⟨⟨_,SqL.of (s3 _ _ f1),by rw[HI];exact HJ _⟩,λD hD'=>⟨d9 (by rw[HI,HV];lia),?_⟩⟩;rw[HW (HJ _)];have e9:((s1++s2).map λn=>V.bl (yh kvm n))=((s1++s2).map (yh kvm)).map V.bl:=by rw[Iy];rfl
   rw[e9];obtain⟨H3,e3,f3,m3,_⟩:=b0 (o:= .lst (((s1++s2).map (yh kvm)).map V.bl)) hD';have m4:=m1.trans (s3.trans m3);have f4:=m3 _ _ (s3 _ _ f1);walk_at "r";change uh K _ (p0 H2 D _) _;rw[e3];refine jP (SqL.of f3) ?_;walk_at "r";refine dS (λhb=>?_) (λhb=>?_)
   .walk_at "r";rw[←iA (P:=Pc) (W:=W) (kvm:=kvm) (λz=>?_)]
    .exact k _ m4
    .have:((s1++s2).map (yh kvm)).all id=true:=by
      rw[JK,IH];exact λn hn=>txB_iff.mpr (z.txt n (or.mem.mp hn))
     rw[this] at hb;cases hb
   have hT:∀n∈h9 Pc,TxtAt kvm n:=λn hn=>by
    rw[JK,IH] at hb;exact txB_iff.mp (hb n (or.mem.mpr hn))
   walk_at "r";refine⟨a,p,q,d,kvs,Pc,kvm,rfl,hP.at_.mono m4.le,by lia,m4.rd hD,hT,λl5 H5 r1 r2 n5 m5 f5 or5=>?_⟩;have Tz:=or5.len;walk_at "r";refine⟨l5,_,rfl,SqL.of f5,by rw[HI];lia,λl6 n6=>?_⟩;obtain⟨H6,e6,f6,m6,_⟩:=b0 (o:= .ext (cZ l6 (fm ((r1++r2).map (j0 kvm))).length)) n6;rw[e6];walk_at "r";have RP:(fm ((r1++r2).map (j0 kvm))).length<=1000:=by
    have z:=jf ((r1++r2).map (j0 kvm)) [];rw[HI] at z;unfold fm;simp only[La] at z;lia
   refine kB f6 RP ?_;walk_at "r";refine C5 (x5 (SqL.of (m6 _ _ (m5 _ _ f4))) ?_);rw[HI,hlen];walk_at "r";have m7:=m4.trans (m5.trans m6);have TC:(fm ((r1++r2).map (j0 kvm))).length=(h9 Pc).length↔((h9 Pc).map (j0 kvm)).Nodup:=by
    have z:=nF ((r1++r2).map (j0 kvm));rw[HI,Tz] at z;rw[z];exact(or5.perm.map _).nodup_iff
   refine bo (λVe=>?_) (λVe=>?_)
   .walk_at "r";rw[←iA (P:=Pc) (W:=W) (kvm:=kvm) (λz=>Ve (by rw[TC.mpr z.nd]))];exact k _ m7
   have G_:=TC.mp (NU.mp Ve);clear Ve;have D7:=m7.rd hD;have WQ:=m7 _ _ hP.hp;have P7:=hP.same m7;have W7:=hW.same m7;have WR:=k9 Pc.pts;have NO:=hP.at_.ts.length;rw[C0] at hPl;walk_at "r";refine b5 P7.at_.tup (b4 (j:=0) rfl) ?_;refine D4 WQ (λSr o8=>?_);refine w5 (n:=(j4 Pc.pts).length) (λi out H'=>Same (E3 p o8 (j4 Pc.pts) H6) H'/\out=(Pc.pts.take i).map λx=>V.bl (decide ((j0 kvm x.1,x.2)∈W.pts))) ⟨Same.refl _,rfl⟩ (λi out H' hi hp=>⟨hp.1 _ _ b9,hi⟩) ?_ ?_
   .rintro N i v out H8' H8 hi ⟨s8,rfl⟩ ⟨t,kv,i',nt,rfl,rfl⟩ hN';obtain⟨x,hx,rfl⟩:=dD i';obtain⟨H9,e9,f9,m9,_⟩:=b0 (o:= .tup _) nt;rw[e9];have Zz:=(K9 (o:=o8) WQ).trans (s8.trans m9).le;have W9:=W7.at_.mono Zz;have D9:=Zz.dic D7;refine J6 (SqT.of f9) rfl ?_;walk_at "r";refine⟨rfl,?_⟩;walk_at "r";refine b5 W9.tup (b4 (j:=0) rfl) ?_;refine⟨p',rfl,.inl ⟨_,W9.pts⟩,?_⟩;walk_at "r";refine Cp D9 (hT _ (HU _ (HP.mpr ⟨x,HX hx,rfl⟩))) ?_;refine⟨_,G7 (k:=Sum.inr (j0 kvm x.1)) W9.pts,?_⟩;walk_at "r";refine DB (E1 W7.nd) ?_;refine⟨d9 (by rw[HI,HV];lia),hN' _ _ ⟨s8.trans m9,?_⟩⟩;exact C7 (λx:Str×Str=>V.bl (decide ((j0 kvm x.1,x.2)∈W.pts))) hx
   .rintro out H8 ⟨s8,rfl⟩;refine⟨⟨s8 _ _ b9,HJ _⟩,λD8 hD8=>⟨d9 (by rw[HI,HV];lia),?_⟩⟩;rw[WR,HW (HJ _)];have RK:(Pc.pts.map λx=>V.bl (decide ((j0 kvm x.1,x.2)∈W.pts)))=(Pc.pts.map λx=>decide ((j0 kvm x.1,x.2)∈W.pts)).map V.bl:=by rw[Iy];rfl
    rw[RK];have sM:=Q1 WQ s8 hD8 (u:= .lst ((Pc.pts.map λx=>decide ((j0 kvm x.1,x.2)∈W.pts)).map V.bl));have fM:=bg s8 hD8 (u:= .lst ((Pc.pts.map λx=>decide ((j0 kvm x.1,x.2)∈W.pts)).map V.bl));generalize thaw p (p0 H8 D8 (.lst ((Pc.pts.map λx=>decide ((j0 kvm x.1,x.2)∈W.pts)).map V.bl)))=HM at sM fM⊢;walk_at "r";refine jP (SqL.of fM) ?_;walk_at "r";have mM:=m7.trans sM;refine dS (λOb=>?_) (λOb=>?_)
    .walk_at "r";rw[←iA (P:=Pc) (W:=W) (kvm:=kvm) (λz=>?_)]
     .exact k _ mM
     .have:(Pc.pts.map λx=>decide ((j0 kvm x.1,x.2)∈W.pts)).all id=true:=by
       rw[JK,IH];exact λx hx=>IA (z.pts x hx)
      rw[this] at Ob;cases Ob
    have WS:∀x∈Pc.pts,(j0 kvm x.1,x.2)∈W.pts:=λx hx=>by
     rw[JK,IH] at Ob;exact IY (Ob x hx)
    have DM:=mM.rd hD;have PM:=hP.same mM;have WM:=hW.same mM;have WT:=PM.hq;walk_at "r";refine b5 PM.at_.tup (b4 (j:=1) rfl) ?_;refine D4 WT (λSs o10=>?_);refine w5 (n:=kvs.length) (λi out H'=>Same (E3 q o10 kvs HM) H'/\out=(Pc.ts.take i).map λx=>V.bl (decide ((j0 kvm x.1,(x.2.1,j0 kvm x.2.2.1,j0 kvm x.2.2.2))∈W.ts))) ⟨Same.refl _,rfl⟩ (λi out H' hi hp=>⟨hp.1 _ _ b9,hi⟩) ?_ ?_
    .rintro N i v out H11' WU hi ⟨s11,rfl⟩ ⟨t,kv,i',nt,rfl,rfl⟩ hN';obtain⟨H12,e12,WV,OO,_⟩:=b0 (o:= .tup _) nt;rw[e12];have RQ:=(K9 (o:=o10) WT).trans (s11.trans OO).le;have Vf:=WM.at_.mono RQ;have ZA:=RQ.dic DM;obtain⟨x,hx,ex,bb,eb,sb⟩:=(PM.at_.ts.mono RQ).get i';obtain⟨kk,Qj⟩:=kv;have OK:kk=Sum.inr x.1:=ex;have Qk:Qj= .ref bb:=eb;subst OK Qk;have M':=HX hx;have Qn:=hP.ends x M';refine J6 (SqT.of WV) rfl ?_;walk_at "r";refine⟨rfl,?_⟩;walk_at "r";refine b5 Vf.tup (b4 (j:=1) rfl) ?_;refine⟨q',rfl,.inl ⟨_,Vf.ties⟩,?_⟩;walk_at "r";refine Cp ZA (hT _ (Ia _ (HP.mpr ⟨x,M',rfl⟩))) ?_;refine⟨_,G7 (k:=Sum.inr (j0 kvm x.1)) Vf.ties,?_⟩;walk_at "r";refine⟨bb,d,x.2,kvm,rfl,sb,ZA,hT _ (HU _ Qn.1),hT _ (HU _ Qn.2),λl13 H13 n13 ON f13=>?_⟩;refine BS (Vf.mono ON.le).ts (N1 hW.nd) (SqT.of f13) ?_;refine⟨d9 (by rw[HI,HV];lia),hN' _ _ ⟨s11.trans (OO.trans ON),?_⟩⟩;exact C7 (λx:Str×F0=>V.bl (decide ((j0 kvm x.1,(x.2.1,j0 kvm x.2.2.1,j0 kvm x.2.2.2))∈W.ts))) hx
    .rintro out WU ⟨s11,rfl⟩;refine⟨⟨s11 _ _ b9,HJ _⟩,λD11 hD11=>⟨d9 (by rw[HI,HV];lia),?_⟩⟩;rw[NO,HW (HJ _)];have e13:(Pc.ts.map λx=>V.bl (decide ((j0 kvm x.1,(x.2.1,j0 kvm x.2.2.1,j0 kvm x.2.2.2))∈W.ts)))=(Pc.ts.map λx=>decide ((j0 kvm x.1,(x.2.1,j0 kvm x.2.2.1,j0 kvm x.2.2.2))∈W.ts)).map V.bl:=by rw[Iy];rfl
     rw[e13];generalize WW:(Pc.ts.map λx=>decide ((j0 kvm x.1,(x.2.1,j0 kvm x.2.2.1,j0 kvm x.2.2.2))∈W.ts))=bs;have sN:=Q1 WT s11 hD11 (u:= .lst (bs.map V.bl));have fN:=bg s11 hD11 (u:= .lst (bs.map V.bl));generalize thaw q (p0 WU D11 (.lst (bs.map V.bl)))=HN at sN fN⊢;walk_at "r";refine jP (SqL.of fN) ?_;have eF:bs.all id=tY Pc W kvm:=by
      rw[←WW];cases hc:(Pc.ts.map λx=>decide ((j0 kvm x.1,(x.2.1,j0 kvm x.2.2.1,j0 kvm x.2.2.2))∈W.ts)).all id with
      |true=>
       rw[JK,IH] at hc
       exact(qK ⟨Rz,hT,G_,WS,λx hx=>IY (hc x hx)⟩).symm
      |false=>
       refine(iA λz=>?_).symm
       have:(Pc.ts.map λx=>decide ((j0 kvm x.1,(x.2.1,j0 kvm x.2.2.1,j0 kvm x.2.2.2))∈W.ts)).all id=true:=by
        rw[JK,IH];exact λx hx=>IA (z.ts x hx)
       rw[this] at hc;cases hc
     rw[eF];exact k _ (mM.trans sN)
def Y6 (f:Str->Str)(W:A6):A6:=⟨W.pts.map λx=>(f x.1,x.2),W.ts.map λx=>(f x.1,(x.2.1,f x.2.2.1,f x.2.2.2))⟩
def jo (K:Qc):Sp:=λvs H Q _=>∃(a d p q:Addr) (kvs nm:List (j3×V)) (W:A6) (f:Str->Str),vs=[.ref a,.ref d]/\WebAt K H a p q kvs W/\H p=some (.dK (j4 W.pts))/\H q=some (.dK kvs)/\Rd H d (.dK nm)/\f=j0 nm/\(∀n∈h9 W,TxtAt nm n)/\((h9 W).map f).Nodup/\(h9 W).length<=60/\
 (∀x∈W.ts,x.2.2.1∈W.pts.map (·.1)/\x.2.2.2∈W.pts.map (·.1))/\NewP K H Q (Y6 f W)
abbrev jY (P:Program)(w:World)(K:Qc)(mg:Str->Option Value)(base:Heap):Prop:=K3 P w K mg base B8 3 "renamed" ["web","names"] [] (jo K)
theorem qm {f:Addr}{fd:FuncData}(T:Txt K mg)(B9:O5 P w K mg base)(K6:dY P w K mg base)(F:Fun K "renamed" "renamed" eV f fd):A1 P w K mg base B8 3 f fd ["web","names"] (jo K):=by
 refine F.ok sc_renamed (λvs H Q E h=>?_) (λd_ A outer s H vs Q E hr h=>?_)
 .obtain⟨a,d,p,q,kvs,nm,W,f,rfl,_⟩:=h;rfl
 .obtain⟨a,d,p,q,kvs,nm,W,f,rfl,hW,hp,hq,hd,rfl,hT,G_,hl,hE,k⟩:=h;have hf:∀n∈h9 W,p9 nm (Sum.inr n:j3)=some (.str (j0 nm n)):=λn hn=>(hT n hn).at_;have TF:W.pts.length+W.ts.length<=60:=by unfold h9 at hl;rw[HQ,HI,HI] at hl;exact hl
  have hf1:∀x∈W.pts,p9 nm (Sum.inr x.1:j3)=some (.str (j0 nm x.1)):=λx hx=>hf _ (HU _ (HP.mpr ⟨x,hx,rfl⟩));have hf2:∀x∈W.ts,p9 nm (Sum.inr x.1:j3)=some (.str (j0 nm x.1)):=λx hx=>hf _ (Ia _ (HP.mpr ⟨x,hx,rfl⟩));have nd1:((Y6 (j0 nm) W).pts.map (·.1)).Nodup:=by
   unfold h9 at G_;rw[HL] at G_;have z:=(Iu.mp G_).1;unfold Y6;rw[Iy] at z⊢;exact z
  have OR:((Y6 (j0 nm) W).ts.map (·.1)).Nodup:=by
   unfold h9 at G_;rw[HL] at G_;have z:=(Iu.mp G_).2.1;unfold Y6;rw[Iy] at z⊢;exact z
  have Nl:=k9 W.pts;have NO:=hW.ts.length;have hN:=sc_renamed.nd;have hu:=u6 hr;refine⟨_,QSs.r (u7 (j8 (i:=2) hN rfl (by walk_at "l") (fu (P1 K rfl) T.b_dict Boot.«dict» (i9 (E7 (own:=["name","kind"]) (js:=[1]) (by kernel_rfl) rfl (R6 (k7 (k8 K hu) (qV 0) d8 (λ_ _=>rfl))) (λ_ _ _ _=>(pP K rfl (dw (G1 (i:=0) (show List.Nodup (["name","kind","names"]:List Str) by decide+kernel) rfl (by walk_at "l")) (dw (G1 (i:=1) (show List.Nodup (["name","kind","names"]:List Str) by decide+kernel) rfl (by walk_at "l")) pI)))) (λ_ _ _ _=>aM) (λ_ _ _ _=>(G3 (i9 (k7 (k8 K hu) (qV 2) (qV 0) (λ_ _=>rfl)) (i9 (qV 1) j6))))) j6)))
   (u7 (j8 (i:=3) hN rfl (by walk_at "l") (fu (P1 K rfl) T.b_dict Boot.«dict» (i9 (E7 (own:=["name","tie"]) (js:=[1]) (by kernel_rfl) rfl (R6 (k7 (k8 K hu) (qV 0) d8 (λ_ _=>rfl))) (λ_ _ _ _=>(pP K rfl (dw (G1 (i:=0) (show List.Nodup (["name","tie","names"]:List Str) by decide+kernel) rfl (by walk_at "l")) (dw (G1 (i:=1) (show List.Nodup (["name","tie","names"]:List Str) by decide+kernel) rfl (by walk_at "l")) pI)))) (λ_ _ _ _=>aM) (λ_ _ _ _=>(G3 (i9 (k7 (k8 K hu) (qV 2) (qV 0) (λ_ _=>rfl)) (i9 (qC B9 (hr.mono (by decide)) j7 (i9 (qV 1) (i9 (qV 2) j6))) j6))))) j6)))
   (B0 (A0 (qC K6 (hr.mono (by decide)) j7 (i9 (G3 (i9 (qV 2) (i9 (qV 3) j6))) j6)))))),?_⟩
  walk_at "r";refine b5 hW.tup (b4 (j:=0) rfl) ?_;refine D4 hp (λSr o1=>?_);refine w5 (n:=(j4 W.pts).length) (λi out H'=>Same (E3 p o1 (j4 W.pts) H) H'/\Paired (PrV K H') out (j4 ((W.pts.take i).map λx=>(j0 nm x.1,x.2)))) ⟨Same.refl _,.nil⟩ (λi out H' hi hp=>⟨hp.1 _ _ b9,hi⟩) ?_ ?_
  .rintro N i v out H1 H2 hi ⟨s1,pr⟩ ⟨t,kv,i',nt,rfl,rfl⟩ hN';obtain⟨x,hx,rfl⟩:=dD i';obtain⟨H3,e3,f3,m3,_⟩:=b0 (o:= .tup _) nt;rw[e3];have d3:=((K9 (o:=o1) hp).trans (s1.trans m3).le).dic hd;have e7:W.pts.take (i+1)=W.pts.take i++[x]:=by rw[IE,hx];rfl
   refine J6 (SqT.of f3) rfl ?_;walk_at "r";refine⟨rfl,?_⟩;walk_at "r";refine C2 (v:= .str (j0 nm x.1)) (by have z':=G7 (k:=Sum.inr x.1) d3;rw[hf1 x (HX hx)] at z';exact z') ?_;walk_at "r";refine⟨d9 (by simp),λt4 n4=>?_⟩;obtain⟨H4,e4,f4,m4,_⟩:=b0 (o:= .tup _) n4;rw[e4];have D_:=IC pr;rw[k9,HI,HV] at D_;refine⟨d9 (by lia),hN' _ _ ⟨s1.trans (m3.trans m4),?_⟩⟩;rw[e7,HL];unfold j4 at pr⊢;rw[HL];exact p7 (Paired.imp' (λ_ _ z=>PrV.mono (m3.trans m4).le z) pr) ⟨t4,rfl,SqT.of f4⟩
  .rintro out H1 ⟨s1,pr⟩;have D_:=IC pr;rw[k9,HI,HV] at D_;refine⟨⟨s1 _ _ b9,HJ _⟩,λD hD=>⟨d9 (by lia),?_⟩⟩;have sM:=Q1 hp s1 hD (u:= .lst out);have fM:=bg s1 hD (u:= .lst out);have RM:=Paired.imp' (λ_ _ z=>PrV.mono (lQ (d:=p) (u:= .lst out) hD) z) pr;generalize thaw p (p0 H1 D (.lst out))=HM at sM fM RM⊢;rw[HW (by lia)] at RM;walk_at "r";refine N8 (SqL.of fM) RM (d9 (by rw[k9,HI];lia)) (λpp npp=>?_);have eP:Y4 (j4 (W.pts.map λx=>(j0 nm x.1,x.2)))=j4 (Y6 (j0 nm) W).pts:=U0 (ah nd1);rw[eP];obtain⟨H2,e2,f2,m2,_⟩:=b0 (o:= .dK (j4 (Y6 (j0 nm) W).pts)) npp;show P8 _ _ _ (p0 HM pp (.dK (j4 (Y6 (j0 nm) W).pts))) _;rw[e2];have s2:=sM.trans m2;have W2:=hW.mono s2.le;have RN:=s2 _ _ hq;walk_at "r";refine b5 W2.tup (b4 (j:=1) rfl) ?_;refine D4 RN (λSs o2=>?_);refine w5 (n:=kvs.length) (λi out H'=>Same (E3 q o2 kvs H2) H'/\∃ks2,Paired (PrV K H') out ks2/\TiesIs K H' ks2 ((W.ts.take i).map λx=>(j0 nm x.1,(x.2.1,j0 nm x.2.2.1,j0 nm x.2.2.2)))) ⟨Same.refl _,[],.nil,.nil⟩ (λi out H' hi hp=>⟨hp.1 _ _ b9,hi⟩) ?_ ?_
   .rintro N i v out H3 H3' hi ⟨s3,ks2,pr3,ti3⟩ ⟨t,kv,i',nt,rfl,rfl⟩ hN';obtain⟨H4,e4,f4,m4,_⟩:=b0 (o:= .tup _) nt;rw[e4];have Qm:=(K9 (o:=o2) RN).trans (s3.trans m4).le;have d4:=Qm.dic (s2.rd hd);obtain⟨x,hx,ex,b,eb,sb⟩:=(W2.ts.mono Qm).get i';have M':x∈W.ts:=HX hx;have e7:W.ts.take (i+1)=W.ts.take i++[x]:=by rw[IE,hx];rfl
    refine J6 (SqT.of f4) rfl ?_;rw[ex,eb];walk_at "r";refine⟨rfl,?_⟩;walk_at "r";refine C2 (v:= .str (j0 nm x.1)) (by have z':=G7 (k:=Sum.inr x.1) d4;rw[hf2 x M'] at z';exact z') ?_;walk_at "r";refine⟨b,d,x.2,nm,rfl,sb,d4,hT _ (HU _ (hE x M').1),hT _ (HU _ (hE x M').2),λt5 H5 n5 m5 f5=>?_⟩;walk_at "r";refine⟨d9 (by simp),λt6 n6=>?_⟩;obtain⟨H6,e6,f6,m6,_⟩:=b0 (o:= .tup _) n6;rw[e6];have D_:=IC pr3;have RR:=ti3.length;rw[HI,HV] at RR;have mA:=m4.trans (m5.trans m6);refine⟨d9 (by lia),hN' _ _ ⟨s3.trans mA,ks2++[((Sum.inr (j0 nm x.1):j3),V.ref t5)],p7 (Paired.imp' (λ_ _ z=>PrV.mono mA.le z) pr3) (show PrV K H6 (.ref t6) ((Sum.inr (j0 nm x.1):j3),V.ref t5) from⟨t6,rfl,SqT.of f6⟩),?_⟩⟩;rw[e7,HL];exact p7 (ti3.mono mA.le) ⟨rfl,t5,rfl,SqT.of (m6 _ _ f5)⟩
   .rintro out H3 ⟨s3,ks2,pr3,ti3⟩;have D_:=IC pr3;have RR:=ti3.length;rw[HI,HV] at RR;refine⟨⟨s3 _ _ b9,HJ _⟩,λD' hD'=>⟨d9 (by lia),?_⟩⟩;have sN:=Q1 RN s3 hD' (u:= .lst out);have fN:=bg s3 hD' (u:= .lst out);have ZC:=lQ (d:=q) (u:= .lst out) hD';have ZD:=Paired.imp' (λ_ _ z=>PrV.mono ZC z) pr3;have Vg:=ti3.mono ZC;generalize thaw q (p0 H3 D' (.lst out))=HN at sN fN ZD Vg⊢;rw[HW (by lia)] at Vg;have ndk:(ks2.map (·.1)).Nodup:=by
     rw[Vg.keys,←r6];refine Kc _ ?_ OR;exact λa b h z=>h (Jx z)
    walk_at "r";refine N8 (SqL.of fN) ZD (d9 (by lia)) (λqq nqq=>?_);rw[U0 ndk];obtain⟨H5,e5,f5,m5,_⟩:=b0 (o:= .dK ks2) nqq;show P8 _ _ _ (p0 HN qq (.dK ks2)) _;rw[e5];walk_at "r";refine⟨d9 (by simp),λt9 n9=>?_⟩;obtain⟨H9,e9,f9,m9,_⟩:=b0 (o:= .tup _) n9;rw[e9];walk_at "r";have sA:=s2.trans (sN.trans (m5.trans m9));have gp:=m9 _ _ (m5 _ _ (sN _ _ f2));have gq:=m9 _ _ f5;refine⟨t9,pp,qq,ks2,Y6 (j0 nm) W,rfl,⟨SqT.of f9,.inl gp,.inl gq,Vg.mono (m5.trans m9).le⟩,nd1,OR,by unfold Y6;rw[HI];lia,by unfold Y6;rw[HI];lia,λa' p' q' c_ W' H' sH hW' h1 h2 h3 h4 h5 h6 h7=>k a' p' q' c_ W' H' (sA.trans sH) hW' h1 h2 h3 (sA.free h4) (sA.free h5) h6 h7⟩
def EN (W M:A6):A6:=⟨(W.pts.filter λx=>!decide (x.1∈M.pts.map (·.1)))++M.pts,(W.ts.filter λx=>!decide (x.1∈M.ts.map (·.1)))++M.ts⟩
theorem uy {k:j3}{v:V}:∀{ka:List (j3×V)},(ka.map (·.1)).Nodup->(D0 ka k v).Perm ((ka.filter λx=>!decide (x.1=k))++[(k,v)]):=by
 have rep:∀{ka:List (j3×V)},(ka.map (·.1)).Nodup->(∃x∈ka,x.1=k)->(ka.map λx=>if x.1=k then(x.1,v) else x).Perm ((ka.filter λx=>!decide (x.1=k))++[(k,v)]):=by
  intro ka;induction ka with
  |nil=>rintro _ ⟨x,h,_⟩;cases h
  |cons p r ih=>
   intro nd hx
   have nd':=IM.mp (show(p.1::r.map (·.1)).Nodup from nd)
   by_cases e:p.1=k
   .have hr:∀x∈r,¬x.1=k:=λx hx z=>nd'.1 (by rw[e,←z];exact HP.mpr ⟨x,hx,rfl⟩)
    have e1:(r.map λx=>if x.1=k then(x.1,v) else x)=r:=(JE λx hx=>by rw[if_neg (hr x hx)]).trans (Md r)
    have e2:(r.filter λx=>!decide (x.1=k))=r:=LP.mpr λx hx=>by rw[Iv (hr x hx)];rfl
    rw[IP,if_pos e,e1,IW (by simp [e]),e2,e]
    exact Kz (l₁:=[(k,v)]) (l₂:=r)
   .rw[IP,if_neg e,IQ (by simp [e]),MD]
    refine List.Perm.cons _ (ih nd'.2 ?_)
    obtain⟨x,hx,ex⟩:=hx
    rcases Iz.mp hx with z|z
    .exact absurd (z▸ex) e
    .exact⟨x,z,ex⟩
 intro ka nd;cases hv:p9 ka k with
 |none=>
  rw[E6 v hv,LP.mpr λx hx=>?_]
  have:x.1≠k:=λz=>by
   have q:=eo nd hx;rw[z,hv] at q;cases q
  simp [this]
 |some y=>
  have hx:∃x∈ka,x.1=k:=⟨_,gX hv,rfl⟩
  unfold D0
  rw[if_pos (by rw[I0,hv];rfl)]
  exact rep nd hx
open Classical in
theorem bB:∀{kb ka:List (j3×V)},(ka.map (·.1)).Nodup->(kb.map (·.1)).Nodup->(J5 ka kb).Perm ((ka.filter λx=>!decide (x.1∈kb.map (·.1)))++kb)
 |[],ka,_,_=>by
  show ka.Perm _;rw[Jl,LP.mpr λx _=>by simp]
 |p::r,ka,nd,nb=>by
  have ZE:=IM.mp (show(p.1::r.map (·.1)).Nodup from nb);have ih:=bB (kb:=r) (ka:=D0 ka p.1 p.2) (CQ nd) ZE.2;refine(show(J5 (D0 ka p.1 p.2) r).Perm _ from ih).trans ?_;have h1:=(uy (k:=p.1) (v:=p.2) nd).filter λx=>!decide (x.1∈r.map (·.1));refine(h1.append_right r).trans ?_;rw[IS,Kr,IQ (by rw[Iv ZE.1];rfl),Jz,IF];have e:(ka.filter λx=>(!decide (x.1∈r.map (·.1))&& !decide (x.1=p.1)))=ka.filter λx=>!decide (x.1∈(p::r).map (·.1)):=Ls λx _=>by
   rw[II];simp only[Io,Jn,Jd,IP,Iz,not_or];exact And.comm
  rw[e];exact Mj _
theorem kQ {A:List (Str×Str)}{B:List Str}{n:Str}:((Sum.inr n:j3)∈B.map (Sum.inr:Str->j3))↔n∈B:=⟨K7,λh=>HP.mpr ⟨n,h,rfl⟩⟩
open Classical in
theorem yA {A B:List (Str×Str)}(na:(A.map (·.1)).Nodup)(nb:(B.map (·.1)).Nodup):∃U,J5 (j4 A) (j4 B)=j4 U/\U.Perm ((A.filter λx=>!decide (x.1∈B.map (·.1)))++B):=by
 have h:=bB (ah na) (ah nb);have pr:Paired (fun(kv:j3×V) (x:Str×Str)=>kv=(Sum.inr x.1,.str x.2)) (((j4 A).filter λx=>!decide (x.1∈(j4 B).map (·.1)))++j4 B) ((A.filter λx=>!decide (x.1∈B.map (·.1)))++B):=by
  refine ay (O7 (λkv x e=>?_) (aF A)) (aF B);rw[e,B5,←r6];congr 1;rw[II,Ii,Ii];exact kQ (A:=A)
 obtain⟨U,h1,h2⟩:=V1 h pr;exact⟨U,cY h1,h2⟩
open Classical in
theorem AO {H:Hp}{ka kb:List (j3×V)}{A B:List (Str×F0)}(wa:TiesIs K H ka A)(wb:TiesIs K H kb B)(na:(A.map (·.1)).Nodup)(nb:(B.map (·.1)).Nodup):∃U,TiesIs K H (J5 ka kb) U/\U.Perm ((A.filter λx=>!decide (x.1∈B.map (·.1)))++B):=by
 have h:=bB (rL wa na) (rL wb nb);have pr:Paired (TieAt K H) ((ka.filter λx=>!decide (x.1∈kb.map (·.1)))++kb) ((A.filter λx=>!decide (x.1∈B.map (·.1)))++B):=by
  refine ay (O7 (λkv x e=>?_) wa) wb;rw[e.1,wb.keys,←r6];congr 1;rw[II,Ii,Ii];exact kQ (A:=[])
 exact V1 h pr
theorem rP {α:Type}{A B:List (Str×α)}(na:(A.map (·.1)).Nodup)(nb:(B.map (·.1)).Nodup):(((A.filter λx=>!decide (x.1∈B.map (·.1)))++B).map (·.1)).Nodup:=
 Cu (N5 na) nb λn hn hm=>by
  obtain⟨x,hx,rfl⟩:=HP.mp hm;have z:=(Ik.mp hx).2;rw[IA hn] at z;cases z
def kJ (K:Qc):Sp:=λvs H Q _=>∃(a p q b p2 q2:Addr) (kvs E_:List (j3×V)) (W M:A6),vs=[.ref a,.ref b]/\WebAt K H a p q kvs W/\WebAt K H b p2 q2 E_ M/\(W.pts.map (·.1)).Nodup/\(W.ts.map (·.1)).Nodup/\(M.pts.map (·.1)).Nodup/\(M.ts.map (·.1)).Nodup/\W.pts.length+M.pts.length<=60/\W.ts.length+M.ts.length<=60/\NewP K H Q (EN W M)
theorem NewP.permM {H H1:Hp}{Q:VK}{W W1:A6}(s:Same H H1)(p1:W1.pts.Perm W.pts)(p2:W1.ts.Perm W.ts)(k:NewP K H Q W):NewP K H1 Q W1:=λa p q kvs W' H' s' h1 h2 h3 h4 h5 h6 h7 h8=>k a p q kvs W' H' (s.trans s') h1 h2 h3 h4 (s.free h5) (s.free h6) (h7.trans p1) (h8.trans p2)
abbrev ou (P:Program)(w:World)(K:Qc)(mg:Str->Option Value)(base:Heap):Prop:=K3 P w K mg base B8 3 "united" ["web","more"] [] (kJ K)
theorem tN {f:Addr}{fd:FuncData}(T:Txt K mg)(K6:dY P w K mg base)(F:Fun K "united" "united" ig f fd):A1 P w K mg base B8 3 f fd ["web","more"] (kJ K):=by
 refine F.ok sc_united (λvs H Q E h=>?_) (λd_ A outer s H vs Q E hr h=>?_)
 .obtain⟨a,p,q,b,p2,q2,kvs,E_,W,M,rfl,_⟩:=h;rfl
 .obtain⟨a,p,q,b,p2,q2,kvs,E_,W,M,rfl,hW,hM,Vh,Vi,nm1,nm2,lw1,lw2,k⟩:=h;have NO:=hW.ts.length;have hkl2:=hM.ts.length;have hN:=sc_united.nd;have hu:=u6 hr;refine⟨_,QSs.r (u7 (j8 (i:=2) hN rfl (by walk_at "l") (fu (P1 K rfl) T.b_dict Boot.«dict» (i9 (k7 (k8 K hu) (qV 0) d8 (λ_ _=>rfl)) j6)))
   (u7 (oP (qM Jc Ka KS Q4 K (qV 2) (i9 (k7 (k8 K hu) (qV 1) d8 (λ_ _=>rfl)) j6)))
   (u7 (j8 (i:=3) hN rfl (by walk_at "l") (fu (P1 K rfl) T.b_dict Boot.«dict» (i9 (k7 (k8 K hu) (qV 0) d8 (λ_ _=>rfl)) j6)))
   (u7 (oP (qM Jc Ka KS Q4 K (qV 3) (i9 (k7 (k8 K hu) (qV 1) d8 (λ_ _=>rfl)) j6)))
   (B0 (A0 (qC K6 (hr.mono (by decide)) j7 (i9 (G3 (i9 (qV 2) (i9 (qV 3) j6))) j6)))))))),?_⟩
  walk_at "r";refine b5 hW.tup (b4 (j:=0) rfl) ?_;walk_at "r";refine C9 hW.pts (λpp npp=>?_);obtain⟨H1,e1,f1,m1,_⟩:=b0 (o:= .dK _) npp;rw[e1];have M1:=hM.mono m1.le;walk_at "r";refine⟨.inr (.inr (.inl ⟨rfl,.inl ⟨_,f1⟩⟩)),?_⟩;walk_at "r";refine b5 M1.tup (b4 (j:=0) rfl) ?_;walk_at "r";have nep:pp≠p2:=λz=>by
   have z2:=hM.pts;rw[←z] at z2;rcases z2 with z2|⟨_,z2⟩<;>(rw[npp] at z2;cases z2)
  refine⟨pp,p2,j4 W.pts,j4 M.pts,rfl,rfl,f1,M1.pts,nep,by rw[k9,k9];lia,?_⟩;obtain⟨UP,eUP,WX⟩:=yA Vh nm1;rw[eUP];have s2:Same H (p0 H1 pp (.dK (j4 UP))):=A3 m1 npp;have f2:(p0 H1 pp (.dK (j4 UP))) pp=some (.dK (j4 UP)):=b9;generalize p0 H1 pp (.dK (j4 UP))=H2 at s2 f2⊢;have W2:=hW.mono s2.le;walk_at "r";refine b5 W2.tup (b4 (j:=1) rfl) ?_;walk_at "r";refine C9 W2.ties (λqq nqq=>?_);obtain⟨H3,e3,f3,m3,_⟩:=b0 (o:= .dK _) nqq;rw[e3];have s3:=s2.trans m3;have M3:=hM.mono s3.le;have M2:=hM.mono s2.le;walk_at "r";refine⟨.inr (.inr (.inl ⟨rfl,.inl ⟨_,f3⟩⟩)),?_⟩;walk_at "r";refine b5 M3.tup (b4 (j:=1) rfl) ?_;walk_at "r";have neq:qq≠q2:=λz=>by
   have z2:=M2.ties;rw[←z] at z2;rcases z2 with z2|⟨_,z2⟩<;>(rw[nqq] at z2;cases z2)
  obtain⟨UT,wUT,WY⟩:=AO (hW.mono s3.le).ts M3.ts Vi nm2;refine⟨qq,q2,kvs,E_,rfl,rfl,f3,M3.ties,neq,by lia,?_⟩;have s4:Same H2 (p0 H3 qq (.dK (J5 kvs E_))):=A3 m3 nqq;have f4:(p0 H3 qq (.dK (J5 kvs E_))) qq=some (.dK (J5 kvs E_)):=b9;have ZF:TiesIs K (p0 H3 qq (.dK (J5 kvs E_))) (J5 kvs E_) UT:=P6 f3 wUT;generalize p0 H3 qq (.dK (J5 kvs E_))=H4 at s4 f4 ZF⊢;walk_at "r";refine⟨d9 (by simp),λt9 n9=>?_⟩;obtain⟨H9,e9,f9,m9,_⟩:=b0 (o:= .tup _) n9;rw[e9];walk_at "r";have TJ:=HY (λx:Str×Str=>!decide (x.1∈M.pts.map (·.1))) W.pts;have hfl2:=HY (λx:Str×F0=>!decide (x.1∈M.ts.map (·.1))) W.ts;refine⟨t9,pp,qq,_,⟨UP,UT⟩,rfl,⟨SqT.of f9,.inl (m9 _ _ (s4 _ _ f2)),.inl (m9 _ _ f4),ZF.mono m9.le⟩,(WX.map _).nodup_iff.mpr (rP Vh nm1),(WY.map _).nodup_iff.mpr (rP Vi nm2),?_,?_,NewP.permM (s2.trans (s4.trans m9)) WX WY k⟩
  .show UP.length<=60;rw[WX.length_eq,HQ];lia
  .show UT.length<=60;rw[WY.length_eq,HQ];lia
theorem Z5 {fr:List (Str×Str)}(nd:(fr.map (·.1)).Nodup){n s:Str}(h:(n,s)∈fr):TxtAt (j4 fr) n/\j0 (j4 fr) n=s:=⟨⟨s,aC nd h⟩,cc (aC nd h)⟩
theorem gY {ss:List Str}{f:Str->Str}(nd:ss.Nodup){n:Str}(h:n∈ss):TxtAt (j4 (ss.map λn=>(n,f n))) n/\j0 (j4 (ss.map λn=>(n,f n))) n=f n:=
 Z5 (by rw[Iy];exact(Md ss).symm▸nd) (HP.mpr ⟨n,h,rfl⟩)
def jL (K:Qc):Sp:=λvs H Q _=>∃(d l:Addr) (kvs:List (j3×V)) (ss:List Str),vs=[.ref d,.ref l]/\Rd H d (.dK kvs)/\SqL K H l (ss.map V.str)/\ss.Nodup/\ss.length<=60/\(∀n∈ss,TxtAt kvs n)/\∀(d':Addr) (H':Hp),H d'=none->Same H H'->H' d'=some (.dK (j4 (ss.map λn=>(n,j0 kvs n))))->Q (.ref d') H'
abbrev nj (P:Program)(w:World)(K:Qc)(mg:Str->Option Value)(base:Heap):Prop:=K3 P w K mg base B8 1 "picked" ["put","names"] [] (jL K)
theorem tX {f:Addr}{fd:FuncData}(T:Txt K mg)(F:Fun K "picked" "picked" ij f fd):A1 P w K mg base B8 1 f fd ["put","names"] (jL K):=by
 refine F.ok sc_picked (λvs H Q E h=>?_) (λd_ A outer s H vs Q E hr h=>?_)
 .obtain⟨d,l,kvs,ss,rfl,_⟩:=h;rfl
 .obtain⟨d,l,kvs,ss,rfl,hD,hL,nd,hl,hT,k⟩:=h;have hN:=sc_picked.nd;have hu:=u6 hr;refine⟨_,QSs.r (B0 (A0 (fu (P1 K rfl) T.b_dict Boot.«dict» (i9 (E7 (own:=["name"]) (js:=[0]) (by kernel_rfl) rfl (N7 K (qV 1)) (λ_ _ _ _=>(G1 (i:=0) (show List.Nodup (["name","put"]:List Str) by decide+kernel) rfl (by walk_at "l"))) (λ_ _ _ _=>aM) (λ_ _ _ _=>(G3 (i9 (qV 0) (i9 (k7 (k8 K hu) (qV 1) (qV 0) (λ_ _=>rfl)) j6))))) j6)))),?_⟩;walk_at "r";refine x9 hL ?_;refine w5 (n:=ss.length) (λi out H'=>Same H H'/\Paired (PrV K H') out (j4 ((ss.take i).map λn=>(n,j0 kvs n)))) ⟨Same.refl _,.nil⟩ (λi out H' hi hp=>⟨_,.str (ss[i]),hp.1.seq hL,by rw[HK,HH hi];rfl⟩) ?_ ?_
  .rintro N i v out H2' H2 hi ⟨s2,pr⟩ y hN';obtain⟨rfl,hx⟩:=Itl.get y (s2.seq hL);rw[HK,HH hi] at hx;cases hx;have D_:=IC pr;rw[k9,HI,HV] at D_;walk_at "r";refine⟨rfl,?_⟩;walk_at "r";refine Cp (s2.rd hD) (hT _ (ID hi)) ?_;walk_at "r";refine⟨d9 (by simp),λt4 n4=>?_⟩;obtain⟨H4,e4,f4,m4,_⟩:=b0 (o:= .tup _) n4;rw[e4];refine⟨d9 (by lia),hN' _ _ ⟨s2.trans m4,?_⟩⟩;rw[IE,HH hi,HL];unfold j4 at pr⊢;rw[HL];exact p7 (Paired.imp' (λ_ _ z=>PrV.mono m4.le z) pr) ⟨t4,rfl,SqT.of f4⟩
  .rintro out H2 ⟨s2,pr⟩;have D_:=IC pr;rw[k9,HI,HV] at D_;refine⟨⟨_,s2.seq hL,by rw[HI];exact HJ _⟩,λD hD'=>⟨d9 (by lia),?_⟩⟩;rw[HW (HJ _)] at pr;obtain⟨H3,e3,f3,m3,_⟩:=b0 (H:=H2) (o:= .lst out) hD';walk_at "r";change mx K _ (p0 H2 D _) _;rw[e3];refine N8 (SqL.of f3) (Paired.imp' (λ_ _ z=>PrV.mono m3.le z) pr) (d9 (by rw[k9,HI];lia)) (λpp npp=>?_);rw[U0 (ah (by rw[Iy];exact(Md ss).symm▸nd))];obtain⟨H4,e4,f4,m4,_⟩:=b0 (o:= .dK _) npp;rw[e4];exact k pp H4 (s2.free (m3.free npp)) (s2.trans (m3.trans m4)) f4
def dP (K:Qc):Sp:=λvs H Q _=>∃(st r m bl:Addr) (x:V) (L R:Sd) (bs:List Sd) (km:List (j3×V)),vs=[.ref st]/\SqT K H st [.ref r,.ref m,x]/\RuleIs K H r bl L R bs/\Rd H m (.dK km)/\(∀n∈h9 L.W,TxtAt km n)/\∀(l:Addr) (H':Hp) (s1 s2:List Str),H l=none->Same H H'->Ordr L.W s1 s2->H' l=some (.lst ((((s1++s2).filter λn=>!decide (n∈h9 R.W)).map (j0 km)).map V.str))->Q (.ref l) H'
abbrev fZ (P:Program)(w:World)(K:Qc)(mg:Str->Option Value)(base:Heap):Prop:=K3 P w K mg base B8 4 "taken_out" ["step"] [] (dP K)
theorem mq {f:Addr}{fd:FuncData}(T:Txt K mg)(mK:sj P w K mg base)(F:Fun K "taken_out" "taken_out" bA f fd):A1 P w K mg base B8 4 f fd ["step"] (dP K):=by
 refine F.ok sc_taken_out (λvs H Q E h=>?_) (λd_ A outer s H vs Q E hr h=>?_)
 .obtain⟨st,r,m,bl,x,L,R,bs,km,rfl,_⟩:=h;rfl
 .obtain⟨st,r,m,bl,x,L,R,bs,km,rfl,hS,hR,hM,hT,k⟩:=h;have TK:=hR.l.len;have hN:=sc_taken_out.nd;have hu:=u6 hr;refine⟨_,QSs.r (B0 (A0 (E7 (own:=["name"]) (js:=[0]) (by kernel_rfl) rfl (N7 K (qC mK (hr.mono (by decide)) j7 (i9 (k7 (k8 K hu) (qV 0) d8 (λ_ _=>rfl)) j6))) (λ_ _ _ _=>(G1 (i:=0) (show List.Nodup (["name","step"]:List Str) by decide+kernel) rfl (by walk_at "l"))) (λ_ _ _ _=>aM) (λ_ _ _ _=>(k7 (k8 K hu) (k7 (k8 K hu) (qV 1) d8 (λ_ _=>rfl)) (qV 0) (λ_ _=>rfl)))))),?_⟩;walk_at "r";refine b5 hS (b4 (j:=0) rfl) ?_;walk_at "r";refine⟨r,bl,L,R,bs,rfl,hR,λl1 H1 s1 s2 n1 m1 or f1=>?_⟩;have hlen:=or.len;have J_:=HY (λn=>!decide (n∈h9 R.W)) (s1++s2);have l_:∀n∈(s1++s2).filter λn=>!decide (n∈h9 R.W),TxtAt km n:=λn hn=>hT n (or.mem.mp (Ik.mp hn).1);have k':=λl H' h1 h2=>k l H' s1 s2 h1 h2 or;clear k;generalize (s1++s2).filter (λn=>!decide (n∈h9 R.W))=ss at f1 J_ l_ k';refine x9 (SqL.of f1) ?_;refine w5 (n:=ss.length) (λi out H'=>Same H1 H'/\out=(ss.take i).map λn=>V.str (j0 km n)) ⟨Same.refl _,rfl⟩ (λi out H' hi hp=>⟨_,.str (ss[i]),SqL.of (hp.1 _ _ f1),by rw[HK,HH hi];rfl⟩) ?_ ?_
  .rintro N i v out H2' H2 hi ⟨s3,rfl⟩ y hN';obtain⟨rfl,hx⟩:=Itl.get y (SqL.of (s3 _ _ f1));rw[HK,HH hi] at hx;cases hx;walk_at "r";refine⟨rfl,?_⟩;walk_at "r";refine b5 ((m1.trans s3).tup hS) (b4 (j:=1) rfl) ?_;walk_at "r";refine Cp ((m1.trans s3).rd hM) (l_ _ (ID hi)) ?_;refine⟨d9 (by rw[HI,HV];lia),hN' _ _ ⟨s3,?_⟩⟩;exact C7 (λn:Str=>V.str (j0 km n)) (HH hi)
  .rintro out H2 ⟨s3,rfl⟩;refine⟨⟨_,SqL.of (s3 _ _ f1),by rw[HI];exact HJ _⟩,λD hD'=>⟨d9 (by rw[HI,HV];lia),?_⟩⟩;rw[HW (HJ _)];obtain⟨H3,e3,f3,m3,_⟩:=b0 (H:=H2) (o:= .lst (ss.map λn=>V.str (j0 km n))) hD';refine k' D _ ((m1.trans s3).free hD') ?_ ?_
   .show Same _ (p0 H2 D _);rw[e3];exact m1.trans (s3.trans m3)
   .show p0 H2 D _ D=_;rw[b9,Iy];rfl
def bh (L:A6)(km kf:List (j3×V))(n:Str):Str:=if n∈h9 L then j0 km n else j0 kf n
structure FrOk (W L R:A6) (fr:List (Str×Str)):Prop where
 ks:(fr.map (·.1)).Perm ((h9 R).filter λn=>!decide (n∈h9 L))
 nm:∀x∈fr,Q9 x.2=true
 nd:(fr.map (·.2)).Nodup
 no:∀x∈fr,x.2∉h9 W
 len:fr.length<=8
theorem FrOk.nd1 {W L R:A6}{fr:List (Str×Str)}(h:FrOk W L R fr)(Rf:(h9 R).Nodup):(fr.map (·.1)).Nodup:=h.ks.nodup_iff.mpr (Rf.sublist Jf)
theorem FrOk.mem {W L R:A6}{fr:List (Str×Str)}(h:FrOk W L R fr){n:Str}:n∈fr.map (·.1)↔n∈h9 R/\n∉h9 L:=by
 rw[h.ks.mem_iff,Ik,Jn,Jd]
theorem FrOk.txt {W L R:A6}{fr:List (Str×Str)}(h:FrOk W L R fr)(Rf:(h9 R).Nodup){n:Str}(hn:n∈fr.map (·.1)):TxtAt (j4 fr) n/\(n,j0 (j4 fr) n)∈fr:=by
 obtain⟨⟨n',s⟩,hx,e⟩:=HP.mp hn;have e':n'=n:=e;subst e';have z:=Z5 (h.nd1 Rf) hx;exact⟨z.1,by rw[z.2];exact hx⟩
theorem xC {fr:List (Str×Str)}:(j4 fr).map (·.2)=(fr.map (·.2)).map V.str:=by unfold j4;rw[Iy,Iy];rfl
def bw (K:Qc):Sp:=λvs H Q _=>∃(S L R:Sd) (r bl f:Addr) (bs:List Sd) (fr:List (Str×Str)),vs=[.ref S.a,.ref r,.ref f]/\SdIs K H S/\RuleIs K H r bl L R bs/\H f=some (.dK (j4 fr))/\FrOk S.W L.W R.W fr/\∀H',Same H H'->Q (.bl true) H'
abbrev cN (P:Program)(w:World)(K:Qc)(mg:Str->Option Value)(base:Heap):Prop:=K3 P w K mg base B8 4 "names_serve" ["web","rule","fresh"] [] (bw K)
theorem hU {f:Addr}{fd:FuncData}(T:Txt K mg)(N6:dn P w K mg base)(ff:kF P w K mg base)(F:Fun K "names_serve" "names_serve" Y0 f fd):A1 P w K mg base B8 4 f fd ["web","rule","fresh"] (bw K):=by
 refine F.ok sc_names_serve (λvs H Q E h=>?_) (λd_ A outer s H vs Q E hr h=>?_)
 .obtain⟨S,L,R,r,bl,f,bs,fr,rfl,_⟩:=h;rfl
 .obtain⟨S,L,R,r,bl,f,bs,fr,rfl,hS,hR,hF,ok,k⟩:=h;have J_:=ok.len;have hN:=sc_names_serve.nd;have hu:=u6 hr;refine⟨_,QSs.r (u7 (j8 (i:=3) hN rfl (by walk_at "l") (qC N6 (hr.mono (by decide)) j7 (i9 (qV 1) j6)))
   (u7 (aU (pJ (lB (cS (N2 K (qB (kK K P w) T.b_isinstance Boot.«isinstance» (i9 (qV 2) (i9 (CT "dict" T.b_dict Boot.«dict») j6))))) (iC (u4 (gk K hr) (qB (C8 K P w) T.b_len Boot.«len» (i9 (qV 2) j6)) (qB (C8 K P w) T.b_len Boot.«len» (i9 (qV 3) j6)) (p8 _))))) (B0 (A0 uJ)) ck)
   (u7 (aU (cS (N2 K (qB (sI K rfl) T.b_all Boot.«all» (i9 (E7 (own:=["name"]) (js:=[2]) (by kernel_rfl) rfl (N7 K (qV 3)) (λ_ _ _ _=>(G1 (i:=0) (show List.Nodup (["name","fresh"]:List Str) by decide+kernel) rfl (by walk_at "l"))) (λ_ _ _ _=>aM) (λ_ _ _ _=>(qC ff (hr.mono (by decide)) j7 (i9 (rD hu (qV 1) (qV 0)) j6)))) j6)))) (B0 (A0 uJ)) ck)
   (u7 (aU (u4 (gk K hr) (qB (C8 K P w) T.b_len Boot.«len» (i9 (fu (Ek K rfl) T.b_set Boot.«set» (i9 (fu (eW K rfl) T.b_list Boot.«list» (i9 (ER Jc Kb KR Q6 K (qV 2)) j6)) j6)) j6)) (qB (C8 K P w) T.b_len Boot.«len» (i9 (qV 3) j6)) (p8 _)) (B0 (A0 uJ)) ck)
   (B0 (A0 (GC (qB (Gg K rfl) T.b_any Boot.«any» (i9 (E7 (own:=["name"]) (js:=[0]) (by kernel_rfl) rfl (vf (qV 2)) (λ_ _ _ _=>(G1 (i:=0) (show List.Nodup (["name","web"]:List Str) by decide+kernel) rfl (by walk_at "l"))) (λ_ _ _ _=>aM) (λ_ _ _ _=>(Hv (dy (kIn K hu) (qV 0) (k7 (k8 K hu) (qV 1) d8 (λ_ _=>rfl)) (by rfl)) (AN (dy (kIn K hu) (qV 0) (k7 (k8 K hu) (qV 1) d8 (λ_ _=>rfl)) (by rfl)))))) j6))))))))),?_⟩
  walk_at "r";refine⟨r,bl,L,R,bs,rfl,hR,λl1 H1 s1 s2 n1 m1 or f1=>?_⟩;have pg:((s1++s2).filter λn=>!decide (n∈h9 L.W)).Perm (fr.map (·.1)):=(or.perm.filter _).trans ok.ks.symm;generalize (s1++s2).filter (λn=>!decide (n∈h9 L.W))=gs at f1 pg;have WZ:=pg.length_eq;rw[HI] at WZ;have F1:=m1 _ _ hF;walk_at "r";refine gc (fX (t:="dict") (.inr (.inr ⟨rfl,_,.inl F1⟩)) (by simp) ?_);walk_at "r";rw[if_neg (by decide)];walk_at "r";refine C5 (G4 (.inl F1) ?_);walk_at "r";refine C5 (x5 (SqL.of f1) ?_);rw[k9,HI,WZ];walk_at "r";rw[if_neg (by simp)];walk_at "r";refine x9 (SqL.of f1) ?_;refine w5 (n:=fr.length) (λi out H'=>Same H1 H'/\out=List.replicate i (V.bl true)) ⟨Same.refl _,rfl⟩ (λi out H' hi hp=>⟨_,.str (gs[i]'(by lia)),SqL.of (hp.1 _ _ f1),by rw[HK,HH (show i<gs.length by lia)];rfl⟩) ?_ ?_
  .rintro N i v out H2' H2 hi ⟨s2',rfl⟩ y hN';obtain⟨rfl,hx⟩:=Itl.get y (SqL.of (s2' _ _ f1));rw[HK,HH (show i<gs.length by lia)] at hx;cases hx;obtain⟨x,hm,ex⟩:=HP.mp (pg.mem_iff.mp (ID (show i<gs.length by lia)));rw[←ex];walk_at "r";refine⟨rfl,?_⟩;walk_at "r";refine⟨f,rfl,.inl ⟨_,.inl (s2' _ _ F1)⟩,?_⟩;walk_at "r";refine⟨_,G7 (k:=Sum.inr x.1) (show Rd H2 f _ from .inl (s2' _ _ F1)),?_⟩;rw[aC (k:=x.2) (ok.nd1 hR.r.nd) hm];walk_at "r";refine⟨_,rfl,.inl ⟨x.2,rfl,vC (ok.nm x hm),λH3 m3=>?_⟩⟩;rw[ok.nm x hm];refine⟨d9 (by rw[Jp];lia),hN' _ _ ⟨s2'.trans m3,?_⟩⟩;rw[Np]
  .rintro out H2 ⟨s2',rfl⟩;refine⟨⟨_,SqL.of (s2' _ _ f1),by rw[HI];lia⟩,λD hD=>⟨d9 (by rw[Jp];lia),?_⟩⟩;obtain⟨H3,e3,f3,m3,_⟩:=b0 (H:=H2) (o:= .lst (List.replicate fr.length (V.bl true))) hD;walk_at "r";change uh K _ (p0 H2 D _) _;rw[e3];refine jP (bs:=List.replicate fr.length true) (SqL.of (by rw[f3,NV])) ?_;rw[bW];have ON:=s2'.trans m3;have F3:=ON _ _ F1;walk_at "r";refine⟨.inr (.inr (.inl ⟨rfl,.inl ⟨_,F3⟩⟩)),?_⟩;walk_at "r";refine⟨f,_,rfl,rfl,.inl F3,λv4 n4=>?_⟩;obtain⟨H4,e4,f4,m4,_⟩:=b0 (o:= .ext (mP v4 f)) n4;rw[e4];walk_at "r";refine aY f4 (.inl (m4 _ _ F3)) (λl5 n5=>?_);rw[xC];obtain⟨H5,e5,f5,m5,_⟩:=b0 (o:= .lst _) n5;rw[e5];walk_at "r";refine⟨l5,_,rfl,SqL.of f5,by rw[HI];lia,λl6 n6=>?_⟩;obtain⟨H6,e6,f6,m6,_⟩:=b0 (o:= .ext (cZ l6 (fm (fr.map (·.2))).length)) n6;rw[e6];have Pj:=ON.trans (m4.trans (m5.trans m6));have RP:(fm (fr.map (·.2))).length=fr.length:=by
    have z:=(nF (fr.map (·.2))).mpr ok.nd;rw[HI] at z;exact z
   walk_at "r";refine kB f6 (by lia) ?_;rw[RP];walk_at "r";refine C5 (x5 (SqL.of (Pj _ _ f1)) ?_);rw[HI,WZ];walk_at "r";rw[if_neg (by simp)];have F6:=Pj _ _ F1;have S6:=hS.same (m1.trans Pj);walk_at "r";refine⟨f,_,rfl,.inl ⟨F6,λndf o=>?_⟩⟩;refine w5 (n:=(j4 fr).length) (λi out H'=>Same (E3 f o (j4 fr) H6) H'/\out=List.replicate i (V.bl false)) ⟨Same.refl _,rfl⟩ (λi out H' hi hp=>⟨hp.1 _ _ b9,hi⟩) ?_ ?_
   .rintro N i v out H7' H7 hi ⟨s7,rfl⟩ ⟨rfl,kv,i',rfl⟩ hN';have le7:=(K9 (o:=o) F6).trans s7.le;have S7:=S6.at_.mono le7;obtain⟨x,hx,rfl⟩:=dD i';have k_:=ok.no x (HX hx);rw[k9] at hi;walk_at "r";refine⟨rfl,?_⟩;walk_at "r";refine b5 S7.tup (b4 (j:=0) rfl) ?_;refine P5 (G7 (k:=Sum.inr x.2) S7.pts) ?_;rw[F9,Iv (λz=>k_ (HU _ z))];walk_at "r";refine b5 S7.tup (b4 (j:=1) rfl) ?_;refine P5 (G7 (k:=Sum.inr x.2) S7.ties) ?_;rw[R9 S7.ts,Iv (λz=>k_ (Ia _ z))];refine⟨d9 (by rw[Jp];lia),hN' _ _ ⟨s7,?_⟩⟩;rw[Np]
   .rintro out H7 ⟨s7,rfl⟩;refine⟨⟨s7 _ _ b9,HJ _⟩,λD8 n8=>⟨d9 (by rw[Jp,k9];lia),?_⟩⟩;have s8:=Q1 F6 s7 n8 (u:= .lst (List.replicate (j4 fr).length (V.bl false)));have f8:=bg s7 n8 (u:= .lst (List.replicate (j4 fr).length (V.bl false)));generalize thaw f (p0 H7 D8 (.lst (List.replicate (j4 fr).length (V.bl false))))=H8 at s8 f8⊢;walk_at "r";refine⟨D8,List.replicate (j4 fr).length false,rfl,SqL.of (by rw[f8,NV]),?_⟩;rw[show(List.replicate (j4 fr).length false).any id=false by rw[Oi];intro x hx;rw[List.eq_of_mem_replicate hx];simp];walk_at "r";exact k _ (m1.trans (Pj.trans s8))
structure StI (K:Qc) (H:Hp) (st r m f bl:Addr) (L R:Sd) (km kf:List (j3×V)) (bs:List Sd):Prop where
 tup:SqT K H st [.ref r,.ref m,.ref f]
 r:RuleIs K H r bl L R bs
 m:H m=some (.dK km)
 f:H f=some (.dK kf)
 b:H bl=some (.lst (bs.map λs=>V.ref s.a))
theorem StI.same {H H':Hp}{st r m f bl:Addr}{L R:Sd}{km kf:List (j3×V)}{bs:List Sd}(h:StI K H st r m f bl L R km kf bs)(s:Same H H'):StI K H' st r m f bl L R km kf bs:=⟨s.tup h.tup,h.r.same s,s _ _ h.m,s _ _ h.f,s _ _ h.b⟩
theorem gP {α:Type}{l:List α}{p:α->Bool}(h:l.Nodup):(l.filter p).Nodup:=h.sublist Jf
theorem tZ {A B:List (Str×Str)}{n:Str}(nd:((A++B).map (·.1)).Nodup)(h:n∈A.map (·.1)):TxtAt (j4 A++j4 B) n/\j0 (j4 A++j4 B) n=j0 (j4 A) n:=by
 obtain⟨⟨n',s⟩,hx,e⟩:=HP.mp h;have e':n'=n:=e;subst e';have e2:j4 A++j4 B=j4 (A++B):=by unfold j4;rw[HL]
 have z:=Z5 nd (HU B hx);rw[HL] at nd;rw[e2,(Z5 (Iu.mp nd).1 hx).2];exact z
theorem sX {A B:List (Str×Str)}{n:Str}(nd:((A++B).map (·.1)).Nodup)(h:n∈B.map (·.1)):TxtAt (j4 A++j4 B) n/\j0 (j4 A++j4 B) n=j0 (j4 B) n:=by
 obtain⟨⟨n',s⟩,hx,e⟩:=HP.mp h;have e':n'=n:=e;subst e';have e2:j4 A++j4 B=j4 (A++B):=by unfold j4;rw[HL]
 have z:=Z5 nd (Ia A hx);rw[HL] at nd;rw[e2,(Z5 (Iu.mp nd).2.1 hx).2];exact z
theorem Z6 (ss:List Str)(f:Str->Str):(ss.map λn=>(n,f n)).map (·.1)=ss:=by rw[Iy];exact Md ss
def kP (K:Qc):Sp:=λvs H Q _=>∃(st r m f bl:Addr) (L R:Sd) (km kf:List (j3×V)) (bs:List Sd),vs=[.ref st]/\StI K H st r m f bl L R km kf bs/\(∀n∈h9 L.W,TxtAt km n)/\(∀n∈h9 R.W,n∉h9 L.W->TxtAt kf n)/\∀(d:Addr) (H':Hp) (t1 t2:List Str),H d=none->Same H H'->Ordr R.W t1 t2->H' d=some (.dK (j4 ((t1++t2).map λn=>(n,bh L.W km kf n))))->Q (.ref d) H'
abbrev mT (P:Program)(w:World)(K:Qc)(mg:Str->Option Value)(base:Heap):Prop:=K3 P w K mg base B8 4 "behind" ["step"] [] (kP K)
theorem tL {f:Addr}{fd:FuncData}(T:Txt K mg)(bf:nj P w K mg base)(qe:yd P w K mg base)(N6:dn P w K mg base)(z7:K8 P w K mg base)(F:Fun K "behind" "behind" je f fd):A1 P w K mg base B8 4 f fd ["step"] (kP K):=by
 refine F.ok sc_behind (λvs H Q E h=>?_) (λd_ A outer s H vs Q E hr h=>?_)
 .obtain⟨st,r,m,f,bl,L,R,km,kf,bs,rfl,_⟩:=h;rfl
 .obtain⟨st,r,m,f,bl,L,R,km,kf,bs,rfl,hS,hM,hF,k⟩:=h;have TK:=hS.r.l.len;have TM:=hS.r.r.len;have hN:=sc_behind.nd;have hu:=u6 hr;refine⟨_,QSs.r (u7 (j8 (i:=1) hN rfl (by walk_at "l") (k7 (k8 K hu) (qV 0) d8 (λ_ _=>rfl)))
   (u7 (j8 (i:=2) hN rfl (by walk_at "l") (qC bf (hr.mono (by decide)) j7 (i9 (k7 (k8 K hu) (qV 0) d8 (λ_ _=>rfl)) (i9 (qC qe (hr.mono (by decide)) j7 (i9 (qV 1) j6)) j6))))
   (u7 (oP (qM Jc Ka KS Q4 K (qV 2) (i9 (qC bf (hr.mono (by decide)) j7 (i9 (k7 (k8 K hu) (qV 0) d8 (λ_ _=>rfl)) (i9 (qC N6 (hr.mono (by decide)) j7 (i9 (qV 1) j6)) j6))) j6)))
   (B0 (A0 (qC bf (hr.mono (by decide)) j7 (i9 (qV 2) (i9 (qC z7 (hr.mono (by decide)) j7 (i9 (k7 (k8 K hu) (qV 1) d8 (λ_ _=>rfl)) j6)) j6)))))))),?_⟩
  walk_at "r";refine b5 hS.tup (b4 (j:=0) rfl) ?_;walk_at "r";refine b5 hS.tup (b4 (j:=1) rfl) ?_;walk_at "r";refine⟨r,bl,L,R,bs,rfl,hS.r,λl1 H1 s1 s2 n1 m1 o1 f1=>?_⟩;have S1:=hS.same m1;have NM:=o1.len;have TJ:=HY (λn=>decide (n∈h9 R.W)) (s1++s2);walk_at "r";refine⟨m,l1,km,_,rfl,.inl S1.m,SqL.of f1,gP (o1.perm.nodup_iff.mpr hS.r.l.nd),by lia,λn hn=>hM n (o1.mem.mp (Ik.mp hn).1),λd2 H2 n2 m2 f2=>?_⟩;have S2:=S1.same m2;walk_at "r";refine⟨.inr (.inr (.inl ⟨rfl,.inl ⟨_,f2⟩⟩)),?_⟩;walk_at "r";refine b5 S2.tup (b4 (j:=2) rfl) ?_;walk_at "r";refine⟨r,bl,L,R,bs,rfl,S2.r,λl3 H3 u1 u2 n3 m3 o3 f3=>?_⟩;have S3:=S2.same m3;have hl3:=o3.len;have Ph:=HY (λn=>!decide (n∈h9 L.W)) (u1++u2);walk_at "r";refine⟨f,l3,kf,_,rfl,.inl S3.f,SqL.of f3,gP (o3.perm.nodup_iff.mpr hS.r.r.nd),by lia,λn hn=>hF n (o3.mem.mp (Ik.mp hn).1) (by have z:=(Ik.mp hn).2;rw[Jn,Jd] at z;exact z),λd4 H4 n4 m4 f4=>?_⟩;have S4:=S3.same m4;have Va:=m4 _ _ (m3 _ _ f2);have W_:d2≠d4:=i8 (m3 _ _ f2) n4;have MQ:∀n∈(s1++s2).filter (λn=>decide (n∈h9 R.W)),n∈h9 L.W:=λn hn=>o1.mem.mp (Ik.mp hn).1;have k_:∀n∈(u1++u2).filter (λn=>!decide (n∈h9 L.W)),n∉h9 L.W:=λn hn=>by have z:=(Ik.mp hn).2;rw[Jn,Jd] at z;exact z
  have TN:(((s1++s2).filter λn=>decide (n∈h9 R.W))++((u1++u2).filter λn=>!decide (n∈h9 L.W))).Nodup:=Iu.mpr ⟨gP (o1.perm.nodup_iff.mpr hS.r.l.nd),gP (o3.perm.nodup_iff.mpr hS.r.r.nd),λa ha b hb e=>k_ b hb (e▸MQ a ha)⟩;have TQ:∀n∈h9 R.W,n∈h9 L.W->n∈(s1++s2).filter λn=>decide (n∈h9 R.W):=λn h1 h2=>Ik.mpr ⟨o1.mem.mpr h2,IA h1⟩;have TU:∀n∈h9 R.W,n∉h9 L.W->n∈(u1++u2).filter λn=>!decide (n∈h9 L.W):=λn h1 h2=>Ik.mpr ⟨o3.mem.mpr h1,by rw[Iv h2];rfl⟩;generalize (s1++s2).filter (λn=>decide (n∈h9 R.W))=A at Va TN TQ TJ;generalize (u1++u2).filter (λn=>!decide (n∈h9 L.W))=B at f4 TN TU Ph;have Vd:(((A.map λn=>(n,j0 km n))++(B.map λn=>(n,j0 kf n))).map (·.1)).Nodup:=by rw[HL,Z6,Z6];exact TN
  walk_at "r";refine⟨d2,d4,_,_,rfl,rfl,Va,.inl f4,W_,by rw[k9,k9,HI,HI];lia,?_⟩;rw[tD (by have z:=ah Vd;unfold j4 at z⊢;rw[HL] at z;exact z)];have n20:H1 d2=none:=n2;have s5:Same H1 (p0 H4 d2 (.dK (j4 (A.map λn=>(n,j0 km n))++j4 (B.map λn=>(n,j0 kf n))))):=A3 (m2.trans (m3.trans m4)) n20;have f5:p0 H4 d2 (.dK (j4 (A.map λn=>(n,j0 km n))++j4 (B.map λn=>(n,j0 kf n)))) d2=some (.dK (j4 (A.map λn=>(n,j0 km n))++j4 (B.map λn=>(n,j0 kf n)))):=b9;generalize p0 H4 d2 (.dK (j4 (A.map λn=>(n,j0 km n))++j4 (B.map λn=>(n,j0 kf n))))=H5 at s5 f5⊢;have S5:=S1.same s5;walk_at "r";refine b5 S5.r.tup (b4 (j:=1) rfl) ?_;walk_at "r";refine⟨R.a,R.p,R.q,R.kvs,R.W,rfl,S5.r.r.at_,by lia,λl6 H6 t1 t2 n6 m6 f6 o6=>?_⟩;have RD:=o6.len;walk_at "r";have gA:∀n∈h9 R.W,TxtAt (j4 (A.map λn=>(n,j0 km n))++j4 (B.map λn=>(n,j0 kf n))) n/\j0 (j4 (A.map λn=>(n,j0 km n))++j4 (B.map λn=>(n,j0 kf n))) n=bh L.W km kf n:=λn hn=>by
   unfold bh;by_cases hL:n∈h9 L.W
   .rw[if_pos hL];have hA:=TQ n hn hL;have z:=tZ Vd (by rw[Z6];exact hA);exact⟨z.1,z.2.trans (gY (Iu.mp TN).1 hA).2⟩
   .rw[if_neg hL];have hB:=TU n hn hL;have z:=sX Vd (by rw[Z6];exact hB);exact⟨z.1,z.2.trans (gY (Iu.mp TN).2.1 hB).2⟩
  refine⟨d2,l6,_,_,rfl,.inl (m6 _ _ f5),SqL.of f6,o6.perm.nodup_iff.mpr hS.r.r.nd,by lia,λn hn=>(gA n (o6.mem.mp hn)).1,λd7 H7 n7 m7 f7=>?_⟩;refine k d7 H7 t1 t2 (m1.free (s5.free (m6.free n7))) (m1.trans (s5.trans (m6.trans m7))) o6 ?_;rw[f7];congr 3;exact JE λn hn=>by rw[(gA n (o6.mem.mp hn)).2]
def oQ (L R:A6)(km:List (j3×V)):List Str:=((h9 L).filter λn=>!decide (n∈h9 R)).map (j0 km)
def zT (W L R:A6)(km kf:List (j3×V)):A6:=EN (bQ (oQ L R km) W) (Y6 (bh L km kf) R)
structure FK (W L R:A6) (km:List (j3×V)) (fr:List (Str×Str)):Prop where
 fit:Y9 L W km
 fo:FrOk W L R fr
 nd:((h9 R).map (bh L km (j4 fr))).Nodup
theorem AD {gs ZG:List Str}(W:A6)(h:∀n,n∈gs↔n∈ZG):bQ gs W=bQ ZG W:=by
 unfold bQ;congr 1
 .exact Ls λx _=>by rw[II];simp only[Jn,Jd];rw[h]
 .exact Ls λx _=>by rw[II];simp only[Jn,Jd];rw[h]
theorem BL {f g:Str->Str}{W:A6}(h:∀n∈h9 W,f n=g n)(he:∀x∈W.ts,x.2.2.1∈W.pts.map (·.1)/\x.2.2.2∈W.pts.map (·.1)):Y6 f W=Y6 g W:=by
 unfold Y6;congr 1
 .exact JE λx hx=>by rw[h x.1 (HU _ (HP.mpr ⟨x,hx,rfl⟩))]
 .exact JE λx hx=>by rw[h x.1 (Ia _ (HP.mpr ⟨x,hx,rfl⟩)),h _ (HU _ (he x hx).1),h _ (HU _ (he x hx).2)]
theorem jS {α:Type}{A A' B B':List (Str×α)}(pa:A'.Perm A)(pb:B'.Perm B):((A'.filter λx=>!decide (x.1∈B'.map (·.1)))++B').Perm ((A.filter λx=>!decide (x.1∈B.map (·.1)))++B):=by
 refine List.Perm.append ?_ pb;have e:(A'.filter λx=>!decide (x.1∈B'.map (·.1)))=A'.filter λx=>!decide (x.1∈B.map (·.1)):=Ls λx _=>by
  rw[II];simp only[Jn,Jd];rw[(pb.map _).mem_iff]
 rw[e];exact pa.filter _
theorem AL {L R:A6}{km:List (j3×V)}{s1 s2:List Str}(o:Ordr L s1 s2)(n:Str):n∈((s1++s2).filter λn=>!decide (n∈h9 R)).map (j0 km)↔n∈oQ L R km:=((o.perm.filter _).map _).mem_iff
theorem zh {f:Str->Str}{W:A6}(h:((h9 W).map f).Nodup):((Y6 f W).pts.map (·.1)).Nodup/\((Y6 f W).ts.map (·.1)).Nodup:=by
 unfold h9 at h;rw[HL] at h;have z:=Iu.mp h;unfold Y6;have z1:=z.1;have z2:=z.2.1;rw[Iy] at z1 z2;exact⟨by show((W.pts.map λx=>(f x.1,x.2)).map (·.1)).Nodup;rw[Iy];exact z1,by show((W.ts.map λx=>(f x.1,(x.2.1,f x.2.2.1,f x.2.2.2))).map (·.1)).Nodup;rw[Iy];exact z2⟩
structure qX (m:Addr) (bs:List Sd) (W:A6) (fx:List (Str×Str)):Prop where
 len:bs.length<=10
 b:∀b∈bs,m≠b.p/\m≠b.q/\BQ b.W W fx
def ik (W L R:A6)(fx:List (Str×Str))(bs:List A6):Prop:=(∀x∈W.ts,x.1∉oQ L R (j4 fx)->x.2.2.1∉oQ L R (j4 fx)/\x.2.2.2∉oQ L R (j4 fx))/\∀b∈bs,B4 b W fx=[]
def DS (K:Qc)(H:Hp)(E:XK):Prop:=∀(n:Str),n="Loose"\/n="Barred"->∀H' e,Same H H'->H' e=none->E (.ref (cA K n)) (some e) H'
def jj (K:Qc):Sp:=λvs H Q E=>∃(S L R:Sd) (st r m f bl:Addr) (km kf:List (j3×V)) (bs:List Sd) (fx:List (Str×Str)),vs=[.ref S.a,.ref st]/\SdIs K H S/\StI K H st r m f bl L R km kf bs/\km=j4 fx/\qX m bs S.W fx/\(km.map (·.1)).Nodup/\km.length<=100/\(∀kv∈km,∃n s,kv=(Sum.inr n,V.str s))/\Y9 L.W S.W km/\S.W.pts.length+S.W.ts.length<=24/\(ik S.W L.W R.W fx (bs.map (·.W))->NewP K H Q (bQ (oQ L.W R.W km) S.W))/\(¬ik S.W L.W R.W fx (bs.map (·.W))->DS K H E)
def se (K:Qc):Sp:=λvs H Q E=>∃(S L R:Sd) (st r m f bl:Addr) (km:List (j3×V)) (fr:List (Str×Str)) (bs:List Sd) (fx:List (Str×Str)),vs=[.ref S.a,.ref st]/\SdIs K H S/\StI K H st r m f bl L R km (j4 fr) bs/\km=j4 fx/\qX m bs S.W fx/\(km.map (·.1)).Nodup/\km.length<=100/\(∀kv∈km,∃n s,kv=(Sum.inr n,V.str s))/\FK S.W L.W R.W km fr/\S.W.pts.length+S.W.ts.length<=24/\(ik S.W L.W R.W fx (bs.map (·.W))->NewP K H Q (zT S.W L.W R.W km (j4 fr)))/\(¬ik S.W L.W R.W fx (bs.map (·.W))->DS K H E)
abbrev fh (P:Program)(w:World)(K:Qc)(mg:Str->Option Value)(base:Heap):Prop:=K3 P w K mg base (qr P w) 10 "rest_of" ["web","step"] [] (jj K)
theorem qv {f:Addr}{fd:FuncData}(T:Txt K mg)(dh:iz P w K mg base)(fe:kc P w K mg base)(bD:fZ P w K mg base)(ir:oh P w K mg base)(F:Fun K "rest_of" "rest_of" fK f fd):A1 P w K mg base (qr P w) 10 f fd ["web","step"] (jj K):=by
 refine F.okE sc_rest_of (λvs H Q E h=>?_) (λd_ A outer s H vs Q E hr h=>?_)
 .obtain⟨S,L,R,st,r,m,f,bl,km,kf,bs,fx,rfl,_⟩:=h;rfl
 .obtain⟨S,L,R,st,r,m,f,bl,km,kf,bs,fx,rfl,hS,hT,Ra,nb,knd,kln,ktx,fit,hsz,k,kE⟩:=h;have TK:=hT.r.l.len;have TM:=hT.r.r.len;have hN:=sc_rest_of.nd;have hu:=u6 hr;refine⟨_,QSs.r (u7 (j8 (i:=2) hN rfl (by walk_at "l") (k7 (k8 K hu) (qV 1) d8 (λ_ _=>rfl)))
   (u7 (aU (cS (N2 K (qC dh (hr.mono (by decide)) j7 (i9 (k7 (k8 K hu) (qV 2) d8 (λ_ _=>rfl)) (i9 (qV 0) (i9 (k7 (k8 K hu) (qV 1) d8 (λ_ _=>rfl)) j6)))))) (B0 (mI gS T.r_NoMatch rfl (i9 fP j6))) ck)
   (u7 (j8 (i:=3) hN rfl (by walk_at "l") (qC fe (hr.mono (by decide)) Ag (i9 (qV 0) (i9 (qC bD (hr.mono (by decide)) j7 (i9 (qV 1) j6)) j6))))
   (u7 (aU (u4 jg (qC ir (hr.mono (by decide)) j7 (i9 (qV 0) (i9 (qV 2) (i9 (k7 (k8 K hu) (qV 1) d8 (λ_ _=>rfl)) j6)))) lF (p8 _)) (B0 (mI gS T.r_Barred rfl (i9 fP j6))) ck)
   (B0 (A0 (qV 3))))))),?_⟩
  walk_at "r";refine b5 hT.tup (b4 (j:=0) rfl) ?_;walk_at "r";refine b5 hT.r.tup (b4 (j:=0) rfl) ?_;walk_at "r";refine b5 hT.tup (b4 (j:=1) rfl) ?_;walk_at "r";refine⟨L.a,L.p,L.q,S.a,S.p,S.q,L.kvs,S.kvs,L.W,S.W,.ref m,true,rfl,hT.r.l,hS,.inr (.inr ⟨m,km,rfl,hT.m,knd,kln,λkv hk=>?_,(qK fit).symm⟩),λH1 m1=>?_⟩
  .obtain⟨n,s,rfl⟩:=ktx kv hk;exact⟨"str",rfl⟩
  have T1:=hT.same m1;have S1:=hS.same m1;walk_at "r";refine⟨st,r,m,bl,.ref f,L,R,bs,km,rfl,T1.tup,T1.r,.inl T1.m,fit.txt,λl2 H2 s1 s2 n2 m2 o2 f2=>?_⟩;have T2:=T1.same m2;have S2:=S1.same m2;walk_at "r";have Rg:=AL (R:=R.W) (km:=km) o2;generalize ((s1++s2).filter λn=>!decide (n∈h9 R.W)).map (j0 km)=gs at f2 Rg;have Xa:=S2.len;rw[C0] at Xa;refine⟨S.a,l2,S.p,S.q,S.kvs,S.W,gs,rfl,S2.at_,S2.hp,S2.hq,SqL.of f2,E1 hS.nd,N1 hS.nd,by lia,by lia,λx hx=>hS.nl _ (Ia _ (HP.mpr ⟨x,hx,rfl⟩)),?_⟩;by_cases hlo:kS gs S.W=true
  .rw[if_pos hlo];intro H3 e m3 he;refine kE (λc=>?_) "Loose" (.inl rfl) H3 e (m1.trans (m2.trans m3)) he;obtain⟨x,hx,hz⟩:=Jq.mp hlo;have q_:=Ik.mp (show x∈S.W.ts.filter λx=>!decide (x.1∈gs) from hx);have hn:x.1∉oQ L.W R.W km:=λq=>by
    have q2:=q_.2;rw[IA ((Rg _).mpr q)] at q2;cases q2
   have Xb:=c.1 x q_.1 (by rw[←Ra];exact hn);rw[←Ra] at Xb;rw[MV,Ii,Ii,Rg,Rg] at hz;exact hz.elim Xb.1 Xb.2
  have lo:∀x∈S.W.ts,x.1∉oQ L.W R.W (j4 fx)->x.2.2.1∉oQ L.W R.W (j4 fx)/\x.2.2.2∉oQ L.W R.W (j4 fx):=λx hx hn=>by
   rw[←Ra] at hn⊢;have key:¬((decide (x.2.2.1∈gs)||decide (x.2.2.2∈gs))=true):=λz=>hlo (Jq.mpr ⟨x,Ik.mpr ⟨hx,by rw[Jn,Jd,Rg];exact hn⟩,z⟩);rw[MV,Ii,Ii,Rg,Rg] at key;exact⟨λz=>key (.inl z),λz=>key (.inr z)⟩
  rw[if_neg hlo,AD S.W Rg];intro a3 p3 q3 k3 W3 H3 m3 w3 hp3 hq3 ne3 np3 nq3 Qv e32;have T3:=T2.same m3;have S3:=S2.same m3;walk_at "r";refine b5 T3.tup (b4 (j:=1) rfl) ?_;walk_at "r";refine⟨S,L,R,r,bl,m,bs,fx,rfl,S3,T3.r,nb.len,by rw[←Ra];exact T3.m,nb.b,λv H4 m4 brd=>?_⟩;have RS:=m1.trans (m2.trans (m3.trans m4));rcases brd with⟨k_,hv⟩|⟨i,b,row,rr,t,d,hb,_,K',rfl,_⟩
  rotate_left
  .walk_at "r";rw[if_pos (by simp)];walk_at "r";refine⟨d9 (by simp),λe he=>kE (λc=>?_) "Barred" (.inr rfl) H4 e RS he⟩;have z:=c.2 b.W (HP.mpr ⟨b,HX hb,rfl⟩);rw[z] at K';cases K'
  have RT:ik S.W L.W R.W fx (bs.map (·.W)):=⟨lo,λb hb=>by
   obtain⟨y,hy,rfl⟩:=HP.mp hb;exact k_ y hy⟩
  subst hv;walk_at "r";rw[if_neg (by simp)];walk_at "r";exact k RT a3 p3 q3 k3 W3 H4 RS (w3.mono m4.le) (m4 _ _ hp3) (m4 _ _ hq3) ne3 ((m1.trans m2).free np3) ((m1.trans m2).free nq3) Qv e32
abbrev wt (P:Program)(w:World)(K:Qc)(mg:Str->Option Value)(base:Heap):Prop:=K3 P w K mg base (qr P w) 11 "done" ["web","step"] [] (se K)
theorem zP {f:Addr}{fd:FuncData}(T:Txt K mg)(R7:fh P w K mg base)(V9:cN P w K mg base)(jh:ou P w K mg base)(fJ:jY P w K mg base)(iI:mT P w K mg base)(F:Fun K "done" "done" pT f fd):A1 P w K mg base (qr P w) 11 f fd ["web","step"] (se K):=by
 refine F.okE sc_done (λvs H Q E h=>?_) (λd_ A outer s H vs Q E hr h=>?_)
 .obtain⟨S,L,R,st,r,m,f,bl,km,fr,bs,fx,rfl,_⟩:=h;rfl
 .obtain⟨S,L,R,st,r,m,f,bl,km,fr,bs,fx,rfl,hS,hT,Ra,nb,knd,kln,ktx,ok,hsz,k,kE⟩:=h;have TK:=hT.r.l.len;have TM:=hT.r.r.len;have hN:=sc_done.nd;have hu:=u6 hr;refine⟨_,QSs.r (u7 (j8 (i:=2) hN rfl (by walk_at "l") (k7 (k8 K hu) (qV 1) d8 (λ_ _=>rfl)))
   (u7 (j8 (i:=3) hN rfl (by walk_at "l") (qC R7 (hr.mono (by decide)) Ag (i9 (qV 0) (i9 (qV 1) j6))))
   (u7 (aU (cS (N2 K (qC V9 (hr.mono (by decide)) j7 (i9 (qV 0) (i9 (qV 2) (i9 (k7 (k8 K hu) (qV 1) d8 (λ_ _=>rfl)) j6)))))) (B0 (mI gS T.r_NoNames rfl (i9 fP j6))) ck)
   (B0 (A0 (qC jh (hr.mono (by decide)) j7 (i9 (qV 3) (i9 (qC fJ (hr.mono (by decide)) j7 (i9 (k7 (k8 K hu) (qV 2) d8 (λ_ _=>rfl)) (i9 (qC iI (hr.mono (by decide)) j7 (i9 (qV 1) j6)) j6))) j6)))))))),?_⟩
  walk_at "r";refine b5 hT.tup (b4 (j:=0) rfl) ?_;walk_at "r";refine⟨S,L,R,st,r,m,f,bl,km,j4 fr,bs,fx,rfl,hS,hT,Ra,nb,knd,kln,ktx,ok.fit,hsz,λRT=>?_,kE⟩;intro a3 p3 q3 k3 W3 H3 m3 w3 hp3 hq3 ne3 np3 nq3 Qv e32;have T3:=hT.same m3;have S3:=hS.same m3;walk_at "r";refine b5 T3.tup (b4 (j:=2) rfl) ?_;walk_at "r";refine⟨S,L,R,r,bl,f,bs,fr,rfl,S3,T3.r,T3.f,ok.fo,λH4 m4=>?_⟩;have T4:=T3.same m4;walk_at "r";refine b5 T4.r.tup (b4 (j:=1) rfl) ?_;walk_at "r";refine⟨st,r,m,f,bl,L,R,km,j4 fr,bs,rfl,T4,ok.fit.txt,λn h1 h2=>(ok.fo.txt hT.r.r.nd (ok.fo.mem.mpr ⟨h1,h2⟩)).1,λd5 H5 t1 t2 n5 m5 o5 f5=>?_⟩;have T5:=T4.same m5;have nds:=o5.perm.nodup_iff.mpr hT.r.r.nd;have gb:∀n∈h9 R.W,TxtAt (j4 ((t1++t2).map λn=>(n,bh L.W km (j4 fr) n))) n/\j0 (j4 ((t1++t2).map λn=>(n,bh L.W km (j4 fr) n))) n=bh L.W km (j4 fr) n:=λn hn=>gY nds (o5.mem.mpr hn);generalize j4 ((t1++t2).map λn=>(n,bh L.W km (j4 fr) n))=nm at f5 gb;have ndb:((h9 R.W).map (j0 nm)).Nodup:=by
   rw[JE λn hn=>(gb n hn).2];exact ok.nd
  walk_at "r";refine⟨R.a,d5,R.p,R.q,R.kvs,nm,R.W,j0 nm,rfl,T5.r.r.at_,T5.r.r.hp,T5.r.r.hq,.inl f5,rfl,λn hn=>(gb n hn).1,ndb,by lia,T5.r.r.ends,?_⟩;rw[BL (λn hn=>(gb n hn).2) T5.r.r.ends];intro a6 p6 q6 k6 W6 H6 m6 w6 hp6 hq6 ne6 np6 nq6 e61 e62;have ZH:=m4.trans (m5.trans m6);walk_at "r";have nr:=zh ok.nd;have Vh:(W3.pts.map (·.1)).Nodup:=(Qv.map _).nodup_iff.mpr (N5 (E1 hS.nd));have Vi:(W3.ts.map (·.1)).Nodup:=(e32.map _).nodup_iff.mpr (N5 (N1 hS.nd));have lf1:=HY (λx:Str×Str=>!decide (x.1∈oQ L.W R.W km)) S.W.pts;have lf2:=HY (λx:Str×F0=>!decide (x.1∈oQ L.W R.W km)) S.W.ts;have le1:=Qv.length_eq;have le2:=e32.length_eq;have UY:=e61.length_eq;have Qm:=e62.length_eq;rw[show(Y6 (bh L.W km (j4 fr)) R.W).pts.length=R.W.pts.length from HI _] at UY;rw[show(Y6 (bh L.W km (j4 fr)) R.W).ts.length=R.W.ts.length from HI _] at Qm;rw[show(bQ (oQ L.W R.W km) S.W).pts.length=(S.W.pts.filter λx=>!decide (x.1∈oQ L.W R.W km)).length from rfl] at le1;rw[show(bQ (oQ L.W R.W km) S.W).ts.length=(S.W.ts.filter λx=>!decide (x.1∈oQ L.W R.W km)).length from rfl] at le2;rw[C0] at TM;refine⟨a3,p3,q3,a6,p6,q6,k3,k6,W3,W6,rfl,w3.mono ZH.le,w6,Vh,Vi,(e61.map _).nodup_iff.mpr nr.1,(e62.map _).nodup_iff.mpr nr.2,by lia,by lia,NewP.permM (W:=zT S.W L.W R.W km (j4 fr)) (m3.trans ZH) (jS Qv e61) (jS e32 e62) (k RT)⟩
def cF (K:Qc):Sp:=λvs H Q _=>∃(a:Addr) (ns:List Int),vs=[.ref a,.int 5,.int 7]/\SqL K H a (ns.map V.int)/\ns.length<=63/\∀(p:Addr) (H':Hp) (cs:List Int),H p=none->Same H H'->H' p=some (.lst (cs.map V.int))->cs.length<=7->(∀c∈cs,0<=c)->Q (.ref p) H'
def aO (K:Qc):Sp:=λvs H Q _=>∃(a:Addr) (ns:List Int) (k:Int),vs=[.ref a,.int k]/\SqL K H a (ns.map V.int)/\ns.length<=63/\0<=k/\∀m:Int,0<=m->m<10 ^ 60->Q (.int m) H
def cz (K:Qc):Sp:=λvs H Q _=>∃c:Int,vs=[.int c]/\0<=c/\yE H Q λss=>ss.length=2
structure Dw (n:Nat) (ss:List Str):Prop where
 len:ss.length=n
 nd:ss.Nodup
 z:∃z:Nat,z<=15/\∀s∈ss,s.length=z
 nm:∀s∈ss,Q9 s=true
structure cy (ss:List Str):Prop where
 len:ss.length=10
 nd:ss.Nodup
 kd:∀s∈ss,Z0 s=true
def cD (K:Qc):Sp:=λvs H Q _=>∃c:Int,vs=[.int c,.int 12]/\0<=c/\yE H Q (Dw 12)
def cE (K:Qc):Sp:=λvs H Q _=>∃c:Int,vs=[.int c,.int 10]/\0<=c/\yE H Q cy
theorem Cc (ns:List Int):∃cs:List Int,cX (ns.map V.int) (some 5) (some 12)=cs.map V.int/\cs.length<=7:=by
 unfold cX;have e1:HT.sIx (ns.map V.int).length 0 (some ((5:Nat):Int))=min 5 (ns.map V.int).length:=HT.sIx_nat _ _ _;have e2:HT.sIx (ns.map V.int).length (ns.map V.int).length (some ((12:Nat):Int))=min 12 (ns.map V.int).length:=HT.sIx_nat _ _ _;rw[show(some (5:Int))=some ((5:Nat):Int) from rfl,show(some (12:Int))=some ((12:Nat):Int) from rfl,e1,e2,←List.map_drop,←NW];exact⟨_,rfl,by rw[HV,Kl];lia⟩
abbrev dH (P:Program)(w:World)(K:Qc)(mg:Str->Option Value)(base:Heap):Prop:=K3 P w K mg base B8 1 "_law_cells" ["_law_script","_law_start","_law_many"] [] (cF K)
theorem jA {f:Addr}{fd:FuncData}(T:Txt K mg)(F:Fun K "_law_cells" "_law_cells" av f fd):A1 P w K mg base B8 1 f fd ["_law_script","_law_start","_law_many"] (cF K):=by
 refine F.ok sc__law_cells (λvs H Q E h=>?_) (λd_ A outer s H vs Q E hr h=>?_)
 .obtain⟨a,ns,rfl,_⟩:=h;rfl
 .obtain⟨a,ns,rfl,hA,hl,k⟩:=h;have hN:=sc__law_cells.nd;have hu:=u6 hr;refine⟨_,QSs.r (B0 (A0 (E7 (own:=["_law_cell"]) (js:=[]) (by kernel_rfl) rfl (N7 K (EE (Df K) (qV 0) (CV (qV 1)) (CV (B6 (G0 K) (qV 1) (qV 2))))) (λ_ _ _ _=>(G1 (i:=0) (show List.Nodup (["_law_cell"]:List Str) by decide+kernel) rfl (by walk_at "l"))) (λ_ _ _ _=>aM) (λ_ _ _ _=>(B6 q8 (qV 0) (B6 mO d8 d8)))))),?_⟩;walk_at "r";refine mZ hA (λp1 n1=>?_);obtain⟨H1,e1,f1,m1,_⟩:=b0 (o:= .lst _) n1;rw[e1];obtain⟨cs,SR,A_⟩:=Cc ns;rw[show(5:Int)+7=12 from rfl,SR] at f1;refine x9 (SqL.of f1) ?_;refine w5 (n:=cs.length) (λi out H'=>Same H1 H'/\out=(cs.take i).map λx=>V.int (x % 10 ^ 60)) ⟨Same.refl _,rfl⟩ (λi out H' hi hp=>⟨_,.int (cs[i]),SqL.of (hp.1 _ _ f1),by rw[HK,HH hi];rfl⟩) ?_ ?_
  .rintro N i v out H2 H3 hi ⟨s1,rfl⟩ y hN';obtain⟨rfl,hx⟩:=Itl.get y (SqL.of (s1 _ _ f1));rw[HK,HH hi] at hx;cases hx;walk_at "r";refine⟨rfl,?_⟩;walk_at "r";refine⟨d9 (by rw[HI,HV];lia),hN' _ _ ⟨s1,?_⟩⟩;exact C7 (λx:Int=>V.int (x % 10 ^ 60)) (HH hi)
  .rintro out H2 ⟨s1,rfl⟩;refine⟨⟨_,SqL.of (s1 _ _ f1),by rw[HI];exact HJ _⟩,λD hD=>⟨d9 (by rw[HI,HV];lia),?_⟩⟩;rw[HW (HJ _)];obtain⟨H3,e3,f3,m3,_⟩:=b0 (o:= .lst (cs.map λx=>V.int (x % 10 ^ 60))) hD;refine k D _ (cs.map λx=>x % 10 ^ 60) ((m1.trans s1).free hD) ?_ ?_ (by rw[HI];exact A_) (λc hc=>?_)
   .show Same _ (p0 _ D _);rw[e3];exact m1.trans (s1.trans m3)
   .show p0 _ D _ D=_;rw[b9,Iy];rfl
   .obtain⟨x,_,rfl⟩:=HP.mp hc;exact Jg _ (by decide)
abbrev bK (P:Program)(w:World)(K:Qc)(mg:Str->Option Value)(base:Heap):Prop:=K3 P w K mg base B8 1 "_law_cell_at" ["_law_script","_law_k"] [] (aO K)
theorem gI {f:Addr}{fd:FuncData}(T:Txt K mg)(F:Fun K "_law_cell_at" "_law_cell_at" T6 f fd):A1 P w K mg base B8 1 f fd ["_law_script","_law_k"] (aO K):=by
 refine F.ok sc__law_cell_at (λvs H Q E h=>?_) (λd_ A outer s H vs Q E hr h=>?_)
 .obtain⟨a,ns,k',rfl,_⟩:=h;rfl
 .obtain⟨a,ns,k',rfl,hA,hl,h0,k⟩:=h;have hN:=sc__law_cell_at.nd;have hu:=u6 hr;refine⟨_,QSs.r (u7 (aU (u4 de (qV 1) (qB (C8 K P w) T.b_len Boot.«len» (i9 (qV 0) j6)) (p8 _)) (B0 (A0 (B6 q8 (k7 (k8 K hu) (qV 0) (qV 1) (λ_ _=>rfl)) (B6 mO d8 d8)))) ck)
   (B0 (A0 d8))),?_⟩
  walk_at "r";refine C5 (x5 hA ?_);rw[HI];walk_at "r";refine C4 (λh1=>?_) (λh1=>?_)
  .walk_at "r";obtain⟨v,hv,MX⟩:=fg (xs:=ns.map V.int) h0 (by rw[HI];exact h1);rw[HK] at MX;obtain⟨x,hx,rfl⟩:=IL.mp MX;refine i6 hA hv ?_;walk_at "r";exact k _ (Jg _ (by decide)) (Jb _ (by decide))
  .walk_at "r";exact k 0 (by lia) (by decide)
abbrev eB (P:Program)(w:World)(K:Qc)(mg:Str->Option Value)(base:Heap):Prop:=K3 P w K mg base B8 1 "_law_kinds" ["_law_cell"] [] (cz K)
theorem jH {f:Addr}{fd:FuncData}(T:Txt K mg)(F:Fun K "_law_kinds" "_law_kinds" aI f fd):A1 P w K mg base B8 1 f fd ["_law_cell"] (cz K):=by
 refine F.ok sc__law_kinds (λvs H Q E h=>?_) (λd_ A outer s H vs Q E hr h=>?_)
 .obtain⟨c,rfl,_⟩:=h;rfl
 .obtain⟨c,rfl,h0,k⟩:=h;have hN:=sc__law_kinds.nd;have hu:=u6 hr;refine⟨_,QSs.r (u7 (j8 (i:=1) hN rfl (by walk_at "l") fP)
   (u7 (j8 (i:=2) hN rfl (by walk_at "l") (B6 (G0 K) d8 (B6 q8 (qV 0) d8)))
   (u7 (j8 (i:=3) hN rfl (by walk_at "l") (B6 q8 (B6 F2 (qV 0) d8) (qV 2)))
   (u7 (j8 (i:=4) hN rfl (by walk_at "l") (bR j6))
   (u7 (P2 IK rfl (eX T.b_range (i9 d8 j6)) (G1 (i:=5) hN rfl (by walk_at "l"))
    (u7 (j8 (i:=6) hN rfl (by walk_at "l") fP)
   (u7 (P2 IK rfl (eX T.b_range (i9 (qV 2) j6)) (G1 (i:=7) hN rfl (by walk_at "l"))
    (B0 (j8 (i:=6) hN rfl (by walk_at "l") (B6 (G0 K) (qV 6) (k7 (k8 K hu) (qV 1) (B6 q8 (B6 (G0 K) (B6 (G0 K) (B6 F2 (qV 0) d8) (qV 7)) (B6 op_mulY (B6 op_mulY d8 (qV 5)) (fu kG T.b_int Boot.«int» (i9 (dy (G8 K hr) (qV 7) (qV 3) (p8 _)) j6)))) d8) (λ_ _=>rfl))))))
   (B0 (oP (qM IT IZ Ja z8 K (qV 4) (i9 (qV 6) j6)))))))
   (B0 (A0 (qV 4)))))))),?_⟩
  walk_at "r";have Nb:0<=c/8 % (1+c % 8):=Jg _ (by lia);have Pk:c/8 % (1+c % 8)<1+c % 8:=Jb _ (by lia);generalize Tt:c/8 % (1+c % 8)=at_ at Nb Pk⊢;refine⟨d9 (by simp),λlo no=>?_⟩;obtain⟨H1,e1,f1,m1,_⟩:=b0 (o:= .lst _) no;rw[e1];walk_at "r";refine G5 (by lia) (by lia) ?_;refine Q3 (n:=2) (λi σ H'=>(∃v1 v2 v3,σ=[some (.int c),some (.str kSL),some (.int (1+c % 8)),some (.int at_),some (.ref lo),v1,v2,v3])/\Same H H'/\∃ss:List Str,H' lo=some (.lst (ss.map V.str))/\ss.length=i)
   ⟨⟨_,_,_,rfl⟩,m1,[],f1,rfl⟩ (λi σ H' hi _=>by exact hi) ?_ ?_
  .rintro i v σ H2' H2 hi ⟨⟨v1,v2,v3,rfl⟩,s2,ss,g2,hl⟩ ⟨rfl,rfl⟩;walk_at "r";refine G5 (by lia) (by lia) ?_;refine Q3 (n:=(1+c % 8).toNat) (λj σ H'=>(∃(b:Str) (v3:Option V),σ=[some (.int c),some (.str kSL),some (.int (1+c % 8)),some (.int at_),some (.ref lo),some (.int (0+(i:Int))),some (.str b),v3]/\b.length=j)/\H'=H2)
    ⟨⟨_,_,rfl,rfl⟩,rfl⟩ (λi σ H' hi _=>by exact hi) ?_ ?_
   .rintro j v σ H3 H4 hj ⟨⟨b,v3,rfl,hb⟩,rfl⟩ ⟨rfl,rfl⟩;walk_at "r";refine .inr ⟨_,rfl,?_⟩;generalize hm:(if decide (0+(j:Int)=at_)=true then(1:Int) else 0)=m;have hm0:0<=m/\m<=1:=by subst hm;split<;>lia
    walk_at "r";refine bM fL (qo ((c/64+(0+(j:Int))+9*(0+(i:Int))*m) % 26) (by lia) (by lia)) ?_;refine N3 (j:=⟨#[aT ((c/64+(0+(j:Int))+9*(0+(i:Int))*m) % 26)]⟩) (d9 (by rw[dU];lia)) ?_;walk_at "r";exact⟨⟨_,_,rfl,by rw[cn,dU];lia⟩,rfl⟩
   .rintro σ H3 ⟨⟨b,v3,rfl,hb⟩,rfl⟩;refine⟨HJ _,?_⟩;walk_at "r";refine⟨.inl ⟨rfl,_,SqL.of g2⟩,?_⟩;walk_at "r";refine⟨lo,_,_,rfl,rfl,g2,cg (by rw[HI];lia),?_⟩;refine⟨⟨_,_,_,rfl⟩,A3 s2 no,ss++[b],?_,by rw[HQ,hl];rfl⟩;rw[b9,HL];rfl
  .rintro σ H2 ⟨⟨v1,v2,v3,rfl⟩,s2,ss,g2,hl⟩;refine⟨HJ _,?_⟩;walk_at "r";exact k lo H2 ss no s2 g2 hl
def eh (l:List Nat):Str:=⟨l.toArray⟩
theorem fU (l:List Nat)(c:Nat):eh l++(⟨#[c]⟩:Str)=eh (l++[c]):=by
 unfold eh;show(⟨l.toArray++ #[c]⟩:Str)=_;congr 1;simp
theorem nV {l m:List Nat}(h:eh l=eh m):l=m:=by
 have:=Jm (λs:Str=>s.cps.toList) h;simpa [eh] using this
theorem eK (l:List Nat):(eh l).length=l.length:=by
 show l.toArray.size=_;simp
def aE (s:Str)(i:Int):Nat:=s.cps.toList.getD i.toNat 0
theorem CI (s:Str)(i:Int)(h0:0<=i)(h1:i<s.cps.toList.length):jB s.cps.toList i=some (aE s i):=by
 obtain⟨v,hv,MX⟩:=fg (xs:=s.cps.toList) h0 h1;rw[hv];unfold aE;rw[IG,MX];rfl
abbrev kSM:Str:=kSL++("0123456789.":Str)
theorem tH:∀i j:Nat,i<26->j<26->aE kSL i=aE kSL j->i=j:=by
 have h:∀i,i<26->∀j,j<26->aE kSL (i:Nat)=aE kSL (j:Nat)->i=j:=by decide+kernel
 exact λi j hi hj=>h i hi j hj
theorem uF:∀i j:Nat,i<37->j<37->aE kSM i=aE kSM j->i=j:=by
 have h:∀i,i<37->∀j,j<37->aE kSM (i:Nat)=aE kSM (j:Nat)->i=j:=by decide+kernel
 exact λi j hi hj=>h i hi j hj
def cx (S:Str)(c at_:Int)(k i:Nat):List Nat:=(List.range i).map λj:Nat=>if(j:Int)=at_ then aE S ((c/240+5*(k:Int)) % (S.length:Int)) else aT ((c/240+3*(j:Int)) % 26)
theorem iy (S:Str)(c at_:Int)(k i:Nat):cx S c at_ k (i+1)=cx S c at_ k i++[if((i:Int))=at_ then aE S ((c/240+5*(k:Int)) % (S.length:Int)) else aT ((c/240+3*(i:Int)) % 26)]:=by
 unfold cx;rw[JZ,HL];rfl
theorem bX (S:Str)(c at_:Int)(k i:Nat):(cx S c at_ k i).length=i:=by
 unfold cx;rw[HI,Ke]
def nL (S:Str)(c at_:Int)(n k:Nat):Str:=eh (cx S c at_ k n)
theorem zN {S:Str}{c at_:Int}{n m:Nat}(hS:S=kSL\/S=kSM)(h0:0<=at_)(h1:at_<n)(hm:m<=26):((List.range m).map (nL S c at_ n)).Nodup:=ji λi j hi hj e=>by
 have z:=nV e;have z2:=Jm (λl=>l[at_.toNat]?) z;unfold cx at z2;simp only[HK,NI (show at_.toNat<n by lia),JY,Mp] at z2;rw[if_pos (by lia),if_pos (by lia)] at z2;rcases hS with rfl|rfl
 .have hl:(kSL.length:Int)=26:=by decide+kernel
  rw[hl] at z2;have e1:(c/240+5*(i:Int)) % 26=(((c/240+5*(i:Int)) % 26).toNat:Int):=by lia
  have e2:(c/240+5*(j:Int)) % 26=(((c/240+5*(j:Int)) % 26).toNat:Int):=by lia
  rw[e1,e2] at z2;have z3:=tH _ _ (by lia) (by lia) z2;lia
 .have hl:(kSM.length:Int)=37:=by decide+kernel
  rw[hl] at z2;have e1:(c/240+5*(i:Int)) % 37=(((c/240+5*(i:Int)) % 37).toNat:Int):=by lia
  have e2:(c/240+5*(j:Int)) % 37=(((c/240+5*(j:Int)) % 37).toNat:Int):=by lia
  rw[e1,e2] at z2;have z3:=uF _ _ (by lia) (by lia) z2;lia
theorem xq (i:Int)(h0:0<=i)(h1:i<26):aT i∈kSL.cps.toList:=by
 have h:∀j:Nat,j<26->aT (j:Int)∈kSL.cps.toList:=by decide+kernel
 obtain⟨j,rfl⟩:=Mw h0;exact h j (by lia)
theorem Ee:∀x∈kSM.cps.toList,x∈kNS.cps.toList:=by decide+kernel
theorem uV (s:Str)(i:Int)(h0:0<=i)(h1:i<s.cps.toList.length):aE s i∈s.cps.toList:=by
 obtain⟨v,hv,MX⟩:=fg (xs:=s.cps.toList) h0 h1;unfold aE;rw[IG,MX];exact HX MX
theorem oi (l:List Nat):(eh l).cps.toList=l:=by simp [eh]
theorem qE {l:List Nat}{S:Str}{m:Int}(h1:1<=l.length)(h2:(l.length:Int)<=m)(h3:∀c∈l,c∈S.cps.toList):K5 (eh l) S m=true:=by
 unfold K5 dN;rw[eK,oi,IA (by lia),IA h2,NS,NS,IH];exact λc hc=>IA (h3 c hc)
theorem zE {S:Str}{c at_:Int}{n k:Nat}(hS:S=kSL\/(S=kSM/\0<at_))(h0:0<=at_)(hn:1<=n)(h15:n<=24):Q9 (nL S c at_ n k)=true:=by
 have key:∀j:Nat,(if(j:Int)=at_ then aE S ((c/240+5*(k:Int)) % (S.length:Int)) else aT ((c/240+3*(j:Int)) % 26))∈kNS.cps.toList/\(j=0->(if(j:Int)=at_ then aE S ((c/240+5*(k:Int)) % (S.length:Int)) else aT ((c/240+3*(j:Int)) % 26))∈kSL.cps.toList):=λj=>by
  have hl:aT ((c/240+3*(j:Int)) % 26)∈kSL.cps.toList:=xq _ (by lia) (by lia);by_cases e:(j:Int)=at_
  .rw[if_pos e];rcases hS with rfl|⟨rfl,hp⟩
   .have z:aE kSL ((c/240+5*(k:Int)) % (kSL.length:Int))∈kSL.cps.toList:=uV _ _ (Jg _ (by decide+kernel)) (by
     have:=Jb (c/240+5*(k:Int)) (show(0:Int)<(kSL.length:Int) by decide+kernel);rw[show(kSL.cps.toList.length:Int)=(kSL.length:Int) by decide+kernel];exact this)
    exact⟨wj _ z,λ_=>z⟩
   .have z:aE kSM ((c/240+5*(k:Int)) % (kSM.length:Int))∈kSM.cps.toList:=uV _ _ (Jg _ (by decide+kernel)) (by
     have:=Jb (c/240+5*(k:Int)) (show(0:Int)<(kSM.length:Int) by decide+kernel);rw[show(kSM.cps.toList.length:Int)=(kSM.length:Int) by decide+kernel];exact this)
    exact⟨Ee _ z,λh=>by lia⟩
  .rw[if_neg e];exact⟨wj _ hl,λ_=>hl⟩
 unfold Q9;rw[Io];refine⟨qE (by rw[bX];exact hn) (by rw[bX];lia) λx hx=>?_,?_⟩
 .obtain⟨j,_,rfl⟩:=HP.mp hx;exact(key j).1
 .unfold FC nL;rw[oi,Ii];obtain⟨m,rfl⟩:∃m,n=m+1:=⟨n -1,by lia⟩
  unfold cx;rw[Lm,IP];exact(key 0).2 rfl
abbrev dG (P:Program)(w:World)(K:Qc)(mg:Str->Option Value)(base:Heap):Prop:=K3 P w K mg base B8 1 "_law_names" ["_law_cell","_law_many"] [] (cD K)
theorem jw {f:Addr}{fd:FuncData}(T:Txt K mg)(F:Fun K "_law_names" "_law_names" Z9 f fd):A1 P w K mg base B8 1 f fd ["_law_cell","_law_many"] (cD K):=by
 refine F.ok sc__law_names (λvs H Q E h=>?_) (λd_ A outer s H vs Q E hr h=>?_)
 .obtain⟨c,rfl,_⟩:=h;rfl
 .obtain⟨c,rfl,h0,k⟩:=h;have hN:=sc__law_names.nd;have hu:=u6 hr;refine⟨_,QSs.r (u7 (j8 (i:=2) hN rfl (by walk_at "l") fP)
   (u7 (j8 (i:=3) hN rfl (by walk_at "l") (B6 (G0 K) d8 (B6 q8 (qV 0) d8)))
   (u7 (j8 (i:=4) hN rfl (by walk_at "l") (B6 q8 (B6 F2 (qV 0) d8) (qV 3)))
   (u7 (j8 (i:=5) hN rfl (by walk_at "l") (qV 2))
   (u7 (aU (u4 qz (qV 4) d8 (p8 _)) (B0 (j8 (i:=5) hN rfl (by walk_at "l") (B6 (G0 K) (qV 2) fP))) ck)
   (u7 (j8 (i:=6) hN rfl (by walk_at "l") (bR j6))
   (u7 (P2 IK rfl (eX T.b_range (i9 (qV 1) j6)) (G1 (i:=7) hN rfl (by walk_at "l"))
    (u7 (j8 (i:=8) hN rfl (by walk_at "l") fP)
   (u7 (P2 IK rfl (eX T.b_range (i9 (qV 3) j6)) (G1 (i:=9) hN rfl (by walk_at "l"))
    (B0 (aU (u4 (G8 K hr) (qV 9) (qV 4) (p8 _)) (B0 (j8 (i:=8) hN rfl (by walk_at "l") (B6 (G0 K) (qV 8) (k7 (k8 K hu) (qV 5) (B6 q8 (B6 (G0 K) (B6 F2 (qV 0) d8) (B6 op_mulY d8 (qV 7))) (qB (C8 K P w) T.b_len Boot.«len» (i9 (qV 5) j6))) (λ_ _=>rfl))))) (B0 (j8 (i:=8) hN rfl (by walk_at "l") (B6 (G0 K) (qV 8) (k7 (k8 K hu) (qV 2) (B6 q8 (B6 (G0 K) (B6 F2 (qV 0) d8) (B6 op_mulY d8 (qV 9))) d8) (λ_ _=>rfl))))))))
   (B0 (oP (qM IT IZ Ja z8 K (qV 6) (i9 (qV 8) j6)))))))
   (B0 (A0 (qV 6)))))))))),?_⟩
  refine M8 ?_;walk_at "e";refine M8 ?_;walk_at "e";refine M8 ?_;walk_at "e";refine M8 ?_;walk_at "e";have Nb:0<=c/15 % (1+c % 15):=Jg _ (by lia);have Pk:c/15 % (1+c % 15)<1+c % 15:=Jb _ (by lia);generalize Tt:c/15 % (1+c % 15)=at_ at Nb Pk⊢;refine zU (λσ H'=>H'=H/\∃S,(S=kSL\/(S=kSM/\0<at_))/\σ=[some (.int c),some (.int 12),some (.str kSL),some (.int (1+c % 15)),some (.int at_),some (.str S),none,none,none,none]) ?_ ?_
  .rintro σ H0 ⟨rfl,S,hS',rfl⟩;have hS:S=kSL\/S=kSM:=hS'.imp_right (·.1);have hSl:S.cps.toList.length=S.length:=by show _=S.cps.size;simp
   have hSz:0<S.length/\S.length<=37:=by rcases hS with rfl|rfl<;>decide+kernel
   refine M8 ?_;walk_at "e";refine⟨d9 (by simp),λlo no=>?_⟩;obtain⟨H1,e1,f1,m1,_⟩:=b0 (o:= .lst _) no;rw[e1];walk_at "e";refine M8 ?_;walk_at "e";refine G5 (by lia) (by lia) ?_;refine Q3 (n:=12) (λi σ H'=>(∃v1 v2 v3,σ=[some (.int c),some (.int 12),some (.str kSL),some (.int (1+c % 15)),some (.int at_),some (.str S),some (.ref lo),v1,v2,v3])/\Same H0 H'/\H' lo=some (.lst (((List.range i).map (nL S c at_ (1+c % 15).toNat)).map V.str)))
    ⟨⟨_,_,_,rfl⟩,m1,f1⟩ (λi σ H' hi _=>by exact hi) ?_ ?_
   .rintro i v σ H2' H2 hi ⟨⟨v1,v2,v3,rfl⟩,s2,g2⟩ ⟨rfl,rfl⟩;refine M8 ?_;walk_at "e";refine M8 ?_;walk_at "e";refine G5 (by lia) (by lia) ?_;refine Q3 (n:=(1+c % 15).toNat) (λj σ H'=>(∃v3,σ=[some (.int c),some (.int 12),some (.str kSL),some (.int (1+c % 15)),some (.int at_),some (.str S),some (.ref lo),some (.int (0+(i:Int))),some (.str (eh (cx S c at_ i j))),v3])/\H'=H2)
     ⟨⟨_,rfl⟩,rfl⟩ (λi σ H' hi _=>by exact hi) ?_ ?_
    .rintro j v σ H3 H4 hj ⟨⟨v3,rfl⟩,rfl⟩ ⟨rfl,rfl⟩;have PF:=eK (cx S c at_ i j);rw[bX] at PF;walk_at "e";refine C4 (λhb=>?_) (λhb=>?_)
     .walk_at "e";refine C5 (fQ (d9 (by lia)) ?_);walk_at "e";have q0:0<=(c/240+5*(0+(i:Int))) % (S.length:Int):=Jg _ (by lia);have q1:(c/240+5*(0+(i:Int))) % (S.length:Int)<(S.length:Int):=Jb _ (by lia);refine bM (d9 (by lia)) (CI S _ q0 (by rw[hSl];exact q1)) ?_;refine N3 (j:=⟨#[aE S ((c/240+5*(0+(i:Int))) % (S.length:Int))]⟩) (d9 (by rw[dU];lia)) ?_;walk_at "e";refine⟨⟨some (.int (0+(j:Int))),?_⟩,rfl⟩;rw[iy,if_pos (by lia),←fU,JI];rfl
     .walk_at "e";refine bM fL (qo ((c/240+3*(0+(j:Int))) % 26) (by lia) (by lia)) ?_;refine N3 (j:=⟨#[aT ((c/240+3*(0+(j:Int))) % 26)]⟩) (d9 (by rw[dU];lia)) ?_;walk_at "e";refine⟨⟨some (.int (0+(j:Int))),?_⟩,rfl⟩;rw[iy,if_neg (by lia),←fU,JI (j:Int)];rfl
    .rintro σ H3 ⟨⟨v3,rfl⟩,rfl⟩;refine⟨HJ _,?_⟩;walk_at "e";refine⟨.inl ⟨rfl,_,SqL.of g2⟩,?_⟩;walk_at "e";refine⟨lo,_,_,rfl,rfl,g2,cg (by rw[HI,HI,Ke];lia),?_⟩;refine⟨⟨_,_,_,rfl⟩,A3 s2 no,?_⟩;rw[b9,JZ,HL,HL];rfl
   .rintro σ H2 ⟨⟨v1,v2,v3,rfl⟩,s2,g2⟩;refine⟨HJ _,?_⟩;walk_at "e";refine k lo H2 _ no s2 g2 ⟨by rw[HI,Ke],zN hS Nb (by lia) (by lia),⟨(1+c % 15).toNat,by lia,λs hs=>?_⟩,λs hs=>?_⟩
    .obtain⟨i,_,rfl⟩:=HP.mp hs;unfold nL;rw[eK,bX]
    .obtain⟨i,_,rfl⟩:=HP.mp hs;exact zE hS' Nb (by lia) (by lia)
  .intro nx hn;walk_at "e";refine C4 (λh=>?_) (λh=>?_)
   .walk_at "e";refine N3 (by decide+kernel) ?_;walk_at "e";exact hn _ _ ⟨rfl,kSM,.inr ⟨rfl,h⟩,rfl⟩
   .walk_at "e";exact hn _ _ ⟨rfl,kSL,.inl rfl,rfl⟩
def dW (c at_:Int)(k i:Nat):List Nat:=(List.range i).map λj:Nat=>aT ((c/64+3*(j:Int)+5*(k:Int)*(if(j:Int)=at_ then 1 else 0)) % 26)
theorem qw (c at_:Int)(k i:Nat):dW c at_ k (i+1)=dW c at_ k i++[aT ((c/64+3*(i:Int)+5*(k:Int)*(if(i:Int)=at_ then 1 else 0)) % 26)]:=by
 unfold dW;rw[JZ,HL];rfl
theorem fO (c at_:Int)(k i:Nat):(dW c at_ k i).length=i:=by
 unfold dW;rw[HI,Ke]
def wc (c at_:Int)(n k:Nat):Str:=eh (dW c at_ k n)
theorem yS {c at_:Int}{n:Nat}(h0:0<=at_)(h1:at_<n):((List.range 10).map (wc c at_ n)).Nodup:=ji λi j hi hj e=>by
 have z:=nV e;have z2:=Jm (λl=>l[at_.toNat]?) z;unfold dW at z2;simp only[HK,NI (show at_.toNat<n by lia),JY,Mp] at z2;rw[if_pos (by lia)] at z2;generalize c/64+3*((at_.toNat:Nat):Int)=y at z2;have e1:(y+5*(i:Int)*1) % 26=(((y+5*(i:Int)*1) % 26).toNat:Int):=by lia
 have e2:(y+5*(j:Int)*1) % 26=(((y+5*(j:Int)*1) % 26).toNat:Int):=by lia
 rw[e1,e2] at z2;have z3:=wO _ _ (by lia) (by lia) z2;lia
theorem zj {c at_:Int}{n k:Nat}(hn:1<=n)(h8:n<=8):Z0 (wc c at_ n k)=true:=qE (by rw[fO];exact hn) (by rw[fO];lia) λx hx=>by
 obtain⟨j,_,rfl⟩:=HP.mp hx;exact xq _ (by lia) (by lia)
abbrev ez (P:Program)(w:World)(K:Qc)(mg:Str->Option Value)(base:Heap):Prop:=K3 P w K mg base B8 1 "_law_words" ["_law_cell","_law_many"] [] (cE K)
theorem jG {f:Addr}{fd:FuncData}(T:Txt K mg)(F:Fun K "_law_words" "_law_words" az f fd):A1 P w K mg base B8 1 f fd ["_law_cell","_law_many"] (cE K):=by
 refine F.ok sc__law_words (λvs H Q E h=>?_) (λd_ A outer s H vs Q E hr h=>?_)
 .obtain⟨c,rfl,_⟩:=h;rfl
 .obtain⟨c,rfl,h0,k⟩:=h;have hN:=sc__law_words.nd;have hu:=u6 hr;refine⟨_,QSs.r (u7 (j8 (i:=2) hN rfl (by walk_at "l") fP)
   (u7 (j8 (i:=3) hN rfl (by walk_at "l") (B6 (G0 K) d8 (B6 q8 (qV 0) d8)))
   (u7 (j8 (i:=4) hN rfl (by walk_at "l") (B6 q8 (B6 F2 (qV 0) d8) (qV 3)))
   (u7 (j8 (i:=5) hN rfl (by walk_at "l") (bR j6))
   (u7 (P2 IK rfl (eX T.b_range (i9 (qV 1) j6)) (G1 (i:=6) hN rfl (by walk_at "l"))
    (u7 (j8 (i:=7) hN rfl (by walk_at "l") fP)
   (u7 (P2 IK rfl (eX T.b_range (i9 (qV 3) j6)) (G1 (i:=8) hN rfl (by walk_at "l"))
    (u7 (j8 (i:=9) hN rfl (by walk_at "l") (B6 (G0 K) (B6 (G0 K) (B6 F2 (qV 0) d8) (B6 op_mulY d8 (qV 8))) (B6 op_mulY (B6 op_mulY d8 (qV 6)) (fu kG T.b_int Boot.«int» (i9 (dy (G8 K hr) (qV 8) (qV 4) (p8 _)) j6)))))
   (B0 (j8 (i:=7) hN rfl (by walk_at "l") (B6 (G0 K) (qV 7) (k7 (k8 K hu) (qV 2) (B6 q8 (qV 9) d8) (λ_ _=>rfl)))))))
   (B0 (oP (qM IT IZ Ja z8 K (qV 5) (i9 (qV 7) j6)))))))
   (B0 (A0 (qV 5)))))))),?_⟩
  walk_at "r";have Nb:0<=c/8 % (1+c % 8):=Jg _ (by lia);have Pk:c/8 % (1+c % 8)<1+c % 8:=Jb _ (by lia);generalize Tt:c/8 % (1+c % 8)=at_ at Nb Pk⊢;refine⟨d9 (by simp),λlo no=>?_⟩;obtain⟨H1,e1,f1,m1,_⟩:=b0 (o:= .lst _) no;rw[e1];walk_at "r";refine G5 (by lia) (by lia) ?_;refine Q3 (n:=10) (λi σ H'=>(∃v1 v2 v3 v4,σ=[some (.int c),some (.int 10),some (.str kSL),some (.int (1+c % 8)),some (.int at_),some (.ref lo),v1,v2,v3,v4])/\Same H H'/\H' lo=some (.lst (((List.range i).map (wc c at_ (1+c % 8).toNat)).map V.str)))
   ⟨⟨_,_,_,_,rfl⟩,m1,f1⟩ (λi σ H' hi _=>by exact hi) ?_ ?_
  .rintro i v σ H2' H2 hi ⟨⟨v1,v2,v3,v4,rfl⟩,s2,g2⟩ ⟨rfl,rfl⟩;walk_at "r";refine G5 (by lia) (by lia) ?_;refine Q3 (n:=(1+c % 8).toNat) (λj σ H'=>(∃v3 v4,σ=[some (.int c),some (.int 10),some (.str kSL),some (.int (1+c % 8)),some (.int at_),some (.ref lo),some (.int (0+(i:Int))),some (.str (eh (dW c at_ i j))),v3,v4])/\H'=H2)
    ⟨⟨_,_,rfl⟩,rfl⟩ (λi σ H' hi _=>by exact hi) ?_ ?_
   .rintro j v σ H3 H4 hj ⟨⟨v3,v4,rfl⟩,rfl⟩ ⟨rfl,rfl⟩;have PF:=eK (dW c at_ i j);rw[fO] at PF;walk_at "r";refine .inr ⟨_,rfl,?_⟩;generalize hm:(if decide (0+(j:Int)=at_)=true then(1:Int) else 0)=m;have hm0:0<=m/\m<=1:=by subst hm;split<;>lia
    have TV:(if(j:Int)=at_ then(1:Int) else 0)=m:=by rw[←hm,JI];simp
    walk_at "r";refine bM fL (qo ((c/64+3*(0+(j:Int))+5*(0+(i:Int))*m) % 26) (by lia) (by lia)) ?_;refine N3 (j:=⟨#[aT ((c/64+3*(0+(j:Int))+5*(0+(i:Int))*m) % 26)]⟩) (d9 (by rw[dU];lia)) ?_;walk_at "r";refine⟨⟨some (.int (0+(j:Int))),some (.int (c/64+3*(0+(j:Int))+5*(0+(i:Int))*m)),?_⟩,rfl⟩;rw[qw,TV,←fU,JI (j:Int),JI (i:Int)];rfl
   .rintro σ H3 ⟨⟨v3,v4,rfl⟩,rfl⟩;refine⟨HJ _,?_⟩;walk_at "r";refine⟨.inl ⟨rfl,_,SqL.of g2⟩,?_⟩;walk_at "r";refine⟨lo,_,_,rfl,rfl,g2,cg (by rw[HI,HI,Ke];lia),?_⟩;refine⟨⟨_,_,_,_,rfl⟩,A3 s2 no,?_⟩;rw[b9,JZ,HL,HL];rfl
  .rintro σ H2 ⟨⟨v1,v2,v3,v4,rfl⟩,s2,g2⟩;refine⟨HJ _,?_⟩;walk_at "r";refine k lo H2 _ no s2 g2 ⟨by rw[HI,Ke],yS Nb (by lia),λs hs=>?_⟩;obtain⟨i,_,rfl⟩:=HP.mp hs;exact zj (by lia) (by lia)
structure yC (ds:List Int):Prop where
 len:ds.length=28
 d:∀x∈ds,0<=x/\x<7
def bP (K:Qc):Sp:=λvs H Q _=>∃c:Int,vs=[.int c,.int 28]/\0<=c/\c<10 ^ 62/\∀(p:Addr) (H':Hp) (ds:List Int),H p=none->Same H H'->H' p=some (.lst (ds.map V.int))->yC ds->Q (.ref p) H'
abbrev cQ (P:Program)(w:World)(K:Qc)(mg:Str->Option Value)(base:Heap):Prop:=K3 P w K mg base B8 1 "_law_digits" ["_law_cell","_law_many"] [] (bP K)
theorem jm {f:Addr}{fd:FuncData}(T:Txt K mg)(F:Fun K "_law_digits" "_law_digits" W5 f fd):A1 P w K mg base B8 1 f fd ["_law_cell","_law_many"] (bP K):=by
 refine F.ok sc__law_digits (λvs H Q E h=>?_) (λd_ A outer s H vs Q E hr h=>?_)
 .obtain⟨c,rfl,_⟩:=h;rfl
 .obtain⟨c,rfl,h0,h1,k⟩:=h;have hN:=sc__law_digits.nd;have hu:=u6 hr;refine⟨_,QSs.r (u7 (j8 (i:=2) hN rfl (by walk_at "l") (B6 q8 (B6 yZ (B6 (G0 K) (qV 0) d8) (B6 mO d8 d8)) (B6 (G0 K) (B6 mO d8 d8) d8)))
   (u7 (j8 (i:=3) hN rfl (by walk_at "l") (bR j6))
   (u7 (P2 IK rfl (eX T.b_range (i9 (qV 1) j6)) (G1 (i:=4) hN rfl (by walk_at "l"))
    (u7 (oP (qM IT IZ Ja z8 K (qV 3) (i9 (B6 q8 (qV 2) d8) j6)))
   (B0 (j8 (i:=2) hN rfl (by walk_at "l") (B6 F2 (qV 2) d8)))))
   (B0 (A0 (qV 3)))))),?_⟩
  walk_at "r";refine BA (yB ?_ (by decide+kernel)) ?_
  .have h2:(10:Int) ^ 62+3<2 ^ 1000:=by decide+kernel
   have h3:((c+3).natAbs:Int)<((2 ^ 1000:Nat):Int):=by
    rw[Int.natAbs_of_nonneg (by lia)];exact OB (Int.add_lt_add_right h1 3) h2
   exact Int.ofNat_lt.mp h3
  walk_at "r";try refine GX (by decide+kernel) ?_
  have q0:0<=(c+3)*982451653 ^ Int.toNat 3 % (10 ^ Int.toNat 40+121):=Jg _ (by decide+kernel);generalize (c+3)*982451653 ^ Int.toNat 3 % (10 ^ Int.toNat 40+121)=m0 at q0⊢;walk_at "r";refine⟨d9 (by simp),λlo no=>?_⟩;obtain⟨H1,e1,f1,m1,_⟩:=b0 (o:= .lst _) no;rw[e1];walk_at "r";refine G5 (by lia) (by lia) ?_;refine Q3 (n:=28) (λi σ H'=>(∃(m:Int) (v:Option V),σ=[some (.int c),some (.int 28),some (.int m),some (.ref lo),v]/\0<=m)/\Same H H'/\∃ds:List Int,H' lo=some (.lst (ds.map V.int))/\ds.length=i/\∀x∈ds,0<=x/\x<7)
   ⟨⟨_,_,rfl,q0⟩,m1,[],f1,rfl,λ_ h=>nomatch h⟩ (λi σ H' hi _=>by exact hi) ?_ ?_
  .rintro i v σ H2' H2 hi ⟨⟨m,v',rfl,hm⟩,s2,ds,g2,hl,hx⟩ ⟨rfl,rfl⟩;walk_at "r";refine⟨.inl ⟨rfl,_,SqL.of g2⟩,?_⟩;walk_at "r";refine⟨lo,_,_,rfl,rfl,g2,cg (by rw[HI];lia),?_⟩;walk_at "r";refine⟨⟨m/7,_,rfl,by lia⟩,A3 s2 no,ds++[m % 7],?_,by rw[HQ,hl];rfl,λx q_=>?_⟩
   .rw[b9,HL];rfl
   .rcases Ic.mp q_ with z|z
    .exact hx x z
    .rw[Ih.mp z];lia
  .rintro σ H2 ⟨⟨m,v',rfl,hm⟩,s2,ds,g2,hl,hx⟩;refine⟨HJ _,?_⟩;walk_at "r";exact k lo H2 ds no s2 g2 ⟨hl,hx⟩
def gm (K:Qc):Sp:=λvs H Q _=>∃(a b c:Addr) (cs:List Int) (ss ks:List Str),vs=[.ref a,.ref b,.ref c]/\SqL K H a (cs.map V.int)/\SqL K H b (ss.map V.str)/\SqL K H c (ks.map V.str)/\cs.length<=7/\ss.length=12/\ks.length=2/\ss.Nodup/\(∀s∈ss,s.length<=100)/\∀(a p q:Addr) (kvs:List (j3×V)) (W:A6) (H':Hp),Same H H'->WebIs 7 K H' a p q kvs W->(∀n∈h9 W,n∈ss.take 7)->Q (.ref a) H'
theorem sP {α:Type}{l:List α}{i j:Nat}{x:α}(h:i<=j)(hx:x∈l.take i):x∈l.take j:=by
 rw[show l.take i=(l.take j).take i by rw[List.take_take,Lj h]] at hx;exact LD hx
abbrev iL (P:Program)(w:World)(K:Qc)(mg:Str->Option Value)(base:Heap):Prop:=K3 P w K mg base B8 1 "_law_web" ["_law_cells_here","_law_names_here","_law_kinds_here"] [] (gm K)
theorem og {f:Addr}{fd:FuncData}(T:Txt K mg)(F:Fun K "_law_web" "_law_web" dq f fd):A1 P w K mg base B8 1 f fd ["_law_cells_here","_law_names_here","_law_kinds_here"] (gm K):=by
 refine F.ok sc__law_web (λvs H Q E h=>?_) (λd_ A outer s H vs Q E hr h=>?_)
 .obtain⟨a,b,c,cs,ss,ks,rfl,_⟩:=h;rfl
 .obtain⟨a,b,c,cs,ss,ks,rfl,hA,hB,hC,hn,hl,hk,NO,Sl,k⟩:=h;have hN:=sc__law_web.nd;have hu:=u6 hr;refine⟨_,QSs.r (u7 (j8 (i:=3) hN rfl (by walk_at "l") uH)
   (u7 (j8 (i:=4) hN rfl (by walk_at "l") uH)
   (u7 (P2 IK rfl (eX T.b_range (i9 (qB (C8 K P w) T.b_len Boot.«len» (i9 (qV 0) j6)) j6)) (G1 (i:=5) hN rfl (by walk_at "l"))
    (u7 (j8 (i:=6) hN rfl (by walk_at "l") (k7 (k8 K hu) (qV 0) (qV 5) (λ_ _=>rfl)))
   (u7 (j8 (i:=7) hN rfl (by walk_at "l") (qB (F4 K rfl) T.b_sorted Boot.«sorted» (i9 (qV 3) j6)))
   (B0 (aU (pJ (lB (u4 (G8 K hr) (qB (C8 K P w) T.b_len Boot.«len» (i9 (qV 7) j6)) d8 (p8 _)) (iC (pJ (cM (u4 de (B6 q8 (qV 6) d8) d8 (p8 _)) (bF (u4 de (qB (C8 K P w) T.b_len Boot.«len» (i9 (qV 7) j6)) d8 (p8 _)))))))) (B0 (aw (k7 (k8 K hu) (qV 2) (B6 F2 (B6 q8 (B6 F2 (qV 6) d8) d8) d8) (λ_ _=>rfl)) (lV (qV 3) (k7 (k8 K hu) (qV 1) (qV 5) (λ_ _=>rfl)) (z9 P w hu)))) (B0 (aU (u4 de (qB (C8 K P w) T.b_len Boot.«len» (i9 (qV 4) j6)) d8 (p8 _)) (u7 (j8 (i:=8) hN rfl (by walk_at "l") (k7 (k8 K hu) (qV 7) (B6 q8 (B6 F2 (qV 6) d8) (qB (C8 K P w) T.b_len Boot.«len» (i9 (qV 7) j6))) (λ_ _=>rfl)))
   (B0 (aw (G3 (i9 (k7 (k8 K hu) (qV 2) (B6 F2 (B6 q8 (B6 F2 (qV 6) d8) d8) d8) (λ_ _=>rfl)) (i9 (qV 8) (i9 (k7 (k8 K hu) (qV 7) (B6 q8 (B6 F2 (qV 6) d8) (qB (C8 K P w) T.b_len Boot.«len» (i9 (qV 7) j6))) (λ_ _=>rfl)) j6)))) (lV (qV 4) (k7 (k8 K hu) (qV 1) (qV 5) (λ_ _=>rfl)) (z9 P w hu))))) ck)))))))
   (B0 (A0 (G3 (i9 (qV 3) (i9 (qV 4) j6)))))))),?_⟩
  walk_at "r";intro p np;obtain⟨H1,e1,f1,m1,o1⟩:=b0 (o:= .dK []) np;rw[e1];walk_at "r";intro q nq;obtain⟨H2,e2,f2,m2,o2⟩:=b0 (o:= .dK []) nq;rw[e2];have F':p≠q:=λz=>by rw[←z,f1] at nq;cases nq
  have Rh:H q=none:=m1.free nq;walk_at "r";refine C5 (x5 ((m1.trans m2).seq hA) ?_);rw[HI];refine G5 (by lia) (by lia) ?_;refine Q3 (n:=cs.length) (λi σ H'=>∃(pts:List (Str×Str)) (kvs:List (j3×V)) (ts:List (Str×F0)) (v1 v2 v3 v4:Option V),σ=[some (.ref a),some (.ref b),some (.ref c),some (.ref p),some (.ref q),v1,v2,v3,v4]/\Same H H'/\H' p=some (.dK (j4 pts))/\H' q=some (.dK kvs)/\TiesIs K H' kvs ts/\(pts.map (·.1)++ts.map (·.1)).Nodup/\(∀x∈pts.map (·.1)++ts.map (·.1),x∈ss.take i)/\(pts.length+ts.length<=i)/\∀x∈ts,x.2.2.1∈pts.map (·.1)/\x.2.2.2∈pts.map (·.1))
   ⟨[],[],[],_,_,_,_,rfl,m1.trans m2,m2 _ _ f1,f2,.nil,JG,(λ_ h=>nomatch h),HJ _,λ_ h=>nomatch h⟩ (λi σ H' hi _=>by show i<_;lia) ?_ ?_
  .rintro i v σ H3' H3 hi ⟨pts,kvs,ts,v1,v2,v3,v4,rfl,s3,g3,t3,w3,d1,d2,l1,l2⟩ ⟨rfl,rfl⟩;obtain⟨nm,Vj,Xc⟩:∃nm,(ss.map V.str)[i]?=some (.str nm)/\ss[i]?=some nm:=⟨ss[i],by rw[HK,HH (by lia)];rfl,HH (by lia)⟩
   have hci:(cs.map V.int)[i]?=some (.int cs[i]):=by rw[HK,HH hi];rfl
   have e7:ss.take (i+1)=ss.take i++[nm]:=by rw[IE,Xc];rfl
   have nin:nm∉ss.take i:=λm=>by
    have z:(ss.take (i+1)).Nodup:=NO.sublist (JL _ _);rw[e7] at z;exact(Iu.mp z).2.2 nm m nm (by simp) rfl
   have fresh:nm∉pts.map (·.1)++ts.map (·.1):=λm=>nin (d2 nm m);have OH:∀x∈pts.map (·.1)++ts.map (·.1),x∈ss.take (i+1):=λx hx=>by rw[e7];exact HU _ (d2 x hx)
   walk_at "r";refine i6 (xs:=cs.map V.int) (s3.seq hA) (i:=0+(i:Int)) (by rw[JI];exact b4 (j:=i) hci) ?_;walk_at "r";refine z6 (ss:=pts.map (·.1)) (.inl g3) (by rw[B5,r6]) (by rw[HI];lia) (λs1 a1 a2 l1' n1=>?_);obtain⟨H6,e6,f6,m6,_⟩:=b0 (o:= .lst _) n1;rw[e6];have s6:=s3.trans m6;have g6:=m6 _ _ g3;have t6:=m6 _ _ t3;have w6:=w3.mono m6.le;have u_:=a1.length_eq;rw[HI] at u_;walk_at "r";refine C5 (x5 (SqL.of f6) ?_);rw[HI,u_];walk_at "r";refine C4 (λhz=>?_) (λhz=>?_)
   .walk_at "r";obtain⟨kd,Ng,_⟩:=A9 (ss:=ks) (i:=cs[i]/5 % 3/2) (by lia) (by lia);refine i6 (s6.seq hC) Ng ?_;walk_at "r";refine i6 (xs:=ss.map V.str) (s6.seq hB) (i:=0+(i:Int)) (by rw[JI];exact b4 (j:=i) Vj) ?_;refine G9 (x6 (k:=Sum.inr nm) g6 (d9 (by unfold j4;rw[HI];lia)) ?_);have ep:D0 (j4 pts) (Sum.inr nm:j3) (.str kd)=j4 (pts++[(nm,kd)]):=by
     rw[E6 _ (D5 (by rw[B5,←r6];exact λm=>fresh (HU _ (K7 m))))];unfold j4;rw[HL];rfl
    refine⟨pts++[(nm,kd)],kvs,ts,_,_,_,_,rfl,A3 s6 np,by rw[b9,ep],by rw[b7 (JC F')];exact t6,Paired.imp' (λ_ _ z=>Z8 g6 z) w6,vz d1 fresh,si OH (by rw[e7];simp),by rw[HQ,Il];lia,λx hx=>?_⟩;rw[HL];exact⟨HU _ (l2 x hx).1,HU _ (l2 x hx).2⟩
   .walk_at "r";refine C4 (λh3=>?_) (λh3=>?_)
    .walk_at "r";refine C5 (x5 (SqL.of f6) ?_);rw[HI,u_];walk_at "r";refine C4 (λh4=>?_) (λh4=>?_)
     .walk_at "r";obtain⟨kd,Ng,_⟩:=A9 (ss:=ks) (i:=cs[i]/5 % 3/2) (by lia) (by lia);refine i6 (s6.seq hC) Ng ?_;walk_at "r";refine i6 (xs:=ss.map V.str) (s6.seq hB) (i:=0+(i:Int)) (by rw[JI];exact b4 (j:=i) Vj) ?_;refine G9 (x6 (k:=Sum.inr nm) g6 (d9 (by unfold j4;rw[HI];lia)) ?_);have ep:D0 (j4 pts) (Sum.inr nm:j3) (.str kd)=j4 (pts++[(nm,kd)]):=by
       rw[E6 _ (D5 (by rw[B5,←r6];exact λm=>fresh (HU _ (K7 m))))];unfold j4;rw[HL];rfl
      refine⟨pts++[(nm,kd)],kvs,ts,_,_,_,_,rfl,A3 s6 np,by rw[b9,ep],by rw[b7 (JC F')];exact t6,Paired.imp' (λ_ _ z=>Z8 g6 z) w6,vz d1 fresh,si OH (by rw[e7];simp),by rw[HQ,Il];lia,λx hx=>?_⟩;rw[HL];exact⟨HU _ (l2 x hx).1,HU _ (l2 x hx).2⟩
     .have Pe:0<pts.length:=by lia
      walk_at "r";refine C5 (G4 (.inl t6) ?_);walk_at "r";refine C4 (λh5=>?_) (λh5=>?_)
      .walk_at "r";refine C5 (x5 (SqL.of f6) ?_);rw[HI,u_];walk_at "r";obtain⟨o1,Pd,TV⟩:=A9 (ss:=s1) (i:=cs[i]/15 % (pts.length:Int)) (Jg _ (by lia)) (by rw[u_];exact Jb _ (by lia));refine i6 (SqL.of f6) Pd ?_;walk_at "r";obtain⟨kd,Ng,_⟩:=A9 (ss:=ks) (i:=cs[i]/5 % 3/2) (by lia) (by lia);refine i6 (s6.seq hC) Ng ?_;walk_at "r";refine C5 (x5 (SqL.of f6) ?_);rw[HI,u_];walk_at "r";obtain⟨o2,OM,Xd⟩:=A9 (ss:=s1) (i:=cs[i]/150 % (pts.length:Int)) (Jg _ (by lia)) (by rw[u_];exact Jb _ (by lia));refine i6 (SqL.of f6) OM ?_;walk_at "r";refine⟨d9 (by simp),λl9 n9=>?_⟩;obtain⟨H9,e9,f9,m9,_⟩:=b0 (o:= .tup _) n9;rw[e9];have s9:=s6.trans m9;have g9:=m9 _ _ g6;have t9:=m9 _ _ t6;have w9:=w6.mono m9.le;walk_at "r";refine i6 (xs:=ss.map V.str) (s9.seq hB) (i:=0+(i:Int)) (by rw[JI];exact b4 (j:=i) Vj) ?_;refine G9 (x6 (k:=Sum.inr nm) t9 (d9 (by have z:=w9.length;lia)) ?_);have ek:D0 kvs (Sum.inr nm:j3) (.ref l9)=kvs++[(Sum.inr nm,.ref l9)]:=E6 _ (D5 (by rw[w9.keys,←r6];exact λm=>fresh (Ia _ (K7 m))));refine⟨pts,_,ts++[(nm,(kd,o1,o2))],_,_,_,_,rfl,A3 s9 Rh,by rw[b7 F'];exact g9,b9,?_,vF d1 fresh,sh OH (by rw[e7];simp),by rw[HQ,Il];lia,λx hx=>?_⟩
       .rw[ek];exact p7 (Paired.imp' (λ_ _ z=>Z8 t9 z) w9) (Z8 t9 ⟨rfl,l9,rfl,SqT.of f9⟩)
       .rcases Ic.mp hx with h'|h'
        .exact l2 x h'
        .rw[Ih.mp h'];exact⟨a1.mem_iff.mp TV,a1.mem_iff.mp Xd⟩
      .walk_at "r";exact⟨pts,kvs,ts,_,_,_,_,rfl,s6,g6,t6,w6,d1,OH,by lia,l2⟩
    .have Pe:0<pts.length:=by lia
     walk_at "r";refine C5 (G4 (.inl t6) ?_);walk_at "r";refine C4 (λh5=>?_) (λh5=>?_)
     .walk_at "r";refine C5 (x5 (SqL.of f6) ?_);rw[HI,u_];walk_at "r";obtain⟨o1,Pd,TV⟩:=A9 (ss:=s1) (i:=cs[i]/15 % (pts.length:Int)) (Jg _ (by lia)) (by rw[u_];exact Jb _ (by lia));refine i6 (SqL.of f6) Pd ?_;walk_at "r";obtain⟨kd,Ng,_⟩:=A9 (ss:=ks) (i:=cs[i]/5 % 3/2) (by lia) (by lia);refine i6 (s6.seq hC) Ng ?_;walk_at "r";refine C5 (x5 (SqL.of f6) ?_);rw[HI,u_];walk_at "r";obtain⟨o2,OM,Xd⟩:=A9 (ss:=s1) (i:=cs[i]/150 % (pts.length:Int)) (Jg _ (by lia)) (by rw[u_];exact Jb _ (by lia));refine i6 (SqL.of f6) OM ?_;walk_at "r";refine⟨d9 (by simp),λl9 n9=>?_⟩;obtain⟨H9,e9,f9,m9,_⟩:=b0 (o:= .tup _) n9;rw[e9];have s9:=s6.trans m9;have g9:=m9 _ _ g6;have t9:=m9 _ _ t6;have w9:=w6.mono m9.le;walk_at "r";refine i6 (xs:=ss.map V.str) (s9.seq hB) (i:=0+(i:Int)) (by rw[JI];exact b4 (j:=i) Vj) ?_;refine G9 (x6 (k:=Sum.inr nm) t9 (d9 (by have z:=w9.length;lia)) ?_);have ek:D0 kvs (Sum.inr nm:j3) (.ref l9)=kvs++[(Sum.inr nm,.ref l9)]:=E6 _ (D5 (by rw[w9.keys,←r6];exact λm=>fresh (Ia _ (K7 m))));refine⟨pts,_,ts++[(nm,(kd,o1,o2))],_,_,_,_,rfl,A3 s9 Rh,by rw[b7 F'];exact g9,b9,?_,vF d1 fresh,sh OH (by rw[e7];simp),by rw[HQ,Il];lia,λx hx=>?_⟩
      .rw[ek];exact p7 (Paired.imp' (λ_ _ z=>Z8 t9 z) w9) (Z8 t9 ⟨rfl,l9,rfl,SqT.of f9⟩)
      .rcases Ic.mp hx with h'|h'
       .exact l2 x h'
       .rw[Ih.mp h'];exact⟨a1.mem_iff.mp TV,a1.mem_iff.mp Xd⟩
     .walk_at "r";exact⟨pts,kvs,ts,_,_,_,_,rfl,s6,g6,t6,w6,d1,OH,by lia,l2⟩
  .rintro σ H3 ⟨pts,kvs,ts,v1,v2,v3,v4,rfl,s3,g3,t3,w3,d1,d2,l1,l2⟩;refine⟨by show cs.length<=_;lia,?_⟩;walk_at "r";refine⟨d9 (by simp),λl9 n9=>?_⟩;obtain⟨H9,e9,f9,m9,_⟩:=b0 (o:= .tup _) n9;rw[e9];have hlen:=w3.length;have SK:cs.length<=7:=hn;exact k l9 p q kvs ⟨pts,ts⟩ H9 (s3.trans m9) ⟨⟨SqT.of f9,.inl (m9 _ _ g3),.inl (m9 _ _ t3),w3.mono m9.le⟩,m9 _ _ g3,m9 _ _ t3,F',d1,by show(pts.map (·.1)++ts.map (·.1)).length<=7;rw[HQ,HI,HI];lia,l2,λx hx=>Sl x (LD (d2 x hx))⟩ (λn hn=>sP SK (d2 n hn))
structure LfOk (ws:List Str) (L:A6):Prop where
 p:∃m,m<=3/\L.pts.map (·.1)=ws.take m
 t:∃j,j<=2/\L.ts.map (·.1)=(ws.drop 4).take j
def dJ (K:Qc):Sp:=λvs H Q _=>∃(a b c:Addr) (ds:List Int) (ws ks:List Str),vs=[.ref a,.ref b,.ref c]/\H a=some (.lst (ds.map V.int))/\H b=some (.lst (ws.map V.str))/\H c=some (.lst (ks.map V.str))/\yC ds/\cy ws/\ks.length=2/\∀(S:Sd) (H':Hp),Same H H'->SdIs K H' S->LfOk ws S.W->Q (.ref S.a) H'
theorem G6 {ds:List Int}(h:yC ds)(i:Int)(h0:0<=i)(h1:i<28):∃d:Int,jB (ds.map V.int) i=some (.int d)/\0<=d/\d<7:=by
 obtain⟨v,hv,MX⟩:=fg (xs:=ds.map V.int) h0 (by rw[HI,h.len];exact h1);rw[HK] at MX;obtain⟨x,hx,rfl⟩:=IL.mp MX;exact⟨x,hv,h.d x (HX hx)⟩
theorem ib {ws:List Str}(h:cy ws)(i:Nat)(hi:i<10):∃w,ws[i]?=some w/\∀j:Int,j=(i:Int)->jB (ws.map V.str) j=some (.str w):=
 ⟨ws[i]'(by rw[h.len];exact hi),HH (by rw[h.len];exact hi),λj e=>by
  subst e;exact b4 (by rw[HK,HH (by rw[h.len];exact hi)];rfl)⟩
theorem R8 {l:List Str}{i:Nat}{x:Str}(h:l[i]?=some x):l.take (i+1)=l.take i++[x]:=by rw[IE,h];rfl
theorem N9 {l:List Str}{i:Nat}{x:Str}(nd:l.Nodup)(h:l[i]?=some x):x∉l.take i:=λm=>by
 have z:(l.take (i+1)).Nodup:=nd.sublist (JL _ _);rw[R8 h] at z;exact(Iu.mp z).2.2 x m x (by simp) rfl
theorem zo {l:List Str}{m i:Nat}{x:Str}(hi:i<m)(h:l[i]?=some x):x∈l.take m:=HX (i:=i) (by rw[JV hi];exact h)
theorem bj {pts:List (Str×Str)}{n s:Str}(h:n∉pts.map (·.1)):D0 (j4 pts) (Sum.inr n:j3) (.str s)=j4 (pts++[(n,s)]):=by
 rw[E6 _ (D5 (by rw[B5,←r6];exact λm=>h (K7 m)))];unfold j4;rw[HL];rfl
theorem fS {H:Hp}{kL:List (j3×V)}{TL:List (Str×F0)}{n:Str}{t:F0}{l:Addr}(w:TiesIs K H kL TL)(h:n∉TL.map (·.1))(hl:SqT K H l (ba t)):TiesIs K H (D0 kL (Sum.inr n:j3) (.ref l)) (TL++[(n,t)]):=by
 rw[E6 _ (D5 (by rw[w.keys,←r6];exact λm=>h (K7 m)))];exact p7 w ⟨rfl,l,rfl,hl⟩
theorem As {ws:List Str}{m j:Nat}(hm:m<=4):(ws.take m++(ws.drop 4).take j).Sublist ws:=by
 have h1:(ws.take m).Sublist (ws.take 4):=by
  rw[show ws.take m=(ws.take 4).take m by rw[List.take_take,Lj hm]];exact JL _ _
 have z:=h1.append (JL j (ws.drop 4));rw[KA] at z;exact z
abbrev fV (P:Program)(w:World)(K:Qc)(mg:Str->Option Value)(base:Heap):Prop:=K3 P w K mg base B8 1 "_law_left" ["_law_digits_here","_law_words_here","_law_kinds_here"] [] (dJ K)
theorem mz {f:Addr}{fd:FuncData}(T:Txt K mg)(F:Fun K "_law_left" "_law_left" aZ f fd):A1 P w K mg base B8 1 f fd ["_law_digits_here","_law_words_here","_law_kinds_here"] (dJ K):=by
 refine F.ok sc__law_left (λvs H Q E h=>?_) (λd_ A outer s H vs Q E hr h=>?_)
 .obtain⟨a,b,c,ds,ws,ks,rfl,_⟩:=h;rfl
 .obtain⟨a,b,c,ds,ws,ks,rfl,hA,hB,hC,hD,hW,hk,k⟩:=h;have hN:=sc__law_left.nd;have hu:=u6 hr;refine⟨_,QSs.r (u7 (j8 (i:=3) hN rfl (by walk_at "l") uH)
   (u7 (j8 (i:=4) hN rfl (by walk_at "l") uH)
   (u7 (j8 (i:=5) hN rfl (by walk_at "l") (B6 q8 (k7 (k8 K hu) (qV 0) d8 (λ_ _=>rfl)) d8))
   (u7 (P2 IK rfl (eX T.b_range (i9 (qV 5) j6)) (G1 (i:=6) hN rfl (by walk_at "l"))
    (B0 (aw (k7 (k8 K hu) (qV 2) (B6 q8 (k7 (k8 K hu) (qV 0) (B6 (G0 K) d8 (qV 6)) (λ_ _=>rfl)) d8) (λ_ _=>rfl)) (lV (qV 3) (k7 (k8 K hu) (qV 1) (qV 6) (λ_ _=>rfl)) (z9 P w hu)))))
   (u7 (aU (u4 qz (qV 5) d8 (p8 _)) (B0 (P2 IK rfl (eX T.b_range (i9 (qB (sD rfl) T.b_min Boot.«min» (i9 (B6 q8 (k7 (k8 K hu) (qV 0) d8 (λ_ _=>rfl)) d8) (i9 (B6 pO d8 (qV 5)) j6))) j6)) (G1 (i:=6) hN rfl (by walk_at "l"))
    (u7 (j8 (i:=7) hN rfl (by walk_at "l") (k7 (k8 K hu) (qV 1) (B6 q8 (k7 (k8 K hu) (qV 0) (B6 (G0 K) d8 (B6 op_mulY d8 (qV 6))) (λ_ _=>rfl)) (qV 5)) (λ_ _=>rfl)))
   (u7 (j8 (i:=8) hN rfl (by walk_at "l") (k7 (k8 K hu) (qV 1) (B6 q8 (k7 (k8 K hu) (qV 0) (B6 (G0 K) d8 (B6 op_mulY d8 (qV 6))) (λ_ _=>rfl)) (qV 5)) (λ_ _=>rfl)))
   (B0 (aw (G3 (i9 (k7 (k8 K hu) (qV 2) (B6 q8 (k7 (k8 K hu) (qV 0) (B6 (G0 K) d8 (B6 op_mulY d8 (qV 6))) (λ_ _=>rfl)) d8) (λ_ _=>rfl)) (i9 (qV 7) (i9 (qV 8) j6)))) (lV (qV 4) (k7 (k8 K hu) (qV 1) (B6 (G0 K) d8 (qV 6)) (λ_ _=>rfl)) (z9 P w hu)))))))) ck)
   (B0 (A0 (G3 (i9 (qV 3) (i9 (qV 4) j6)))))))))),?_⟩
  walk_at "r";intro p np;obtain⟨H1,e1,f1,m1,o1⟩:=b0 (o:= .dK []) np;rw[e1];walk_at "r";intro q nq;obtain⟨H2,e2,f2,m2,o2⟩:=b0 (o:= .dK []) nq;rw[e2];have F':p≠q:=λz=>by rw[←z,f1] at nq;cases nq
  have Rh:H q=none:=m1.free nq;have K_:=m1.trans m2;walk_at "r";obtain⟨d0,hd0,hd0a,hd0b⟩:=G6 hD 0 (by lia) (by lia);refine i6 (SqL.of (K_ _ _ hA)) hd0 ?_;walk_at "e";obtain⟨mn,hmn⟩:∃mn:Nat,d0 % 4=(mn:Int):=⟨(d0 % 4).toNat,by lia⟩
  rw[hmn];have hmn4:mn<4:=by lia
  refine x8 λQt hx=>?_;walk_at "e";refine G5 (by lia) (by lia) ?_;refine Q3 (n:=mn) (λi σ H'=>∃(pts:List (Str×Str)) (v6:Option V),σ=[some (.ref a),some (.ref b),some (.ref c),some (.ref p),some (.ref q),some (.int (mn:Int)),v6,none,none]/\Same H H'/\H' p=some (.dK (j4 pts))/\H' q=some (.dK [])/\pts.map (·.1)=ws.take i)
   ⟨[],_,rfl,K_,m2 _ _ f1,f2,rfl⟩ (λi σ H' hi _=>by exact hi) ?_ ?_
  .rintro i v σ H3' H3 hi ⟨pts,v6,rfl,s3,g3,t3,ep⟩ ⟨rfl,rfl⟩;have Nl:=Jm List.length ep;rw[HI,HV,hW.len] at Nl;obtain⟨w,hw,Xe⟩:=ib hW i (by lia);walk_at "e";obtain⟨d,hd,_,_⟩:=G6 hD (1+(0+(i:Int))) (by lia) (by lia);refine i6 (SqL.of (s3 _ _ hA)) hd ?_;walk_at "e";obtain⟨kd,Ng,_⟩:=A9 (ss:=ks) (i:=d % 2) (by lia) (by lia);refine i6 (SqL.of (s3 _ _ hC)) Ng ?_;walk_at "e";refine i6 (SqL.of (s3 _ _ hB)) (Xe _ (by lia)) ?_;have fr:w∉pts.map (·.1):=by rw[ep];exact N9 hW.nd hw
   refine G9 (x6 (k:=Sum.inr w) g3 (d9 (by rw[k9];lia)) ?_);rw[bj fr];refine⟨pts++[(w,kd)],_,rfl,A3 s3 np,b9,by rw[b7 F'.symm];exact t3,?_⟩;rw[HL,ep,R8 hw];rfl
  rintro σ H3 ⟨pts,v6,rfl,s3,g3,t3,ep⟩;refine⟨by show mn<=_;lia,?_⟩;refine hx [some (.ref a),some (.ref b),some (.ref c),some (.ref p),some (.ref q),some (.int (mn:Int)),v6,none,none] H3 ?_;clear hx;have Nl:=Jm List.length ep;rw[HI,HV,hW.len] at Nl;have fin:∀(H4:Hp) (v6 v7 v8:Option V) (kvs:List (j3×V)) (ts:List (Str×F0)) (i:Nat) (l:Addr),Same H H4->H4 p=some (.dK (j4 pts))->H4 q=some (.dK kvs)->TiesIs K H4 kvs ts->ts.map (·.1)=(ws.drop 4).take i->i<=2->(∀x∈ts,x.2.2.1∈pts.map (·.1)/\x.2.2.2∈pts.map (·.1))->H4 l=none->Q (.ref l) (p0 H4 l (.tup [.ref p,.ref q])):=by
   intro H4 v6 v7 v8 kvs ts i l s4 g4 t4 w4 et hi en nl;obtain⟨H5,e5,f5,m5,_⟩:=b0 (o:= .tup [.ref p,.ref q]) nl;rw[e5];have sb:(h9 ⟨pts,ts⟩).Sublist ws:=by
    show(pts.map (·.1)++ts.map (·.1)).Sublist ws;rw[ep,et];exact As (by lia)
   have le:=sb.length_le;rw[hW.len] at le;exact k ⟨l,p,q,kvs,⟨pts,ts⟩⟩ H5 (s4.trans m5) ⟨⟨SqT.of f5,.inl (m5 _ _ g4),.inl (m5 _ _ t4),w4.mono m5.le⟩,m5 _ _ g4,m5 _ _ t4,F',hW.nd.sublist sb,Ip le (by decide),en,λx hx=>Ip (fj (hW.kd x (sb.subset hx))) (by decide)⟩ ⟨⟨mn,by lia,ep⟩,⟨i,hi,et⟩⟩
  refine x8 λRc hx=>?_;walk_at "e";suffices go:∀(H4:Hp) (v6 v7 v8:Option V) (kvs:List (j3×V)) (ts:List (Str×F0)) (i:Nat),Same H H4->H4 p=some (.dK (j4 pts))->H4 q=some (.dK kvs)->TiesIs K H4 kvs ts->ts.map (·.1)=(ws.drop 4).take i->i<=2->(∀x∈ts,x.2.2.1∈pts.map (·.1)/\x.2.2.2∈pts.map (·.1))->Rc [some (.ref a),some (.ref b),some (.ref c),some (.ref p),some (.ref q),some (.int (mn:Int)),v6,v7,v8] H4 by
   refine C4 (λhb=>?_) (λhb=>?_)
   .walk_at "e";obtain⟨d4,TX,hd4a,hd4b⟩:=G6 hD 4 (by lia) (by lia);refine i6 (SqL.of (s3 _ _ hA)) TX ?_;walk_at "e";refine⟨_,_,rfl,?_⟩;obtain⟨mj,hmj,Xf⟩:∃mj:Nat,(if 4 -(mn:Int)<d4 % 3 then 4 -(mn:Int) else d4 % 3)=(mj:Int)/\mj<=2:=⟨(if 4 -(mn:Int)<d4 % 3 then 4 -(mn:Int) else d4 % 3).toNat,by split<;>lia,by split<;>lia⟩
    rw[hmj];refine G5 (by lia) (by lia) ?_;refine Q3 (n:=mj) (λi σ H'=>∃(kvs:List (j3×V)) (ts:List (Str×F0)) (v6 v7 v8:Option V),σ=[some (.ref a),some (.ref b),some (.ref c),some (.ref p),some (.ref q),some (.int (mn:Int)),v6,v7,v8]/\Same H H'/\H' p=some (.dK (j4 pts))/\H' q=some (.dK kvs)/\TiesIs K H' kvs ts/\ts.map (·.1)=(ws.drop 4).take i/\∀x∈ts,x.2.2.1∈pts.map (·.1)/\x.2.2.2∈pts.map (·.1))
     ⟨[],[],_,_,_,rfl,s3,g3,t3,.nil,rfl,λ_ h=>nomatch h⟩ (λi σ H' hi _=>by exact hi) ?_ ?_
    .rintro i v σ H4' H4 hi ⟨kvs,ts,v6,v7,v8,rfl,s4,g4,t4,w4,et,en⟩ ⟨rfl,rfl⟩;have Rb:=Jm List.length et;rw[HI,HV,Kl,hW.len] at Rb;have NO:=w4.length;obtain⟨w,hw,Xe⟩:=ib hW (4+i) (by lia);have Th:(ws.drop 4)[i]?=some w:=by rw[Kq];exact hw
     have fr:w∉ts.map (·.1):=by rw[et];exact N9 (hW.nd.sublist (Oy _ _)) Th
     have at_:∀d:Int,0<=d->∃o,jB (ws.map V.str) (d % (mn:Int))=some (.str o)/\o∈pts.map (·.1):=λd hd=>by
      have z0:0<=d % (mn:Int):=Jg _ (by lia);have z1:d % (mn:Int)<mn:=Jb _ (by lia);obtain⟨o,ho,Qw⟩:=ib hW (d % (mn:Int)).toNat (by lia);exact⟨o,Qw _ (by lia),by rw[ep];exact zo (by lia) ho⟩
     walk_at "r";obtain⟨d6,Xg,Xh,_⟩:=G6 hD (6+3*(0+(i:Int))) (by lia) (by lia);refine i6 (SqL.of (s4 _ _ hA)) Xg ?_;walk_at "r";obtain⟨oa,Qw,RU⟩:=at_ d6 Xh;refine i6 (SqL.of (s4 _ _ hB)) Qw ?_;walk_at "r";obtain⟨d7,hd7,Xi,_⟩:=G6 hD (7+3*(0+(i:Int))) (by lia) (by lia);refine i6 (SqL.of (s4 _ _ hA)) hd7 ?_;walk_at "r";obtain⟨ob,z_,Qq⟩:=at_ d7 Xi;refine i6 (SqL.of (s4 _ _ hB)) z_ ?_;walk_at "r";obtain⟨d5,TY,TZ,_⟩:=G6 hD (5+3*(0+(i:Int))) (by lia) (by lia);refine i6 (SqL.of (s4 _ _ hA)) TY ?_;walk_at "r";obtain⟨kd,Ng,_⟩:=A9 (ss:=ks) (i:=d5 % 2) (by lia) (by lia);refine i6 (SqL.of (s4 _ _ hC)) Ng ?_;walk_at "r";refine⟨d9 (by simp),λl9 n9=>?_⟩;obtain⟨H9,e9,f9,m9,_⟩:=b0 (o:= .tup _) n9;rw[e9];have s9:=s4.trans m9;have t9:=m9 _ _ t4;walk_at "r";refine i6 (SqL.of (s9 _ _ hB)) (Xe _ (by lia)) ?_;refine G9 (x6 (k:=Sum.inr w) t9 (d9 (by lia)) ?_);refine⟨_,ts++[(w,(kd,oa,ob))],_,_,_,rfl,A3 s9 Rh,by rw[b7 F'];exact m9 _ _ g4,b9,P6 t9 (fS (w4.mono m9.le) fr (SqT.of f9)),?_,λx hx=>?_⟩
     .rw[HL,et,R8 Th];rfl
     .rcases Ic.mp hx with z|z
      .exact en x z
      .rw[Ih.mp z];exact⟨RU,Qq⟩
    .rintro σ H4 ⟨kvs,ts,v6,v7,v8,rfl,s4,g4,t4,w4,et,en⟩;refine⟨by show mj<=_;lia,?_⟩;exact go _ _ _ _ kvs ts mj s4 g4 t4 w4 et Xf en
   .walk_at "e";exact go _ _ _ _ [] [] 0 s3 g3 t3 .nil rfl (by lia) (λ_ h=>nomatch h)
  intro H4 T' v7 v8 kvs ts i s4 g4 t4 w4 et hi en;refine hx _ _ ?_;clear hx;walk_at "r";exact⟨d9 (by simp),λl nl=>fin H4 T' v7 v8 kvs ts i l s4 g4 t4 w4 et hi en nl⟩
structure RgOk (ws:List Str) (L R:A6):Prop where
 p:∀x∈R.pts,x∈L.pts\/ws[7]?=some x.1
 t:∀x∈R.ts,x∈L.ts\/ws[8]?=some x.1
 l1:R.pts.length<=4
 l2:R.ts.length<=3
theorem LfOk.pi {ws:List Str}{L:A6}(h:LfOk ws L){n:Str}(hn:n∈L.pts.map (·.1)):∃i,i<3/\ws[i]?=some n:=by
 obtain⟨m,hm,e⟩:=h.p;rw[e] at hn;obtain⟨i,hi⟩:=JT hn;have hl:i<m:=by
  rcases JA i m with z|z
  .exact z
  .rw[IX (by rw[HV];lia)] at hi;cases hi
 rw[JV hl] at hi;exact⟨i,by lia,hi⟩
theorem LfOk.ti {ws:List Str}{L:A6}(h:LfOk ws L){n:Str}(hn:n∈L.ts.map (·.1)):∃i,4<=i/\i<6/\ws[i]?=some n:=by
 obtain⟨m,hm,e⟩:=h.t;rw[e] at hn;obtain⟨i,hi⟩:=JT hn;have hl:i<m:=by
  rcases JA i m with z|z
  .exact z
  .rw[IX (by rw[HV];lia)] at hi;cases hi
 rw[JV hl,Kq] at hi;exact⟨4+i,by lia,by lia,hi⟩
theorem LfOk.l1 {ws:List Str}{L:A6}(h:LfOk ws L):L.pts.length<=3:=by
 obtain⟨m,hm,e⟩:=h.p;have z:=Jm List.length e;rw[HI,HV] at z;lia
theorem LfOk.l2 {ws:List Str}{L:A6}(h:LfOk ws L):L.ts.length<=2:=by
 obtain⟨m,hm,e⟩:=h.t;have z:=Jm List.length e;rw[HI,HV] at z;lia
theorem DC {ws:List Str}{L:A6}{pts:List (Str×Str)}{ts:List (Str×F0)}(nd:ws.Nodup)(h:LfOk ws L)(n1:(pts.map (·.1)).Nodup)(n2:(ts.map (·.1)).Nodup)(hp:∀x∈pts,x∈L.pts\/ws[7]?=some x.1)(ht:∀x∈ts,x∈L.ts\/ws[8]?=some x.1):(pts.map (·.1)++ts.map (·.1)).Nodup:=by
 refine Iu.mpr ⟨n1,n2,λa ha b hb e=>?_⟩;subst e;obtain⟨x,hx,ex⟩:=HP.mp ha;obtain⟨y,hy,ey⟩:=HP.mp hb;have i1:∃i,(i<3\/i=7)/\ws[i]?=some a:=by
  rcases hp x hx with z|z
  .obtain⟨i,hi,e⟩:=h.pi (HP.mpr ⟨x,z,ex⟩);exact⟨i,.inl hi,e⟩
  .exact⟨7,.inr rfl,by rw[←ex];exact z⟩
 have i2:∃i,(4<=i/\i<6\/i=8)/\ws[i]?=some a:=by
  rcases ht y hy with z|z
  .obtain⟨i,h1,h2,e⟩:=h.ti (HP.mpr ⟨y,z,ey⟩);exact⟨i,.inl ⟨h1,h2⟩,e⟩
  .exact⟨8,.inr rfl,by rw[←ey];exact z⟩
 obtain⟨i,hi,ei⟩:=i1;obtain⟨j,hj,ej⟩:=i2;have:=bU nd ei ej;lia
def cK (K:Qc):Sp:=λvs H Q _=>∃(L:Sd) (a b c:Addr) (ds:List Int) (ws ks:List Str),vs=[.ref L.a,.ref a,.ref b,.ref c]/\SdIs K H L/\LfOk ws L.W/\H a=some (.lst (ds.map V.int))/\H b=some (.lst (ws.map V.str))/\H c=some (.lst (ks.map V.str))/\yC ds/\cy ws/\ks.length=2/\∀(S:Sd) (H':Hp),Same H H'->SdIs K H' S->RgOk ws L.W S.W->Q (.ref S.a) H'
abbrev dB (P:Program)(w:World)(K:Qc)(mg:Str->Option Value)(base:Heap):Prop:=K3 P w K mg base B8 1 "_law_right" ["_law_left_here","_law_digits_here","_law_words_here","_law_kinds_here"] [] (cK K)
theorem jv {f:Addr}{fd:FuncData}(T:Txt K mg)(F:Fun K "_law_right" "_law_right" aK f fd):A1 P w K mg base B8 1 f fd ["_law_left_here","_law_digits_here","_law_words_here","_law_kinds_here"] (cK K):=by
 refine F.ok sc__law_right (λvs H Q E h=>?_) (λd_ A outer s H vs Q E hr h=>?_)
 .obtain⟨L,a,b,c,ds,ws,ks,rfl,_⟩:=h;rfl
 .obtain⟨L,a,b,c,ds,ws,ks,rfl,hL,lf,hA,hB,hC,hD,hW,hk,k⟩:=h;have NM:=lf.l1;have Oh:=lf.l2;have Nl:=k9 L.W.pts;have NO:=hL.at_.ts.length;have hN:=sc__law_right.nd;have hu:=u6 hr;refine⟨_,QSs.r (u7 (j8 (i:=4) hN rfl (by walk_at "l") uH)
   (u7 (j8 (i:=5) hN rfl (by walk_at "l") uH)
   (u7 (P2 IK rfl (ee K T.b_enumerate (i9 (qB (F4 K rfl) T.b_sorted Boot.«sorted» (i9 (k7 (k8 K hu) (qV 0) d8 (λ_ _=>rfl)) j6)) j6)) (pP K rfl (dw (G1 (i:=6) hN rfl (by walk_at "l")) (dw (G1 (i:=7) hN rfl (by walk_at "l")) pI)))
    (B0 (aU (u4 (gk K hr) (B6 q8 (k7 (k8 K hu) (qV 1) (B6 (G0 K) d8 (qV 6)) (λ_ _=>rfl)) d8) d8 (p8 _)) (B0 (aw (k7 (k8 K hu) (k7 (k8 K hu) (qV 0) d8 (λ_ _=>rfl)) (qV 7) (λ_ _=>rfl)) (lV (qV 4) (qV 7) (z9 P w hu)))) ck)))
   (u7 (P2 IK rfl (ee K T.b_enumerate (i9 (qB (F4 K rfl) T.b_sorted Boot.«sorted» (i9 (k7 (k8 K hu) (qV 0) d8 (λ_ _=>rfl)) j6)) j6)) (pP K rfl (dw (G1 (i:=6) hN rfl (by walk_at "l")) (dw (G1 (i:=7) hN rfl (by walk_at "l")) pI)))
    (u7 (j8 (i:=8) hN rfl (by walk_at "l") (k7 (k8 K hu) (k7 (k8 K hu) (qV 0) d8 (λ_ _=>rfl)) (qV 7) (λ_ _=>rfl)))
   (B0 (aU (pJ (cM (u4 (G8 K hr) (B6 q8 (k7 (k8 K hu) (qV 1) (B6 (G0 K) d8 (qV 6)) (λ_ _=>rfl)) d8) d8 (p8 _)) (cM (u4 (kIn K hu) (k7 (k8 K hu) (qV 8) d8 (λ_ _=>rfl)) (qV 4) (by rfl)) (bF (u4 (kIn K hu) (k7 (k8 K hu) (qV 8) d8 (λ_ _=>rfl)) (qV 4) (by rfl)))))) (B0 (aw (qV 8) (lV (qV 5) (qV 7) (z9 P w hu)))) ck))))
   (u7 (aU (pJ (cM (u4 (G8 K hr) (B6 q8 (k7 (k8 K hu) (qV 1) d8 (λ_ _=>rfl)) d8) d8 (p8 _)) (bF (u4 de (qB (C8 K P w) T.b_len Boot.«len» (i9 (qV 4) j6)) (qB (C8 K P w) T.b_len Boot.«len» (i9 (k7 (k8 K hu) (qV 0) d8 (λ_ _=>rfl)) j6)) (p8 _))))) (B0 (aw (k7 (k8 K hu) (qV 3) (B6 q8 (k7 (k8 K hu) (qV 1) d8 (λ_ _=>rfl)) d8) (λ_ _=>rfl)) (lV (qV 4) (k7 (k8 K hu) (qV 2) d8 (λ_ _=>rfl)) (z9 P w hu)))) ck)
   (u7 (aU (pJ (cM (u4 (G8 K hr) (B6 q8 (k7 (k8 K hu) (qV 1) d8 (λ_ _=>rfl)) d8) d8 (p8 _)) (cM (u4 qz (qB (C8 K P w) T.b_len Boot.«len» (i9 (qV 4) j6)) d8 (p8 _)) (bF (u4 de (qB (C8 K P w) T.b_len Boot.«len» (i9 (qV 5) j6)) (qB (C8 K P w) T.b_len Boot.«len» (i9 (k7 (k8 K hu) (qV 0) d8 (λ_ _=>rfl)) j6)) (p8 _)))))) (u7 (j8 (i:=9) hN rfl (by walk_at "l") (qB (F4 K rfl) T.b_sorted Boot.«sorted» (i9 (qV 4) j6)))
   (u7 (j8 (i:=10) hN rfl (by walk_at "l") (k7 (k8 K hu) (qV 9) (B6 q8 (k7 (k8 K hu) (qV 1) d8 (λ_ _=>rfl)) (qB (C8 K P w) T.b_len Boot.«len» (i9 (qV 9) j6))) (λ_ _=>rfl)))
   (B0 (aw (G3 (i9 (k7 (k8 K hu) (qV 3) (B6 q8 (k7 (k8 K hu) (qV 1) d8 (λ_ _=>rfl)) d8) (λ_ _=>rfl)) (i9 (qV 10) (i9 (k7 (k8 K hu) (qV 9) (B6 q8 (k7 (k8 K hu) (qV 1) d8 (λ_ _=>rfl)) (qB (C8 K P w) T.b_len Boot.«len» (i9 (qV 9) j6))) (λ_ _=>rfl)) j6)))) (lV (qV 5) (k7 (k8 K hu) (qV 2) d8 (λ_ _=>rfl)) (z9 P w hu)))))) ck)
   (B0 (A0 (G3 (i9 (qV 4) (i9 (qV 5) j6))))))))))),?_⟩
  walk_at "r";intro p np;obtain⟨H1,e1,f1,m1,o1⟩:=b0 (o:= .dK []) np;rw[e1];walk_at "e";refine M8 ?_;walk_at "e";intro q nq;obtain⟨H2,e2,f2,m2,o2⟩:=b0 (o:= .dK []) nq;rw[e2];have F':p≠q:=λz=>by rw[←z,f1] at nq;cases nq
  have Rh:H q=none:=m1.free nq;have K_:=m1.trans m2;walk_at "e";refine x8 λQt hx=>?_;walk_at "e";have L2:=hL.same K_;refine b5 L2.at_.tup (b4 (j:=0) rfl) ?_;walk_at "e";refine z6 (ss:=L.W.pts.map (·.1)) (.inl L2.hp) (by rw[B5,r6]) (by rw[HI];lia) (λs1 a1 a2 l3 n3=>?_);obtain⟨H3,e3,f3,m3,_⟩:=b0 (o:= .lst (s1.map V.str)) n3;rw[e3];have PJ:=K_.trans m3;have u_:=a1.length_eq;rw[HI] at u_;have nl3:l3≠p:=λz=>by rw[z,m2 _ _ f1] at n3;cases n3
  walk_at "e";refine⟨_,rfl,.inl ⟨l3,_,rfl,SqL.of f3,?_⟩⟩;refine J2 (n:=s1.length) (λi σ H'=>Same H H'/\(∃v6 v7,σ=[some (.ref L.a),some (.ref a),some (.ref b),some (.ref c),some (.ref p),some (.ref q),v6,v7,none,none,none])/\H' l3=some (.lst (s1.map V.str))/\H' q=some (.dK [])/\∃pts:List (Str×Str),H' p=some (.dK (j4 pts))/\(∀x∈pts,x∈L.W.pts/\x.1∈s1.take i)/\(pts.map (·.1)).Nodup/\pts.length<=i) ⟨PJ,⟨_,_,rfl⟩,f3,m3 _ _ f2,[],m3 _ _ (m2 _ _ f1),(λ_ h=>nomatch h),JG,HJ _⟩ (λi σ H' hi hp=>⟨_,.str (s1[i]),SqL.of hp.2.2.1,by rw[HK,HH hi];rfl⟩) ?_ ?_
  .rintro bk i v σ H4' H4 hi ⟨s4,⟨v6,v7,rfl⟩,T_,t4,pts,g4,Nz,G_,TF⟩ ⟨t,x,hx9,nt,rfl,rfl⟩;have q_:=hx9 _ (SqL.of T_);rw[HK,HH hi] at q_;cases q_;obtain⟨H5,e5,f5,m5,_⟩:=b0 (o:= .tup _) nt;rw[e5];have s5:=s4.trans m5;have L5:=hL.same s5;have g5:=m5 _ _ g4;obtain⟨y,hy,ey⟩:=HP.mp (a1.mem_iff.mp (ID hi));have Qg:s1.Nodup:=a1.nodup_iff.mpr (E1 hL.nd);have Pl:s1.take (i+1)=s1.take i++[s1[i]]:=R8 (HH hi);refine J6 (SqT.of f5) rfl ?_;walk_at "e";obtain⟨d,hd,_,_⟩:=G6 hD (11+(i:Int)) (by lia) (by lia);refine i6 (SqL.of (s5 _ _ hA)) hd ?_;walk_at "e";refine bo (λhb=>?_) (λhb=>?_)
   .walk_at "e";refine b5 L5.at_.tup (b4 (j:=0) rfl) ?_;walk_at "e";refine C2 (v:= .str y.2) (by have z:=G7 (k:=Sum.inr y.1) L5.at_.pts;rw[aC (E1 hL.nd) hy] at z;rw[←ey];exact z) ?_;walk_at "e";have fr:s1[i]∉pts.map (·.1):=λm=>by
     obtain⟨x,hx,ex⟩:=HP.mp m;have z:=(Nz x hx).2;rw[ex] at z;exact N9 Qg (HH hi) z
    refine G9 (x6 (k:=Sum.inr s1[i]) g5 (d9 (by rw[k9];lia)) ?_);rw[bj fr];refine⟨A3 s5 np,⟨_,_,rfl⟩,by rw[b7 nl3];exact m5 _ _ T_,by rw[b7 F'.symm];exact m5 _ _ t4,_,b9,λx hx=>?_,?_,by rw[HQ,Il];lia⟩
    .rcases Ic.mp hx with z|z
     .exact⟨(Nz x z).1,by rw[Pl];exact HU _ (Nz x z).2⟩
     .rw[Ih.mp z];exact⟨by rw[←ey];exact hy,by rw[Pl];exact Ia _ (Ih.mpr rfl)⟩
    .rw[HL];exact R3 G_ fr
   .walk_at "e";exact⟨s5,⟨_,_,rfl⟩,m5 _ _ T_,m5 _ _ t4,pts,g5,λx hx=>⟨(Nz x hx).1,by rw[Pl];exact HU _ (Nz x hx).2⟩,G_,by lia⟩
  rintro σ H4 ⟨s4,⟨v6,v7,rfl⟩,T_,t4,pts,g4,Nz,G_,TF⟩;refine⟨⟨_,SqL.of T_,by rw[HI];exact HJ _⟩,?_⟩;refine hx [some (.ref L.a),some (.ref a),some (.ref b),some (.ref c),some (.ref p),some (.ref q),v6,v7,none,none,none] H4 ?_;clear hx;replace Nz:∀x∈pts,x∈L.W.pts:=λx hx=>(Nz x hx).1;have L4:=hL.same s4;refine x8 λRc hx=>?_;walk_at "e";refine b5 L4.at_.tup (b4 (j:=1) rfl) ?_;walk_at "e";refine z6 (ss:=L.W.ts.map (·.1)) (.inl L4.hq) (by rw[L4.at_.ts.keys,r6]) (by rw[HI];lia) (λs2 b1 b2 l6 n6=>?_);obtain⟨H6,e6,f6,m6,_⟩:=b0 (o:= .lst (s2.map V.str)) n6;rw[e6];have Pm:=s4.trans m6;have Xj:=b1.length_eq;rw[HI] at Xj;have RE:l6≠q:=λz=>by rw[z,t4] at n6;cases n6
  walk_at "e";refine⟨_,rfl,.inl ⟨l6,_,rfl,SqL.of f6,?_⟩⟩;refine J2 (n:=s2.length) (λi σ H'=>Same H H'/\(∃v6 v7 v8,σ=[some (.ref L.a),some (.ref a),some (.ref b),some (.ref c),some (.ref p),some (.ref q),v6,v7,v8,none,none])/\H' l6=some (.lst (s2.map V.str))/\H' p=some (.dK (j4 pts))/\∃(kvs:List (j3×V)) (ts:List (Str×F0)),H' q=some (.dK kvs)/\TiesIs K H' kvs ts/\(∀x∈ts,(x∈L.W.ts/\x.1∈s2.take i)/\x.2.2.1∈pts.map (·.1)/\x.2.2.2∈pts.map (·.1))/\(ts.map (·.1)).Nodup/\ts.length<=i) ⟨Pm,⟨_,_,_,rfl⟩,f6,m6 _ _ g4,[],[],m6 _ _ t4,.nil,(λ_ h=>nomatch h),JG,HJ _⟩ (λi σ H' hi hp=>⟨_,.str (s2[i]),SqL.of hp.2.2.1,by rw[HK,HH hi];rfl⟩) ?_ ?_
  .rintro bk i v σ H7' H7 hi ⟨s7,⟨v6,v7,v8,rfl⟩,SA,g7,kvs,ts,t7,w7,MN,Ri,j'⟩ ⟨t,x,hx9,nt,rfl,rfl⟩;have q_:=hx9 _ (SqL.of SA);rw[HK,HH hi] at q_;cases q_;obtain⟨H8,e8,f8,m8,_⟩:=b0 (o:= .tup _) nt;rw[e8];have s8:=s7.trans m8;have L8:=hL.same s8;have g8:=m8 _ _ g7;have t8:=m8 _ _ t7;have w8:=w7.mono m8.le;have QQ:=w7.length;obtain⟨⟨y0,y1,y2,y3⟩,hy,ey⟩:=HP.mp (b1.mem_iff.mp (ID hi));have ZI:y0=s2[i]:=ey;obtain⟨bb,VA,sb⟩:=cf L8.at_.ts (N1 hL.nd) hy;have Nm:s2.Nodup:=b1.nodup_iff.mpr (N1 hL.nd);have Pl:s2.take (i+1)=s2.take i++[s2[i]]:=R8 (HH hi);refine J6 (SqT.of f8) rfl ?_;walk_at "e";refine M8 ?_;walk_at "e";refine b5 L8.at_.tup (b4 (j:=1) rfl) ?_;walk_at "e";refine C2 (v:= .ref bb) (by have z:=G7 (k:=Sum.inr y0) L8.at_.ties;rw[VA] at z;rw[←ZI];exact z) ?_;walk_at "e";obtain⟨d,hd,_,_⟩:=G6 hD (14+(i:Int)) (by lia) (by lia);refine i6 (SqL.of (s8 _ _ hA)) hd ?_;have k3:H8 l6=some (.lst (s2.map V.str))/\H8 p=some (.dK (j4 pts))/\∃(kvs:List (j3×V)) (ts:List (Str×F0)),H8 q=some (.dK kvs)/\TiesIs K H8 kvs ts/\(∀x∈ts,(x∈L.W.ts/\x.1∈s2.take (i+1))/\x.2.2.1∈pts.map (·.1)/\x.2.2.2∈pts.map (·.1))/\(ts.map (·.1)).Nodup/\ts.length<=i+1:=⟨m8 _ _ SA,g8,kvs,ts,t8,w8,λx hx=>⟨⟨(MN x hx).1.1,by rw[Pl];exact HU _ (MN x hx).1.2⟩,(MN x hx).2⟩,Ri,by lia⟩
   walk_at "e";refine C4 (λhb=>?_) (λhb=>?_);rotate_left
   .walk_at "e";exact⟨s8,⟨_,_,_,rfl⟩,k3⟩
   walk_at "e";refine b5 sb (b4 (j:=1) rfl) ?_;walk_at "e";refine P5 (G7 (k:=Sum.inr y2) (show Rd H8 p _ from .inl g8)) ?_;rw[F9];walk_at "e";refine C4 (λhc=>?_) (λhc=>?_);rotate_left
   .walk_at "e";exact⟨s8,⟨_,_,_,rfl⟩,k3⟩
   walk_at "e";refine b5 sb (b4 (j:=2) rfl) ?_;walk_at "e";refine P5 (G7 (k:=Sum.inr y3) (show Rd H8 p _ from .inl g8)) ?_;rw[F9];walk_at "e";refine C4 (λhd=>?_) (λhd=>?_);rotate_left
   .walk_at "e";exact⟨s8,⟨_,_,_,rfl⟩,k3⟩
   walk_at "e";have fr:s2[i]∉ts.map (·.1):=λm=>by
    obtain⟨x,hx,ex⟩:=HP.mp m;have z:=(MN x hx).1.2;rw[ex] at z;exact N9 Nm (HH hi) z
   refine G9 (x6 (k:=Sum.inr s2[i]) t8 (d9 (by lia)) ?_);refine⟨A3 s8 Rh,⟨_,_,_,rfl⟩,by rw[b7 RE];exact m8 _ _ SA,by rw[b7 F'];exact g8,_,ts++[(s2[i],(y1,y2,y3))],b9,P6 t8 (fS w8 fr sb),λx hx=>?_,?_,by rw[HQ,Il];lia⟩
   .rcases Ic.mp hx with z|z
    .exact⟨⟨(MN x z).1.1,by rw[Pl];exact HU _ (MN x z).1.2⟩,(MN x z).2⟩
    .rw[Ih.mp z];exact⟨⟨by rw[←ZI];exact hy,by rw[Pl];exact Ia _ (Ih.mpr rfl)⟩,hc,hd⟩
   .rw[HL];exact R3 Ri fr
  rintro σ H7 ⟨s7,⟨T',Xk,Xl,rfl⟩,SA,g7,kvs,ts,t7,w7,RV,Ri,j'⟩;refine⟨⟨_,SqL.of SA,by rw[HI];exact HJ _⟩,?_⟩;refine hx [some (.ref L.a),some (.ref a),some (.ref b),some (.ref c),some (.ref p),some (.ref q),T',Xk,Xl,none,none] H7 ?_;clear hx;have MN:∀x∈ts,x∈L.W.ts:=λx hx=>(RV x hx).1.1;have PB:∀x∈ts,x.2.2.1∈pts.map (·.1)/\x.2.2.2∈pts.map (·.1):=λx hx=>(RV x hx).2;have QQ:=w7.length;clear RV L4 L2;have L7:=hL.same s7;obtain⟨Xm,ZJ,Xn⟩:=ib hW 7 (by lia);obtain⟨Xo,PK,Qx⟩:=ib hW 8 (by lia);have Xp:Xm∉pts.map (·.1):=λm=>by
   obtain⟨x,hx,ex⟩:=HP.mp m;obtain⟨i,hi,e⟩:=lf.pi (HP.mpr ⟨x,Nz x hx,ex⟩);have:=bU hW.nd e ZJ;lia
  have PN:Xo∉ts.map (·.1):=λm=>by
   obtain⟨x,hx,ex⟩:=HP.mp m;obtain⟨i,hi,_,e⟩:=lf.ti (HP.mpr ⟨x,MN x hx,ex⟩);have:=bU hW.nd e PK;lia
  refine x8 λVk hx=>?_;suffices go:∀(H':Hp) (f_:List (Str×Str)),Same H H'->H' p=some (.dK (j4 f_))->H' q=some (.dK kvs)->TiesIs K H' kvs ts->(∀x∈f_,x∈L.W.pts\/ws[7]?=some x.1)->(∀n∈pts.map (·.1),n∈f_.map (·.1))->(f_.map (·.1)).Nodup->f_.length<=4->Vk [some (.ref L.a),some (.ref a),some (.ref b),some (.ref c),some (.ref p),some (.ref q),T',Xk,Xl,none,none] H' by
   have OI:=go H7 pts s7 g7 t7 w7 (λx hx=> .inl (Nz x hx)) (λ_ h=>h) G_ (by lia);walk_at "e";obtain⟨d,hd,_,_⟩:=G6 hD 16 (by lia) (by lia);refine i6 (SqL.of (s7 _ _ hA)) hd ?_;walk_at "e";refine C4 (λhb=>?_) (λhb=>?_);rotate_left
   .walk_at "e";exact OI
   walk_at "e";refine C5 (G4 (.inl g7) ?_);walk_at "e";refine b5 L7.at_.tup (b4 (j:=0) rfl) ?_;walk_at "e";refine C5 (G4 L7.at_.pts ?_);walk_at "e";refine C4 (λhc=>?_) (λhc=>?_);rotate_left
   .walk_at "e";exact OI
   walk_at "e";obtain⟨d2,hd2,_,_⟩:=G6 hD 17 (by lia) (by lia);refine i6 (SqL.of (s7 _ _ hA)) hd2 ?_;walk_at "e";obtain⟨kd,Ng,_⟩:=A9 (ss:=ks) (i:=d2 % 2) (by lia) (by lia);refine i6 (SqL.of (s7 _ _ hC)) Ng ?_;walk_at "e";refine i6 (SqL.of (s7 _ _ hB)) (Xn 7 rfl) ?_;refine G9 (x6 (k:=Sum.inr Xm) g7 (d9 (by rw[k9];lia)) ?_);rw[bj Xp];refine go _ (pts++[(Xm,kd)]) (A3 s7 np) b9 (by rw[b7 F'.symm];exact t7) (P6 g7 w7) (λx hx=>?_) (λn hn=>by rw[HL];exact HU _ hn) (by rw[HL];exact R3 G_ Xp) (by rw[HQ,Il];lia);rcases Ic.mp hx with z|z
   .exact .inl (Nz x z)
   .rw[Ih.mp z];exact .inr ZJ
  clear s7 g7 t7 w7 SA Nz G_ TF L7 Xp;intro H7 f_ s7 g7 t7 w7 Nz MQ G_ TF;refine hx _ _ ?_;clear hx;have L7:=hL.same s7;refine x8 λUa hx=>?_;suffices go:∀(H':Hp) (v9 v10:Option V) (c_:List (j3×V)) (NN:List (Str×F0)),Same H H'->H' p=some (.dK (j4 f_))->H' q=some (.dK c_)->TiesIs K H' c_ NN->(∀x∈NN,x∈L.W.ts\/ws[8]?=some x.1)->(∀x∈NN,x.2.2.1∈f_.map (·.1)/\x.2.2.2∈f_.map (·.1))->(NN.map (·.1)).Nodup->NN.length<=3->Ua [some (.ref L.a),some (.ref a),some (.ref b),some (.ref c),some (.ref p),some (.ref q),T',Xk,Xl,v9,v10] H' by
   have OI:=go H7 none none kvs ts s7 g7 t7 w7 (λx hx=> .inl (MN x hx)) (λx hx=>⟨MQ _ (PB x hx).1,MQ _ (PB x hx).2⟩) Ri (by lia);walk_at "e";obtain⟨d,hd,_,_⟩:=G6 hD 18 (by lia) (by lia);refine i6 (SqL.of (s7 _ _ hA)) hd ?_;walk_at "e";refine C4 (λhb=>?_) (λhb=>?_);rotate_left
   .walk_at "e";exact OI
   walk_at "e";refine C5 (G4 (.inl g7) ?_);rw[k9];walk_at "e";refine C4 (λhc=>?_) (λhc=>?_);rotate_left
   .walk_at "e";exact OI
   walk_at "e";refine C5 (G4 (.inl t7) ?_);walk_at "e";refine b5 L7.at_.tup (b4 (j:=1) rfl) ?_;walk_at "e";refine C5 (G4 L7.at_.ties ?_);walk_at "e";refine C4 (λhe=>?_) (λhe=>?_);rotate_left
   .walk_at "e";exact OI
   walk_at "r";refine z6 (ss:=f_.map (·.1)) (.inl g7) (by rw[B5,r6]) (by rw[HI];lia) (λs9 c1 c2 l9 n9=>?_);obtain⟨H9,e9,f9,m9,_⟩:=b0 (o:= .lst (s9.map V.str)) n9;rw[e9];have Ub:=s7.trans m9;have L_:=c1.length_eq;rw[HI] at L_;walk_at "r";obtain⟨d20,Xq,ZK,_⟩:=G6 hD 20 (by lia) (by lia);refine i6 (SqL.of (Ub _ _ hA)) Xq ?_;walk_at "r";refine C5 (x5 (SqL.of f9) ?_);rw[HI,L_];walk_at "r";obtain⟨oa,Qw,RU⟩:=A9 (ss:=s9) (i:=d20 % (f_.length:Int)) (Jg _ (by lia)) (by rw[L_];exact Jb _ (by lia));refine i6 (SqL.of f9) Qw ?_;walk_at "r";obtain⟨d19,Xr,ZL,_⟩:=G6 hD 19 (by lia) (by lia);refine i6 (SqL.of (Ub _ _ hA)) Xr ?_;walk_at "r";obtain⟨kd,Ng,_⟩:=A9 (ss:=ks) (i:=d19 % 2) (by lia) (by lia);refine i6 (SqL.of (Ub _ _ hC)) Ng ?_;walk_at "r";obtain⟨d21,Xs,ZM,_⟩:=G6 hD 21 (by lia) (by lia);refine i6 (SqL.of (Ub _ _ hA)) Xs ?_;walk_at "r";refine C5 (x5 (SqL.of f9) ?_);rw[HI,L_];walk_at "r";obtain⟨ob,z_,Qq⟩:=A9 (ss:=s9) (i:=d21 % (f_.length:Int)) (Jg _ (by lia)) (by rw[L_];exact Jb _ (by lia));refine i6 (SqL.of f9) z_ ?_;walk_at "r";refine⟨d9 (by simp),λla na=>?_⟩;obtain⟨Ha,ea,fa,ma,_⟩:=b0 (o:= .tup _) na;rw[ea];have ZN:=Ub.trans ma;have ta:=(m9.trans ma) _ _ t7;walk_at "r";refine i6 (SqL.of (ZN _ _ hB)) (Qx 8 rfl) ?_;refine G9 (x6 (k:=Sum.inr Xo) ta (d9 (by lia)) ?_);refine go _ _ _ _ (ts++[(Xo,(kd,oa,ob))]) (A3 ZN Rh) (by rw[b7 F'];exact(m9.trans ma) _ _ g7) b9 (P6 ta (fS (w7.mono (m9.trans ma).le) PN (SqT.of fa))) (λx hx=>?_) (λx hx=>?_) (by rw[HL];exact R3 Ri PN) (by rw[HQ,Il];lia)
   .rcases Ic.mp hx with z|z
    .exact .inl (MN x z)
    .rw[Ih.mp z];exact .inr PK
   .rcases Ic.mp hx with z|z
    .exact⟨MQ _ (PB x z).1,MQ _ (PB x z).2⟩
    .rw[Ih.mp z];exact⟨c1.mem_iff.mp RU,c1.mem_iff.mp Qq⟩
  clear s7 g7 t7 w7 MN PB Ri j' L7 QQ PN;intro H7 v9 v10 c_ NN s7 g7 t7 w7 MN PB Ri j';refine hx _ _ ?_;clear hx;walk_at "r";refine⟨d9 (by simp),λl nl=>?_⟩;obtain⟨H8,e8,f8,m8,_⟩:=b0 (o:= .tup [.ref p,.ref q]) nl;rw[e8];have nms:∀x∈f_.map (·.1)++NN.map (·.1),x∈ws:=λx hx=>by
   rcases Ic.mp hx with z|z
   .obtain⟨y,hy,ey⟩:=HP.mp z;rcases Nz y hy with z|z
    .obtain⟨i,_,e⟩:=lf.pi (HP.mpr ⟨y,z,ey⟩);exact HX e
    .rw[←ey];exact HX z
   .obtain⟨y,hy,ey⟩:=HP.mp z;rcases MN y hy with z|z
    .obtain⟨i,_,_,e⟩:=lf.ti (HP.mpr ⟨y,z,ey⟩);exact HX e
    .rw[←ey];exact HX z
  exact k ⟨l,p,q,c_,⟨f_,NN⟩⟩ H8 (s7.trans m8) ⟨⟨SqT.of f8,.inl (m8 _ _ g7),.inl (m8 _ _ t7),w7.mono m8.le⟩,m8 _ _ g7,m8 _ _ t7,F',DC hW.nd lf G_ Ri Nz MN,by show(f_.map (·.1)++NN.map (·.1)).length<=24;rw[HQ,HI,HI];lia,PB,λx hx=>Ip (fj (hW.kd x (nms x hx))) (by decide)⟩ ⟨Nz,MN,TF,j'⟩
def FG (L B:A6):Prop:=∃A:List Str,(h9 B).Perm (h9 L++A)/\A.length<=2
def dI (K:Qc):Sp:=λvs H Q _=>∃(c:Int) (lw lk:Addr) (ws ks:List Str),vs=[.int c,.ref lw,.ref lk]/\0<=c/\c<10 ^ 62/\H lw=some (.lst (ws.map V.str))/\H lk=some (.lst (ks.map V.str))/\cy ws/\ks.length=2/\
 ∀(r bl:Addr) (L R:Sd) (bs:List Sd) (H':Hp),Same H H'->RuleIs K H' r bl L R bs->H' bl=some (.lst (bs.map λs=>V.ref s.a))->LfOk ws L.W->RgOk ws L.W R.W->bs.length<=2->(∀b∈bs,FG L.W b.W)->Q (.ref r) H'
theorem rV {ss:List Str}(h:0<ss.length):∃x,jB (ss.map V.str) (-1)=some (.str x)/\x∈ss:=by
 obtain⟨v,hv,hm⟩:=vL (xs:=ss.map V.str) (by rw[HI];exact h);obtain⟨x,hx,rfl⟩:=HP.mp hm;exact⟨x,hv,hx⟩
theorem pR {H:Hp}{d:Addr}{xs:List V}{u:HO}{B:Sd}(h:H d=some (.lst xs))(hB:SdIs K H B):SdIs K (p0 H d u) B:=by
 have ne:∀a kv,H a=some (.dK kv)->a≠d:=λa kv e z=>by rw[z,h] at e;cases e
 have tp:∀a ys,SqT K H a ys->SqT K (p0 H d u) a ys:=λa ys s=>by
  rcases s with s|s
  .refine .inl ?_;by_cases z:a=d
   .subst z;rcases s with s|⟨_,s⟩<;>(rw[h] at s;cases s)
   .unfold Rd;rw[b7 z];exact s
  .exact .inr s
 have hp:(p0 H d u) B.p=some (.dK (j4 B.W.pts)):=by rw[b7 (ne _ _ hB.hp)];exact hB.hp
 have hq:(p0 H d u) B.q=some (.dK B.kvs):=by rw[b7 (ne _ _ hB.hq)];exact hB.hq
 exact⟨⟨tp _ _ hB.at_.tup,.inl hp,.inl hq,Paired.imp' (λ_ _ z=>⟨z.1,z.2.imp λa y=>⟨y.1,tp _ _ y.2⟩⟩) hB.at_.ts⟩,hp,hq,hB.ne,hB.nd,hB.len,hB.ends,hB.nl⟩
theorem xy {H7:Hp}{ws:List Str}{L:Sd}{w8 w9 kd:Str}{p q:Addr}{kvs:List (j3×V)}{ts:List (Str×F0)}{A:List Str}(hW:cy ws)(hL:(h9 L.W).Nodup)(hLn:∀x∈h9 L.W,x.length<=100)(hl:L.W.pts.length+L.W.ts.length<=5)(RW:ws[9]?=some w9)(PK:ws[8]?=some w8)(SD:w9∉h9 L.W)(PN:w8∉h9 L.W)(F':p≠q)
  (g7:H7 p=some (.dK (j4 (L.W.pts++[(w9,kd)])))) (t7:H7 q=some (.dK kvs)) (w7:TiesIs K H7 kvs ts) (et:ts.map (·.1)=L.W.ts.map (·.1)++A) (SE:A=[]\/A=[w8]) (en:∀x∈ts,x.2.2.1∈(L.W.pts++[(w9,kd)]).map (·.1)/\x.2.2.2∈(L.W.pts++[(w9,kd)]).map (·.1)) (t:Addr) (nt:H7 t=none):∃B:Sd,B.a=t/\SdIs K (p0 H7 t (.tup [.ref p,.ref q])) B/\FG L.W B.W:=by
 have n98:w9≠w8:=λz=>by
  have:=bU hW.nd RW (by rw[z];exact PK);lia
 obtain⟨H8,e8,f8,m8,_⟩:=b0 (o:= .tup [.ref p,.ref q]) nt
 rw[e8]
 have pm:(h9 ⟨L.W.pts++[(w9,kd)],ts⟩).Perm (h9 L.W++(w9::A)):=by
  show((L.W.pts++[(w9,kd)]).map (·.1)++ts.map (·.1)).Perm _;rw[et,HL];unfold h9;show(L.W.pts.map (·.1)++[w9]++(L.W.ts.map (·.1)++A)).Perm (L.W.pts.map (·.1)++L.W.ts.map (·.1)++([w9]++A));rw[IF,IF,←IF [w9],←IF (L.W.ts.map (·.1))];exact Lz _ ((Kz).append_right A)
 have OR:(h9 L.W++(w9::A)).Nodup:=by
  refine Iu.mpr ⟨hL,?_,λx hx y hy e=>?_⟩
  .rcases SE with rfl|rfl
   .exact Lh _ _
   .exact IM.mpr ⟨by simpa using n98,Lh _ _⟩
  .subst e;rcases Iz.mp hy with rfl|hy
   .exact SD hx
   .rcases SE with rfl|rfl
    .cases hy
    .rw[Ih.mp hy] at hx;exact PN hx
 have hAl:A.length<=1:=by rcases SE with rfl|rfl<;>simp
 have nl:∀x∈h9 L.W++(w9::A),x.length<=100:=λx hx=>by
  rcases Ic.mp hx with z|z
  .exact hLn x z
  .have l_:x∈ws:=by
    rcases Iz.mp z with rfl|z
    .exact HX RW
    .rcases SE with rfl|rfl
     .cases z
     .rw[Ih.mp z];exact HX PK
   exact Ip (fj (hW.kd x l_)) (by decide)
 refine⟨⟨t,p,q,kvs,⟨L.W.pts++[(w9,kd)],ts⟩⟩,rfl,⟨⟨SqT.of f8,.inl (m8 _ _ g7),.inl (m8 _ _ t7),w7.mono m8.le⟩,m8 _ _ g7,m8 _ _ t7,F',pm.nodup_iff.mpr OR,?_,en,λx hx=>nl x (pm.mem_iff.mp hx)⟩,w9::A,pm,by rw[IV];lia⟩
 show(h9 ⟨L.W.pts++[(w9,kd)],ts⟩).length<=24
 rw[pm.length_eq,HQ,C0,IV]
 lia
abbrev gi (P:Program)(w:World)(K:Qc)(mg:Str->Option Value)(base:Heap):Prop:=K3 P w K mg base B8 2 "_law_rule" ["_law_cell","_law_words_here","_law_kinds_here"] [] (dI K)
theorem ml {f:Addr}{fd:FuncData}(T:Txt K mg)(X4:cQ P w K mg base)(bO:fV P w K mg base)(aJ:dB P w K mg base)(F:Fun K "_law_rule" "_law_rule" aV f fd):A1 P w K mg base B8 2 f fd ["_law_cell","_law_words_here","_law_kinds_here"] (dI K):=by
 refine F.ok sc__law_rule (λvs H Q E h=>?_) (λd_ A outer s H vs Q E hr h=>?_)
 .obtain⟨c,lw,lk,ws,ks,rfl,_⟩:=h;rfl
 .obtain⟨c,lw,lk,ws,ks,rfl,Xt,Xu,hB,hC,hW,hk,k⟩:=h;have hN:=sc__law_rule.nd;have hu:=u6 hr;refine⟨_,QSs.r (u7 (j8 (i:=3) hN rfl (by walk_at "l") (qC X4 (hr.mono (by decide)) j7 (i9 (qV 0) (i9 d8 j6))))
   (u7 (j8 (i:=4) hN rfl (by walk_at "l") (qC bO (hr.mono (by decide)) j7 (i9 (qV 3) (i9 (qV 1) (i9 (qV 2) j6)))))
   (u7 (j8 (i:=5) hN rfl (by walk_at "l") (bR j6))
   (u7 (aU (u4 (G8 K hr) (B6 q8 (k7 (k8 K hu) (qV 3) d8 (λ_ _=>rfl)) d8) d8 (p8 _)) (u7 (j8 (i:=6) hN rfl (by walk_at "l") (fu (P1 K rfl) T.b_dict Boot.«dict» (i9 (k7 (k8 K hu) (qV 4) d8 (λ_ _=>rfl)) j6)))
   (u7 (j8 (i:=7) hN rfl (by walk_at "l") (fu (P1 K rfl) T.b_dict Boot.«dict» (i9 (k7 (k8 K hu) (qV 4) d8 (λ_ _=>rfl)) j6)))
   (u7 (aw (k7 (k8 K hu) (qV 2) (B6 q8 (k7 (k8 K hu) (qV 3) d8 (λ_ _=>rfl)) d8) (λ_ _=>rfl)) (lV (qV 6) (k7 (k8 K hu) (qV 1) d8 (λ_ _=>rfl)) (z9 P w hu)))
   (u7 (aU (u4 (G8 K hr) (B6 q8 (k7 (k8 K hu) (qV 3) d8 (λ_ _=>rfl)) d8) d8 (p8 _)) (u7 (j8 (i:=8) hN rfl (by walk_at "l") (qB (F4 K rfl) T.b_sorted Boot.«sorted» (i9 (qV 6) j6)))
   (B0 (aw (G3 (i9 (k7 (k8 K hu) (qV 2) (B6 q8 (k7 (k8 K hu) (qV 3) d8 (λ_ _=>rfl)) d8) (λ_ _=>rfl)) (i9 (k7 (k8 K hu) (qV 8) d8 (λ_ _=>rfl)) (i9 (k7 (k8 K hu) (qV 8) (GZ xb d8) (λ_ _=>rfl)) j6)))) (lV (qV 7) (k7 (k8 K hu) (qV 1) d8 (λ_ _=>rfl)) (z9 P w hu))))) ck)
   (u7 (oP (qM IT IZ Ja z8 K (qV 5) (i9 (G3 (i9 (qV 6) (i9 (qV 7) j6))) j6)))
   (B0 (aU (u4 (G8 K hr) (B6 q8 (k7 (k8 K hu) (qV 3) d8 (λ_ _=>rfl)) d8) d8 (p8 _)) (u7 (j8 (i:=9) hN rfl (by walk_at "l") (fu (P1 K rfl) T.b_dict Boot.«dict» (i9 (k7 (k8 K hu) (qV 4) d8 (λ_ _=>rfl)) j6)))
   (u7 (aw (k7 (k8 K hu) (qV 2) (B6 pO d8 (B6 q8 (k7 (k8 K hu) (qV 3) d8 (λ_ _=>rfl)) d8)) (λ_ _=>rfl)) (lV (qV 9) (k7 (k8 K hu) (qV 1) d8 (λ_ _=>rfl)) (z9 P w hu)))
   (u7 (j8 (i:=10) hN rfl (by walk_at "l") (fu (P1 K rfl) T.b_dict Boot.«dict» (i9 (k7 (k8 K hu) (qV 4) d8 (λ_ _=>rfl)) j6)))
   (u7 (aU (u4 (G8 K hr) (B6 q8 (k7 (k8 K hu) (qV 3) d8 (λ_ _=>rfl)) d8) d8 (p8 _)) (u7 (j8 (i:=8) hN rfl (by walk_at "l") (qB (F4 K rfl) T.b_sorted Boot.«sorted» (i9 (qV 9) j6)))
   (B0 (aw (G3 (i9 (k7 (k8 K hu) (qV 2) (B6 pO d8 (B6 q8 (k7 (k8 K hu) (qV 3) d8 (λ_ _=>rfl)) d8)) (λ_ _=>rfl)) (i9 (k7 (k8 K hu) (qV 8) (GZ xb d8) (λ_ _=>rfl)) (i9 (k7 (k8 K hu) (qV 8) d8 (λ_ _=>rfl)) j6)))) (lV (qV 10) (k7 (k8 K hu) (qV 1) d8 (λ_ _=>rfl)) (z9 P w hu))))) ck)
   (B0 (oP (qM IT IZ Ja z8 K (qV 5) (i9 (G3 (i9 (qV 9) (i9 (qV 10) j6))) j6)))))))) ck))))))) ck)
   (B0 (A0 (G3 (i9 (qV 4) (i9 (qC aJ (hr.mono (by decide)) j7 (i9 (qV 4) (i9 (qV 3) (i9 (qV 1) (i9 (qV 2) j6))))) (i9 (qV 5) j6)))))))))),?_⟩
  refine x8 λQt hx=>?_;walk_at "e";refine⟨c,rfl,Xt,Xu,λld H1 ds n1 m1 hA1 hD=>?_⟩;walk_at "e";refine hx [some (.int c),some (.ref lw),some (.ref lk),some (.ref ld),none,none,none,none,none,none,none] _ ?_;clear hx;refine x8 λRc hx=>?_;walk_at "e";refine⟨ld,lw,lk,ds,ws,ks,rfl,hA1,m1 _ _ hB,m1 _ _ hC,hD,hW,hk,λL H2 m2 hL lf=>?_⟩;walk_at "e";refine hx [some (.int c),some (.ref lw),some (.ref lk),some (.ref ld),some (.ref L.a),none,none,none,none,none,none] _ ?_;clear hx;have NM:=lf.l1;have Oh:=lf.l2;have K_:=m1.trans m2;have Qy:=m2 _ _ hA1;have Uc:=K_ _ _ hB;have Ud:=K_ _ _ hC;have Nl:=k9 L.W.pts;have NO:=hL.at_.ts.length;obtain⟨w9,RW,Ue⟩:=ib hW 9 (by lia);obtain⟨w8,PK,Qx⟩:=ib hW 8 (by lia);have SD:w9∉h9 L.W:=λm=>by
   rcases Ic.mp m with z|z
   .obtain⟨i,hi,e⟩:=lf.pi z;have:=bU hW.nd e RW;lia
   .obtain⟨i,_,hi,e⟩:=lf.ti z;have:=bU hW.nd e RW;lia
  have PN:w8∉h9 L.W:=λm=>by
   rcases Ic.mp m with z|z
   .obtain⟨i,hi,e⟩:=lf.pi z;have:=bU hW.nd e PK;lia
   .obtain⟨i,_,hi,e⟩:=lf.ti z;have:=bU hW.nd e PK;lia
  refine x8 λVk hx=>?_;walk_at "e";refine⟨d9 (by simp),λlb nb=>?_⟩;obtain⟨H3,e3,f3,m3,_⟩:=b0 (o:= .lst []) nb;rw[e3];walk_at "e";refine hx [some (.int c),some (.ref lw),some (.ref lk),some (.ref ld),some (.ref L.a),some (.ref lb),none,none,none,none,none] _ ?_;clear hx;refine x8 λUa hx=>?_;suffices go:∀(H':Hp) (v6 v7 v8 v9 v10:Option V) (bs:List Sd),Same H2 H'->H' lb=some (.lst (bs.map λs=>V.ref s.a))->(∀b∈bs,SdIs K H' b)->bs.length<=2->(∀b∈bs,FG L.W b.W)->Ua [some (.int c),some (.ref lw),some (.ref lk),some (.ref ld),some (.ref L.a),some (.ref lb),v6,v7,v8,v9,v10] H' by
   walk_at "e";obtain⟨d,hd,_,_⟩:=G6 hD 22 (by lia) (by lia);refine i6 (SqL.of (m3 _ _ Qy)) hd ?_;walk_at "e";refine C4 (λhb=>?_) (λhb=>?_);rotate_left
   .walk_at "e";exact go H3 none none none none none [] m3 f3 (λ_ h=>nomatch h) (by decide) (λ_ h=>nomatch h)
   have L3:=hL.same m3;walk_at "r";refine b5 L3.at_.tup (b4 (j:=0) rfl) ?_;walk_at "r";refine C9 L3.at_.pts (λp np=>?_);obtain⟨H4,e4,f4,m4,_⟩:=b0 (o:= .dK (j4 L.W.pts)) np;rw[e4];have OQ:=m3.trans m4;have Qz:H2 p=none:=Same.free m3 np;have npl:lb≠p:=λz=>by rw[z] at f3;rw[f3] at np;cases np
   walk_at "r";refine b5 (hL.same OQ).at_.tup (b4 (j:=1) rfl) ?_;walk_at "r";refine C9 (hL.same OQ).at_.ties (λq nq=>?_);obtain⟨H5,e5,f5,m5,_⟩:=b0 (o:= .dK L.kvs) nq;rw[e5];have QB:H2 q=none:=Same.free OQ nq;have F':p≠q:=i8 f4 nq;have nql:lb≠q:=λz=>by rw[z] at f3;rw[m4 _ _ f3] at nq;cases nq
   have w_:=OQ.trans m5;have g5:=m5 _ _ f4;walk_at "r";obtain⟨d3,Tj,hd3a,hd3b⟩:=G6 hD 23 (by lia) (by lia);refine i6 (SqL.of (w_ _ _ Qy)) Tj ?_;walk_at "r";obtain⟨kd,Ng,_⟩:=A9 (ss:=ks) (i:=d3 % 2) (by lia) (by lia);refine i6 (SqL.of (w_ _ _ Ud)) Ng ?_;walk_at "r";refine i6 (SqL.of (w_ _ _ Uc)) (Ue 9 rfl) ?_;refine G9 (x6 (k:=Sum.inr w9) g5 (d9 (by rw[k9];lia)) ?_);rw[bj (λz=>SD (HU _ z))];have M_:Same H2 (p0 H5 p (.dK (j4 (L.W.pts++[(w9,kd)])))):=A3 w_ Qz;have g6:(p0 H5 p (.dK (j4 (L.W.pts++[(w9,kd)])))) p=some (.dK (j4 (L.W.pts++[(w9,kd)]))):=b9;have t6:(p0 H5 p (.dK (j4 (L.W.pts++[(w9,kd)])))) q=some (.dK L.kvs):=by rw[b7 F'.symm];exact f5
   have Xv:(p0 H5 p (.dK (j4 (L.W.pts++[(w9,kd)])))) lb=some (.lst []):=by rw[b7 npl];exact(m4.trans m5) _ _ f3
   generalize p0 H5 p (.dK (j4 (L.W.pts++[(w9,kd)])))=H6 at M_ g6 t6 Xv⊢;have w6:=hL.at_.ts.mono M_.le;have Rj:∀x∈L.W.ts,x.2.2.1∈(L.W.pts++[(w9,kd)]).map (·.1)/\x.2.2.2∈(L.W.pts++[(w9,kd)]).map (·.1):=λx hx=>by
    rw[HL];exact⟨HU _ (hL.ends x hx).1,HU _ (hL.ends x hx).2⟩
   walk_at "e";refine x8 λXw UU=>?_;suffices go5:∀(H7:Hp) (v8:Option V) (kvs:List (j3×V)) (ts:List (Str×F0)) (A:List Str),Same H2 H7->True->H7 p=some (.dK (j4 (L.W.pts++[(w9,kd)])))->H7 q=some (.dK kvs)->H7 lb=some (.lst [])->TiesIs K H7 kvs ts->ts.map (·.1)=L.W.ts.map (·.1)++A->(A=[]\/A=[w8])->(∀x∈ts,x.2.2.1∈(L.W.pts++[(w9,kd)]).map (·.1)/\x.2.2.2∈(L.W.pts++[(w9,kd)]).map (·.1))->Xw [some (.int c),some (.ref lw),some (.ref lk),some (.ref ld),some (.ref L.a),some (.ref lb),some (.ref p),some (.ref q),v8,none,none] H7 by
    walk_at "e";obtain⟨d4,TX,_,_⟩:=G6 hD 24 (by lia) (by lia);refine i6 (SqL.of (M_ _ _ Qy)) TX ?_;walk_at "e";refine C4 (λXx=>?_) (λXx=>?_);rotate_left
    .walk_at "e";exact go5 H6 _ L.kvs L.W.ts [] M_ trivial g6 t6 Xv w6 (by rw[Jl]) (.inl rfl) Rj
    walk_at "r";refine z6 (ss:=(L.W.pts++[(w9,kd)]).map (·.1)) (.inl g6) (by rw[B5,r6]) (by rw[HI,HQ,Il];lia) (λs7 c1 c2 l7 n7=>?_);obtain⟨H7,e7,f7,m7,_⟩:=b0 (o:= .lst (s7.map V.str)) n7;rw[e7];have OG:=M_.trans m7;have L_:=c1.length_eq;rw[HI,HQ,Il] at L_;walk_at "r";obtain⟨d5,TY,TZ,Xy⟩:=G6 hD 25 (by lia) (by lia);refine i6 (SqL.of (OG _ _ Qy)) TY ?_;walk_at "r";obtain⟨ke,Xz,_⟩:=A9 (ss:=ks) (i:=d5 % 2) (by lia) (by lia);refine i6 (SqL.of (OG _ _ Ud)) Xz ?_;walk_at "r";obtain⟨oa,Qw,RU⟩:=A9 (ss:=s7) (i:=0) (by lia) (by lia);refine i6 (SqL.of f7) Qw ?_;walk_at "r";obtain⟨ob,z_,Qq⟩:=rV (ss:=s7) (by lia);refine i6 (SqL.of f7) z_ ?_;walk_at "r";refine⟨d9 (by simp),λla na=>?_⟩;obtain⟨Ha,ea,fa,ma,_⟩:=b0 (o:= .tup _) na;rw[ea];have Ug:=OG.trans ma;have PQ:=m7.trans ma;have ta:=PQ _ _ t6;walk_at "r";refine i6 (SqL.of (Ug _ _ Uc)) (Qx 8 rfl) ?_;refine G9 (x6 (k:=Sum.inr w8) ta (d9 (by lia)) ?_);refine go5 _ _ _ (L.W.ts++[(w8,(ke,oa,ob))]) [w8] (A3 Ug QB) trivial (by rw[b7 F'];exact PQ _ _ g6) b9 (by rw[b7 nql];exact PQ _ _ Xv) (P6 ta (fS (w6.mono PQ.le) (λz=>PN (Ia _ z)) (SqT.of fa))) (by rw[HL];rfl) (.inr rfl) (λx hx=>?_);rcases Ic.mp hx with z|z
    .exact Rj x z
    .rw[Ih.mp z];exact⟨c1.mem_iff.mp RU,c1.mem_iff.mp Qq⟩
   intro H7 v8 kvs ts A s7 ot g7 t7 l7 w7 et SE en;refine UU _ _ ?_;clear UU;walk_at "r";refine⟨.inl ⟨rfl,_,SqL.of l7⟩,?_⟩;walk_at "e";refine⟨d9 (by simp),λt nt=>?_⟩;obtain⟨B,ha,ZO,ZP⟩:=xy hW hL.nd hL.nl (by lia) RW PK SD PN F' g7 t7 w7 et SE en t nt;obtain⟨H8,e8,f8,m8,_⟩:=b0 (o:= .tup [.ref p,.ref q]) nt;rw[e8] at ZO⊢;have l8:=m8 _ _ l7;walk_at "e";refine⟨lb,_,.ref t,rfl,rfl,l8,d9 (by simp),?_⟩;have mB:Same H2 (p0 H8 lb (.lst ([]++[.ref t]))):=A3 (s7.trans m8) nb;have fB:(p0 H8 lb (.lst ([]++[.ref t]))) lb=some (.lst ([B].map λs=>V.ref s.a)):=by rw[b9,←ha];rfl
   have sB:SdIs K (p0 H8 lb (.lst ([]++[.ref t]))) B:=pR l8 ZO;generalize p0 H8 lb (.lst ([]++[.ref t]))=HB at mB fB sB⊢;walk_at "e";obtain⟨d6,Xg,_,_⟩:=G6 hD 26 (by lia) (by lia);refine i6 (SqL.of (mB _ _ Qy)) Xg ?_;walk_at "e";refine C4 (λhb6=>?_) (λhb6=>?_);rotate_left
   .walk_at "e";exact go HB _ _ _ _ _ [B] mB fB (λb hb=>by rw[Ih.mp hb];exact sB) (by simp) (λb hb=>by rw[Ih.mp hb];exact ZP)
   have ZQ:=hL.same mB;walk_at "r";refine b5 ZQ.at_.tup (b4 (j:=0) rfl) ?_;walk_at "r";refine C9 ZQ.at_.pts (λp2 Qz=>?_);obtain⟨Uh,e42,XA,XB,_⟩:=b0 (o:= .dK (j4 L.W.pts)) Qz;rw[e42];have QC:=mB.trans XB;have XC:H2 p2=none:=Same.free mB Qz;have XD:lb≠p2:=λz=>by rw[z] at fB;rw[fB] at Qz;cases Qz
   walk_at "r";obtain⟨d32,XE,ZR,ZS⟩:=G6 hD 23 (by lia) (by lia);refine i6 (SqL.of (QC _ _ Qy)) XE ?_;walk_at "r";obtain⟨OS,XF,_⟩:=A9 (ss:=ks) (i:=1 -d32 % 2) (by lia) (by lia);refine i6 (SqL.of (QC _ _ Ud)) XF ?_;walk_at "r";refine i6 (SqL.of (QC _ _ Uc)) (Ue 9 rfl) ?_;refine G9 (x6 (k:=Sum.inr w9) XA (d9 (by rw[k9];lia)) ?_);rw[bj (λz=>SD (HU _ z))];have Nh:Same H2 (p0 Uh p2 (.dK (j4 (L.W.pts++[(w9,OS)])))):=A3 QC XC;have RX:Same HB (p0 Uh p2 (.dK (j4 (L.W.pts++[(w9,OS)])))):=A3 XB Qz;have RY:(p0 Uh p2 (.dK (j4 (L.W.pts++[(w9,OS)])))) p2=some (.dK (j4 (L.W.pts++[(w9,OS)]))):=b9;have Pn:(p0 Uh p2 (.dK (j4 (L.W.pts++[(w9,OS)])))) lb=some (.lst ([B].map λs=>V.ref s.a)):=by rw[b7 XD];exact XB _ _ fB
   generalize p0 Uh p2 (.dK (j4 (L.W.pts++[(w9,OS)])))=H452 at Nh RX RY Pn⊢;walk_at "r";refine b5 (hL.same Nh).at_.tup (b4 (j:=1) rfl) ?_;walk_at "r";refine C9 (hL.same Nh).at_.ties (λq2 QB=>?_);obtain⟨H52,e52,f52,Vl,_⟩:=b0 (o:= .dK L.kvs) QB;rw[e52];have XG:H2 q2=none:=Same.free Nh QB;have Ui:p2≠q2:=i8 RY QB;have XH:lb≠q2:=i8 Pn QB;have ZT:=RX.trans Vl;have nqB:HB q2=none:=RX.free QB;have QD:=Nh.trans Vl;have XI:=Vl _ _ RY;have ZU:=f52;have Uj:=Vl _ _ Pn;have ZV:=hL.at_.ts.mono QD.le;have Pp:∀x∈L.W.ts,x.2.2.1∈(L.W.pts++[(w9,OS)]).map (·.1)/\x.2.2.2∈(L.W.pts++[(w9,OS)]).map (·.1):=λx hx=>by
    rw[HL];exact⟨HU _ (hL.ends x hx).1,HU _ (hL.ends x hx).2⟩
   walk_at "e";refine x8 λXJ hx52=>?_;suffices go52:∀(H7:Hp) (v8:Option V) (kvs:List (j3×V)) (ts:List (Str×F0)) (A:List Str),Same H2 H7->Same HB H7->H7 p2=some (.dK (j4 (L.W.pts++[(w9,OS)])))->H7 q2=some (.dK kvs)->H7 lb=some (.lst ([B].map λs=>V.ref s.a))->TiesIs K H7 kvs ts->ts.map (·.1)=L.W.ts.map (·.1)++A->(A=[]\/A=[w8])->(∀x∈ts,x.2.2.1∈(L.W.pts++[(w9,OS)]).map (·.1)/\x.2.2.2∈(L.W.pts++[(w9,OS)]).map (·.1))->XJ [some (.int c),some (.ref lw),some (.ref lk),some (.ref ld),some (.ref L.a),some (.ref lb),some (.ref p),some (.ref q),v8,some (.ref p2),some (.ref q2)] H7 by
    walk_at "e";obtain⟨d4,TX,_,_⟩:=G6 hD 27 (by lia) (by lia);refine i6 (SqL.of (QD _ _ Qy)) TX ?_;walk_at "e";refine C4 (λXx=>?_) (λXx=>?_);rotate_left
    .walk_at "e";exact go52 H52 _ L.kvs L.W.ts [] QD ZT XI ZU Uj ZV (by rw[Jl]) (.inl rfl) Pp
    walk_at "r";refine z6 (ss:=(L.W.pts++[(w9,OS)]).map (·.1)) (.inl XI) (by rw[B5,r6]) (by rw[HI,HQ,Il];lia) (λs7 c1 c2 l7 n7=>?_);obtain⟨H7,e7,f7,m7,_⟩:=b0 (o:= .lst (s7.map V.str)) n7;rw[e7];have OG:=QD.trans m7;have L_:=c1.length_eq;rw[HI,HQ,Il] at L_;walk_at "r";obtain⟨d5,TY,TZ,Xy⟩:=G6 hD 25 (by lia) (by lia);refine i6 (SqL.of (OG _ _ Qy)) TY ?_;walk_at "r";obtain⟨ke,Xz,_⟩:=A9 (ss:=ks) (i:=1 -d5 % 2) (by lia) (by lia);refine i6 (SqL.of (OG _ _ Ud)) Xz ?_;walk_at "r";obtain⟨oa,Qw,RU⟩:=rV (ss:=s7) (by lia);refine i6 (SqL.of f7) Qw ?_;walk_at "r";obtain⟨ob,z_,Qq⟩:=A9 (ss:=s7) (i:=0) (by lia) (by lia);refine i6 (SqL.of f7) z_ ?_;walk_at "r";refine⟨d9 (by simp),λla na=>?_⟩;obtain⟨Ha,ea,fa,ma,_⟩:=b0 (o:= .tup _) na;rw[ea];have Ug:=OG.trans ma;have PQ:=m7.trans ma;have ta:=PQ _ _ ZU;walk_at "r";refine i6 (SqL.of (Ug _ _ Uc)) (Qx 8 rfl) ?_;refine G9 (x6 (k:=Sum.inr w8) ta (d9 (by lia)) ?_);refine go52 _ _ _ (L.W.ts++[(w8,(ke,oa,ob))]) [w8] (A3 Ug XG) (A3 (ZT.trans PQ) nqB) (by rw[b7 Ui];exact PQ _ _ XI) b9 (by rw[b7 XH];exact PQ _ _ Uj) (P6 ta (fS (ZV.mono PQ.le) (λz=>PN (Ia _ z)) (SqT.of fa))) (by rw[HL];rfl) (.inr rfl) (λx hx=>?_);rcases Ic.mp hx with z|z
    .exact Pp x z
    .rw[Ih.mp z];exact⟨c1.mem_iff.mp RU,c1.mem_iff.mp Qq⟩
   intro H72 v82 E_ ts2 A2 s72 ot2 g72 t72 l72 w72 We hA'2 en2;refine hx52 _ _ ?_;clear hx52;walk_at "e";refine⟨.inl ⟨rfl,_,SqL.of l72⟩,?_⟩;walk_at "e";refine⟨d9 (by simp),λt2 nt2=>?_⟩;obtain⟨B2,ha2,Uk,XN⟩:=xy hW hL.nd hL.nl (by lia) RW PK SD PN Ui g72 t72 w72 We hA'2 en2 t2 nt2;obtain⟨H82,e82,f82,XO,_⟩:=b0 (o:= .tup [.ref p2,.ref q2]) nt2;rw[e82] at Uk⊢;have XQ:=XO _ _ l72;walk_at "e";refine⟨lb,_,.ref t2,rfl,rfl,XQ,d9 (by simp),?_⟩;refine go _ _ _ _ _ _ [B,B2] (A3 (s72.trans XO) nb) (by rw[b9,←ha2];rfl) (λb hb=>?_) (by simp) (λb hb=>?_)
   .rcases Iz.mp hb with rfl|hb
    .exact pR XQ ((sB.same ot2).same XO)
    .rw[Ih.mp hb];exact pR XQ Uk
   .rcases Iz.mp hb with rfl|hb
    .exact ZP
    .rw[Ih.mp hb];exact XN
  intro H4 v6 v7 v8 v9 v10 bs s4 f4 WW OP hbr;refine hx _ _ ?_;clear hx;have L4:=hL.same s4;walk_at "r";refine⟨L,ld,lw,lk,ds,ws,ks,rfl,L4,lf,s4 _ _ Qy,s4 _ _ Uc,s4 _ _ Ud,hD,hW,hk,λR H5 m5 hR rg=>?_⟩;walk_at "r";refine⟨d9 (by simp),λt nt=>?_⟩;obtain⟨H6,e6,f6,m6,_⟩:=b0 (o:= .tup [.ref L.a,.ref R.a,.ref lb]) nt;rw[e6];have Vm:=m5.trans m6;have Vn:=Vm _ _ f4;exact k t lb L R bs H6 (K_.trans (s4.trans Vm)) ⟨SqT.of f6,L4.same Vm,hR.same m6,SqL.of Vn,λb hb=>(WW b hb).same Vm⟩ Vn lf rg OP hbr
def oW (g:Str->Str)(x:Str×F0):Str×F0:=(g x.1,(x.2.1,g x.2.2.1,g x.2.2.2))
def rX (g:Str->Str)(W L:A6):A6:=⟨W.pts++L.pts.map (λx=>(g x.1,x.2)),W.ts++L.ts.map (oW g)⟩
structure PlOk (ns:List Str) (L:A6) (fx:List (Str×Str)):Prop where
 ks:(fx.map (·.1)).Perm (h9 L)
 vs:∀x∈fx,x.2∈ns
 nd:(fx.map (·.2)).Nodup
def aQ (K:Qc):Sp:=λvs H Q _=>∃(W L:Sd) (c:Addr) (ns:List Str),vs=[.ref W.a,.ref L.a,.ref c]/\WebIs 7 K H W.a W.p W.q W.kvs W.W/\SdIs K H L/\(h9 L.W).length<=5/\H c=some (.lst (ns.map V.str))/\ns.length=5/\ns.Nodup/\(∀n∈ns,n.length<=100/\n∉h9 W.W)/\
 ∀(t m:Addr) (S:Sd) (fx:List (Str×Str)) (H':Hp),Same H H'->H' t=some (.tup [.ref S.a,.ref m])->H m=none->SdIs K H' S->H' m=some (.dK (j4 fx))->PlOk ns L.W fx->S.W=rX (j0 (j4 fx)) W.W L.W->Q (.ref t) H'
section
variable {ns:List Str} {W L:A6} {fx:List (Str×Str)}
theorem PlOk.ndk (h:PlOk ns L fx)(nd:(h9 L).Nodup):(fx.map (·.1)).Nodup:=h.ks.nodup_iff.mpr nd
theorem PlOk.at_ (h:PlOk ns L fx)(nd:(h9 L).Nodup){n:Str}(hn:n∈h9 L):TxtAt (j4 fx) n/\j0 (j4 fx) n∈ns/\(n,j0 (j4 fx) n)∈fx:=by
 obtain⟨⟨n',s⟩,hx,e⟩:=HP.mp (h.ks.mem_iff.mpr hn);have e':n'=n:=e;subst e';have z:=Z5 (h.ndk nd) hx;rw[z.2];exact⟨z.1,h.vs _ hx,hx⟩
theorem PlOk.inj (h:PlOk ns L fx)(nd:(h9 L).Nodup){m n:Str}(hm:m∈h9 L)(hn:n∈h9 L)(e:j0 (j4 fx) m=j0 (j4 fx) n):m=n:=by
 have z1:=(h.at_ nd hm).2.2;have z2:=(h.at_ nd hn).2.2;rw[e] at z1;have key:∀{l:List (Str×Str)} {a b c:Str},(l.map (·.2)).Nodup->(a,c)∈l->(b,c)∈l->a=b:=fun{l}=>by
  induction l with
  |nil=>intro a b c _ h;cases h
  |cons x r ih=>
   intro a b c nd h1 h2
   have nd':=IM.mp (show(x.2::r.map (·.2)).Nodup from nd)
   rcases Iz.mp h1 with e1|h1
   .rcases Iz.mp h2 with e2|h2
    .rw[←e1] at e2;exact(JS e2).1.symm
    .exact absurd (HP.mpr ⟨_,h2,by rw[←e1]⟩) nd'.1
   .rcases Iz.mp h2 with e2|h2
    .exact absurd (HP.mpr ⟨_,h1,by rw[←e2]⟩) nd'.1
    .exact ih nd'.2 h1 h2
 exact key h.nd z1 z2
theorem PlOk.ndg (h:PlOk ns L fx)(nd:(h9 L).Nodup):((h9 L).map (j0 (j4 fx))).Nodup:=by
 have key:∀{l:List Str},l.Nodup->(∀m∈l,m∈h9 L)->(l.map (j0 (j4 fx))).Nodup:=fun{l}=>by
  induction l with
  |nil=>intro _ _;exact JG
  |cons x r ih=>
   intro nd' hs
   have n2:=IM.mp nd'
   refine IM.mpr ⟨λz=>?_,ih n2.2 λm hm=>hs m (Ij _ hm)⟩
   obtain⟨y,hy,e⟩:=HP.mp z
   rw[h.inj nd (hs y (Ij _ hy)) (hs x Iw) e] at hy
   exact n2.1 hy
 exact key nd λ_ h=>h
theorem lj (g:Str->Str):(h9 (rX g W L)).Perm (h9 W++(h9 L).map g):=by
 unfold h9 rX;show((W.pts++L.pts.map (λx=>(g x.1,x.2))).map (·.1)++(W.ts++L.ts.map (oW g)).map (·.1)).Perm (W.pts.map (·.1)++W.ts.map (·.1)++(L.pts.map (·.1)++L.ts.map (·.1)).map g);rw[HL,HL,HL,Iy,Iy,Iy,Iy];generalize W.pts.map (·.1)=A;generalize W.ts.map (·.1)=B;show(A++L.pts.map (λx=>g x.1)++(B++L.ts.map (λx=>g x.1))).Perm (A++B++(L.pts.map (λx=>g x.1)++L.ts.map (λx=>g x.1)));generalize L.pts.map (λx=>g x.1)=C;generalize L.ts.map (λx=>g x.1)=D;rw[IF,IF,←IF C,←IF B];exact Lz _ (Kz.append_right D)
end
theorem rY:∀(a b:List Str),((a.zip b).map (·.2)).Sublist b
 |[],_=>List.nil_sublist _
 |_::_,[]=> .slnil
 |n::a,x::b=>(rY a b).cons_cons x
theorem vK {H:Hp}{kvs:List (j3×V)}{ts:List (Str×F0)}(w:TiesIs K H kvs ts):kvs.map (λkv=>kV kv.1)=(ts.map (·.1)).map V.str:=by
 have h:kvs.map (λkv=>kV kv.1)=(kvs.map (·.1)).map kV:=by rw[Iy];rfl
 rw[h,w.keys,Iy,Iy];rfl
theorem zg {H:Hp}{d:Addr}{kvs:List (j3×V)}{n:Str}{Q:VK}(h:H d=some (.dK kvs))(t:TxtAt kvs n)(q:Q (.str (j0 kvs n)) H):nu K (.ref d) (.str n) H Q:=by
 obtain⟨s,hs⟩:=t;refine C2 (v:= .str (j0 kvs n)) ?_ q;have z:=G7 (H:=H) (k:=Sum.inr n) (.inl h);rw[hs] at z;rw[cc hs];exact z
abbrev bC (P:Program)(w:World)(K:Qc)(mg:Str->Option Value)(base:Heap):Prop:=K3 P w K mg base B8 1 "_law_planted" ["_law_web_here","_law_piece","_law_names_here"] [] (aQ K)
theorem gJ {f:Addr}{fd:FuncData}(T:Txt K mg)(F:Fun K "_law_planted" "_law_planted" T7 f fd):A1 P w K mg base B8 1 f fd ["_law_web_here","_law_piece","_law_names_here"] (aQ K):=by
 refine F.ok sc__law_planted (λvs H Q E h=>?_) (λd_ A outer s H vs Q E hr h=>?_)
 .obtain⟨W,L,c,ns,rfl,_⟩:=h;rfl
 .obtain⟨W,L,c,ns,rfl,hW,hL,RF,hC,PF,G_,SV,k⟩:=h;have lW:=hW.len;rw[C0] at lW;have lL:=RF;rw[C0] at lL;have eW1:=k9 W.W.pts;have eW2:=hW.at_.ts.length;have eL1:=k9 L.W.pts;have eL2:=hL.at_.ts.length;have hN:=sc__law_planted.nd;have hu:=u6 hr;refine⟨_,QSs.r (u7 (j8 (i:=3) hN rfl (by walk_at "l") uH)
   (u7 (P2 IK rfl (AU K T.b_zip (i9 (B6 (G0 K) (qB (F4 K rfl) T.b_sorted Boot.«sorted» (i9 (k7 (k8 K hu) (qV 1) d8 (λ_ _=>rfl)) j6)) (qB (F4 K rfl) T.b_sorted Boot.«sorted» (i9 (k7 (k8 K hu) (qV 1) d8 (λ_ _=>rfl)) j6))) (i9 (qV 2) j6))) (pP K rfl (dw (G1 (i:=4) hN rfl (by walk_at "l")) (dw (G1 (i:=5) hN rfl (by walk_at "l")) pI)))
    (B0 (aw (qV 5) (lV (qV 3) (qV 4) (z9 P w hu)))))
   (u7 (j8 (i:=6) hN rfl (by walk_at "l") (fu (P1 K rfl) T.b_dict Boot.«dict» (i9 (k7 (k8 K hu) (qV 0) d8 (λ_ _=>rfl)) j6)))
   (u7 (P2 IK rfl (N7 K (k7 (k8 K hu) (qV 1) d8 (λ_ _=>rfl))) (G1 (i:=4) hN rfl (by walk_at "l"))
    (B0 (aw (k7 (k8 K hu) (k7 (k8 K hu) (qV 1) d8 (λ_ _=>rfl)) (qV 4) (λ_ _=>rfl)) (lV (qV 6) (k7 (k8 K hu) (qV 3) (qV 4) (λ_ _=>rfl)) (z9 P w hu)))))
   (u7 (j8 (i:=7) hN rfl (by walk_at "l") (fu (P1 K rfl) T.b_dict Boot.«dict» (i9 (k7 (k8 K hu) (qV 0) d8 (λ_ _=>rfl)) j6)))
   (u7 (P2 IK rfl (N7 K (k7 (k8 K hu) (qV 1) d8 (λ_ _=>rfl))) (G1 (i:=4) hN rfl (by walk_at "l"))
    (u7 (j8 (i:=8) hN rfl (by walk_at "l") (k7 (k8 K hu) (k7 (k8 K hu) (qV 1) d8 (λ_ _=>rfl)) (qV 4) (λ_ _=>rfl)))
   (B0 (aw (G3 (i9 (k7 (k8 K hu) (qV 8) d8 (λ_ _=>rfl)) (i9 (k7 (k8 K hu) (qV 3) (k7 (k8 K hu) (qV 8) d8 (λ_ _=>rfl)) (λ_ _=>rfl)) (i9 (k7 (k8 K hu) (qV 3) (k7 (k8 K hu) (qV 8) d8 (λ_ _=>rfl)) (λ_ _=>rfl)) j6)))) (lV (qV 7) (k7 (k8 K hu) (qV 3) (qV 4) (λ_ _=>rfl)) (z9 P w hu))))))
   (B0 (A0 (G3 (i9 (G3 (i9 (qV 6) (i9 (qV 7) j6))) (i9 (qV 3) j6))))))))))),?_⟩
  walk_at "e";refine M8 ?_;walk_at "e";intro d nd;obtain⟨H1,e1,f1,m1,_⟩:=b0 (o:= .dK []) nd;rw[e1];have L1:=hL.same m1;walk_at "e";refine x8 λQt hx=>?_;walk_at "e";refine b5 L1.at_.tup (b4 (j:=0) rfl) ?_;walk_at "e";refine z6 (ss:=L.W.pts.map (·.1)) (.inl L1.hp) (by rw[B5,r6]) (by rw[HI];lia) (λs1 a1 a2 l2 n2=>?_);obtain⟨H2,e2,f2,m2,_⟩:=b0 (o:= .lst (s1.map V.str)) n2;rw[e2];have L2:=L1.same m2;walk_at "e";refine b5 L2.at_.tup (b4 (j:=1) rfl) ?_;walk_at "e";refine z6 (ss:=L.W.ts.map (·.1)) (.inl L2.hq) (by rw[L2.at_.ts.keys,r6]) (by rw[HI];lia) (λs2 b1 b2 l3 n3=>?_);obtain⟨H3,e3,f3,m3,_⟩:=b0 (o:= .lst (s2.map V.str)) n3;rw[e3];have NM:=a1.length_eq;have Oh:=b1.length_eq;rw[HI] at NM Oh;refine ow (m3 _ _ f2) f3 (d9 (by rw[HI,HI];lia)) (λl4 n4=>?_);rw[←HL];obtain⟨H4,e4,f4,m4,_⟩:=b0 (o:= .lst ((s1++s2).map V.str)) n4;rw[e4];have ps:(s1++s2).Perm (h9 L.W):=a1.append b1;have Sl:(s1++s2).length=(h9 L.W).length:=ps.length_eq;generalize s1++s2=s at f4 ps Sl;have RH:=m2.trans (m3.trans m4);have RS:=m1.trans RH;have hsn:s.Nodup:=ps.nodup_iff.mpr hL.nd;obtain⟨fx,Ul⟩:∃fx,fx=s.zip ns:=⟨_,rfl⟩
  have ZW:fx.map (·.1)=s:=by rw[Ul];exact List.map_fst_zip (by lia)
  have J_:fx.length=s.length:=by rw[Ul,Kd];lia
  have pl:PlOk ns L.W fx:=⟨by rw[ZW];exact ps,λx hx=>by rw[Ul] at hx;exact(LJ hx).2,by rw[Ul];exact G_.sublist (rY s ns)⟩
  walk_at "e";refine⟨l4,c,_,_,rfl,SqL.of f4,SqL.of (RS _ _ hC),?_⟩;refine J2 (n:=s.length) (λi σ H'=>∃v4 v5:Option V,σ=[some (.ref W.a),some (.ref L.a),some (.ref c),some (.ref d),v4,v5,none,none,none]/\Same H H'/\H' l4=some (.lst (s.map V.str))/\H' d=some (.dK (j4 (fx.take i)))) ⟨none,none,rfl,RS,f4,RH _ _ f1⟩ (λi σ H' hi hp=>?_) ?_ ?_
  .obtain⟨_,_,_,s6,f6,_⟩:=hp;exact⟨_,_,.str (s[i]),.str (ns[i]'(by lia)),SqL.of f6,SqL.of (s6 _ _ hC),by rw[HK,HH hi];rfl,by rw[HK,HH (show i<ns.length by lia)];rfl⟩
  .rintro bk i v σ H6 H6' hi ⟨v4,v5,rfl,s6,f6,Rk⟩ ⟨t,x,y,hx,hy,nt,rfl,rfl⟩;have q_:=hx _ (SqL.of f6);have Rt:=hy _ (SqL.of (s6 _ _ hC));rw[HK,HH hi] at q_;rw[HK,HH (show i<ns.length by lia)] at Rt;cases q_;cases Rt;obtain⟨H7,e7,f7,m7,_⟩:=b0 (o:= .tup _) nt;rw[e7];have QY:fx[i]?=some (s[i],ns[i]'(by lia)):=by
    have z:(s.zip ns)[i]?=some (s[i],ns[i]'(by lia)):=KH.mpr ⟨HH hi,HH (by lia)⟩;rw[←Ul] at z;exact z
   have hnw:s[i]∉(fx.take i).map (·.1):=by
    rw[NW,ZW];exact N9 hsn (HH hi)
   refine J6 (SqT.of f7) rfl ?_;walk_at "e";refine G9 (x6 (k:=Sum.inr s[i]) (m7 _ _ Rk) (d9 (by rw[k9,HV];lia)) ?_);rw[bj hnw];refine⟨_,_,rfl,A3 (s6.trans m7) nd,by rw[b7 (λe=>by rw[e,Rk] at f6;cases f6)];exact m7 _ _ f6,?_⟩;rw[b9,IE,QY];rfl
  rintro σ H6 ⟨v4,v5,rfl,s6,f6,Rk⟩;refine⟨⟨_,_,SqL.of f6,SqL.of (s6 _ _ hC),.inl (by rw[HI];exact HJ _)⟩,?_⟩;rw[HW (by lia)] at Rk;refine hx [some (.ref W.a),some (.ref L.a),some (.ref c),some (.ref d),v4,v5,none,none,none] H6 ?_;clear hx;have W6:=hW.same s6;refine x8 λRc hx=>?_;walk_at "e";refine b5 W6.at_.tup (b4 (j:=0) rfl) ?_;walk_at "e";refine C9 W6.at_.pts (λp np=>?_);obtain⟨H7,e7,f7,m7,_⟩:=b0 (o:= .dK (j4 W.W.pts)) np;rw[e7];walk_at "e";refine hx [some (.ref W.a),some (.ref L.a),some (.ref c),some (.ref d),v4,v5,some (.ref p),none,none] H7 ?_;clear hx;have s7:=s6.trans m7;have L7:=hL.same s7;have fd7:=m7 _ _ Rk;have npd:p≠d:=(i8 Rk np).symm;have np0:H p=none:=s6.free np;have npL:L.p≠p:=i8 (hL.same s6).hp np;have npq:L.q≠p:=i8 (hL.same s6).hq np;obtain⟨g,hg⟩:∃g,g=j0 (j4 fx):=⟨_,rfl⟩
  have XR:(h9 (rX g W.W L.W)).Nodup:=by
   refine(lj g).nodup_iff.mpr (Iu.mpr ⟨hW.nd,by rw[hg];exact pl.ndg hL.nd,λa ha b hb e=>?_⟩);subst e;obtain⟨n,hn,rfl⟩:=HP.mp hb;rw[hg] at ha;exact(SV _ (pl.at_ hL.nd hn).2.1).2 ha
  have nd1:((rX g W.W L.W).pts.map (·.1)).Nodup:=E1 XR;have OR:((rX g W.W L.W).ts.map (·.1)).Nodup:=N1 XR;have nmI:∀x∈L.W.pts,x.1∈h9 L.W:=λx hx=>HU _ (HP.mpr ⟨x,hx,rfl⟩);have nmT:∀x∈L.W.ts,x.1∈h9 L.W:=λx hx=>Ia _ (HP.mpr ⟨x,hx,rfl⟩);refine x8 λVk hx=>?_;walk_at "e";refine b5 L7.at_.tup (b4 (j:=0) rfl) ?_;refine nE L7.hp (λSr o1=>?_);have L6:=hL.same s6;have RZ:p≠L.p:=npL.symm;have ky:d≠L.p:=λe=>by rw[e] at nd;rw[hL.hp] at nd;cases nd
  have ndQ:d≠L.q:=λe=>by rw[e] at nd;rw[hL.hq] at nd;cases nd
  refine J2 (n:=(j4 L.W.pts).length) (λi σ H'=>Same (E3 L.p o1 (j4 L.W.pts) H6) H'/\(∃v4 v5,σ=[some (.ref W.a),some (.ref L.a),some (.ref c),some (.ref d),v4,v5,some (.ref p),none,none])/\H' p=some (.dK (j4 (W.W.pts++(L.W.pts.take i).map (λx=>(g x.1,x.2)))))) ⟨dC m7,⟨_,_,rfl⟩,by rw[O0 RZ,f7];show _=some (HO.dK (j4 (W.W.pts++[])));rw[Jl]⟩ (λi σ H' hi hp=>⟨hp.1 _ _ b9,hi⟩) ?_ ?_
  .rintro bk i v σ H8' H8 hi ⟨s8,⟨v4,v5,rfl⟩,g8⟩ ⟨rfl,kv,i',rfl⟩;obtain⟨x,hx,rfl⟩:=dD i';have M':=HX hx;have le8:=(K9 (o:=o1) L6.hp).trans s8.le;have A8:=L6.at_.mono le8;have fd8:H8 d=some (.dK (j4 fx)):=s8 _ _ (by rw[O0 ky];exact Rk);have fr:g x.1∉(W.W.pts++(L.W.pts.take i).map (λx=>(g x.1,x.2))).map (·.1):=by
    have z:(rX g W.W L.W).pts=(W.W.pts++(L.W.pts.take i).map (λx=>(g x.1,x.2)))++(L.W.pts.drop i).map (λx=>(g x.1,x.2)):=by
     show W.W.pts++L.W.pts.map _=_;rw[IF,←HL,KA]
    rw[z,HL] at nd1;intro m;refine(Iu.mp nd1).2.2 _ m _ ?_ rfl;rw[Iy];refine HP.mpr ⟨x,?_,rfl⟩;exact HX (i:=0) (by rw[Kq];exact hx)
   walk_at "e";refine b5 A8.tup (b4 (j:=0) rfl) ?_;walk_at "e";refine C2 (v:= .str x.2) (by have z:=G7 (k:=Sum.inr x.1) A8.pts;rw[aC (E1 hL.nd) M'] at z;exact z) ?_;walk_at "e";refine zg fd8 (pl.at_ hL.nd (nmI x M')).1 ?_;rw[←hg];refine G9 (x6 (k:=Sum.inr (g x.1)) g8 (d9 (by rw[k9,HQ,HI,HV];lia)) ?_);rw[bj fr];refine⟨A3 s8 (by rw[O0 RZ];exact np),⟨_,_,rfl⟩,?_⟩;rw[b9,IF,IE,hx,HL];rfl
  rintro σ H8 ⟨s8,⟨v4,v5,rfl⟩,g8⟩;refine⟨⟨s8 _ _ b9,HJ _⟩,?_⟩;rw[HW (by lia)] at g8;have sT:=s8.thaw L6.hp;have gT:thaw L.p H8 p=some (.dK (j4 (rX g W.W L.W).pts)):=by rw[O8 RZ];exact g8
  generalize thaw L.p H8=H9 at sT gT⊢;refine hx [some (.ref W.a),some (.ref L.a),some (.ref c),some (.ref d),v4,v5,some (.ref p),none,none] H9 ?_;clear hx g8 s8;have s9:=s6.trans sT;have W9:=hW.same s9;refine x8 λUa hx=>?_;walk_at "e";refine b5 W9.at_.tup (b4 (j:=1) rfl) ?_;walk_at "e";refine C9 W9.at_.ties (λq nq=>?_);obtain⟨HA,eA,fA,mA,_⟩:=b0 (o:= .dK W.kvs) nq;rw[eA];walk_at "e";refine hx [some (.ref W.a),some (.ref L.a),some (.ref c),some (.ref d),v4,v5,some (.ref p),some (.ref q),none] HA ?_;clear hx;have sA:=s9.trans mA;have LA:=hL.same sA;have L9:=hL.same s9;have F':p≠q:=i8 gT nq;have Rh:H q=none:=s9.free nq;have XS:q≠L.q:=(i8 L9.hq nq).symm;have ZX:=sT _ _ Rk;refine x8 λXw hx=>?_;walk_at "e";refine b5 LA.at_.tup (b4 (j:=1) rfl) ?_;refine nE LA.hq (λSs o2=>?_);refine J2 (n:=L.kvs.length) (λi σ H'=>Same (E3 L.q o2 L.kvs H9) H'/\(∃v4 v5 v8,σ=[some (.ref W.a),some (.ref L.a),some (.ref c),some (.ref d),v4,v5,some (.ref p),some (.ref q),v8])/\∃R_,H' q=some (.dK R_)/\TiesIs K H' R_ (W.W.ts++(L.W.ts.take i).map (oW g))) ⟨dC mA,⟨_,_,_,rfl⟩,W.kvs,by rw[O0 XS,fA],?_⟩ (λi σ H' hi hp=>⟨hp.1 _ _ b9,hi⟩) ?_ ?_
  .show TiesIs K _ W.kvs (W.W.ts++[]);rw[Jl];exact(W9.at_.ts.mono mA.le).mono (K9 (o:=o2) LA.hq)
  .rintro bk i v σ HB' HB hi ⟨sB,⟨v4,v5,v8,rfl⟩,R_,gB,tB⟩ ⟨rfl,kv,i',rfl⟩;have leB:=(K9 (o:=o2) L9.hq).trans sB.le;have AB:=L9.at_.mono leB;obtain⟨x,hx,ex,bb,eb,sb⟩:=AB.ts.get i';have M':=HX hx;obtain⟨kk,Qj⟩:=kv;have OK:kk=Sum.inr x.1:=ex;have Qk:Qj= .ref bb:=eb;subst OK Qk;have Qn:=hL.ends x M';have XT:HB d=some (.dK (j4 fx)):=sB _ _ (by rw[O0 ndQ];exact ZX);have Rb:=tB.length;rw[HQ,HI,HV] at Rb;have fr:g x.1∉(W.W.ts++(L.W.ts.take i).map (oW g)).map (·.1):=by
    have z:(rX g W.W L.W).ts=(W.W.ts++(L.W.ts.take i).map (oW g))++(L.W.ts.drop i).map (oW g):=by
     show W.W.ts++L.W.ts.map _=_;rw[IF,←HL,KA]
    rw[z,HL] at OR;intro m;refine(Iu.mp OR).2.2 _ m _ ?_ rfl;rw[Iy];refine HP.mpr ⟨x,?_,rfl⟩;exact HX (i:=0) (by rw[Kq];exact hx)
   obtain⟨b2,Ob,XU⟩:=cf AB.ts (N1 hL.nd) (show(x.1,x.2)∈L.W.ts from M');obtain⟨x0,x1,x2,x3⟩:=x;walk_at "e";refine M8 ?_;walk_at "e";refine b5 AB.tup (b4 (j:=1) rfl) ?_;walk_at "e";refine C2 (v:= .ref b2) (by have z:=G7 (k:=Sum.inr x0) AB.ties;rw[Ob] at z;exact z) ?_;walk_at "e";refine b5 XU (b4 (j:=0) rfl) ?_;walk_at "e";refine b5 XU (b4 (j:=1) rfl) ?_;refine zg XT (pl.at_ hL.nd (HU _ Qn.1)).1 ?_;walk_at "e";refine b5 XU (b4 (j:=2) rfl) ?_;refine zg XT (pl.at_ hL.nd (HU _ Qn.2)).1 ?_;rw[←hg];walk_at "e";refine⟨d9 (by simp),λlC nC=>?_⟩;obtain⟨HC,eC,fC,mC,_⟩:=b0 (o:= .tup (ba (x1,g x2,g x3))) nC;change yn _ _ _ _ _ (p0 HB lC (.tup (ba (x1,g x2,g x3)))) _;rw[eC];walk_at "e";refine zg (mC _ _ XT) (pl.at_ hL.nd (nmT _ M')).1 ?_;rw[←hg];have gC:=mC _ _ gB;refine G9 (x6 (k:=Sum.inr (g x0)) gC (d9 (by lia)) ?_);refine⟨A3 (sB.trans mC) (by rw[O0 XS];exact nq),⟨_,_,_,rfl⟩,_,b9,?_⟩;rw[IE,hx,HL,←IF];exact P6 gC (fS (tB.mono mC.le) fr (SqT.of fC))
  rintro σ HB ⟨sB,⟨v4,v5,v8,rfl⟩,R_,gB,tB⟩;refine⟨⟨sB _ _ b9,HJ _⟩,?_⟩;rw[HW (by lia)] at tB;have sU:=sB.thaw L9.hq;have gU:thaw L.q HB q=some (.dK R_):=by rw[O8 XS];exact gB
  have tU:TiesIs K (thaw L.q HB) R_ (rX g W.W L.W).ts:=tB.mono rF;generalize thaw L.q HB=HC at sU gU tU⊢;refine hx [some (.ref W.a),some (.ref L.a),some (.ref c),some (.ref d),v4,v5,some (.ref p),some (.ref q),v8] HC ?_;clear hx gB tB sB;walk_at "r";refine⟨d9 (by simp),λl1 nl1=>?_⟩;obtain⟨HD,eD,fD,mD,_⟩:=b0 (o:= .tup [.ref p,.ref q]) nl1;rw[eD];walk_at "r";refine⟨d9 (by simp),λl2 nl2=>?_⟩;obtain⟨HE,eE,fE,mE,_⟩:=b0 (o:= .tup [.ref l1,.ref d]) nl2;rw[eE];have Um:=mD.trans mE;have gE:=(sU.trans Um) _ _ gT;have hE:=Um _ _ gU;have l_:∀n∈h9 (rX g W.W L.W),n∈h9 W.W\/n∈ns:=λn hn=>by
   rcases Ic.mp ((lj g).mem_iff.mp hn) with z|z
   .exact .inl z
   .obtain⟨m,hm,rfl⟩:=HP.mp z;rw[hg];exact .inr (pl.at_ hL.nd hm).2.1
  refine k l2 d ⟨l1,p,q,R_,rX g W.W L.W⟩ fx HE (s9.trans (sU.trans Um)) fE nd ⟨⟨mE.tup (SqT.of fD),.inl gE,.inl hE,tU.mono Um.le⟩,gE,hE,F',XR,?_,?_,λn hn=>(l_ n hn).elim (hW.nl n) λz=>(SV n z).1⟩ ((sU.trans Um) _ _ ZX) pl (by rw[←hg])
  .show(h9 (rX g W.W L.W)).length<=24;rw[(lj g).length_eq,HQ,HI,C0,C0];lia
  .intro x hx;show x.2.2.1∈(W.W.pts++L.W.pts.map (λx=>(g x.1,x.2))).map (·.1)/\x.2.2.2∈(W.W.pts++L.W.pts.map (λx=>(g x.1,x.2))).map (·.1);rw[HL];rcases Ic.mp (show x∈W.W.ts++L.W.ts.map (oW g) from hx) with z|z
   .exact⟨HU _ (hW.ends x z).1,HU _ (hW.ends x z).2⟩
   .obtain⟨y,hy,rfl⟩:=HP.mp z;have he:=hL.ends y hy;have key:∀e:Str,e∈L.W.pts.map (·.1)->g e∈(L.W.pts.map (λx=>(g x.1,x.2))).map (·.1):=λe h=>by
     obtain⟨u,hu,rfl⟩:=HP.mp h;rw[Iy];exact HP.mpr ⟨u,hu,rfl⟩
    exact⟨Ia _ (key _ he.1),Ia _ (key _ he.2)⟩
def bt (K:Qc):Sp:=λvs H Q _=>∃(S L R:Sd) (r m bl:Addr) (bs:List Sd) (fx:List (Str×Str)),vs=[.ref S.a,.ref r,.ref m]/\SdIs K H S/\RuleIs K H r bl L R bs/\H bl=some (.lst (bs.map λs=>V.ref s.a))/\H m=some (.dK (j4 fx))/\qX m bs S.W fx/\(fx.map (·.1)).Nodup/\fx.length<=100/\Y9 L.W S.W (j4 fx)/\S.W.pts.length+S.W.ts.length<=24/\∀(b:Bool) (H':Hp),(b=true↔ik S.W L.W R.W fx (bs.map (·.W)))->Same H H'->Q (.bl b) H'
theorem Di {fx:List (Str×Str)}(h:(fx.map (·.1)).Nodup):((j4 fx).map (·.1)).Nodup:=by
 rw[B5,←r6];have z:∀{l:List Str},l.Nodup->(l.map (Sum.inr:Str->j3)).Nodup:=fun{l} h=>by
  rw[List.Nodup,Oz];exact h.imp λXW e=>XW (Jx e)
 exact z h
theorem rO (fx:List (Str×Str)):∀kv∈j4 fx,∃n s,kv=(Sum.inr n,V.str s):=λkv hk=>by
 obtain⟨x,_,rfl⟩:=HP.mp hk;exact⟨x.1,x.2,rfl⟩
open Classical in
abbrev cI (P:Program)(w:World)(K:Qc)(mg:Str->Option Value)(base:Heap):Prop:=K3 P w K mg base B8 11 "can_be_done" ["web","rule","match"] [] (bt K)
theorem iu {f:Addr}{fd:FuncData}(T:Txt K mg)(R7:fh P w K mg base)(F:Fun K "can_be_done" "can_be_done" X9 f fd):A1 P w K mg base B8 11 f fd ["web","rule","match"] (bt K):=by
 refine F.ok sc_can_be_done (λvs H Q E h=>?_) (λd_ A outer s H vs Q E hr h=>?_)
 .obtain⟨S,L,R,r,m,bl,bs,fx,rfl,_⟩:=h;rfl
 .obtain⟨S,L,R,r,m,bl,bs,fx,rfl,hS,hR,OP,hm,nb,nd,hl,fit,hsz,k⟩:=h;have hN:=sc_can_be_done.nd;have hu:=u6 hr;refine⟨_,QSs.r (u7 (Ak T.t_GlueError (λpins Es=>(B0 (oP (GQ R7 (hr.mono (by decide)) (i9 (qV 0) (i9 (G3 (i9 (qV 1) (i9 (qV 2) (i9 uH j6)))) j6)))))) (λex=>(B0 (A0 uJ))))
   (B0 (A0 uJ))),?_⟩
  refine x8 λQt hx=>?_;refine vk ?_;walk_at "e";intro f nf;obtain⟨H1,e1,f1,m1,_⟩:=b0 (o:= .dK []) nf;rw[e1];walk_at "e";refine⟨d9 (by simp),λst nst=>?_⟩;obtain⟨H2,e2,f2,m2,_⟩:=b0 (o:= .tup [.ref r,.ref m,.ref f]) nst;rw[e2];have K_:=m1.trans m2;walk_at "e";refine⟨S,L,R,st,r,m,f,bl,j4 fx,[],bs,fx,rfl,hS.same K_,⟨SqT.of f2,hR.same K_,K_ _ _ hm,m2 _ _ f1,K_ _ _ OP⟩,rfl,nb,Di nd,by rw[k9];lia,rO fx,fit,hsz,λRT=>?_,λnc n hn H3 e s3 he=>?_⟩
  .intro a3 p3 q3 k3 W3 H3 m3 w3 hp3 hq3 ne3 np3 nq3 Qv e32;walk_at "e";refine hx _ H3 ?_;walk_at "r";exact k true H3 ⟨λ_=>RT,λ_=>rfl⟩ (K_.trans m3)
  .have s4:∀c,Same H2 (p0 H3 e (.ext (bE e c))):=λc=>A3 s3 (s3.free he);rcases hn with rfl|rfl
   .refine⟨_,e,rfl,rfl,T.s_Loose_GlueError,?_⟩;walk_at "e";exact k false _ ⟨λz=>(nomatch z),λz=>absurd z nc⟩ (K_.trans (s4 _))
   .refine⟨_,e,rfl,rfl,T.s_Barred_GlueError,?_⟩;walk_at "e";exact k false _ ⟨λz=>(nomatch z),λz=>absurd z nc⟩ (K_.trans (s4 _))
theorem jR {α β:Type}{f:α->β}:∀{l:List α},l.Nodup->(∀a∈l,∀b∈l,f a=f b->a=b)->(l.map f).Nodup:=by
 intro l;induction l with
 |nil=>intro _ _;exact JG
 |cons x r ih=>
  intro nd inj
  have n2:=IM.mp nd
  refine IM.mpr ⟨λz=>?_,ih n2.2 λa ha b hb=>inj a (Ij _ ha) b (Ij _ hb)⟩
  obtain⟨y,hy,e⟩:=HP.mp z
  rw[inj y (Ij _ hy) x Iw e] at hy
  exact n2.1 hy
theorem yW {l:List Str}{a b:Str}(nd:l.Nodup)(h:∀x∈l,x=a\/x=b):l.length<=2:=by
 match l,nd,h with
 |[],_,_=>simp
 |[_],_,_=>simp
 |[_,_],_,_=>simp
 |x::y::z::r,nd,h=>
  exfalso
  have n1:=IM.mp nd
  have n2:=IM.mp n1.2
  have UW:x≠y:=λe=>n1.1 (by rw[e];simp)
  have hxz:x≠z:=λe=>n1.1 (by rw[e];simp)
  have hyz:y≠z:=λe=>n2.1 (by rw[e];simp)
  rcases h x (by simp) with rfl|rfl<;>rcases h y (by simp) with e|e<;>rcases h z (by simp) with e'|e'<;>first|exact UW e.symm|exact hxz e'.symm|exact hyz (e.trans e'.symm)
section
variable {ws:List Str} {L R:A6} {n:Str}
theorem RgOk.ip (h:RgOk ws L R)(lf:LfOk ws L)(hn:n∈R.pts.map (·.1)):n∈L.pts.map (·.1)\/ws[7]?=some n:=by
 obtain⟨x,hx,rfl⟩:=HP.mp hn;exact(h.p x hx).imp_left λz=>HP.mpr ⟨x,z,rfl⟩
theorem RgOk.it (h:RgOk ws L R)(lf:LfOk ws L)(hn:n∈R.ts.map (·.1)):n∈L.ts.map (·.1)\/ws[8]?=some n:=by
 obtain⟨x,hx,rfl⟩:=HP.mp hn;exact(h.t x hx).imp_left λz=>HP.mpr ⟨x,z,rfl⟩
theorem RgOk.new (h:RgOk ws L R)(lf:LfOk ws L)(h1:n∈h9 R)(h2:n∉h9 L):ws[7]?=some n\/ws[8]?=some n:=by
 rcases Ic.mp h1 with z|z
 .exact(h.ip lf z).elim (λy=>absurd (HU _ y) h2) .inl
 .exact(h.it lf z).elim (λy=>absurd (Ia _ y) h2) .inr
end
theorem jK (a b S:Str):dN (a++b) S=(dN a S&&dN b S):=by
 unfold dN;rw[show(a++b).cps.toList=a.cps.toList++b.cps.toList from Kk,List.all_append]
theorem yK {s n:Str}(h1:Q9 s=true)(h2:Z0 n=true)(h3:s.length<=15):Q9 (s++(".":Str)++n)=true:=by
 unfold Q9 K5 at h1⊢;unfold Z0 K5 at h2;rw[Io,Io,Io,Ii,Ii] at h1;rw[Io,Io,Ii,Ii] at h2;have hl:(s++(".":Str)++n).length=s.length+1+n.length:=by rw[cn,cn];rfl
 have hs:dN n kNS=true:=by
  have z:=h2.2;unfold dN at z⊢;rw[IH] at z⊢;exact λc hc=>IA (wj _ (IY (z c hc)))
 rw[Io,Io,Io,Ii,Ii,hl,jK,jK,h1.1.2,hs];refine⟨⟨⟨by lia,by lia⟩,by decide+kernel⟩,?_⟩;have z:=h1.2;unfold FC at z⊢;rw[Ii] at z⊢;rw[show(s++(".":Str)++n).cps.toList=s.cps.toList++(".":Str).cps.toList++n.cps.toList by rw[show(s++(".":Str)++n).cps.toList=(s++(".":Str)).cps.toList++n.cps.toList from Kk,show(s++(".":Str)).cps.toList=s.cps.toList++(".":Str).cps.toList from Kk]];have hp:0<s.cps.toList.length:=by
  have y:=h1.1.1.1;have e:s.cps.toList.length=s.length:=by show _=s.cps.size;simp
  lia
 cases e:s.cps.toList with
 |nil=>rw[e] at hp;exact absurd hp (Jo 0)
 |cons c r=>rw[e] at z;exact z
theorem Az {s s' n n':Str}(h:s.length=s'.length)(e:s++(".":Str)++n=s'++(".":Str)++n'):n=n':=by
 have z:=Jm (λx:Str=>x.cps.toList) e;have l:∀a b:Str,(a++(".":Str)++b).cps.toList=a.cps.toList++(".":Str).cps.toList++b.cps.toList:=λa b=>by rw[show(a++(".":Str)++b).cps.toList=(a++(".":Str)).cps.toList++b.cps.toList from Kk,show(a++(".":Str)).cps.toList=a.cps.toList++(".":Str).cps.toList from Kk]
 simp only[l] at z;have hl:∀a:Str,a.cps.toList.length=a.length:=λa=>by show _=a.cps.size;simp
 have z2:=(List.append_inj z (by rw[HQ,HQ,hl s,hl s',h])).2;exact zJ z2
abbrev x15:Str:=Txt.mul ("x":Str) 15
theorem gO:x15.length=15:=by decide+kernel
theorem Bs:Q9 x15=true:=by decide+kernel
section
variable {ws:List Str} {S L R:A6} {fx fr:List (Str×Str)}
theorem DE (NA:cy ws)(lf:LfOk ws L)(rg:RgOk ws L R)(Rf:(h9 R).Nodup)(hS:∀n∈h9 S,n.length<=15)(fk:(fr.map (·.1)).Perm ((h9 R).filter λn=>!decide (n∈h9 L)))(fi:∀x∈fr,x.2=x15++(".":Str)++x.1):FrOk S L R fr:=by
 have new:∀n,n∈fr.map (·.1)->n∈h9 R/\n∉h9 L:=λn hn=>by
  have z:=Ik.mp (fk.mem_iff.mp hn);exact⟨z.1,by have y:=z.2;rw[Jn,Jd] at y;exact y⟩
 have ndk:(fr.map (·.1)).Nodup:=fk.nodup_iff.mpr (Rf.sublist Jf);refine⟨fk,λx hx=>?_,?_,λx hx m=>?_,?_⟩
 .have hn:=new _ (HP.mpr ⟨x,hx,rfl⟩);have hk:Z0 x.1=true:=by
   rcases rg.new lf hn.1 hn.2 with y|y<;>exact NA.kd _ (HX y)
  rw[fi x hx];exact yK Bs hk (by rw[gO];decide)
 .have nd:fr.Nodup:=by
   have z:=ndk;rw[List.Nodup,Oz] at z;exact z.imp λXW e=>XW (by rw[e])
  refine jR nd λa ha b hb e=>?_;have e1:a.1=b.1:=Az (s:=x15) (s':=x15) rfl ((fi a ha).symm.trans ((show a.2=b.2 from e).trans (fi b hb)));exact Prod.ext e1 e
 .have z:=hS _ m;rw[fi x hx,cn,cn,gO,show(".":Str).length=1 from rfl] at z;lia
 .have z:(fr.map (·.1)).length<=2:=by
   cases e7:ws[7]? with
   |none=>exact absurd e7 (by rw[HH (by rw[NA.len];decide)];simp)
   |some a=>
    cases e8:ws[8]? with
    |none=>exact absurd e8 (by rw[HH (by rw[NA.len];decide)];simp)
    |some b=>
     refine yW (a:=a) (b:=b) ndk λx hx=>?_
     have hn:=new _ hx
     rcases rg.new lf hn.1 hn.2 with y|y
     .rw[e7] at y;exact .inl (Ie y).symm
     .rw[e8] at y;exact .inr (Ie y).symm
  rw[HI] at z;lia
theorem xA (fit:Y9 L S (j4 fx)){n:Str}(hn:n∈h9 L):j0 (j4 fx) n∈h9 S:=by
 rcases Ic.mp hn with z|z
 .obtain⟨x,hx,rfl⟩:=HP.mp z;exact HU _ (HP.mpr ⟨_,fit.pts x hx,rfl⟩)
 .obtain⟨x,hx,rfl⟩:=HP.mp z;exact Ia _ (HP.mpr ⟨_,fit.ts x hx,rfl⟩)
theorem pk {f:Str->Str}:∀{l:List Str} {a b:Str},(l.map f).Nodup->a∈l->b∈l->f a=f b->a=b:=by
 intro l;induction l with
 |nil=>intro a b _ h;cases h
 |cons x r ih=>
  intro a b nd h1 h2 e
  have nd':=IM.mp (show(f x::r.map f).Nodup from nd)
  rcases Iz.mp h1 with e1|h1
  .rcases Iz.mp h2 with e2|h2
   .rw[e1,e2]
   .exact absurd (HP.mpr ⟨_,h2,by rw[←e,e1]⟩) nd'.1
  .rcases Iz.mp h2 with e2|h2
   .exact absurd (HP.mpr ⟨_,h1,by rw[e,e2]⟩) nd'.1
   .exact ih nd'.2 h1 h2 e
theorem Dh (Rf:(h9 R).Nodup)(fit:Y9 L S (j4 fx))(fo:FrOk S L R fr):((h9 R).map (bh L (j4 fx) (j4 fr))).Nodup:=by
 have bN:∀n,n∈h9 R->n∉h9 L->(n,bh L (j4 fx) (j4 fr) n)∈fr:=λn hr hl=>by
  unfold bh;rw[if_neg hl];exact(fo.txt Rf (fo.mem.mpr ⟨hr,hl⟩)).2
 have bL:∀n,n∈h9 L->bh L (j4 fx) (j4 fr) n=j0 (j4 fx) n:=λn hl=>by unfold bh;rw[if_pos hl]
 refine jR Rf λa ha b hb e=>?_;by_cases la:a∈h9 L
 .by_cases lb:b∈h9 L
  .rw[bL a la,bL b lb] at e;exact pk fit.nd la lb e
  .exfalso;have z:=fo.no _ (bN b hb lb);rw[show(b,bh L (j4 fx) (j4 fr) b).2=bh L (j4 fx) (j4 fr) b from rfl,←e,bL a la] at z;exact z (xA fit la)
 .by_cases lb:b∈h9 L
  .exfalso;have z:=fo.no _ (bN a ha la);rw[show(a,bh L (j4 fx) (j4 fr) a).2=bh L (j4 fx) (j4 fr) a from rfl,e,bL b lb] at z;exact z (xA fit lb)
  .have z1:=bN a ha la;have z2:=bN b hb lb;rw[e] at z1;have key:∀{l:List (Str×Str)} {x y:Str×Str},(l.map (·.2)).Nodup->x∈l->y∈l->x.2=y.2->x=y:=fun{l}=>by
    induction l with
    |nil=>intro a b _ h;cases h
    |cons x r ih=>
     intro a b nd h1 h2 e
     have nd':=IM.mp (show(x.2::r.map (·.2)).Nodup from nd)
     rcases Iz.mp h1 with e1|h1
     .rcases Iz.mp h2 with e2|h2
      .rw[e1,e2]
      .exact absurd (HP.mpr ⟨_,h2,by rw[←e,e1]⟩) nd'.1
     .rcases Iz.mp h2 with e2|h2
      .exact absurd (HP.mpr ⟨_,h1,by rw[e,e2]⟩) nd'.1
      .exact ih nd'.2 h1 h2 e
   exact(JS (key fo.nd z1 z2 rfl)).1
end
def gh (K:Qc):Sp:=λvs H Q _=>∃(S L R:Sd) (r m bl:Addr) (bs:List Sd) (fx:List (Str×Str)) (ws:List Str),vs=[.ref S.a,.ref r,.ref m]/\SdIs K H S/\RuleIs K H r bl L R bs/\H bl=some (.lst (bs.map λs=>V.ref s.a))/\H m=some (.dK (j4 fx))/\qX m bs S.W fx/\(fx.map (·.1)).Nodup/\fx.length<=100/\Y9 L.W S.W (j4 fx)/\S.W.pts.length+S.W.ts.length<=24/\cy ws/\LfOk ws L.W/\RgOk ws L.W R.W/\(∀n∈h9 S.W,n.length<=15)/\∀(b:Bool) (H':Hp),(b=true↔ik S.W L.W R.W fx (bs.map (·.W)))->Same H H'->Q (.bl b) H'
set_option maxHeartbeats 8000000 in
abbrev iN (P:Program)(w:World)(K:Qc)(mg:Str->Option Value)(base:Heap):Prop:=K3 P w K mg base B8 12 "_law_can" ["_law_web_here","_law_rule_here","_law_match"] [] (gh K)
theorem nK {f:Addr}{fd:FuncData}(T:Txt K mg)(pd:wt P w K mg base)(F:Fun K "_law_can" "_law_can" dg f fd):A1 P w K mg base B8 12 f fd ["_law_web_here","_law_rule_here","_law_match"] (gh K):=by
 refine F.ok sc__law_can (λvs H Q E h=>?_) (λd_ A outer s H vs Q E hr h=>?_)
 .obtain⟨S,L,R,r,m,bl,bs,fx,ws,rfl,_⟩:=h;rfl
 .obtain⟨S,L,R,r,m,bl,bs,fx,ws,rfl,hS,hR,OP,hm,nb,nd,hl,fit,hsz,NA,lf,rg,hS15,k⟩:=h;have TM:=hR.r.len;rw[C0] at TM;have eR1:=k9 R.W.pts;have eR2:=hR.r.at_.ts.length;have hN:=sc__law_can.nd;have hu:=u6 hr;refine⟨_,QSs.r (u7 (j8 (i:=3) hN rfl (by walk_at "l") uH)
   (u7 (P2 IK rfl (N7 K (B6 (G0 K) (fu (eW K rfl) T.b_list Boot.«list» (i9 (k7 (k8 K hu) (k7 (k8 K hu) (qV 1) d8 (λ_ _=>rfl)) d8 (λ_ _=>rfl)) j6)) (fu (eW K rfl) T.b_list Boot.«list» (i9 (k7 (k8 K hu) (k7 (k8 K hu) (qV 1) d8 (λ_ _=>rfl)) d8 (λ_ _=>rfl)) j6)))) (G1 (i:=4) hN rfl (by walk_at "l"))
    (B0 (aU (pJ (cM (u4 (aA K hu) (qV 4) (k7 (k8 K hu) (k7 (k8 K hu) (qV 1) d8 (λ_ _=>rfl)) d8 (λ_ _=>rfl)) (by rfl)) (bF (u4 (aA K hu) (qV 4) (k7 (k8 K hu) (k7 (k8 K hu) (qV 1) d8 (λ_ _=>rfl)) d8 (λ_ _=>rfl)) (by rfl))))) (B0 (aw (B6 (G0 K) (B6 (G0 K) (B6 op_mulY fP d8) fP) (qV 4)) (lV (qV 3) (qV 4) (z9 P w hu)))) ck)))
   (u7 (j8 (i:=5) hN rfl (by walk_at "l") lF)
   (u7 (Ak T.t_GlueError (λpins Es=>(B0 (j8 (i:=5) hN rfl (by walk_at "l") (GQ pd (hr.mono (by decide)) (i9 (qV 0) (i9 (G3 (i9 (qV 1) (i9 (qV 2) (i9 (qV 3) j6)))) j6)))))) (λex=>(B0 (j8 (i:=5) hN rfl (by walk_at "l") lF))))
   (B0 (A0 (dy jg (qV 5) lF (p8 _)))))))),?_⟩
  refine M8 ?_;walk_at "e";intro f nf;obtain⟨H1,e1,f1,m1,_⟩:=b0 (o:= .dK []) nf;rw[e1];have R1:=hR.same m1;walk_at "e";refine x8 λQt hx=>?_;walk_at "e";refine b5 R1.tup (b4 (j:=1) rfl) ?_;walk_at "e";refine b5 R1.r.at_.tup (b4 (j:=0) rfl) ?_;walk_at "e";refine ph (iV (.inl R1.r.hp) (λl2 n2=>?_));obtain⟨H2,e2,f2,m2,_⟩:=b0 (o:= .lst _) n2;rw[e2];walk_at "e";refine b5 (R1.same m2).tup (b4 (j:=1) rfl) ?_;walk_at "e";refine b5 (R1.same m2).r.at_.tup (b4 (j:=1) rfl) ?_;walk_at "e";refine ph (iV (.inl (m2 _ _ R1.r.hq)) (λl3 n3=>?_));obtain⟨H3,e3,f3,m3,_⟩:=b0 (o:= .lst _) n3;rw[e3];refine ow (m3 _ _ f2) f3 (d9 (by rw[HI,HI];lia)) (λl4 n4=>?_);obtain⟨H4,e4,f4,m4,_⟩:=b0 (o:= .lst _) n4;rw[e4];have Vo:H4 l4=some (.lst ((h9 R.W).map V.str)):=by rw[f4,xQ,vK hR.r.at_.ts];unfold h9;rw[HL]
  have RH:=m2.trans (m3.trans m4);have RS:=m1.trans RH;have ZY:=RH _ _ f1;have ZZ:l4≠f:=λz=>by rw[z,ZY] at Vo;cases Vo
  clear f2 f3 f4 e2 e3 e4;refine x9 (SqL.of Vo) ?_;refine J2 (n:=(h9 R.W).length) (λi σ H'=>Same H H'/\(∃v4,σ=[some (.ref S.a),some (.ref r),some (.ref m),some (.ref f),v4,none])/\H' l4=some (.lst ((h9 R.W).map V.str))/\∃fr:List (Str×Str),H' f=some (.dK (j4 fr))/\fr.map (·.1)=((h9 R.W).take i).filter (λn=>!decide (n∈h9 L.W))/\∀x∈fr,x.2=x15++(".":Str)++x.1) ⟨RS,⟨_,rfl⟩,Vo,[],ZY,rfl,λ_ h=>nomatch h⟩ (λi σ H' hi hp=>⟨_,.str ((h9 R.W)[i]),SqL.of hp.2.2.1,by rw[HK,HH hi];rfl⟩) ?_ ?_
  .rintro bk i v σ H5' H5 hi ⟨s5,⟨v4,rfl⟩,Uo,fr,g5,ek,Oc⟩ y;obtain⟨rfl,Od⟩:=Itl.get y (SqL.of Uo);rw[HK,HH hi] at Od;cases Od;have R5:=hR.same s5;have Pl:(h9 R.W).take (i+1)=(h9 R.W).take i++[(h9 R.W)[i]]:=R8 (HH hi);have PF:(h9 R.W)[i].length<=100:=hR.r.nl _ (ID hi);have J_:fr.length<=24:=by
    have z:=Jm List.length ek;rw[HI] at z;rw[z];have y:=HY (λn=>!decide (n∈h9 L.W)) ((h9 R.W).take i);rw[HV] at y;have:=hR.r.len;lia
   have keep:(h9 R.W)[i]∈h9 L.W->Same H H5/\(∃v4,[some (V.ref S.a),some (.ref r),some (.ref m),some (.ref f),some (.str (h9 R.W)[i]),none]=[some (.ref S.a),some (.ref r),some (.ref m),some (.ref f),v4,none])/\H5 l4=some (.lst ((h9 R.W).map V.str))/\∃fr:List (Str×Str),H5 f=some (.dK (j4 fr))/\fr.map (·.1)=((h9 R.W).take (i+1)).filter (λn=>!decide (n∈h9 L.W))/\∀x∈fr,x.2=x15++(".":Str)++x.1:=λl_=>⟨s5,⟨_,rfl⟩,Uo,fr,g5,by rw[Pl,IS,ek,IW (by simp [l_])];simp,Oc⟩
   walk_at "e";refine b5 R5.tup (b4 (j:=0) rfl) ?_;walk_at "e";refine b5 R5.l.at_.tup (b4 (j:=0) rfl) ?_;refine V3 (G7 (k:=Sum.inr (h9 R.W)[i]) R5.l.at_.pts) ?_;rw[F9];walk_at "e";refine bo (λhb=>?_) (λhb=>?_);rotate_left
   .walk_at "e";exact keep (HU _ hb)
   walk_at "e";refine b5 R5.tup (b4 (j:=0) rfl) ?_;walk_at "e";refine b5 R5.l.at_.tup (b4 (j:=1) rfl) ?_;refine V3 (G7 (k:=Sum.inr (h9 R.W)[i]) R5.l.at_.ties) ?_;rw[R9 R5.l.at_.ts];walk_at "e";refine bo (λhc=>?_) (λhc=>?_);rotate_left
   .walk_at "e";exact keep (Ia _ hc)
   have QY:(h9 R.W)[i]∉h9 L.W:=λz=>(Ic.mp z).elim hb hc;have fr':(h9 R.W)[i]∉fr.map (·.1):=λz=>by
    rw[ek] at z;exact N9 hR.r.nd (HH hi) (Ik.mp z).1
   walk_at "e";refine tf (by decide+kernel) (by decide) (by decide) ?_;walk_at "e";refine N3 (d9 (by rw[show(Str.ofString ".").length=1 from rfl,show(Txt.mul (Str.ofString "x") 15).length=15 from gO];lia)) ?_;walk_at "e";refine N3 (d9 (by rw[cn,show(Str.ofString ".").length=1 from rfl,show(Txt.mul (Str.ofString "x") 15).length=15 from gO];lia)) ?_;walk_at "e";refine G9 (x6 (k:=Sum.inr (h9 R.W)[i]) g5 (d9 (by rw[k9];lia)) ?_);rw[bj fr'];refine⟨A3 s5 nf,⟨_,rfl⟩,by rw[b7 ZZ];exact Uo,_,b9,?_,λx hx=>?_⟩
   .rw[HL,ek,Pl,IS,IQ (by simp [QY])];rfl
   .rcases Ic.mp hx with z|z
    .exact Oc x z
    .rw[Ih.mp z]
  rintro σ H5 ⟨s5,⟨v4,rfl⟩,Uo,fr,g5,ek,Oc⟩;refine⟨⟨_,SqL.of Uo,by rw[HI];exact HJ _⟩,?_⟩;rw[HW (HJ _)] at ek;refine hx [some (.ref S.a),some (.ref r),some (.ref m),some (.ref f),v4,none] H5 ?_;clear hx;have fo:=DE (S:=S.W) (fr:=fr) NA lf rg hR.r.nd hS15 (by rw[ek]) Oc;refine M8 ?_;walk_at "e";refine x8 λRc hx=>?_;refine vk ?_;walk_at "e";refine⟨d9 (by simp),λst nst=>?_⟩;obtain⟨H6,e6,f6,m6,_⟩:=b0 (o:= .tup [.ref r,.ref m,.ref f]) nst;rw[e6];have Pm:=s5.trans m6;walk_at "e";refine⟨S,L,R,st,r,m,f,bl,j4 fx,fr,bs,fx,rfl,hS.same Pm,⟨SqT.of f6,hR.same Pm,Pm _ _ hm,m6 _ _ g5,Pm _ _ OP⟩,rfl,nb,Di nd,by rw[k9];lia,rO fx,⟨fit,fo,Dh hR.r.nd fit fo⟩,hsz,λRT=>?_,λnc n hn H7 e s7 he=>?_⟩
  .intro a3 p3 q3 k3 W3 H7 m7 w3 hp3 hq3 ne3 np3 nq3 Qv e32;walk_at "e";refine hx [some (.ref S.a),some (.ref r),some (.ref m),some (.ref f),v4,some (.ref a3)] H7 ?_;walk_at "r";exact k _ H7 ⟨λ_=>RT,λ_=>by simp⟩ (Pm.trans m7)
  .have s8:∀c,Same H6 (p0 H7 e (.ext (bE e c))):=λc=>A3 s7 (s7.free he);rcases hn with rfl|rfl
   .refine⟨_,e,rfl,rfl,T.s_Loose_GlueError,?_⟩;walk_at "e";refine hx [some (.ref S.a),some (.ref r),some (.ref m),some (.ref f),v4,some .non] _ ?_;walk_at "r";exact k _ _ ⟨λz=>absurd z (by simp),λz=>absurd z nc⟩ (Pm.trans (s8 _))
   .refine⟨_,e,rfl,rfl,T.s_Barred_GlueError,?_⟩;walk_at "e";refine hx [some (.ref S.a),some (.ref r),some (.ref m),some (.ref f),v4,some .non] _ ?_;walk_at "r";exact k _ _ ⟨λz=>absurd z (by simp),λz=>absurd z nc⟩ (Pm.trans (s8 _))
structure Ru where
 r:Addr
 bl:Addr
 L:Sd
 R:Sd
 bs:List Sd
structure RuOk (K:Qc) (H:Hp) (ws:List Str) (u:Ru):Prop where
 ru:RuleIs K H u.r u.bl u.L u.R u.bs
 b:H u.bl=some (.lst (u.bs.map λs=>V.ref s.a))
 lf:LfOk ws u.L.W
 rg:RgOk ws u.L.W u.R.W
 len:u.bs.length<=2
 br:∀b∈u.bs,FG u.L.W b.W
theorem RuOk.same {H H':Hp}{ws:List Str}{u:Ru}(h:RuOk K H ws u)(s:Same H H'):RuOk K H' ws u:=⟨h.ru.same s,s _ _ h.b,h.lf,h.rg,h.len,h.br⟩
open Classical in
noncomputable def xZ (W:A6)(u:Ru):List (List Str):=(B4 u.L.W W []).filter λrow=>decide (ik W u.L.W u.R.W ((V5 u.L.W).zip row) (u.bs.map (·.W)))
open Classical in
noncomputable def ud (W:A6)(u:Ru)(j:Nat):List (List Str):=((B4 u.L.W W []).take j).filter λrow=>decide (ik W u.L.W u.R.W ((V5 u.L.W).zip row) (u.bs.map (·.W)))
open Classical in
theorem qS {W:A6}{u:Ru}{j:Nat}{row:List Str}(h:(B4 u.L.W W [])[j]?=some row)(c:ik W u.L.W u.R.W ((V5 u.L.W).zip row) (u.bs.map (·.W))):ud W u (j+1)=ud W u j++[row]:=by
 unfold ud;rw[IE,h,IS];show _++List.filter _ [row]=_;rw[IQ (by rw[Ii];exact c)];rfl
open Classical in
theorem xF {W:A6}{u:Ru}{j:Nat}{row:List Str}(h:(B4 u.L.W W [])[j]?=some row)(c:¬ik W u.L.W u.R.W ((V5 u.L.W).zip row) (u.bs.map (·.W))):ud W u (j+1)=ud W u j:=by
 unfold ud;rw[IE,h,IS];show _++List.filter _ [row]=_;rw[IW (by rw[Ii];exact c)];simp
theorem rn (W:A6)(u:Ru){j:Nat}(h:(B4 u.L.W W []).length<=j):ud W u j=xZ W u:=by
 unfold ud xZ;rw[HW h]
noncomputable def R0 (W:A6)(us:List Ru):List (Int×List (Str×Str)):=us.zipIdx.flatMap λx=>(xZ W x.1).map λrow=>((x.2:Int),(V5 x.1.L.W).zip row)
def DueAt (K:Qc)(H:Hp)(v:V)(x:Int×List (Str×Str)):Prop:=∃t d,v= .ref t/\SqT K H t [.int x.1,.ref d]/\H d=some (.dK (j4 x.2))
theorem iK (W:A6)(us:List Ru)(u:Ru):R0 W (us++[u])=R0 W us++(xZ W u).map λrow=>((us.length:Int),(V5 u.L.W).zip row):=by
 unfold R0;rw[List.zipIdx_append,NH];simp
open Classical in
theorem memR {Pc W:A6}{fx:List (Str×Str)}{row:List Str}:row∈B4 Pc W fx↔row∈gn (om (uK Pc) (uI Pc) (uK W) (uI W)) []/\Y9 Pc W (j4 ((V5 Pc).zip row))/\me fx (V5 Pc) row:=by
 unfold B4 gu;rw[Ik,Ii];exact Iff.rfl
theorem rG {S L:A6}{row:List Str}(h:row∈B4 L S []):Y9 L S (j4 ((V5 L).zip row)):=(memR.mp h).2.1
theorem yj {S L:A6}{row:List Str}(h:row∈B4 L S []):row.length=(V5 L).length:=nG (memR.mp h).1
theorem dA {S L:A6}{row:List Str}(h:row∈B4 L S []):((V5 L).zip row).map (·.1)=V5 L:=List.map_fst_zip (by rw[yj h];exact HJ _)
structure FF (S:A6):Prop where
 l:S.pts.length+S.ts.length<=16
 p:S.pts.length<=10
 t:S.ts.length<=10
 n:∀n∈h9 S,n.length<=15
theorem vX {ws:List Str}{S:A6}{u:Ru}{row:List Str}{K:Qc}{H:Hp}(h:RuOk K H ws u)(hS:FF S)(hr:row∈B4 u.L.W S []){b:Sd}(hb:b∈u.bs):BQ b.W S ((V5 u.L.W).zip row):=by
 have ks:=dA hr;obtain⟨A,pm,hA⟩:=h.br b hb;have Z_:∀n,n∈V5 u.L.W↔n∈h9 u.L.W:=λn=>(O9 u.L.W).mem;refine⟨?_,by rw[ks];exact(O9 u.L.W).perm.nodup_iff.mpr h.ru.l.nd,λx hx=>pm.mem_iff.mpr (HU _ ((Z_ _).mp (by rw[←ks];exact HP.mpr ⟨x,hx,rfl⟩)))⟩;have f1:((h9 b.W).filter (ak ((V5 u.L.W).zip row))).length<=2:=by
  rw[(pm.filter _).length_eq,IS,HQ,Lo.mpr]
  .rw[La,Nat.zero_add];exact Ip (HY _ _) hA
  .intro n hn;have z:n∈((V5 u.L.W).zip row).map (·.1):=by rw[ks];exact(Z_ n).mpr hn
   unfold ak;simp only[Jn,Jd,Decidable.not_not,Bool.not_eq_true];first|exact z|simpa using z
 have f2:(h9 b.W).length<=7:=by
  rw[pm.length_eq,HQ,C0];have l1:=h.lf.l1;have l2:=h.lf.l2;lia
 have hl:=hS.l;have f3:max S.pts.length S.ts.length+1<=17:=by lia
 calc ((h9 b.W).length+1)*(max S.pts.length S.ts.length+1) ^ ((h9 b.W).filter (ak ((V5 u.L.W).zip row))).length<=8*17 ^ 2:=Nv (by lia) (Ip (LQ f3 _) (LF (by decide) f1))
  _<=1000000:=by decide
def NwD (K:Qc)(H H':Hp)(x:V):Prop:=∃t d i kv,x=V.ref t/\SqT K H' t [.int i,.ref d]/\H d=none/\H' d=some (.dK kv)
theorem NwD.same {H H' H'':Hp}{x:V}(h:NwD K H H' x)(s:Same H' H''):NwD K H H'' x:=by
 obtain⟨t,d,i,kv,e,q,n,g⟩:=h;exact⟨t,d,i,kv,e,s.tup q,n,s _ _ g⟩
def jd (K:Qc):Sp:=λvs H Q _=>∃(S:Sd) (us:List Ru) (lr:Addr) (ws:List Str),vs=[.ref S.a,.ref lr]/\SdIs K H S/\FF S.W/\H lr=some (.lst (us.map λu=>V.ref u.r))/\us.length<=8/\cy ws/\(∀u∈us,RuOk K H ws u)/\
 ∀(l:Addr) (H':Hp) (xs:List V),H l=none->Same H H'->H' l=some (.lst xs)->Paired (DueAt K H') xs (R0 S.W us)->(∀x∈xs,NwD K H H' x)->Q (.ref l) H'
theorem oF {H:Hp}{d a:Addr}{ys xs:List V}{u:HO}(h:H d=some (.lst ys))(s:SqT K H a xs):SqT K (p0 H d u) a xs:=by
 rcases s with s|s
 .refine .inl ?_;by_cases z:a=d
  .subst z;rcases s with s|⟨_,s⟩<;>(rw[h] at s;cases s)
  .unfold Rd;rw[b7 z];exact s
 .exact .inr s
theorem NwD.updL {H H':Hp}{d:Addr}{ys:List V}{u:HO}{x:V}(h:H' d=some (.lst ys))(s:NwD K H H' x):NwD K H (p0 H' d u) x:=by
 obtain⟨t,e,i,kv,h1,h2,h3,h4⟩:=s;exact⟨t,e,i,kv,h1,oF h h2,h3,by rw[b7 (λz=>by rw[z,h] at h4;cases h4)];exact h4⟩
theorem DueAt.updL {H:Hp}{d:Addr}{ys:List V}{u:HO}{v:V}{x:Int×List (Str×Str)}(h:H d=some (.lst ys))(s:DueAt K H v x):DueAt K (p0 H d u) v x:=by
 obtain⟨t,e,h1,h2,h3⟩:=s;exact⟨t,e,h1,oF h h2,by rw[b7 (λz=>by rw[z,h] at h3;cases h3)];exact h3⟩
theorem DueAt.same {H H':Hp}{v:V}{x:Int×List (Str×Str)}(h:DueAt K H v x)(s:Same H H'):DueAt K H' v x:=by
 obtain⟨t,e,h1,h2,h3⟩:=h;exact⟨t,e,h1,s.tup h2,s _ _ h3⟩
theorem qt {n:Nat}(h:n<=9000000):n<=sizeLine:=Ip h (by decide)
open Classical in
set_option maxHeartbeats 8000000 in
abbrev jJ (P:Program)(w:World)(K:Qc)(mg:Str->Option Value)(base:Heap):Prop:=K3 P w K mg base B8 12 "choices" ["web","rules"] [] (jd K)
theorem pA {f:Addr}{fd:FuncData}(T:Txt K mg)(V8:cI P w K mg base)(cb:K3 P w K mg base B8 7 "matches" ["piece","web","fixed"] [] (J3 K))(K0:K3 P w K mg base B8 7 "matches" ["piece","web","fixed"] [.non] (J3 K))(F:Fun K "choices" "choices" fF f fd):A1 P w K mg base B8 12 f fd ["web","rules"] (jd K):=by
 refine F.ok sc_choices (λvs H Q E h=>?_) (λd_ A outer s H vs Q E hr h=>?_)
 .obtain⟨S,us,lr,ws,rfl,_⟩:=h;rfl
 .obtain⟨S,us,lr,ws,rfl,hS,so,hlr,VL,NA,P_,k⟩:=h;have Sl:=so.l;have hN:=sc_choices.nd;have hu:=u6 hr;refine⟨_,QSs.r (u7 (j8 (i:=2) hN rfl (by walk_at "l") (bR j6))
   (u7 (P2 IK rfl (ee K T.b_enumerate (i9 (qV 1) j6)) (pP K rfl (dw (G1 (i:=3) hN rfl (by walk_at "l")) (dw (G1 (i:=4) hN rfl (by walk_at "l")) pI)))
    (B0 (oP (qM IT PySem.F.slot_list_extend PySem.F.type_list_extend gx K (qV 2) (i9 (E7 (own:=["match"]) (js:=[0,4,3]) (by kernel_rfl) rfl (N7 K (qC K0 (hr.mono (by decide)) j7 (i9 (k7 (k8 K hu) (qV 4) d8 (λ_ _=>rfl)) (i9 (qV 0) j6)))) (λ_ _ _ _=>(G1 (i:=0) (show List.Nodup (["match","web","rule","number"]:List Str) by decide+kernel) rfl (by walk_at "l"))) (λ_ _ _ _=>(iS (N2 K (qC V8 (hr.mono (by decide)) j7 (i9 (qV 1) (i9 (qV 2) (i9 (qV 0) j6))))))) (λ_ _ _ _=>(G3 (i9 (qV 3) (i9 (qV 0) j6))))) j6)))))
   (B0 (A0 (qV 2))))),?_⟩
  refine M8 ?_;walk_at "e";refine⟨d9 (by simp),λlt nlt=>?_⟩;obtain⟨H1,e1,f1,m1,_⟩:=b0 (o:= .lst []) nlt;rw[e1];walk_at "e";refine x8 λQt hx=>?_;walk_at "e";refine⟨_,rfl,.inl ⟨lr,_,rfl,SqL.of (m1 _ _ hlr),?_⟩⟩;refine J2 (n:=us.length) (λi σ H'=>Same H H'/\(∃v3 v4,σ=[some (.ref S.a),some (.ref lr),some (.ref lt),v3,v4])/\∃xs:List V,H' lt=some (.lst xs)/\Paired (DueAt K H') xs (R0 S.W (us.take i))/\(∀x∈xs,NwD K H H' x)/\xs.length<=i*1000000) ⟨m1,⟨_,_,rfl⟩,[],f1,.nil,(λ_ h=>nomatch h),Jv _⟩ (λi σ H' hi hp=>⟨_,.ref (us[i]).r,SqL.of (hp.1 _ _ hlr),by rw[HK,HH hi];rfl⟩) ?_ ?_
  .rintro bk i v σ H2' H2 hi ⟨s2,⟨v3,v4,rfl⟩,xs,g2,pr,nw,PD⟩ ⟨t,x,hx9,nt,rfl,rfl⟩;have q_:=hx9 _ (SqL.of (s2 _ _ hlr));rw[HK,HH hi] at q_;cases q_;obtain⟨H3,e3,f3,m3,_⟩:=b0 (o:= .tup _) nt;rw[e3];have s3:=s2.trans m3;have Vp:=ID hi;have Pq:=P_ _ Vp;have U3:=Pq.same s3;have S3:=hS.same s3;have ll1:=Pq.lf.l1;have ll2:=Pq.lf.l2;refine J6 (SqT.of f3) rfl ?_;walk_at "e";obtain⟨u,hue⟩:∃u,u=us[i]:=⟨_,rfl⟩
   rw[←hue] at Pq U3 ll1 ll2⊢;refine⟨.inl ⟨rfl,_,SqL.of (m3 _ _ g2)⟩,?_⟩;walk_at "e";refine b5 U3.ru.tup (b4 (j:=0) rfl) ?_;walk_at "e";have TK:(h9 u.L.W).length<=5:=by rw[C0];lia
   have big:((h9 u.L.W).length+1)*(max S.W.pts.length S.W.ts.length+1) ^ ((h9 u.L.W).filter (ak [])).length<=1000000:=by
    have f1:((h9 u.L.W).filter (ak [])).length<=5:=Ip (HY _ _) TK;have p1:=so.p;have p2:=so.t;calc ((h9 u.L.W).length+1)*(max S.W.pts.length S.W.ts.length+1) ^ ((h9 u.L.W).filter (ak [])).length<=6*11 ^ 5:=Nv (by lia) (Ip (LQ (show max S.W.pts.length S.W.ts.length+1<=11 by lia) _) (LF (by decide) f1))
     _<=1000000:=by decide
   refine⟨u.L.a,u.L.p,u.L.q,S.a,S.p,S.q,u.L.kvs,S.kvs,u.L.W,S.W,rfl,⟨WebIs.up U3.ru.l (by decide),WebIs.up S3 (by decide),big,JG,λ_ h=>nomatch h⟩,λlm H4 ys nlm m4 f4 dc WK nwy=>?_⟩;have s4:=s3.trans m4;replace dc:DcAt H4 (V5 u.L.W) ys (B4 u.L.W S.W []):=dc;have hyl:=IC dc;refine x9 (SqL.of f4) ?_;refine w5 (n:=ys.length) (λj out H'=>Same H4 H'/\Paired (DueAt K H') out ((ud S.W u j).map λrow=>((i:Int),(V5 u.L.W).zip row))/\(∀x∈out,NwD K H H' x)/\out.length<=j) ⟨Same.refl _,.nil,(λ_ h=>nomatch h),HJ _⟩ (λj out H' hj hp=>⟨_,ys[j],SqL.of (hp.1 _ _ f4),HH hj⟩) ?_ ?_
   .rintro N j v out H5' H5 hj ⟨s5,Up,Vq,D_⟩ y hN';obtain⟨rfl,Od⟩:=Itl.get y (SqL.of (s5 _ _ f4));rw[HH hj] at Od;obtain⟨row,m_,d,ed,hd⟩:=B7 dc (HH hj);have ev:v= .ref d:=by rw[←ed];exact(Ie Od).symm
    subst ev;have Sa:=HX m_;obtain⟨d',XX,nd'⟩:=nwy _ (ID hj);have XY:d=d':=V.ref.inj (ed.symm.trans XX);subst XY;have s35:=m4.trans s5;have U5:=U3.same s35;have S5:=S3.same s35;have Pl:(B4 u.L.W S.W []).take (j+1)=(B4 u.L.W S.W []).take j++[row]:=by rw[IE,m_];rfl
    have XZ:((V5 u.L.W).zip row).length<=100:=by
     have z:(V5 u.L.W).length=(h9 u.L.W).length:=(O9 u.L.W).perm.length_eq;rw[Kd];lia
    walk_at "e";refine⟨rfl,?_⟩;walk_at "e";refine⟨S,u.L,u.R,u.r,d,u.bl,u.bs,(V5 u.L.W).zip row,rfl,S5,U5.ru,U5.b,s5 _ _ hd,⟨by have:=U3.len;lia,λb hb=>⟨(i8 (U3.ru.bars b hb).hp nd').symm,(i8 (U3.ru.bars b hb).hq nd').symm,vX U3 so Sa hb⟩⟩,by rw[dA Sa];exact(O9 u.L.W).perm.nodup_iff.mpr U3.ru.l.nd,XZ,rG Sa,by lia,λb H6 hb m6=>?_⟩;have s6:=s5.trans m6;walk_at "e";refine X3 (λht=>?_) (λhf=>?_)
    .walk_at "e";refine⟨d9 (by simp),λt6 nt6=>?_⟩;obtain⟨H7,e7,f7,m7,_⟩:=b0 (o:= .tup [.int (i:Int),.ref d]) nt6;rw[e7];refine⟨qt (by lia),hN' _ _ ⟨s6.trans m7,?_,λx hx=>?_,?_⟩⟩
     .rw[qS m_ (hb.mp ht),HL];exact p7 (Paired.imp' (λ_ _ h=>h.same (m6.trans m7)) Up) ⟨t6,d,rfl,SqT.of f7,(s6.trans m7) _ _ hd⟩
     .rcases Ic.mp hx with z|z
      .exact(Vq x z).same (m6.trans m7)
      .exact⟨t6,d,_,_,Ih.mp z,SqT.of f7,s3.free nd',(s6.trans m7) _ _ hd⟩
     .rw[HQ,Il];lia
    .refine hN' _ _ ⟨s6,?_,λx hx=>?_,by lia⟩
     .rw[xF m_ (λz=>by rw[hb.mpr z] at hf;cases hf)];exact Paired.imp' (λ_ _ h=>h.same m6) Up
     .exact(Vq x hx).same m6
   rintro out H5 ⟨s5,Up,Vq,D_⟩;rw[rn S.W u (by lia)] at Up;refine⟨⟨_,SqL.of (s5 _ _ f4),HJ _⟩,λD hD=>⟨qt (by lia),?_⟩⟩;obtain⟨H6,e6,f6,m6,_⟩:=b0 (H:=H5) (o:= .lst out) hD;change sQ _ (p0 H5 D (.lst out)) _;rw[e6];have PH:=m3.trans (m4.trans (s5.trans m6));have g6:=PH _ _ g2;walk_at "e";refine⟨lt,D,xs,out,rfl,rfl,g6,f6,qt (by lia),?_⟩;have hT:us.take (i+1)=us.take i++[u]:=by rw[IE,HH hi,hue];rfl
   refine⟨A3 (s4.trans (s5.trans m6)) nlt,⟨_,_,rfl⟩,xs++out,b9,?_,λx hx=>?_,?_⟩
   .rw[hT,iK,HV,Lj (Ks hi)];exact ay (Paired.imp' (λ_ _ h=>(h.same PH).updL g6) pr) (Paired.imp' (λ_ _ h=>(h.same m6).updL g6) Up)
   .rcases Ic.mp hx with z|z
    .exact((nw x z).same PH).updL g6
    .exact((Vq x z).same m6).updL g6
   .rw[HQ];lia
  rintro σ H2 ⟨s2,⟨v3,v4,rfl⟩,xs,g2,pr,nw,PD⟩;refine⟨⟨_,SqL.of (s2 _ _ hlr),by rw[HI];exact HJ _⟩,?_⟩;rw[HW (HJ _)] at pr;refine hx [some (.ref S.a),some (.ref lr),some (.ref lt),v3,v4] H2 ?_;walk_at "r";exact k lt H2 xs nlt s2 g2 pr nw
def bH (K:Qc):Sp:=λvs H Q _=>∃S:Sd,vs=[.ref S.a]/\SdIs K H S/\∀(a p q:Addr) (H':Hp),Same H H'->SdIs K H' ⟨a,p,q,S.kvs,S.W⟩->H p=none->H q=none->H a=none->Q (.ref a) H'
abbrev cv (P:Program)(w:World)(K:Qc)(mg:Str->Option Value)(base:Heap):Prop:=K3 P w K mg base B8 1 "_law_copied" ["_law_web_here"] [] (bH K)
theorem iT {f:Addr}{fd:FuncData}(T:Txt K mg)(F:Fun K "_law_copied" "_law_copied" X1 f fd):A1 P w K mg base B8 1 f fd ["_law_web_here"] (bH K):=by
 refine F.ok sc__law_copied (λvs H Q E h=>?_) (λd_ A outer s H vs Q E hr h=>?_)
 .obtain⟨S,rfl,_⟩:=h;rfl
 .obtain⟨S,rfl,hS,k⟩:=h;have hN:=sc__law_copied.nd;have hu:=u6 hr;refine⟨_,QSs.r (B0 (A0 (G3 (i9 (fu (P1 K rfl) T.b_dict Boot.«dict» (i9 (k7 (k8 K hu) (qV 0) d8 (λ_ _=>rfl)) j6)) (i9 (fu (P1 K rfl) T.b_dict Boot.«dict» (i9 (k7 (k8 K hu) (qV 0) d8 (λ_ _=>rfl)) j6)) j6))))),?_⟩;walk_at "r";refine b5 hS.at_.tup (b4 (j:=0) rfl) ?_;walk_at "r";refine C9 hS.at_.pts (λp np=>?_);obtain⟨H1,e1,f1,m1,_⟩:=b0 (o:= .dK (j4 S.W.pts)) np;rw[e1];have S1:=hS.same m1;walk_at "r";refine b5 S1.at_.tup (b4 (j:=1) rfl) ?_;walk_at "r";refine C9 S1.at_.ties (λq nq=>?_);obtain⟨H2,e2,f2,m2,_⟩:=b0 (o:= .dK S.kvs) nq;rw[e2];walk_at "r";refine⟨d9 (by simp),λa na=>?_⟩;obtain⟨H3,e3,f3,m3,_⟩:=b0 (o:= .tup [.ref p,.ref q]) na;rw[e3];have OO:=m1.trans m2;have PJ:=OO.trans m3;have gp:=(m2.trans m3) _ _ f1;have gq:=m3 _ _ f2;walk_at "r";exact k a p q H3 PJ ⟨⟨SqT.of f3,.inl gp,.inl gq,hS.at_.ts.mono PJ.le⟩,gp,gq,i8 f1 nq,hS.nd,hS.len,hS.ends,hS.nl⟩ np (m1.free nq) (OO.free na)
theorem fR {cs:List Int}{j:Nat}{P:Int->Prop}(h:j<cs.length)(hp:∀c∈cs,P c):∃c:Int,(cs.map V.int)[j]?=some (.int c)/\P c:=⟨cs[j],by rw[HK,HH h];rfl,hp _ (ID h)⟩
theorem yV {c2 c4:Int}{k:Nat}(h0:0<=c2)(h1:c2<10 ^ 60)(h2:0<=c4)(h3:c4<10 ^ 60)(hk:k<6):0<=c2*((k:Int)+3)+c4+7*(k:Int)/\c2*((k:Int)+3)+c4+7*(k:Int)<10 ^ 62:=by
 have a:c2*((k:Int)+3)<=c2*8:=Int.mul_le_mul_of_nonneg_left (by lia) h0;have b:0<=c2*((k:Int)+3):=Int.mul_nonneg h0 (by lia);generalize c2*((k:Int)+3)=m at a b⊢;have e:(10:Int) ^ 62=100*10 ^ 60:=by decide+kernel
 have e1:(100:Int)<=10 ^ 60:=by decide+kernel
 rw[e];generalize (10:Int) ^ 60=z at h1 h3 e1⊢;lia
def V2 (K:Qc):Sp:=λvs H Q _=>∃(lc lw lk:Addr) (cs:List Int) (ws ks:List Str),vs=[.ref lc,.ref lw,.ref lk]/\H lc=some (.lst (cs.map V.int))/\cs.length=5/\(∀c∈cs,0<=c/\c<10 ^ 60)/\H lw=some (.lst (ws.map V.str))/\H lk=some (.lst (ks.map V.str))/\cy ws/\ks.length=2/\∀(l:Addr) (us:List Ru) (H':Hp),Same H H'->H' l=some (.lst (us.map λu=>V.ref u.r))->us.length<=8->0<us.length->(∀u∈us,RuOk K H' ws u)->Q (.ref l) H'
set_option maxHeartbeats 8000000 in
abbrev Y7 (P:Program)(w:World)(K:Qc)(mg:Str->Option Value)(base:Heap):Prop:=K3 P w K mg base B8 3 "_law_all_rules" ["_law_cells_here","_law_words_here","_law_kinds_here"] [] (V2 K)
theorem dF {f:Addr}{fd:FuncData}(T:Txt K mg)(P0:gi P w K mg base)(F:Fun K "_law_all_rules" "_law_all_rules" O4 f fd):A1 P w K mg base B8 3 f fd ["_law_cells_here","_law_words_here","_law_kinds_here"] (V2 K):=by
 refine F.ok sc__law_all_rules (λvs H Q E h=>?_) (λd_ A outer s H vs Q E hr h=>?_)
 .obtain⟨lc,lw,lk,cs,ws,ks,rfl,_⟩:=h;rfl
 .obtain⟨lc,lw,lk,cs,ws,ks,rfl,hc,A_,Qi,hw,hk,NA,NO,k⟩:=h;obtain⟨c2,g2,Og,Uq⟩:=fR (cs:=cs) (j:=2) (by lia) Qi;obtain⟨c3,g3,hc3,hc3'⟩:=fR (cs:=cs) (j:=3) (by lia) Qi;obtain⟨c4,g4,hc4,Ur⟩:=fR (cs:=cs) (j:=4) (by lia) Qi;have big:(10:Int) ^ 60<10 ^ 62:=by decide+kernel
  have hN:=sc__law_all_rules.nd;have hu:=u6 hr;refine⟨_,QSs.r (u7 (j8 (i:=3) hN rfl (by walk_at "l") (bR (i9 (qC P0 (hr.mono (by decide)) j7 (i9 (k7 (k8 K hu) (qV 0) d8 (λ_ _=>rfl)) (i9 (qV 1) (i9 (qV 2) j6)))) (i9 (qC P0 (hr.mono (by decide)) j7 (i9 (k7 (k8 K hu) (qV 0) d8 (λ_ _=>rfl)) (i9 (qV 1) (i9 (qV 2) j6)))) j6))))
   (u7 (aU (u4 (G8 K hr) (B6 q8 (B6 (G0 K) (k7 (k8 K hu) (qV 0) d8 (λ_ _=>rfl)) (k7 (k8 K hu) (qV 0) d8 (λ_ _=>rfl))) d8) d8 (p8 _)) (B0 (j8 (i:=3) hN rfl (by walk_at "l") (B6 (G0 K) (qV 3) (E7 (own:=["_law_k"]) (js:=[1,2,0]) (by kernel_rfl) rfl (eX T.b_range (i9 d8 j6)) (λ_ _ _ _=>(G1 (i:=0) (show List.Nodup (["_law_k","_law_words_here","_law_kinds_here","_law_cells_here"]:List Str) by decide+kernel) rfl (by walk_at "l"))) (λ_ _ _ _=>aM) (λ_ _ _ _=>(qC P0 (hr.mono (by decide)) j7 (i9 (B6 (G0 K) (B6 (G0 K) (B6 op_mulY (k7 (k8 K hu) (qV 3) d8 (λ_ _=>rfl)) (B6 (G0 K) (qV 0) d8)) (k7 (k8 K hu) (qV 3) d8 (λ_ _=>rfl))) (B6 op_mulY d8 (qV 0))) (i9 (qV 1) (i9 (qV 2) j6))))))))) ck)
   (B0 (A0 (qV 3))))),?_⟩
  refine x8 λQt hx=>?_;walk_at "e";refine i6 (SqL.of hc) (b4 (j:=2) g2) ?_;walk_at "e";refine⟨c2,lw,lk,ws,ks,rfl,Og,OB Uq big,hw,hk,NA,NO,λr bl L R bs H1 m1 hR fb lf rg OP hbr=>?_⟩;have U1:RuOk K H1 ws ⟨r,bl,L,R,bs⟩:=⟨hR,fb,lf,rg,OP,hbr⟩
  walk_at "e";refine i6 (SqL.of (m1 _ _ hc)) (b4 (j:=4) g4) ?_;walk_at "e";refine⟨c4,lw,lk,ws,ks,rfl,hc4,OB Ur big,m1 _ _ hw,m1 _ _ hk,NA,NO,λr' bl' L' R' Qp H2 m2 hR' fb' lf' rg' hbl' hbr'=>?_⟩;have U2:RuOk K H2 ws ⟨r',bl',L',R',Qp⟩:=⟨hR',fb',lf',rg',hbl',hbr'⟩
  walk_at "e";refine⟨d9 (by simp),λl nl=>?_⟩;obtain⟨H3,e3,f3,m3,_⟩:=b0 (o:= .lst [.ref r,.ref r']) nl;rw[e3];have Sb:=m2.trans m3;have PJ:=m1.trans Sb;have QF:=PJ _ _ hc;obtain⟨us,P_,UZ,Pq⟩:∃us:List Ru,(us.map λu=>V.ref u.r)=[.ref r,.ref r']/\us.length=2/\∀u∈us,RuOk K H3 ws u:=⟨[⟨r,bl,L,R,bs⟩,⟨r',bl',L',R',Qp⟩],rfl,rfl,λu hu=>by
   rcases Iz.mp hu with rfl|hu
   .exact U1.same Sb
   .rw[Ih.mp hu];exact U2.same m3⟩
  rw[←P_] at f3;walk_at "e";refine hx [some (.ref lc),some (.ref lw),some (.ref lk),some (.ref l)] H3 ?_;clear hx;refine x8 λRc hx=>?_;walk_at "e";refine i6 (SqL.of QF) (b4 (j:=2) g2) ?_;walk_at "e";refine i6 (SqL.of QF) (b4 (j:=3) g3) ?_;walk_at "e";refine C4 (λhb=>?_) (λhb=>?_);rotate_left
  .walk_at "e";refine hx [some (.ref lc),some (.ref lw),some (.ref lk),some (.ref l)] H3 ?_;walk_at "r";exact k l us H3 PJ f3 (by lia) (by lia) Pq
  walk_at "e";refine G5 (by lia) (by lia) ?_;refine w5 (n:=6) (λi out H'=>Same H3 H'/\∃vs:List Ru,out=(vs.map λu=>V.ref u.r)/\vs.length=i/\∀u∈vs,RuOk K H' ws u) ⟨Same.refl _,[],rfl,rfl,λ_ h=>nomatch h⟩ (λi out H' hi _=>by exact hi) ?_ ?_
  .rintro N i v out H4' H4 hi ⟨s4,vs,rfl,Us,Se⟩ ⟨rfl,rfl⟩ hN';have cl:=yV Og Uq hc4 Ur hi;walk_at "e";refine⟨rfl,?_⟩;walk_at "e";refine i6 (SqL.of (s4 _ _ QF)) (b4 (j:=2) g2) ?_;walk_at "e";refine i6 (SqL.of (s4 _ _ QF)) (b4 (j:=4) g4) ?_;walk_at "e";rw[show(0:Int)+(i:Int)=(i:Int) from JI _];refine⟨_,lw,lk,ws,ks,rfl,cl.1,cl.2,(PJ.trans s4) _ _ hw,(PJ.trans s4) _ _ hk,NA,NO,λr bl L R bs H1 m1 hR fb lf rg OP hbr=>?_⟩;refine⟨d9 (by rw[HI];lia),hN' _ _ ⟨s4.trans m1,vs++[⟨r,bl,L,R,bs⟩],by rw[HL];rfl,by rw[HQ,Us];rfl,λu hu=>?_⟩⟩;rcases Ic.mp hu with z|z
   .exact(Se u z).same m1
   .rw[Ih.mp z];exact⟨hR,fb,lf,rg,OP,hbr⟩
  rintro out H4 ⟨s4,vs,rfl,Us,Se⟩;refine⟨HJ _,λD hD=>⟨d9 (by rw[HI];lia),?_⟩⟩;obtain⟨H5,e5,f5,m5,_⟩:=b0 (H:=H4) (o:= .lst (vs.map λu=>V.ref u.r)) hD;change kn K _ _ (p0 H4 D (.lst (vs.map λu=>V.ref u.r))) _;rw[e5];have X':=s4.trans m5;refine ow (X' _ _ f3) f5 (d9 (by rw[HI,HI];lia)) (λl6 n6=>?_);obtain⟨H6,e6,f6,m6,_⟩:=b0 (o:= .lst _) n6;rw[e6];rw[←HL] at f6;walk_at "e";refine hx [some (.ref lc),some (.ref lw),some (.ref lk),some (.ref l6)] H6 ?_;walk_at "r";refine k l6 (us++vs) H6 (PJ.trans (X'.trans m6)) f6 (by rw[HQ];lia) (by rw[HQ];lia) λu hu=>?_;rcases Ic.mp hu with z|z
  .exact(Pq u z).same (X'.trans m6)
  .exact(Se u z).same (m5.trans m6)
theorem uY {H:Hp}{d e:Addr}{a b:List (Str×Str)}(hd:H d=some (.dK (j4 a)))(he:H e=some (.dK (j4 b)))(p:a.Perm b)(nd:(b.map (·.1)).Nodup):EqD K H d e true:=by
 by_cases z:d=e
 .exact .inl ⟨z,rfl⟩
 .exact rJ z (.inl hd) (.inl he) p nd
theorem nA {H:Hp}{d a:Addr}{kv:List (j3×V)}{xs:List V}{u:HO}(h:H d=some (.dK kv))(s:SqT K H a xs):SqT K (p0 H d u) a xs:=by
 rcases s with s|s
 .refine .inl ?_;by_cases z:a=d
  .subst z;rcases s with s|⟨_,s⟩<;>(rw[h] at s;cases s)
  .unfold Rd;rw[b7 z];exact s
 .exact .inr s
theorem qZ {H:Hp}{xs ys:List V}{n:Nat}(pr:Paired (λx y=>EqN K H n x y true) xs ys)(j:Nat)(x y:V)(b:Bool)(h1:xs[j]?=some x)(h2:ys[j]?=some y)(h3:(List.replicate xs.length true)[j]?=some b):EqN K H n x y b:=by
 have e3:b=true:=(NT.mp (HX h3)).2;subst e3;obtain⟨y',Rt,z⟩:=B7 pr h1;rw[h2] at Rt;cases Rt;exact z
theorem mL {H:Hp}{a c:Addr}{xs ys:List V}{n:Nat}(hs:(SqT K H a xs/\SqT K H c ys)\/(SqL K H a xs/\SqL K H c ys))(pr:Paired (λx y=>EqN K H n x y true) xs ys):EqN K H (n+1) (.ref a) (.ref c) true:=by
 by_cases e:a=c
 .exact EqN.of0 (.inr ⟨a,c,rfl,rfl,.inl ⟨e,rfl⟩⟩) _
 .exact .inr ⟨a,c,xs,ys,List.replicate xs.length true,rfl,rfl,e,hs,IC pr,Jp,qZ pr,(bW _).symm⟩
theorem lY {H:Hp}{a c:Addr}{xs ys:List V}(hs:(SqT K H a xs/\SqT K H c ys)\/(SqL K H a xs/\SqL K H c ys))(pr:Paired (λx y=>EqN K H 8 x y true) xs ys):FV K H (.ref a) (.ref c) (List.replicate xs.length true):=
 ⟨a,c,xs,ys,rfl,rfl,hs,IC pr,Jp,qZ pr⟩
theorem yQ {H:Hp}(i:Int)(n:Nat):EqN K H n (.int i) (.int i) true:=by
 refine EqN.of0 (.inl ?_) n;have z:=Eq1.flat (K:=K) (H:=H) (x:= .int i) (y:= .int i) rfl rfl;rw[hJ rfl] at z;exact z
theorem lU {H:Hp}:∀{cl:List (Int×List (Str×Str))} {xs ys:List V},Paired (DueAt K H) xs cl->Paired (DueAt K H) ys cl->(∀c∈cl,(c.2.map (·.1)).Nodup)->Paired (λx y=>EqN K H 8 x y true) xs ys
 |[],_,_,.nil,.nil,_=> .nil
 |c::cl,_,_,.cons h t,.cons h' t',nd=>by
  obtain⟨t1,d1,rfl,q1,g1⟩:=h;obtain⟨t2,d2,rfl,q2,g2⟩:=h';refine .cons ?_ (lU t t' λc hc=>nd c (Ij _ hc));exact mL (n:=7) (.inl ⟨q1,q2⟩) (.cons (yQ _ _) (.cons (EqN.of0 (.inr ⟨d1,d2,rfl,rfl,uY g1 g2 (Mj _) (nd c Iw)⟩) _) .nil))
structure uw (u' u:Ru):Prop where
 l:u'.L.W=u.L.W
 r:u'.R.W=u.R.W
 b:u'.bs=u.bs
 lp:u'.L.p≠u.L.p
 lq:u'.L.q≠u.L.q
 rp:u'.R.p≠u.R.p
 rq:u'.R.q≠u.R.q
theorem xr {W:A6}{u' u:Ru}(h:uw u' u):xZ W u'=xZ W u:=by
 unfold xZ;rw[h.l,h.r,h.b]
theorem wQ (W:A6):∀{QH us:List Ru} (n:Nat),Paired uw QH us->(QH.zipIdx n).flatMap (λx=>(xZ W x.1).map λrow=>((x.2:Int),(V5 x.1.L.W).zip row))=(us.zipIdx n).flatMap λx=>(xZ W x.1).map λrow=>((x.2:Int),(V5 x.1.L.W).zip row)
 |_,_,_,.nil=>rfl
 |_::_,_::_,n,.cons h t=>by
  rw[List.zipIdx_cons,List.zipIdx_cons,JF,JF,wQ W (n+1) t];show(xZ W _).map _++_=(xZ W _).map _++_;rw[xr h,h.l]
theorem tT {W:A6}{QH us:List Ru}(h:Paired uw QH us):R0 W QH=R0 W us:=wQ W 0 h
open Classical in
theorem zv {W:A6}{us:List Ru}(h:∀u∈us,(h9 u.L.W).Nodup):∀c∈R0 W us,(c.2.map (·.1)).Nodup:=by
 intro c hc;obtain⟨x,hx,hc⟩:=List.mem_flatMap.mp hc;obtain⟨row,hr,rfl⟩:=HP.mp hc;have K':=(Ik.mp hr).1;show(((V5 x.1.L.W).zip row).map (·.1)).Nodup;rw[dA K'];exact(O9 x.1.L.W).perm.nodup_iff.mpr (h _ (List.fst_mem_of_mem_zipIdx hx))
theorem nW {H:Hp}(n:Nat):∀bs:List Sd,Paired (λx y=>EqN K H n x y true) (bs.map λs=>V.ref s.a) (bs.map λs=>V.ref s.a)
 |[]=> .nil
 |b::bs=> .cons (EqN.of0 (.inr ⟨b.a,b.a,rfl,rfl,.inl ⟨rfl,rfl⟩⟩) n) (nW n bs)
theorem AQ {H:Hp}{ws:List Str}{u' u:Ru}(h':RuOk K H ws u')(h:RuOk K H ws u)(c:uw u' u)(n:Nat):EqN K H (n+2) (.ref u'.r) (.ref u.r) true:=by
 refine mL (.inl ⟨h'.ru.tup,h.ru.tup⟩) (.cons (iD h'.ru.l h.ru.l ?_ ?_ c.lp c.lq) (.cons (iD h'.ru.r h.ru.r ?_ ?_ c.rp c.rq) (.cons (mL (.inr ⟨h'.ru.bl,h.ru.bl⟩) ?_) .nil)))
 .rw[c.l]
 .rw[c.l]
 .rw[c.r]
 .rw[c.r]
 .rw[c.b];exact nW n u.bs
theorem sd {H:Hp}{ws:List Str}(n:Nat):∀{QH us:List Ru},Paired uw QH us->(∀u∈QH,RuOk K H ws u)->(∀u∈us,RuOk K H ws u)->Paired (λx y=>EqN K H (n+2) x y true) (QH.map λu=>V.ref u.r) (us.map λu=>V.ref u.r)
 |_,_,.nil,_,_=> .nil
 |_::_,_::_,.cons h t,h1,h2=> .cons (AQ (h1 _ Iw) (h2 _ Iw) h n) (sd n t (λu hu=>h1 u (Ij _ hu)) λu hu=>h2 u (Ij _ hu))
theorem xK (W:A6)(u:Ru):ud W u 0=[]:=by
 unfold ud;rw[List.take_zero,Jz]
theorem CP {S L:A6}(so:FF S)(h:(h9 L).length<=5):((h9 L).length+1)*(max S.pts.length S.ts.length+1) ^ ((h9 L).filter (ak [])).length<=1000000:=by
 have f1:((h9 L).filter (ak [])).length<=5:=Ip (HY _ _) h;have p1:=so.p;have p2:=so.t;calc ((h9 L).length+1)*(max S.pts.length S.ts.length+1) ^ ((h9 L).filter (ak [])).length<=6*11 ^ 5:=Nv (by lia) (Ip (LQ (show max S.pts.length S.ts.length+1<=11 by lia) _) (LF (by decide) f1))
  _<=1000000:=by decide
theorem NwD.clear {H H':Hp}{d:Addr}{kv:List (j3×V)}{x:V}(h:H' d=some (.dK kv))(s:NwD K H H' x):NwD K H (p0 H' d (.dK [])) x:=by
 obtain⟨t,e,i,kv',h1,h2,h3,h4⟩:=s;by_cases z:e=d
 .subst z;exact⟨t,e,i,[],h1,nA h h2,h3,b9⟩
 .exact⟨t,e,i,kv',h1,nA h h2,h3,by rw[b7 z];exact h4⟩
theorem yH {H:Hp}{d:Addr}{ys:List V}{u:HO}{nm:List Str}{xs:List V}{rows:List (List Str)}(h:H d=some (.lst ys))(s:DcAt H nm xs rows):DcAt (p0 H d u) nm xs rows:=
 Paired.imp' (λ_ _ ⟨e,e1,e2⟩=>⟨e,e1,by rw[b7 (λz=>by rw[z,h] at e2;cases e2)];exact e2⟩) s
theorem vR (ss:List Str):cX (ss.map V.str) (some 7) none=(ss.drop 7).map V.str:=by
 unfold cX;rw[show(some (7:Int))=some ((7:Nat):Int) from rfl,HT.sIx_nat,HT.sIx_none,HI,←List.map_drop,←NW];congr 1;rcases Nat.le_total 7 ss.length with h|h
 .rw[Lj h,HW (by rw[Kl];exact HJ _)]
 .rw[Nat.min_eq_right h,List.drop_length,List.take_nil,List.drop_eq_nil_of_le h]
def lH (K:Qc):Sp:=λvs H Q _=>∃(a:Addr) (ns:List Int),vs=[.ref a]/\SqL K H a (ns.map V.int)/\ns.length<=63/\∀H',Q (.bl true) H'
set_option maxHeartbeats 16000000 in
theorem AV {f:Addr}{fd:FuncData}(T:Txt K mg)(S9:bK P w K mg base)(aj:eB P w K mg base)(au:ez P w K mg base)(O2:Y7 P w K mg base)(Z7:dG P w K mg base)(dj:iL P w K mg base)(aN:dH P w K mg base)(S8:bC P w K mg base)(cb:K3 P w K mg base B8 7 "matches" ["piece","web","fixed"] [] (J3 K))(K0:K3 P w K mg base B8 7 "matches" ["piece","web","fixed"] [.non] (J3 K))(cV:iN P w K mg base)(J1:cv P w K mg base)(Y8:jJ P w K mg base)(F:Fun K "law" "law" yc f fd):A1 P w K mg base B8 13 f fd ["_law_script"] (lH K):=by
 refine F.ok sc_law (λvs H Q E h=>?_) (λd_ A outer s H vs Q E hr h=>?_)
 .obtain⟨a,ns,rfl,_⟩:=h;rfl
 .obtain⟨a,ns,rfl,hA,hl,k⟩:=h;have hN:=sc_law.nd;have hu:=u6 hr;refine⟨_,QSs.r (u7 (bG (i:=1) hN rfl (by walk_at "l") (own:=["_law_k"]) (js:=[0]) (by kernel_rfl) rfl (eX T.b_range (i9 d8 j6)) (λ_ _ _ _=>(G1 (i:=0) (show List.Nodup (["_law_k","_law_script"]:List Str) by decide+kernel) rfl (by walk_at "l"))) (λ_ _ _ _=>aM) (λ_ _ _ _=>(qC S9 (hr.mono (by decide)) j7 (i9 (qV 1) (i9 (qV 0) j6)))))
   (u7 (j8 (i:=2) hN rfl (by walk_at "l") (qC aj (hr.mono (by decide)) j7 (i9 (k7 (k8 K hu) (qV 1) d8 (λ_ _=>rfl)) j6)))
   (u7 (j8 (i:=3) hN rfl (by walk_at "l") (qC au (hr.mono (by decide)) j7 (i9 (k7 (k8 K hu) (qV 1) d8 (λ_ _=>rfl)) (i9 d8 j6))))
   (u7 (j8 (i:=4) hN rfl (by walk_at "l") (qC O2 (hr.mono (by decide)) j7 (i9 (qV 1) (i9 (qV 3) (i9 (qV 2) j6)))))
   (u7 (j8 (i:=5) hN rfl (by walk_at "l") (qC Z7 (hr.mono (by decide)) j7 (i9 (k7 (k8 K hu) (qV 1) d8 (λ_ _=>rfl)) (i9 d8 j6))))
   (u7 (j8 (i:=6) hN rfl (by walk_at "l") (qC dj (hr.mono (by decide)) j7 (i9 (qC aN (hr.mono (by decide)) j7 (i9 (qV 0) (i9 d8 (i9 d8 j6)))) (i9 (qV 5) (i9 (qV 2) j6)))))
   (u7 (j8 (i:=6) hN rfl (by walk_at "l") (k7 (k8 K hu) (qC S8 (hr.mono (by decide)) j7 (i9 (qV 6) (i9 (k7 (k8 K hu) (k7 (k8 K hu) (qV 4) d8 (λ_ _=>rfl)) d8 (λ_ _=>rfl)) (i9 (EE (Df K) (qV 5) (CV d8) Fq) j6)))) d8 (λ_ _=>rfl)))
   (u7 (j8 (i:=7) hN rfl (by walk_at "l") (bR j6))
   (u7 (P2 IK rfl (eX T.b_range (i9 (qB (C8 K P w) T.b_len Boot.«len» (i9 (qV 4) j6)) j6)) (G1 (i:=8) hN rfl (by walk_at "l"))
    (B0 (P2 IK rfl (N7 K (qC K0 (hr.mono (by decide)) j7 (i9 (k7 (k8 K hu) (k7 (k8 K hu) (qV 4) (qV 8) (λ_ _=>rfl)) d8 (λ_ _=>rfl)) (i9 (qV 6) j6)))) (G1 (i:=9) hN rfl (by walk_at "l"))
    (B0 (aU (N2 K (qC cV (hr.mono (by decide)) j7 (i9 (qV 6) (i9 (k7 (k8 K hu) (qV 4) (qV 8) (λ_ _=>rfl)) (i9 (qV 9) j6))))) (B0 (oP (qM IT IZ Ja z8 K (qV 7) (i9 (G3 (i9 (qV 8) (i9 (qV 9) j6))) j6)))) ck)))))
   (u7 (bG (i:=10) hN rfl (by walk_at "l") (own:=["_law_rule_here"]) (js:=[]) (by kernel_rfl) rfl (N7 K (qV 4)) (λ_ _ _ _=>(G1 (i:=0) (show List.Nodup (["_law_rule_here"]:List Str) by decide+kernel) rfl (by walk_at "l"))) (λ_ _ _ _=>aM) (λ_ _ _ _=>(G3 (i9 (qC J1 (hr.mono (by decide)) j7 (i9 (k7 (k8 K hu) (qV 0) d8 (λ_ _=>rfl)) j6)) (i9 (qC J1 (hr.mono (by decide)) j7 (i9 (k7 (k8 K hu) (qV 0) d8 (λ_ _=>rfl)) j6)) (i9 (fu (eW K rfl) T.b_list Boot.«list» (i9 (k7 (k8 K hu) (qV 0) d8 (λ_ _=>rfl)) j6)) j6))))))
   (u7 (j8 (i:=11) hN rfl (by walk_at "l") (G3 (i9 (qC J1 (hr.mono (by decide)) j7 (i9 (qV 6) j6)) (i9 (qV 10) j6))))
   (u7 (j8 (i:=12) hN rfl (by walk_at "l") (qC Y8 (hr.mono (by decide)) j7 (i9 (k7 (k8 K hu) (qV 11) d8 (λ_ _=>rfl)) (i9 (k7 (k8 K hu) (qV 11) d8 (λ_ _=>rfl)) j6))))
   (u7 (aU (pJ (lB (cS (N2 K (qB (kK K P w) T.b_isinstance Boot.«isinstance» (i9 (qV 12) (i9 (CT "list" T.b_list Boot.«list») j6))))) (lB (u4 (gk K hr) (qV 12) (qV 7) (p8 _)) (iC (u4 (gk K hr) (qV 11) (G3 (i9 (qV 6) (i9 (qV 4) j6))) (p8 _)))))) (B0 (A0 uJ)) ck)
   (u7 (P2 IK rfl (N7 K (qV 12)) (pP K rfl (dw (G1 (i:=8) hN rfl (by walk_at "l")) (dw (G1 (i:=9) hN rfl (by walk_at "l")) pI)))
    (u7 (aU (N2 K (qB (kK K P w) T.b_isinstance Boot.«isinstance» (i9 (qV 8) (i9 (CT "bool" T.b_bool Boot.«bool») j6)))) (B0 (A0 uJ)) ck)
   (B0 (oP (ER Jc Mt PySem.F.type_dict_clear iR K (qV 9))))))
   (B0 (A0 (Fm (dy (G8 K hr) (qC Y8 (hr.mono (by decide)) j7 (i9 (qV 6) (i9 (qV 4) j6))) (qV 7) (p8 _)) (AN (dy (G8 K hr) (qC Y8 (hr.mono (by decide)) j7 (i9 (qV 6) (i9 (bR j6) j6))) (bR j6) (p8 _)))))))))))))))))))),?_⟩
  refine M8 ?_;walk_at "e";refine G5 (by lia) (by lia) ?_;refine w5 (n:=5) (λi out H'=>Same H H'/\∃cs:List Int,out=cs.map V.int/\cs.length=i/\∀c∈cs,0<=c/\c<10 ^ 60) ⟨Same.refl _,[],rfl,rfl,λ_ h=>nomatch h⟩ (λi out H' hi _=>by exact hi) ?_ ?_
  .rintro N i v out H1' H1 hi ⟨s1,cs,rfl,A_,Qi⟩ ⟨rfl,rfl⟩ hN';walk_at "e";refine⟨rfl,?_⟩;walk_at "e";refine⟨a,ns,_,rfl,s1.seq hA,hl,by lia,λc hc NB=>?_⟩;refine⟨d9 (by rw[HI];lia),hN' _ _ ⟨s1,cs++[c],by rw[HL];rfl,by rw[HQ,A_];rfl,λx hx=>?_⟩⟩;rcases Ic.mp hx with z|z
   .exact Qi x z
   .rw[Ih.mp z];exact⟨hc,NB⟩
  rintro out H1 ⟨s1,SF,rfl,X_,QJ⟩;refine⟨HJ _,λlcs hlcs=>⟨d9 (by rw[HI];lia),?_⟩⟩;obtain⟨H2,e2,f2,m2,_⟩:=b0 (H:=H1) (o:= .lst (SF.map V.int)) hlcs;change P8 _ _ _ (p0 H1 lcs (.lst (SF.map V.int))) _;rw[e2];have K_:=s1.trans m2;obtain⟨c0,g0,Xt,_⟩:=fR (cs:=SF) (j:=0) (by lia) QJ;obtain⟨c1,g1,Xu,_⟩:=fR (cs:=SF) (j:=1) (by lia) QJ;obtain⟨c3,g3,hc3,_⟩:=fR (cs:=SF) (j:=3) (by lia) QJ;walk_at "e";refine x8 λQt hx=>?_;walk_at "e";refine i6 (SqL.of f2) (b4 (j:=0) g0) ?_;walk_at "e";refine⟨c0,rfl,Xt,λlk H3 ks n3 m3 f3 hk=>?_⟩;walk_at "e";refine hx [some (.ref a),some (.ref lcs),some (.ref lk),none,none,none,none,none,none,none,none,none,none] _ ?_;clear hx;have Ut:=m3 _ _ f2;refine x8 λRc hx=>?_;walk_at "e";refine i6 (SqL.of Ut) (b4 (j:=1) g1) ?_;walk_at "e";refine⟨c1,rfl,Xu,λlw H4 ws n4 m4 f4 NA=>?_⟩;walk_at "e";refine hx [some (.ref a),some (.ref lcs),some (.ref lk),some (.ref lw),none,none,none,none,none,none,none,none,none] _ ?_;clear hx;have OT:=m4 _ _ Ut;have Ya:=m4 _ _ f3;refine x8 λVk hx=>?_;walk_at "e";refine⟨lcs,lw,lk,SF,ws,ks,rfl,OT,X_,QJ,f4,Ya,NA,hk,λlr us H5 m5 hlr hu8 hu0 Pq=>?_⟩;walk_at "e";refine hx [some (.ref a),some (.ref lcs),some (.ref lk),some (.ref lw),some (.ref lr),none,none,none,none,none,none,none,none] _ ?_;clear hx;have Pr:=m5 _ _ OT;have fk5:=m5 _ _ Ya;refine x8 λUa hx=>?_;walk_at "e";refine i6 (SqL.of Pr) (b4 (j:=3) g3) ?_;walk_at "e";refine⟨c3,rfl,hc3,λln H6 ss n6 m6 f6 nok=>?_⟩;walk_at "e";refine hx [some (.ref a),some (.ref lcs),some (.ref lk),some (.ref lw),some (.ref lr),some (.ref ln),none,none,none,none,none,none,none] _ ?_;clear hx;have Pm:=K_.trans (m3.trans (m4.trans (m5.trans m6)));have fk6:=m6 _ _ fk5;have Pt:∀s∈ss,s.length<=15:=λs hs=>by
   obtain⟨z,Yb,hz⟩:=nok.z;rw[hz s hs];exact Yb
  have Uu:∀s∈ss,s.length<=100:=λs hs=>Ip (Pt s hs) (by decide);refine x8 λXw hx=>?_;walk_at "e";refine⟨a,ns,rfl,Pm.seq hA,hl,λlc H7 cs n7 m7 f7 A_ SR=>?_⟩;walk_at "e";refine⟨lc,ln,lk,cs,ss,ks,rfl,SqL.of f7,SqL.of (m7 _ _ f6),SqL.of (m7 _ _ fk6),A_,nok.len,hk,nok.nd,Uu,λb p q kvs W0 H8 m8 hW0 w0=>?_⟩;walk_at "e";refine hx [some (.ref a),some (.ref lcs),some (.ref lk),some (.ref lw),some (.ref lr),some (.ref ln),some (.ref b),none,none,none,none,none,none] _ ?_;clear hx;have Vr:=m7.trans m8;have f68:=Vr _ _ f6;obtain⟨u0,Uv⟩:∃u0,us[0]?=some u0:=⟨us[0],HH hu0⟩
  have Yc:=HX Uv;have U8:=(Pq u0 Yc).same (m6.trans Vr);have lr8:=(m6.trans Vr) _ _ hlr;refine x8 λnx6 hx=>?_;walk_at "e";refine i6 (SqL.of lr8) (b4 (j:=0) (by rw[HK,Uv];rfl)) ?_;walk_at "e";refine b5 U8.ru.tup (b4 (j:=0) rfl) ?_;walk_at "e";refine mZ (SqL.of f68) (λl9 n9=>?_);rw[vR];obtain⟨H9,e9,f9,m9,_⟩:=b0 (o:= .lst ((ss.drop 7).map V.str)) n9;rw[e9];have U9:=U8.same m9;have W9:=hW0.same m9;have Tn:∀n∈ss.drop 7,n∉h9 W0:=λn h1 h2=>by
   have z:=nok.nd;rw[←KA 7 ss] at z;exact(Iu.mp z).2.2 n (w0 n h2) n h1 rfl
  have ll1:=U8.lf.l1;have ll2:=U8.lf.l2;walk_at "e";refine⟨⟨b,p,q,kvs,W0⟩,u0.L,l9,ss.drop 7,rfl,W9,U9.ru.l,by rw[C0];lia,f9,by rw[Kl,nok.len],nok.nd.sublist (Oy _ _),λn hn=>⟨Uu n (Nq hn),Tn n hn⟩,λt m S fx RJ Qr ft nm hS hm pl eS=>?_⟩;refine b5 (SqT.of ft) (b4 (j:=0) rfl) ?_;walk_at "e";refine hx [some (.ref a),some (.ref lcs),some (.ref lk),some (.ref lw),some (.ref lr),some (.ref ln),some (.ref S.a),none,none,none,none,none,none] _ ?_;clear hx;have Uw:=Vr.trans (m9.trans Qr);have Ux:∀u∈us,RuOk K RJ ws u:=λu hu=>(Pq u hu).same (m6.trans Uw);have QK:=(m6.trans Uw) _ _ hlr;have so:FF S.W:=by
   have Yd:S.W=rX (j0 (j4 fx)) W0 u0.L.W:=eS;have z1:=hW0.len;rw[C0] at z1;have e1:S.W.pts.length=W0.pts.length+u0.L.W.pts.length:=by rw[Yd];show(_++List.map _ _).length=_;rw[HQ,HI]
   have e2:S.W.ts.length=W0.ts.length+u0.L.W.ts.length:=by rw[Yd];show(_++List.map _ _).length=_;rw[HQ,HI]
   refine⟨by lia,by lia,by lia,λn hn=>?_⟩;rw[Yd] at hn;have z2:=(lj (W:=W0) (L:=u0.L.W) (j0 (j4 fx))).mem_iff.mp hn;rcases Ic.mp z2 with z|z
   .exact Pt n (LD (w0 n z))
   .obtain⟨y,hy,rfl⟩:=HP.mp z;exact Pt _ (Nq (pl.at_ U8.ru.l.nd hy).2.1)
  clear f7 f9 ft f68 e9 fk6 fk5 Ya Pr OT Ut W9 U9 hW0 w0 pl eS hm Tn n9 nm Pq hlr lr8 f6 f4 f3 f2 e2;refine M8 ?_;walk_at "e";refine⟨d9 (by simp),λld nld=>?_⟩;obtain⟨WU,e11,Sf,m11,_⟩:=b0 (o:= .lst []) nld;rw[e11];walk_at "e";refine x8 λnx7 hx=>?_;walk_at "e";refine C5 (x5 (SqL.of (m11 _ _ QK)) ?_);rw[HI];walk_at "e";refine G5 (by lia) (by lia) ?_;refine J2 (n:=us.length) (λi σ H'=>Same RJ H'/\(∃v8 v9,σ=[some (.ref a),some (.ref lcs),some (.ref lk),some (.ref lw),some (.ref lr),some (.ref ln),some (.ref S.a),some (.ref ld),v8,v9,none,none,none])/\∃xs:List V,H' ld=some (.lst xs)/\Paired (DueAt K H') xs (R0 S.W (us.take i))/\xs.length<=i*1000000) ⟨m11,⟨_,_,rfl⟩,[],Sf,.nil,Jv _⟩ (λi σ H' hi _=>by show i<_;lia) ?_ ?_
  .rintro bk i v σ H12' H12 hi ⟨s12,⟨v8,v9,rfl⟩,xs,g12,pr,PD⟩ ⟨rfl,rfl⟩;have Vp:=ID hi;have Ye:(us.map λu=>V.ref u.r)[i]?=some (.ref us[i].r):=by rw[HK,HH hi];rfl
   have hT:us.take (i+1)=us.take i++[us[i]]:=by rw[IE,HH hi];rfl
   have Sg:=Ux _ Vp;generalize us[i]=u at Vp Ye hT Sg;have Sh:=Sg.same s12;have S12:=hS.same s12;have lu1:=Sg.lf.l1;have lu2:=Sg.lf.l2;have Sl:=so.l;rw[show(0:Int)+(i:Int)=(i:Int) from JI _];walk_at "e";refine i6 (SqL.of (s12 _ _ QK)) (b4 Ye) ?_;walk_at "e";refine b5 Sh.ru.tup (b4 (j:=0) rfl) ?_;walk_at "e";refine⟨u.L.a,u.L.p,u.L.q,S.a,S.p,S.q,u.L.kvs,S.kvs,u.L.W,S.W,rfl,⟨WebIs.up Sh.ru.l (by decide),WebIs.up S12 (by decide),CP so (by rw[C0];lia),JG,λ_ h=>nomatch h⟩,λlm H13 ys nlm ON f13 dc WK nwy=>?_⟩;obtain⟨c,hc⟩:∃c,c=i*1000000:=⟨_,rfl⟩
   rw[←hc] at PD;replace dc:DcAt H13 (V5 u.L.W) ys (B4 u.L.W S.W []):=dc;have hyl:=IC dc;have s13:=s12.trans ON;have g13:=ON _ _ g12;have Yf:lm≠ld:=λz=>by rw[z,g12] at nlm;cases nlm
   have Yg:Paired (DueAt K H13) xs (R0 S.W (us.take i)):=Paired.imp' (λ_ _ h=>h.same ON) pr;refine x9 (SqL.of f13) ?_;refine J2 (n:=ys.length) (λj σ H'=>Same RJ H'/\(∃v9,σ=[some (.ref a),some (.ref lcs),some (.ref lk),some (.ref lw),some (.ref lr),some (.ref ln),some (.ref S.a),some (.ref ld),some (.int (i:Int)),v9,none,none,none])/\H' lm=some (.lst ys)/\DcAt H' (V5 u.L.W) ys (B4 u.L.W S.W [])/\∃xs:List V,H' ld=some (.lst xs)/\Paired (DueAt K H') xs (R0 S.W (us.take i)++(ud S.W u j).map λrow=>((i:Int),(V5 u.L.W).zip row))/\xs.length<=c+j) ⟨s13,⟨_,rfl⟩,f13,dc,xs,g13,(by rw[xK,Mb,Jl];exact Yg),PD⟩ (λj σ H' hj hp=>⟨_,ys[j],SqL.of hp.2.2.1,HH hj⟩) ?_ ?_
   .rintro bk2 j v σ H14' H14 hj ⟨s14,⟨v9,rfl⟩,f14,dc14,zs,g14,pr14,XZ⟩ y;obtain⟨rfl,Od⟩:=Itl.get y (SqL.of f14);rw[HH hj] at Od;obtain⟨row,m_,d,ed,hd⟩:=B7 dc14 (HH hj);have ev:v= .ref d:=by rw[←ed];exact(Ie Od).symm
    subst ev;have Sa:=HX m_;obtain⟨d',XX,nd'⟩:=nwy _ (ID hj);have XY:d=d':=V.ref.inj (ed.symm.trans XX);subst XY;have U14:=Sg.same s14;have S14:=hS.same s14;have hzp:((V5 u.L.W).zip row).length<=100:=by
     have z:(V5 u.L.W).length=(h9 u.L.W).length:=(O9 u.L.W).perm.length_eq;rw[C0] at z;rw[Kd];lia
    walk_at "e";refine i6 (SqL.of (s14 _ _ QK)) (b4 Ye) ?_;walk_at "e";refine⟨S,u.L,u.R,u.r,d,u.bl,u.bs,(V5 u.L.W).zip row,ws,rfl,S14,U14.ru,U14.b,hd,⟨by have:=Sh.len;lia,λb hb=>⟨(i8 (Sh.ru.bars b hb).hp nd').symm,(i8 (Sh.ru.bars b hb).hq nd').symm,vX Sh so Sa hb⟩⟩,by rw[dA Sa];exact(O9 u.L.W).perm.nodup_iff.mpr Sh.ru.l.nd,hzp,rG Sa,by lia,NA,Sg.lf,Sg.rg,so.n,λb H15 hb m15=>?_⟩;have s15:=s14.trans m15;have Yh:=m15 _ _ g14;have Uy:Paired (DueAt K H15) zs (R0 S.W (us.take i)++(ud S.W u j).map λrow=>((i:Int),(V5 u.L.W).zip row)):=Paired.imp' (λ_ _ h=>h.same m15) pr14;walk_at "e";refine X3 (λht=>?_) (λhf=>?_)
    .walk_at "e";refine⟨.inl ⟨rfl,_,SqL.of Yh⟩,?_⟩;walk_at "e";refine⟨d9 (by simp),λt6 nt6=>?_⟩;obtain⟨H16,e16,Yi,Pj,_⟩:=b0 (o:= .tup [.int (i:Int),.ref d]) nt6;rw[e16];have Vs:=Pj _ _ Yh;walk_at "e";refine⟨ld,zs,.ref t6,rfl,rfl,Vs,Mc (m:=9000000) (by lia) (by decide),?_⟩;walk_at "e";refine⟨A3 (s15.trans Pj) nld,⟨_,rfl⟩,by rw[b7 Yf];exact(m15.trans Pj) _ _ f14,yH Vs (dc14.same (m15.trans Pj)),zs++[.ref t6],b9,?_,by rw[HQ,Il];lia⟩;rw[qS m_ (hb.mp ht),HL,←IF];exact p7 (Paired.imp' (λ_ _ h=>(h.same Pj).updL Vs) Uy) (DueAt.updL Vs ⟨t6,d,rfl,SqT.of Yi,(m15.trans Pj) _ _ hd⟩)
    .walk_at "e";refine⟨s15,⟨_,rfl⟩,m15 _ _ f14,dc14.same m15,zs,Yh,?_,by lia⟩;rw[xF m_ (λz=>by rw[hb.mpr z] at hf;cases hf)];exact Uy
   .rintro σ H14 ⟨s14,⟨v9,rfl⟩,f14,dc14,zs,g14,pr14,XZ⟩;refine⟨⟨_,SqL.of f14,HJ _⟩,?_⟩;rw[rn S.W u (by lia)] at pr14;refine⟨s14,⟨_,_,rfl⟩,zs,g14,?_,by lia⟩;rw[hT,iK,HV,Lj (Ks hi)];exact pr14
  rintro σ Yj ⟨Yk,⟨v8,v9,rfl⟩,dx,g20,Yl,Sv⟩;refine⟨by show us.length<=_;lia,?_⟩;rw[HW (HJ _)] at Yl;refine hx [some (.ref a),some (.ref lcs),some (.ref lk),some (.ref lw),some (.ref lr),some (.ref ln),some (.ref S.a),some (.ref ld),v8,v9,none,none,none] Yj ?_;clear hx;have OJ:=Yk _ _ QK;have QL:∀u∈us,RuOk K Yj ws u:=λu hu=>(Ux u hu).same Yk;have Ym:=hS.same Yk;refine x8 λnx8 hx=>?_;walk_at "e";refine x9 (SqL.of OJ) ?_;refine w5 (n:=us.length) (λi out H'=>Same Yj H'/\∃vs:List Ru,out=(vs.map λu=>V.ref u.r)/\vs.length=i/\(∀u∈vs,RuOk K H' ws u)/\Paired uw vs (us.take i)) ⟨Same.refl _,[],rfl,rfl,(λ_ h=>nomatch h),.nil⟩ (λi out H' hi hp=>⟨_,.ref us[i].r,SqL.of (hp.1 _ _ OJ),by rw[HK,HH hi];rfl⟩) ?_ ?_
  .rintro N i v out H21' Yn hi ⟨SG,vs,rfl,Us,Se,pr⟩ y hN';obtain⟨rfl,Od⟩:=Itl.get y (SqL.of (SG _ _ OJ));rw[HK,HH hi] at Od;cases Od;have U:=(QL _ (ID hi)).same SG;have hT:us.take (i+1)=us.take i++[us[i]]:=by rw[IE,HH hi];rfl
   generalize us[i]=u at U hT;walk_at "e";refine⟨rfl,?_⟩;walk_at "e";refine b5 U.ru.tup (b4 (j:=0) rfl) ?_;walk_at "e";refine⟨u.L,rfl,U.ru.l,λa1 p1 q1 H22 Uz L22 np1 nq1 _=>?_⟩;have UA:=U.same Uz;walk_at "e";refine b5 UA.ru.tup (b4 (j:=1) rfl) ?_;walk_at "e";refine⟨u.R,rfl,UA.ru.r,λa2 p2 q2 H23 Sb R23 Qz QB _=>?_⟩;have U23:=UA.same Sb;walk_at "e";refine b5 U23.ru.tup (b4 (j:=2) rfl) ?_;walk_at "e";refine ph (pB U23.ru.bl (λl3 n3=>?_));obtain⟨UB,Yo,OT,OQ,_⟩:=b0 (o:= .lst (u.bs.map λs=>V.ref s.a)) n3;rw[Yo];walk_at "e";refine⟨d9 (by simp),λt4 n4=>?_⟩;obtain⟨Vt,e25,Pr,w_,_⟩:=b0 (o:= .tup [.ref a1,.ref a2,.ref l3]) n4;rw[e25];have Rl:=OQ.trans w_;have Rm:=Sb.trans Rl;have Pu:=Uz.trans Rm;have UC:=U.same Pu;refine⟨d9 (by rw[HI];lia),hN' _ _ ⟨SG.trans Pu,vs++[⟨t4,l3,⟨a1,p1,q1,u.L.kvs,u.L.W⟩,⟨a2,p2,q2,u.R.kvs,u.R.W⟩,u.bs⟩],by rw[HL];rfl,by rw[HQ,Us];rfl,λx hx=>?_,?_⟩⟩
   .rcases Ic.mp hx with z|z
    .exact(Se x z).same Pu
    .rw[Ih.mp z];exact⟨⟨SqT.of Pr,L22.same Rm,R23.same Rl,SqL.of (w_ _ _ OT),UC.ru.bars⟩,w_ _ _ OT,UC.lf,UC.rg,UC.len,UC.br⟩
   .rw[hT];exact p7 pr ⟨rfl,rfl,rfl,(i8 U.ru.l.hp np1).symm,(i8 U.ru.l.hq nq1).symm,(i8 UA.ru.r.hp Qz).symm,(i8 UA.ru.r.hq QB).symm⟩
  rintro out Yn ⟨SG,vs,rfl,Us,Se,pr⟩;rw[HW (HJ _)] at pr;refine⟨⟨_,SqL.of (SG _ _ OJ),by rw[HI];exact HJ _⟩,λlp nlp=>⟨d9 (by rw[HI];lia),?_⟩⟩;obtain⟨H22,e22,Yp,Uz,_⟩:=b0 (H:=Yn) (o:= .lst (vs.map λu=>V.ref u.r)) nlp;change P8 _ _ _ (p0 Yn lp (.lst (vs.map λu=>V.ref u.r))) _;rw[e22];have s22:=SG.trans Uz;walk_at "e";refine hx [some (.ref a),some (.ref lcs),some (.ref lk),some (.ref lw),some (.ref lr),some (.ref ln),some (.ref S.a),some (.ref ld),v8,v9,some (.ref lp),none,none] H22 ?_;clear hx;have Yq:=Ym.same s22;refine x8 λnx9 hx=>?_;walk_at "e";refine⟨S,rfl,Yq,λa1 p1 q1 H23 Sb hC np1 nq1 _=>?_⟩;walk_at "e";refine⟨d9 (by simp),λth nth=>?_⟩;obtain⟨UB,Yo,OT,OQ,_⟩:=b0 (o:= .tup [.ref a1,.ref lp]) nth;rw[Yo];have Pw:=Sb.trans OQ;have s24:=s22.trans Pw;walk_at "e";refine hx [some (.ref a),some (.ref lcs),some (.ref lk),some (.ref lw),some (.ref lr),some (.ref ln),some (.ref S.a),some (.ref ld),v8,v9,some (.ref lp),some (.ref th),none] UB ?_;clear hx;have C24:=hC.same OQ;have UD:∀u∈vs,RuOk K UB ws u:=λu hu=>(Se u hu).same (Uz.trans Pw);have UE:=Pw _ _ Yp;refine x8 λnx10 hx=>?_;walk_at "e";refine b5 (SqT.of OT) (b4 (j:=0) rfl) ?_;walk_at "e";refine b5 (SqT.of OT) (b4 (j:=1) rfl) ?_;walk_at "e";refine⟨⟨a1,p1,q1,S.kvs,S.W⟩,vs,lp,ws,rfl,C24,so,UE,by lia,NA,UD,λlf Vt fx ZZ w_ Pr prf nwf=>?_⟩;replace prf:Paired (DueAt K Vt) fx (R0 S.W us):=by
   rw[←tT pr];exact prf
  have Yr:=s24.trans w_;walk_at "e";refine hx [some (.ref a),some (.ref lcs),some (.ref lk),some (.ref lw),some (.ref lr),some (.ref ln),some (.ref S.a),some (.ref ld),v8,v9,some (.ref lp),some (.ref th),some (.ref lf)] Vt ?_;clear hx;have cnd:∀c∈R0 S.W us,(c.2.map (·.1)).Nodup:=zv λu hu=>(QL u hu).ru.l.nd;have UG:Paired (DueAt K Vt) dx (R0 S.W us):=Paired.imp' (λ_ _ h=>h.same Yr) Yl;refine x8 λnx11 hx=>?_;walk_at "e";refine gc (fX (t:="list") (.inl ⟨rfl,_,SqL.of Pr⟩) (by simp) ?_);rw[show ef "list" "list"=true from rfl];walk_at "e";refine .inr ⟨_,lY (.inr ⟨SqL.of Pr,SqL.of (Yr _ _ g20)⟩) (lU prf UG cnd),?_⟩;rw[bW];walk_at "e";refine⟨d9 (by simp),λtw ntw=>?_⟩;obtain⟨H26,e26,Ys,M_,_⟩:=b0 (o:= .tup [.ref S.a,.ref lr]) ntw;rw[e26];have Yt:=Yr.trans M_;have S26:=Ym.same Yt;have C26:=C24.same (w_.trans M_);refine .inr ⟨_,lY (.inl ⟨SqT.of ((w_.trans M_) _ _ OT),SqT.of Ys⟩) (.cons (iD (n:=7) C26 S26 (Mj _) (Mj _) (i8 Yq.hp np1).symm (i8 Yq.hq nq1).symm) (.cons (mL (n:=7) (.inr ⟨SqL.of ((w_.trans M_) _ _ UE),SqL.of (Yt _ _ OJ)⟩) (sd 5 pr (λu hu=>(UD u hu).same (w_.trans M_)) λu hu=>(QL u hu).same Yt)) .nil)),?_⟩;rw[bW];walk_at "e";refine hx _ H26 ?_;clear hx;refine x8 λnx12 hx=>?_;walk_at "e";refine x9 (SqL.of (M_ _ _ Pr)) ?_;refine J2 (n:=fx.length) (λi σ H'=>Same UB H'/\(∃v8 v9,σ=[some (.ref a),some (.ref lcs),some (.ref lk),some (.ref lw),some (.ref lr),some (.ref ln),some (.ref S.a),some (.ref ld),v8,v9,some (.ref lp),some (.ref th),some (.ref lf)])/\H' lf=some (.lst fx)/\∀x∈fx,NwD K UB H' x) ⟨w_.trans M_,⟨_,_,rfl⟩,M_ _ _ Pr,λx hx=>(nwf x hx).same M_⟩ (λi σ H' hi hp=>⟨_,fx[i],SqL.of hp.2.2.1,HH hi⟩) ?_ ?_
  .rintro bk i v σ H27' H27 hi ⟨Yu,⟨v8,v9,rfl⟩,Rn,Si⟩ y;obtain⟨rfl,Od⟩:=Itl.get y (SqL.of Rn);rw[HH hi] at Od;obtain⟨t,d,n,kv,ex,q27,Yv,Vu⟩:=Si _ (ID hi);have ev:v= .ref t:=by rw[←ex];exact(Ie Od).symm
   subst ev;refine J6 q27 rfl ?_;walk_at "e";refine M8 ?_;walk_at "e";refine gc (fX (t:="int") rfl (by simp) ?_);rw[show ef "int" "bool"=false from rfl];walk_at "e";refine⟨.inr (.inr (.inl ⟨rfl,.inl ⟨_,Vu⟩⟩)),?_⟩;walk_at "e";refine⟨d,kv,rfl,rfl,Vu,?_⟩;exact⟨A3 Yu Yv,⟨_,_,rfl⟩,by rw[b7 (λz=>by rw[z,Vu] at Rn;cases Rn)];exact Rn,λx hx=>(Si x hx).clear Vu⟩
  rintro σ H27 ⟨Yu,⟨v8,v9,rfl⟩,Rn,Si⟩;refine⟨⟨_,SqL.of Rn,HJ _⟩,?_⟩;refine hx _ H27 ?_;clear hx;have Of:=s24.trans Yu;have S27:=Ym.same Of;walk_at "r";refine⟨S,us,lr,ws,rfl,S27,so,Of _ _ OJ,hu8,NA,λu hu=>(QL u hu).same Of,λl28 H28 y28 n28 m28 f28 pr28 _=>?_⟩;have s28:=Of.trans m28;walk_at "r";refine .inr ⟨_,lY (.inr ⟨SqL.of f28,SqL.of (s28 _ _ g20)⟩) (lU pr28 (Paired.imp' (λ_ _ h=>h.same s28) Yl) cnd),?_⟩;rw[bW];walk_at "r";refine⟨d9 (by simp),λl29 n29=>?_⟩;obtain⟨H29,e29,Yw,m29,_⟩:=b0 (o:= .lst []) n29;rw[e29];walk_at "r";refine⟨S,[],l29,ws,rfl,S27.same (m28.trans m29),so,Yw,by decide,NA,(λu hu=>nomatch hu),λl30 H30 y30 n30 m30 f30 pr30 _=>?_⟩;walk_at "r";refine⟨d9 (by simp),λl31 n31=>?_⟩;obtain⟨H31,Qv,Yx,m31,_⟩:=b0 (o:= .lst []) n31;rw[Qv];refine .inr ⟨_,lY (ys:=[]) (.inr ⟨SqL.of (m31 _ _ f30),SqL.of Yx⟩) (lU (cl:=R0 S.W []) (Paired.imp' (λ_ _ h=>h.same m31) pr30) .nil λc hc=>nomatch hc),?_⟩;rw[bW];exact k _
end
theorem all_mk {l:PySem.W.OpenLaw}{w:World}{K:Qc}{h:Heap}{mg:Str->Option Value}{fa f0 f1 f2 f3 f4 f5 f6 f7 f8 f9 RL Sf WV f13 f14 f15 Yi f17 f18 f19 f20 f21 Yp Ut OT Pr Ys Rn f28 Yw f30 Yx f32 f33 f34 f35 f36 f37 f38 f39 f40 f41 XA f43 f44 f45 Vn f47 f48 f49 f50 f51:Addr}{Yy Yz:Option Addr}{YA:Array (Option Value)}{YB YC YD YE UH YF:Value}{T11:Addr}{YG:Value}{YH:Option Addr}{YI:Nat}{YJ:Array (Option Value)}{t_MOST_NAME_SIGNS t_NAME_SIGNS t_SMALL_LETTERS:Tok}{C_Barred C_GlueError C_Loose C_NoMatch C_NoNames:Addr}{cd_GlueError:ClassData}(X:K.In h)(G:h.Ns mainGlobals mg)(Wf:mg "law"=some (.ref fa))
  (a0:FnIn K "is_text_of" ae f0)
  (a1:FnIn K "is_name" fw f1)
  (a2:FnIn K "in_order" df f2)
  (a3:FnIn K "copied" gZ f3)
  (a4:FnIn K "things" jl f4)
  (a5:FnIn K "without" fH f5)
  (a6:FnIn K "united" ig f6)
  (a7:FnIn K "tie_renamed" X7 f7)
  (a8:FnIn K "renamed" eV f8)
  (a9:FnIn K "is_match" dm f9)
  (a10:FnIn K "line" pC RL)
  (a11:PySem.W.nsIn K mainGlobals "matches"=some (some (.ref Sf))) (l11:K.lookup Sf=some ⟨YB,Yy,.func (PySem.W.fnOf "matches" "matches" (M4 S0) (F5 S0) (i7 S0) (.ref T11) YC YD YE Yz UH YF),YA⟩) (c11:PySem.W.codeIn K UH "matches"=true) (k11:PySem.W.keepIn K (.ref Sf)=true) (t11:K.lookup T11=some ⟨YG,YH,.seq #[Value.none] YI,YJ⟩)
  (a12:FnIn K "first_match" X6 WV)
  (a13:FnIn K "first_found" Y2 f13)
  (a14:FnIn K "found" lJ f14)
  (a15:FnIn K "may_be" ie f15)
  (a16:FnIn K "point_choices" Q8 Yi)
  (a17:FnIn K "tie_places" aG f17)
  (a18:FnIn K "enough" iG f18)
  (a19:FnIn K "lines" mF f19)
  (a20:FnIn K "images" jq f20)
  (a21:FnIn K "tie_choices" Y3 f21)
  (a22:FnIn K "has_room" cT Yp)
  (a23:FnIn K "both" oV Ut)
  (a24:FnIn K "alone" lg OT)
  (a25:FnIn K "kept" pq Pr)
  (a26:FnIn K "taken" kR Ys)
  (a27:FnIn K "fresh_of" du Rn)
  (a28:FnIn K "picked" ij f28)
  (a29:FnIn K "barred" jk Yw)
  (a30:FnIn K "taken_out" bA f30)
  (a31:FnIn K "names_serve" Y0 Yx)
  (a32:FnIn K "rest_of" fK f32)
  (a33:FnIn K "done" pT f33)
  (a34:FnIn K "behind" je f34)
  (a35:FnIn K "can_be_done" X9 f35)
  (a36:FnIn K "choices" fF f36)
  (a37:FnIn K "_law_cells" av f37)
  (a38:FnIn K "_law_cell_at" T6 f38)
  (a39:FnIn K "_law_kinds" aI f39)
  (a40:FnIn K "_law_names" Z9 f40)
  (a41:FnIn K "_law_words" az f41)
  (a42:FnIn K "_law_digits" W5 XA)
  (a43:FnIn K "_law_web" dq f43)
  (a44:FnIn K "_law_planted" T7 f44)
  (a45:FnIn K "_law_left" aZ f45)
  (a46:FnIn K "_law_right" aK Vn)
  (a47:FnIn K "_law_rule" aV f47)
  (a48:FnIn K "_law_copied" X1 f48)
  (a49:FnIn K "_law_can" dg f49)
  (a50:FnIn K "_law_all_rules" O4 f50)
  (a51:FnIn K "law" yc f51)
  (z_all:PySem.W.nsIn K mainGlobals "all"=some none)
  (z_any:PySem.W.nsIn K mainGlobals "any"=some none)
  (z_bool:PySem.W.nsIn K mainGlobals "bool"=some none)
  (z_dict:PySem.W.nsIn K mainGlobals "dict"=some none)
  (z_enumerate:PySem.W.nsIn K mainGlobals "enumerate"=some none)
  (z_int:PySem.W.nsIn K mainGlobals "int"=some none)
  (z_isinstance:PySem.W.nsIn K mainGlobals "isinstance"=some none)
  (z_len:PySem.W.nsIn K mainGlobals "len"=some none)
  (z_list:PySem.W.nsIn K mainGlobals "list"=some none)
  (z_max:PySem.W.nsIn K mainGlobals "max"=some none)
  (z_min:PySem.W.nsIn K mainGlobals "min"=some none)
  (z_range:PySem.W.nsIn K mainGlobals "range"=some none)
  (z_reversed:PySem.W.nsIn K mainGlobals "reversed"=some none)
  (z_set:PySem.W.nsIn K mainGlobals "set"=some none)
  (z_sorted:PySem.W.nsIn K mainGlobals "sorted"=some none)
  (z_str:PySem.W.nsIn K mainGlobals "str"=some none)
  (z_zip:PySem.W.nsIn K mainGlobals "zip"=some none)
  (v_MOST_NAME_SIGNS:PySem.W.nsIn K mainGlobals "MOST_NAME_SIGNS"=some (some (.int 24 t_MOST_NAME_SIGNS)))
  (v_NAME_SIGNS:PySem.W.nsIn K mainGlobals "NAME_SIGNS"=some (some (.str eI t_NAME_SIGNS)))
  (v_SMALL_LETTERS:PySem.W.nsIn K mainGlobals "SMALL_LETTERS"=some (some (.str aP t_SMALL_LETTERS)))
  (n_Barred:PySem.W.nsIn K mainGlobals "Barred"=some (some (.ref C_Barred)))
  (n_GlueError:PySem.W.nsIn K mainGlobals "GlueError"=some (some (.ref C_GlueError)))
  (n_Loose:PySem.W.nsIn K mainGlobals "Loose"=some (some (.ref C_Loose)))
  (n_NoMatch:PySem.W.nsIn K mainGlobals "NoMatch"=some (some (.ref C_NoMatch)))
  (n_NoNames:PySem.W.nsIn K mainGlobals "NoNames"=some (some (.ref C_NoNames)))
  (xr_Barred:PySem.W.excIn K C_Barred CS "ValueError.__new__"=true)
  (xr_Loose:PySem.W.excIn K C_Loose CS "ValueError.__new__"=true)
  (xr_NoMatch:PySem.W.excIn K C_NoMatch CS "ValueError.__new__"=true)
  (xr_NoNames:PySem.W.excIn K C_NoNames CS "ValueError.__new__"=true)
  (xt_GlueError:PySem.W.typeIn K (.ref C_GlueError)=some (.type "type"))
  (xe_GlueError:PySem.W.subIn K (.ref C_GlueError) (.type "BaseException")=some true)
  (xc_GlueError:PySem.W.clsIn K C_GlueError=some cd_GlueError)
  (xs_Barred_GlueError:PySem.W.subIn K (.ref C_Barred) (.ref C_GlueError)=some true)
  (xs_Loose_GlueError:PySem.W.subIn K (.ref C_Loose) (.ref C_GlueError)=some true)
  (xs_NoMatch_GlueError:PySem.W.subIn K (.ref C_NoMatch) (.ref C_GlueError)=some true)
  (xs_NoNames_GlueError:PySem.W.subIn K (.ref C_NoNames) (.ref C_GlueError)=some true)
  :
  ∃fd:FuncData,(∀(s:Shared) (v:Value),BindsTo s fd ⟨[v],[]⟩ [("_law_script",v)])/\∀base:Heap,K.In base->base.Ns mainGlobals mg->A1 l.prog w K mg base B8 13 fa fd ["_law_script"] (lH K):=by
 have ec_Barred:cA K "Barred"=C_Barred:=by unfold cA;rw[n_Barred]
 have ec_GlueError:cA K "GlueError"=C_GlueError:=by unfold cA;rw[n_GlueError]
 have ec_Loose:cA K "Loose"=C_Loose:=by unfold cA;rw[n_Loose]
 have ec_NoMatch:cA K "NoMatch"=C_NoMatch:=by unfold cA;rw[n_NoMatch]
 have ec_NoNames:cA K "NoNames"=C_NoNames:=by unfold cA;rw[n_NoNames]
 have T:Txt K mg:=⟨by rw[ec_Barred];exact⟨Jy X G n_Barred,xr_Barred⟩,by rw[ec_Loose];exact⟨Jy X G n_Loose,xr_Loose⟩,by rw[ec_NoMatch];exact⟨Jy X G n_NoMatch,xr_NoMatch⟩,by rw[ec_NoNames];exact⟨Jy X G n_NoNames,xr_NoNames⟩,by rw[ec_GlueError];exact⟨Jy X G n_GlueError,xt_GlueError,xe_GlueError,by rw[xc_GlueError];rfl⟩,by rw[ec_Barred,ec_GlueError];exact xs_Barred_GlueError,by rw[ec_Loose,ec_GlueError];exact xs_Loose_GlueError,by rw[ec_NoMatch,ec_GlueError];exact xs_NoMatch_GlueError,by rw[ec_NoNames,ec_GlueError];exact xs_NoNames_GlueError,IU X G z_all,IU X G z_any,IU X G z_bool,IU X G z_dict,IU X G z_enumerate,IU X G z_int,IU X G z_isinstance,IU X G z_len,IU X G z_list,IU X G z_max,IU X G z_min,IU X G z_range,IU X G z_reversed,IU X G z_set,IU X G z_sorted,IU X G z_str,IU X G z_zip,⟨_,Jy X G v_MOST_NAME_SIGNS,_,rfl⟩,⟨_,Jy X G v_NAME_SIGNS,_,rfl⟩,⟨_,Jy X G v_SMALL_LETTERS,_,rfl⟩⟩
 refine CD X G Wf a51 (fun{base f fd} F=>?_) λ_ _ _ _ _ _ s v=> .of_eq rfl
 have aL:dE l.prog w K mg base:=j9 X G a0 (λF=>jD T F) (by walk_at "b")
 have aD:ju l.prog w K mg base:=j9 X G a2 (λF=>mY T F) (by walk_at "b")
 have z7:K8 l.prog w K mg base:=j9 X G a4 (λF=>su T F) (by walk_at "b")
 have B9:O5 l.prog w K mg base:=j9 X G a7 (λF=>iE T F) (by walk_at "b")
 have Z2:ix l.prog w K mg base:=j9 X G a15 (λF=>sx T F) (by walk_at "b")
 have Y5:ia l.prog w K mg base:=j9 X G a18 (λF=>uo T F) (by walk_at "b")
 have bf:nj l.prog w K mg base:=j9 X G a28 (λF=>tX T F) (by walk_at "b")
 have aN:dH l.prog w K mg base:=j9 X G a37 (λF=>jA T F) (by walk_at "b")
 have S9:bK l.prog w K mg base:=j9 X G a38 (λF=>gI T F) (by walk_at "b")
 have aj:eB l.prog w K mg base:=j9 X G a39 (λF=>jH T F) (by walk_at "b")
 have Z7:dG l.prog w K mg base:=j9 X G a40 (λF=>jw T F) (by walk_at "b")
 have au:ez l.prog w K mg base:=j9 X G a41 (λF=>jG T F) (by walk_at "b")
 have X4:cQ l.prog w K mg base:=j9 X G a42 (λF=>jm T F) (by walk_at "b")
 have dj:iL l.prog w K mg base:=j9 X G a43 (λF=>og T F) (by walk_at "b")
 have S8:bC l.prog w K mg base:=j9 X G a44 (λF=>gJ T F) (by walk_at "b")
 have bO:fV l.prog w K mg base:=j9 X G a45 (λF=>mz T F) (by walk_at "b")
 have aJ:dB l.prog w K mg base:=j9 X G a46 (λF=>jv T F) (by walk_at "b")
 have J1:cv l.prog w K mg base:=j9 X G a48 (λF=>iT T F) (by walk_at "b")
 have ff:kF l.prog w K mg base:=j9 X G a1 (λF=>oX T aL F) (by walk_at "b")
 have K6:dY l.prog w K mg base:=j9 X G a3 (λF=>ur T aD F) (by walk_at "b")
 have oY:wm l.prog w K mg base:=j9 X G a10 (λF=>yN T z7 F) (by walk_at "b")
 have Q5:aR l.prog w K mg base:=j9 X G a16 (λF=>fc T Z2 F) (by walk_at "b")
 have ax:dX l.prog w K mg base:=j9 X G a17 (λF=>jF T Z2 F) (by walk_at "b")
 have E8:W8 l.prog w K mg base:=j9 X G a21 (λF=>iU T B9 F) (by walk_at "b")
 have qd:vU l.prog w K mg base:=j9 X G a23 (λF=>zF T z7 F) (by walk_at "b")
 have cj:mh l.prog w K mg base:=j9 X G a24 (λF=>vx T z7 F) (by walk_at "b")
 have P0:gi l.prog w K mg base:=j9 X G a47 (λF=>ml T X4 bO aJ F) (by walk_at "b")
 have fe:kc l.prog w K mg base:=j9 X G a5 (λF=>qg T K6 F) (by walk_at "b")
 have jh:ou l.prog w K mg base:=j9 X G a6 (λF=>tN T K6 F) (by walk_at "b")
 have fJ:jY l.prog w K mg base:=j9 X G a8 (λF=>qm T B9 K6 F) (by walk_at "b")
 have dh:iz l.prog w K mg base:=j9 X G a9 (λF=>mU T z7 oY B9 F) (by walk_at "b")
 have cW:jb l.prog w K mg base:=j9 X G a22 (λF=>nz T Y5 E8 F) (by walk_at "b")
 have qe:yd l.prog w K mg base:=j9 X G a25 (λF=>yM T qd F) (by walk_at "b")
 have mK:sj l.prog w K mg base:=j9 X G a26 (λF=>vG T cj F) (by walk_at "b")
 have N6:dn l.prog w K mg base:=j9 X G a27 (λF=>oA T cj F) (by walk_at "b")
 have O2:Y7 l.prog w K mg base:=j9 X G a50 (λF=>dF T P0 F) (by walk_at "b")
 have iY:nJ l.prog w K mg base:=j9 X G a20 (λF=>tu T z7 E8 cW F) (by walk_at "b")
 have bD:fZ l.prog w K mg base:=j9 X G a30 (λF=>mq T mK F) (by walk_at "b")
 have V9:cN l.prog w K mg base:=j9 X G a31 (λF=>hU T N6 ff F) (by walk_at "b")
 have iI:mT l.prog w K mg base:=j9 X G a34 (λF=>tL T bf qe N6 z7 F) (by walk_at "b")
 have lO:sf l.prog w K mg base:=j9 X G a19 (λF=>vw T z7 iY F) (by walk_at "b")
 have aH:lK l.prog w K mg base:=j9 X G a14 (λF=>wU T Q5 Y5 ax z7 lO F) (by walk_at "b")
 have F11:=yY (st:=S0) l11 c11 k11
 have cb:K3 l.prog w K mg base B8 7 "matches" ["piece","web","fixed"] [] (J3 K):=⟨Sf,_,[],iX T aH F11,Jy X G a11,k11,λs us hX hl=>(match us,(by simpa using hl:us.length=3) with|[_,_,_],_=>PySem.W.binds_K hX rfl t11 rfl rfl rfl),.nil⟩
 have K0:K3 l.prog w K mg base B8 7 "matches" ["piece","web","fixed"] [.non] (J3 K):=⟨Sf,_,[Value.none],iX T aH F11,Jy X G a11,k11,λs us hX hl=>(match us,(by simpa using hl:us.length=2) with|[_,_],_=>PySem.W.binds_K hX rfl t11 rfl rfl rfl),.cons rfl .nil⟩
 have Y1:cG l.prog w K mg base:=j9 X G a13 (λF=>ic T aH F) (by walk_at "b")
 have X8:cR l.prog w K mg base:=j9 X G a12 (λF=>iZ T Y1 F) (by walk_at "b")
 have ir:oh l.prog w K mg base:=j9 X G a29 (λF=>uE T X8 F) (by walk_at "b")
 have R7:fh l.prog w K mg base:=j9 X G a32 (λF=>qv T dh fe bD ir F) (by walk_at "b")
 have pd:wt l.prog w K mg base:=j9 X G a33 (λF=>zP T R7 V9 jh fJ iI F) (by walk_at "b")
 have V8:cI l.prog w K mg base:=j9 X G a35 (λF=>iu T R7 F) (by walk_at "b")
 have Y8:jJ l.prog w K mg base:=j9 X G a36 (λF=>pA T V8 cb K0 F) (by walk_at "b")
 have cV:iN l.prog w K mg base:=j9 X G a49 (λF=>nK T pd F) (by walk_at "b")
 exact AV T S9 aj au O2 Z7 dj aN S8 cb K0 cV J1 Y8 F
theorem walk {l:PySem.W.OpenLaw}{q:Program}{loose:List Str}{XP:(Str->Option Value)->Heap->Prop}{YP:World->Heap->Prop}{d:DefRec}{K:Params->Qc}(hn:l.most=some 63)(SU:d.params.defaults=[])
  (hY:∀(w:World) (h:Heap),YP w h->(K w.params).In h)
  (F:∀(w:World) (mg:Str->Option Value) (fa:Addr) (h:Heap),(K w.params).In h->h.Ns mainGlobals mg->mg d.name=some (.ref fa)->
   ∃fd:FuncData,(∀(s:Shared) (u:Value),BindsTo s fd ⟨[u],[]⟩ [("_law_script",u)])/\∀base:Heap,(K w.params).In base->base.Ns mainGlobals mg->A1 l.prog w (K w.params) mg base B8 13 fa fd ["_law_script"] (lH (K w.params))):
  PySem.W.WalkO q loose XP YP l.row.toRowW d [] (λf vs=>PySem.call f vs):=
 L2.walk_of (n:=63) (k:=13) (x:="_law_script") (CX:=λ_=>B8) (sp:=λw=>lH (K w.params)) hn (by decide) SU ⟨rfl,by decide,by decide⟩ hY F (λ_ _ a ns hl _ hS=>⟨a,ns,rfl,hS,hl,λ_=>rfl⟩) λ_ _ _ _ _ z=>z
end K63
namespace PySem.W.Fast
def tw18107401895211462642:=True
def tw18072028715091716452:=True
def tw10806406789480500041:=True
def tw15826842117324161622:=True
def tw12288042800866219102:=True
def tw2759237047776908760:=True
def tw1356248571228872669:=True
def tw4608377241395086068:=True
def tw16604303988676013314:=True
def tw3971110213835883759:=True
def tw16088130629999613715:=True
def tw18319508368687015204:=True
def tw18387249810636631959:=True
def tw5478869879095806679:=True
def tw3444661309726263575:=True
def tw8422701482622433796:=True
def tw13651178410038308122:=True
def tw16976575348001148245:=True
def tw5893159830388412694:=True
def tw7536709340387301562:=True
def tw8087764426865920273:=True
def tw96772955844806408:=True
def tw1337561413330917860:=True
def tw10809412316024154374:=True
def tw13185183099872475125:=True
def tw270778628477386305:=True
def tw10438869568812489335:=True
def tw4030034561242626150:=True
def tw7067812446566939545:=True
def tw6065925943074344767:=True
def tw14833429176149802211:=True
def tw12041390383116656762:=True
def tw14731620648706443824:=True
def tw16358274489933043772:=True
def tw5362571598574261736:=True
def tw2614542848580750289:=True
def tw18062466469872455928:=True
def tw2484685333297670705:=True
def tw17748078645887327940:=True
def tw9167462011447438166:=True
def tw14711091924016989915:=True
def tw16693630245694860495:=True
def tw15225781286449928498:=True
def tw8265499286244288442:=True
def tw18019289131120322617:=True
def tw17195707209078849657:=True
def tw13707189797381397045:=True
def tw7828782053152520315:=True
def tw4127830425360495674:=True
def tw3839040342028399609:=True
def tw11336593634020154512:=True
def tw7281965390523964473:=True
def tw12435415927328650438:=True
def tw7381647548475284692:=True
def tw1571783171287617346:=True
def tw9682269828230919560:=True
def tw1227598143371813536:=True
def tw13230260974323158343:=True
def tw14259528738647080979:=True
def tw16054864132411261590:=True
def tw11094857299861727903:=True
def tw9485272927339240466:=True
def tw5274398042663795873:=True
def tw381409319830203058:=True
def tw951430895479697935:=True
def tw15202515306486627571:=True
def tw9412430553714009478:=True
def tw8154435256746558379:=True
def tw14571154780276629398:=True
def tw14033564820613442106:=True
def tw3424196641903668543:=True
def tw4767542423548013226:=True
def tw3036666921480406265:=True
def tw12640536097170925541:=True
def tw14836540650936994149:=True
def tw18253004204705359880:=True
def tw18191007650820680701:=True
def tw9082581318100346401:=True
def tw8837849307631391101:=True
def tw6749579092920360289:=True
def tw14836711486289690142:=True
def tw15654124806099135986:=True
def tw3900115383876042559:=True
def tw12611309187054819520:=True
def tw17035632193102339403:=True
def tw18076059935605699721:=True
def tw8121276765032880281:=True
def tw5814933104044565582:=True
def tw7305686990003889087:=True
def tw8196745945479567098:=True
def tw17079494536309328129:=True
def tw5550269134506369153:=True
def tw4556545107015624549:=True
def tw6281546963553104880:=True
def tw5933346690546850112:=True
def tw3247362665703843464:=True
def tw1609358908398483520:=True
def tw1193927845800165592:=True
def tw2820020954854825507:=True
def tw4760078350009518384:=True
def tw5637501860250205465:=True
def tw17032604425666946996:=True
def tw15137976062883445757:=True
def tw15588012368915479302:=True
def tw5081916499253474867:=True
def tw12579838543725261466:=True
def tw5674507549665037697:=True
def tw3797076651608112935:=True
def tw195994694535574616:=True
def tw8985185312274633275:=True
def tw16277000720475623401:=True
def tw14974284136641673698:=True
def tw13132700886225380652:=True
def tw14666022621004543609:=True
def tw16822214241993180839:=True
def tw13514546973065016451:=True
def tw9764849736852575343:=True
def tw17121150755038213660:=True
def tw6768671463672203611:=True
def tw1184865007191055455:=True
def tw1413747727717449849:=True
def tw7602055766686971491:=True
def tw10847551306157230962:=True
def tw13389894772240192849:=True
def tw10249492908799232548:=True
def tw15787594682699184836:=True
def tw16313709971547417308:=True
def tw15788021700005262070:=True
def tw12328297852002489240:=True
def tw3076036197233824320:=True
def tw3389576532389443918:=True
def tw18433159988610559815:=True
def tw14981295121021355392:=True
def tw15795214838745216061:=True
def tw1855866884413486817:=True
def tw10595735889684819856:=True
def tw2891518486470794578:=True
def tw12687466791747140212:=True
def tw12214868402241871456:=True
def tw527217169687585612:=True
def tw14799195785386274599:=True
def tw10716372447477416789:=True
def tw5843594532627913780:=True
def tw1729663240699702268:=True
def tw7423725879620341560:=True
def tw16575529778301956863:=True
def tw16016319211591259128:=True
def tw12718307688296684095:=True
def tw11525838997071924036:=True
def tw4479331880283852871:=True
def tw14694009344425905242:=True
def tw5845581073263037133:=True
def tw18340896592138249189:=True
def tw17531632113553283140:=True
def tw10341245695666890173:=True
def tw15862038486443205205:=True
def tw10293321416077076905:=True
def tw13143043574829685657:=True
def tw1847657507151174031:=True
def tw51602118485020308:=True
def tw17532710970988551672:=True
def tw2133251377898224215:=True
def tw11442260222313030108:=True
def tw665192954041033276:=True
def tw14543221897856122277:=True
def tw3691331851803988217:=True
def tw1968632733367525380:=True
def tw6060021314033024513:=True
def tw4518534563620193053:=True
def tw4156199035013255366:=True
def tw17373069366915333901:=True
def tw14901697122126857712:=True
def tw10859707675076182809:=True
def tw4963069859215207955:=True
def tw665967624406380009:=True
def tw6459877251147865373:=True
def tw2749070630027981312:=True
def tw227802109185479409:=True
def tw6456628664577423806:=True
def tw3994686430403331023:=True
def tw15015472256234138315:=True
def tw10661305898075653467:=True
def tw476806513390366011:=True
def tw16798338637560732193:=True
def tw10799609725415822569:=True
def tw468443519637739158:=True
def tw4716487905753792764:=True
def tw1765343071136120529:=True
def tw10490932486387994768:=True
def tw8157147490776631009:=True
def tw11894926001466941017:=True
def tw4861045409680513051:=True
def tw10674330823269784417:=True
def tw5319437069049850981:=True
def tw15444455507604331187:=True
def tw2726121290897654956:=True
def tw10433152988454140578:=True
def tw5502810733522430986:=True
def tw4488386417179137566:=True
def tw16908078544044462647:=True
def tw5592627308611764134:=True
def tw4675797164050010617:=True
def tw430285261155347899:=True
def tw6369055674997684028:=True
def tw4734536180431872971:=True
def tw11832039128057839685:=True
def tw2778530449941184338:=True
def tw16290260208598113598:=True
def tw11642382177451204991:=True
def tw10205349666662325966:=True
def tw5914334678565432308:=True
def tw2844453128137428652:=True
def tw17915074617680902188:=True
def tw12799868056101873963:=True
def tw17911678165863485477:=True
def tw5945032323189512580:=True
def tw16580625082401063323:=True
def tw15654035127605345165:=True
def tw5501690779340305391:=True
def tw12536716942391180699:=True
def tw17542444725221614274:=True
def tw1525971027128896613:=True
def tw10058407128300154795:=True
def tw6317799577349156811:=True
def tw12448570544695130072:=True
def tw11127558944030528835:=True
def tw18262779199572664689:=True
def tw13410151192323072128:=True
def tw6556636580865847889:=True
def tw5072970147105398075:=True
def tw12588235032739327748:=True
def tw8051372444639081188:=True
def tw10562990678369305588:=True
def tw9746782822956255612:=True
def tw10171835845370015549:=True
def tw14591626956430396599:=True
def tw13039167614345894640:=True
def tw9434743623880601233:=True
def tw6185296671684053177:=True
def tw401513478813912012:=True
def tw18271858547125600502:=True
def tw12153495159667816743:=True
def tw599982957072061092:=True
def tw3850908517789921615:=True
def tw6932621592241803351:=True
def tw9366548884680235876:=True
def tw8503020524614474367:=True
def tw6820156940995797870:=True
def tw11541810565872395051:=True
def tw8866247296435630681:=True
def tw2022054350767158693:=True
def tw1410189602814788664:=True
def tw3626790063337527219:=True
def tw1435503986830514777:=True
def tw4997007852636889218:=True
def tw9080082782079864617:=True
def tw8098754494486398050:=True
def tw7132958791335788400:=True
def tw5414319473980118288:=True
def tw13659923630116231882:=True
end PySem.W.Fast
open PySem PySem.W PyProof.Rows
local macro_rules| `(tactic|walk_at "F")=> `(tactic|(refine' L2.FnIn.mk' ?a ?l ?c ?k;(case a=>k_is);(case l=>k_is);(case c=>k_is);(case k=>k_is)))
set_option maxRecDepth 100000 in
set_option maxHeartbeats 0 in
theorem PySem.Challenge.cw_gluework_k63_choices_holds : PySem.Challenge.rw_gluework_k63_choices.Holds := by
 w_on;o_law;k_head;(case hw=>w_witness2);k_fill;refine K63.walk (l:=PySem.Challenge.rw_gluework_k63_choices) rfl rfl (λw h Y=>PySem.W.kIn_of Y) ?F;case F=>
  intro w mg fa h KX G hmg
  refine' K63.all_mk KX G hmg ?a0 ?a1 ?a2 ?a3 ?a4 ?a5 ?a6 ?a7 ?a8 ?a9 ?a10 ?a11 ?l11 ?c11 ?k11 ?t11 ?a12 ?a13 ?a14 ?a15 ?a16 ?a17 ?a18 ?a19 ?a20 ?a21 ?a22 ?a23 ?a24 ?a25 ?a26 ?a27 ?a28 ?a29 ?a30 ?a31 ?a32 ?a33 ?a34 ?a35 ?a36 ?a37 ?a38 ?a39 ?a40 ?a41 ?a42 ?a43 ?a44 ?a45 ?a46 ?a47 ?a48 ?a49 ?a50 ?a51 ?z_all ?z_any ?z_bool ?z_dict ?z_enumerate ?z_int ?z_isinstance ?z_len ?z_list ?z_max ?z_min ?z_range ?z_reversed ?z_set ?z_sorted ?z_str ?z_zip ?v_MOST_NAME_SIGNS ?v_NAME_SIGNS ?v_SMALL_LETTERS ?n_Barred ?n_GlueError ?n_Loose ?n_NoMatch ?n_NoNames ?xr_Barred ?xr_Loose ?xr_NoMatch ?xr_NoNames ?xt_GlueError ?xe_GlueError ?xc_GlueError ?xs_Barred_GlueError ?xs_Loose_GlueError ?xs_NoMatch_GlueError ?xs_NoNames_GlueError
  (case a0=>walk_at "F")
  (case a1=>walk_at "F")
  (case a2=>walk_at "F")
  (case a3=>walk_at "F")
  (case a4=>walk_at "F")
  (case a5=>walk_at "F")
  (case a6=>walk_at "F")
  (case a7=>walk_at "F")
  (case a8=>walk_at "F")
  (case a9=>walk_at "F")
  (case a10=>walk_at "F")
  (case a11|l11|c11|k11|t11=>k_is)
  (case a12=>walk_at "F")
  (case a13=>walk_at "F")
  (case a14=>walk_at "F")
  (case a15=>walk_at "F")
  (case a16=>walk_at "F")
  (case a17=>walk_at "F")
  (case a18=>walk_at "F")
  (case a19=>walk_at "F")
  (case a20=>walk_at "F")
  (case a21=>walk_at "F")
  (case a22=>walk_at "F")
  (case a23=>walk_at "F")
  (case a24=>walk_at "F")
  (case a25=>walk_at "F")
  (case a26=>walk_at "F")
  (case a27=>walk_at "F")
  (case a28=>walk_at "F")
  (case a29=>walk_at "F")
  (case a30=>walk_at "F")
  (case a31=>walk_at "F")
  (case a32=>walk_at "F")
  (case a33=>walk_at "F")
  (case a34=>walk_at "F")
  (case a35=>walk_at "F")
  (case a36=>walk_at "F")
  (case a37=>walk_at "F")
  (case a38=>walk_at "F")
  (case a39=>walk_at "F")
  (case a40=>walk_at "F")
  (case a41=>walk_at "F")
  (case a42=>walk_at "F")
  (case a43=>walk_at "F")
  (case a44=>walk_at "F")
  (case a45=>walk_at "F")
  (case a46=>walk_at "F")
  (case a47=>walk_at "F")
  (case a48=>walk_at "F")
  (case a49=>walk_at "F")
  (case a50=>walk_at "F")
  (case a51=>walk_at "F")
  (case z_all|z_any|z_bool|z_dict|z_enumerate|z_int|z_isinstance|z_len|z_list|z_max|z_min|z_range|z_reversed|z_set|z_sorted|z_str|z_zip|v_MOST_NAME_SIGNS|v_NAME_SIGNS|v_SMALL_LETTERS|n_Barred|n_GlueError|n_Loose|n_NoMatch|n_NoNames=>k_is)
  (case xr_Barred=>k_exc)
  (case xr_Loose=>k_exc)
  (case xr_NoMatch=>k_exc)
  (case xr_NoNames=>k_exc)
  (case xt_GlueError|xe_GlueError|xc_GlueError|xs_Barred_GlueError|xs_Loose_GlueError|xs_NoMatch_GlueError|xs_NoNames_GlueError=>k_is)
