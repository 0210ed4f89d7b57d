import PyProof.Rows.All
import Wide.All
import OpenK.AllK
import Wide.FinOn
import PyProof.EqAt
import PyProof.EqKinds
import PyProof.TupleCall
import PyProof.NeKinds
import PyProof.AttrMissHeap
import PyProof.ExcClass3
import PyProof.RulesAs
import PyProof.Rows.FStr
import OpenK.KOwn
import PyProof.NsDelKeeps
import PyProof.Rows.Catch
import PyProof.Rows.SetFrom
import PyProof.SetRoads
import PyProof.FactsAll.NoneType
import KE.KRevIter
import PyProof.ZipIter
import KE.KItemsList
import PyProof.MinMaxWalk
import PyProof.WalksMore
import PyProof.FString5
import PyProof.Rows.SortShellK
import PySem.Challenge.RW_gluework_k62_steps_are_lighter
abbrev Qc:=PySem.W.Frag
abbrev Gs:=@List.length_map
abbrev Gu:=@List.getElem?_eq_getElem
abbrev Gv:=@Nat.le_refl
abbrev Gw:=@List.mem_map
abbrev Gx:=@List.getElem?_map
abbrev Gy:=@List.map_append
abbrev Gz:=@PySem.wpAny_bind
abbrev GA:=@List.mem_append_left
abbrev GB:=@PySem.Heap.get?_push_of_some
abbrev GC:=@List.length_take
abbrev GD:=@List.take_of_length_le
abbrev GF:=@List.length_append
abbrev GG:=@List.mem_append_right
abbrev GH:=@PySem.Heap.lt_size
abbrev GI:=@List.length_filter_le
abbrev GJ:=@List.mem_of_getElem?
abbrev GK:=@Nat.lt_of_lt_of_le
abbrev GL:=@Option.some.inj
abbrev GN:=@PySem.wpAny_pure
abbrev GO:=@List.mem_append
abbrev GP:=@Bool.and_eq_true
abbrev GQ:=@List.map_map
abbrev GR:=@List.mem_filter
abbrev GS:=@decide_eq_true_eq
abbrev GU:=@Nat.ne_of_lt
abbrev GV:=@decide_eq_false_iff_not
abbrev GW:=@PySem.Heap.get?_push_size
abbrev GX:=@List.nodup_append
abbrev GY:=@List.mem_cons_of_mem
abbrev GZ:=@List.mem_singleton
abbrev Hb:=@List.length_singleton
abbrev Hc:=@decide_eq_false
abbrev Hd:=@List.size_toArray
abbrev He:=@Nat.le_trans
abbrev Hf:=@decide_eq_true
abbrev Hg:=@List.mem_cons_self
abbrev Hh:=@List.mem_cons
abbrev Hi:=@Bool.false_ne_true
abbrev Hj:=@List.getD_eq_getElem?_getD
abbrev Hk:=@List.all_eq_true
abbrev Hl:=@List.append_assoc
abbrev Hm:=@Bool.not_eq_true'
abbrev Hn:=@PySem.Paired.length
abbrev Ho:=@List.take_succ
abbrev Hq:=@Bool.eq_iff_iff
abbrev Hr:=@Option.map_eq_some_iff
abbrev Hs:=@List.nodup_cons
abbrev Ht:=@PySem.PassesOwn.never
abbrev Hu:=@List.map_cons
abbrev Hv:=@List.getElem_mem
abbrev Hw:=@List.filter_append
abbrev Hx:=@PySem.W.mg_none_of
abbrev Hz:=@List.filter_cons_of_pos
abbrev HF:=@List.length_cons
abbrev HG:=@List.filter_cons_of_neg
abbrev HH:=@List.getElem?_eq_none
abbrev HI:=@of_decide_eq_true
abbrev HJ:=@Int.emod_lt_of_pos
abbrev HK:=@List.filter_sublist
abbrev HL:=@PySem.F.plainAttrs_dict
abbrev HP:=@PySem.F.plainAttrs_list
abbrev HQ:=@List.getElem?_append_left
abbrev HR:=@Int.emod_nonneg
abbrev HS:=@List.drop_eq_getElem_cons
abbrev HU:=@PySem.wpAny_holding
abbrev HV:=@PySem.Around.under_plainId
abbrev HW:=@PyProof.Rows.callWith_type1
abbrev HX:=@List.append_nil
abbrev HY:=@PySem.F.slot_list_append
abbrev HZ:=@PySem.F.type_list_append
abbrev Ia:=@congrArg
abbrev Ib:=@Nat.lt_irrefl
abbrev Ic:=@List.getElem?_append_right
abbrev Ie:=@List.getElem?_eq_some_iff
abbrev Ig:=@PySem.codeAny_builtin
abbrev Ih:=@List.any_eq_true
abbrev Ii:=@List.lookup_cons
abbrev Ij:=@Sum.inr.inj
abbrev Ik:=@PySem.call_meetsIn
abbrev Il:=@Nat.lt_or_ge
abbrev Im:=@PySem.Calls.callWith_builtin
abbrev Io:=@Ne.symm
abbrev Ip:=@PySem.wpAny_truthy_bool
abbrev Iq:=@List.map_congr_left
abbrev Ir:=@List.length_replicate
abbrev Iu:=@PySem.F.slot_dict_get
abbrev Iv:=@List.filter_nil
abbrev Iw:=@PySem.tupleKind_room_in1
abbrev Iy:=@PySem.F.slot_dict_values
abbrev Iz:=@List.filter_filter
abbrev IA:=@Nat.zero_le
abbrev IB:=@PySem.W.mg_of
abbrev IC:=@List.all_map
abbrev ID:=@List.take_sublist
abbrev IE:=@beq_eq_false_iff_ne
abbrev IF:=@PySem.W.kia_one
abbrev IG:=@PySem.wpAny_richCompare_same_room
abbrev IH:=@Prod.mk.inj
abbrev II:=@List.filter_eq_nil_iff
abbrev IK:=@PySem.F.slot_NoneType_hash
abbrev IL:=@PySem.wpAny_Call_Name_kw
abbrev IM:=@PySem.plainId_quiet
abbrev IP:=@Int.zero_add
abbrev IQ:=@List.take_append_drop
abbrev IS:=@List.nodup_nil
abbrev IT:=@PySem.wpAny_passesOwn
abbrev IU:=@List.getElem?_take_of_lt
abbrev IV:=@PyProof.Rows.slot_tuple_getitem
abbrev IW:=@PySem.wpAny_newObj_type
abbrev IX:=@Option.map_some
abbrev IY:=@List.range_succ
abbrev IZ:=@PySem.F.slot_dict_update
abbrev Ja:=@List.Pairwise.map
abbrev Jb:=@List.flatMap_cons
abbrev Jc:=@PySem.F.type_dict_values
abbrev Jd:=@List.sum_append
abbrev Je:=@List.length_range
abbrev Jf:=@List.filterMap_cons
abbrev Jg:=@PySem.mem_of_lookup
abbrev Jh:=@List.all_cons
abbrev Ji:=@PySem.wpAny_getItem_str_slice
abbrev Jj:=@List.cons.inj
abbrev Jk:=@List.filter_eq_self
abbrev Jl:=@Array.toList_append
abbrev Jm:=@List.length_drop
abbrev Jn:=@List.filter_cons
abbrev Jo:=@PySem.F.entry_dict_get
abbrev Jp:=@List.drop_of_length_le
abbrev Jq:=@PySem.Calls.spliced_cons
abbrev Jr:=@List.getElem?_drop
abbrev Js:=@PySem.wpAny_field
abbrev Jt:=@PySem.SeqAt.EqAt.same
abbrev Ju:=@Array.getElem?_toList
abbrev Jv:=@List.find?_cons
abbrev Jw:=@Bool.beq_eq_decide_eq
abbrev Jx:=@List.foldl_cons
abbrev Jy:=@PySem.F.called_set
abbrev Jz:=@List.perm_append_comm
abbrev JA:=@PySem.wpAny_pyIter_list
abbrev JB:=@PySem.Calls.evalArgs_plain
abbrev JC:=@List.getElem?_of_mem
abbrev JD:=@List.mem_of_mem_take
abbrev JE:=@List.mem_of_mem_drop
abbrev JF:=@List.mem_range
abbrev JG:=@List.getElem?_zip_eq_some
abbrev JH:=@List.pairwise_iff_getElem
abbrev JI:=@PySem.wpAny_call_entry
abbrev JJ:=@Option.getD_some
abbrev JK:=@PySem.W.hideAll_get
abbrev JL:=@Array.length_toList
abbrev JM:=@PySem.SeqAt.RcAt.lists_lengths
abbrev JN:=@PySem.F.slot_list_getattribute
abbrev JO:=@PySem.F.type_dict_update
abbrev JP:=@PySem.wpAny_execs_nil
abbrev JQ:=@List.getElem?_replicate
abbrev JR:=@PySem.wpAny_callSpecial?_slot
abbrev JS:=@PySem.wpAny_Call_method0_late
abbrev JT:=@List.length_nil
abbrev JU:=@List.forIn_cons
abbrev JV:=@Bool.false_eq_true
abbrev JW:=@Bool.and_true
abbrev JX:=@PyProof.Rows.F.plain_set_update_loop
abbrev JY:=@PySem.F.slot_zip_getattribute
abbrev JZ:=@List.length_zip
abbrev Ka:=@List.pairwise_singleton
abbrev Kb:=@List.pairwise_cons
abbrev Kc:=@PySem.wpAny_pyNext_list_item
abbrev Kd:=@List.range_succ_eq_map
abbrev Ke:=@PySem.wpAny_nextOf_list_item
abbrev Kf:=@PySem.Calls.spliced_nil
abbrev Kg:=@PySem.atKey_none_of_get
abbrev Kh:=@List.filter_congr
abbrev Ki:=@Nat.le_of_lt
abbrev Kj:=@PySem.wpAny_pyNext_list_end
abbrev Kk:=@PySem.codeAny_mono
abbrev Kl:=@PySem.builtinLookup_eq_fast
abbrev Km:=@PySem.wpAny_notOrdered_dict
abbrev Kn:=@List.Perm.append_left
abbrev Ko:=@List.eq_nil_of_length_eq_zero
abbrev Kp:=@List.drop_eq_nil_iff
abbrev Kq:=@List.any_cons
abbrev Kr:=@PySem.wpAny_mono
abbrev Ks:=@List.of_mem_zip
abbrev Kt:=@PySem.evalArgs_none
abbrev Ku:=@PySem.post_val_or_str
abbrev Kv:=@Nat.le_succ
abbrev Kw:=@PySem.F.slot_zip_next
abbrev Kx:=@PySem.Heap.SameBut.update
abbrev Ky:=@PySem.Calls.Name_function_global
abbrev Kz:=@PySem.SeqAt.EqAt.int_str
abbrev KA:=@PySem.SeqAt.EqAt.str_int
abbrev KC:=@PySem.W.of_hideAll
abbrev KD:=@Nat.ne_of_gt
abbrev KG:=@List.mem_filterMap
abbrev KH:=@PySem.wpAny_typeOf
abbrev KI:=@List.map_nil
abbrev KJ:=@List.map_id'
abbrev KL:=@List.getElem?_take
abbrev KN:=@PySem.wpAny_seqItems
abbrev KO:=@List.drop_zero
abbrev KP:=@List.forIn_nil
abbrev KQ:=@List.lt_irrefl
abbrev KR:=@Option.isSome_iff_exists
abbrev KS:=@PySem.F.args_tuple_add_2
abbrev KU:=@Option.isSome_map
abbrev KW:=@Option.some.injEq
abbrev KY:=@PySem.wpAny_comprehension_free
abbrev KZ:=@PySem.AutoSeq1.sub_tuple_tuple
abbrev La:=@PySem.F.entry_tuple_add
abbrev Lb:=@PySem.F.args_dict_get_2
abbrev Lc:=@PySem.F.args_dict_get_3
abbrev Ld:=@Int.eq_ofNat_of_zero_le
abbrev Lg:=@PySem.MeetsSeq3.entry_eq_loop
abbrev Lh:=@List.lt_asymm
abbrev Li:=@List.sum_cons
abbrev Lj:=@Nat.min_le_right
abbrev Lm:=@List.cons_append
abbrev Ln:=@beq_self_eq_true
abbrev Lo:=@List.mem_reverse
abbrev Lp:=@PySem.wpAny_pyIter_zip
abbrev Lq:=@List.countP_cons
abbrev Ls:=@List.getElem?_set_self
abbrev Lu:=@PySem.W.cellsFrom_some
abbrev Lv:=@PySem.F.slot_tuple_add
abbrev LD:=@Nat.lt_trans
abbrev LF:=@PySem.Heap.DictOf.new
abbrev LG:=@PySem.F.type_dict_get
abbrev LH:=@List.nil_append
abbrev LJ:=@PySem.Txt.slice_le
abbrev LL:=@PySem.F.slot_tuple_eq
abbrev LM:=@PySem.F.slot_tuple_ne
abbrev LN:=@PySem.typeLookup_type
abbrev LP:=@Nat.min_eq_left
abbrev LQ:=@if_false
abbrev LS:=@PySem.typeIs_str
abbrev LU:=@PySem.call_meets
abbrev LV:=@List.getElem?_set_ne
abbrev Ma:=@PySem.F.slot_list_eq
abbrev Mb:=@PySem.F.slot_list_ne
abbrev Me:=@Nat.mul_le_mul_right
abbrev Mf:=@List.replicate_succ'
abbrev Mg:=@PySem.Heap.size_push
abbrev Mh:=@List.tail_drop
abbrev Mi:=@PySem.sizeLine_eq
abbrev Mp:=@List.getElem_of_mem
abbrev Mr:=@PySem.W.looks_subIn
abbrev Ms:=@List.reverse_append
abbrev Mt:=@List.getElem?_range
abbrev Mu:=@Array.append_assoc
abbrev Mv:=@PySem.wpAny_standAt
abbrev Mw:=@PySem.W.callWith_K
abbrev My:=@Nat.lt_of_le_of_lt
abbrev MC:=@PySem.strLen_append
abbrev ME:=@Array.forIn_toList
abbrev MF:=@Bool.true_and
abbrev MG:=@Int.ofNat_inj
abbrev MH:=@List.map_replicate
abbrev MI:=@List.map_take
abbrev MK:=@Int.toNat_natCast
abbrev ML:=@if_true
abbrev MP:=@PySem.W.kitx_dict
abbrev MT:=@List.any_eq_false
abbrev MW:=@Nat.lt_trichotomy
abbrev MZ:=@PySem.wpAny_rule
abbrev Nc:=@List.ext_getElem?
abbrev Nd:=@List.getElem?_inj
abbrev Nf:=@List.drop_sublist
abbrev NR:=@Nat.add_mul
abbrev Pa:=@beq_iff_eq
set_option Elab.async false
set_option linter.all false
set_option maxRecDepth 100000
namespace L2
open PySem PySem.Spec PyProof.Rows
abbrev j0:=Sum Int Str
def bV:j0->Value->Bool
 | .inl k,v=>Value.isInt k v
 | .inr x,v=>Value.isStrOf x v
def CW (w:World):j0->Int
 | .inl k=>hashInt k
 | .inr x=>hashStr w x
theorem A9:∀{k:j0} {v:Value},bV k v=true->(∃i t,k=Sum.inl i/\v=Value.int i t)\/(∃x t,k=Sum.inr x/\v=Value.str x t)
 | .inl i,v,h=>by
  obtain⟨t,e⟩:=Value.isInt_shape (k:=i) (v:=v) h;exact .inl ⟨i,t,rfl,e⟩
 | .inr x,v,h=>by
  obtain⟨t,e⟩:=Value.isStrOf_shape (x:=x) (v:=v) h;exact .inr ⟨x,t,rfl,e⟩
theorem rN (i:Int)(t:Tok):bV (.inl i) (.int i t)=true:=by simp [bV,Value.isInt]
theorem rD (x:Str)(t:Tok):bV (.inr x) (.str x t)=true:=by simp [bV,Value.isStrOf]
theorem tK (a b:Int):decide ((Sum.inl a:j0)=Sum.inl b)=(a==b):=by
 by_cases e:a=b
 .subst e;simp
 .have h:¬(Sum.inl a:j0)=Sum.inl b:=λq=>e (Sum.inl.inj q);rw[Hc h];exact(IE.mpr e).symm
theorem wj (a b:Str):decide ((Sum.inr a:j0)=Sum.inr b)=decide (a=b):=by
 by_cases e:a=b
 .subst e;simp
 .have h:¬(Sum.inr a:j0)=Sum.inr b:=λq=>e (Ij q);rw[Hc h,Hc e]
theorem tQ (a:Int)(b:Str):decide ((Sum.inl a:j0)=Sum.inr b)=false:=Hc (λq=>nomatch q)
theorem wx (a:Str)(b:Int):decide ((Sum.inr a:j0)=Sum.inl b)=false:=Hc (λq=>nomatch q)
def k7 (prog:Program)(w:World):PySem.KeyKind prog w j0 where
 is:=bV
 hash:=CW w
 inj:=λv a b ha hb=>by
  rcases A9 ha with⟨i,t,rfl,rfl⟩|⟨x,t,rfl,rfl⟩
  .rcases A9 hb with⟨j,u,rfl,e⟩|⟨y,u,rfl,e⟩
   .injection e with e1 _;rw[e1]
   .exact nomatch e
  .rcases A9 hb with⟨j,u,rfl,e⟩|⟨y,u,rfl,e⟩
   .exact nomatch e
   .injection e with e1 _;rw[e1]
 byValue:=λk v h=>by
  rcases A9 h with⟨i,t,rfl,rfl⟩|⟨x,t,rfl,rfl⟩<;>rfl
 pyHash:=λhv h=>by
  rcases A9 hv with⟨i,t,rfl,rfl⟩|⟨x,t,rfl,rfl⟩
  .exact wpAny_pyHash_int h
  .exact wpAny_pyHash_str h
 eqBool:=λhu hv h=>by
  rcases A9 hu with⟨i,t,rfl,rfl⟩|⟨x,t,rfl,rfl⟩
  .rcases A9 hv with⟨j,u,rfl,rfl⟩|⟨y,u,rfl,rfl⟩
   .rw[tK] at h;exact wpAny_eqBool_int h
   .rw[tQ] at h;exact Kz i t y u _ _ _ _ h
  .rcases A9 hv with⟨j,u,rfl,rfl⟩|⟨y,u,rfl,rfl⟩
   .rw[wx] at h;exact KA x t j u _ _ _ _ h
   .rw[wj] at h;exact wpAny_eqBool_str h
 «strs»:=λk x t v h=>by
  rcases A9 h with⟨i,u,rfl,e⟩|⟨y,u,rfl,e⟩
  .exact nomatch e
  .injection e with e1 _
   subst e1;cases v<;>rfl
theorem nj (prog:Program)(w:World)(i:Int)(t:Tok):(k7 prog w).is (.inl i) (.int i t)=true:=rN i t
theorem ny (prog:Program)(w:World)(x:Str)(t:Tok):(k7 prog w).is (.inr x) (.str x t)=true:=rD x t
inductive V where
 |non|bl (b:Bool)|int (i:Int)|str (x:Str)|byt (b:Array UInt8)|flt (b:UInt64)|ref (a:Addr)|ty (n:String)
 deriving DecidableEq
def RelV:V->Value->Prop
 | .non,u=>u=Value.none
 | .bl b,u=>u=Value.bool b
 | .int i,u=>∃t,u=Value.int i t
 | .str x,u=>∃t,u=Value.str x t
 | .byt b,u=>∃t,u=Value.bytes b t
 | .flt b,u=>∃t,u=Value.float b t
 | .ref a,u=>u=Value.ref a
 | .ty n,u=>u=Value.type n
abbrev Vals:List V->List Value->Prop:=Paired RelV
theorem Vals.length {xs:List V}{us:List Value}(r:Vals xs us):xs.length=us.length:=Hn r
theorem Vals.get:∀{xs:List V} {us:List Value} {i:Nat} {x:V},Vals xs us->xs[i]?=some x->∃u,us[i]?=some u/\RelV x u
 |_,_,_,_,.nil,e=>by simp at e
 |_,_,0,_,.cons r _,e=>by simp at e;subst e;exact⟨_,rfl,r⟩
 |_,_,i+1,x,.cons _ t,e=>by
  obtain⟨u,h1,h2⟩:=Vals.get (i:=i) (x:=x) t (by simpa using e);exact⟨u,by simpa using h1,h2⟩
theorem Vals.set {x:V}{u:Value}(r:RelV x u):∀{xs:List V} {us:List Value} (i:Nat),Vals xs us->Vals (xs.set i x) (us.set i u)
 |_,_,_,.nil=> .nil
 |_,_,0,.cons _ t=> .cons r t
 |_,_,i+1,.cons q t=> .cons q (Vals.set r i t)
theorem Vals.append:∀{xs ys:List V} {us ws:List Value},Vals xs us->Vals ys ws->Vals (xs++ys) (us++ws)
 |_,_,_,_,.nil,s=>s
 |_,_,_,_,.cons r t,s=> .cons r (Vals.append t s)
theorem Vals.take:∀{xs:List V} {us:List Value} (n:Nat),Vals xs us->Vals (xs.take n) (us.take n)
 |_,_,0,_=> .nil
 |_,_,_+1,.nil=> .nil
 |_,_,n+1,.cons r t=> .cons r (Vals.take n t)
theorem Vals.drop:∀{xs:List V} {us:List Value} (n:Nat),Vals xs us->Vals (xs.drop n) (us.drop n)
 |_,_,0,r=>r
 |_,_,_+1,.nil=> .nil
 |_,_,n+1,.cons _ t=>Vals.drop n t
def RelO:Option V->Option Value->Prop
 |some v,some u=>RelV v u
 |none,none=>True
 |_,_=>False
def KV {κ:Type}:List (κ×V)->List (κ×Value)->Prop:=Paired fun(p:κ×V) (q:κ×Value)=>p.1=q.1/\RelV p.2 q.2
def kV:j0->V
 | .inl i=> .int i
 | .inr x=> .str x
inductive HO where
 |lst (xs:List V)
 |tup (xs:List V)
 |dK (kvs:List (j0×V))|dT (kvs:List (List j0×V))
 |set (S:Int->Bool) (n:Nat)
 |ins (C dx:Addr) (fs:List (Str×V))
 |own (x:Addr)
 |xd (fs:List (Str×V))
 |met (f x:Addr)
 |rng (lo hi:Int)
 |frz (o:Obj) (u:HO)
 |tbl (ps:Array Value)
 |ext (φ:Heap->Prop)
abbrev Hp:=Addr->Option HO
def p0 (H:Hp)(a:Addr)(o:HO):Hp:=λb=>if b=a then some o else H b
theorem b7 {H:Hp}{a:Addr}{o:HO}:p0 H a o a=some o:=by unfold p0;rw[if_pos rfl]
theorem b9 {H:Hp}{a b:Addr}{o:HO}(h:b≠a):p0 H a o b=H b:=by unfold p0;rw[if_neg h]
theorem yN {H:Hp}{a b:Addr}{o u:HO}(h:H a=some o)(h':H b=some u)(d:o≠u):a≠b:=by
 intro e;subst e;rw[h] at h';exact d (GL h')
theorem j4 {H:Hp}{a b:Addr}{o:HO}(h:H a=some o)(h':H b=none):a≠b:=by
 intro e;subst e;rw[h] at h';cases h'
section
variable (P:Program) (w:World)
def ObjOk (H:Hp)(h:Heap)(a:Addr):HO->Prop
 | .lst xs=>xs.length<=sizeLine/\∃(a_:List Value) (n:Nat),Vals xs a_/\h.get? a=some {cls:= .type "list",data:= .seq a_.toArray n}
 | .tup xs=>xs.length<=sizeLine/\∃a_:List Value,Vals xs a_/\IsTup h a a_.toArray
 | .dK kvs=>kvs.length<=sizeLine/\(a==sysModules)=false/\∃vs,KV kvs vs/\h.DictOf (k7 P w) a vs
 | .dT kvs=>kvs.length<=sizeLine/\(a==sysModules)=false/\∃xs:List (List j0×Addr×Value),
   Paired (fun(p:List j0×V) (q:List j0×Addr×Value)=>p.1=q.1/\H q.2.1=some (.tup (p.1.map kV))/\RelV p.2 q.2.2) kvs xs/\
   ∃o es ep,h.get? a=some o/\o.ExactDict/\o.data= .dict es ep/\es.toList=xs.map (entryOfKey (tupleKind (k7 P w)))/\(xs.map (·.1)).Nodup
 | .set S n=>h.SetOf (intKind P w) a S n
 | .ins C dx fs=>H dx=some (.own a)/\fs.length<=1000/\dx≠a/\h.get? a=some (PySem.W.instObj C dx)/\
   ∃mA,h.Ns1 dx mA/\(∀f,RelO (fs.lookup f) (mA f))/\PySem.Within mA (fs.map (·.1))
 | .own _=>∃o,h.get? a=some o
 | .xd fs=>∃mA,h.Ns1 a mA/\∀f,RelO (fs.lookup f) (mA f)
 | .rng lo hi=>∃t u v,h.get? a=some {cls:= .type "range",data:= .fields #[.int lo t,.int hi u,.int 1 v]}
 | .frz o u=>h.get? a=some o/\ObjOk H h a u
 | .tbl ps=>h.get? a=some {cls:= .none,data:= .fields ps}
 | .met f x=>h.get? a=some (PySem.W.methodObj (.ref f) (.ref x))
 | .ext φ=>φ h/\(∃o,h.get? a=some o)/\∀h1 h2:Heap,φ h1->(∀o,h1.get? a=some o->h2.get? a=some o)->φ h2
def HOk (H:Hp)(h:Heap):Prop:=∀a o,H a=some o->ObjOk P w H h a o
end
section
variable {P:Program} {w:World} {H H':Hp} {h h':Heap} {a:Addr} {o:HO}
theorem ObjOk.lt (x:ObjOk P w H h a o):a<h.objs.size:=by
 cases o with
 |lst xs=>obtain⟨_,_,_,_,e⟩:=x;exact GH e
 |tup xs=>obtain⟨_,_,_,p⟩:=x;exact p.lt
 |dK kvs=>obtain⟨_,_,_,_,o,_,_,e,_⟩:=x;exact GH e
 |dT kvs=>obtain⟨_,_,_,_,o,_,_,e,_⟩:=x;exact GH e
 |set S n=>obtain⟨o,_,_,_,e,_⟩:=x;exact GH e
 |ins C dx fs=>obtain⟨_,_,_,e,_⟩:=x;exact GH e
 |own y=>obtain⟨_,e⟩:=x;exact GH e
 |xd fs=>obtain⟨_,⟨_,_,_,e,_⟩,_⟩:=x;exact GH e
 |rng lo hi=>obtain⟨_,_,_,e⟩:=x;exact GH e
 |frz ob u=>obtain⟨e,_⟩:=x;exact GH e
 |tbl ps=>exact GH (show h.get? a=some _ from x)
 |met f y=>exact GH (show h.get? a=some _ from x)
 |ext φ=>obtain⟨_,⟨_,e⟩,_⟩:=x;exact GH e
theorem Paired.mapP {α β:Type}{F G:α->β->Prop}:∀{l₁:List α} {l₂:List β},Paired F l₁ l₂->(∀a b,F a b->G a b)->Paired G l₁ l₂
 |_,_,.nil,_=> .nil
 |_,_,.cons r t,f=> .cons (f _ _ r) (Paired.mapP t f)
theorem Paired.imp' {α β:Type}{F G:α->β->Prop}(f:∀a b,F a b->G a b){l₁:List α}{l₂:List β}(r:Paired F l₁ l₂):Paired G l₁ l₂:=Paired.mapP r f
theorem ObjOk.stay (x:ObjOk P w H h a o)(k:∀b u,(b=a\/H b=some (.own a))->h.get? b=some u->h'.get? b=some u)
  (ho:∀b,H b=some (.own a)->H' b=some (.own a)) (ht:∀b xs,H b=some (.tup xs)->H' b=some (.tup xs)):ObjOk P w H' h' a o:=by
 induction o with
 |lst xs=>obtain⟨z,a_,n,r,e⟩:=x;exact⟨z,a_,n,r,k _ _ (.inl rfl) e⟩
 |tup xs=>obtain⟨z,a_,r,ob,e,c⟩:=x;exact⟨z,a_,r,ob,k _ _ (.inl rfl) e,c⟩
 |dK kvs=>obtain⟨z,y,vs,r,ob,es,ep,e,c⟩:=x;exact⟨z,y,vs,r,ob,es,ep,k _ _ (.inl rfl) e,c⟩
 |dT kvs=>
  obtain⟨z,y,xs,r,ob,es,ep,e,c⟩:=x
  exact⟨z,y,xs,Paired.mapP r λp q z=>⟨z.1,ht _ _ z.2.1,z.2.2⟩,ob,es,ep,k _ _ (.inl rfl) e,c⟩
 |set S n=>obtain⟨ob,es,ep,t,e,c⟩:=x;exact⟨ob,es,ep,t,k _ _ (.inl rfl) e,c⟩
 |ins C dx fs=>
  obtain⟨d,z,ne,e,mA,⟨od,es,ep,e2,c⟩,r⟩:=x
  exact⟨ho _ d,z,ne,k _ _ (.inl rfl) e,mA,⟨od,es,ep,k _ _ (.inr d) e2,c⟩,r⟩
 |own y=>obtain⟨ob,e⟩:=x;exact⟨ob,k _ _ (.inl rfl) e⟩
 |xd fs=>obtain⟨mA,⟨od,es,ep,e,c⟩,r⟩:=x;exact⟨mA,⟨od,es,ep,k _ _ (.inl rfl) e,c⟩,r⟩
 |rng lo hi=>obtain⟨t,u,v,e⟩:=x;exact⟨t,u,v,k _ _ (.inl rfl) e⟩
 |frz ob u ih=>obtain⟨e,q⟩:=x;exact⟨k _ _ (.inl rfl) e,ih q⟩
 |tbl ps=>
  have e:h.get? a=some {cls:= .none,data:= .fields ps}:=x
  show h'.get? a=some {cls:= .none,data:= .fields ps}
  exact k a _ (.inl rfl) e
 |met f y=>
  have e:h.get? a=some (PySem.W.methodObj (.ref f) (.ref y)):=x
  show h'.get? a=some (PySem.W.methodObj (.ref f) (.ref y))
  exact k a _ (.inl rfl) e
 |ext φ=>obtain⟨p,⟨o,e⟩,st⟩:=x;exact⟨st _ _ p λo q=>k _ _ (.inl rfl) q,⟨o,k _ _ (.inl rfl) e⟩,st⟩
theorem HOk.lt (x:HOk P w H h)(e:H a=some o):a<h.objs.size:=(x a o e).lt
theorem HOk.fresh (x:HOk P w H h)(e:h.objs.size<=a):H a=none:=by
 cases q:H a with
 |none=>rfl
 |some u=>exact absurd (GK (x.lt q) e) (Ib _)
theorem HOk.kept (x:HOk P w H h)(k:∀b u,h.get? b=some u->h'.get? b=some u):HOk P w H h':=λa o e=>
 (x a o e).stay (λb u _ q=>k b u q) (λ_ q=>q) λ_ _ q=>q
theorem HOk.laid (x:HOk P w H h)(k:∀b u,h.get? b=some u->h'.get? b=some u)(hp:h.objs.size<=a)(new:ObjOk P w (p0 H a o) h' a o):HOk P w (p0 H a o) h':=λb u e=>by
 have hn:=x.fresh hp;by_cases hb:b=a
 .subst hb;rw[b7] at e;cases e;exact new
 .rw[b9 hb] at e;exact(x b u e).stay (λc v _ q=>k c v q) (λc q=>by rw[b9 (j4 q hn)];exact q) λc xs q=>by rw[b9 (j4 q hn)];exact q
end
def Rd (H:Hp)(a:Addr)(u:HO):Prop:=H a=some u\/∃o,H a=some (.frz o u)
theorem Rd.ok {P:Program}{w:World}{H:Hp}{h:Heap}{a:Addr}{u:HO}(r:Rd H a u)(x:HOk P w H h):ObjOk P w H h a u:=by
 rcases r with r|⟨o,r⟩
 .exact x a u r
 .obtain⟨_,q⟩:=x a _ r;exact q
def Cz:Option HO->Prop
 |some (.lst _)=>True
 |some (.dK _)=>True
 |some (.dT _)=>True
 |some (.set _ _)=>True
 |some (.ins _ _ _)=>True
 |some (.ext _)=>True
 |_=>False
section
variable {P:Program} {w:World} {H:Hp} {h h':Heap} {x e:Addr} {o':HO}
theorem HOk.write (ok:HOk P w H h)(mu:Cz (H x))(he:e=x\/H e=some (.own x))(k:∀b u,b≠e->h.get? b=some u->h'.get? b=some u)(Ov:∃u,h'.get? e=some u)
  (new:ObjOk P w (p0 H x o') h' x o'):HOk P w (p0 H x o') h':=λb u q=>by
 have Qm:∀c y,H c=some (.own y)->c≠x:=λc y r z=>by subst z;rw[r] at mu;exact mu
 have SR:∀c xs,H c=some (.tup xs)->c≠x:=λc xs r z=>by subst z;rw[r] at mu;exact mu
 by_cases hb:b=x
 .subst hb;rw[b7] at q;cases q;exact new
 .rw[b9 hb] at q
  by_cases hbe:b=e
  .have q':H b=some (.own x):=by
    rcases he with z|z
    .exact absurd (hbe.trans z) hb
    .rw[hbe];exact z
   rw[q] at q';cases q'
   obtain⟨v,hv⟩:=Ov
   exact⟨v,by rw[hbe];exact hv⟩
  .refine(ok b u q).stay (λc v hc r=>k c v ?_ r) (λc r=>by rw[b9 (Qm c b r)];exact r) λc xs r=>by rw[b9 (SR c xs r)];exact r
   rcases hc with rfl|hc
   .exact hbe
   .rintro rfl
    rcases he with z|z
    .exact Qm c b hc z
    .rw[hc] at z;cases z;exact hb rfl
end
structure Un (fs ex:List Addr) (H H':Hp) (h h':Heap):Prop where
 keep:∀b o,h.get? b=some o->H b=none->b∉fs->b∉ex->h'.get? b=some o
 slot:∀b o,h.get? b=some o->H b=none->b∈fs->b∉ex->∃sl,h'.get? b=some {o with slots:=sl}
 free:∀b o,h.get? b=some o->H b=none->b∉ex->H' b=none
 there:∀b o,h.get? b=some o->b∉ex->∃o',h'.get? b=some o'
 tups:∀b xs,H b=some (.tup xs)->H' b=some (.tup xs)
 frzs:∀b o u,H b=some (.frz o u)->H' b=some (.frz o u)
 tbls:∀b ps,H b=some (.tbl ps)->∃more,H' b=some (.tbl (ps++more))
section
variable {fs Xv ex Nj:List Addr} {H H1 H2:Hp} {h h1 h2 h':Heap} {a x e:Addr} {o:HO}
theorem Un.any (u:Un fs ex H H1 h h1){b:Addr}{ob:Obj}(q:h.get? b=some ob)(n:H b=none)(hx:b∉ex):∃sl,h1.get? b=some {ob with slots:=sl}:=by
 by_cases hb:b∈fs
 .exact u.slot b ob q n hb hx
 .exact⟨ob.slots,u.keep b ob q n hb hx⟩
theorem Un.kept (k:∀b u,h.get? b=some u->h'.get? b=some u):Un fs ex H H h h':=
 ⟨λb ob q _ _ _=>k b ob q,λb ob q _ _ _=>⟨ob.slots,k b ob q⟩,λ_ _ _ n _=>n,λb ob q _=>⟨ob,k b ob q⟩,λ_ _ q=>q,λ_ _ _ q=>q,λ_ ps q=>⟨#[],by rw[q];simp⟩⟩
theorem Un.refl:Un fs ex H H h h:=Un.kept λ_ _ q=>q
theorem Un.laid (k:∀b u,h.get? b=some u->h'.get? b=some u)(hp:h.objs.size<=a)(hn:H a=none):Un fs ex H (p0 H a o) h h' where
 keep:=λb u q _ _ _=>k b u q
 slot:=λb u q _ _ _=>⟨u.slots,k b u q⟩
 free:=λb u q n _=>by rw[b9 (GU (GK (GH q) hp))];exact n
 there:=λb u q _=>⟨u,k b u q⟩
 tups:=λb xs q=>by rw[b9 (j4 q hn)];exact q
 frzs:=λb u xs q=>by rw[b9 (j4 q hn)];exact q
 tbls:=λb ps q=>⟨#[],by rw[b9 (j4 q hn),q];simp⟩
theorem Un.write (mu:Cz (H x))(he:e=x\/H e=some (.own x))(k:∀b u,b≠e->h.get? b=some u->h'.get? b=some u)(Ov:∃u,h'.get? e=some u):Un fs ex H (p0 H x o) h h':=by
 have hx:∀b,H b=none->b≠x:=λb n z=>by subst z;rw[n] at mu;exact mu
 have hb:∀b,H b=none->b≠e:=λb n z=>by
  subst z;rcases he with r|r
  .exact hx b n r
  .rw[n] at r;cases r
 have hm:∀b u,H b=some u->¬Cz (some u)->b≠x:=λb u q nm z=>by subst z;rw[q] at mu;exact nm mu
 refine⟨λb u q n _ _=>k b u (hb b n) q,λb u q n _ _=>⟨u.slots,k b u (hb b n) q⟩,λb u q n _=>by rw[b9 (hx b n)];exact n,λb u q _=>?_,
  λb xs q=>by rw[b9 (hm b _ q λz=>z)];exact q,λb u xs q=>by rw[b9 (hm b _ q λz=>z)];exact q,λb ps q=>⟨#[],by rw[b9 (hm b _ q λz=>z),q];simp⟩⟩
 by_cases hbe:b=e
 .subst hbe;exact Ov
 .exact⟨u,k b u hbe q⟩
end
def Ep (h:Heap)(H:Hp):List Addr:=(List.range h.objs.size).filter λa=>(H a).isSome
def kB (h:Heap)(H:Hp):Heap:=PySem.W.hideAll h (Ep h H)
theorem sV (h:Heap)(H:Hp):(kB h H).objs.size=h.objs.size:=PySem.W.hideAll_size _ _
theorem vv {h:Heap}{H:Hp}{b:Addr}{o:Obj}(e:h.get? b=some o)(n:H b=none):(kB h H).get? b=some o:=
 JK _ e λhm=>by
  have q:(H b).isSome=true:=(GR.mp hm).2;rw[n] at q;simp at q
theorem yi {h:Heap}{H:Hp}{b:Addr}{o:Obj}(e:(kB h H).get? b=some o):h.get? b=some o/\H b=none:=by
 have e':h.get? b=some o:=KC (Ep h H) e;refine⟨e',?_⟩;cases q:H b with
 |none=>rfl
 |some x=>
  have hm:b∈Ep h H:=GR.mpr ⟨JF.mpr (GH e'),by simp [q]⟩
  have z:(kB h H).get? b=none:=PySem.W.hideAll_none (Ep h H) hm
  rw[z] at e;cases e
def yB (g h:Heap)(L:Addr):List (Addr×Obj):=(List.range h.objs.size).filterMap λa=>if a=L\/(g.get? a).isSome=true then none else(h.get? a).map λo=>(a,o)
def T7 (g h:Heap)(L d:Addr):List (Addr×Obj):=(yB g h L).filter λp=>decide (p.1≠d)
structure Mod (K:Qc) (mg:Str->Option Value) (base:Heap):Prop where
 kin:K.In base
 glob:base.Ns mainGlobals mg
 blt:∃mb,base.Ns builtinsNs mb/\∀x:Str,x≠"__name__"->mb x=bootBuiltins x
 nolimit:base.NoLimit
structure Cx where
 prog:Program
 w:World
 K:Qc
 mg:Str->Option Value
 base:Heap
 A:Around
 N:List Str
 s₀:Shared
 H₀:Hp
 env:Env
 outer:List Env
 stack:List Env
 ex:List Addr
 fn:Str->Bool
 calm:Bool
 pn:List (Addr×Obj)
 xe:Value->Shared->Prop
def Y0 (l:List Env):List Addr:=l.filterMap (·.frame)
abbrev Cx.fs (X:Cx):List Addr:=Y0 X.outer
def EE (sc:Scope)(x:Str):Prop:=sc.names.lookup x=some .local\/sc.names.lookup x=some .cell\/sc.names.lookup x=some .free
def yQ (sc:Scope)(x:Str):Prop:=sc.names.lookup x=some .local\/sc.names.lookup x=some .cell
def Fj (env:Env)(h:Heap)(m:Str->Option Value)(x:Str)(u:Value):Prop:=
 (env.kindOf x=some .local/\m x=some u)\/((env.kindOf x=some .cell\/env.kindOf x=some .free)/\∃c,env.cells.lookup x=some c/\h.IsCell c (some u))
structure Cx.Ok (X:Cx):Prop where
 mod:Mod X.K X.mg X.base
 kind:X.env.scope.kind= .function
 glob:X.env.globals=mainGlobals
 blt:X.env.builtins=builtinsNs
 above:X.s₀.heap.objs.size<=X.env.locals
 inj:∀x y c,X.env.cells.lookup x=some c->X.env.cells.lookup y=some c->x=y
 has:∀x,(X.env.kindOf x=some .cell\/X.env.kindOf x=some .free)->∃c,X.env.cells.lookup x=some c
 cab:∀x c,X.fn x=true->X.env.cells.lookup x=some c->X.s₀.heap.objs.size<=c
 hd:X.calm=true->X.A.handled=none
 frames:X.A.frames=some X.stack
 stk:X.stack=X.outer\/(X.stack=X.env::X.outer/\X.env.frame=some X.env.locals)
 exf:∀b∈X.ex,b≠X.env.locals/\∀x c,X.env.cells.lookup x=some c->c≠b
 bs:∀b o,X.base.get? b=some o->X.s₀.heap.get? b=some o/\X.H₀ b=none
 bsz:X.base.objs.size<=X.s₀.heap.objs.size
 noex:∀b o,X.base.get? b=some o->b∉X.ex
 exfs:∀b∈X.ex,b∉X.fs
 funs:X.s₀.heap.FunFrames X.base X.outer
 frf:∀b∈X.fs,X.H₀ b=none
structure Inv (X:Cx) (pins:List (Addr×Obj)) (σ:List (Option V)) (H:Hp) (s:Shared):Prop where
 ok:X.Ok
 os:s.os=X.s₀.os
 bare:AllBare s.gens
 base:Un X.fs X.ex X.H₀ H X.s₀.heap s.heap
 loc:∃m,s.heap.Ns X.env.locals m/\∀(i:Nat) (x:Str) (v:V),X.N[i]?=some x->σ[i]?=some (some v)->EE X.env.scope x->∃u,RelV v u/\Fj X.env s.heap m x u
 cell:∀x c,X.env.cells.lookup x=some c->∃v,s.heap.IsCell c v
 free:H X.env.locals=none
 freeC:∀x c,X.env.cells.lookup x=some c->H c=none
 pin:∀p∈X.pn++pins,s.heap.get? p.1=some p.2/\H p.1=none/\p.1≠X.env.locals/\p.1∉X.fs/\∀v,p.2.data≠ .cell v
 hok:HOk X.prog X.w H s.heap
 len:σ.length=X.N.length
section
variable {X:Cx} {pins:List (Addr×Obj)} {σ:List (Option V)} {H H':Hp} {s:Shared} {h':Heap}
theorem Cx.Ok.nofr (ok:X.Ok){b:Addr}{o:Obj}(e:X.base.get? b=some o):b∉X.fs:=λhb=>by
 have:=(ok.funs.mem hb).1;rw[e] at this;cases this
theorem Inv.bs (I:Inv X pins σ H s):∀b o,X.base.get? b=some o->s.heap.get? b=some o/\H b=none:=λb o e=>
 ⟨I.base.keep b o (I.ok.bs b o e).1 (I.ok.bs b o e).2 (I.ok.nofr e) (I.ok.noex b o e),I.base.free b o (I.ok.bs b o e).1 (I.ok.bs b o e).2 (I.ok.noex b o e)⟩
theorem Inv.bk (I:Inv X pins σ H s):∀b o,X.base.get? b=some o->s.heap.get? b=some o:=λb o e=>(I.bs b o e).1
theorem Inv.mod (I:Inv X pins σ H s):Mod X.K X.mg X.base:=I.ok.mod
theorem Inv.kIn (I:Inv X pins σ H s):X.K.In s.heap:=I.ok.mod.kin.keeps I.bk
theorem Inv.lt (I:Inv X pins σ H s):X.env.locals<s.heap.objs.size:=let ⟨_,hn,_⟩:=I.loc;hn.lt
theorem Inv.sz (I:Inv X pins σ H s):X.s₀.heap.objs.size<=s.heap.objs.size:=He I.ok.above (Ki I.lt)
theorem Inv.nofs (I:Inv X pins σ H s){a:Addr}(h:s.heap.objs.size<=a):a∉X.fs:=λhb=>by
 obtain⟨_,o,ho,_⟩:=I.ok.funs.mem hb;exact absurd (GK (GH ho) (He I.sz h)) (Ib _)
theorem Inv.cne (I:Inv X pins σ H s):∀x c,X.env.cells.lookup x=some c->c≠X.env.locals:=λx c e z=>by
 obtain⟨v,o,ho,hd⟩:=I.cell x c e;obtain⟨m,⟨o',es,ep,NY,Qn,_⟩,_⟩:=I.loc;rw[z,NY] at ho;cases ho;rw[Qn] at hd;cases hd
theorem Inv.funs (I:Inv X pins σ H s):s.heap.FunFrames X.base X.outer:=by
 have all:∀(l:List Env),(∀b∈Y0 l,b∈X.fs)->X.s₀.heap.FunFrames X.base l->s.heap.FunFrames X.base l:=by
  intro l;induction l with
  |nil=>intro _ _;trivial
  |cons env r ih=>
   intro hs hl
   obtain⟨hk,⟨L,o,hf,hn,ho,hd⟩,hr⟩:=hl
   have hL:L∈X.fs:=hs L (by unfold Y0;rw[Jf,hf];exact Hg)
   obtain⟨sl,e⟩:=I.base.slot L o ho (I.ok.frf L hL) hL λz=>I.ok.exfs L z hL
   exact⟨hk,⟨L,_,hf,hn,e,hd⟩,ih (λb hb=>hs b (by unfold Y0;rw[Jf,hf];exact GY _ hb)) hr⟩
 exact all X.outer (λ_ hb=>hb) I.ok.funs
theorem Inv.stack (I:Inv X pins σ H s):s.heap.FunFrames X.base X.stack:=by
 rcases I.ok.stk with e|⟨e,hf⟩
 .rw[e];exact I.funs
 .rw[e];obtain⟨m,hn,_⟩:=I.loc;refine .cons (by rw[I.ok.kind];decide) hf hn ?_ I.funs;exact Heap.get?_none_of_le (He I.ok.bsz I.ok.above)
theorem Inv.stkSub (I:Inv X pins σ H s):∀b∈Y0 X.stack,b∈X.env.locals::X.fs:=λb hb=>by
 rcases I.ok.stk with e|⟨e,hf⟩
 .rw[e] at hb;exact GY _ hb
 .rw[e] at hb;unfold Y0 at hb;rw[Jf,hf] at hb;exact hb
theorem Inv.stkFree (I:Inv X pins σ H s):∀b∈Y0 X.stack,H b=none:=λb hb=>by
 rcases Hh.mp (I.stkSub b hb) with e|hb
 .rw[e];exact I.free
 .obtain⟨_,o,ho,_⟩:=I.ok.funs.mem hb;exact I.base.free b o ho (I.ok.frf b hb) λz=>I.ok.exfs b z hb
theorem Inv.step {g':Array GenState}{t':Nat}{d':Drawn}{ch:List Addr}(I:Inv X pins σ H s)
  (NO:∀b∈ch,(b∈X.ex\/X.s₀.heap.objs.size<=b)/\b≠X.env.locals/\(∀x c,X.env.cells.lookup x=some c->c≠b)/\∀p∈X.pn++pins,p.1≠b)
  (keep:∀b o,b≠X.env.locals->b∉X.fs->b∉ch->s.heap.get? b=some o->H b=none->h'.get? b=some o)
  (slot:∀b o,b≠X.env.locals->b∈X.fs->b∉ch->s.heap.get? b=some o->H b=none->∃sl,h'.get? b=some {o with slots:=sl}) (free:∀b o,b∉ch->s.heap.get? b=some o->H b=none->H' b=none)
  (there:∀b o,b∉ch->s.heap.get? b=some o->∃o',h'.get? b=some o')
  (tups:∀b xs,H b=some (.tup xs)->H' b=some (.tup xs)) (frzs:∀b o u,H b=some (.frz o u)->H' b=some (.frz o u)) (tbls:∀b ps,H b=some (.tbl ps)->∃more,H' b=some (.tbl (ps++more)))
  (ns:∀m,s.heap.Ns X.env.locals m->h'.Ns X.env.locals m) (hok:HOk X.prog X.w H' h') (hg:AllBare g'):
  Inv X pins σ H' {s with heap:=h',gens:=g',drawn:=d',toks:=t'}:=by
 have VP:∀b o,X.s₀.heap.get? b=some o->b≠X.env.locals:=λb o e=>GU (GK (GH e) I.ok.above)
 have RS:∀b o,X.s₀.heap.get? b=some o->b∉X.ex->b∉ch:=λb o e hx hb=>by
  rcases(NO b hb).1 with z|z
  .exact hx z
  .exact absurd (GK (GH e) z) (Ib _)
 have cellK:∀x c,X.env.cells.lookup x=some c->∀v,s.heap.IsCell c v->h'.IsCell c v:=λx c e v ⟨o,ho,hd⟩=>by
  have Qp:c∉ch:=λz=>(NO c z).2.2.1 x c e rfl;by_cases hc:c∈X.fs
  .obtain⟨sl,q⟩:=slot c o (I.cne x c e) hc Qp ho (I.freeC x c e);exact⟨_,q,hd⟩
  .exact⟨o,keep c o (I.cne x c e) hc Qp ho (I.freeC x c e),hd⟩
 refine⟨I.ok,I.os,hg,⟨λb o e n hb hx=>?_,λb o e n hb hx=>?_,λb o e n hx=>?_,λb o e hx=>?_,λb xs e=>tups b xs (I.base.tups b xs e),λb o xs e=>frzs b o xs (I.base.frzs b o xs e),λb ps e=>?_⟩,?_,λx c e=>?_,?_,λx c e=>?_,λp hp=>?_,hok,I.len⟩
 .exact keep b o (VP b o e) hb (RS b o e hx) (I.base.keep b o e n hb hx) (I.base.free b o e n hx)
 .obtain⟨sl,e1⟩:=I.base.slot b o e n hb hx
  obtain⟨Xw,e2⟩:=slot b _ (VP b o e) hb (RS b o e hx) e1 (I.base.free b o e n hx)
  exact⟨Xw,e2⟩
 .obtain⟨o',e1⟩:=I.base.there b o e hx
  exact free b o' (RS b o e hx) e1 (I.base.free b o e n hx)
 .obtain⟨o',e1⟩:=I.base.there b o e hx
  exact there b o' (RS b o e hx) e1
 .obtain⟨m1,e1⟩:=I.base.tbls b ps e
  obtain⟨m2,e2⟩:=tbls b _ e1
  exact⟨m1++m2,by rw[e2,Mu]⟩
 .obtain⟨m,hn,hl⟩:=I.loc
  refine⟨m,ns m hn,λi x v e1 e2 e3=>?_⟩
  obtain⟨u,r,l⟩:=hl i x v e1 e2 e3
  refine⟨u,r,?_⟩
  rcases l with l|⟨k,c,e,z⟩
  .exact .inl l
  .exact .inr ⟨k,c,e,cellK x c e _ z⟩
 .obtain⟨v,z⟩:=I.cell x c e
  exact⟨v,cellK x c e v z⟩
 .obtain⟨m,⟨o,_,_,ho,_⟩,_⟩:=I.loc
  exact free _ o (λz=>(NO _ z).2.1 rfl) ho I.free
 .obtain⟨v,o,ho,hd⟩:=I.cell x c e
  exact free c o (λz=>(NO c z).2.2.1 x c e rfl) ho (I.freeC x c e)
 .obtain⟨e,n,ne,nf,d⟩:=I.pin p hp
  have Qp:p.1∉ch:=λz=>(NO p.1 z).2.2.2 p hp rfl
  exact⟨keep p.1 p.2 ne nf Qp e n,free p.1 p.2 Qp e n,ne,nf,d⟩
theorem Inv.un {t':Nat}(I:Inv X pins σ H s)(u:Un X.fs [] H H' s.heap h')(hok:HOk X.prog X.w H' h'):Inv X pins σ H' {s with heap:=h',toks:=t'}:=by
 obtain⟨m,⟨o,es,ep,ho,r⟩,_⟩:=id I.loc;obtain⟨sl,hL⟩:=u.any ho I.free (by simp);exact I.step (g':=s.gens) (d':=s.drawn) (ch:=[]) (λ_ z=>nomatch z) (λb o _ hb _ e n=>u.keep b o e n hb (by simp)) (λb o _ hb _ e n=>u.slot b o e n hb (by simp)) (λb o _ e n=>u.free b o e n (by simp)) (λb o _ e=>u.there b o e (by simp)) u.tups u.frzs u.tbls (λm' hm=>by
  obtain⟨o',NZ,OM,NY,r'⟩:=hm;rw[ho] at NY;cases NY;exact⟨_,NZ,OM,hL,r'⟩) hok I.bare
theorem Inv.call {g':Array GenState}{t':Nat}{d':Drawn}{ch:List Addr}(I:Inv X pins σ H s)(u:Un (Y0 X.stack) ch H H' s.heap h')(hok:HOk X.prog X.w H' h')(hg:AllBare g')
  (NO:∀b∈ch,(b∈X.ex\/X.s₀.heap.objs.size<=b)/\b≠X.env.locals/\(∀x c,X.env.cells.lookup x=some c->c≠b)/\∀p∈X.pn++pins,p.1≠b):
  Inv X pins σ H' {s with heap:=h',gens:=g',drawn:=d',toks:=t'}:=by
 obtain⟨m,⟨o,es,ep,ho,r⟩,_⟩:=id I.loc
 obtain⟨sl,hL⟩:=u.any ho I.free λz=>(NO _ z).2.1 rfl
 exact I.step (ch:=ch) NO (λb o hL hb hc e n=>u.keep b o e n (λz=>(Hh.mp (I.stkSub b z)).elim hL hb) hc) (λb o _ _ hc e n=>u.any e n hc) (λb o hc e n=>u.free b o e n hc) (λb o hc e=>u.there b o e hc) u.tups u.frzs u.tbls (λm' hm=>by
  obtain⟨o',NZ,OM,NY,r'⟩:=hm;rw[ho] at NY;cases NY;exact⟨_,NZ,OM,hL,r'⟩) hok hg
theorem Inv.turned {t':Nat}{it:Addr}(I:Inv X pins σ H s)(k:∀b o,b≠it->s.heap.get? b=some o->h'.get? b=some o)(hn:H it=none)(hL:it≠X.env.locals)
  (h1:it∈X.ex\/X.s₀.heap.objs.size<=it) (h2:∀x c,X.env.cells.lookup x=some c->c≠it) (h3:∀p∈X.pn++pins,p.1≠it):Inv X pins σ H {s with heap:=h',toks:=t'}:=by
 have VQ:∀b u,H b=some u->b≠it:=λb u e z=>by rw[z,hn] at e;cases e
 refine I.step (g':=s.gens) (d':=s.drawn) (ch:=[it]) (λb hb=>?_) (λb o _ _ hc e _=>k b o (λz=>hc (by simp [z])) e) (λb o _ _ hc e _=>⟨o.slots,k b o (λz=>hc (by simp [z])) e⟩) (λ_ _ _ _ n=>n)
  (λb o hc e=>⟨o,k b o (λz=>hc (by simp [z])) e⟩) (λ_ _ e=>e) (λ_ _ _ e=>e) (λb ps e=>⟨#[],by rw[e];simp⟩) (λm hm=>?_) (λb u e=>?_) I.bare
 .have e:b=it:=by simpa using hb
  subst e
  exact⟨h1,hL,h2,h3⟩
 .obtain⟨o,es,ep,ho,r⟩:=hm
  exact⟨o,es,ep,k _ o (Io hL) ho,r⟩
 .refine(I.hok b u e).stay (λc v hc q=>k c v ?_ q) (λ_ q=>q) λ_ _ q=>q
  rcases hc with z|z
  .rw[z];exact VQ b u e
  .exact VQ c _ z
theorem Inv.tok (I:Inv X pins σ H s)(t:Nat):Inv X pins σ H {s with toks:=t}:=I.un (h':=s.heap) (t':=t) Un.refl I.hok
theorem Inv.kept {t':Nat}(I:Inv X pins σ H s)(k:∀b u,s.heap.get? b=some u->h'.get? b=some u):Inv X pins σ H {s with heap:=h',toks:=t'}:=I.un (Un.kept k) (I.hok.kept k)
theorem Inv.laid {a:Addr}{o:HO}{t':Nat}(I:Inv X pins σ H s)(k:∀b u,s.heap.get? b=some u->h'.get? b=some u)(hp:s.heap.objs.size<=a)(new:ObjOk X.prog X.w (p0 H a o) h' a o):
  Inv X pins σ (p0 H a o) {s with heap:=h',toks:=t'}:=I.un (Un.laid k hp (I.hok.fresh hp)) (I.hok.laid k hp new)
theorem Inv.write {x e:Addr}{o:HO}{t':Nat}(I:Inv X pins σ H s)(mu:Cz (H x))(he:e=x\/H e=some (.own x))(k:∀b u,b≠e->s.heap.get? b=some u->h'.get? b=some u)(Ov:∃u,h'.get? e=some u)
  (new:ObjOk X.prog X.w (p0 H x o) h' x o):Inv X pins σ (p0 H x o) {s with heap:=h',toks:=t'}:=I.un (Un.write mu he k Ov) (I.hok.write mu he k Ov new)
theorem Inv.weak {σ':List (Option V)}(I:Inv X pins σ H s)(hl:σ'.length=σ.length)(w:∀(i:Nat) v,σ'[i]?=some (some v)->σ[i]?=some (some v)):Inv X pins σ' H s:=
 ⟨I.ok,I.os,I.bare,I.base,let ⟨m,hn,NP⟩:=I.loc;⟨m,hn,λi x v e1 e2 e3=>NP i x v e1 (w i v e2) e3⟩,I.cell,I.free,I.freeC,I.pin,I.hok,hl.trans I.len⟩
theorem Inv.pins_of {i':List (Addr×Obj)}(I:Inv X pins σ H s)(h:∀p∈i',s.heap.get? p.1=some p.2/\H p.1=none/\p.1≠X.env.locals/\p.1∉X.fs/\∀v,p.2.data≠ .cell v):Inv X i' σ H s:=
 ⟨I.ok,I.os,I.bare,I.base,I.loc,I.cell,I.free,I.freeC,λp hp=>(GO.mp hp).elim (λz=>I.pin p (GA _ z)) (h p),I.hok,I.len⟩
theorem nO {N:List Str}(hN:N.Nodup){i j:Nat}{x:Str}(a:N[i]?=some x)(b:N[j]?=some x):i=j:=by
 obtain⟨h1,e1⟩:=Ie.mp a;obtain⟨h2,e2⟩:=Ie.mp b;exact(List.getElem_inj hN).mp (e1.trans e2.symm)
theorem jt {M:Model}{A:Around}{E:Value->Shared->Prop}{i:Nat}{x:Str}{v:V}{u:Value}{Q:Unit->Shared->Prop}(I:Inv X pins σ H s)(hN:X.N.Nodup)(hi:X.N[i]?=some x)(hx:yQ X.env.scope x)(r:RelV v u)
  (h:∀s',Inv X pins (σ.set i (some v)) H s'->(∃a,Heap.SameBut a s.heap s'.heap/\(a=X.env.locals\/X.env.cells.lookup x=some a))->Q () s') (hf:X.fn x=true\/X.env.scope.names.lookup x=some .local:=by first|exact .inl rfl|exact .inr rfl|assumption):wpAny M A (storeName X.env x u) Q E s:=by
 obtain⟨m,hn,hl⟩:=id I.loc
 have SS:(X.env.scope.kind== .class||(X.env.scope.kind== .module&&X.env.locals !=X.env.globals))=false:=by rw[I.ok.kind];rfl
 have VR:i<σ.length:=by rw[I.len];exact(Ie.mp hi).1
 have cne:=I.cne
 have tracked:∀{a:Addr} {h':Heap},(∃o,s.heap.get? a=some o/\H a=none)->Heap.SameBut a s.heap h'->HOk X.prog X.w H h':=fun{a h'} ha hs b ob e=>by
  obtain⟨_,_,Ow⟩:=ha;refine(I.hok b ob e).stay (λc w' hc q=>(hs.2 c ?_).trans q) (λ_ q=>q) λ_ _ q=>q;rintro rfl;rcases hc with rfl|hc
  .rw[Ow] at e;cases e
  .rw[Ow] at hc;cases hc
 rcases hx with hk|hk
 .refine wpAny_storeName_local hk hn (λh' Qq hs=>?_) SS
  obtain⟨oL,_,_,Xx,_⟩:=id hn
  refine h _ ⟨I.ok,I.os,I.bare,⟨λb o e n hb hx=>?_,λb o e n hb hx=>?_,I.base.free,λb o e hx=>?_,I.base.tups,I.base.frzs,I.base.tbls⟩,⟨_,Qq,λj y v' e1 e2 e3=>?_⟩,λy c e=>?_,I.free,I.freeC,λp hp=>?_,tracked ⟨oL,Xx,I.free⟩ hs,by simpa using I.len⟩ ⟨_,hs,.inl rfl⟩
  .exact(hs.2 b (GU (GK (GH e) I.ok.above))).trans (I.base.keep b o e n hb hx)
  .obtain⟨sl,e1⟩:=I.base.slot b o e n hb hx
   exact⟨sl,(hs.2 b (GU (GK (GH e) I.ok.above))).trans e1⟩
  .obtain⟨o',e1⟩:=I.base.there b o e hx
   exact⟨o',(hs.2 b (GU (GK (GH e) I.ok.above))).trans e1⟩
  .by_cases hj:j=i
   .subst hj
    rw[hi] at e1;cases e1
    rw[Ls VR] at e2
    cases e2
    exact⟨u,r,.inl ⟨hk,by simp⟩⟩
   .rw[LV (Io hj)] at e2
    obtain⟨u',r',q⟩:=hl j y v' e1 e2 e3
    refine⟨u',r',?_⟩
    rcases q with⟨k,e⟩|⟨k,c,e,z⟩
    .refine .inl ⟨k,?_⟩
     have:y≠x:=λe=>hj (nO hN e1 (e▸hi))
     simp [this,e]
    .exact .inr ⟨k,c,e,z.sameBut hs (cne y c e)⟩
  .obtain⟨w',z⟩:=I.cell y c e
   exact⟨w',z.sameBut hs (cne y c e)⟩
  .obtain⟨e,n,ne,nf,d⟩:=I.pin p hp
   exact⟨(hs.2 p.1 ne).trans e,n,ne,nf,d⟩
 .have SU:X.fn x=true:=by
   rcases hf with z|z
   .exact z
   .rw[z] at hk;cases hk
  obtain⟨c,hc⟩:=I.ok.has x (.inl hk)
  obtain⟨w',z⟩:=I.cell x c hc
  refine wpAny_storeName_cell I.ok.kind hk hc z (λh' L' hs=>?_)
  obtain⟨oc,ON,OO⟩:=id z
  refine h {s with heap:=h'} ⟨I.ok,I.os,I.bare,⟨λb o e n hb hx=>?_,λb o e n hb hx=>?_,I.base.free,λb o e hx=>?_,I.base.tups,I.base.frzs,I.base.tbls⟩,⟨m,hn.sameBut hs (Io (cne x c hc)),λj y v' e1 e2 e3=>?_⟩,λy c' e=>?_,I.free,I.freeC,λp hp=>?_,tracked ⟨oc,ON,I.freeC x c hc⟩ hs,by simpa using I.len⟩ ⟨c,hs,.inr hc⟩
  .exact(hs.2 b (GU (GK (GH e) (I.ok.cab x c SU hc)))).trans (I.base.keep b o e n hb hx)
  .obtain⟨sl,e1⟩:=I.base.slot b o e n hb hx
   exact⟨sl,(hs.2 b (GU (GK (GH e) (I.ok.cab x c SU hc)))).trans e1⟩
  .obtain⟨o',e1⟩:=I.base.there b o e hx
   exact⟨o',(hs.2 b (GU (GK (GH e) (I.ok.cab x c SU hc)))).trans e1⟩
  .by_cases hj:j=i
   .subst hj
    rw[hi] at e1;cases e1
    rw[Ls VR] at e2
    cases e2
    exact⟨u,r,.inr ⟨.inl hk,c,hc,L'⟩⟩
   .rw[LV (Io hj)] at e2
    obtain⟨u',r',q⟩:=hl j y v' e1 e2 e3
    refine⟨u',r',?_⟩
    rcases q with q|⟨k,c',e,z'⟩
    .exact .inl q
    .refine .inr ⟨k,c',e,z'.sameBut hs ?_⟩
     rintro rfl
     exact hj (nO hN e1 (I.ok.inj _ _ _ e hc▸hi))
  .by_cases hcc:c'=c
   .subst hcc;exact⟨_,L'⟩
   .obtain⟨w2,z2⟩:=I.cell y c' e
    exact⟨w2,z2.sameBut hs hcc⟩
  .obtain⟨e,n,ne,nf,d⟩:=I.pin p hp
   refine⟨(hs.2 p.1 ?_).trans e,n,ne,nf,d⟩
   intro q
   rw[q,ON] at e
   have q':oc=p.2:=GL e
   exact d w' (by rw[←q'];exact OO)
theorem me {M:Model}{A:Around}{E:Value->Shared->Prop}{i:Nat}{x:Str}{v:V}{u:Value}{Q:Unit->Shared->Prop}(I:Inv X pins σ H s)(hN:X.N.Nodup)(hi:X.N[i]?=some x)(hx:yQ X.env.scope x)(r:RelV v u)
  (h:∀s',Inv X pins (σ.set i (some v)) H s'->Q () s') (hf:X.fn x=true\/X.env.scope.names.lookup x=some .local:=by first|exact .inl rfl|exact .inr rfl|assumption):wpAny M A (storeName X.env x u) Q E s:=
 jt I hN hi hx r (λs' I' _=>h s' I') hf
theorem Inv.call' {s':Shared}{ch:List Addr}(I:Inv X pins σ H s)(ho:s'.os=s.os)(u:Un (Y0 X.stack) ch H H' s.heap s'.heap)(hok:HOk X.prog X.w H' s'.heap)(hg:AllBare s'.gens)
  (NO:∀b∈ch,(b∈X.ex\/X.s₀.heap.objs.size<=b)/\b≠X.env.locals/\(∀x c,X.env.cells.lookup x=some c->c≠b)/\∀p∈X.pn++pins,p.1≠b):Inv X pins σ H' s':=by
 obtain⟨h',g',d',t',o'⟩:=s'
 have e:o'=s.os:=ho
 subst e
 exact I.call (g':=g') (t':=t') (d':=d') u hok hg NO
end
abbrev XK:=Value->Option Addr->Hp->Prop
abbrev St:=List (Option V)
abbrev VK:=V->Hp->Prop
abbrev TE:=St->Hp->VK->Prop
abbrev TT:=St->Hp->(Bool->Hp->Prop)->Prop
abbrev TA:=St->Hp->(List V->Hp->Prop)->Prop
structure nz where
 nx:St->Hp->Prop
 rt:VK
 bk:St->Hp->Prop:=λ_ _=>False
 ct:St->Hp->Prop:=λ_ _=>False
abbrev TS:=nz->St->Hp->Prop
def EP (X:Cx)(pins:List (Addr×Obj))(σ:St)(Q:VK)(u:Value)(s':Shared):Prop:=∃v H',Inv X pins σ H' s'/\RelV v u/\Q v H'
def TP (X:Cx)(pins:List (Addr×Obj))(σ:St)(Q:Bool->Hp->Prop)(b:Bool)(s':Shared):Prop:=∃H',Inv X pins σ H' s'/\Q b H'
def AP (X:Cx)(pins:List (Addr×Obj))(σ:St)(Q:List V->Hp->Prop)(us:List Value)(s':Shared):Prop:=∃vs H',Inv X pins σ H' s'/\Vals vs us/\Q vs H'
def SP (X:Cx)(pins:List (Addr×Obj))(D:nz)(f:Flow)(s':Shared):Prop:=
 match f with
 | .next=>∃σ' H',Inv X pins σ' H' s'/\D.nx σ' H'
 | .brk=>∃σ' H',Inv X pins σ' H' s'/\D.bk σ' H'
 | .cont=>∃σ' H',Inv X pins σ' H' s'/\D.ct σ' H'
 | .ret u=>∃v σ' H',Inv X pins σ' H' s'/\RelV v u/\D.rt v H'
def PE (X:Cx)(e:Expr)(t:TE):Prop:=
 ∀(pins:List (Addr×Obj)) (s:Shared) (σ:St) (H:Hp) (Q:VK),Inv X pins σ H s->t σ H Q->wpAny (model X.prog X.w) X.A (eval e X.env) (EP X pins σ Q) X.xe s
def PT (X:Cx)(e:Expr)(t:TT):Prop:=
 ∀(pins:List (Addr×Obj)) (s:Shared) (σ:St) (H:Hp) (Q:Bool->Hp->Prop),Inv X pins σ H s->t σ H Q->wpAny (model X.prog X.w) X.A (isTrue e X.env (eval e X.env)) (TP X pins σ Q) X.xe s
def PW (X:Cx)(e:Expr)(t:TT):Prop:=
 ∀(whole:Sem Value) (pins:List (Addr×Obj)) (s:Shared) (σ:St) (H:Hp) (Q:Bool->Hp->Prop),Inv X pins σ H s->t σ H Q->wpAny (model X.prog X.w) X.A (isTrue e X.env whole) (TP X pins σ Q) X.xe s
theorem PW.pt {X:Cx}{e:Expr}{t:TT}(h:PW X e t):PT X e t:=h _
def PA (X:Cx)(es:List Expr)(t:TA):Prop:=
 ∀(pos:Pos) (pins:List (Addr×Obj)) (s:Shared) (σ:St) (H:Hp) (Q:List V->Hp->Prop),Inv X pins σ H s->t σ H Q->wpAny (model X.prog X.w) X.A (spliced (backTo pos (starEach es X.env))) (AP X pins σ Q) X.xe s
def PS (X:Cx)(st:Stmt)(t:TS):Prop:=
 ∀(pins:List (Addr×Obj)) (s:Shared) (σ:St) (H:Hp) (D:nz),Inv X pins σ H s->t D σ H->wpAny (model X.prog X.w) X.A (exec st X.env) (SP X pins D) X.xe s
def PSs (X:Cx)(st:List Stmt)(t:TS):Prop:=
 ∀(pins:List (Addr×Obj)) (s:Shared) (σ:St) (H:Hp) (D:nz),Inv X pins σ H s->t D σ H->wpAny (model X.prog X.w) X.A (execs st X.env) (SP X pins D) X.xe s
theorem E9 {α:Type}{t:Sem α}{Q Q':α->Shared->Prop}{M:Model}{A:Around}{E:Value->Shared->Prop}{s:Shared}(h:wpAny M A t Q E s)(hQ:∀a s,Q a s->Q' a s):wpAny M A t Q' E s:=Kr h hQ λ_ _ x=>x
section
variable {X:Cx}
def xl (i:Nat):TE:=λσ H Q=>∃v,σ[i]?=some (some v)/\Q v H
def tC (v:V):TE:=λ_ H Q=>Q v H
theorem zu {i:Nat}{x:Str}{pos:Pos}(hN:X.N[i]?=some x)(hv:EE X.env.scope x)(hd:(x==("__debug__":Str))=false:=by decide)(Mn:(x==("__classdict__":Str))=false:=by decide):PE X (.Name x pos) (xl i):=by
 intro pins s σ H Q I h;obtain⟨v,e,h⟩:=h;obtain⟨m,hn,hl⟩:=I.loc;obtain⟨u,r,l⟩:=hl i x v hN e hv;have fin:EP X pins σ Q u s:=⟨v,H,I,r,h⟩
 rcases l with⟨hk,hm⟩|⟨hk,c,hc,Mo⟩
 .exact wpAny_Name (wpAny_loadName_local I.ok.kind hk hn hm fin) hd
 .rcases hk with hk|hk
  .exact wpAny_Name (wpAny_loadName_cell I.ok.kind hk hc Mo fin) hd
  .exact wpAny_Name (wpAny_loadName_free I.ok.kind hk hc Mo fin Mn) hd
theorem BE {i j pos}:PE X (.Constant (.int i) j pos) (tC (.int i)):=λ_ _ _ H _ I h=>wpAny_Constant_int ⟨.int i,H,I.tok _,⟨_,rfl⟩,h⟩
theorem CT {b j pos}:PE X (.Constant (.bool b) j pos) (tC (.bl b)):=λ_ _ _ H _ I h=>Constant_bool ⟨.bl b,H,I,rfl,h⟩
theorem zF {j pos}:PE X (.Constant .none j pos) (tC .non):=λ_ _ _ H _ I h=>Constant_none ⟨.non,H,I,rfl,h⟩
theorem zX {x j pos}:PE X (.Constant (.str x) j pos) (tC (.str x)):=λ_ _ _ H _ I h=>Calls.Constant_str ⟨.str x,H,I.tok _,⟨_,rfl⟩,h⟩
def Gl (X:Cx)(x:Str):Prop:=X.env.kindOf x=some .globalImplicit
theorem cS {E:Value->Shared->Prop}{pins:List (Addr×Obj)}{s:Shared}{σ:St}{H:Hp}{x:Str}{u:Value}{pos:Pos}{Q:Value->Shared->Prop}(I:Inv X pins σ H s)(hg:Gl X x)(hm:X.mg x=some u)(h:Q u s)
  (hd:(x==("__debug__":Str))=false:=by decide):wpAny (model X.prog X.w) X.A (eval (.Name x pos) X.env) Q E s:=
 Ky I.ok.kind hg (Calls.loadGlobal_global (by rw[I.ok.glob];exact I.mod.glob.keeps I.bk) hm h) hd
theorem Z6 {E:Value->Shared->Prop}{pins:List (Addr×Obj)}{s:Shared}{σ:St}{H:Hp}{x:Str}{u:Value}{pos:Pos}{Q:Value->Shared->Prop}(I:Inv X pins σ H s)(hg:Gl X x)(hm:X.mg x=none)(hv:bootBuiltins x=some u)(h:Q u s)
  (hn:x≠"__name__":=by decide) (hd:(x==("__debug__":Str))=false:=by decide):wpAny (model X.prog X.w) X.A (eval (.Name x pos) X.env) Q E s:=by
 obtain⟨mb,h1,h2⟩:=I.mod.blt
 exact Ky I.ok.kind hg (Calls.loadGlobal_builtin (by rw[I.ok.glob];exact I.mod.glob.keeps I.bk) hm (by rw[I.ok.blt];exact h1.keeps I.bk) ((h2 x hn).trans hv) h) hd
theorem yh {x:Str}{v:V}{u:Value}{pos:Pos}(hg:Gl X x)(hm:X.mg x=some u)(r:RelV v u)(hd:(x==("__debug__":Str))=false:=by decide):PE X (.Name x pos) (tC v):=
 λ_ _ _ H _ I h=>cS I hg hm ⟨v,H,I,r,h⟩ hd
theorem xr {x:Str}{v:V}{u:Value}{pos:Pos}(hg:Gl X x)(hm:X.mg x=none)(hv:bootBuiltins x=some u)(r:RelV v u)(hn:x≠"__name__":=by decide)(hd:(x==("__debug__":Str))=false:=by decide):PE X (.Name x pos) (tC v):=
 λ_ _ _ H _ I h=>Z6 I hg hm hv ⟨v,H,I,r,h⟩ hn hd
variable {a b:Expr} {ta tb:TE} {pos:Pos}
theorem RelV.none_iff {x:V}{v:Value}(r:RelV x v):(v==Value.none)=decide (x= .non):=by
 cases x with
 |non=>cases r;rfl
 |bl _=>cases r;rfl
 |int _=>obtain⟨t,rfl⟩:=r;rfl
 |str _=>obtain⟨t,rfl⟩:=r;rfl
 |byt _=>obtain⟨t,rfl⟩:=r;rfl
 |flt _=>obtain⟨t,rfl⟩:=r;rfl
 |ref _=>cases r;rfl
 |ty _=>cases r;rfl
def tB (t:TE):TT:=λσ H Q=>t σ H λx H1=>∃c,x= .bl c/\Q c H1
variable {tA N':TT} {T7:List Expr}
def BF (t u:TT):TT:=λσ H Q=>t σ H λc H1=>if c=true then u σ H1 Q else Q false H1
def Fo (t u:TT):TT:=λσ H Q=>t σ H λc H1=>if c=true then Q true H1 else u σ H1 Q
def BI (t:TT):TT:=λσ H Q=>t σ H λc H1=>Q (!c) H1
theorem xp (ha:PT X a tA):PW X (.BoolOp .And [a] pos) tA:=by
 intro wh pins s σ H Q I h;refine isTrue_and (E9 (ha pins s σ H Q I h) λc s1 e=>?_);cases c with
 |true=>exact isTrue_and_nil e
 |false=>exact e
theorem AA (ha:PT X a tA):PW X (.BoolOp .Or [a] pos) tA:=by
 intro wh pins s σ H Q I h;refine isTrue_or (E9 (ha pins s σ H Q I h) λc s1 e=>?_);cases c with
 |false=>exact isTrue_or_nil e
 |true=>exact e
theorem AJ (ha:PT X a tA)(hb:PW X (.BoolOp .And (b::T7) pos) N'):PW X (.BoolOp .And (a::b::T7) pos) (BF tA N'):=by
 intro wh pins s σ H Q I h;refine isTrue_and (E9 (ha pins s σ H _ I h) λc s1 ⟨H1,I1,q1⟩=>?_);cases c with
 |true=>exact hb wh pins s1 σ H1 Q I1 q1
 |false=>exact⟨H1,I1,q1⟩
theorem Cc (ha:PT X a tA)(hb:PW X (.BoolOp .Or (b::T7) pos) N'):PW X (.BoolOp .Or (a::b::T7) pos) (Fo tA N'):=by
 intro wh pins s σ H Q I h;refine isTrue_or (E9 (ha pins s σ H _ I h) λc s1 ⟨H1,I1,q1⟩=>?_);cases c with
 |true=>exact⟨H1,I1,q1⟩
 |false=>exact hb wh pins s1 σ H1 Q I1 q1
theorem zA (ha:PT X a tA):PT X (.UnaryOp .Not a pos) (BI tA):=by
 intro pins s σ H Q I h;exact isTrue_not (ha pins s σ H (λc H1=>Q (!c) H1) I h)
def vE (ta tb:TE):TE:=λσ H Q=>ta σ H λx H1=>∃c,x= .bl c/\if c=true then tb σ H1 Q else Q (.bl false) H1
def Af (ta tb:TE):TE:=λσ H Q=>ta σ H λx H1=>∃c,x= .bl c/\if c=true then Q (.bl true) H1 else tb σ H1 Q
def vx (ta:TE):TE:=λσ H Q=>ta σ H λx H1=>∃c,x= .bl c/\Q (.bl (!c)) H1
theorem AM {op}{t:TE}(h:PE X a t):PE X (.BoolOp op [a] pos) t:=λpins s σ H Q I hw=>BoolOp_one (h pins s σ H Q I hw)
theorem zv (ha:PE X a ta)(hb:PE X (.BoolOp .And (b::T7) pos) tb):PE X (.BoolOp .And (a::b::T7) pos) (vE ta tb):=by
 intro pins s σ H Q I h;refine BoolOp_and (E9 (ha pins s σ H _ I h) λv s1 ⟨x,H1,I1,r1,q1⟩=>?_);obtain⟨c,rfl,q1⟩:=q1;cases r1;refine Ip ?_;cases c with
 |true=>exact hb pins s1 σ H1 Q I1 q1
 |false=>exact⟨.bl false,H1,I1,rfl,q1⟩
theorem Dp (ha:PE X a ta)(hb:PE X (.BoolOp .Or (b::T7) pos) tb):PE X (.BoolOp .Or (a::b::T7) pos) (Af ta tb):=by
 intro pins s σ H Q I h;refine BoolOp_or (E9 (ha pins s σ H _ I h) λv s1 ⟨x,H1,I1,r1,q1⟩=>?_);obtain⟨c,rfl,q1⟩:=q1;cases r1;refine Ip ?_;cases c with
 |false=>exact hb pins s1 σ H1 Q I1 q1
 |true=>exact⟨.bl true,H1,I1,rfl,q1⟩
theorem zS (ha:PE X a ta):PE X (.UnaryOp .Not a pos) (vx ta):=by
 intro pins s σ H Q I h;refine UnaryOp_ (E9 (ha pins s σ H _ I h) λv s1 ⟨x,H1,I1,r1,q1⟩=>?_);obtain⟨c,rfl,q1⟩:=q1;cases r1;exact not_of (Ip ⟨.bl (!c),H1,I1,rfl,q1⟩)
def EF (t:TT)(ta tb:TE):TE:=λσ H Q=>t σ H λc H1=>if c=true then ta σ H1 Q else tb σ H1 Q
theorem wz {c:Expr}(hc:PT X c tA)(ha:PE X a ta)(hb:PE X b tb):PE X (.IfExp c a b pos) (EF tA ta tb):=by
 intro pins s σ H Q I h;refine wpAny_IfExp (E9 (hc pins s σ H _ I h) λd s1 ⟨H1,I1,q1⟩=>?_);cases d with
 |true=>exact ha pins s1 σ H1 Q I1 q1
 |false=>exact hb pins s1 σ H1 Q I1 q1
end
def SqL (K:Qc)(H:Hp)(a:Addr)(xs:List V):Prop:=
 Rd H a (.lst xs)\/
  ∃(o:Obj) (a_:Array Value) (n:Nat),K.lookup a=some o/\o.cls= .type "list"/\o.dict=none/\o.data= .seq a_ n/\a_.size<=sizeLine/\Vals xs a_.toList
def SqT (K:Qc)(H:Hp)(a:Addr)(xs:List V):Prop:=
 Rd H a (.tup xs)\/
  ∃(o:Obj) (a_:Array Value) (n:Nat),K.lookup a=some o/\o.cls= .type "tuple"/\o.data= .seq a_ n/\a_.size<=sizeLine/\Vals xs a_.toList
def Fb:Value->Option V
 | .none=>some .non
 | .bool b=>some (.bl b)
 | .int i _=>some (.int i)
 | .str x _=>some (.str x)
 | .bytes b _=>some (.byt b)
 | .float b _=>some (.flt b)
 | .ref a=>some (.ref a)
 | .type n=>some (.ty n)
 |_=>none
theorem RelV.abs {x:V}{u:Value}(r:RelV x u):Fb u=some x:=by
 cases x with
 |non=>cases r;rfl
 |bl _=>cases r;rfl
 |int _=>obtain⟨t,rfl⟩:=r;rfl
 |str _=>obtain⟨t,rfl⟩:=r;rfl
 |byt _=>obtain⟨t,rfl⟩:=r;rfl
 |flt _=>obtain⟨t,rfl⟩:=r;rfl
 |ref _=>cases r;rfl
 |ty _=>cases r;rfl
theorem RelV.inj {x y:V}{u:Value}(r:RelV x u)(q:RelV y u):x=y:=GL (r.abs.symm.trans q.abs)
theorem Vals.inj:∀{xs ys:List V} {us:List Value},Vals xs us->Vals ys us->xs=ys
 |_,_,_,.nil,.nil=>rfl
 |_,_,_,.cons r t,.cons r' t'=>by rw[r.inj r',Vals.inj t t']
section
variable {X:Cx} {pins:List (Addr×Obj)} {σ:St} {H:Hp} {s:Shared} {a:Addr} {xs ys:List V}
theorem SqL.of {K:Qc}(h:H a=some (.lst xs)):SqL K H a xs:= .inl (.inl h)
theorem SqT.of {K:Qc}(h:H a=some (.tup xs)):SqT K H a xs:= .inl (.inl h)
theorem Inv.list (I:Inv X pins σ H s)(h:SqL X.K H a xs):∃a_:List Value,Vals xs a_/\PlainL s.heap a a_.toArray/\xs.length<=sizeLine:=by
 rcases h with h|⟨o,a_,n,hk,hc,hd,hs,hz,r⟩
 .obtain⟨z,a_,n,r,e⟩:=h.ok I.hok;exact⟨a_,r,⟨_,n,e,rfl,rfl,rfl⟩,z⟩
 .refine⟨a_.toList,r,⟨o,n,I.kIn a o hk,hc,hd,by simpa using hs⟩,?_⟩;have e:=r.length;simp only[JL] at e;lia
theorem Inv.tuple (I:Inv X pins σ H s)(h:SqT X.K H a xs):∃a_:List Value,Vals xs a_/\IsTup s.heap a a_.toArray/\xs.length<=sizeLine:=by
 rcases h with h|⟨o,a_,n,hk,hc,hs,hz,r⟩
 .obtain⟨z,a_,r,p⟩:=h.ok I.hok;exact⟨a_,r,p,z⟩
 .refine⟨a_.toList,r,⟨o,I.kIn a o hk,hc,n,by simpa using hs⟩,?_⟩;have e:=r.length;simp only[JL] at e;lia
theorem Inv.list_inj (I:Inv X pins σ H s)(h:SqL X.K H a xs)(h':SqL X.K H a ys):xs=ys:=by
 obtain⟨a_,r,⟨o,n,e,_,_,d⟩,_⟩:=I.list h;obtain⟨its',r',⟨o',n',e',_,_,d'⟩,_⟩:=I.list h';rw[e] at e';cases e';rw[d] at d';injection d' with d1 _
 have:a_=its':=by simpa using Ia Array.toList d1
 subst this;exact r.inj r'
theorem Inv.tuple_inj (I:Inv X pins σ H s)(h:SqT X.K H a xs)(h':SqT X.K H a ys):xs=ys:=by
 obtain⟨a_,r,⟨o,e,_,n,d⟩,_⟩:=I.tuple h;obtain⟨its',r',⟨o',e',_,n',d'⟩,_⟩:=I.tuple h';rw[e] at e';cases e';rw[d] at d';injection d' with d1 _
 have:a_=its':=by simpa using Ia Array.toList d1
 subst this;exact r.inj r'
end
abbrev Cx.wish (X:Cx)(E:Value->Shared->Prop):Cx:={X with xe:=E}
abbrev Cx.nox (X:Cx):Cx:=X.wish λ_ _=>False
theorem Cx.Ok.wish {X:Cx}(ok:X.Ok)(E:Value->Shared->Prop):(X.wish E).Ok:=
 ⟨ok.mod,ok.kind,ok.glob,ok.blt,ok.above,ok.inj,ok.has,ok.cab,ok.hd,ok.frames,ok.stk,ok.exf,ok.bs,ok.bsz,ok.noex,ok.exfs,ok.funs,ok.frf⟩
theorem Cx.Ok.unwish {X:Cx}{E:Value->Shared->Prop}(ok:(X.wish E).Ok):X.Ok:=
 ⟨ok.mod,ok.kind,ok.glob,ok.blt,ok.above,ok.inj,ok.has,ok.cab,ok.hd,ok.frames,ok.stk,ok.exf,ok.bs,ok.bsz,ok.noex,ok.exfs,ok.funs,ok.frf⟩
section
variable {X:Cx} {pins:List (Addr×Obj)} {σ:St} {H:Hp} {s:Shared} {E:Value->Shared->Prop}
theorem Inv.wish (I:Inv X pins σ H s)(E:Value->Shared->Prop):Inv (X.wish E) pins σ H s:=⟨I.ok.wish E,I.os,I.bare,I.base,I.loc,I.cell,I.free,I.freeC,I.pin,I.hok,I.len⟩
theorem Inv.unwish (I:Inv (X.wish E) pins σ H s):Inv X pins σ H s:=⟨I.ok.unwish,I.os,I.bare,I.base,I.loc,I.cell,I.free,I.freeC,I.pin,I.hok,I.len⟩
theorem SP.unwish {D:nz}{f:Flow}{s':Shared}(h:SP (X.wish E) pins D f s'):SP X pins D f s':=by
 cases f with
 |next=>obtain⟨σ',H',I,q⟩:=h;exact⟨σ',H',I.unwish,q⟩
 |brk=>obtain⟨σ',H',I,q⟩:=h;exact⟨σ',H',I.unwish,q⟩
 |cont=>obtain⟨σ',H',I,q⟩:=h;exact⟨σ',H',I.unwish,q⟩
 |ret u=>obtain⟨v,σ',H',I,r,q⟩:=h;exact⟨v,σ',H',I.unwish,r,q⟩
theorem PSs.nox {st:List Stmt}{t:TS}(h:PSs X.nox st t):PSs X st t:=λpins s σ H D I hw=>
 Kr (h pins s σ H D (I.wish _) hw) (λ_ _ q=>q.unwish) λ_ _ z=>False.elim z
end
section
variable {X:Cx} {st:Stmt} {T7:List Stmt} {t u:TS} {e:Expr} {te:TE} {pos:Pos}
def wA:TS:=λD σ H=>D.nx σ H
def sY (t u:TS):TS:=λD σ H=>t {D with nx:=u D} σ H
theorem yk:PSs X [] wA:=λ_ _ σ H _ I h=>JP ⟨σ,H,I,h⟩
theorem vF (h1:PS X st t)(h2:PSs X T7 u):PSs X (st::T7) (sY t u):=by
 intro pins s σ H D I h;refine wpAny_execs_cons (E9 (h1 pins s σ H {D with nx:=u D} I h) λf s1 q=>?_);cases f with
 |next=>
  obtain⟨σ',H',I',q⟩:=q
  exact h2 pins s1 σ' H' D I' q
 |ret v=>exact q
 |brk=>exact q
 |cont=>exact q
theorem xQ (h1:PS X st t):PSs X [st] t:=by
 intro pins s σ H D I h;refine wpAny_execs_cons (E9 (h1 pins s σ H D I h) λf s1 q=>?_);cases f with
 |next=>exact JP q
 |ret v=>exact q
 |brk=>exact q
 |cont=>exact q
theorem Inv.quiet {pins:List (Addr×Obj)}{σ:St}{H:Hp}{s:Shared}(I:Inv X pins σ H s):interactive X.env=false:=by simp [interactive,I.ok.kind]
def ug (te:TE):TS:=λD σ H=>te σ H λ_ H1=>D.nx σ H1
theorem yr (he:PE X e te)(hs:swapsWith e none pos.line X.env=pure false:=by rfl):PS X (.Expr e pos) (ug te):=by
 intro pins s σ H D I h;exact wpAny_Expr_any (E9 (he pins s σ H _ I h) λv s1 ⟨x,H1,I1,r1,q1⟩=>⟨σ,H1,I1,q1⟩) I.quiet hs
def Bl (te:TE):TS:=λD σ H=>te σ H D.rt
theorem AG (he:PE X e te):PS X (.Return (some e) pos) (Bl te):=by
 intro pins s σ H D I h;exact wpAny_Return_some (E9 (he pins s σ H _ I h) λv s1 ⟨x,H1,I1,r1,q1⟩=>⟨x,σ,H1,I1,r1,q1⟩)
def Bo (c:TT)(t u:TS):TS:=λD σ H=>c σ H λb H1=>if b=true then t D σ H1 else u D σ H1
theorem De {c:Expr}{a b:List Stmt}{tc:TT}(hc:PT X c tc)(ha:PSs X a t)(hb:PSs X b u):PS X (.If c a b pos) (Bo tc t u):=by
 intro pins s σ H D I h;refine wpAny_If (E9 (hc pins s σ H _ I h) λd s1 ⟨H1,I1,q1⟩=>?_);cases d with
 |true=>exact ha pins s1 σ H1 D I1 q1
 |false=>exact hb pins s1 σ H1 D I1 q1
end
abbrev TG:=V->St->Hp->(St->Hp->Prop)->Prop
abbrev pL:=List V->St->Hp->(St->Hp->Prop)->Prop
def PG (X:Cx)(target:Expr)(t:TG):Prop:=
 ∀(pins:List (Addr×Obj)) (s:Shared) (σ:St) (H:Hp) (v:V) (u:Value) (Q:St->Hp->Prop),Inv X pins σ H s->RelV v u->t v σ H Q->
  wpAny (model X.prog X.w) X.A (assign target X.env u) (λ_ s'=>∃σ' H',Inv X pins σ' H' s'/\Q σ' H') X.xe s
def ym (X:Cx)(ts:List Expr)(t:pL):Prop:=
 ∀(pins:List (Addr×Obj)) (s:Shared) (σ:St) (H:Hp) (vs:List V) (us:List Value) (Q:St->Hp->Prop),Inv X pins σ H s->Vals vs us->t vs σ H Q->
  wpAny (model X.prog X.w) X.A (assignInOrder ((assignEach ts X.env).map (·.2)) us) (λ_ s'=>∃σ' H',Inv X pins σ' H' s'/\Q σ' H') X.xe s
abbrev pF:=V->V->V->Hp->(Hp->Prop)->Prop
def sh (X:Cx)(t:pF):Prop:=
 ∀(pins:List (Addr×Obj)) (s:Shared) (σ:St) (H:Hp) (o i v:V) (ov iv u:Value) (Q:Hp->Prop),Inv X pins σ H s->RelV o ov->RelV i iv->RelV v u->t o i v H Q->
  wpAny (model X.prog X.w) X.A (setItem ov iv u) (λ_ s'=>∃H',Inv X pins σ H' s'/\Q H') X.xe s
section
variable {X:Cx} {pos:Pos}
def Q3 (i:Nat):TG:=λv σ H Q=>Q (σ.set i (some v)) H
theorem xN {i:Nat}{x:Str}(hN:X.N.Nodup)(hi:X.N[i]?=some x)(hx:yQ X.env.scope x)(hf:X.fn x=true\/X.env.scope.names.lookup x=some .local:=by first|exact .inl rfl|exact .inr rfl|assumption):PG X (.Name x pos) (Q3 i):=by
 intro pins s σ H v u Q I r h;exact wpAny_assign_Name (me I hN hi hx r (λs' I'=>⟨_,H,I',h⟩) hf)
def zV:pL:=λvs σ H Q=>vs=[]/\Q σ H
def pZ (t:TG)(u:pL):pL:=λvs σ H Q=>∃v r,vs=v::r/\t v σ H λσ' H'=>u r σ' H' Q
theorem xM:ym X [] zV:=by
 intro pins s σ H vs us Q I r h;obtain⟨e,h⟩:=h;subst e;cases r;exact assignInOrder_nil ⟨σ,H,I,h⟩
theorem wq {e:Expr}{es:List Expr}{t:TG}{u:pL}(h1:PG X e t)(h2:ym X es u)
  (hs:(assignEach (e::es) X.env).map (·.2)=assign e X.env::(assignEach es X.env).map (·.2):=by rfl):ym X (e::es) (pZ t u):=by
 intro pins s σ H vs us Q I r h
 obtain⟨v,vr,e1,h⟩:=h
 subst e1
 cases r with
 |cons r rr=>
  rw[hs]
  refine assignInOrder_cons (E9 (h1 pins s σ H _ _ _ I r h) λ_ s1 ⟨σ1,H1,I1,q1⟩=>?_)
  exact h2 pins s1 σ1 H1 _ _ Q I1 rr q1
def wD (K:Qc)(n:Nat)(t:pL):TG:=λv σ H Q=>∃a xs,v= .ref a/\SqT K H a xs/\xs.length=n/\t xs σ H Q
theorem Bg {es:List Expr}{k:Nat}{t:pL}{n:Nat}(hc:X.calm=true)(h:ym X es t)
  (hn:(assignEach es X.env).length=n:=by rfl) (Nq:(assignEach es X.env).findIdx? (·.1)=none:=by rfl):PG X (.Tuple es k pos) (wD X.K n t):=by
 intro pins s σ H v u Q I r hw
 obtain⟨a,xs,e1,hq,hl,hw⟩:=hw
 subst e1
 cases r
 obtain⟨a_,rv,ht,hz⟩:=I.tuple hq
 refine assign_Tuple_tuple (I.ok.hd hc) ht (by simp [hn,←hl,rv.length]) Nq λh' hx=>?_
 have I1:Inv X pins σ H {s with heap:=h'}:=I.kept (t':=s.toks) λb o e=>hx b o (GU (GH e)) e
 exact h pins _ σ H xs _ Q I1 (by simpa using rv) hw
def xD (to ti:TE)(t:pF):TG:=λv σ H Q=>to σ H λo H1=>ti σ H1 λi H2=>t o i v H2 λH3=>Q σ H3
theorem AK {o i:Expr}{to ti:TE}{t:pF}(ho:PE X o to)(hi:PE X i ti)(hs:sh X t)
  (ha:∀v,assign (.Subscript o i pos) X.env v=(do
   let ov←holding [v] (eval o X.env)
   let iv←holding [v,ov] (eval i X.env)
   standAt pos
   holding [v,ov,iv] (setItem ov iv v)
   release [v,ov,iv] []):=by intro _;rfl):PG X (.Subscript o i pos) (xD to ti t):=by
 intro pins s σ H v u Q I r h
 rw[ha]
 refine Gz (HU (E9 (ho pins s σ H _ I h) λov s1 ⟨x,H1,I1,r1,q1⟩=>?_))
 refine Gz (HU (E9 (hi pins s1 σ H1 _ I1 q1) λiv s2 ⟨y,H2,I2,r2,q2⟩=>?_))
 refine Gz (Mv (Gz (HU (E9 (hs pins s2 σ H2 x y v ov iv u _ I2 r1 r2 r q2) λ_ s3 ⟨H3,I3,q3⟩=>?_))))
 exact wpAny_release ⟨σ,H3,I3,q3⟩
def pM (te:TE)(g:TG):TS:=λD σ H=>te σ H λx H1=>g x σ H1 D.nx
theorem BB {tg e:Expr}{te:TE}{g:TG}(he:PE X e te)(hg:PG X tg g)(hs:swapsWithSole [tg] e pos.line X.env=pure false:=by rfl)(hw:swappedStores [tg] e X.env=pure none:=by rfl)
  (h1:(assignEach [tg] X.env).map (·.2)=[assign tg X.env]:=by rfl):PS X (.Assign [tg] e pos) (pM te g):=by
 intro pins s σ H D I h
 refine wpAny_Assign_stores (E9 (he pins s σ H _ I h) λv s1 ⟨x,H1,I1,r1,q1⟩=>?_) hs hw
 rw[h1]
 exact E9 (hg pins s1 σ H1 x v _ I1 r1 q1) λ_ s2 q=>q
theorem Ag {i:Nat}{x:Str}{e:Expr}{te:TE}{pos':Pos}(hN:X.N.Nodup)(hi:X.N[i]?=some x)(hx:yQ X.env.scope x)(he:PE X e te)(hs:swapsWith e (some (.Name x pos')) pos.line X.env=pure false:=by rfl)(hf:X.fn x=true\/X.env.scope.names.lookup x=some .local:=by first|exact .inl rfl|exact .inr rfl|assumption):
  PS X (.Assign [.Name x pos'] e pos) (pM te (Q3 i)):=by
 intro pins s σ H D I h
 refine wpAny_Assign_Name (E9 (he pins s σ H _ I h) λv s1 ⟨y,H1,I1,r1,q1⟩=>?_) hs
 exact me I1 hN hi hx r1 (λs2 I2=>⟨_,H1,I2,q1⟩) hf
end
section
variable {X:Cx} {pos:Pos}
def vz (c:TT)(tb:TS):TS:=λD σ H=>∃W:Nat->St->Hp->Prop,(∃m,W m σ H)/\∀m σ H,W m σ H->
 c σ H λb H1=>if b=true then ∃N:St->Hp->Prop,(∀σ' H',N σ' H'->∃m',m'<m/\W m' σ' H')/\tb {D with nx:=N,ct:=N,bk:=D.nx} σ H1 else D.nx σ H1
theorem vM {c:Expr}{body:List Stmt}{tc:TT}{tb:TS}(hp:PassesOwn (model X.prog X.w) X.A X.env X.xe)(hc:PT X c tc)(hb:PSs X body tb):PS X (.While c body [] pos) (vz tc tb):=by
 intro pins s σ H D I h;obtain⟨W,⟨m0,w0⟩,turn⟩:=h;refine wpAny_While (codeAny_whileLoop (λn s'=>∃σ' H',Inv X pins σ' H' s'/\W n σ' H') ?_ m0 ⟨σ,H,I,w0⟩);rintro n s1 ⟨σ1,H1,I1,w1⟩;refine IT hp (E9 (hc pins s1 σ1 H1 _ I1 (turn n σ1 H1 w1)) λb s2 ⟨H2,I2,q2⟩=>?_);cases b with
 |true=>
  obtain⟨N,hN,q2⟩:=q2
  rw[if_pos rfl]
  refine IT hp (E9 (hb pins s2 σ1 H2 _ I2 q2) λf s3 q3=>?_)
  cases f with
  |next=>
   obtain⟨σ3,H3,I3,n3⟩:=q3
   obtain⟨m',hm,w3⟩:=hN σ3 H3 n3
   exact⟨m',hm,σ3,H3,I3,w3⟩
  |cont=>
   obtain⟨σ3,H3,I3,n3⟩:=q3
   obtain⟨m',hm,w3⟩:=hN σ3 H3 n3
   exact⟨m',hm,σ3,H3,I3,w3⟩
  |brk=>exact q3
  |ret v=>exact q3
 |false=>
  rw[if_neg Hi]
  exact JP ⟨σ1,H2,I2,q2⟩
end
structure It where
 go:Nat->Hp->Prop
 yld:Nat->Hp->V->Hp->Prop
 stop:Nat->Hp->Prop
def cJ (X:Cx)(pins:List (Addr×Obj))(H:Hp)(b:Addr):Prop:=
 H b=none/\b≠X.env.locals/\b∉X.fs/\(b∈X.ex\/X.s₀.heap.objs.size<=b)/\(∀x c,X.env.cells.lookup x=some c->c≠b)/\∀p∈X.pn++pins,p.1≠b
theorem Inv.fpOk {X:Cx}{pins:List (Addr×Obj)}{σ:St}{H H':Hp}{s:Shared}{b:Addr}(I:Inv X pins σ H s)(hb:s.heap.objs.size<=b)(hn:H' b=none):cJ X pins H' b:=by
 refine⟨hn,KD (GK I.lt hb),I.nofs hb,.inr (He I.sz hb),λx c e z=>?_,λp hp z=>?_⟩
 .obtain⟨v,q⟩:=I.cell x c e;exact absurd (GK q.lt (by rw[z];exact hb)) (Ib _)
 .exact absurd (GK (GH (I.pin p hp).1) (by rw[z];exact hb)) (Ib _)
structure dE (P:Program) (w:World) (K:Qc) (tg:Expr) (J:It) (fp:List Addr) (it:Addr) (tn:Nat->Heap->Prop):Prop where
 mem:it∈fp
 obj:∀i h,tn i h->∀b∈fp,∃o,h.get? b=some o/\∀v,o.data≠ .cell v
 keep:∀i h h',tn i h->(∀b∈fp,∀o,h.get? b=some o->h'.get? b=some o)->tn i h'
 item:∀(X:Cx),X.prog=P->X.w=w->X.K=K->X.calm=true->∀(i:Nat) (pins:List (Addr×Obj)) (s:Shared) (σ:St) (H:Hp) (E:Value->Shared->Prop),Inv X pins σ H s->(∀b∈fp,cJ X pins H b)->tn i s.heap->J.go i H->
  wpAny (model P w) X.A (pyNext (.ref it)) (λr s1=>∃u,r=some u/\
   wpAny (model P w) X.A (letOwnedTupleGo tg (.ref it) u) (λ_ s2=>∃x H',Inv X pins σ H' s2/\RelV x u/\J.yld i H x H'/\tn (i+1) s2.heap/\∀b∈fp,H' b=none) E s1) E s
 done:∀(X:Cx),X.prog=P->X.w=w->X.K=K->X.calm=true->∀(i:Nat) (pins:List (Addr×Obj)) (s:Shared) (σ:St) (H:Hp) (E:Value->Shared->Prop),Inv X pins σ H s->(∀b∈fp,cJ X pins H b)->tn i s.heap->J.stop i H->
  wpAny (model P w) X.A (pyNext (.ref it)) (λr s1=>r=none/\Inv X pins σ H s1) E s
 self:∀(A:Around) (i:Nat) (s:Shared) (Q:Value->Shared->Prop) (E:Value->Shared->Prop),tn i s.heap->Q (.ref it) s->wpAny (model P w) A (pyIter (.ref it)) Q E s
abbrev TI:=St->Hp->(It->Hp->Prop)->Prop
def Ei (X:Cx)(pins:List (Addr×Obj))(σ:St)(tg:Expr)(R:It->Hp->Prop)(Qr:Value)(s2:Shared):Prop:=
 ∃(it:Addr) (fp:List Addr) (tn:Nat->Heap->Prop) (J:It) (H':Hp),Qr= .ref it/\Inv X pins σ H' s2/\dE X.prog X.w X.K tg J fp it tn/\tn 0 s2.heap/\(∀b∈fp,cJ X pins H' b)/\R J H'
def PI (X:Cx)(tg iter:Expr)(wi:TI):Prop:=
 ∀(pins:List (Addr×Obj)) (s:Shared) (σ:St) (H:Hp) (R:It->Hp->Prop),Inv X pins σ H s->wi σ H R->
  wpAny (model X.prog X.w) X.A (eval iter X.env) (λv s1=>wpAny (model X.prog X.w) X.A (pyIter v) (Ei X pins σ tg R) X.xe s1) X.xe s
theorem mx {M : Model} {A : Around} {E : Value -> Shared -> Prop} {s : Shared} {tg : Expr} {it : Addr} {u : Value} {o : Obj} {n : String} {vs : Array Value} {Q : Unit -> Shared -> Prop} (ho : s.heap.get? it = some o) (hc : o.cls = .type n) (hd : o.data = .fields vs)
    (hn : ["enumerate", "zip", "dict_itemiterator", "dict_reverseitemiterator", "odict_iterator", "itertools.zip_longest", "itertools.pairwise"].contains n = false) (hQ : Q () s) : wpAny M A (letOwnedTupleGo tg (.ref it) u) Q E s := by
  unfold letOwnedTupleGo
  cases tg <;> first
    | exact GN hQ
    | (cases u <;> first
        | exact GN hQ
        | (refine Gz (wpAny_load ho ?_)
           rw [hc, hd]
           show wpAny M A (if (["enumerate", "zip", "dict_itemiterator", "dict_reverseitemiterator", "odict_iterator", "itertools.zip_longest", "itertools.pairwise"].contains n && vs[0]? == some (rawInt _)) = true then _ else _) Q E s
           rw [if_neg (by intro h; rw [hn, Bool.false_and] at h; cases h)]
           exact GN hQ))
def Itl (K:Qc)(a:Addr):It:=
 ⟨λi H=>∃xs x,SqL K H a xs/\xs[i]?=some x,λi H x H'=>H'=H/\∀xs,SqL K H a xs->xs[i]?=some x,λi H=>∃xs,SqL K H a xs/\xs.length<=i⟩
def FD (K:Qc)(a:Addr):It:=
 ⟨λi H=>∃xs x,SqT K H a xs/\xs[i]?=some x,λi H x H'=>H'=H/\∀xs,SqT K H a xs->xs[i]?=some x,λi H=>∃xs,SqT K H a xs/\xs.length<=i⟩
def Ef (lo:Int)(n:Nat):It:=⟨λi _=>i<n,λi H x H'=>H'=H/\x= .int (lo+i),λi _=>n<=i⟩
theorem tw {P:Program}{w:World}{K:Qc}{tg:Expr}(a it:Addr):dE P w K tg (Itl K a) [it] it (λi h=>h.IsListIter it a i) where
 mem:=by simp
 obj:=λi h st b hb=>by
  have e:b=it:=by simpa using hb
  subst e;obtain⟨o,e,c,d⟩:=st;exact⟨o,e,λv z=>by rw[d] at z;cases z⟩
 keep:=λi h h' st k=>st.at λo e=>k it (by simp) o e
 item:=by
  intro X hP hw hK hc i pins s σ H E I hf st hg;subst hP hw hK;obtain⟨xs,x,hq,hx⟩:=hg;obtain⟨a_,rv,p,hz⟩:=I.list hq;obtain⟨u,hu,ru⟩:=rv.get hx;obtain⟨f0,f1,f2,f3,f4,f5⟩:=hf it (by simp);refine Kc st p.isList (x:=u) (by simpa using hu) λh' Lf sb=>?_;have I1:Inv X pins σ H {s with heap:=h'}:=I.turned (t':=s.toks) (λb o hb e=>(sb.2 b hb).trans e) f0 f1 f3 f4 f5;obtain⟨o,e,c,d⟩:=id Lf;exact⟨u,rfl,mx (s:={s with heap:=h'}) e c d (by decide) ⟨x,H,I1,ru,⟨rfl,λys hy=>by rw[I.list_inj hy hq];exact hx⟩,Lf,λb hb=>(hf b hb).1⟩⟩
 done:=by
  intro X hP hw hK hc i pins s σ H E I hf st hg;subst hP hw hK;obtain⟨xs,hq,hx⟩:=hg;obtain⟨a_,rv,p,hz⟩:=I.list hq;obtain⟨f0,f1,f2,f3,f4,f5⟩:=hf it (by simp);have hl:=rv.length;exact Kj (I.ok.hd hc) st p.isList (by simp;lia) λh' eb=>⟨rfl,I.turned (t':=s.toks) (λb o hb e=>eb b o hb e) f0 f1 f3 f4 f5⟩
 self:=λ_ _ _ _ _ st h=>wpAny_pyIter_listiter st h
theorem nY {P:Program}{w:World}{K:Qc}{tg:Expr}(a it:Addr):dE P w K tg (FD K a) [it] it (λi h=>h.IsTupleIter it a i) where
 mem:=by simp
 obj:=λi h st b hb=>by
  have e:b=it:=by simpa using hb
  subst e;obtain⟨o,e,c,d⟩:=st;exact⟨o,e,λv z=>by rw[d] at z;cases z⟩
 keep:=λi h h' st k=>st.at λo e=>k it (by simp) o e
 item:=by
  intro X hP hw hK hc i pins s σ H E I hf st hg;subst hP hw hK;obtain⟨xs,x,hq,hx⟩:=hg;obtain⟨a_,rv,p,hz⟩:=I.tuple hq;obtain⟨u,hu,ru⟩:=rv.get hx;obtain⟨f0,f1,f2,f3,f4,f5⟩:=hf it (by simp);refine wpAny_pyNext_tuple_item st (show s.heap.IsTuple a a_.toArray from p) (x:=u) (by simpa using hu) λh' Lf sb=>?_;have I1:Inv X pins σ H {s with heap:=h'}:=I.turned (t':=s.toks) (λb o hb e=>(sb.2 b hb).trans e) f0 f1 f3 f4 f5;obtain⟨o,e,c,d⟩:=id Lf;exact⟨u,rfl,mx (s:={s with heap:=h'}) e c d (by decide) ⟨x,H,I1,ru,⟨rfl,λys hy=>by rw[I.tuple_inj hy hq];exact hx⟩,Lf,λb hb=>(hf b hb).1⟩⟩
 done:=by
  intro X hP hw hK hc i pins s σ H E I hf st hg;subst hP hw hK;obtain⟨xs,hq,hx⟩:=hg;obtain⟨a_,rv,p,hz⟩:=I.tuple hq;obtain⟨f0,f1,f2,f3,f4,f5⟩:=hf it (by simp);have hl:=rv.length;exact wpAny_pyNext_tuple_end (I.ok.hd hc) st (show s.heap.IsTuple a a_.toArray from p) (by simp;lia) λh' eb=>⟨rfl,I.turned (t':=s.toks) (λb o hb e=>eb b o hb e) f0 f1 f3 f4 f5⟩
 self:=λ_ _ _ _ _ st h=>wpAny_pyIter_tupleiter st h
theorem oE {P:Program}{w:World}{K:Qc}{tg:Expr}(it:Addr)(lo:Int)(n:Nat):dE P w K tg (Ef lo n) [it] it (λi h=>IsRangeIter h it (lo+(i:Nat)*1) ((n:Int) -(i:Nat)) 1) where
 mem:=by simp
 obj:=λi h st b hb=>by
  have e:b=it:=by simpa using hb
  subst e;exact⟨_,st,λv z=>by
   have z':Data.fields _=Data.cell v:=z;cases z'⟩
 keep:=λi h h' st k=>k it (by simp) _ st
 item:=by
  intro X hP hw hK hc i pins s σ H E I hf st hg;subst hP hw hK;obtain⟨f0,f1,f2,f3,f4,f5⟩:=hf it (by simp);have W:=Walks.range (prog:=X.prog) (w:=X.w) (I.ok.hd hc) it lo 1 n;refine W.item i s _ _ hg st λv h' tk hv Lf kk=>?_;obtain⟨t,rfl⟩:=hv;have I1:Inv X pins σ H {s with heap:=h',toks:=tk}:=I.turned (λb o hb e=>kk b o (by simpa using hb) e) f0 f1 f3 f4 f5;refine⟨_,rfl,mx (s:={s with heap:=h',toks:=tk}) (n:="range_iterator") Lf rfl rfl (by decide) ⟨.int (lo+i),H,I1,⟨t,?_⟩,⟨rfl,rfl⟩,Lf,λb hb=>(hf b hb).1⟩⟩;rw[Int.mul_one]
 done:=by
  intro X hP hw hK hc i pins s σ H E I hf st hg;subst hP hw hK;obtain⟨f0,f1,f2,f3,f4,f5⟩:=hf it (by simp);exact wpAny_pyNext_range_end (I.ok.hd hc) st (by have:n<=i:=hg;lia) λh' eb=>⟨rfl,I.turned (t':=s.toks) (λb o hb e=>eb b o hb e) f0 f1 f3 f4 f5⟩
 self:=λ_ _ _ _ _ st h=>wpAny_pyIter_rangeiter st h
section
variable {X:Cx} {tg:Expr}
theorem uY {pins:List (Addr×Obj)}{σ:St}{H:Hp}{s:Shared}{R:It->Hp->Prop}{E:Value->Shared->Prop}{lo hi:Int}{t u v:Tok}{tk:Nat}(I:Inv X pins σ H s)(h1: -(2 ^ 62)<=lo)(h2:lo<2 ^ 62)(h3: -(2 ^ 62)<=hi)(h4:hi<2 ^ 62)
  (q:R (Ef lo (hi -lo).toNat) H):wpAny (model X.prog X.w) X.A (pyIter (.ref s.heap.objs.size)) (Ei X pins σ tg R) E {s with heap:=s.heap.push {cls:= .type "range",data:= .fields #[.int lo t,.int hi u,.int 1 v]},toks:=tk}:=by
 refine wpAny_pyIter_range (IsRange.new ..) (small_one h1 h2 h3 h4) ?_
 have I1:Inv X pins σ H {s with heap:=s.heap.push {cls:= .type "range",data:= .fields #[.int lo t,.int hi u,.int 1 v]},toks:=tk}:=I.kept λb o e=>GB _ e
 refine⟨(s.heap.push {cls:= .type "range",data:= .fields #[.int lo t,.int hi u,.int 1 v]}).objs.size,[(s.heap.push {cls:= .type "range",data:= .fields #[.int lo t,.int hi u,.int 1 v]}).objs.size],_,_,H,rfl,
  I1.kept (t':=tk) λb o e=>GB _ e,oE _ lo (hi -lo).toNat,?_,λb hb=>?_,q⟩
 .have e1:lo+((0:Nat):Int)*1=lo:=by simp
  have e2:(((hi -lo).toNat:Nat):Int) -((0:Nat):Int)=Builtin.Range.rangeSize lo hi 1:=by rw[rangeSize_one];split<;>lia
  show IsRangeIter _ _ (lo+((0:Nat):Int)*1) ((((hi -lo).toNat:Nat):Int) -((0:Nat):Int)) 1
  rw[e1,e2]
  exact GW _ rfl
 .have e:b=(s.heap.push {cls:= .type "range",data:= .fields #[.int lo t,.int hi u,.int 1 v]}).objs.size:=by simpa using hb
  subst e
  exact I1.fpOk (Gv _) (I1.hok.fresh (Gv _))
def vA (ta:TA):TI:=λσ H R=>ta σ H λvs H1=>∃j:Int,vs=[.int j]/\-(2 ^ 62)<=j/\j<2 ^ 62/\R (Ef 0 j.toNat) H1
theorem rG {a:Expr}{ta:TA}{p pos:Pos}(hg:Gl X "range")(hm:X.mg "range"=none)(ha:PA X [a] ta)(hs:starEach [a] X.env=[(false,eval a X.env)]:=by rfl):PI X tg (.Call (.Name "range" p) [a] [] pos) (vA ta):=by
 intro pins s σ H R I h;refine Call_ (Z6 I hg hm boot_range (HW (E9 (ha pos pins s σ H _ I h) λus s1 ⟨vs,H1,I1,r1,q1⟩=>?_) hs rfl));obtain⟨j,e,q1,q2,q⟩:=q1;subst e;cases r1 with
 |cons r rr=>
  cases rr
  obtain⟨t,rfl⟩:=r
  exact call_range_1 (uY I1 (by lia) (by lia) q1 q2 (by simpa using q))
def gQ (fp:List Addr)(h:Heap):List (Addr×Obj):=fp.filterMap λb=>(h.get? b).map λo=>(b,o)
theorem Z2 {fp:List Addr}{h:Heap}{b:Addr}{o:Obj}(hb:b∈fp)(e:h.get? b=some o):(b,o)∈gQ fp h:=KG.mpr ⟨b,hb,by rw[e];rfl⟩
theorem rn {fp:List Addr}{h:Heap}{p:Addr×Obj}(hp:p∈gQ fp h):p.1∈fp/\h.get? p.1=some p.2:=by
 obtain⟨b,hb,e⟩:=KG.mp hp;cases q:h.get? b with
 |none=>rw[q] at e;cases e
 |some o=>
  rw[q] at e
  have e':(b,o)=p:=GL e
  subst e'
  exact⟨hb,q⟩
theorem Inv.pinned {pins:List (Addr×Obj)}{σ:St}{H:Hp}{s:Shared}{fp:List Addr}(I:Inv X pins σ H s)(hf:∀b∈fp,cJ X pins H b)(ho:∀b∈fp,∃o,s.heap.get? b=some o/\∀v,o.data≠ .cell v):Inv X (pins++gQ fp s.heap) σ H s:=
 I.pins_of λp hp=>(GO.mp hp).elim (λz=>I.pin p (GG _ z)) λz=>by
  obtain⟨hb,e⟩:=rn z;obtain⟨f0,f1,f2,_⟩:=hf p.1 hb;obtain⟨o,e',d⟩:=ho p.1 hb;rw[e] at e';cases e';exact⟨e,f0,f1,f2,d⟩
theorem Inv.unpinned {pins pl:List (Addr×Obj)}{σ:St}{H:Hp}{s:Shared}(I:Inv X (pins++pl) σ H s):Inv X pins σ H s:=I.pins_of λp hp=>I.pin p (GG _ (GA _ hp))
end
abbrev R2:=V->V->Hp->VK->Prop
def OpR (X:Cx)(f:Value->Value->Sem Value)(r:R2):Prop:=
 ∀(pins:List (Addr×Obj)) (s:Shared) (σ:St) (H:Hp) (x y:V) (v u:Value) (Q:VK),Inv X pins σ H s->RelV x v->RelV y u->r x y H Q->
  wpAny (model X.prog X.w) X.A (f v u) (EP X pins σ Q) X.xe s
def Er (X:Cx)(f:Value->Sem Value)(r:V->Hp->VK->Prop):Prop:=
 ∀(pins:List (Addr×Obj)) (s:Shared) (σ:St) (H:Hp) (x:V) (v:Value) (Q:VK),Inv X pins σ H s->RelV x v->r x H Q->
  wpAny (model X.prog X.w) X.A (f v) (EP X pins σ Q) X.xe s
def CallR (X:Cx)(f:Value)(r:List V->Hp->VK->Prop):Prop:=
 ∀(pins:List (Addr×Obj)) (s:Shared) (σ:St) (H:Hp) (xs:List V) (us:List Value) (Q:VK),Inv X pins σ H s->Vals xs us->r xs H Q->
  wpAny (model X.prog X.w) X.A (call f us) (EP X pins σ Q) X.xe s
def Fm (X:Cx)(r:V->Hp->(Bool->Hp->Prop)->Prop):Prop:=
 ∀(pins:List (Addr×Obj)) (s:Shared) (σ:St) (H:Hp) (x:V) (v:Value) (Q:Bool->Hp->Prop),Inv X pins σ H s->RelV x v->r x H Q->
  wpAny (model X.prog X.w) X.A (truthy v) (TP X pins σ Q) X.xe s
def xH (r:R2)(ta tb:TE):TE:=λσ H Q=>ta σ H λx H1=>tb σ H1 λy H2=>r x y H2 Q
def EA (r:V->Hp->VK->Prop)(ta:TE):TE:=λσ H Q=>ta σ H λx H1=>r x H1 Q
def rI (C:Int->Int->Prop)(g:Int->Int->V):R2:=λx y H Q=>∃i j,x= .int i/\y= .int j/\C i j/\Q (g i j) H
def wV (g:Int->Int->V):R2:=λx y H Q=>∃i j,x= .int i/\y= .int j/\Q (g i j) H
def rU (g:Int->V):V->Hp->VK->Prop:=λx H Q=>∃i,x= .int i/\Q (g i) H
section
variable {X:Cx} {a b c:Expr} {ta tb tc:TE} {pos:Pos}
theorem BC (ha:PE X a ta)(hb:PE X b tb){pins:List (Addr×Obj)}{s:Shared}{σ:St}{H:Hp}{R:V->V->Hp->Prop}(I:Inv X pins σ H s)
  (h:ta σ H λx H1=>tb σ H1 λy H2=>R x y H2) {Q:Value->Shared->Prop} {f:Value->Value->Sem Value}
  (hf:∀v u s2 x y H2,Inv X pins σ H2 s2->RelV x v->RelV y u->R x y H2->wpAny (model X.prog X.w) X.A (f v u) Q X.xe s2):
  wpAny (model X.prog X.w) X.A (eval a X.env) (λv s₁=>wpAny (model X.prog X.w) X.A (eval b X.env) (λu s₂=>wpAny (model X.prog X.w) X.A (f v u) Q X.xe s₂) X.xe s₁) X.xe s:=by
 refine E9 (ha pins s σ H _ I h) λv s1 ⟨x,H1,I1,r1,q1⟩=>?_
 refine E9 (hb pins s1 σ H1 _ I1 q1) λu s2 ⟨y,H2,I2,r2,q2⟩=>?_
 exact hf v u s2 x y H2 I2 r1 r2 q2
theorem CA {op:Operator}{r:R2}(ho:OpR X (binaryOp op) r)(ha:PE X a ta)(hb:PE X b tb):PE X (.BinOp a op b pos) (xH r ta tb):=by
 intro pins s σ H Q I h;exact wpAny_BinOp (BC ha hb I h λv u s2 x y H2 I2 rx ry q=>ho pins s2 σ H2 x y v u Q I2 rx ry q)
theorem Ce {op:UnaryOp}{r:V->Hp->VK->Prop}(ho:Er X (unaryOp op) r)(ha:PE X a ta):PE X (.UnaryOp op a pos) (EA r ta):=by
 intro pins s σ H Q I h;exact UnaryOp_ (E9 (ha pins s σ H _ I h) λv s1 ⟨x,H1,I1,r1,q1⟩=>ho pins s1 σ H1 x v Q I1 r1 q1)
theorem Dg {f:Value->Value->Sem Value}{C:Int->Int->Prop}{g:Int->Int->Int}
  (rule:∀(i j:Int) (t u:Tok) (s:Shared) (Q:Value->Shared->Prop) (E:Value->Shared->Prop),C i j->Q (.int (g i j) s.toks) {s with toks:=s.toks+1}->wpAny (model X.prog X.w) X.A (f (.int i t) (.int j u)) Q E s):
  OpR X f (rI C λi j=> .int (g i j)):=by
 intro pins s σ H x y v u Q I rx ry h
 obtain⟨i,j,rfl,rfl,hc,q⟩:=h
 obtain⟨t,rfl⟩:=rx
 obtain⟨t',rfl⟩:=ry
 exact rule i j t t' s _ _ hc ⟨.int (g i j),H,I.tok _,⟨_,rfl⟩,q⟩
theorem CN {f:Value->Value->Sem Value}{g:Int->Int->Int}
  (rule:∀(i j:Int) (t u:Tok) (s:Shared) (Q:Value->Shared->Prop) (E:Value->Shared->Prop),Q (.int (g i j) s.toks) {s with toks:=s.toks+1}->wpAny (model X.prog X.w) X.A (f (.int i t) (.int j u)) Q E s):
  OpR X f (wV λi j=> .int (g i j)):=by
 intro pins s σ H x y v u Q I rx ry h
 obtain⟨i,j,rfl,rfl,q⟩:=h
 obtain⟨t,rfl⟩:=rx
 obtain⟨t',rfl⟩:=ry
 exact rule i j t t' s _ _ ⟨.int (g i j),H,I.tok _,⟨_,rfl⟩,q⟩
theorem zH {f:Value->Value->Sem Value}{g:Int->Int->Bool}
  (rule:∀(i j:Int) (t u:Tok) (s:Shared) (Q:Value->Shared->Prop) (E:Value->Shared->Prop),Q (.bool (g i j)) s->wpAny (model X.prog X.w) X.A (f (.int i t) (.int j u)) Q E s):
  OpR X f (wV λi j=> .bl (g i j)):=by
 intro pins s σ H x y v u Q I rx ry h
 obtain⟨i,j,rfl,rfl,q⟩:=h
 obtain⟨t,rfl⟩:=rx
 obtain⟨t',rfl⟩:=ry
 exact rule i j t t' s _ _ ⟨.bl (g i j),H,I,rfl,q⟩
def CF (i j:Int):Prop:=0<j/\j<1073741824
def BZ (i j:Int):Prop:=0<=j/\j<=1000000/\i.natAbs<2 ^ 64
def CMul (i j:Int):Prop:=(-(2 ^ 64)<i/\i<2 ^ 64)\/(-(2 ^ 64)<j/\j<2 ^ 64)
theorem CMul.ok {i j:Int}(h:CMul i j):IntMulOk i j:=by
 rcases h with⟨h1,h2⟩|⟨h1,h2⟩
 .exact .of_left (intBits_le_64 h1 h2)
 .exact .of_right (intBits_le_64 h1 h2)
theorem op_add:OpR X (binaryOp .Add) (wV λi j=> .int (i+j)):=CN λ_ _ _ _ _ _ _ q=>add_int q
theorem pC:OpR X (binaryOp .Sub) (wV λi j=> .int (i -j)):=CN λ_ _ _ _ _ _ _ q=>sub_int q
theorem op_mul:OpR X (binaryOp .Mult) (rI CMul λi j=> .int (i*j)):=Dg λ_ _ _ _ _ _ _ hc q=>mul_int q hc.ok
theorem E2:OpR X (binaryOp .FloorDiv) (rI CF λi j=> .int (i/j)):=Dg λi j _ _ _ _ _ hc q=>by
 have h1:(0:Int)<j:=hc.1;have h2:j<1073741824:=hc.2;exact floordiv_int (by lia) (by rw[Int.fdiv_eq_ediv_of_nonneg i (by lia)];exact q) (.inl (PyProof.noPylong_small (by lia)))
theorem p9:OpR X (binaryOp .Mod) (rI (λ_ j=>0<j) λi j=> .int (i % j)):=Dg λi j _ _ _ _ _ hc q=>by
 have h1:(0:Int)<j:=hc;exact mod_int' (by lia) (by rw[Int.fmod_eq_emod_of_nonneg i (by lia)];exact q)
theorem ez:OpR X (binaryOp .Pow) (rI BZ λi j=> .int (i ^ j.toNat)):=Dg λ_ _ _ _ _ _ _ hc q=>pow_int_small hc.1 hc.2.1 hc.2.2 q
theorem Gh {f:Value->Sem Value}{g:Int->Int}
  (rule:∀(i:Int) (t:Tok) (s:Shared) (Q:Value->Shared->Prop) (E:Value->Shared->Prop),Q (.int (g i) s.toks) {s with toks:=s.toks+1}->wpAny (model X.prog X.w) X.A (f (.int i t)) Q E s):
  Er X f (rU λi=> .int (g i)):=by
 intro pins s σ H x v Q I rx h
 obtain⟨i,rfl,q⟩:=h
 obtain⟨t,rfl⟩:=rx
 exact rule i t s _ _ ⟨.int (g i),H,I.tok _,⟨_,rfl⟩,q⟩
theorem zE:Er X (unaryOp .USub) (rU λi=> .int (-i)):=Gh λ_ _ _ _ _ q=>neg_int q
end
def Cj:V->V->Bool
 | .non,.non=>true| .non,.int _=>true| .int _,.non=>true| .non,.bl _=>true| .bl _,.non=>true| .non,.str _=>true| .str _,.non=>true
 | .int _,.int _=>true| .bl _,.bl _=>true| .str _,.str _=>true| .byt _,.byt _=>true
 | .int _,.str _=>true| .str _,.int _=>true| .bl _,.str _=>true| .str _,.bl _=>true
 |_,_=>false
def BX:R2:=λx y H Q=>Cj x y=true/\Q (.bl (decide (x=y))) H
def Eu:R2:=λx y H Q=>Cj x y=true/\Q (.bl (!decide (x=y))) H
theorem fY {i j:Int}:decide (V.int i=V.int j)=(i==j):=by
 rw[Hq];simp
theorem oC {i j:Bool}:decide (V.bl i=V.bl j)=(i==j):=by
 rw[Hq];simp
theorem lh {i j:Str}:decide (V.str i=V.str j)=(i==j):=by
 rw[Hq];simp
theorem qS {i j:Array UInt8}:decide (V.byt i=V.byt j)=(i.toList==j.toList):=by
 rw[Hq];cases i;cases j;simp
section
variable {X:Cx} {a b c:Expr} {ta tb tc:TE} {pos:Pos}
theorem z8 {pins:List (Addr×Obj)}{σ:St}{H:Hp}{s:Shared}{Q:VK}{k k':Bool}(I:Inv X pins σ H s)(q:Q (.bl k) H)(e:k=k'):EP X pins σ Q (.bool k') s:=by
 subst e;exact⟨.bl k,H,I,rfl,q⟩
theorem op_eq:OpR X (compareOp .Eq) BX:=by
 intro pins s σ H x y v u Q I rx ry h;obtain⟨hs,q⟩:=h;cases x with
 |non=>
  cases rx
  cases y with
  |non=>cases ry;exact PySem.EqNone.eq_none_none (z8 I q (by simp))
  |bl j=>cases ry;exact PySem.EqNone.eq_none_bool (z8 I q (by simp))
  |int j=>obtain⟨t',rfl⟩:=ry;exact PySem.EqNone.eq_none_int (z8 I q (by simp))
  |str j=>obtain⟨t',rfl⟩:=ry;exact PySem.EqNone.eq_none_str (z8 I q (by simp))
  |_=>exact absurd (show false=true from hs) Hi
 |bl i=>
  cases rx
  cases y with
  |non=>cases ry;exact PySem.EqNone.eq_bool_none (z8 I q (by simp))
  |bl j=>cases ry;exact eq_bool (z8 I q oC)
  |str j=>obtain⟨t',rfl⟩:=ry;exact PySem.EqMixed.eq_bool_str (z8 I q (by simp))
  |_=>exact absurd (show false=true from hs) Hi
 |int i=>
  obtain⟨t,rfl⟩:=rx
  cases y with
  |non=>cases ry;exact PySem.EqNone.eq_int_none (z8 I q (by simp))
  |int j=>obtain⟨t',rfl⟩:=ry;exact eq_int (z8 I q fY)
  |str j=>obtain⟨t',rfl⟩:=ry;exact PySem.EqMixed.eq_int_str (z8 I q (by simp))
  |_=>exact absurd (show false=true from hs) Hi
 |str i=>
  obtain⟨t,rfl⟩:=rx
  cases y with
  |non=>cases ry;exact PySem.EqNone.eq_str_none (z8 I q (by simp))
  |bl j=>cases ry;exact PySem.EqMixed.eq_str_bool (z8 I q (by simp))
  |int j=>obtain⟨t',rfl⟩:=ry;exact PySem.EqMixed.eq_str_int (z8 I q (by simp))
  |str j=>obtain⟨t',rfl⟩:=ry;exact eq_str (z8 I q lh)
  |_=>exact absurd (show false=true from hs) Hi
 |byt i=>
  obtain⟨t,rfl⟩:=rx
  cases y with
  |byt j=>obtain⟨t',rfl⟩:=ry;exact PySem.W.eq_bytes (z8 I q qS)
  |_=>exact absurd (show false=true from hs) Hi
 |_=>cases y<;>exact absurd (show false=true from hs) Hi
theorem op_ne:OpR X (compareOp .NotEq) Eu:=by
 intro pins s σ H x y v u Q I rx ry h;obtain⟨hs,q⟩:=h;cases x with
 |non=>
  cases rx
  cases y with
  |non=>cases ry;exact PySem.EqNone.ne_none_none (z8 I q (by simp))
  |bl j=>cases ry;exact PySem.EqNone.ne_none_bool (z8 I q (by simp))
  |int j=>obtain⟨t',rfl⟩:=ry;exact PySem.EqNone.ne_none_int (z8 I q (by simp))
  |str j=>obtain⟨t',rfl⟩:=ry;exact PySem.EqNone.ne_none_str (z8 I q (by simp))
  |_=>exact absurd (show false=true from hs) Hi
 |bl i=>
  cases rx
  cases y with
  |non=>cases ry;exact PySem.EqNone.ne_bool_none (z8 I q (by simp))
  |bl j=>cases ry;exact ne_bool (z8 I q (Ia not oC))
  |str j=>obtain⟨t',rfl⟩:=ry;exact PySem.EqMixed.ne_bool_str (z8 I q (by simp))
  |_=>exact absurd (show false=true from hs) Hi
 |int i=>
  obtain⟨t,rfl⟩:=rx
  cases y with
  |non=>cases ry;exact PySem.EqNone.ne_int_none (z8 I q (by simp))
  |int j=>obtain⟨t',rfl⟩:=ry;exact ne_int (z8 I q (Ia not fY))
  |str j=>obtain⟨t',rfl⟩:=ry;exact PySem.EqMixed.ne_int_str (z8 I q (by simp))
  |_=>exact absurd (show false=true from hs) Hi
 |str i=>
  obtain⟨t,rfl⟩:=rx
  cases y with
  |non=>cases ry;exact PySem.EqNone.ne_str_none (z8 I q (by simp))
  |bl j=>cases ry;exact PySem.EqMixed.ne_str_bool (z8 I q (by simp))
  |int j=>obtain⟨t',rfl⟩:=ry;exact PySem.EqMixed.ne_str_int (z8 I q (by simp))
  |str j=>obtain⟨t',rfl⟩:=ry;exact ne_str (z8 I q (Ia not lh))
  |_=>exact absurd (show false=true from hs) Hi
 |byt i=>
  obtain⟨t,rfl⟩:=rx
  cases y with
  |byt j=>obtain⟨t',rfl⟩:=ry;exact PySem.W.ne_bytes (z8 I q (Ia not qS))
  |_=>exact absurd (show false=true from hs) Hi
 |_=>cases y<;>exact absurd (show false=true from hs) Hi
theorem op_lt:OpR X (compareOp .Lt) (wV λi j=> .bl (decide (i<j))):=zH λ_ _ _ _ _ _ _ q=>lt_int q
theorem Cv:OpR X (compareOp .LtE) (wV λi j=> .bl (decide (i<=j))):=zH λ_ _ _ _ _ _ _ q=>le_int q
theorem jL:OpR X (compareOp .Gt) (wV λi j=> .bl (decide (j<i))):=zH λ_ _ _ _ _ _ _ q=>gt_int q
theorem rP:OpR X (compareOp .Lt) (λx y H Q=>∃i j,x= .str i/\y= .str j/\Q (.bl (decide (i.cps.toList<j.cps.toList))) H):=by
 intro pins s σ H x y v u Q I rx ry h;obtain⟨i,j,rfl,rfl,q⟩:=h;obtain⟨t,rfl⟩:=rx;obtain⟨t',rfl⟩:=ry;exact lt_str (z8 I q rfl)
theorem sd:OpR X (compareOp .In) (λx y H Q=>∃i j,x= .str i/\y= .str j/\Q (.bl (!(Builtin.Str.occurrences j i 0 j.length 1).isEmpty)) H):=by
 intro pins s σ H x y v u Q I rx ry h;obtain⟨i,j,rfl,rfl,q⟩:=h;obtain⟨t,rfl⟩:=rx;obtain⟨t',rfl⟩:=ry;exact in_str (z8 I q rfl)
theorem OpR.or {f:Value->Value->Sem Value}{r r':R2}(h:OpR X f r)(h':OpR X f r'):OpR X f (λx y H Q=>r x y H Q\/r' x y H Q):=by
 intro pins s σ H x y v u Q I rx ry q;rcases q with q|q
 .exact h pins s σ H x y v u Q I rx ry q
 .exact h' pins s σ H x y v u Q I rx ry q
theorem p7 (b:Expr){op:CmpOp}(h:op≠ .In:=by decide)(h2:op≠ .NotIn:=by decide):behindInMarks op b=false:=by
 have e1:(op==CmpOp.In)=false:=by cases op<;>first|rfl|exact absurd rfl h
 have e2:(op==CmpOp.NotIn)=false:=by cases op<;>first|rfl|exact absurd rfl h2
 cases b<;>simp [behindInMarks,e1,e2]
theorem yp {op:CmpOp}{r:R2}(ho:OpR X (compareOp op) r)(ha:PE X a ta)(hb:PE X b tb)(hm:behindInMarks op b=false):PE X (.Compare a [op] [b] pos) (xH r ta tb):=by
 intro pins s σ H Q I h;exact wpAny_Compare1 (BC ha hb I h λv u s2 x y H2 I2 rx ry q=>ho pins s2 σ H2 x y v u Q I2 rx ry q) hm
def vy (t:TE):TT:=λσ H Q=>t σ H λx H'=>∃k,x= .bl k/\Q k H'
theorem xR {op:CmpOp}{r:R2}(ho:OpR X (compareOp op) r)(ha:PE X a ta)(hb:PE X b tb)(hm:behindInMarks op b=false):PT X (.Compare a [op] [b] pos) (vy (xH r ta tb)):=by
 intro pins s σ H Q I h;refine wpAny_isTrue_Compare1 (E9 (ha pins s σ H _ I h) λv s1 ⟨x,H1,I1,r1,q1⟩=>E9 (hb pins s1 σ H1 _ I1 q1) λu s2 ⟨y,H2,I2,r2,q2⟩=>
  E9 (ho pins s2 σ H2 x y v u _ I2 r1 r2 q2) λc s3 ⟨z,H3,I3,r3,k,e,q3⟩=>?_) hm
 subst e;cases r3;exact Ip ⟨H3,I3,q3⟩
def uf (K:Qc)(x:V)(H:Hp)(k:Bool):Prop:=
 match x with
 | .non=>k=false
 | .bl b=>k=b
 | .int i=>k=(i !=0)
 | .str y=>y.length<=sizeLine/\k=((y.length:Int) !=0)
 | .byt y=>y.size<=sizeLine/\k=((y.size:Int) !=0)
 | .ref p=>(∃xs,SqL K H p xs/\k=!xs.isEmpty)\/(∃xs,SqT K H p xs/\k=!xs.isEmpty)\/∃kvs,H p=some (.dK kvs)/\k=!kvs.isEmpty
 |_=>False
theorem nX {κ:Type}{kvs:List (κ×V)}{vs:List (κ×Value)}(r:KV kvs vs):(!vs.isEmpty)=!kvs.isEmpty:=by
 cases r<;>rfl
theorem iA {xs:List V}{a_:List Value}(r:Vals xs a_):(!a_.toArray.isEmpty)=!xs.isEmpty:=by
 cases r<;>simp
theorem fj:(sizeLine:Nat)<2 ^ 63:=by rw[Mi];decide
theorem AE:Fm X (λx H Q=>∃k,uf X.K x H k/\Q k H):=by
 intro pins s σ H x v Q I rx h;obtain⟨k,e,q⟩:=h;have hl:=fj;have hs:sizeLine=16777216:=Mi;cases x with
 |non=>
  cases rx
  have e':k=false:=e
  subst e'
  exact truthy_none ⟨H,I,q⟩
 |bl b=>
  cases rx
  have e':k=b:=e
  subst e'
  exact Ip ⟨H,I,q⟩
 |int i=>
  obtain⟨t,rfl⟩:=rx
  have e':k=(i !=0):=e
  subst e'
  exact PySem.P.truthy_int ⟨H,I,q⟩
 |str y=>
  obtain⟨t,rfl⟩:=rx
  obtain⟨hy,e'⟩:y.length<=sizeLine/\k=((y.length:Int) !=0):=e
  subst e'
  exact PySem.P.truthy_str (by lia) ⟨H,I.tok _,q⟩
 |byt y=>
  obtain⟨t,rfl⟩:=rx
  obtain⟨hy,e'⟩:y.size<=sizeLine/\k=((y.size:Int) !=0):=e
  subst e'
  exact PySem.W.truthy_bytes (by lia) ⟨H,I.tok _,q⟩
 |ref p=>
  cases rx
  have e':(∃xs,SqL X.K H p xs/\k=!xs.isEmpty)\/(∃xs,SqT X.K H p xs/\k=!xs.isEmpty)\/∃kvs,H p=some (.dK kvs)/\k=!kvs.isEmpty:=e
  rcases e' with⟨xs,hx,e'⟩|⟨xs,hx,e'⟩|⟨kvs,hx,e'⟩
  .subst e'
   obtain⟨a_,r,pl,hz⟩:=I.list hx
   have hlen:=r.length
   exact wpAny_truthy_list pl.isList (by simp only[Hd];lia) ⟨H,I.tok _,by rw[iA r];exact q⟩
  .subst e'
   obtain⟨a_,r,pl,hz⟩:=I.tuple hx
   have hlen:=r.length
   exact truthy_tuple pl (by simp only[Hd];lia) ⟨H,I.tok _,by rw[iA r];exact q⟩
  .subst e'
   obtain⟨hz,hS,vs,r,m⟩:kvs.length<=sizeLine/\(p==sysModules)=false/\∃vs,KV kvs vs/\s.heap.DictOf (k7 X.prog X.w) p vs:=I.hok p _ hx
   have hlen:kvs.length=vs.length:=Hn r
   exact wpAny_truthy_dict hS m (by lia) ⟨H,I.tok _,by rw[nX r];exact q⟩
 |_=>exact(show False from e).elim
theorem uw (ha:PE X a ta)(he:∀whole,isTrue a X.env whole=(do let v←whole;standAt a.pos;holding [v] (truthy v))):
  PT X a (λσ H Q=>ta σ H λx H'=>∃k,uf X.K x H' k/\Q k H'):=by
 intro pins s σ H Q I h
 exact isTrue_plain (E9 (ha pins s σ H _ I h) λv s1 ⟨x,H1,I1,r1,q1⟩=>AE pins s1 σ H1 x v Q I1 r1 q1) (he _)
theorem op_add_str:OpR X (binaryOp .Add) (λx y H Q=>∃i j,x= .str i/\y= .str j/\i.length+j.length<=sizeLine/\Q (.str (i++j)) H):=by
 intro pins s σ H x y v u Q I rx ry h;obtain⟨i,j,rfl,rfl,hz,q⟩:=h;obtain⟨t,rfl⟩:=rx;obtain⟨t',rfl⟩:=ry;exact add_str (λt' tk=>⟨.str (i++j),H,I.tok _,⟨_,rfl⟩,q⟩) hz
theorem G6 {x:V}{us:List Value}(r:Vals [x] us):∃u,us=[u]/\RelV x u:=by
 cases r with
 |cons r1 r2=>cases r2;exact⟨_,rfl,r1⟩
theorem U6 {x y:V}{us:List Value}(r:Vals [x,y] us):∃u w',us=[u,w']/\RelV x u/\RelV y w':=by
 cases r with
 |cons r1 r2=>
  cases r2 with
  |cons r3 r4=>cases r4;exact⟨_,_,rfl,r1,r3⟩
theorem se (hc:X.calm=true):CallR X (.builtin "min") (λxs H Q=>∃i j,xs=[.int i,.int j]/\Q (.int (if j<i then j else i)) H):=by
 intro pins s σ H xs us Q I r h;obtain⟨i,j,rfl,q⟩:=h;obtain⟨u,w',rfl,⟨t,rfl⟩,⟨t',rfl⟩⟩:=U6 r;refine min_two_ints (I.ok.hd hc) λh' tk k=>⟨_,H,I.kept k,?_,q⟩
 by_cases hj:j<i
 .rw[if_pos hj,if_pos hj];exact⟨_,rfl⟩
 .rw[if_neg hj,if_neg hj];exact⟨_,rfl⟩
theorem jA:CallR X (.type "int") (λxs H Q=>(∃i,xs=[.int i]/\Q (.int i) H)\/∃k,xs=[.bl k]/\Q (.int (if k then 1 else 0)) H):=by
 intro pins s σ H xs us Q I r h;rcases h with⟨i,rfl,q⟩|⟨k,rfl,q⟩
 .obtain⟨u,rfl,t,rfl⟩:=G6 r;exact call_int_int ⟨.int i,H,I,⟨_,rfl⟩,q⟩
 .obtain⟨u,rfl,r1⟩:=G6 r;cases r1;exact call_int_bool ⟨.int (if k then 1 else 0),H,I.tok _,⟨_,rfl⟩,q⟩
def Di (K:Qc)(x:V)(H:Hp)(n:Nat):Prop:=
 match x with
 | .str y=>y.length<=sizeLine/\n=y.length
 | .byt y=>y.size<=sizeLine/\n=y.size
 | .ref p=>(∃xs,SqL K H p xs/\n=xs.length)\/∃xs,SqT K H p xs/\n=xs.length
 |_=>False
theorem call_len:CallR X (.builtin "len") (λxs H Q=>∃x n,xs=[x]/\Di X.K x H n/\Q (.int n) H):=by
 intro pins s σ H xs us Q I r h;obtain⟨x,n,rfl,e,q⟩:=h;obtain⟨u,rfl,rx⟩:=G6 r;have hl:=fj;have hs:sizeLine=16777216:=Mi;cases x with
 |str y=>
  obtain⟨t,rfl⟩:=rx
  obtain⟨hy,e'⟩:y.length<=sizeLine/\n=y.length:=e
  subst e'
  exact len_str (by lia) ⟨.int _,H,I.tok _,⟨_,rfl⟩,q⟩
 |byt y=>
  obtain⟨t,rfl⟩:=rx
  obtain⟨hy,e'⟩:y.size<=sizeLine/\n=y.size:=e
  subst e'
  exact PySem.W.len_bytes (by lia) ⟨.int _,H,I.tok _,⟨_,rfl⟩,q⟩
 |ref p=>
  cases rx
  have e':(∃xs,SqL X.K H p xs/\n=xs.length)\/∃xs,SqT X.K H p xs/\n=xs.length:=e
  rcases e' with⟨xs,hx,e'⟩|⟨xs,hx,e'⟩
  .subst e'
   obtain⟨a_,r',pl,hz⟩:=I.list hx
   have hlen:=r'.length
   exact Calls.call_len_list pl.isList (by simp only[Hd];lia) ⟨.int xs.length,H,I.tok _,⟨_,by simp only[Hd];rw[hlen]⟩,q⟩
  .subst e'
   obtain⟨a_,r',pl,hz⟩:=I.tuple hx
   have hlen:=r'.length
   exact len_tuple pl (by simp only[Hd];lia) ⟨.int xs.length,H,I.tok _,⟨_,by simp only[Hd];rw[hlen]⟩,q⟩
 |_=>exact(show False from e).elim
end
structure Ge (h:Heap) (x dx C:Addr) (mA:Str->Option Value):Prop where
 obj:h.get? x=some (PySem.W.instObj C dx)
 ns:h.Ns1 dx mA
 ne:dx≠x
section
variable {prog:Program} {w:World} {A:Around} {E:Value->Shared->Prop} {s:Shared} {K:Qc} {x dx C f:Addr} {mA:Str->Option Value} {name:Str} {v:Value}
end
theorem RelO.some_of {v:V}{o:Option Value}(r:RelO (some v) o):∃u,o=some u/\RelV v u:=by
 cases o with
 |none=>exact(show False from r).elim
 |some u=>exact⟨u,rfl,r⟩
section
variable {P:Program} {w:World} {H H':Hp} {h h':Heap} {a C dx:Addr} {fs Xv:List (Str×V)}
end
structure FV (K:Qc) (C:Addr):Prop where
 pg:PySem.W.plainGet K C Str.empty=true
 hd:PySem.W.hasDictIn K C=true
 po:PySem.W.plainOver K C=true
 sa:PySem.W.findIn K (.ref C) "__setattr__"=some (some (.builtin "object.__setattr__"))
structure Gr (K:Qc) (C:Addr) (f:Str) (v:V) (u:Value):Prop where
 at_:PySem.W.findIn K (.ref C) f=some (some u)
 rel:RelV v u
 get:PySem.W.specialIn K u "__get__"=some none
 cp:PySem.W.copiedNames.contains f=false
structure FN (K:Qc) (C:Addr) (m:Str) (f:Addr):Prop where
 at_:PySem.W.findIn K (.ref C) m=some (some (.ref f))
 fn:PySem.W.isFn K (.ref f)=true
 kp:PySem.W.keepIn K (.ref f)=true
section
variable {X:Cx} {pins:List (Addr×Obj)} {σ:St} {H:Hp} {s:Shared} {a C dx:Addr} {fs:List (Str×V)} {f:Str} {v:V} {A:Around} {E:Value->Shared->Prop}
end
section
variable {X:Cx} {o e value:Expr} {f:Str} {pos pos' j_:Pos} {ta tv:TE}
end
section
variable {X:Cx} {pins:List (Addr×Obj)} {σ:St} {H:Hp} {s:Shared} {A:Around} {E:Value->Shared->Prop} {Q:Value->Shared->Prop} {c:Value} {b:Bool}
inductive ik (K:Qc) (H:Hp):V->Value->Prop where
 |non:ik K H .non (.type "NoneType")
 |bl (x:Bool):ik K H (.bl x) (.type "bool")
 |int (i:Int):ik K H (.int i) (.type "int")
 |str (x:Str):ik K H (.str x) (.type "str")
 |flt (x:UInt64):ik K H (.flt x) (.type "float")
 |lst {a:Addr} {xs:List V} (e:H a=some (.lst xs)):ik K H (.ref a) (.type "list")
 |frz {a:Addr} {o:Obj} {xs:List V} (e:H a=some (.frz o (.lst xs))):ik K H (.ref a) (.type "list")
 |tup {a:Addr} {xs:List V} (e:H a=some (.tup xs)):ik K H (.ref a) (.type "tuple")
 |dK {a:Addr} {kvs:List (j0×V)} (e:H a=some (.dK kvs)):ik K H (.ref a) (.type "dict")
 |dT {a:Addr} {kvs:List (List j0×V)} (e:H a=some (.dT kvs)):ik K H (.ref a) (.type "dict")
 |ins {a C dx:Addr} {fs:List (Str×V)} (e:H a=some (.ins C dx fs)) (cl:FV K C) (ha:PySem.W.findIn K (.ref C) "__class__"=some (some (.builtin "object.__class__")))
   (hn:PySem.W.specialIn K (.builtin "object.__class__") "__get__"=some (some (.builtin "getset_descriptor.__get__"))) (htk:PySem.W.takesIn K (.builtin "object.__class__")=some true)
   (hm:PySem.W.mroIn K C (.type "object")=some true):ik K H (.ref a) (.ref C)
end
structure Room (k:Nat) (A:Around):Prop where
 hd:A.handled=none
 dp:A.depth+3*k+5<recursionLimit
 un:A.units+16*k+200<cLine
theorem Room.mono {j k:Nat}{A:Around}(r:Room k A)(h:j<=k):Room j A:=⟨r.hd,by have:=r.dp;lia,by have:=r.un;lia⟩
theorem Room.deeper {k:Nat}{A:Around}(r:Room (k+1) A)(env:Env):Room k (A.deeper env):=
 ⟨r.hd,by have:=r.dp;show A.depth+1+3*k+5<_;lia,by have:=r.un;show A.units+3+16*k+200<_;lia⟩
theorem Room.depth {k:Nat}{A:Around}(r:Room k A):A.depth<recursionLimit:=by have:=r.dp;lia
theorem Room.units {k:Nat}{A:Around}(r:Room k A):A.units+64<cLine:=by have:=r.un;lia
def rW:TA:=λ_ H Q=>Q [] H
def qO (ta:TE)(tr:TA):TA:=λσ H Q=>ta σ H λx H1=>tr σ H1 λxs H2=>Q (x::xs) H2
section
variable {X:Cx} {e:Expr} {es:List Expr} {te:TE} {t:TA} {pos:Pos}
theorem zq:PA X [] rW:=λ_ _ _ _ H Q I h=>Kf ⟨[],H,I,.nil,h⟩
theorem xn (ha:PE X e te)(hr:PA X es t)(hs:starEach (e::es) X.env=(false,eval e X.env)::starEach es X.env:=by rfl):PA X (e::es) (qO te t):=by
 intro pos pins s σ H Q I h;rw[hs];show wpAny _ _ (spliced ((false,eval e X.env)::backTo pos (starEach es X.env))) _ _ s;refine Jq (E9 (ha pins s σ H _ I h) λu s1 ⟨x,H1,I1,r1,q1⟩=>?_);exact E9 (hr pos pins s1 σ H1 _ I1 q1) λus s2 ⟨xs,H2,I2,r2,q2⟩=>⟨x::xs,H2,I2,.cons r1 r2,q2⟩
def zz (t:TA):TE:=λσ H Q=>t σ H λxs H1=>xs.length<=sizeLine/\∀p,H1 p=none->Q (.ref p) (p0 H1 p (.tup xs))
def zM (t:TA):TE:=λσ H Q=>t σ H λxs H1=>xs.length<=sizeLine/\∀p,H1 p=none->Q (.ref p) (p0 H1 p (.lst xs))
theorem Ad {x1}(h:PA X es t):PE X (.Tuple es x1 pos) (zz t):=by
 intro pins s σ H Q I hq;refine wpAny_Tuple_spliced (E9 (h pos pins s σ H _ I hq) λus s1 ⟨xs,H1,I1,r,z,q⟩=>⟨by rw[←r.length];exact z,?_⟩);have hf:H1 s1.heap.objs.size=none:=I1.hok.fresh (Gv _);refine⟨.ref s1.heap.objs.size,p0 H1 s1.heap.objs.size (.tup xs),I1.laid (t':=s1.toks) (λb u e=>GB _ e) (Gv _) ?_,rfl,q _ hf⟩;exact⟨z,us,r,⟨_,GW _ rfl,rfl,_,rfl⟩⟩
theorem Ao (h:PA X es t):PE X (.List es pos) (zM t):=by
 intro pins s σ H Q I hq;refine wpAny_List_spliced (E9 (h pos pins s σ H _ I hq) λus s1 ⟨xs,H1,I1,r,z,q⟩=>⟨by rw[←r.length];exact z,?_⟩);have hf:H1 s1.heap.objs.size=none:=I1.hok.fresh (Gv _);refine⟨.ref s1.heap.objs.size,p0 H1 s1.heap.objs.size (.lst xs),I1.laid (t':=s1.toks) (λb u e=>GB _ e) (Gv _) ?_,rfl,q _ hf⟩;exact⟨z,us,0,r,GW _ rfl⟩
end
abbrev Sp:=List V->Hp->VK->XK->Prop
abbrev lO:=List Env->Hp->Shared->XK->Value->Shared->Prop
structure xq (P:Program) (w:World) (K:Qc) (mg:Str->Option Value) (base:Heap) (A:Around) (outer:List Env) (s:Shared) (H:Hp):Prop where
 frames:A.frames=some outer
 mod:Mod K mg base
 bs:∀b o,base.get? b=some o->s.heap.get? b=some o/\H b=none
 bsz:base.objs.size<=s.heap.objs.size
 funs:s.heap.FunFrames base outer
 frf:∀b∈Y0 outer,H b=none
 hok:HOk P w H s.heap
 bare:AllBare s.gens
def CE (outer:List Env)(P:Program)(w:World)(H:Hp)(s:Shared)(Q:VK)(u:Value)(s':Shared):Prop:=
 ∃v H',s'.os=s.os/\AllBare s'.gens/\Un (Y0 outer) [] H H' s.heap s'.heap/\HOk P w H' s'.heap/\RelV v u/\Q v H'
def CR (CX:lO)(outer:List Env)(P:Program)(w:World)(H:Hp)(s:Shared)(Q:VK)(E:XK)(r:Result)(s':Shared):Prop:=
 match r with
 | .ok (.ret u)=>CE outer P w H s Q u s'
 | .ok _=>False
 | .error e=>CX outer H s E e s'
structure A3 (P:Program) (w:World) (K:Qc) (mg:Str->Option Value) (base:Heap) (CX:lO) (k:Nat) (f:Addr) (fd:FuncData) (ps:List Str) (sp:Sp):Prop where
 len:∀vs H Q E,sp vs H Q E->vs.length=ps.length
 run:∀(A:Around) (outer:List Env) (s:Shared) (H:Hp) (args:Args) (us:List Value) (vs:List V) (Q:VK) (E:XK),Room k A->xq P w K mg base A outer s H->BindsTo s fd args (ps.zip us)->Vals vs us->sp vs H Q E->
  codeAny (model P w) A (.call (.ref f) args) (CR CX outer P w H s Q E) s
section
variable {X:Cx} {pins:List (Addr×Obj)} {σ:St} {H:Hp} {s s':Shared}
theorem Inv.env0 (I:Inv X pins σ H s):xq X.prog X.w X.K X.mg X.base X.A X.stack s H:=
 ⟨I.ok.frames,I.ok.mod,I.bs,He I.ok.bsz I.sz,I.stack,I.stkFree,I.hok,I.bare⟩
theorem Inv.after {Q:VK}{u:Value}(I:Inv X pins σ H s)(h:CE X.stack X.prog X.w H s Q u s'):EP X pins σ Q u s':=by
 obtain⟨v,H',os,bare,un,hok,r,q⟩:=h;obtain⟨hh,g,d,t,Xy⟩:=s';obtain rfl:Xy=s.os:=os;exact⟨v,H',I.call (h':=hh) (g':=g) (d':=d) (t':=t) (ch:=[]) un hok bare (λb z=>absurd z (by simp)),r,q⟩
end
def mP (sp:Sp)(l_:List V)(E:XK)(t:TA):TE:=λσ H Q=>t σ H λvs H1=>sp (vs++l_) H1 Q E
def Binds (K:Qc)(fd:FuncData)(ps:List Str)(ds:List Value):Prop:=
 ∀(s:Shared) (us:List Value),K.In s.heap->(us++ds).length=ps.length->BindsTo s fd ⟨us,[]⟩ (ps.zip (us++ds))
theorem Binds.all {K:Qc}{fd:FuncData}{ps:List Str}(h:∀us:List Value,us.length=ps.length->bindArgs fd ⟨us,[]⟩=pure (ps.zip us)):Binds K fd ps []:=λs us _ hl=>by
 rw[HX] at hl⊢;exact .of_eq (h us hl)
def cj (CX:lO)(X:Cx)(E:XK):Prop:=∀(pins:List (Addr×Obj)) (σ:St) (H:Hp) (s:Shared) (e:Value) (s':Shared),Inv X pins σ H s->CX X.stack H s E e s'->X.xe e s'
section
variable {X:Cx} {CX:lO} {k:Nat} {f C:Addr} {fd:FuncData} {ps:List Str} {sp:Sp} {l_:List V} {ds:List Value} {E:XK} {x m:Str} {p pos apos:Pos} {e o:Expr} {es:List Expr} {ta:TE} {t:TA}
theorem Am {pins:List (Addr×Obj)}{σ:St}{H:Hp}{s:Shared}{Q:VK}{us:List Value}{vs:List V}(F:A3 X.prog X.w X.K X.mg X.base CX k f fd ps sp)(hr:Room k X.A)(hb:Binds X.K fd ps ds)(hd:Vals l_ ds)(hx:cj CX X E)
  (I:Inv X pins σ H s) (r:Vals vs us) (h:sp (vs++l_) H Q E):wpAny (model X.prog X.w) X.A (call (.ref f) us) (EP X pins σ Q) X.xe s:=by
 have r2:Vals (vs++l_) (us++ds):=r.append hd
 have hl:(us++ds).length=ps.length:=by rw[←r2.length];exact F.len _ _ _ _ h
 refine wpAny_call (Kk (F.run X.A X.stack s H ⟨us,[]⟩ (us++ds) (vs++l_) Q E hr I.env0 (hb s us I.kIn hl) r2 h) λr s' hq=>?_)
 cases r with
 |error e=>exact hx pins σ H s e s' I hq
 |ok fl=>
  cases fl with
  |ret u=>exact I.after hq
  |next=>exact False.elim hq
  |brk=>exact False.elim hq
  |cont=>exact False.elim hq
theorem xo (F:A3 X.prog X.w X.K X.mg X.base CX k f fd ps sp)(hr:Room k X.A)(hg:Gl X x)(hm:X.mg x=some (.ref f))(hk:PySem.W.keepIn X.K (.ref f)=true)(hb:Binds X.K fd ps ds)(hd:Vals l_ ds)(hx:cj CX X E)
  (ha:PA X (e::es) t) (q_:(x==("__debug__":Str))=false:=by decide) (he:starEach (e::es) X.env=(false,eval e X.env)::starEach es X.env:=by rfl) (Lw:(backTo pos (starEach es X.env)).any (·.1)=false:=by rfl):
  PE X (.Call (.Name x p) (e::es) [] pos) (mP sp l_ E t):=by
 intro pins s σ H Q I h
 refine IL (cS I hg hm ?_ q_)
 refine Mw (h₀:=X.base) I.ok.mod.kin hk (E9 (ha pos pins s σ H _ I h) λus s1 ⟨vs,H1,I1,r,q⟩=>⟨I1.kIn,?_⟩) he Lw
 exact Am F hr hb hd hx I1 r q
structure Mk (K:Qc) (C f:Addr):Prop where
 makes:PySem.W.makesIn K C=true
 init:PySem.W.findIn K (.ref C) "__init__"=some (some (.ref f))
 fn:PySem.W.isFn K (.ref f)=true
 kp:PySem.W.keepIn K (.ref C)=true
end
section
variable {X:Cx} {CX:lO} {k:Nat} {f C:Addr} {fd:FuncData} {ps ks:List Str} {sp:Sp} {E:XK} {x m:Str} {p pos apos Xz:Pos} {e o:Expr} {es:List Expr} {kws:List Keyword} {te ta:TE} {t tk:TA} {nm:Option Str}
structure EC (K:Qc) (fd:FuncData) (ps ks:List Str) (g:List Value->List Value->List Value) (gV:List V->List V->List V):Prop where
 to:∀(s:Shared) (us ws:List Value),K.In s.heap->(g us ws).length=ps.length->BindsTo s fd ⟨us,ks.zip ws⟩ (ps.zip (g us ws))
 rel:∀{vs:List V} {us:List Value} {zs:List V} {ws:List Value},Vals vs us->Vals zs ws->Vals (gV vs zs) (g us ws)
variable {g:List Value->List Value->List Value} {gV:List V->List V->List V}
end
structure j5 (N P:List Str) (sc:Scope):Prop where
 kind:sc.kind= .function
 co:sc.isCoroutine=false
 gen:sc.isGenerator=false
 nd:N.Nodup
 pre:N.take P.length=P
 par:∀x∈P,sc.names.lookup x=some .local\/sc.names.lookup x=some .cell
 nofree:∀y∈sc.names,y.2≠ .free
theorem jV {kindOf:Str->Option NameKind}{x:Str}:∀{binds:List (Str×Value)} {m:Str->Option Value},(∀v,(x,v)∉binds)->bindL kindOf binds m x=m x
 |[],_,_=>rfl
 |(n,v)::r,m,h=>by
  unfold bindL;rw[jV λw hw=>h w (GY _ hw)];split
  .have:x≠n:=by rintro rfl;exact h v Hg
   simp [this]
  .rfl
theorem jB {kindOf:Str->Option NameKind}{x:Str}:∀{binds:List (Str×Value)} {m:Str->Option Value},(∀v,(x,v)∉binds)->bindC kindOf binds m x=m x
 |[],_,_=>rfl
 |(n,v)::r,m,h=>by
  unfold bindC;rw[jB λw hw=>h w (GY _ hw)];split
  .rfl
  .have:x≠n:=by rintro rfl;exact h v Hg
   simp [this]
theorem ju {kindOf:Str->Option NameKind}{x:Str}{v:Value}:∀{P:List Str} {vs:List Value} {i:Nat} {m:Str->Option Value},P.Nodup->P[i]?=some x->vs[i]?=some v->kindOf x=some .local->
  bindL kindOf (P.zip vs) m x=some v
 |[],_,_,_,_,h,_,_=>by simp at h
 |_::_,[],_,_,_,_,h,_=>by simp at h
 |p::P,w::vs,0,m,nd,h1,h2,hk=>by
  simp at h1 h2;subst h1;subst h2;show bindL kindOf ((p,w)::P.zip vs) m p=_;unfold bindL;rw[jV λv hv=>(Hs.mp nd).1 (Ks hv).1,if_pos hk];simp
 |p::P,w::vs,i+1,m,nd,h1,h2,hk=>by
  show bindL kindOf ((p,w)::P.zip vs) m x=_;unfold bindL;exact ju (i:=i) (Hs.mp nd).2 (by simpa using h1) (by simpa using h2) hk
theorem kc {kindOf:Str->Option NameKind}{x:Str}{v:Value}:∀{P:List Str} {vs:List Value} {i:Nat} {m:Str->Option Value},P.Nodup->P[i]?=some x->vs[i]?=some v->kindOf x≠some .local->
  bindC kindOf (P.zip vs) m x=some v
 |[],_,_,_,_,h,_,_=>by simp at h
 |_::_,[],_,_,_,_,h,_=>by simp at h
 |p::P,w::vs,0,m,nd,h1,h2,hk=>by
  simp at h1 h2;subst h1;subst h2;show bindC kindOf ((p,w)::P.zip vs) m p=_;unfold bindC;rw[jB λv hv=>(Hs.mp nd).1 (Ks hv).1,if_neg hk];simp
 |p::P,w::vs,i+1,m,nd,h1,h2,hk=>by
  show bindC kindOf ((p,w)::P.zip vs) m x=_;unfold bindC;exact kc (i:=i) (Hs.mp nd).2 (by simpa using h1) (by simpa using h2) hk
def dW (N:List Str)(vs:List V):St:=vs.map some++List.replicate (N.length -vs.length) none
def iN (CX:lO)(P:Program)(w:World)(K:Qc)(mg:Str->Option Value)(base:Heap)(N:List Str)(qual:Str)(scope:Scope)(f:Addr)(cd:Value)(A:Around)(outer:List Env)(s:Shared)(H:Hp)(E:XK):Cx where
 prog:=P
 w:=w
 K:=K
 mg:=mg
 base:=base
 A:=A.deeper (envOfC qual scope s.heap.objs.size f cd)
 N:=N
 s₀:=s
 H₀:=H
 env:=envOfC qual scope s.heap.objs.size f cd
 outer:=outer
 stack:=envOfC qual scope s.heap.objs.size f cd::outer
 ex:=[]
 calm:=true
 fn:=λ_=>true
 pn:=[]
 xe:=λe s'=>wpAny (model P w) (A.deeper (envOfC qual scope s.heap.objs.size f cd)) («leaving» (envOfC qual scope s.heap.objs.size f cd) e) (λ_ RT=>CX outer H s E e RT) (λe' RT=>CX outer H s E e' RT) s'
theorem nU {sc:Scope}{n:Nat}{x:Str}(h:sc.names.lookup x=some .cell):∃c,(cellsFrom n sc.names []).lookup x=some c:=by
 have q:=Lu sc.names n [] (.inl h);exact KR.mp q
theorem qU {CX:lO}{P:Program}{w:World}{K:Qc}{mg:Str->Option Value}{base:Heap}{N ps:List Str}{qual:Str}{scope:Scope}{f:Addr}{cd:Value}{A:Around}{outer:List Env}{s s1:Shared}{H:Hp}{E:XK}{us:List Value}{vs:List V}
  (S:j5 N ps scope) (hd:A.handled=none) (e0:xq P w K mg base A outer s H) (hl:vs.length=ps.length) (r:Vals vs us)
  (x:InCallC s s.heap.objs.size (bindL (envOfC qual scope s.heap.objs.size f cd).kindOf (ps.zip us) λ_=>none) (cellsFrom (s.heap.objs.size+1) scope.names []) (bindC (envOfC qual scope s.heap.objs.size f cd).kindOf (ps.zip us) λ_=>none) s1):
  Inv (iN CX P w K mg base N qual scope f cd A outer s H E) [] (dW N vs) H s1:=by
 have Lw:ps.length<=N.length:=by have:=Ia List.length S.pre;rw[GC] at this;lia
 obtain⟨h1,tk,rfl,hk⟩:=x.done
 have Qt:∀b:Addr,b∉(iN CX P w K mg base N qual scope f cd A outer s H E).ex:=λb z=>absurd (show b∈([]:List Addr) from z) (by simp)
 refine⟨⟨e0.mod,S.kind,rfl,rfl,Gv _,λy z c h1 h2=>?_,λy hy=>?_,λy c _ h=>?_,λ_=>hd,Around.frames_deeper e0.frames,.inr ⟨rfl,rfl⟩,λb z=>absurd z (Qt b),e0.bs,e0.bsz,λb _ _=>Qt b,λb z=>absurd z (Qt b),e0.funs,e0.frf⟩,
  rfl,e0.bare,Un.kept hk,⟨_,x.toInCall.ns,λi y v h1 h2 h3=>?_⟩,λy c h=>⟨_,x.cell y c h⟩,e0.hok.fresh (Gv _),λy c h=>?_,λp hp=>absurd (show p∈([]:List (Addr×Obj)) from hp) (by simp),e0.hok.kept hk,?_⟩
 .exact name_of_addr x.apart (Jg h1) (Jg h2)
 .have hy:scope.names.lookup y=some .cell\/scope.names.lookup y=some .free:=hy
  rcases hy with hy|hy
  .exact nU hy
  .exact absurd rfl (S.nofree _ (Jg hy))
 .exact Ki (x.above y c (Jg h))
 .have hi:i<vs.length:=by
   unfold dW at h2;by_cases hi:i<vs.length
   .exact hi
   .rw[Ic (by simpa using hi)] at h2;rw[JQ] at h2;split at h2<;>cases h2
  have ha:vs[i]?=some v:=by
   unfold dW at h2;rw[HQ (by simpa using hi),Gx] at h2;cases e:vs[i]? with
   |none=>rw[e] at h2;cases h2
   |some a=>rw[e] at h2;cases h2;rfl
  obtain⟨u,hu,rv⟩:=r.get ha
  have hp:ps[i]?=some y:=by
   rw[←S.pre,IU (by lia)];exact h1
  have RU:ps.Nodup:=by rw[←S.pre];exact S.nd.sublist (ID _ _)
  refine⟨u,rv,?_⟩
  rcases S.par y (GJ hp) with k|k
  .exact .inl ⟨k,ju RU hp hu k⟩
  .obtain⟨c,e⟩:=nU (n:=s.heap.objs.size+1) k
   refine .inr ⟨.inl k,c,e,?_⟩
   have q:=x.cell y c e
   rw[kc RU hp hu (by show scope.names.lookup y≠_;rw[k];decide)] at q
   exact q
 .exact e0.hok.fresh (Ki (x.above y c (Jg h)))
 .unfold dW
  show _=N.length
  rw[GF,Gs,Ir]
  lia
theorem zh {CX:lO}{P:Program}{w:World}{K:Qc}{mg:Str->Option Value}{base:Heap}{k:Nat}{f:Addr}{name qual:Str}{params:Arguments}{body:List Stmt}{scope:Scope}{dV kV doc pm d_ ct oc:Value}{an od:Option Addr}
  {Mq:Array (Option Value)} {N ps:List Str} {sp:Sp} (lk:K.lookup f=some ⟨oc,od,.func (PySem.W.fnOf name qual params body scope dV kV doc pm an d_ ct),Mq⟩) (Mn:PySem.W.codeIn K d_ qual=true) (S:j5 N ps scope)
  (len:∀vs H Q E,sp vs H Q E->vs.length=ps.length)
  (Lx:∀(A:Around) (outer:List Env) (s:Shared) (H:Hp) (vs:List V) (Q:VK) (E:XK),Room k (A.deeper (envOfC qual scope s.heap.objs.size f d_))->sp vs H Q E->
   ∃t,PSs (iN CX P w K mg base N qual scope f d_ A outer s H E) body t/\t {nx:=λ_ H'=>Q .non H',rt:=Q} (dW N vs) H):
  A3 P w K mg base CX (k+1) f (PySem.W.fnOf name qual params body scope dV kV doc pm an d_ ct) ps sp:=by
 refine⟨len,λA outer s H args us vs Q E hr e0 hb r NQ=>?_⟩
 have hl:=len _ _ _ _ NQ
 have KX:K.In s.heap:=e0.mod.kin.keeps λb o e=>(e0.bs b o e).1
 have lim:s.heap.NoLimit:=e0.mod.nolimit.keeps λb o e=>(e0.bs b o e).1
 have Qu:∀y∈ps.zip us,scope.names.lookup y.1=some .local\/(scope.names.lookup y.1=some .cell/\((cellsFrom (s.heap.objs.size+1) scope.names []).lookup y.1).isSome=true):=fun⟨n,v⟩ hy=>by
  rcases S.par n (Ks hy).1 with q|q
  .exact .inl q
  .exact .inr ⟨q,Lu _ _ _ (.inl q)⟩
 refine codeAny_call_function hr.depth (KX _ _ lk) rfl S.co S.gen rfl (PySem.W.codeRec_of KX Mn) (hb _ _ _ _ ?_)
 refine wpAny_newFunctionEnv_cells S.kind Qu λenv he s1 x=>?_
 subst he
 refine⟨lim.keeps x.toInCall.keep,codeAny_func ?_⟩
 obtain⟨t,ht,hq⟩:=Lx A outer s H vs Q E (hr.deeper _) NQ
 have I:Inv (iN CX P w K mg base N qual scope f d_ A outer s H E) [] (dW N vs) H s1:=qU S hr.hd e0 hl r x
 refine Kr (ht [] s1 (dW N vs) H _ I hq) (λfl s' hs=>?_) λe s' hs=>hs
 have fin:∀{σ':St} {H':Hp} {v:V} {u:Value},Inv (iN CX P w K mg base N qual scope f d_ A outer s H E) [] σ' H' s'->RelV v u->Q v H'->CE outer P w H s Q u s':=
  fun{σ' H' v u} J rv q=>⟨v,H',J.os,J.bare,J.base,J.hok,rv,q⟩
 cases fl with
 |ret u=>
  obtain⟨v,σ',H',J,rv,q⟩:=hs
  exact fin J rv q
 |next=>
  obtain⟨σ',H',J,q⟩:=hs
  exact fin (v:=V.non) (u:=Value.none) J rfl q
 |brk=>
  obtain⟨_,_,_,q⟩:=hs
  exact False.elim q
 |cont=>
  obtain⟨_,_,_,q⟩:=hs
  exact False.elim q
section
variable {X:Cx} {x:Str} {p pos:Pos} {e:Expr} {es:List Expr} {t:TA} {id T:String} {r:List V->Hp->VK->Prop}
def Be (r:List V->Hp->VK->Prop)(t:TA):TE:=λσ H Q=>t σ H λvs H1=>r vs H1 Q
theorem vo (hc:CallR X (.builtin id) r)(hg:Gl X x)(hm:X.mg x=none)(hv:bootBuiltins x=some (.builtin id))(ha:PA X (e::es) t)(hn:x≠"__name__":=by decide)(q_:(x==("__debug__":Str))=false:=by decide)
  (he:starEach (e::es) X.env=(false,eval e X.env)::starEach es X.env:=by rfl) (Lw:(backTo pos (starEach es X.env)).any (·.1)=false:=by rfl):PE X (.Call (.Name x p) (e::es) [] pos) (Be r t):=by
 intro pins s σ H Q I h
 refine IL (Z6 I hg hm hv ?_ hn q_)
 exact PyProof.Rows.callWith_builtin1 (E9 (ha pos pins s σ H _ I h) λus s1 ⟨vs,H1,I1,r1,q1⟩=>hc pins s1 σ H1 vs us Q I1 r1 q1) he Lw
theorem rm (hc:CallR X (.type T) r)(hg:Gl X x)(hm:X.mg x=none)(hv:bootBuiltins x=some (.type T))(ha:PA X (e::es) t)(hn:x≠"__name__":=by decide)(q_:(x==("__debug__":Str))=false:=by decide)
  (he:starEach (e::es) X.env=(false,eval e X.env)::starEach es X.env:=by rfl) (Lw:(backTo pos (starEach es X.env)).any (·.1)=false:=by rfl):PE X (.Call (.Name x p) (e::es) [] pos) (Be r t):=by
 intro pins s σ H Q I h
 refine IL (Z6 I hg hm hv ?_ hn q_)
 exact HW (E9 (ha pos pins s σ H _ I h) λus s1 ⟨vs,H1,I1,r1,q1⟩=>hc pins s1 σ H1 vs us Q I1 r1 q1) he Lw
end
end L2
namespace HT
open PySem PyProof.Rows
section
open PySem.SeqAt
open PySem.AutoSeq1 (wpAny_loadPart')
open PySem.MeetsSeq PySem.MeetsSeq2 PySem.MeetsSeq3
end
section
variable {prog:Program} {w:World} {A:Around} {E:Value->Shared->Prop} {s:Shared}
theorem cat_tup {t b:Addr}{vs ws:List Value}{Q:Value->Shared->Prop}(ht:IsTup s.heap t vs.toArray)(hb:IsTup s.heap b ws.toArray)(hv:vs≠[])
  (h1:ws=[]->Q (.ref t) s) (h2:ws≠[]->Q (.ref s.heap.objs.size) {s with heap:=s.heap.push {cls:= .type "tuple",data:= .seq (vs++ws).toArray}})
  (hsz:vs.length+ws.length<=sizeLine):wpAny (model prog w) A (binaryOp .Add (.ref t) (.ref b)) Q E s:=by
 obtain⟨⟨cls,dd,data,sl⟩,ho,hc,n,hd⟩:=id ht
 obtain⟨⟨XA,VS,data2,VT⟩,Nk,Nl,n2,hd2⟩:=id hb
 simp only at hc hd Nl hd2
 subst hc hd Nl hd2
 have e:vs.toArray++ws.toArray=(vs++ws).toArray:=by simp
 by_cases hw:ws=[]
 .exact concat_meets ⟨_,ho,rfl⟩ ⟨_,Nk,rfl⟩ noFill_tuple_add seq_tuple_add Lv La (KS _ _)
   (tuple_addW1 t b vs.toArray ws.toArray n n2 dd VS sl VT (by simpa using hv) (by simp [hw])) ⟨ho,Nk,h1 hw⟩
 .refine concat_meets ⟨_,ho,rfl⟩ ⟨_,Nk,rfl⟩ noFill_tuple_add seq_tuple_add Lv La (KS _ _)
   (tuple_addW2 t b vs.toArray ws.toArray n n2 dd VS sl VT (by simpa using hv) (by simpa using hw) (by rw[Hd,Hd];exact hsz)) ⟨ho,Nk,?_⟩
  rw[e]
  exact h2 hw
def sIx (n d:Nat):Option Int->Nat
 |none=>d
 |some v=>if v<0 then(v+(n:Int)).toNat else min v.toNat n
theorem sIx_none (n d:Nat):sIx n d none=d:=rfl
theorem sIx_nat (n d k:Nat):sIx n d (some (k:Int))=min k n:=by
 show(if(k:Int)<0 then((k:Int)+(n:Int)).toNat else min (k:Int).toNat n)=min k n;rw[if_neg (by lia),MK]
theorem zD (n d:Nat)(hd:d<=n)(o:Option Int):sIx n d o<=n:=by
 cases o with
 |none=>exact hd
 |some v=>
  show(if v<0 then(v+(n:Int)).toNat else min v.toNat n)<=n
  by_cases hv:v<0
  .rw[if_pos hv];lia
  .rw[if_neg hv];exact Lj _ _
theorem qi (v:Int)(n d:Nat):(if v<0 then max (v+(n:Int)) 0 else min v (n:Int))=((sIx n d (some v):Nat):Int):=by
 show(if v<0 then max (v+(n:Int)) 0 else min v (n:Int))=(((if v<0 then(v+(n:Int)).toNat else min v.toNat n):Nat):Int);by_cases hv:v<0
 .simp only[if_pos hv];lia
 .simp only[if_neg hv];lia
theorem pE (lo hi:Option Int)(n:Nat):Builtin.Slice.sliceAdjust lo hi 1 (n:Int)=(((sIx n 0 lo:Nat):Int),((sIx n n hi:Nat):Int)):=by
 have h1:¬((1:Int)<0):=by lia
 unfold Builtin.Slice.sliceAdjust;simp only[h1,LQ];refine Prod.ext ?_ ?_
 .cases lo with
  |none=>rfl
  |some v=>exact qi v n 0
 .cases hi with
  |none=>rfl
  |some v=>exact qi v n n
theorem oD (i j:Nat):Builtin.Slice.slicePlaces (i:Int) (j:Int) 1=j -i:=by
 unfold Builtin.Slice.slicePlaces;have h1:(1:Int)>0:=by lia
 simp only[h1,ML,Int.ediv_one];split<;>lia
theorem gX {v:Value}{o:Option Int}{Q:Option Int->Shared->Prop}(p:IsPart v o)(h:Q o s):wpAny (model prog w) A (Builtin.Slice.slicePartIndex v) Q E s:=by
 cases p with
 |none=>exact slicePart_none h
 |int i t=>exact slicePart_int h
theorem eJ {sl:Addr}{vl vu:Value}{lo hi:Option Int}{n:Nat}{Q:Int×Int×Nat->Shared->Prop}(hs:s.heap.IsSliceOf sl vl vu .none)(pl:IsPart vl lo)(pu:IsPart vu hi)
  (h:Q (((sIx n 0 lo:Nat):Int),1,sIx n n hi -sIx n 0 lo) s):wpAny (model prog w) A (Builtin.Slice.sliceApplied (.ref sl) (pure (n:Int))) Q E s:=by
 obtain⟨os,Qv,Qw,RV⟩:=id hs
 unfold Builtin.Slice.sliceApplied Builtin.Slice.sliceFields
 refine Gz (Gz (Js Qv RV (x:=vl) rfl (Gz (Js Qv RV (x:=vu) rfl (Gz (Js Qv RV (x:= .none) rfl (GN ?_)))))))
 refine Gz (slicePart_none ?_)
 show wpAny _ _ (if((1:Int)==0)=true then _ else _) _ _ s
 rw[if_neg (by decide)]
 refine Gz (gX pl (Gz (gX pu (Gz (GN ?_)))))
 show wpAny _ _ (match Builtin.Slice.sliceAdjust lo hi 1 (n:Int) with|(lo,hi)=>pure (lo,(1:Int),Builtin.Slice.slicePlaces lo hi 1)) _ _ s
 rw[pE lo hi n]
 show wpAny _ _ (pure (((sIx n 0 lo:Nat):Int),(1:Int),Builtin.Slice.slicePlaces ((sIx n 0 lo:Nat):Int) ((sIx n n hi:Nat):Int) 1)) _ _ s
 rw[oD]
 exact GN h
theorem uW (xs:Array Value)(i k:Nat):((List.range k).filterMap fun(m:Nat)=>xs[((i:Int)+(m:Int)*1).toNat]?).toArray=((xs.toList.drop i).take k).toArray:=by
 have e:(fun(m:Nat)=>xs[((i:Int)+(m:Int)*1).toNat]?)=λm=>xs[i+m]?:=by
  funext m;have:((i:Int)+(m:Int)*1).toNat=i+m:=by lia
  rw[this]
 rw[e];have:=pick_run xs i k;rw[List.filterMap_map] at this;have e2:((λx=>xs[x]?)∘λx=>i+x)=λm=>xs[i+m]?:=rfl;rw[e2] at this;rw[this]
theorem getItem_tuple_cut {t sl:Addr}{items:Array Value}{vl vu:Value}{lo hi:Option Int}{Q:Value->Shared->Prop}(ht:IsTup s.heap t items)(hs:s.heap.IsSliceOf sl vl vu .none)(pl:IsPart vl lo)(pu:IsPart vu hi)
  (hw:¬(sIx items.size 0 lo=0/\sIx items.size items.size hi=items.size))
  (h:Q (.ref s.heap.objs.size) {s with heap:=s.heap.push {cls:= .type "tuple",data:= .seq ((items.toList.drop (sIx items.size 0 lo)).take (sIx items.size items.size hi -sIx items.size 0 lo)).toArray}})
  (hsz:items.size<=sizeLine):wpAny (model prog w) A (getItem (.ref t) (.ref sl)) Q E s:=by
 have Mz:sizeOk (.seq ((items.toList.drop (sIx items.size 0 lo)).take (sIx items.size items.size hi -sIx items.size 0 lo)).toArray):=by
  show((items.toList.drop (sIx items.size 0 lo)).take (sIx items.size items.size hi -sIx items.size 0 lo)).toArray.size<=sizeLine;rw[Hd,GC,Jm,JL];lia
 have hj:sIx items.size items.size hi<=items.size:=zD _ _ (Gv _) hi
 obtain⟨os,Qv,Qw,RV⟩:=id hs
 have XB:s.TypeIs (.ref sl) "slice":=⟨os,Qv,Qw⟩
 unfold getItem
 try with_reducible refine HU ?_
 first|refine Gz (GN ?_)|skip
 refine Gz (wpAny_sequenceKey ht.typeIs (by decide) ?_)
 refine Gz (JR (name:=Str.ofString "__getitem__") ht.typeIs IV
  (JI IV ht.typeIs entry_tuple_getitem ?_ (args_tuple_getitem _ _)))
 show wpAny _ _ (Builtin.Tuple.tupleItemsOf (.ref t)>>=_) _ _ s
 refine Gz (tupleItemsOf_ ht ?_)
 refine Gz (KH XB ?_)
 rw[if_pos (by decide)]
 refine Gz (eJ hs pl pu ?_)
 have m_:¬((((sIx items.size 0 lo:Nat):Int)==0&&(1:Int)==1&&(sIx items.size items.size hi -sIx items.size 0 lo)==items.size)=true):=by
  intro q;rw[GP,GP] at q;have q1:((sIx items.size 0 lo:Nat):Int)=0:=eq_of_beq q.1.1;have q2:sIx items.size items.size hi -sIx items.size 0 lo=items.size:=eq_of_beq q.2;exact hw ⟨by lia,by lia⟩
 show wpAny _ _ (if(((sIx items.size 0 lo:Nat):Int)==0&&(1:Int)==1&&(sIx items.size items.size hi -sIx items.size 0 lo)==items.size)=true then _ else _) _ _ s
 rw[if_neg m_,uW]
 first
  |exact Gz (m:=Builtin.Tuple.tupleExact _) (IW (GN ⟨_,rfl,GN h⟩) Mz)
  |exact Gz (m:=Builtin.Tuple.tupleExact _) (IW (Gz (GN (GN ⟨_,rfl,GN h⟩))) Mz)
  |exact Gz (Gz (m:=Builtin.Tuple.tupleExact _) (IW (GN (GN ⟨_,rfl,GN h⟩)) Mz))
  |exact Gz (Gz (m:=Builtin.Tuple.tupleExact _) (IW (GN ⟨_,rfl,GN h⟩) Mz))
end
end HT
namespace L2
open PySem PySem.Spec PyProof.Rows
abbrev TO:=St->Hp->(Option Int->Hp->Prop)->Prop
def PO (X:Cx)(e:Option Expr)(t:TO):Prop:=
 ∀(pins:List (Addr×Obj)) (s:Shared) (σ:St) (H:Hp) (Q:Option Int->Hp->Prop),Inv X pins σ H s->t σ H Q->
  wpAny (model X.prog X.w) X.A (evalPart e X.env) (λu s'=>∃o H',Inv X pins σ H' s'/\IsPart u o/\Q o H') X.xe s
def kT:TO:=λ_ H Q=>Q none H
def wB (t:TE):TO:=λσ H Q=>t σ H λx H1=>∃i,x= .int i/\Q (some i) H1
theorem oY {ns:List Int}:∀{us:List Value},Vals (ns.map V.int) us->IntsAre us ns:=by
 induction ns with
 |nil=>intro us r;rw[KI] at r;cases r;exact .nil
 |cons n ns ih=>
  intro us r
  rw[Hu] at r
  cases r with
  |cons r1 r2=>
   obtain⟨t,e⟩:=r1
   subst e
   exact .cons n t (ih r2)
section
variable {X:Cx} {e:Expr} {te:TE} {lo hi:Option Expr} {tl th:TO} {pos p2:Pos}
theorem xX:PO X none kT:=by
 intro pins s σ H Q I h;rw[evalPart_none];exact GN ⟨none,H,I,.none,h⟩
theorem xf (h:PE X e te):PO X (some e) (wB te):=by
 intro pins s σ H Q I hw;rw[evalPart_some];refine E9 (h pins s σ H _ I hw) λu s1 ⟨x,H1,I1,r1,q1⟩=>?_;obtain⟨i,rfl,q⟩:=q1;obtain⟨t,rfl⟩:=r1;exact⟨some i,H1,I1,.int i t,q⟩
def SlR (X:Cx)(r:V->Option Int->Option Int->Hp->VK->Prop):Prop:=
 ∀(pins:List (Addr×Obj)) (s:Shared) (σ:St) (H:Hp) (x:V) (v vl vu:Value) (lo hi:Option Int) (sl:Addr) (Q:VK),Inv X pins σ H s->RelV x v->s.heap.IsSliceOf sl vl vu .none->IsPart vl lo->IsPart vu hi->r x lo hi H Q->
  ∃T id,typeLookup (.type T) "__getitem__"=pure (some (.builtin id))/\s.TypeIs v T/\wpAny (model X.prog X.w) X.A (getItem v (.ref sl)) (EP X pins σ Q) X.xe s
theorem SlR.or {r r':V->Option Int->Option Int->Hp->VK->Prop}(h:SlR X r)(h':SlR X r'):SlR X (λx lo hi H Q=>r x lo hi H Q\/r' x lo hi H Q):=by
 intro pins s σ H x v vl vu lo hi sl Q I rx hs pl pu q;rcases q with q|q
 .exact h pins s σ H x v vl vu lo hi sl Q I rx hs pl pu q
 .exact h' pins s σ H x v vl vu lo hi sl Q I rx hs pl pu q
def Fc (r:V->Option Int->Option Int->Hp->VK->Prop)(te:TE)(tl th:TO):TE:=λσ H Q=>te σ H λx H1=>tl σ H1 λl H2=>th σ H2 λu H3=>r x l u H3 Q
theorem wI {r:V->Option Int->Option Int->Hp->VK->Prop}(hr:SlR X r)(he:PE X e te)(hl:PO X lo tl)(hu:PO X hi th):PE X (.Subscript e (.Slice lo hi none p2) pos) (Fc r te tl th):=by
 intro pins s σ H Q I h;refine Subscript_ (E9 (he pins s σ H _ I h) λv s1 ⟨x,H1,I1,r1,q1⟩=>?_);refine wpAny_Slice (E9 (hl pins s1 σ H1 _ I1 q1) λvl s2 ⟨l,H2,I2,pl,q2⟩=>E9 (hu pins s2 σ H2 _ I2 q2) λvu s3 ⟨u,H3,I3,pu,q3⟩=>?_);rw[evalPart_none];refine GN ?_;have I4:Inv X pins σ H3 {s3 with heap:=s3.heap.push {cls:= .type "slice",data:= .fields #[vl,vu,.none]}}:=I3.kept (t':=s3.toks) λb ob q=>GB _ q;obtain⟨T,id,hT,ht,hg⟩:=hr pins {s3 with heap:=s3.heap.push {cls:= .type "slice",data:= .fields #[vl,vu,.none]}} σ H3 x v vl vu l u s3.heap.objs.size Q I4 r1 (Heap.IsSliceOf.new ..) pl pu q3;show wpAny (model X.prog X.w) X.A (subscriptTail e (.Slice lo hi none p2) v (.ref s3.heap.objs.size)) (EP X pins σ Q) X.xe {s3 with heap:=s3.heap.push {cls:= .type "slice",data:= .fields #[vl,vu,.none]}};exact tail_any (ops:=[.ref s3.heap.objs.size,v]) ht hT hg (by with_unfolding_all rfl)
def cD (xs:List V)(lo hi:Option Int):List V:=(xs.drop (HT.sIx xs.length 0 lo)).take (HT.sIx xs.length xs.length hi -HT.sIx xs.length 0 lo)
theorem fI (xs:List V)(lo hi:Option Int):(cD xs lo hi).length<=xs.length:=by
 unfold cD;rw[GC,Jm];lia
def DH (K:Qc):V->Option Int->Option Int->Hp->VK->Prop:=λx lo hi H Q=>∃a xs,x= .ref a/\SqT K H a xs/\
 ¬(HT.sIx xs.length 0 lo=0/\HT.sIx xs.length xs.length hi=xs.length)/\∀p,H p=none->Q (.ref p) (p0 H p (.tup (cD xs lo hi)))
theorem sl_tup:SlR X (DH X.K):=by
 intro pins s σ H x v vl vu lo hi sl Q I rx hs pl pu h;obtain⟨a,xs,rfl,hx,hw,q⟩:=h;cases rx;obtain⟨a_,r,ht,hz⟩:=I.tuple hx;have hlen:a_.toArray.size=xs.length:=by rw[Hd];exact r.length.symm
 refine⟨"tuple",_,IV.lookup,ht.typeIs,?_⟩;refine HT.getItem_tuple_cut ht hs pl pu (by rw[hlen];exact hw) ?_ (by rw[hlen];exact hz);rw[hlen];refine⟨.ref s.heap.objs.size,_,I.laid (t':=s.toks) (o:= .tup (cD xs lo hi)) (λb ob q=>GB _ q) (Gv _) ?_,rfl,q _ (I.hok.fresh (Gv _))⟩;exact⟨He (fI xs lo hi) hz,_,(r.drop (HT.sIx xs.length 0 lo)).take (HT.sIx xs.length xs.length hi -HT.sIx xs.length 0 lo),IsTup.new _ _⟩
def zj (K:Qc):R2:=λx y H Q=>∃a b xs ys,x= .ref a/\y= .ref b/\SqT K H a xs/\SqT K H b ys/\xs≠[]/\xs.length+ys.length<=sizeLine/\
 (ys=[]->Q (.ref a) H)/\(ys≠[]->∀p,H p=none->Q (.ref p) (p0 H p (.tup (xs++ys))))
theorem Vals.nil_iff {xs:List V}{us:List Value}(r:Vals xs us):us=[]↔xs=[]:=by
 cases r with
 |nil=>simp
 |cons _ _=>simp
theorem xG:OpR X (binaryOp .Add) (zj X.K):=by
 intro pins s σ H x y v u Q I rx ry h;obtain⟨a,b,xs,ys,rfl,rfl,ha,hb,hx,hz,q1,q2⟩:=h;cases rx;cases ry;obtain⟨a_,r1,p1,_⟩:=I.tuple ha;obtain⟨OP,r2,p2,_⟩:=I.tuple hb;refine HT.cat_tup p1 p2 (λz=>hx (r1.nil_iff.mp z)) (λz=>⟨.ref a,H,I,rfl,q1 (r2.nil_iff.mp z)⟩) (λz=>?_) (by rw[←r1.length,←r2.length];exact hz);refine⟨.ref s.heap.objs.size,_,I.laid (t':=s.toks) (o:= .tup (xs++ys)) (λb ob q=>GB _ q) (Gv _) ?_,rfl,q2 (λw=>z (r2.nil_iff.mpr w)) _ (I.hok.fresh (Gv _))⟩;exact⟨by rw[GF];exact hz,_,r1.append r2,IsTup.new _ _⟩
end
def yu (n:Nat)(i:Int):Option Nat:=if 0<=i then(if i<n then some i.toNat else none) else if -(n:Int)<=i then some (i+n).toNat else none
def gM {α:Type}(xs:List α)(i:Int):Option α:=(yu xs.length i).bind λj=>xs[j]?
theorem qz {n:Nat}{i:Int}{j:Nat}(h:yu n i=some j):seqIndex? i n=some j/\j<n/\-(n:Int)<=i/\i<n:=by
 unfold yu at h;by_cases h0:0<=i
 .rw[if_pos h0] at h;by_cases h1:i<n
  .rw[if_pos h1] at h;have e:i.toNat=j:=GL h;exact⟨by rw[seqIndex_of h0 h1,e],by lia,by lia,h1⟩
  .rw[if_neg h1] at h;cases h
 .rw[if_neg h0] at h;by_cases h1: -(n:Int)<=i
  .rw[if_pos h1] at h;have e:(i+n).toNat=j:=GL h;exact⟨by rw[seqIndex_neg (by lia) h1,e],by lia,h1,by lia⟩
  .rw[if_neg h1] at h;cases h
theorem kl {α:Type}{xs:List α}{i:Int}{v:α}(h:gM xs i=some v):∃j,seqIndex? i xs.length=some j/\xs[j]?=some v/\j<xs.length/\-(xs.length:Int)<=i/\i<xs.length:=by
 unfold gM at h;cases e:yu xs.length i with
 |none=>rw[e] at h;cases h
 |some j=>
  rw[e] at h
  obtain⟨h1,h2,h3,h4⟩:=qz e
  exact⟨j,h1,h,h2,h3,h4⟩
theorem b5 {α:Type}{xs:List α}{j:Nat}{v:α}(h:xs[j]?=some v):gM xs (j:Int)=some v:=by
 have hj:j<xs.length:=(Ie.mp h).1;have e:yu xs.length (j:Int)=some j:=by
  unfold yu;rw[if_pos (by lia),if_pos (by lia)];simp
 unfold gM;rw[e];exact h
def qQ (b:Expr):Prop:=∀o i,subscripted b false o i=operate [o,i] (getItem o i)
def IxR (X:Cx)(r:R2):Prop:=
 ∀(value slice:Expr) (pins:List (Addr×Obj)) (s:Shared) (σ:St) (H:Hp) (x y:V) (v u:Value) (Q:VK),Inv X pins σ H s->RelV x v->RelV y u->r x y H Q->
  subscripted slice false v u=operate [v,u] (getItem v u)->wpAny (model X.prog X.w) X.A (subscriptTail value slice v u) (EP X pins σ Q) X.xe s
def uO (X:Cx)(id:String)(r:V->List V->Hp->VK->Prop):Prop:=
 ∀(pins:List (Addr×Obj)) (s:Shared) (σ:St) (H:Hp) (x:V) (xs:List V) (v:Value) (us:List Value) (Q:VK),Inv X pins σ H s->RelV x v->Vals xs us->r x xs H Q->
  wpAny (model X.prog X.w) X.A (call (.builtin id) (v::us)) (EP X pins σ Q) X.xe s
section
variable {X:Cx} {a b:Expr} {ta tb:TE} {pos:Pos}
theorem IxR.or {r r':R2}(h:IxR X r)(h':IxR X r'):IxR X (λx y H Q=>r x y H Q\/r' x y H Q):=by
 intro value slice pins s σ H x y v u Q I rx ry q hs;rcases q with q|q
 .exact h value slice pins s σ H x y v u Q I rx ry q hs
 .exact h' value slice pins s σ H x y v u Q I rx ry q hs
theorem Cy {r:R2}(hr:IxR X r)(ha:PE X a ta)(hb:PE X b tb)(hs:qQ b):PE X (.Subscript a b pos) (xH r ta tb):=by
 intro pins s σ H Q I h;exact Subscript_ (BC ha hb I h λv u s2 x y H2 I2 rx ry q=>hr a b pins s2 σ H2 x y v u Q I2 rx ry q (hs _ _))
def DN (K:Qc):R2:=λx y H Q=>∃p xs i v,x= .ref p/\y= .int i/\SqL K H p xs/\gM xs i=some v/\Q v H
def Dz (K:Qc):R2:=λx y H Q=>∃p xs i v,x= .ref p/\y= .int i/\SqT K H p xs/\gM xs i=some v/\Q v H
def CZ:R2:=λx y H Q=>∃z i c,x= .str z/\y= .int i/\z.length<=sizeLine/\gM z.cps.toList i=some c/\Q (.str ⟨#[c]⟩) H
theorem ix_list:IxR X (DN X.K):=by
 intro value slice pins s σ H x y v u Q I rx ry h hs;obtain⟨p,xs,i,z,rfl,rfl,hq,he,q⟩:=h;cases rx;obtain⟨t,rfl⟩:=ry;obtain⟨a_,r,pl,hz⟩:=I.list hq;obtain⟨j,h1,h2,h3,h4,h5⟩:=kl he;obtain⟨w,ew,Nr⟩:=r.get h2;have hl:=r.length;have hn:=fj;have fin:EP X pins σ Q w s:=⟨z,H,I,Nr,q⟩
 by_cases h0:0<=i
 .have hj:i.toNat=j:=by
   rw[seqIndex_of h0 h5] at h1;exact GL h1
  exact item_listR pl.isList h0 (by lia) (by rw[hj];simpa using ew) fin hs
 .have hj:(i+(a_.toArray.size:Int)).toNat=j:=by
   rw[seqIndex_neg (by lia) h4] at h1;rw[Hd,←hl];exact GL h1
  exact subscriptTail_builtinR (x:=w) pl.isList.typeIs slot_list_getitem.lookup
   (wpAny_getItem_list_neg (Q:=λr s'=>r=w/\EP X pins σ Q r s') pl.isList (by lia) (by rw[Hd]<;>lia) (by lia) (by rw[hj];simpa using ew) ⟨rfl,fin⟩) hs
theorem ix_tup:IxR X (Dz X.K):=by
 intro value slice pins s σ H x y v u Q I rx ry h hs;obtain⟨p,xs,i,z,rfl,rfl,hq,he,q⟩:=h;cases rx;obtain⟨t,rfl⟩:=ry;obtain⟨a_,r,pl,hz⟩:=I.tuple hq;obtain⟨j,h1,h2,h3,h4,h5⟩:=kl he;obtain⟨w,ew,Nr⟩:=r.get h2;have hl:=r.length;have hn:=fj;have fin:EP X pins σ Q w s:=⟨z,H,I,Nr,q⟩
 exact subscriptTail_builtinR (x:=w) pl.typeIs slot_tuple_getitem.lookup
  (getItem_tuple (j:=j) (Q:=λr s'=>r=w/\EP X pins σ Q r s') pl (by lia) (by lia) (by rw[Hd,←hl];exact h1) (by simpa using ew) ⟨rfl,fin⟩) hs
theorem zw:IxR X CZ:=by
 intro value slice pins s σ H x y v u Q I rx ry h hs;obtain⟨z,i,c,rfl,rfl,hz,he,q⟩:=h;obtain⟨t,rfl⟩:=rx;obtain⟨t',rfl⟩:=ry;obtain⟨j,h1,h2,h3,h4,h5⟩:=kl he;have hl:z.cps.toList.length=z.length:=by simp [Str.length]
 rw[hl] at h1 h4 h5;have hn:=fj;exact tail_any (LS s z t) slot_str_getitem.lookup (getItem_str (c:=c) (by
  have e1:decide (i< -(2 ^ 63:Int))=false:=Hc (by lia);have e2:decide (i≥2 ^ 63)=false:=Hc (by lia);rw[e1,e2,Bool.or_false]) (by rw[h1];simpa using h2) ⟨.str ⟨#[c]⟩,H,I.tok _,⟨_,rfl⟩,q⟩) hs
def FI (K:Qc):R2:=λx y H Q=>DN K x y H Q\/Dz K x y H Q\/CZ x y H Q
theorem ix_seq:IxR X (FI X.K):=ix_list.or (ix_tup.or zw)
theorem oP (a_:List Value)(n j:Nat)(u:Value):Obj.mapSeq (·.setIfInBounds j u) {cls:= .type "list",data:= .seq a_.toArray n}={cls:= .type "list",data:= .seq (a_.set j u).toArray n}:=by
 simp [Obj.mapSeq]
theorem Inv.lst {pins:List (Addr×Obj)}{σ:St}{H:Hp}{s:Shared}{p:Addr}{xs:List V}(I:Inv X pins σ H s)(h:H p=some (.lst xs)):
  ∃(a_:List Value) (n:Nat),Vals xs a_/\s.heap.get? p=some {cls:= .type "list",data:= .seq a_.toArray n}/\xs.length<=sizeLine:=by
 obtain⟨z,a_,n,r,e⟩:=I.hok p _ h
 exact⟨a_,n,r,e,z⟩
theorem Inv.lstUpd {pins:List (Addr×Obj)}{σ:St}{H:Hp}{s:Shared}{p:Addr}{xs ys:List V}{a_ its':List Value}{n n':Nat}{f:Obj->Obj}(I:Inv X pins σ H s)(h:H p=some (.lst xs))
  (ho:s.heap.get? p=some {cls:= .type "list",data:= .seq a_.toArray n}) (hf:f {cls:= .type "list",data:= .seq a_.toArray n}={cls:= .type "list",data:= .seq its'.toArray n'}) (r:Vals ys its') (hz:ys.length<=sizeLine) (t:Nat):
  Inv X pins σ (p0 H p (.lst ys)) {s with heap:=s.heap.update p f,toks:=t}:=by
 have e:(s.heap.update p f).get? p=some {cls:= .type "list",data:= .seq its'.toArray n'}:=by
  rw[Heap.get?_update_self f ho (by rw[hf]<;>rfl),hf]
 refine I.write (x:=p) (e:=p) (by rw[h];trivial) (.inl rfl) (λb u hb q=>(Heap.get?_update_other _ _ (Io hb)).trans q) ⟨_,e⟩ ?_
 exact⟨hz,its',n',r,e⟩
def yX:V->V->V->Hp->(Hp->Prop)->Prop:=λo i v H Q=>∃p xs k j,o= .ref p/\i= .int k/\H p=some (.lst xs)/\yu xs.length k=some j/\Q (p0 H p (.lst (xs.set j v)))
theorem vm:sh X yX:=by
 intro pins s σ H o i v ov iv u Q I ro ri rv h;obtain⟨p,xs,k,j,rfl,rfl,hp,hj,q⟩:=h;cases ro;obtain⟨t,rfl⟩:=ri;obtain⟨a_,n,r,ho,hz⟩:=I.lst hp;obtain⟨h1,h2,h3,h4⟩:=qz hj;have hl:=r.length;have hn:=fj;have I':Inv X pins σ (p0 H p (.lst (xs.set j v))) {s with heap:=s.heap.update p (Obj.mapSeq (·.setIfInBounds j u))}:=
  I.lstUpd hp ho (oP a_ n j u) (r.set rv j) (by rw[List.length_set];exact hz) s.toks
 by_cases h0:0<=k
 .have hk:k.toNat=j:=by
   rw[seqIndex_of h0 h4] at h1;exact GL h1
  exact PySem.W.ki_setAt ho h0 (by lia) (by rw[Hd,←hl];exact h4) (by rw[hk];exact⟨_,I',q⟩)
 .have hk:(k+(a_.toArray.size:Int)).toNat=j:=by
   rw[seqIndex_neg (by lia) h3] at h1;rw[Hd,←hl];exact GL h1
  exact PySem.W.ki_setBack ho (by lia) (by rw[Hd,←hl];exact h3) (by lia) (by rw[hk];exact⟨_,I',q⟩)
theorem kY (lo hi:Option Int)(n:Nat):(sliceBounds lo hi none n).1=((HT.sIx n 0 lo:Nat):Int)/\(sliceBounds lo hi none n).2.1=((HT.sIx n n hi:Nat):Int)/\(sliceBounds lo hi none n).2.2=1:=by
 refine⟨?_,?_,rfl⟩
 .cases lo with
  |none=>simp [sliceBounds,HT.sIx]
  |some i=>
   simp only[sliceBounds,HT.sIx,Option.getD_none,show(1:Int)>0 by decide,ML]
   by_cases h:i<0
   .simp only[h,ML]<;>lia
   .simp only[h,LQ]<;>lia
 .cases hi with
  |none=>simp [sliceBounds,HT.sIx]
  |some i=>
   simp only[sliceBounds,HT.sIx,Option.getD_none,show(1:Int)>0 by decide,ML]
   by_cases h:i<0
   .simp only[h,ML]<;>lia
   .simp only[h,LQ]<;>lia
theorem iV (a_:List Value)(lo hi:Option Int):slicePick a_.toArray lo hi none=((a_.drop (HT.sIx a_.length 0 lo)).take (HT.sIx a_.length a_.length hi -HT.sIx a_.length 0 lo)).toArray:=by
 obtain⟨h1,h2,h3⟩:=kY lo hi a_.toArray.size;unfold slicePick;rw[h1,h2,h3];simp only[sliceRange_one,pick_run,Hd]<;>rfl
def Dw (K:Qc):V->Option Int->Option Int->Hp->VK->Prop:=λx lo hi H Q=>∃a xs,x= .ref a/\SqL K H a xs/\∀p,H p=none->Q (.ref p) (p0 H p (.lst (cD xs lo hi)))
theorem sl_list:SlR X (Dw X.K):=by
 intro pins s σ H x v vl vu lo hi sl Q I rx hs pl pu h;obtain⟨a,xs,rfl,hx,q⟩:=h;cases rx;obtain⟨a_,r,ht,hz⟩:=I.list hx;have hlen:=r.length;refine⟨"list",_,slot_list_getitem.lookup,ht.isList.typeIs,?_⟩;refine wpAny_getItem_list_slice ht.isList hs pl pu .none (by simp) ?_ (by rw[Hd]<;>lia);rw[iV,←hlen];refine⟨.ref s.heap.objs.size,_,I.laid (t':=s.toks) (o:= .lst (cD xs lo hi)) (λb ob q=>GB _ q) (Gv _) ?_,rfl,q _ (I.hok.fresh (Gv _))⟩;exact⟨He (fI xs lo hi) hz,_,0,(r.drop (HT.sIx xs.length 0 lo)).take (HT.sIx xs.length xs.length hi -HT.sIx xs.length 0 lo),GW _ rfl⟩
def E1:V->Bool
 | .non=>true
 | .bl _=>true
 | .int _=>true
 | .str _=>true
 |_=>false
def cG:V->V->Bool
 | .non,.non=>true
 | .bl a,.bl b=>a==b
 | .bl a,.int b=>(if a then 1 else 0)==b
 | .int a,.bl b=>a==(if b then 1 else 0)
 | .int a,.int b=>a==b
 | .str a,.str b=>a==b
 |_,_=>false
theorem aR {A:Around}{s:Shared}{y x:V}{u v:Value}(ry:RelV y u)(rx:RelV x v)(fy:E1 y=true)(fx:E1 x=true):SeqAt.EqAt A s u v (cG y x):=by
 cases y with
 |non=>
  cases ry
  cases x with
  |non=>cases rx;exact Jt _
  |bl b=>cases rx;exact SeqAt.EqAt.none_bool b
  |int b=>obtain⟨t,rfl⟩:=rx;exact SeqAt.EqAt.none_int b t
  |str b=>obtain⟨t,rfl⟩:=rx;exact SeqAt.EqAt.none_str b t
  |_=>exact absurd (show false=true from fx) Hi
 |bl a=>
  cases ry
  cases x with
  |non=>cases rx;exact SeqAt.EqAt.bool_none a
  |bl b=>cases rx;exact SeqAt.EqAt.bool_bool a b
  |int b=>obtain⟨t,rfl⟩:=rx;exact SeqAt.EqAt.bool_int a b t
  |str b=>obtain⟨t,rfl⟩:=rx;exact SeqAt.EqAt.bool_str a b t
  |_=>exact absurd (show false=true from fx) Hi
 |int a=>
  obtain⟨t',rfl⟩:=ry
  cases x with
  |non=>cases rx;exact SeqAt.EqAt.int_none a t'
  |bl b=>cases rx;exact SeqAt.EqAt.int_bool a t' b
  |int b=>obtain⟨t,rfl⟩:=rx;exact SeqAt.EqAt.int_int a t' b t
  |str b=>obtain⟨t,rfl⟩:=rx;exact Kz a t' b t
  |_=>exact absurd (show false=true from fx) Hi
 |str a=>
  obtain⟨t',rfl⟩:=ry
  cases x with
  |non=>cases rx;exact SeqAt.EqAt.str_none a t'
  |bl b=>cases rx;exact SeqAt.EqAt.str_bool a t' b
  |int b=>obtain⟨t,rfl⟩:=rx;exact KA a t' b t
  |str b=>obtain⟨t,rfl⟩:=rx;exact SeqAt.EqAt.str_str a t' b t
  |_=>exact absurd (show false=true from fx) Hi
 |_=>exact absurd (show false=true from fy) Hi
def oQ (x:V)(u:Value):Bool:=match u with
 | .none=>cG .non x
 | .bool b=>cG (.bl b) x
 | .int i _=>cG (.int i) x
 | .str z _=>cG (.str z) x
 |_=>false
theorem vD {x y:V}{u:Value}(r:RelV y u)(f:E1 y=true):oQ x u=cG y x:=by
 cases y with
 |non=>cases r;rfl
 |bl b=>cases r;rfl
 |int i=>obtain⟨t,rfl⟩:=r;rfl
 |str z=>obtain⟨t,rfl⟩:=r;rfl
 |_=>exact absurd (show false=true from f) Hi
theorem dw {x:V}:∀{xs:List V} {us:List Value},Vals xs us->xs.all E1=true->us.any (oQ x)=xs.any λy=>cG y x
 |_,_,.nil,_=>rfl
 |y::xs,u::us,.cons r t,f=>by
  rw[Jh,GP] at f;rw[Kq,Kq,vD r f.1,dw t f.2]
theorem aG {A:Around}{s:Shared}{x:V}{v:Value}(rx:RelV x v)(fx:E1 x=true):∀{xs:List V} {us:List Value},Vals xs us->xs.all E1=true->∀u∈us,SeqAt.EqAt A s u v (oQ x u)
 |_,_,.nil,_=>λu hu=>by cases hu
 |y::xs,u::us,.cons r t,f=>λu' hu=>by
  rw[Jh,GP] at f;rcases Hh.mp hu with rfl|hu
  .rw[vD r f.1];exact aR r rx f.1 fx
  .exact aG rx fx t f.2 u' hu
def Ci (x:V)(xs:List V):Bool:=xs.any λy=>cG y x
def Em (K:Qc)(neg:Bool):R2:=λx y H Q=>∃p xs,y= .ref p/\(SqL K H p xs\/SqT K H p xs)/\E1 x=true/\xs.all E1=true/\Q (.bl (if neg then !Ci x xs else Ci x xs)) H
theorem op_in_seq:OpR X (compareOp .In) (Em X.K false):=by
 intro pins s σ H x y v u Q I rx ry h;obtain⟨p,xs,rfl,hq,fx,fs,q⟩:=h;cases ry;rcases hq with hq|hq
 .obtain⟨a_,r,pl,hz⟩:=I.list hq;refine SeqAt.in_listAt (oQ x) pl.isList (λw hw=>aG rx fx r fs w (by simpa using hw)) ⟨.bl _,H,I,rfl,?_⟩;rw[show a_.toArray.any (oQ x)=a_.any (oQ x) by simp,dw r fs];exact q
 .obtain⟨a_,r,pl,hz⟩:=I.tuple hq;refine SeqAt.in_tupleAt (oQ x) pl (λw hw=>aG rx fx r fs w (by simpa using hw)) ⟨.bl _,H,I,rfl,?_⟩;rw[show a_.toArray.any (oQ x)=a_.any (oQ x) by simp,dw r fs];exact q
theorem op_notIn_seq:OpR X (compareOp .NotIn) (Em X.K true):=by
 intro pins s σ H x y v u Q I rx ry h;obtain⟨p,xs,rfl,hq,fx,fs,q⟩:=h;cases ry;rcases hq with hq|hq
 .obtain⟨a_,r,pl,hz⟩:=I.list hq;refine SeqAt.notIn_listAt (oQ x) pl.isList (λw hw=>aG rx fx r fs w (by simpa using hw)) ⟨.bl _,H,I,rfl,?_⟩;rw[show a_.toArray.any (oQ x)=a_.any (oQ x) by simp,dw r fs];exact q
 .obtain⟨a_,r,pl,hz⟩:=I.tuple hq;refine SeqAt.notIn_tupleAt (oQ x) pl (λw hw=>aG rx fx r fs w (by simpa using hw)) ⟨.bl _,H,I,rfl,?_⟩;rw[show a_.toArray.any (oQ x)=a_.any (oQ x) by simp,dw r fs];exact q
theorem kX:OpR X (compareOp .NotIn) (λx y H Q=>∃i j,x= .str i/\y= .str j/\Q (.bl (!(!(Builtin.Str.occurrences j i 0 j.length 1).isEmpty))) H):=by
 intro pins s σ H x y v u Q I rx ry h;obtain⟨i,j,rfl,rfl,q⟩:=h;obtain⟨t,rfl⟩:=rx;obtain⟨t',rfl⟩:=ry;exact notIn_str ⟨.bl _,H,I,rfl,q⟩
theorem CallR.or {f:Value}{r r':List V->Hp->VK->Prop}(h:CallR X f r)(h':CallR X f r'):CallR X f (λxs H Q=>r xs H Q\/r' xs H Q):=by
 intro pins s σ H xs us Q I rs q;rcases q with q|q
 .exact h pins s σ H xs us Q I rs q
 .exact h' pins s σ H xs us Q I rs q
theorem call_list_of:CallR X (.type "list") (λxs H Q=>∃p ys,xs=[.ref p]/\(SqL X.K H p ys\/SqT X.K H p ys)/\∀l,H l=none->Q (.ref l) (p0 H l (.lst ys))):=by
 intro pins s σ H xs us Q I r h;obtain⟨p,ys,rfl,hq,q⟩:=h;obtain⟨u,rfl,rx⟩:=G6 r;cases rx;have fin:∀(a_:List Value),Vals ys a_->ys.length<=sizeLine->∀(h':Heap) (c':Nat),(∀b o',s.heap.get? b=some o'->h'.get? b=some o')->
   h'.get? s.heap.objs.size=some {cls:= .type "list",dict:=none,data:= .seq a_.toArray c',slots:= #[]}->EP X pins σ Q (.ref s.heap.objs.size) {s with heap:=h'}:=λa_ r' hz h' c' kp e=>
  ⟨.ref s.heap.objs.size,_,I.laid (t':=s.toks) kp (Gv _) (show ObjOk X.prog X.w _ h' _ (.lst ys) from⟨hz,a_,c',r',e⟩),rfl,q _ (I.hok.fresh (Gv _))⟩
 rcases hq with hq|hq
 .obtain⟨a_,r',pl,hz⟩:=I.list hq;have hlen:=r'.length;obtain⟨o,ho,hc,n,hd⟩:=pl.isList;exact call_list_seq p (.inl rfl) ho hc hd (λh' c' kp e=>fin a_ r' hz h' c' kp e) (by simp only[Hd]<;>lia)
 .obtain⟨a_,r',pl,hz⟩:=I.tuple hq;have hlen:=r'.length;obtain⟨o,ho,hc,n,hd⟩:=pl;exact call_list_seq p (.inr rfl) ho hc hd (λh' c' kp e=>fin a_ r' hz h' c' kp e) (by simp only[Hd]<;>lia)
def Dy (K:Qc)(T:String)(x:V)(H:Hp):Prop:=match x with
 | .str _=>T="str"
 | .int _=>T="int"
 | .ref p=>(T="list"/\∃xs,SqL K H p xs)\/(T="tuple"/\∃o,K.lookup p=some o/\o.cls= .type "tuple"/\o.dict=none)\/
   (T="dict"/\((∃kvs,H p=some (.dK kvs))\/∃kvs,H p=some (.dT kvs)))\/(T="set"/\∃S n,H p=some (.set S n))
 |_=>False
theorem tL {pins:List (Addr×Obj)}{σ:St}{H:Hp}{s:Shared}{T:String}{x:V}{v:Value}(I:Inv X pins σ H s)(r:RelV x v)(ty:Dy X.K T x H):
  s.TypeIs v T/\∀a,v= .ref a->∃ob,s.heap.get? a=some ob/\ob.dict=none:=by
 cases x with
 |str z=>
  obtain⟨t,rfl⟩:=r
  cases (show T="str" from ty)
  exact⟨LS s z t,λ_ e=>nomatch e⟩
 |int i=>
  obtain⟨t,rfl⟩:=r
  cases (show T="int" from ty)
  exact⟨typeIs_int s i t,λ_ e=>nomatch e⟩
 |ref p=>
  cases r
  rcases ty with⟨rfl,xs,hq⟩|⟨rfl,o,hk,hc,hd⟩|⟨rfl,hk⟩|⟨rfl,S,n,hk⟩
  .obtain⟨a_,_,pl,_⟩:=I.list hq
   refine⟨pl.isList.typeIs,λa e=>?_⟩
   cases e
   obtain⟨o,n,e,c,hd,_⟩:=pl
   exact⟨o,e,hd⟩
  .refine⟨⟨o,I.kIn p o hk,hc⟩,λa e=>?_⟩
   cases e
   exact⟨o,I.kIn _ o hk,hd⟩
  .have z:∃o,s.heap.get? p=some o/\o.ExactDict:=by
    rcases hk with⟨kvs,hk⟩|⟨kvs,hk⟩
    .obtain⟨_,_,_,_,o,_,_,e,ex,_⟩:=I.hok p _ hk;exact⟨o,e,ex⟩
    .obtain⟨_,_,_,_,o,_,_,e,ex,_⟩:=I.hok p _ hk;exact⟨o,e,ex⟩
   obtain⟨o,e,ex⟩:=z
   refine⟨⟨o,e,ex.1⟩,λa e2=>?_⟩
   cases e2
   exact⟨o,e,ex.2.1⟩
  .obtain⟨o,_,_,_,e,ex,_⟩:=I.hok p _ hk
   refine⟨⟨o,e,ex.1⟩,λa e2=>?_⟩
   cases e2
   exact⟨o,e,ex.2.1⟩
 |_=>exact False.elim ty
def BA (K:Qc)(T:String)(r:V->List V->Hp->VK->Prop)(to:TE):TE:=λσ H Q=>to σ H λx H1=>Dy K T x H1/\r x [] H1 Q
def EX (K:Qc)(T:String)(r:V->List V->Hp->VK->Prop)(to:TE)(t:TA):TE:=λσ H Q=>to σ H λx H1=>Dy K T x H1/\t σ H1 λxs H2=>r x xs H2 Q
variable {o e:Expr} {es:List Expr} {to:TE} {t:TA} {name:Str} {apos b_:Pos} {T id:String} {r:V->List V->Hp->VK->Prop}
theorem zO (pa:PlainAttrs T)(slot:Slot T name id)(N_:typeOf (.builtin id)=pure (.type "method_descriptor"))(hm:uO X id r)(ho:PE X o to)
  (g_:attributeBase o name X.env (eval o X.env)=eval o X.env:=by rfl) (h_:(apos.endLine==b_.line)=true:=by rfl):PE X (.Call (.Attribute o name apos) [] [] b_) (BA X.K T r to):=by
 intro pins s σ H Q I h
 refine JS g_ h_ (E9 (ho pins s σ H _ I h) λv s1 ⟨x,H1,I1,r1,ty,q1⟩=>?_)
 obtain⟨h1,h2⟩:=tL I1 r1 ty
 exact⟨T,id,pa,slot,N_,h1,h2,Im rfl (Kt (hm pins s1 σ H1 x [] v [] Q I1 r1 .nil q1))⟩
theorem Eb (pa:PlainAttrs T)(slot:Slot T name id)(N_:typeOf (.builtin id)=pure (.type "method_descriptor"))(hm:uO X id r)(ho:PE X o to)(ha:PA X (e::es) t)
  (g_:attributeBase o name X.env (eval o X.env)=eval o X.env:=by rfl)
  (SV:((backTo b_ (starEach (e::es) X.env)).all (λx=>!x.1)&&(backToKw b_ (keywordEach [] X.env)).all (λx=>x.1.isSome)
   &&decide ((e::es).length+([]:List Keyword).length+(if([]:List Keyword).isEmpty then 0 else 1)<30))=true:=by rfl)
  (h_:(apos.endLine==b_.line)=true:=by rfl) (hs:starEach (e::es) X.env=(false,eval e X.env)::starEach es X.env:=by rfl) (OQ:(backTo b_ (starEach es X.env)).any (·.1)=false:=by rfl):
  PE X (.Call (.Attribute o name apos) (e::es) [] b_) (EX X.K T r to t):=by
 intro pins s σ H Q I h
 refine wpAny_Call_method_late g_ SV h_ rfl (E9 (ho pins s σ H _ I h) λv s1 ⟨x,H1,I1,r1,ty,q1⟩=>?_)
 obtain⟨h1,h2⟩:=tL I1 r1 ty
 refine⟨T,id,pa,slot,N_,h1,h2,?_⟩
 have hA:=ha b_ pins s1 σ H1 _ I1 q1
 rw[hs] at hA⊢
 refine Im (by show(false||(backTo b_ (starEach es X.env)).any (·.1))=false;rw[OQ]<;>rfl) (JB ?_)
 exact E9 hA λus s2 ⟨vs,H2,I2,r2,q2⟩=>hm pins s2 σ H2 x vs v us Q I2 r1 r2 q2
end
def FH (X:Cx)(id:String)(r:V->List V->Hp->VK->Prop):Prop:=
 ∀(pins:List (Addr×Obj)) (s:Shared) (σ:St) (H:Hp) (x:V) (xs:List V) (v:Value) (us:List Value) (Q:VK),Inv X pins σ H s->RelV x v->Vals xs us->r x xs H Q->
  wpAny (model X.prog X.w) X.A (call (.builtin id) (v::us)) (EP X pins σ Q) X.xe s
theorem Vals.one:∀{x:V} {us:List Value},Vals [x] us->∃u,us=[u]/\RelV x u
 |_,_,.cons r .nil=>⟨_,rfl,r⟩
theorem Vals.zero:∀{us:List Value},Vals [] us->us=[]
 |_,.nil=>rfl
theorem Vals.dropLast {xs:List V}{us:List Value}(h:Vals xs us):Vals xs.dropLast us.dropLast:=by
 induction h with
 |nil=>exact .nil
 |cons r t ih=>
  cases t with
  |nil=>exact .nil
  |cons q t'=>exact .cons r ih
theorem oG {α:Type}(l:List α):l.eraseIdx (l.length -1)=l.dropLast:=by
 induction l with
 |nil=>rfl
 |cons a r ih=>
  cases r with
  |nil=>rfl
  |cons b r=>
   have e:(a::b::r).length -1=((b::r).length -1)+1:=by
    have h1:(a::b::r).length=r.length+2:=rfl;have h2:(b::r).length=r.length+1:=rfl;lia
   rw[e,List.eraseIdx_cons_succ,ih]
   all_goals rfl
section
variable {X:Cx} {pins:List (Addr×Obj)} {σ:St} {H:Hp} {s:Shared} {l b:Addr} {xs ys zs:List V}
theorem Inv.lset {a_ its':List Value}{n:Nat}{f:Array Value->Array Value}{t':Nat}(I:Inv X pins σ H s)(hH:H l=some (.lst xs))
  (e:s.heap.get? l=some {cls:= .type "list",data:= .seq a_.toArray n}) (hf:f a_.toArray=its'.toArray) (hv:Vals ys its') (hz:ys.length<=sizeLine):
  Inv X pins σ (p0 H l (.lst ys)) {s with heap:=s.heap.update l (Obj.mapSeq f),toks:=t'}:=by
 have q:=PySem.IsL.update e f
 rw[hf] at q
 refine I.write (x:=l) (e:=l) (by rw[hH];exact trivial) (.inl rfl) (λb' u hb hu=>(Heap.get?_update_other s.heap (Obj.mapSeq f) (Io hb)).trans hu) ⟨_,q⟩ ?_
 exact⟨hz,its',_,hv,q⟩
theorem Inv.lnew {a_:List Value}{t':Nat}(I:Inv X pins σ H s)(hv:Vals ys a_)(hz:ys.length<=sizeLine):
  Inv X pins σ (p0 H s.heap.objs.size (.lst ys)) {s with heap:=s.heap.push {cls:= .type "list",data:= .seq a_.toArray},toks:=t'}:=
 I.laid (λ_ _ q=>GB _ q) (Gv _) ⟨hz,a_,0,hv,GW _ rfl⟩
theorem Inv.fresh (I:Inv X pins σ H s):H s.heap.objs.size=none:=I.hok.fresh (Gv _)
theorem Inv.lstM (I:Inv X pins σ H s)(hH:H l=some (.lst xs)):xs.length<=sizeLine/\∃(a_:List Value) (n:Nat),Vals xs a_/\xs.length=a_.length/\s.heap.get? l=some {cls:= .type "list",data:= .seq a_.toArray n}:=by
 obtain⟨z,a_,n,r,e⟩:=I.hok l _ hH;exact⟨z,a_,n,r,r.length,e⟩
end
section
variable {X:Cx}
def qr:V->List V->Hp->VK->Prop:=λx vs H Q=>∃l xs y,x= .ref l/\vs=[y]/\H l=some (.lst xs)/\xs.length<sizeLine/\Q .non (p0 H l (.lst (xs++[y])))
theorem tG:FH X "list.append" qr:=by
 intro pins s σ H x vs v us Q I rx rv h;obtain⟨l,xs,y,rfl,rfl,hH,hz,q⟩:=h;cases rx;obtain⟨u,rfl,ru⟩:=rv.one;obtain⟨z,a_,n,r,hl,e⟩:=I.lstM hH;refine LU F.slot_list_append ⟨_,e,rfl⟩ F.entry_list_append (F.args_list_append_2 _ _) (PySem.list_append l a_.toArray n u (by rw[Hd];lia)) ⟨e,?_⟩;refine⟨.non,_,I.lset (its':=a_++[u]) hH e (by simp) (r.append (.cons ru .nil)) ?_,rfl,q⟩;rw[GF,Hb];lia
def CO:V->List V->Hp->VK->Prop:=λx vs H Q=>∃l xs y,x= .ref l/\vs=[]/\H l=some (.lst xs)/\xs[xs.length -1]?=some y/\Q y (p0 H l (.lst xs.dropLast))
theorem zL:FH X "list.pop" CO:=by
 intro pins s σ H x vs v us Q I rx rv h;obtain⟨l,xs,y,rfl,rfl,hH,hy,q⟩:=h;cases rx;have SW:=rv.zero;subst SW;obtain⟨z,a_,n,r,hl,e⟩:=I.lstM hH;obtain⟨u,hu,ru⟩:=r.get hy;have RW:a_.toArray[a_.toArray.size -1]?=some u:=by
  show a_.toArray[a_.length -1]?=some u;rw[←Ju,←hl];exact hu
 refine LU F.slot_list_pop ⟨_,e,rfl⟩ F.entry_list_pop (F.args_list_pop_1 _) (MeetsSeq.list_pop_last l a_.toArray n u RW (by rw[Hd];lia)) ⟨e,?_⟩;refine⟨y,_,I.lset (its':=a_.dropLast) hH e ?_ r.dropLast ?_,ru,q⟩
 .show a_.toArray.eraseIdxIfInBounds (a_.toArray.size -1)=a_.dropLast.toArray;rw[Hd,List.eraseIdxIfInBounds_toArray,oG]
 .rw[List.length_dropLast];lia
def BR:R2:=λx y H Q=>∃l b xs zs,x= .ref l/\y= .ref b/\H l=some (.lst xs)/\H b=some (.lst zs)/\xs.length+zs.length<=sizeLine/\∀p,H p=none->Q (.ref p) (p0 H p (.lst (xs++zs)))
theorem op_cat:OpR X (binaryOp .Add) BR:=by
 intro pins s σ H x y v u Q I rx ry h;obtain⟨l,b,xs,zs,rfl,rfl,hH,hB,hz,q⟩:=h;cases rx;cases ry;obtain⟨z,a_,n,r,hl,e⟩:=I.lstM hH;obtain⟨z2,OP,n2,r2,Nm,e2⟩:=I.lstM hB;refine PySem.P.add_list e e2 ?_ (by rw[Hd,Hd];lia);have ea:a_.toArray++OP.toArray=(a_++OP).toArray:=by simp
 rw[ea];exact⟨.ref _,_,I.lnew (t':=s.toks) (r.append r2) (by rw[GF];lia),rfl,q _ I.fresh⟩
end
section
variable {prog:Program} {w:World} {A:Around} {E:Value->Shared->Prop} {s:Shared}
end
section
variable {X:Cx}
end
section
variable {κ:Type} [DecidableEq κ]
def p8 (kvs:List (κ×V))(k:κ):Option V:=(kvs.find? λkv=>decide (kv.1=k)).map (·.2)
def B9 (kvs:List (κ×V))(k:κ)(v:V):List (κ×V):=
 if(kvs.any λkv=>decide (kv.1=k))=true then kvs.map (λkv=>if kv.1=k then(kv.1,v) else kv) else kvs++[(k,v)]
theorem C1 {p:κ×V}{r:List (κ×V)}{k:κ}(e:p.1=k):p8 (p::r) k=some p.2:=by simp [p8,Jv,e]
theorem C0 {p:κ×V}{r:List (κ×V)}{k:κ}(e:¬p.1=k):p8 (p::r) k=p8 r k:=by simp [p8,Jv,e]
theorem G9 (k:κ):∀kvs:List (κ×V),(kvs.any λkv=>decide (kv.1=k))=(p8 kvs k).isSome
 |[]=>rfl
 |p::r=>by
  rw[Kq];by_cases e:p.1=k
  .simp only[C1 e,Hf e,Bool.true_or,Option.isSome_some]
  .rw[C0 e,Hc e,Bool.false_or];exact G9 k r
theorem ml (k j:κ)(y:V):∀kvs:List (κ×V),p8 (kvs.map λkv=>if kv.1=k then(kv.1,y) else kv) j=(p8 kvs j).map λx=>if j=k then y else x
 |[]=>rfl
 |p::r=>by
  have ih:=ml k j y r;rw[Hu];by_cases h:p.1=k
  .rw[if_pos h];by_cases e:p.1=j
   .rw[C1 (p:=(p.1,y)) e,C1 e,IX,if_pos (e.symm.trans h)]
   .rw[C0 (p:=(p.1,y)) e,C0 e,ih]
  .rw[if_neg h];by_cases e:p.1=j
   .rw[C1 (p:=p) e,C1 e,IX,if_neg (λz=>h (e.trans z))]
   .rw[C0 (p:=p) e,C0 e,ih]
theorem jJ (k j:κ)(y:V):∀kvs:List (κ×V),p8 kvs k=none->p8 (kvs++[(k,y)]) j=if j=k then some y else p8 kvs j
 |[],_=>by
  by_cases e:k=j
  .rw[if_pos e.symm];exact C1 (p:=(k,y)) e
  .rw[if_neg (λz=>e z.symm)];exact C0 (p:=(k,y)) e
 |p::r,hn=>by
  rw[Lm];have hk:¬p.1=k:=λz=>by rw[C1 z] at hn;cases hn
  rw[C0 hk] at hn;have ih:=jJ k j y r hn;by_cases e:p.1=j
  .rw[C1 e,C1 e,if_neg (λz=>hk (e.trans z))]
  .rw[C0 e,C0 e,ih]
theorem G1 (kvs:List (κ×V))(k j:κ)(y:V):p8 (B9 kvs k y) j=if j=k then some y else p8 kvs j:=by
 unfold B9;by_cases a:(kvs.any λkv=>decide (kv.1=k))=true
 .rw[if_pos a,ml];rw[G9] at a;by_cases e:j=k
  .obtain⟨x,hx⟩:=KR.mp a;rw[if_pos e,e,hx,IX,if_pos rfl]
  .rw[if_neg e];cases p8 kvs j with
   |none=>rfl
   |some x=>rw[IX,if_neg e]
 .rw[if_neg a];refine jJ k j y kvs ?_;rw[G9] at a;cases q:p8 kvs k with
  |none=>rfl
  |some x=>rw[q] at a;exact(a rfl).elim
theorem F5 (kvs:List (κ×V))(k:κ)(v:V):(B9 kvs k v).length<=kvs.length+1:=by
 unfold B9;split
 .rw[Gs];lia
 .rw[GF,HF,JT];lia
theorem E8 {kvs:List (κ×V)}{k:κ}(v:V)(h:p8 kvs k=none):B9 kvs k v=kvs++[(k,v)]:=by
 unfold B9;rw[G9,h];exact if_neg (by decide)
theorem RelO.isSome_eq {o:Option V}{u:Option Value}(r:RelO o u):o.isSome=u.isSome:=by
 cases o with
 |none=>cases u with
  |none=>rfl
  |some _=>exact(show False from r).elim
 |some _=>cases u with
  |none=>exact(show False from r).elim
  |some _=>rfl
theorem RelO.getD {o:Option V}{u:Option Value}{d:V}{d':Value}(r:RelO o u)(rd:RelV d d'):RelV (o.getD d) (u.getD d'):=by
 cases o with
 |none=>cases u with
  |none=>exact rd
  |some _=>exact(show False from r).elim
 |some _=>cases u with
  |none=>exact(show False from r).elim
  |some _=>exact r
theorem KV.val {kvs:List (κ×V)}{vs:List (κ×Value)}(r:KV kvs vs)(k:κ):RelO (p8 kvs k) (valueAt vs k):=by
 unfold KV at r;induction r with
 |nil=>exact True.intro
 | @cons p q ps qs h t ih=>
  obtain⟨h1,h2⟩:=h
  by_cases e:p.1=k
  .have e':q.1=k:=h1.symm.trans e
   have b:valueAt (q::qs) k=some q.2:=by simp [valueAt,Jv,e']
   rw[C1 e,b];exact h2
  .have e':¬q.1=k:=λz=>e (h1.trans z)
   have b:valueAt (q::qs) k=valueAt qs k:=by simp [valueAt,Jv,e']
   rw[C0 e,b];exact ih
theorem KV.any {kvs:List (κ×V)}{vs:List (κ×Value)}(r:KV kvs vs)(k:κ):(kvs.any λkv=>decide (kv.1=k))=vs.any λkv=>decide (kv.1=k):=by
 unfold KV at r;induction r with
 |nil=>rfl
 |cons h t ih=>rw[Kq,Kq,ih,h.1]
theorem KV.repl {kvs:List (κ×V)}{vs:List (κ×Value)}(r:KV kvs vs)(k:κ){y:V}{u:Value}(ry:RelV y u):
  KV (kvs.map λkv=>if kv.1=k then(kv.1,y) else kv) (vs.map λkv=>if kv.1=k then(kv.1,u) else kv):=by
 unfold KV at r⊢
 induction r with
 |nil=>exact .nil
 | @cons p q ps qs h t ih=>
  rw[Hu,Hu]
  refine .cons ?_ ih
  obtain⟨h1,h2⟩:=h
  by_cases e:p.1=k
  .rw[if_pos e,if_pos (h1.symm.trans e)];exact⟨h1,ry⟩
  .rw[if_neg e,if_neg (λz=>e (h1.trans z))];exact⟨h1,h2⟩
theorem KV.put {kvs:List (κ×V)}{vs:List (κ×Value)}(r:KV kvs vs)(k:κ){y:V}{u:Value}(ry:RelV y u):KV (B9 kvs k y) (stored vs k u):=by
 unfold B9 stored;rw[r.any k];by_cases e:(vs.any λkv=>decide (kv.1=k))=true
 .rw[if_pos e,if_pos e];exact r.repl k ry
 .rw[if_neg e,if_neg e];exact Paired.snoc r ⟨rfl,ry⟩
theorem KV.keys {kvs:List (κ×V)}{vs:List (κ×Value)}(r:KV kvs vs):kvs.map (·.1)=vs.map (·.1):=by
 unfold KV at r;induction r with
 |nil=>rfl
 |cons h t ih=>rw[Hu,Hu,ih,h.1]
theorem KV.length {kvs:List (κ×V)}{vs:List (κ×Value)}(r:KV kvs vs):kvs.length=vs.length:=Hn r
end
theorem dj {P:Program}{w:World}{k:j0}{u:Value}(r:RelV (kV k) u):(k7 P w).is k u=true:=by
 cases k with
 |inl i=>obtain⟨t,e⟩:=(show ∃t,u=Value.int i t from r);subst e;exact nj P w i t
 |inr x=>obtain⟨t,e⟩:=(show ∃t,u=Value.str x t from r);subst e;exact ny P w x t
theorem jy {P:Program}{w:World}:∀{ks:List j0} {us:List Value},Vals (ks.map kV) us->ItemsAre (k7 P w) ks us
 |[],_,r=>by rw[KI] at r;cases r;exact .nil
 |k::ks,_,r=>by
  rw[Hu] at r;cases r with
  |cons h t=>exact .cons (dj h) (jy t)
abbrev KT (H:Hp):List (List j0×V)->List (List j0×Addr×Value)->Prop:=Paired λp q=>p.1=q.1/\H q.2.1=some (.tup (p.1.map kV))/\RelV p.2 q.2.2
theorem KT.val {H:Hp}{kvs:List (List j0×V)}{xs:List (List j0×Addr×Value)}(r:KT H kvs xs)(k:List j0):RelO (p8 kvs k) ((atKey xs k).map (·.2)):=by
 induction r with
 |nil=>exact True.intro
 | @cons p q ps qs h t ih=>
  obtain⟨h1,_,h2⟩:=h
  by_cases e:p.1=k
  .have e':q.1=k:=h1.symm.trans e
   have b:atKey (q::qs) k=some q.2:=by simp [atKey,Jv,e']
   rw[C1 e,b];exact h2
  .have e':¬q.1=k:=λz=>e (h1.trans z)
   have b:atKey (q::qs) k=atKey qs k:=by simp [atKey,Jv,e']
   rw[C0 e,b];exact ih
theorem KT.repl {H:Hp}{kvs:List (List j0×V)}{xs:List (List j0×Addr×Value)}(r:KT H kvs xs)(k:List j0){y:V}{u:Value}(ry:RelV y u):
  KT H (kvs.map λkv=>if kv.1=k then(kv.1,y) else kv) (xs.map (putAt k u)):=by
 induction r with
 |nil=>exact .nil
 | @cons p q ps qs h t ih=>
  rw[Hu,Hu]
  refine .cons ?_ ih
  obtain⟨h1,h2,h3⟩:=h
  unfold putAt
  by_cases e:p.1=k
  .rw[if_pos e,if_pos (h1.symm.trans e)];exact⟨h1,h2,ry⟩
  .rw[if_neg e,if_neg (λz=>e (h1.trans z))];exact⟨h1,h2,h3⟩
theorem KT.put {H:Hp}{kvs:List (List j0×V)}{xs:List (List j0×Addr×Value)}(r:KT H kvs xs)(k:List j0){b:Addr}{y:V}{u:Value}(hb:H b=some (.tup (k.map kV)))(ry:RelV y u):
  KT H (B9 kvs k y) (storedH xs k b u):=by
 have e:(kvs.any λkv=>decide (kv.1=k))=(atKey xs k).isSome:=by
  rw[G9,(r.val k).isSome_eq,KU]
 unfold B9 storedH
 rw[e]
 by_cases q:(atKey xs k).isSome=true
 .rw[if_pos q,if_pos q];exact r.repl k ry
 .rw[if_neg q,if_neg q];exact Paired.snoc r ⟨rfl,hb,ry⟩
theorem KT.keeps {H H':Hp}{kvs:List (List j0×V)}{xs:List (List j0×Addr×Value)}(r:KT H kvs xs)(ht:∀b ys,H b=some (.tup ys)->H' b=some (.tup ys)):KT H' kvs xs:=
 Paired.mapP r λ_ _ z=>⟨z.1,ht _ _ z.2.1,z.2.2⟩
section
variable {P:Program} {w:World} {H:Hp} {h:Heap} {a:Addr}
theorem zc {u:HO}(ok:HOk P w H h)(e:Rd H a u):ObjOk P w H h a u:=e.ok ok
theorem M4 {kvs:List (j0×V)}(ok:HOk P w H h)(e:Rd H a (.dK kvs)):kvs.length<=sizeLine/\(a==sysModules)=false/\∃vs,KV kvs vs/\h.DictOf (k7 P w) a vs:=
 show ObjOk P w H h a (.dK kvs) from zc ok e
theorem uM {kvs:List (j0×V)}(ok:HOk P w H h)(e:H a=some (.dK kvs)):kvs.length<=sizeLine/\(a==sysModules)=false/\∃vs,KV kvs vs/\h.DictOf (k7 P w) a vs:=M4 ok (.inl e)
theorem ba {ks:List j0}(ok:HOk P w H h)(e:H a=some (.tup (ks.map kV))):(tupleKind (k7 P w)).is h ks a:=by
 obtain⟨_,a_,r,o,h1,h2,n,h3⟩:=(show ObjOk P w H h a (.tup (ks.map kV)) from ok a _ e)
 exact⟨o,a_.toArray,n,h1,h2,h3,by simpa using jy r⟩
theorem fF {kvs:List (List j0×V)}(ok:HOk P w H h)(e:Rd H a (.dT kvs)):kvs.length<=sizeLine/\(a==sysModules)=false/\
  ∃xs,KT H kvs xs/\h.DictOfH (tupleKind (k7 P w)) a xs:=by
 obtain⟨z,y,xs,r,o,es,ep,h1,h2,h3,h4,h5⟩:=(show ObjOk P w H h a (.dT kvs) from zc ok e)
 refine⟨z,y,xs,r,o,es,ep,h1,h2,h3,h4,λx hx=>?_,h5⟩
 have all:∀{l:List (List j0×V)} {m:List (List j0×Addr×Value)},KT H l m->∀x∈m,(tupleKind (k7 P w)).is h x.1 x.2.1:=by
  intro l m q;induction q with
  |nil=>intro x hx;exact nomatch hx
  | @cons p q ps qs hq t ih=>
   intro x hx
   rcases Hh.mp hx with e|hx
   .subst e
    exact ba ok (by rw[←hq.1];exact hq.2.1)
   .exact ih x hx
 exact all r x hx
theorem zl {kvs:List (List j0×V)}(ok:HOk P w H h)(e:H a=some (.dT kvs)):kvs.length<=sizeLine/\(a==sysModules)=false/\
  ∃xs,KT H kvs xs/\h.DictOfH (tupleKind (k7 P w)) a xs:=fF ok (.inl e)
end
def DGet (H:Hp)(a:Addr)(y:V)(r:Option V):Prop:=
 (∃kvs k,Rd H a (.dK kvs)/\y=kV k/\r=p8 kvs k)\/∃kvs k b,Rd H a (.dT kvs)/\y= .ref b/\H b=some (.tup (k.map kV))/\r=p8 kvs k
def DPut (H:Hp)(a:Addr)(y v:V)(H':Hp):Prop:=
 (∃kvs k,H a=some (.dK kvs)/\y=kV k/\kvs.length<sizeLine/\H'=p0 H a (.dK (B9 kvs k v)))\/
 ∃kvs k b,H a=some (.dT kvs)/\y= .ref b/\H b=some (.tup (k.map kV))/\kvs.length<sizeLine/\H'=p0 H a (.dT (B9 kvs k v))
theorem DGet.t {H:Hp}{a b:Addr}{kvs:List (List j0×V)}{k:List j0}(e:H a=some (.dT kvs))(eb:H b=some (.tup (k.map kV))):DGet H a (.ref b) (p8 kvs k):= .inr ⟨kvs,k,b,.inl e,rfl,eb,rfl⟩
theorem DPut.k {H:Hp}{a:Addr}{kvs:List (j0×V)}{k:j0}{v:V}(e:H a=some (.dK kvs))(hl:kvs.length<sizeLine):DPut H a (kV k) v (p0 H a (.dK (B9 kvs k v))):= .inl ⟨kvs,k,e,rfl,hl,rfl⟩
section
variable {X:Cx} {pins:List (Addr×Obj)} {σ:St} {H:Hp} {s:Shared} {a:Addr} {y v:V} {u r:Value} {o:Option V} {A:Around} {E:Value->Shared->Prop}
theorem Inv.big (I:Inv X pins σ H s):sysModules<s.heap.objs.size:=by
 have h:mainGlobals<s.heap.objs.size:=(I.mod.glob.keeps I.bk).lt;exact LD (by decide) h
theorem rV {Q:Value->Shared->Prop}(hu:A.units+1<cLine)(I:Inv X pins σ H s)(g:DGet H a y (some v))(ry:RelV y u)(h:∀w' s',Inv X pins σ H s'->RelV v w'->Q w' s'):
  wpAny (model X.prog X.w) A (getItem (.ref a) u) Q E s:=by
 rcases g with⟨kvs,k,e,ey,l⟩|⟨kvs,k,b,e,ey,eb,l⟩
 .subst ey
  obtain⟨z,hd,vs,rel,dd⟩:=M4 I.hok e
  obtain⟨w',hw,Nr⟩:=RelO.some_of (v:=v) (o:=valueAt vs k) (by rw[l];exact rel.val k)
  exact wpAny_getItem_of (dj ry) dd.mapOf hw (h w' _ (I.tok _) Nr)
 .subst ey
  cases (show u=Value.ref b from ry)
  obtain⟨z,hd,xs,rel,dd⟩:=fF I.hok e
  obtain⟨w',hw,Nr⟩:=RelO.some_of (v:=v) (o:=(atKey xs k).map (·.2)) (by rw[l];exact rel.val k)
  obtain⟨p,hp,XC⟩:=Hr.mp hw
  refine wpAny_getItem_heap (Iw hu) (ba I.hok eb) dd hp ?_
  rw[XC]
  exact h w' _ (I.tok _) Nr
theorem Ew {Q:Value->Shared->Prop}(hu:A.units+1<cLine)(I:Inv X pins σ H s)(g:DGet H a y o)(ry:RelV y u)(h:∀s',Inv X pins σ H s'->Q (.bool o.isSome) s'):
  wpAny (model X.prog X.w) A (compareOp .In u (.ref a)) Q E s:=by
 rcases g with⟨kvs,k,e,ey,l⟩|⟨kvs,k,b,e,ey,eb,l⟩
 .subst ey
  obtain⟨z,hd,vs,rel,dd⟩:=M4 I.hok e
  refine wpAny_in_of (dj ry) hd dd.mapOf ?_
  rw[←(rel.val k).isSome_eq,←l]
  exact h _ (I.tok _)
 .subst ey
  cases (show u=Value.ref b from ry)
  obtain⟨z,hd,xs,rel,dd⟩:=fF I.hok e
  refine wpAny_in_heap (Iw hu) (ba I.hok eb) hd dd ?_
  have q:=(rel.val k).isSome_eq
  rw[KU] at q
  rw[←q,←l]
  exact h _ (I.tok _)
theorem yE {Q:Value->Shared->Prop}(hu:A.units+1<cLine)(I:Inv X pins σ H s)(g:DGet H a y o)(ry:RelV y u)(h:∀s',Inv X pins σ H s'->Q (.bool (!o.isSome)) s'):
  wpAny (model X.prog X.w) A (compareOp .NotIn u (.ref a)) Q E s:=by
 rcases g with⟨kvs,k,e,ey,l⟩|⟨kvs,k,b,e,ey,eb,l⟩
 .subst ey
  obtain⟨z,hd,vs,rel,dd⟩:=M4 I.hok e
  refine wpAny_notIn_of (dj ry) hd dd.mapOf ?_
  rw[←(rel.val k).isSome_eq,←l]
  exact h _ (I.tok _)
 .subst ey
  cases (show u=Value.ref b from ry)
  obtain⟨z,hd,xs,rel,dd⟩:=fF I.hok e
  refine wpAny_notIn_heap (Iw hu) (ba I.hok eb) hd dd ?_
  have q:=(rel.val k).isSome_eq
  rw[KU] at q
  rw[←q,←l]
  exact h _ (I.tok _)
theorem cQ {h':Heap}{t':Nat}{ob:HO}(I:Inv X pins σ H s)(mu:Cz (H a))(hs:Heap.SameBut a s.heap h')(he:∃q,h'.get? a=some q)(new:ObjOk X.prog X.w (p0 H a ob) h' a ob):
  Inv X pins σ (p0 H a ob) {s with heap:=h',toks:=t'}:=
 I.write (x:=a) (e:=a) mu (.inl rfl) (λb q hb z=>(hs.2 b hb).trans z) he new
theorem gy {P:Program}{w:World}{H':Hp}{h':Heap}{kvs:List (j0×V)}{vs:List (j0×Value)}(z:kvs.length<=sizeLine)(hd:(a==sysModules)=false)(rel:KV kvs vs)(dd:h'.DictOf (k7 P w) a vs):
  ObjOk P w H' h' a (.dK kvs):=⟨z,hd,vs,rel,dd⟩
theorem rO {H':Hp}{Q:Unit->Shared->Prop}(hu:A.units+1<cLine)(I:Inv X pins σ H s)(g:DPut H a y v H')(ry:RelV y u)(rv:RelV v r)(h:∀s',Inv X pins σ H' s'->Q () s'):
  wpAny (model X.prog X.w) A (setItem (.ref a) u r) Q E s:=by
 rcases g with⟨kvs,k,e,ey,l,eH⟩|⟨kvs,k,b,e,ey,eb,l,eH⟩
 .subst ey eH
  obtain⟨z,hd,vs,rel,dd⟩:=uM I.hok e
  have hz:vs.length<=sizeLine:=by rw[←rel.length];exact z
  have hl:(B9 kvs k v).length<=sizeLine:=by have:=F5 kvs k v;lia
  refine wpAny_setItem_pairs (hsz:=hz) (dj ry) dd λh' dd' hs=>h _ ?_
  have he:∃q,h'.get? a=some q:=let ⟨q,_,_,hq,_⟩:=dd';⟨q,hq⟩
  exact cQ I (by rw[e];exact True.intro) hs he (gy hl hd (rel.put k rv) dd')
 .subst ey eH
  cases (show u=Value.ref b from ry)
  obtain⟨z,hd,xs,rel,dd⟩:=zl I.hok e
  have hz:xs.length<=sizeLine:=by rw[←Hn rel];exact z
  have hl:(B9 kvs k v).length<=sizeLine:=by have:=F5 kvs k v;lia
  refine wpAny_setItem_heap (hsz:=hz) (Iw hu) (ba I.hok eb) dd λh' dd' hs=>h _ ?_
  obtain⟨q,es,ep,hq,h2,h3,h4,_,h5⟩:=dd'
  refine cQ I (by rw[e];exact True.intro) hs ⟨q,hq⟩ ⟨hl,hd,_,(rel.put k eb rv).keeps λc ys ec=>?_,q,es,ep,hq,h2,h3,h4,h5⟩
  rw[b9 (yN ec e (λz=>nomatch z))]
  exact ec
end
section
variable {X:Cx} {pins:List (Addr×Obj)} {σ:St} {H:Hp} {s:Shared} {a:Addr} {kvs:List (j0×V)} {k:j0} {u:Value} {A:Around} {E:Value->Shared->Prop}
theorem Df {Q:Value->Shared->Prop}(I:Inv X pins σ H s)(e:Rd H a (.dK kvs))(h:∀t s',Inv X pins σ H s'->Q (.int kvs.length t) s'):wpAny (model X.prog X.w) A (call (.builtin "len") [.ref a]) Q E s:=by
 obtain⟨z,hd,vs,rel,dd⟩:=M4 I.hok e;refine call_len_dict hd dd (by rw[←rel.length];rw[Mi] at z;lia) ?_;rw[←rel.length];exact h _ _ (I.tok _)
end
theorem mG {X:Cx}{pins:List (Addr×Obj)}{σ:St}{H:Hp}{s:Shared}{a:Addr}{y:V}{o:Option V}(I:Inv X pins σ H s)(g:DGet H a y o):s.TypeIs (.ref a) "dict":=by
 rcases g with⟨kvs,k,e,_,_⟩|⟨kvs,k,b,e,_,_,_⟩
 .obtain⟨_,_,vs,_,dd⟩:=M4 I.hok e;exact dd.typeIs
 .obtain⟨_,_,xs,_,dd⟩:=fF I.hok e;exact dd.typeIs
section
variable {X:Cx} {o i e value:Expr} {pos pos' j_:Pos} {td ty tv:TE}
end
theorem vT {P:Program}{w:World}{H:Hp}(h:Heap)(hb:sysModules<h.objs.size):ObjOk P w H (h.push {cls:= .type "dict",data:= .dict #[]}) h.objs.size (.dK []):=
 ⟨IA _,IE.mpr (Io (GU hb)),[],.nil,LF h⟩
theorem tS {P:Program}{w:World}{H:Hp}(h:Heap)(hb:sysModules<h.objs.size):ObjOk P w H (h.push {cls:= .type "dict",data:= .dict #[]}) h.objs.size (.dT []):=
 ⟨IA _,IE.mpr (Io (GU hb)),[],.nil,_, #[],0,GW _ rfl,⟨rfl,rfl,rfl⟩,rfl,rfl,IS⟩
def wm:TE:=λ_ H Q=>∀p,H p=none->Q (.ref p) (p0 H p (.dK []))
def vP:TE:=λ_ H Q=>∀p,H p=none->Q (.ref p) (p0 H p (.dT []))
section
variable {X:Cx} {pos:Pos}
theorem um:PE X (.Dict [] [] pos) wm:=λpins s σ H Q I h=>
 wpAny_Dict_empty ⟨.ref s.heap.objs.size,_,I.laid (a:=s.heap.objs.size) (o:= .dK []) (t':=s.toks) (λ_ _ q=>GB _ q) (Gv _) (vT s.heap I.big),rfl,h _ (I.hok.fresh (Gv _))⟩
theorem uk:PE X (.Dict [] [] pos) vP:=λpins s σ H Q I h=>
 wpAny_Dict_empty ⟨.ref s.heap.objs.size,_,I.laid (a:=s.heap.objs.size) (o:= .dT []) (t':=s.toks) (λ_ _ q=>GB _ q) (Gv _) (tS s.heap I.big),rfl,h _ (I.hok.fresh (Gv _))⟩
end
def uq:List (TE×TE)->St->Hp->(List (V×V)->Hp->Prop)->Prop
 |[],_,H,Q=>Q [] H
 |(tk,tv)::r,σ,H,Q=>tk σ H λx H1=>tv σ H1 λy H2=>uq r σ H2 λps H3=>Q ((x,y)::ps) H3
abbrev VV:List (V×V)->List (Value×Value)->Prop:=Paired λp q=>RelV p.1 q.1/\RelV p.2 q.2
def FZ (X:Cx)(pos:Pos)(keys:List (Option Expr))(values:List Expr)(SX:List (TE×TE)):Prop:=
 ∀(pins:List (Addr×Obj)) (s:Shared) (σ:St) (H:Hp) (Q:List (V×V)->Hp->Prop),Inv X pins σ H s->uq SX σ H Q->
  wpAny (model X.prog X.w) X.A (evalPairs (pairTrees keys values X.env pos)) (λvs s'=>∃ps H',Inv X pins σ H' s'/\VV ps vs/\Q ps H') X.xe s
structure M1 (X:Cx) (o:Expr) (m:Str) (apos:Pos) (e:Expr) (b_:Pos):Prop where
 base:attributeBase o m X.env (eval o X.env)=eval o X.env
 few:((backTo b_ (starEach [e] X.env)).all (λx=>!x.1)&&(backToKw b_ (keywordEach [] X.env)).all (λx=>x.1.isSome)
  &&decide (([e]:List Expr).length+([]:List Keyword).length+(if([]:List Keyword).isEmpty then 0 else 1)<30))=true
 line:(apos.endLine==b_.line)=true
 trees:backTo b_ (starEach [e] X.env)=[(false,eval e X.env)]
structure M2 (X:Cx) (o:Expr) (m:Str) (apos:Pos) (e f:Expr) (b_:Pos):Prop where
 base:attributeBase o m X.env (eval o X.env)=eval o X.env
 few:((backTo b_ (starEach [e,f] X.env)).all (λx=>!x.1)&&(backToKw b_ (keywordEach [] X.env)).all (λx=>x.1.isSome)
  &&decide (([e,f]:List Expr).length+([]:List Keyword).length+(if([]:List Keyword).isEmpty then 0 else 1)<30))=true
 line:(apos.endLine==b_.line)=true
 trees:backTo b_ (starEach [e,f] X.env)=[(false,eval e X.env),(false,eval f X.env)]
def Cs (H:Hp)(a:Addr):Prop:=(∃kvs,Rd H a (.dK kvs))\/∃kvs,Rd H a (.dT kvs)
theorem tW {X:Cx}{pins:List (Addr×Obj)}{σ:St}{H:Hp}{s:Shared}{a:Addr}(I:Inv X pins σ H s)(d:Cs H a):
  s.TypeIs (.ref a) "dict"/\(∀b,Value.ref a= .ref b->∃ob,s.heap.get? b=some ob/\ob.dict=none)/\(a==sysModules)=false:=by
 rcases d with⟨kvs,e⟩|⟨kvs,e⟩
 .obtain⟨_,hd,vs,_,dd⟩:=M4 I.hok e
  refine⟨dd.typeIs,λb q=>?_,hd⟩
  cases q
  obtain⟨ob,_,_,h1,h2,_⟩:=dd
  exact⟨ob,h1,h2.2.1⟩
 .obtain⟨_,hd,xs,_,dd⟩:=fF I.hok e
  refine⟨dd.typeIs,λb q=>?_,hd⟩
  cases q
  obtain⟨ob,_,_,h1,h2,_⟩:=dd
  exact⟨ob,h1,h2.2.1⟩
section
variable {X:Cx} {pins:List (Addr×Obj)} {σ:St} {H:Hp} {s:Shared} {a:Addr} {y d:V} {u r:Value} {o:Option V} {A:Around} {E:Value->Shared->Prop}
theorem Bf {Q:Value->Shared->Prop}(hu:A.units+1<cLine)(I:Inv X pins σ H s)(g:DGet H a y o)(ry:RelV y u)(h:∀w' s',Inv X pins σ H s'->RelV (o.getD .non) w'->Q w' s'):
  wpAny (model X.prog X.w) A (call (.builtin "dict.get") [.ref a,u]) Q E s:=by
 rcases g with⟨kvs,k,e,ey,l⟩|⟨kvs,k,b,e,ey,eb,l⟩
 .subst ey
  obtain⟨z,hd,vs,rel,dd⟩:=M4 I.hok e
  refine Ik Iu dd.typeIs Jo (Lb _ _) (meets_dict_get (k7 X.prog X.w) a (dj ry) hd) ⟨_,dd.mapOf,h _ _ (I.tok _) ?_⟩
  rw[l]
  exact(rel.val k).getD rfl
 .subst ey
  cases (show u=Value.ref b from ry)
  obtain⟨z,hd,xs,rel,dd⟩:=fF I.hok e
  refine Ik Iu dd.typeIs Jo (Lb _ _) (meetsH_dict_get (tupleKind (k7 X.prog X.w)) a b hd) ⟨Iw hu,k,xs,ba I.hok eb,dd,h _ _ (I.tok _) ?_⟩
  rw[l]
  exact(rel.val k).getD rfl
theorem Bi {Q:Value->Shared->Prop}(hu:A.units+1<cLine)(I:Inv X pins σ H s)(g:DGet H a y o)(ry:RelV y u)(rd:RelV d r)(h:∀w' s',Inv X pins σ H s'->RelV (o.getD d) w'->Q w' s'):
  wpAny (model X.prog X.w) A (call (.builtin "dict.get") [.ref a,u,r]) Q E s:=by
 rcases g with⟨kvs,k,e,ey,l⟩|⟨kvs,k,b,e,ey,eb,l⟩
 .subst ey
  obtain⟨z,hd,vs,rel,dd⟩:=M4 I.hok e
  refine Ik Iu dd.typeIs Jo (Lc _ _ _) (meets_dict_get_default (k7 X.prog X.w) a (dj ry) hd r) ⟨_,dd.mapOf,h _ _ (I.tok _) ?_⟩
  rw[l]
  exact(rel.val k).getD rd
 .subst ey
  cases (show u=Value.ref b from ry)
  obtain⟨z,hd,xs,rel,dd⟩:=fF I.hok e
  refine Ik Iu dd.typeIs Jo (Lc _ _ _) (meetsH_dict_get_default (tupleKind (k7 X.prog X.w)) a b hd r) ⟨Iw hu,k,xs,ba I.hok eb,dd,h _ _ (I.tok _) ?_⟩
  rw[l]
  exact(rel.val k).getD rd
end
def oO (td ty:TE):TE:=λσ H Q=>td σ H λx H1=>∃a,x= .ref a/\Cs H1 a/\ty σ H1 λy H2=>∃o,DGet H2 a y o/\Q (o.getD .non) H2
def oR (td ty tx:TE):TE:=λσ H Q=>td σ H λx H1=>∃a,x= .ref a/\Cs H1 a/\ty σ H1 λy H2=>tx σ H2 λz H3=>∃o,DGet H3 a y o/\Q (o.getD z) H3
section
variable {X:Cx} {o e f:Expr} {apos b_:Pos} {td ty tx:TE}
theorem vY (hu:X.A.units+1<cLine)(ho:PE X o td)(he:PE X e ty)(m:M1 X o "get" apos e b_):PE X (.Call (.Attribute o "get" apos) [e] [] b_) (oO td ty):=by
 intro pins s σ H Q I h;refine wpAny_Call_method m.base m.few m.line HL Iu LG (E9 (ho pins s σ H _ I h) λu s1 ⟨x,H1,I1,rx,a,ex,d,q1⟩=>?_);subst ex;obtain rfl:u=Value.ref a:=rx;obtain⟨t1,t2,_⟩:=tW I1 d;refine⟨t1,t2,?_⟩;rw[m.trees];refine Im rfl (JB (Jq (E9 (he pins s1 σ H1 _ I1 q1) λiv s2 ⟨y,H2,I2,ry,ov,g,q2⟩=>Kf ?_)));exact Bf hu I2 g ry λw' s3 I3 Nr=>⟨_,H2,I3,Nr,q2⟩
theorem uF (hu:X.A.units+1<cLine)(ho:PE X o td)(he:PE X e ty)(hf:PE X f tx)(m:M2 X o "get" apos e f b_):PE X (.Call (.Attribute o "get" apos) [e,f] [] b_) (oR td ty tx):=by
 intro pins s σ H Q I h;refine wpAny_Call_method m.base m.few m.line HL Iu LG (E9 (ho pins s σ H _ I h) λu s1 ⟨x,H1,I1,rx,a,ex,d,q1⟩=>?_);subst ex;obtain rfl:u=Value.ref a:=rx;obtain⟨t1,t2,_⟩:=tW I1 d;refine⟨t1,t2,?_⟩;rw[m.trees];refine Im rfl (JB (Jq (E9 (he pins s1 σ H1 _ I1 q1) λiv s2 ⟨y,H2,I2,ry,q2⟩=>
  Jq (E9 (hf pins s2 σ H2 _ I2 q2) λfv s3 ⟨z,H3,I3,rz,ov,g,q3⟩=>Kf ?_))))
 exact Bi hu I3 g ry rz λw' s4 I4 Nr=>⟨_,H3,I4,Nr,q3⟩
end
section
variable {X:Cx} {pins:List (Addr×Obj)} {σ:St} {H:Hp} {s:Shared} {a:Addr} {kvs:List (j0×V)} {A:Around} {E:Value->Shared->Prop}
theorem vZ {Q:Value->Shared->Prop}(I:Inv X pins σ H s)(e:Rd H a (.dK kvs))(h:∀p s',H p=none->Inv X pins σ (p0 H p (.dK kvs)) s'->Q (.ref p) s'):wpAny (model X.prog X.w) A (call (.type "dict") [.ref a]) Q E s:=by
 obtain⟨z,hd,vs,rel,dd⟩:=M4 I.hok e;refine kt_call_dict hd dd (by rw[←rel.length];exact z) λh' dd' hs=>?_;refine h _ _ (I.hok.fresh (Gv _)) (I.laid (a:=s.heap.objs.size) (o:= .dK kvs) (t':=s.toks) (λb q hq=>?_) (Gv _) (gy z (IE.mpr (Io (GU I.big))) rel dd'));exact(hs.2 b (GU (GH hq))).trans (GB _ hq)
end
section
variable {X:Cx} {pins:List (Addr×Obj)} {σ:St} {H:Hp} {s:Shared} {a:Addr} {y:V} {u:Value} {A:Around} {E:Value->Shared->Prop}
end
end L2
namespace Att
open PySem PySem.W PySem.Calls PyProof.Rows
theorem fR {P:Params}{h:Heap}:∀(ns:List Int) (vs:List Value),WellAll P h vs (ns.map WData.int)->IntsAre vs ns:=by
 intro ns;induction ns with
 |nil=>
  intro vs w
  rw[KI] at w
  cases w
  exact .nil
 |cons n ns ih=>
  intro vs w
  rw[Hu] at w
  cases w with
  |cons a b=>
   cases a
   exact .cons _ _ (ih _ b)
theorem sX {l:OpenLaw}{n:Nat}(hn:l.most=some n){P:Params}{h:Heap}{args:List WData}{vals:List Value}
  (Oa:l.row.toRowW.claim.pre args=true) (Ox:WellAll P h vals args):
  ∃a vs ns,vals=[Value.ref a]/\args=[WData.list (ns.map WData.int)]/\h.get? a=some {cls:= .type "list",data:= .seq vs.toArray}/\IntsAre vs ns/\ns.length<=n:=by
 have XD:WShape.hasAll [] args [.list .int]=true:=(pre_splitW Oa).1
 have hc:l.pre.holds [] {args:=args}=true:=(pre_splitW Oa).2
 obtain⟨d,r,rfl,h1,h2⟩:=hasAllW_cons XD
 obtain rfl:=hasAllW_nil h2
 obtain⟨xs,rfl,h3⟩:=hasW_list h1
 obtain⟨ns,rfl⟩:=items_int h3
 have hlen:ns.length<=n:=by
  unfold OpenLaw.pre at hc;have h4:(WTm.not (.lt (.lit (.int (n:Int))) (.len (.arg 0)))).holds [] {args:=[.list (ns.map .int)]}=true:=by
   have h4:=(holds_andW hc).1;rw[hn] at h4;exact h4
  have h5:=condW_of h4 (w_not (w_lt w_lit (w_len_list (w_arg rfl))));rw[Gs] at h5;refine Nat.le_of_not_lt λq=>?_;have q':(n:Int)<((ns.length:Nat):Int):=by lia
  first
   |(rw[Hf q'] at h5;exact absurd h5 (by decide))
   |(simp at h5;lia)
 cases Ox with
 |cons w1 w2=>
  cases w2
  cases w1 with
  |list ho o_=>exact⟨_,_,ns,rfl,rfl,ho,fR ns _ o_,hlen⟩
theorem rR (l:OpenLaw)(args:List WData):l.row.toRowW.claim.post args (.bool true) args=true:=
 postW_of (r:=l.row.toRowW) (X:=(true==true))
  (show WShape.has [] (.bool true) .bool=true by first|rfl|decide|simp [WShape.has,WShape.arms,WShape.armsAll])
  (show(WTm.eq .res (.lit (.bool true))).value [] {args:=args,res:=some (.bool true),after:=args}=some (.bool (true==true)) from w_eq_bool (w_res rfl) w_lit) rfl
theorem attach_call {l:OpenLaw}{n:Nat}{q:Program}{loose:List Str}{XP:(Str->Option Value)->Heap->Prop}{YP:World->Heap->Prop}{d:DefRec}
  (hn:l.most=some n) (Qx:d.params.defaults=[])
  (call:∀(w:World) (s₀ s₁:Shared) (mg mb:Str->Option Value) (fa:Addr) (o:Obj) (pm cd doc:Value) (a:Addr) (vs:List Value) (ns:List Int),
   Ground q loose [] XP w s₀ mg mb s₁.heap->YP w s₁.heap->
   s₁.heap.get? fa=some o->o.data= .func (docDef d.name d.params d.body d.scope pm cd doc)->s₁.heap.CodeRec cd d.name->mg d.name=some (.ref fa)->
   s₁.heap.get? a=some {cls:= .type "list",data:= .seq vs.toArray}->IntsAre vs ns->ns.length<=n->s₁.gens= #[]->
   codeAny (model l.prog w) callerA (.call (.ref fa) ⟨[.ref a],[]⟩) (λr s'=>r= .ok (.ret (.bool true))/\OldK s₁.heap s'.heap/\s'.os=s₁.os/\AllBare s'.gens) s₁):
  WalkO q loose XP YP l.row.toRowW d [] (λf vs=>PySem.call f vs):=by
 intro w s₀ s₁ mg mb G Y fa o pm cd doc dV kV ho hd Mn hD hmg hg args vals as Oa hlay hrd Ox VU
 obtain rfl:dV= .none:=Dflts.none hD Qx
 obtain rfl:kV= .none:=Dflts.noKw hD
 obtain⟨a,vs,ns,rfl,rfl,OR,hints,hlen⟩:=sX hn Oa Ox
 refine enter_call (Kk (call w s₀ s₁ mg mb fa o pm cd doc a vs ns G Y ho (fd_plain hd) Mn hmg OR hints hlen hg) λr s' hq=>?_)
 obtain⟨rfl,h2,h3,h4⟩:=hq
 exact⟨.inl ⟨.bool true,.bool true,[],rfl,λ_=>rfl,.bool true,rR l _,λ_=>⟨List.Pairwise.nil,λ_ hm=>(nomatch hm)⟩⟩,h2,h3,h4⟩
section
variable {prog:Program} {w:World} {A:Around} {E:Value->Shared->Prop} {s:Shared} {K:Frag}
end
end Att
namespace L2
open PySem PySem.Spec PyProof.Rows
theorem jT:∀{vs:List Value} {ns:List Int},IntsAre vs ns->Vals (ns.map V.int) vs
 |_,_,.nil=> .nil
 |_,_,.cons n t h=> .cons ⟨t,rfl⟩ (jT h)
def Ax (H:Hp):Prop:=∀b,H b=none\/∃o xs,H b=some (.frz o (.lst xs))
theorem vS {P:Program}{w:World}{K:Qc}{mg mb:Str->Option Value}{CX:lO}{k:Nat}{fa a:Addr}{fd:FuncData}{x:Str}{sp:Sp}{s₁:Shared}{vs:List Value}{ns:List Int}
  (KX:K.In s₁.heap) (Qy:s₁.heap.Ns mainGlobals mg) (hb:s₁.heap.Ns builtinsNs mb) (SY:∀x:Str,x≠"__name__"->mb x=bootBuiltins x) (S':s₁.heap.NoLimit) (hg:s₁.gens= #[])
  (ha:s₁.heap.get? a=some {cls:= .type "list",data:= .seq vs.toArray}) (hi:IntsAre vs ns) (hl:ns.length<=sizeLine) (hr:Room k callerA)
  (F:∀base:Heap,K.In base->base.Ns mainGlobals mg->A3 P w K mg base CX k fa fd [x] sp) (Qz:∀(s:Shared) (u:Value),BindsTo s fd ⟨[u],[]⟩ [(x,u)])
  (NQ:∀H:Hp,Ax H->SqL K H a (ns.map V.int)->sp [.ref a] H (λv _=>v= .bl true) λ_ _ _=>False)
  (S_:∀H e s',CX [] H s₁ (λ_ _ _=>False) e s'->False):
  codeAny (model P w) callerA (.call (.ref fa) ⟨[.ref a],[]⟩) (λr s'=>r= .ok (.ret (.bool true))/\OldK s₁.heap s'.heap/\s'.os=s₁.os/\AllBare s'.gens) s₁:=by
 have rv:=jT hi
 have Ta:=hi.length
 have core:∀H:Hp,Ax H->SqL K H a (ns.map V.int)->HOk P w H s₁.heap->(∀b,H b≠none->b=a)->(H a≠none->K.lookup a=none)->
   codeAny (model P w) callerA (.call (.ref fa) ⟨[.ref a],[]⟩) (λr s'=>r= .ok (.ret (.bool true))/\OldK s₁.heap s'.heap/\s'.os=s₁.os/\AllBare s'.gens) s₁:=by
  intro H hO hS hok hA hK
  have base_of:∀{b:Addr} {o:Obj},s₁.heap.get? b=some o->H b=none->(kB s₁.heap H).get? b=some o:=λe n=>vv e n
  have Qt:∀{b:Addr} {o:Obj} {es:Array DictEntry} {ep:Nat},s₁.heap.get? b=some o->o.data= .dict es ep->H b=none:=fun{b o es ep} e d=>by
   cases q:H b with
   |none=>rfl
   |some u=>
    have e':b=a:=hA b (by rw[q];simp)
    subst e'
    rw[ha] at e;cases e
    have d':Data.seq vs.toArray _=Data.dict es ep:=d
    cases d'
  have RX:∀{b:Addr} {m:Str->Option Value},s₁.heap.Ns b m->(kB s₁.heap H).Ns b m:=fun{b m} ⟨o,es,ep,e,d,r⟩=>⟨o,es,ep,base_of e (Qt e d),d,r⟩
  have VW:K.In (kB s₁.heap H):=λb o e=>base_of (KX b o e) (by
   cases q:H b with
   |none=>rfl
   |some u=>
    have e':b=a:=hA b (by rw[q];simp)
    subst e'
    rw[hK (by rw[q];simp)] at e;cases e)
  have hM:Mod K mg (kB s₁.heap H):=⟨VW,RX Qy,⟨mb,RX hb,SY⟩,let ⟨mc,h1,h2⟩:=S';⟨mc,RX h1,h2⟩⟩
  have e0:xq P w K mg (kB s₁.heap H) callerA [] s₁ H:=⟨rfl,hM,λb o e=>yi e,Nat.le_of_eq (sV _ _),trivial,λb hb=>absurd (show b∈([]:List Addr) from hb) (by simp),hok,.of_eq hg⟩
  refine Kk ((F _ VW (RX Qy)).run callerA [] s₁ H ⟨[.ref a],[]⟩ [.ref a] [.ref a] _ _ hr e0 (Qz s₁ (.ref a)) (.cons rfl .nil) (NQ H hO hS)) λr s' h=>?_
  cases r with
  |error e=>exact(S_ H e s' h).elim
  |ok fl=>
   cases fl with
   |next=>exact False.elim h
   |brk=>exact False.elim h
   |cont=>exact False.elim h
   |ret u=>
    obtain⟨v,H',os,bare,un,Tb,r',q⟩:=h
    have q':v= .bl true:=q
    subst q'
    obtain rfl:u=Value.bool true:=r'
    refine⟨rfl,OldK.of_keep λb o e=>?_,os,bare⟩
    cases q:H b with
    |none=>exact un.keep b o e q (by intro z;exact absurd (show b∈([]:List Addr) from z) (by simp)) (by simp)
    |some u=>
     rcases hO b with z|⟨ob,xs,z⟩
     .rw[q] at z;cases z
     .have z2:=un.frzs b ob _ z
      obtain⟨e1,_⟩:=hok b _ z
      obtain⟨e2,_⟩:=Tb b _ z2
      rw[e] at e1;cases e1
      exact e2
 cases hk:K.lookup a with
 |some o=>
  have e:=KX a o hk
  rw[ha] at e
  cases e
  refine core (λ_=>none) (λ_=> .inl rfl) (.inr ⟨_,vs.toArray,_,hk,rfl,rfl,rfl,by rw[Hd,Ta];exact hl,by simpa using rv⟩) (λb u z=>by have z':(none:Option HO)=some u:=z;cases z') (λb z=>absurd rfl z) λz=>absurd rfl z
 |none=>
  refine core (λb=>if b=a then some (.frz {cls:= .type "list",data:= .seq vs.toArray} (.lst (ns.map V.int))) else none) (λb=>?_) (.inl (.inr ⟨{cls:= .type "list",data:= .seq vs.toArray},if_pos rfl⟩)) (λb u z=>?_) (λb z=>?_) λ_=>hk
  .by_cases hb:b=a
   .exact .inr ⟨_,_,if_pos hb⟩
   .exact .inl (if_neg hb)
  .by_cases hb:b=a
   .have z':=(if_pos hb).symm.trans z
    cases z'
    subst hb
    exact⟨ha,by rw[Gs];exact hl,vs,_,rv,ha⟩
   .have z':=(if_neg hb).symm.trans z
    cases z'
  .by_cases hb:b=a
   .exact hb
   .exact absurd (if_neg hb) z
theorem walk_of {l:PySem.W.OpenLaw}{n k:Nat}{q:Program}{loose:List Str}{XP:(Str->Option Value)->Heap->Prop}{YP:World->Heap->Prop}{d:DefRec}{K:Params->Qc}{CX:World->lO}{sp:World->Sp}{x:Str}
  (hn:l.most=some n) (XE:n<=sizeLine) (Qx:d.params.defaults=[]) (hr:Room k callerA)
  (hY:∀(w:World) (h:Heap),YP w h->(K w.params).In h)
  (F:∀(w:World) (mg:Str->Option Value) (fa:Addr) (h:Heap),(K w.params).In h->h.Ns mainGlobals mg->mg d.name=some (.ref fa)->
   ∃fd:FuncData,(∀(s:Shared) (u:Value),BindsTo s fd ⟨[u],[]⟩ [(x,u)])/\
    ∀base:Heap,(K w.params).In base->base.Ns mainGlobals mg->A3 l.prog w (K w.params) mg base (CX w) k fa fd [x] (sp w))
  (NQ:∀(w:World) (H:Hp) (a:Addr) (ns:List Int),ns.length<=n->Ax H->SqL (K w.params) H a (ns.map V.int)->sp w [.ref a] H (λv _=>v= .bl true) λ_ _ _=>False)
  (S_:∀(w:World) (H:Hp) (s:Shared) (e:Value) (s':Shared),CX w [] H s (λ_ _ _=>False) e s'->False):
  PySem.W.WalkO q loose XP YP l.row.toRowW d [] (λf vs=>PySem.call f vs):=by
 refine Att.attach_call hn Qx λw s₀ s₁ mg mb fa o pm cd doc a vs ns G Y ho hd Mn hmg OR hints hlen hg=>?_
 have KX:=hY w _ Y
 obtain⟨fd,hb,hF⟩:=F w mg fa _ KX G.T.g hmg
 exact vS KX G.T.g G.T.b G.T.builtins G.T.nolimit hg OR hints (He hlen XE) hr hF hb (λH hO hS=>NQ w H a ns hlen hO hS) λH e s'=>S_ w H s₁ e s'
def U2 (s:Stmt):Arguments:=match s with
 | .FunctionDef _ a _ _ _ _ _ _ _ _=>a
 |_=>{posonlyargs:=[],args:=[],vararg:=none,kwonlyargs:=[],kw_defaults:=[],kwarg:=none,defaults:=[]}
def O6 (s:Stmt):List Stmt:=match s with
 | .FunctionDef _ _ b _ _ _ _ _ _ _=>b
 |_=>[]
def i7 (s:Stmt):Scope:=match s with
 | .FunctionDef _ _ _ _ _ _ sc _ _ _=>sc
 |_=>{kind:= .function,names:=[],isGenerator:=false,isCoroutine:=false}
abbrev C2:lO:=λ_ _ _ _ _ _=>False
abbrev E0:XK:=λ_ _ _=>False
theorem j7 {X:Cx}:cj C2 X E0:=λ_ _ _ _ _ _ _ h=>h.elim
structure Fun (K:Qc) (x qual:Str) (st:Stmt) (f:Addr) (fd:FuncData):Prop where
 ex:∃(oc:Value) (od:Option Addr) (kV doc pm:Value) (an:Option Addr) (d_ ct:Value) (Mq:Array (Option Value)),
  fd=PySem.W.fnOf x qual (U2 st) (O6 st) (i7 st) .none kV doc pm an d_ ct/\K.lookup f=some ⟨oc,od,.func fd,Mq⟩/\PySem.W.codeIn K d_ qual=true
 kp:PySem.W.keepIn K (.ref f)=true
section
variable {P:Program} {w:World} {K:Qc} {mg:Str->Option Value} {base:Heap}
theorem Fun.ok {x qual:Str}{st:Stmt}{f:Addr}{fd:FuncData}{N ps:List Str}{k:Nat}{sp:Sp}(F:Fun K x qual st f fd)(S:j5 N ps (i7 st))(len:∀vs H Q E,sp vs H Q E->vs.length=ps.length)
  (Lx:∀(d_:Value) (A:Around) (outer:List Env) (s:Shared) (H:Hp) (vs:List V) (Q:VK) (E:XK),Room k (A.deeper (envOfC qual (i7 st) s.heap.objs.size f d_))->sp vs H Q E->
   ∃t,PSs (iN C2 P w K mg base N qual (i7 st) f d_ A outer s H E).nox (O6 st) t/\t {nx:=λ_ H'=>Q .non H',rt:=Q} (dW N vs) H):A3 P w K mg base C2 (k+1) f fd ps sp:=by
 obtain⟨oc,od,kV,doc,pm,an,d_,ct,Mq,rfl,lk,Mn⟩:=F.ex
 refine zh lk Mn S len λA outer s H vs Q E hr NQ=>?_
 obtain⟨t,h,q⟩:=Lx d_ A outer s H vs Q E hr NQ
 exact⟨t,h.nox,q⟩
theorem Fun.binds {x qual:Str}{st:Stmt}{f:Addr}{fd:FuncData}{ps:List Str}(F:Fun K x qual st f fd)
  (h:∀(kV doc pm:Value) (an:Option Addr) (d_ ct:Value) (us:List Value),us.length=ps.length->bindArgs (PySem.W.fnOf x qual (U2 st) (O6 st) (i7 st) .none kV doc pm an d_ ct) ⟨us,[]⟩=pure (ps.zip us)):Binds K fd ps []:=by
 obtain⟨oc,od,kV,doc,pm,an,d_,ct,Mq,rfl,lk,Mn⟩:=F.ex
 exact .all (h kV doc pm an d_ ct)
theorem Au {x qual:Str}{st:Stmt}{f:Addr}{oc:Value}{od an:Option Addr}{Mq:Array (Option Value)}{kV doc pm d_ ct:Value}(l:K.lookup f=some ⟨oc,od,.func (PySem.W.fnOf x qual (U2 st) (O6 st) (i7 st) .none kV doc pm an d_ ct),Mq⟩)
  (c:PySem.W.codeIn K d_ qual=true) (k:PySem.W.keepIn K (.ref f)=true):Fun K x qual st f (PySem.W.fnOf x qual (U2 st) (O6 st) (i7 st) .none kV doc pm an d_ ct):=⟨⟨oc,od,kV,doc,pm,an,d_,ct,Mq,rfl,l,c⟩,k⟩
end
theorem bD {n:Nat}(h:n<=1000):n<sizeLine:=My h (by decide)
section
variable {X:Cx}
end
theorem ED {A B:Prop}(h:B):if false=true then A else B:=by
 rw[if_neg Hi];exact h
theorem EV {A B:Prop}(h:A):if true=true then A else B:=by
 rw[if_pos rfl];exact h
def Same (H H':Hp):Prop:=∀b o,H b=some o->H' b=some o
theorem Same.refl (H:Hp):Same H H:=λ_ _ h=>h
theorem Same.trans {H H1 H2:Hp}(a:Same H H1)(b:Same H1 H2):Same H H2:=λc o h=>b c o (a c o h)
theorem Same.free {H H':Hp}(e:Same H H'){l:Addr}(h:H' l=Option.none):H l=Option.none:=by
 cases q:H l with
 |none=>rfl
 |some o=>
  rw[e l o q] at h
  cases h
theorem Same.seq {K:Qc}{H H':Hp}{a:Addr}{xs:List V}(e:Same H H')(h:SqL K H a xs):SqL K H' a xs:=by
 rcases h with(h|⟨o,h⟩)|h
 .exact .inl (.inl (e _ _ h))
 .exact .inl (.inr ⟨o,e _ _ h⟩)
 .exact .inr h
section
variable {κ:Type} [DecidableEq κ]
theorem uo {kvs:List (κ×V)}{k:κ}(h:p8 kvs k=none):¬k∈kvs.map (·.1):=by
 intro m;obtain⟨p,hp,e⟩:=Gw.mp m;have q:(kvs.any λkv=>decide (kv.1=k))=true:=Ih.mpr ⟨p,hp,Hf e⟩;rw[G9,h] at q;exact absurd q (by simp)
theorem pT {kvs:List (κ×V)}{k:κ}{v:V}(h:p8 kvs k=some v):k∈kvs.map (·.1):=by
 have q:(kvs.any λkv=>decide (kv.1=k))=true:=by
  rw[G9,h];all_goals rfl
 obtain⟨p,hp,e⟩:=Ih.mp q;exact Gw.mpr ⟨p,hp,HI e⟩
theorem Q5:∀{l:List κ} {k:κ},l.Nodup->¬k∈l->(l++[k]).Nodup
 |[],k,_,_=>by simp
 |a::r,k,h,hk=>by
  obtain⟨h1,h2⟩:=Hs.mp h;show(a::(r++[k])).Nodup;refine Hs.mpr ⟨λm=>?_,Q5 h2 λm=>hk (Hh.mpr (Or.inr m))⟩;rcases GO.mp m with q|q
  .exact h1 q
  .exact hk (Hh.mpr (Or.inl (GZ.mp q).symm))
theorem yg {kvs:List (κ×V)}{k:κ}(v:V)(hn:(kvs.map (·.1)).Nodup)(h:p8 kvs k=none):((B9 kvs k v).map (·.1)).Nodup:=by
 rw[E8 v h,Gy];exact Q5 hn (uo h)
end
end L2
set_option maxHeartbeats 4000000
namespace L2
open PySem PySem.Spec PyProof.Rows
def fT (scope:Scope)(env:Env):List (Str×Addr):=(scope.names.filter λx=>x.2== .free).reverse.map λx=>(x.1,(env.cells.lookup x.1).getD 0)
theorem aK {env:Env}:∀(l:List (Str×NameKind)) (cs:List (Str×Addr)),(∀x∈l,x.2= .free->∃c,env.cells.lookup x.1=some c)->
  (forIn l cs fun(x:Str×NameKind) (r:List (Str×Addr))=>if(x.2==NameKind.free)=true then(do let a←cellOf env x.1;pure (ForInStep.yield ((x.1,a)::r))) else(pure (ForInStep.yield r):Sem (ForInStep (List (Str×Addr)))))=
   pure (((l.filter λx=>x.2== .free).reverse.map λx=>(x.1,(env.cells.lookup x.1).getD 0))++cs)
 |[],cs,_=>rfl
 |(n,k)::l,cs,h=>by
  rw[JU];by_cases hk:k= .free
  .subst hk;obtain⟨c,hc⟩:=h (n,.free) Hg rfl;simp only[Ln,ML];have L':env.cells.lookup n=some c:=hc;have e0:cellOf env n=pure c:=by unfold cellOf;rw[L']
   simp only[e0,pure_bind];rw[aK l _ λx hx=>h x (GY _ hx)];rw[Jn,if_pos (by rfl),List.reverse_cons,Gy,Hl];simp only[Hu,KI,L',JJ,Lm,LH]
  .have hb:(k==NameKind.free)=false:=by simpa using hk
   simp only[hb,JV,LQ,pure_bind];rw[aK l cs λx hx=>h x (GY _ hx)];rw[Jn,if_neg (by simp [hb])]
theorem gG {scope:Scope}{env:Env}(h:∀x∈scope.names,x.2= .free->∃c,env.cells.lookup x.1=some c):closureFor scope env=pure (fT scope env):=by
 have e:=aK (env:=env) scope.names [] h;rw[HX] at e;unfold closureFor fT;simp only[];refine Eq.trans ?_ (Ia (λm=>m>>=λr=>(pure r:Sem (List (Str×Addr)))) e);rfl
theorem P8 {env:Env}{x:Str}:∀(l:List (Str×NameKind)),(∀y∈l,∃c,env.cells.lookup y.1=some c)->(x∈l.map (·.1)->(l.map λy=>(y.1,(env.cells.lookup y.1).getD 0)).lookup x=env.cells.lookup x)/\(x∉l.map (·.1)->(l.map λy=>(y.1,(env.cells.lookup y.1).getD 0)).lookup x=none)
 |[],_=>⟨λh=>by simp at h,λ_=>rfl⟩
 |(n,k)::l,h=>by
  have ih:=P8 (x:=x) l λy hy=>h y (GY _ hy);obtain⟨c,hc⟩:=h (n,k) Hg;have L':env.cells.lookup n=some c:=hc;by_cases e:x=n
  .subst e;refine⟨λ_=>?_,λz=>absurd (by simp) z⟩;simp [Ii,L']
  .have eb:(x==n)=false:=by simpa using e
   refine⟨λhm=>?_,λhm=>?_⟩
   .simp only[Hu,Ii,eb];exact ih.1 (by simpa [e] using hm)
   .simp only[Hu,Ii,eb];exact ih.2 (λz=>hm (by simp [z]))
theorem Q8 {scope:Scope}{env:Env}(h:∀x∈scope.names,x.2= .free->∃c,env.cells.lookup x.1=some c){x:Str}{c:Addr}(e:(fT scope env).lookup x=some c):env.cells.lookup x=some c:=by
 have hl:∀y∈(scope.names.filter λx=>x.2== .free).reverse,∃c,env.cells.lookup y.1=some c:=λy hy=>by
  obtain⟨h1,h2⟩:=GR.mp (Lo.mp hy);exact h y h1 (by simpa using h2)
 have a:=P8 (x:=x) _ hl;by_cases hm:x∈(scope.names.filter λx=>x.2== .free).reverse.map (·.1)
 .rw[←a.1 hm];exact e
 .have z:=a.2 hm;unfold fT at e;rw[z] at e;cases e
theorem mi {scope:Scope}{env:Env}(h:∀x∈scope.names,x.2= .free->∃c,env.cells.lookup x.1=some c){x:Str}(hx:(x,NameKind.free)∈scope.names):(fT scope env).lookup x=env.cells.lookup x:=by
 have hl:∀y∈(scope.names.filter λx=>x.2== .free).reverse,∃c,env.cells.lookup y.1=some c:=λy hy=>by
  obtain⟨h1,h2⟩:=GR.mp (Lo.mp hy);exact h y h1 (by simpa using h2)
 exact(P8 (x:=x) _ hl).1 (Gw.mpr ⟨(x,.free),Lo.mpr (GR.mpr ⟨hx,rfl⟩),rfl⟩)
theorem ko {scope:Scope}{env:Env}(hc:∀y∈scope.names,y.2≠ .cell){x:Str}(h:(relabel scope env).names.lookup x=some .cell\/(relabel scope env).names.lookup x=some .free):(x,NameKind.free)∈scope.names:=by
 have key:∀(l:List (Str×NameKind)),(∀y∈l,y.2≠ .cell)->∀k,(k=NameKind.cell\/k=NameKind.free)->(l.map fun(n,k)=>if(k==NameKind.free&&env.scope.kind== .function&&env.kindOf n==some .cell) then(n,NameKind.cell) else(n,k)).lookup x=some k->(x,NameKind.free)∈l:=by
  intro l;induction l with
  |nil=>intro _ k _ e;simp at e
  |cons y r ih=>
   obtain⟨n,k0⟩:=y
   intro hl k hk e
   have VX:=ih (λy hy=>hl y (GY _ hy)) k hk
   rw[Hu] at e
   have XF:k0≠ .cell:=hl (n,k0) Hg
   dsimp only at e
   by_cases hcnd:(k0==NameKind.free&&env.scope.kind== .function&&env.kindOf n==some .cell)=true
   .rw[if_pos hcnd] at e
    cases hx:x==n with
    |true=>
     have:x=n:=by simpa using hx
     subst this
     have:k0= .free:=by
      simp only[GP,Pa] at hcnd;exact hcnd.1.1
     subst this
     exact Hg
    |false=>
     simp only[Ii,hx] at e
     exact GY _ (VX e)
   .rw[if_neg hcnd] at e
    cases hx:x==n with
    |true=>
     have:x=n:=by simpa using hx
     subst this
     simp only[Ii,hx] at e
     have e':k0=k:=GL e
     subst e'
     rcases hk with z|z
     .exact absurd z XF
     .subst z;exact Hg
    |false=>
     simp only[Ii,hx] at e
     exact GY _ (VX e)
 rcases h with h|h
 .exact key _ hc _ (.inl rfl) h
 .exact key _ hc _ (.inr rfl) h
def bI (X:Cx)(own:List Str)(js:List Nat)(scope:Scope)(C:Addr)(s:Shared)(H:Hp)(fp:List Addr):Cx:=
 {X with N:=own++js.map (λj=>X.N.getD j Str.empty),s₀:=s,H₀:=H,env:=compEnvC scope (fT scope X.env) C X.env,outer:=X.stack,stack:=X.stack,ex:=fp,fn:=λ_=>false,pn:=[],xe:=λ_ _=>False}
def wQ (own:List Str)(js:List Nat)(σ:St):St:=own.map (λ_=>none)++js.map (λj=>(σ[j]?).join)
def BM (X:Cx)(own:List Str)(js:List Nat)(scope:Scope):Bool:=
 (scope.kind== .function)&&(scope.names.all λx=>x.2 != .cell)&&(scope.names.all λx=>x.2 != .local||scope.names.lookup x.1==some .local)&&
 (scope.names.all λx=>x.2 != .free||(X.env.kindOf x.1==some .cell||X.env.kindOf x.1==some .free))&&
 (js.all λj=>decide (j<X.N.length)&&scope.names.any (λy=>y.1==X.N.getD j Str.empty&&y.2== .free))&&
 (scope.names.all λx=>x.2 != .free||scope.names.lookup x.1 !=some .local)
theorem pQ {own:List Str}{js:List Nat}{σ:St}{X:Cx}{scope:Scope}{C:Addr}{s:Shared}{H:Hp}{fp:List Addr}:(wQ own js σ).length=(bI X own js scope C s H fp).N.length:=by
 show(wQ own js σ).length=(own++js.map (λj=>X.N.getD j Str.empty)).length;unfold wQ;simp
section
variable {X:Cx} {pins:List (Addr×Obj)} {σ:St} {H:Hp} {s:Shared} {own:List Str} {js:List Nat} {scope:Scope} {fp:List Addr} {C D:Addr} {h1:Heap}
structure ScB (X:Cx) (own:List Str) (js:List Nat) (scope:Scope):Prop where
 kind:scope.kind= .function
 nocell:∀y∈scope.names,y.2≠ .cell
 names:∀x∈scope.names,x.2= .local->scope.names.lookup x.1=some .local
 free:∀x∈scope.names,x.2= .free->X.env.kindOf x.1=some .cell\/X.env.kindOf x.1=some .free
 js:∀j∈js,j<X.N.length/\(X.N.getD j Str.empty,NameKind.free)∈scope.names
 one:∀x,(x,NameKind.free)∈scope.names->scope.names.lookup x≠some .local
theorem uR (h:BM X own js scope=true):ScB X own js scope:=by
 unfold BM at h;simp only[GP,Hk,Bool.or_eq_true,bne_iff_ne,Pa,GS,Ih] at h;obtain⟨⟨⟨⟨⟨h1,h2⟩,h3⟩,h4⟩,h5⟩,h6⟩:=h;refine⟨h1,h2,λx hx e=>?_,λx hx e=>?_,λj hj=>?_,λx hx=>?_⟩
 .rcases h3 x hx with z|z
  .exact absurd e z
  .exact z
 .rcases h4 x hx with z|z
  .exact absurd e z
  .exact z
 .obtain⟨a,y,hy,e1,e2⟩:=h5 j hj;refine⟨a,?_⟩;obtain⟨n,k⟩:=y;simp only at e1 e2;rw[←e1,←e2];exact hy
 .rcases h6 _ hx with z|z
  .exact absurd rfl z
  .exact z
theorem ScB.cells (S:ScB X own js scope)(I:Inv X pins σ H s):∀x∈scope.names,x.2= .free->∃c,X.env.cells.lookup x.1=some c:=λx hx e=>I.ok.has x.1 (S.free x hx e)
theorem Inv.block (S:ScB X own js scope)(I:Inv X pins σ H s)(hf:∀b∈fp,cJ X pins H b)(y_:∀b∈fp,∃o,s.heap.get? b=some o)(hC:s.heap.objs.size<=C){m:Str->Option Value}{t':Nat}(hn:h1.Ns C m)(k:∀b u,s.heap.get? b=some u->h1.get? b=some u):
  Inv (bI X own js scope C s H fp) (X.pn++pins) (wQ own js σ) H {s with heap:=h1,toks:=t'}:=by
 have x_:=S.cells I
 have below:∀b o,s.heap.get? b=some o->b≠C:=λb o e=>GU (GK (GH e) hC)
 have stk:∀b,b≠X.env.locals->b∉X.fs->b∉Y0 X.stack:=λb h1 h2 z=>by
  rcases Hh.mp (I.stkSub b z) with e|e
  .exact h1 e
  .exact h2 e
 have noex:∀b o,X.base.get? b=some o->b∉fp:=λb o e z=>by
  rcases(hf b z).2.2.2.1 with q|q
  .exact I.ok.noex b o e q
  .exact absurd (GK (GH e) (He I.ok.bsz q)) (Ib _)
 refine⟨⟨I.ok.mod,S.kind,I.ok.glob,I.ok.blt,hC,λx y c e1 e2=>?_,λx hx=>?_,λx c z _=>(Hi z).elim,I.ok.hd,I.ok.frames,.inl rfl,λb hb=>⟨?_,λx c e=>?_⟩,I.bs,He I.ok.bsz I.sz,noex,λb hb=>?_,I.stack,I.stkFree⟩,
  rfl,I.bare,Un.kept k,⟨m,hn,λi x v e1 e2 e3=>?_⟩,λx c e=>?_,?_,λx c e=>?_,λp hp=>?_,I.hok.kept k,pQ⟩
 .exact I.ok.inj x y c (Q8 x_ e1) (Q8 x_ e2)
 .have hm:=ko S.nocell (x:=x) (env:=X.env) hx
  obtain⟨c,e⟩:=x_ (x,.free) hm rfl
  exact⟨c,(mi x_ hm).trans e⟩
 .obtain⟨o,e⟩:=y_ b hb;exact below b o e
 .exact(hf b hb).2.2.2.2.1 x c (Q8 x_ e)
 .exact stk b (hf b hb).2.1 (hf b hb).2.2.1
 .have OS:(own++js.map (λj=>X.N.getD j Str.empty))[i]?=some x:=e1
  unfold wQ at e2
  by_cases hi:i<own.length
  .rw[HQ (by simpa using hi),Gx] at e2
   rw[Gu hi] at e2
   simp at e2
  .rw[Ic (by simpa using hi),Gx] at e2
   rw[Ic (by simpa using hi),Gx] at OS
   have el:(own.map λ_=>(none:Option V)).length=own.length:=by simp
   rw[el] at e2
   cases hj:js[i -own.length]? with
   |none=>rw[hj] at OS;simp at OS
   |some j=>
    rw[hj] at OS e2
    simp only[IX,KW] at OS e2
    have XG:j∈js:=GJ hj
    obtain⟨j',MN⟩:=S.js j XG
    have XH:X.N[j]?=some x:=by
     rw[←OS,Hj,Gu j'];simp
    have hσ:σ[j]?=some (some v):=by
     cases q:σ[j]? with
     |none=>rw[q] at e2;simp at e2
     |some w=>rw[q] at e2;simp at e2;rw[e2]
    rw[OS] at MN
    obtain⟨m0,VY,QB⟩:=I.loc
    have VZ:X.env.kindOf x=some .cell\/X.env.kindOf x=some .free:=S.free (x,.free) MN rfl
    obtain⟨u,r,l⟩:=QB j x v XH hσ (by rcases VZ with z|z;exact .inr (.inl z);exact .inr (.inr z))
    refine⟨u,r,?_⟩
    rcases l with⟨z,_⟩|⟨_,c,hc,Mo⟩
    .rcases VZ with q|q
     .rw[q] at z;cases z
     .rw[q] at z;cases z
    .have L':(fT scope X.env).lookup x=some c:=(mi x_ MN).trans hc
     obtain⟨oc,ON,OO⟩:=Mo
     refine .inr ⟨?_,c,L',⟨oc,k _ _ ON,OO⟩⟩
     rcases e3 with z|z|z
     .exfalso
      have XI:(relabel scope X.env).names.lookup x=some .local:=z
      exact absurd XI (by
       intro hh;have key:∀l:List (Str×NameKind),(∀y∈l,y.2= .local->scope.names.lookup y.1=some .local)->(l.map fun(n,k)=>if(k==NameKind.free&&X.env.scope.kind== .function&&X.env.kindOf n==some .cell) then(n,NameKind.cell) else(n,k)).lookup x=some .local->scope.names.lookup x=some .local:=by
        intro l;induction l with
        |nil=>intro _ e;simp at e
        |cons y r ih=>
         obtain⟨n,k0⟩:=y
         intro hl e
         rw[Hu] at e
         dsimp only at e
         by_cases hcnd:(k0==NameKind.free&&X.env.scope.kind== .function&&X.env.kindOf n==some .cell)=true
         .rw[if_pos hcnd] at e
          cases hx:x==n with
          |true=>simp only[Ii,hx] at e;cases e
          |false=>simp only[Ii,hx] at e;exact ih (λy hy=>hl y (GY _ hy)) e
         .rw[if_neg hcnd] at e
          cases hx:x==n with
          |true=>
           simp only[Ii,hx] at e
           have e':k0= .local:=GL e
           have:x=n:=by simpa using hx
           subst this
           exact hl (x,k0) Hg e'
          |false=>simp only[Ii,hx] at e;exact ih (λy hy=>hl y (GY _ hy)) e
       have a:=key scope.names S.names hh;exact S.one x MN a)
     .exact .inl z
     .exact .inr z
 .obtain⟨v,o,ho,hd⟩:=I.cell x c (Q8 x_ e)
  exact⟨v,o,k _ _ ho,hd⟩
 .exact I.hok.fresh hC
 .exact I.freeC x c (Q8 x_ e)
 .obtain⟨e,n,ne,nf,d⟩:=I.pin p hp
  exact⟨k _ _ e,n,below _ _ e,stk _ ne nf,d⟩
end
theorem HOk.track {P:Program}{w:World}{H:Hp}{h h':Heap}{a C:Addr}{o:HO}(x:HOk P w H h)(hC:H C=none)(k:∀b,b≠C->h'.get? b=h.get? b)(hn:H a=none)(new:ObjOk P w (p0 H a o) h' a o):HOk P w (p0 H a o) h':=λb u e=>by
 by_cases hb:b=a
 .subst hb;rw[b7] at e;cases e;exact new
 .rw[b9 hb] at e;refine(x b u e).stay (λc v hc q=>?_) (λc q=>by rw[b9 (j4 q hn)];exact q) λc xs q=>by rw[b9 (j4 q hn)];exact q
  have XJ:c≠C:=by
   rcases hc with z|z
   .subst z;exact j4 e hC
   .exact j4 z hC
  rw[k c XJ];exact q
abbrev uV (ifs:List Expr)(env:Env):Sem Bool:=forIn ifs true λc r=>if r=true then do let ok←isTrue c env (eval c env);pure (ForInStep.yield ok) else pure (ForInStep.yield r)
def oZ (X:Cx)(ifs:List Expr)(t:TT):Prop:=
 ∀(pins:List (Addr×Obj)) (s:Shared) (σ:St) (H:Hp) (Q:Bool->Hp->Prop),Inv X pins σ H s->t σ H Q->wpAny (model X.prog X.w) X.A (uV ifs X.env) (TP X pins σ Q) X.xe s
theorem ER {X:Cx}:oZ X [] (λ_ H Q=>Q true H):=λpins s σ H Q I h=>wpAny_tests_nil ⟨H,I,h⟩
theorem Fw {X:Cx}{c:Expr}{t:TT}(h:PT X c t):oZ X [c] t:=λpins s σ H Q I hq=>wpAny_tests_one (h pins s σ H Q I hq)
section
variable {X:Cx} {pins:List (Addr×Obj)} {σ:St} {H:Hp} {s:Shared} {own:List Str} {js:List Nat} {scope:Scope}
variable {tg iter elt:Expr} {ifs:List Expr} {pos:Pos} {g:TG} {ti:TT} {te:TE}
structure BlockEnd (X:Cx) (pins:List (Addr×Obj)) (own:List Str) (js:List Nat) (scope:Scope) (σ:St) (H:Hp) (s:Shared) (fp:List Addr) (C D:Addr) (out:List V) (H':Hp) (s':Shared):Prop where
 inv:Inv (bI X own js scope C s H fp) (X.pn++pins) (wQ own js σ) H' s'
 free:H' D=none
 obj:∃(a_:List Value) (n:Nat),Vals out a_/\s'.heap.get? D=some {cls:= .type "list",data:= .seq a_.toArray n}
theorem BlockEnd.out {fp:List Addr}{C D:Addr}{out:List V}{H':Hp}{s':Shared}{h':Heap}(e:BlockEnd X pins own js scope σ H s fp C D out H' s')(I:Inv X pins σ H s)(hf:∀b∈fp,cJ X pins H b)(hD:s.heap.objs.size<=D)(hC:s.heap.objs.size<=C)(MO:D≠C)
  (hl:out.length<=sizeLine) (sb:Heap.SameBut C s'.heap h'):Inv X pins σ (p0 H' D (.lst out)) {s' with heap:=h'}:=by
 obtain⟨a_,n,rv,ob⟩:=e.obj
 have J:=e.inv
 have U:Un (Y0 X.stack) fp H H' s.heap s'.heap:=J.base
 have same:∀b,b≠C->h'.get? b=s'.heap.get? b:=λb hb=>sb.2 b hb
 have old:∀b o,s.heap.get? b=some o->b≠C/\b≠D:=λb o q=>⟨GU (GK (GH q) hC),GU (GK (GH q) hD)⟩
 have Tc:H' C=none:=J.free
 refine I.call' (s':={s' with heap:=h'}) (ch:=fp) J.os ?_ ?_ J.bare λb hb=>?_
 .refine⟨λb o q n hb hx=>?_,λb o q n hb hx=>?_,λb o q n hx=>?_,λb o q hx=>?_,λb xs q=>?_,λb o u q=>?_,λb ps q=>?_⟩
  .show h'.get? b=_
   rw[same b (old b o q).1];exact U.keep b o q n hb hx
  .show ∃sl,h'.get? b=_
   rw[same b (old b o q).1];exact U.slot b o q n hb hx
  .rw[b9 (old b o q).2];exact U.free b o q n hx
  .show ∃o',h'.get? b=_
   rw[same b (old b o q).1];exact U.there b o q hx
  .rw[b9 (j4 (U.tups b xs q) e.free)];exact U.tups b xs q
  .rw[b9 (j4 (U.frzs b o u q) e.free)];exact U.frzs b o u q
  .obtain⟨mo,z⟩:=U.tbls b ps q
   exact⟨mo,by rw[b9 (j4 z e.free)];exact z⟩
 .refine HOk.track J.hok Tc same e.free ?_
  exact⟨hl,a_,n,rv,by rw[same D MO];exact ob⟩
 .exact⟨(hf b hb).2.2.2.1,(hf b hb).2.1,(hf b hb).2.2.2.2.1,(hf b hb).2.2.2.2.2⟩
theorem jH (S:ScB X own js scope)(hc:X.calm=true){fp:List Addr}{it C D:Addr}{tn:Nat->Heap->Prop}{J:It}(T:dE X.prog X.w X.K tg J fp it tn)(I:Inv X pins σ H s)(hf:∀b∈fp,cJ X pins H b)
  (hD:s.heap.objs.size<=D) (hC:s.heap.objs.size<=C) (MO:D≠C) (y_:∀b∈fp,∃o,s.heap.get? b=some o)
  (hg:PG (bI X own js scope C s H fp) tg g) (hi:oZ (bI X own js scope C s H fp) ifs ti) (he:PE (bI X own js scope C s H fp) elt te)
  (W:Nat->Nat->List V->Hp->Prop) {K:List V->Hp->Prop}
  (turn:∀i m out H,W i m out H->(J.stop i H/\(H D=none->out.length<=sizeLine/\K out H))\/
   (J.go i H/\∀x H',J.yld i H x H'->g x (wQ own js σ) H' λσ2 H2=>σ2.drop own.length=js.map (λj=>(σ[j]?).join)/\ti σ2 H2 λb H3=>
    if b=true then te σ2 H3 λv H4=>out.length<=sizeLine/\∃m',m'<m/\W (i+1) m' (out++[v]) H4 else ∃m',m'<m/\W (i+1) m' out H3))
  {R:Result->Shared->Prop} (hR:∀out H' s',BlockEnd X pins own js scope σ H s fp C D out H' s'->out.length<=sizeLine->K out H'->R (.ok .next) s')
  {m0:Nat} {H1:Hp} {s1:Shared} (w0:W 0 m0 [] H1) (B:BlockEnd X pins own js scope σ H s fp C D [] H1 s1) (st:tn 0 s1.heap) (fr:∀b∈fp,H1 b=none):
  codeAny (model X.prog X.w) X.A (.compLoop (.ListComp elt [⟨tg,iter,ifs,0⟩] scope pos) 0 (.ref it) (.ref D) (compEnvC scope (fT scope X.env) C X.env)) R s1:=by
 have Nt:∀{H':Hp},(∀b∈fp,H' b=none)->∀b∈fp,cJ (bI X own js scope C s H fp) (X.pn++pins) H' b:=λhn b hb=>by
  obtain⟨o,ho⟩:=y_ b hb;refine⟨hn b hb,GU (GK (GH ho) hC),?_,.inl hb,λx c e=>(hf b hb).2.2.2.2.1 x c (Q8 (S.cells I) e),λp hp=>(hf b hb).2.2.2.2.2 p hp⟩;intro z;rcases Hh.mp (I.stkSub b z) with e|e
  .exact(hf b hb).2.1 e
  .exact(hf b hb).2.2.1 e
 have V':D∉fp:=λz=>by
  obtain⟨o,ho⟩:=y_ D z;exact absurd (GK (GH ho) hD) (Ib _)
 have QC:∀x c,(bI X own js scope C s H fp).env.cells.lookup x=some c->c≠D:=λx c e z=>by
  obtain⟨v,o,ho,_⟩:=I.cell x c (Q8 (S.cells I) e);rw[z] at ho;exact absurd (GK (GH ho) hD) (Ib _)
 have Td:∀p∈X.pn++pins,p.1≠D:=λp hp z=>by
  have ho:=(I.pin p hp).1;rw[z] at ho;exact absurd (GK (GH ho) hD) (Ib _)
 have XN:D∉(bI X own js scope C s H fp).fs:=λz=>by
  obtain⟨_,o,ho,_⟩:=I.stack.mem z;exact absurd (GK (GH ho) hD) (Ib _)
 refine codeAny_loop rfl (λn s'=>∃i out H',BlockEnd X pins own js scope σ H s fp C D out H' s'/\tn i s'.heap/\(∀b∈fp,H' b=none)/\W i n out H') (λn s3 hI=>?_) m0 ⟨0,[],H1,B,st,fr,w0⟩
 obtain⟨i,out,H3,B3,QD,QF,w3⟩:=hI
 obtain⟨a_,nD,rv,V_⟩:=B3.obj
 have QH:∀{σ':St} {H':Hp} {s':Shared},Inv (bI X own js scope C s H fp) (X.pn++pins) σ' H' s'->H' D=none->s'.heap.get? D=some {cls:= .type "list",data:= .seq a_.toArray nD}->
   Inv (bI X own js scope C s H fp) (X.pn++pins++[(D,{cls:= .type "list",data:= .seq a_.toArray nD})]) σ' H' s':=fun{σ' H' s'} I' n' e'=>I'.pins_of λp hp=>by
  rcases GO.mp hp with z|z
  .exact I'.pin p (by show p∈([]:List (Addr×Obj))++_;exact GG _ z)
  .have z':p=(D,{cls:= .type "list",data:= .seq a_.toArray nD}):=by simpa using z
   subst z'
   exact⟨e',n',MO,XN,λv q=>by cases q⟩
 have Nu:∀{H':Hp},(∀b∈fp,H' b=none)->∀b∈fp,cJ (bI X own js scope C s H fp) (X.pn++pins++[(D,{cls:= .type "list",data:= .seq a_.toArray nD})]) H' b:=λhn b hb=>by
  obtain⟨a1,a2,a3,a4,a5,a6⟩:=Nt hn b hb;refine⟨a1,a2,a3,a4,a5,λp hp=>?_⟩;have r_:p∈X.pn++pins++[(D,{cls:= .type "list",data:= .seq a_.toArray nD})]:=hp;rcases GO.mp r_ with z|z
  .exact a6 p (by show p∈([]:List (Addr×Obj))++_;exact z)
  .have z':p=(D,{cls:= .type "list",data:= .seq a_.toArray nD}):=by simpa using z
   subst z';rintro rfl;exact V' hb
 have Te:∀{α:Type} {t:Sem α} {Q Q':α->Shared->Prop} {E:Value->Shared->Prop} {s:Shared},wpAny (model X.prog X.w) X.A t Q (λ_ _=>False) s->(∀a s,Q a s->Q' a s)->wpAny (model X.prog X.w) X.A t Q' E s:=
  λh hQ=>Kr h hQ λ_ _ x=>x.elim
 have Tf:∀{pl:List (Addr×Obj)} {σ':St} {H':Hp} {s':Shared},Inv (bI X own js scope C s H fp) (X.pn++pins++[(D,{cls:= .type "list",data:= .seq a_.toArray nD})]++pl) σ' H' s'->Inv (bI X own js scope C s H fp) (X.pn++pins) σ' H' s'/\H' D=none/\s'.heap.get? D=some {cls:= .type "list",data:= .seq a_.toArray nD}:=fun{pl σ' H' s'} I'=>by
  have q:=I'.pin (D,{cls:= .type "list",data:= .seq a_.toArray nD}) (GG _ (GA _ (GG _ (by simp))));exact⟨I'.unpinned.unpinned,q.2.1,q.1⟩
 show wpAny _ X.A ((compTurn (.ListComp elt [⟨tg,iter,ifs,0⟩] scope pos) 0 (.ref it) (.ref D) (compEnvC scope (fT scope X.env) C X.env)).onRaise (λx=>do noteFrame x (compEnvC scope (fT scope X.env) C X.env);theTreesLotGoes x)) _ _ s3
 refine wpAny_noted ?_
 rw[compTurn_list]
 refine Gz (Mv (Gz ?_))
 rcases turn i n out H3 w3 with⟨stop,fin⟩|⟨go,step⟩
 .refine E9 (T.done (bI X own js scope C s H fp) rfl rfl rfl hc i _ s3 _ H3 _ (QH B3.inv B3.free V_) (Nu QF) QD stop) λr s4 ⟨hr,I4⟩=>?_
  subst hr
  obtain⟨J4,n4,o4⟩:=Tf (pl:=[]) (by rw[HX];exact I4)
  obtain⟨hl,k⟩:=fin B3.free
  exact GN (hR out H3 s4 ⟨J4,n4,a_,nD,rv,o4⟩ hl k)
 .refine E9 (T.item (bI X own js scope C s H fp) rfl rfl rfl hc i _ s3 _ H3 _ (QH B3.inv B3.free V_) (Nu QF) QD go) λr s4 ⟨u,hr,h4⟩=>?_
  subst hr
  refine Gz (E9 h4 λ_ s5 ⟨x,H5,I5,r5,y5,st5,fr5⟩=>?_)
  have Tg:=I5.pinned (Nu fr5) (T.obj _ _ st5)
  refine Gz (Te (hg _ s5 _ H5 x u _ Tg r5 (step x H5 y5)) λ_ s6 ⟨σ6,H6,I6,q6⟩=>?_)
  obtain⟨ed,q6⟩:=q6
  refine Gz (Te (hi _ s6 σ6 H6 _ I6 q6) λok s7 ⟨H7,I7,q7⟩=>?_)
  have stay:∀{H':Hp} {s':Shared},Inv (bI X own js scope C s H fp) (X.pn++pins++[(D,{cls:= .type "list",data:= .seq a_.toArray nD})]++gQ fp s5.heap) σ6 H' s'->tn (i+1) s'.heap/\∀b∈fp,H' b=none:=fun{H' s'} I'=>by
   refine⟨T.keep _ _ _ st5 λb hb o e=>(I'.pin (b,o) (GG _ (GG _ (Z2 hb e)))).1,λb hb=>?_⟩;obtain⟨o,e,d⟩:=T.obj _ _ st5 b hb;exact(I'.pin (b,o) (GG _ (GG _ (Z2 hb e)))).2.1
  have wk:∀{H':Hp} {s':Shared},Inv (bI X own js scope C s H fp) (X.pn++pins) σ6 H' s'->Inv (bI X own js scope C s H fp) (X.pn++pins) (wQ own js σ) H' s':=fun{H' s'} I'=>by
   refine I'.weak (by rw[I'.len];exact pQ) λk v e=>?_;unfold wQ at e;by_cases hk:k<own.length
   .rw[HQ (by simpa using hk),Gx,Gu hk] at e;simp at e
   .rw[Ic (by simpa using hk)] at e;have el:(own.map λ_=>(none:Option V)).length=own.length:=by simp
    rw[el,←ed,Jr] at e;have ek:own.length+(k -own.length)=k:=by lia
    rw[ek] at e;exact e
  cases ok with
  |false=>
   rw[if_neg Hi] at q7
   obtain⟨m',hm,w7⟩:=q7
   obtain⟨J7,n7,o7⟩:=Tf I7
   exact GN ⟨rfl,m',hm,i+1,out,H7,⟨wk J7,n7,a_,nD,rv,o7⟩,(stay I7).1,(stay I7).2,w7⟩
  |true=>
   rw[if_pos rfl] at q7
   refine Gz (Gz (Te (he _ s7 σ6 H7 _ I7 q7) λy s8 ⟨v,H8,I8,r8,Wa,m',hm,w8⟩=>?_))
   obtain⟨J8,n8,o8⟩:=Tf I8
   have isl:s8.heap.IsList D a_.toArray:=⟨_,o8,rfl,nD,rfl⟩
   refine Gz (wpAny_list_append_plain (hsz:=by have:=rv.length;simp;lia) ⟨nD,o8⟩ λh' r_ J'=>?_)
   obtain⟨nn,XO⟩:=r_
   have XQ:h'.get? D=some {cls:= .type "list",data:= .seq (a_++[y]).toArray nn}:=by
    rw[XO,List.push_toArray]
   have keep:∀b o,b≠D->s8.heap.get? b=some o->h'.get? b=some o:=λb o hb e=>(J'.2 b hb).trans e
   have J9:Inv (bI X own js scope C s H fp) (X.pn++pins) σ6 H8 {s8 with heap:=h'}:=J8.turned (t':=s8.toks) keep n8 MO (.inr hD) QC (λp hp=>Td p (by
    have r_:p∈([]:List (Addr×Obj))++(X.pn++pins):=hp;rw[LH] at r_;exact r_))
   refine GN (GN ⟨rfl,m',hm,i+1,out++[v],H8,⟨wk J9,n8,a_++[y],nn,rv.append (.cons r8 .nil),XQ⟩,?_,(stay I8).2,w8⟩)
   exact T.keep _ _ _ (stay I8).1 λb hb o e=>keep b o (by rintro rfl;exact V' hb) e
end
def FF (n:Nat)(PV:Nat->V->Prop):It:=⟨λi _=>i<n,λi H x H'=>H'=H/\PV i x,λi _=>n<=i⟩
theorem qA {M:Model}{A:Around}{E:Value->Shared->Prop}{s:Shared}{tg:Expr}{it:Addr}{u:Value}{Q:Unit->Shared->Prop}(hu:∀a,u≠ .ref a)(hQ:Q () s):wpAny M A (letOwnedTupleGo tg (.ref it) u) Q E s:=by
 unfold letOwnedTupleGo;cases tg<;>first
  |exact GN hQ
  |(cases u<;>first
    |exact GN hQ
    |exact absurd rfl (hu _))
theorem hX {P:Program}{w:World}{K:Qc}{tg:Expr}{it:Addr}{n:Nat}{Pv:Nat->Value->Prop}{PV:Nat->V->Prop}{St:Nat->Heap->Prop}
  (W:∀A:Around,A.handled=none->Walks P w A it [it] [it] n Pv St) (hv:∀i u,Pv i u->(∀a,u≠ .ref a)/\∃x,RelV x u/\PV i x)
  (ho:∀i h,St i h->∃o,h.get? it=some o/\∀v,o.data≠ .cell v)
  (hk:∀i h h',St i h->(∀o,h.get? it=some o->h'.get? it=some o)->St i h')
  (QJ:∀(A:Around) (i:Nat) (s:Shared) (Q:Value->Shared->Prop) (E:Value->Shared->Prop),St i s.heap->Q (.ref it) s->wpAny (model P w) A (pyIter (.ref it)) Q E s):
  dE P w K tg (FF n PV) [it] it (λi h=>St i h/\i<=n) where
 mem:=by simp
 obj:=λi h st b hb=>by
  have e:b=it:=by simpa using hb
  subst e;exact ho i h st.1
 keep:=λi h h' st k=>⟨hk i h h' st.1 λo e=>k it (by simp) o e,st.2⟩
 item:=by
  intro X hP hw hK hc i pins s σ H E I hf st hg;subst hP hw hK;obtain⟨f0,f1,f2,f3,f4,f5⟩:=hf it (by simp);refine(W X.A (I.ok.hd hc)).item i s _ _ hg st.1 λv h' tk hv' Lf kk=>?_;obtain⟨G',x,rx,px⟩:=hv i v hv';have I1:Inv X pins σ H {s with heap:=h',toks:=tk}:=I.turned (λb o hb e=>kk b o (by simpa using hb) e) f0 f1 f3 f4 f5;exact⟨v,rfl,qA G' ⟨x,H,I1,rx,⟨rfl,px⟩,⟨Lf,hg⟩,λb hb=>(hf b hb).1⟩⟩
 done:=by
  intro X hP hw hK hc i pins s σ H E I hf st hg;subst hP hw hK;obtain⟨f0,f1,f2,f3,f4,f5⟩:=hf it (by simp);have e:i=n:=Nat.le_antisymm st.2 hg;subst e;exact(W X.A (I.ok.hd hc)).done s _ _ st.1 λh' tk kk=>⟨rfl,I.turned (λb o hb e=>kk b o (by simpa using hb) e) f0 f1 f3 f4 f5⟩
 self:=λA i s Q E st h=>QJ A i s Q E st.1 h
def xc (c:Nat):V:= .str ⟨#[c]⟩
def yZ (x:Str)(i:Nat)(v:V):Prop:=∃c,x.cps[i]?=some c/\v=xc c
def Its (x:Str):It:=FF x.cps.size (yZ x)
theorem uj {x:Str}{i:Nat}{u:Value}(h:SignAt x i u):(∀a,u≠ .ref a)/\∃v,RelV v u/\yZ x i v:=by
 obtain⟨c,t,hc,rfl⟩:=h;exact⟨λa z=>(by cases z),xc c,⟨t,rfl⟩,c,hc,rfl⟩
theorem tm {P:Program}{w:World}{K:Qc}{tg:Expr}(it:Addr)(x:Str)(t:Tok):dE P w K tg (Its x) [it] it (λi h=>h.IsStrIter it "str_ascii_iterator" x t i/\i<=x.cps.size):=
 hX (λA hh=>Walks.strAscii hh it x t) (λi u h=>uj h)
  (λi h st=>by obtain⟨o,e,c,d⟩:=st;exact⟨o,e,λv z=>by rw[d] at z;cases z⟩)
  (λi h h' st k=>let ⟨o,e,r⟩:=st;⟨o,k o e,r⟩)
  (λA i s Q E st h=>wpAny_pyIter_striter_ascii st h)
theorem sI {P:Program}{w:World}{K:Qc}{tg:Expr}(it:Addr)(x:Str)(t:Tok):dE P w K tg (Its x) [it] it (λi h=>h.IsStrIter it "str_iterator" x t i/\i<=x.cps.size):=
 hX (λA hh=>Walks.strWide hh it x t) (λi u h=>uj h)
  (λi h st=>by obtain⟨o,e,c,d⟩:=st;exact⟨o,e,λv z=>by rw[d] at z;cases z⟩)
  (λi h h' st k=>let ⟨o,e,r⟩:=st;⟨o,k o e,r⟩)
  (λA i s Q E st h=>wpAny_pyIter_striter_wide st h)
section
variable {X:Cx} {tg:Expr}
def rIter (K:Qc)(v:V)(H:Hp)(R:It->Hp->Prop):Prop:=
 (∃a,v= .ref a/\(∃xs,SqL K H a xs)/\R (Itl K a) H)\/(∃a,v= .ref a/\(∃xs,SqT K H a xs)/\R (FD K a) H)\/(∃x,v= .str x/\R (Its x) H)
theorem tP {pins:List (Addr×Obj)}{σ:St}{H1:Hp}{s1:Shared}{x:V}{v:Value}{R:It->Hp->Prop}(I1:Inv X pins σ H1 s1)(r1:RelV x v)(q1:rIter X.K x H1 R):
  wpAny (model X.prog X.w) X.A (pyIter v) (Ei X pins σ tg R) X.xe s1:=by
 have RY:∀b∈[s1.heap.objs.size],cJ X pins H1 b:=λb hb=>by
  have e:b=s1.heap.objs.size:=by simpa using hb
  subst e;exact I1.fpOk (Gv _) (I1.hok.fresh (Gv _))
 rcases q1 with⟨a,e,⟨xs,hq⟩,q⟩|⟨a,e,⟨xs,hq⟩,q⟩|⟨z,e,q⟩
 .subst e
  cases r1
  obtain⟨a_,rv,p,hz⟩:=I1.list hq
  refine JA p.isList ?_
  exact⟨s1.heap.objs.size,[s1.heap.objs.size],_,_,H1,rfl,I1.kept (t':=s1.toks) λb o e=>GB _ e,tw a _,⟨_,GW _ rfl,rfl,rfl⟩,RY,q⟩
 .subst e
  cases r1
  obtain⟨a_,rv,p,hz⟩:=I1.tuple hq
  refine wpAny_pyIter_tuple (show s1.heap.IsTuple a a_.toArray from p) ?_
  exact⟨s1.heap.objs.size,[s1.heap.objs.size],_,_,H1,rfl,I1.kept (t':=s1.toks) λb o e=>GB _ e,nY a _,⟨_,GW _ rfl,rfl,rfl⟩,RY,q⟩
 .subst e
  obtain⟨t,rfl⟩:=r1
  cases ha:z.cps.all (·<128) with
  |false=>exact wpAny_pyIter_wide ha ⟨s1.heap.objs.size,[s1.heap.objs.size],_,_,H1,rfl,I1.kept (t':=s1.toks) λb o e=>GB _ e,sI _ z t,⟨⟨_,GW _ rfl,rfl,rfl⟩,IA _⟩,RY,q⟩
  |true=>exact wpAny_pyIter_ascii ha ⟨s1.heap.objs.size,[s1.heap.objs.size],_,_,H1,rfl,I1.kept (t':=s1.toks) λb o e=>GB _ e,tm _ z t,⟨⟨_,GW _ rfl,rfl,rfl⟩,IA _⟩,RY,q⟩
end
section
variable {X:Cx}
theorem kz:∀{bs:List Bool} {us:List Value},Vals (bs.map V.bl) us->us=bs.map Value.bool
 |[],_,.nil=>rfl
 |b::bs,_,.cons r t=>by
  have e:_=Value.bool b:=r;rw[e,kz t];rfl
theorem pz (bs:List Bool):((List.range bs.length).all λi=>(bs[i]?).getD true)=bs.all id:=by
 rw[Hq,Hk,Hk];constructor
 .intro h b hb;obtain⟨i,hi,rfl⟩:=Mp hb;have:=h i (JF.mpr hi);simpa [Gu hi] using this
 .intro h i hi;have OT:=JF.mp hi;simpa [Gu OT] using h _ (Hv OT)
theorem nW (bs:List Bool):((List.range bs.length).any λi=>(bs[i]?).getD true)=bs.any id:=by
 rw[Hq,Ih,Ih];constructor
 .rintro⟨i,hi,e⟩;have OT:=JF.mp hi;simp only[Gu OT,JJ] at e;exact⟨_,Hv OT,e⟩
 .rintro⟨b,hb,e⟩;obtain⟨i,hi,rfl⟩:=Mp hb;exact⟨i,JF.mpr hi,by simp only[Gu hi,JJ];exact e⟩
theorem qP {s:Shared}{h':Heap}{o:Obj}(hk:∀b x,b∉[s.heap.objs.size]->(s.heap.push o).get? b=some x->h'.get? b=some x):∀b x,s.heap.get? b=some x->h'.get? b=some x:=
 λb x e=>hk b x (λhm=>by rw[GZ.mp hm] at e;exact Ib _ (GH e)) (GB _ e)
def rp (K:Qc):List V->Hp->VK->Prop:=λxs H Q=>∃(p:Addr) (bs:List Bool),xs=[.ref p]/\SqL K H p (bs.map V.bl)/\Q (.bl (bs.all id)) H
def Co (K:Qc):List V->Hp->VK->Prop:=λxs H Q=>∃(p:Addr) (bs:List Bool),xs=[.ref p]/\SqL K H p (bs.map V.bl)/\Q (.bl (bs.any id)) H
theorem sS (hc:X.calm=true):CallR X (.builtin "all") (rp X.K):=by
 intro pins s σ H xs us Q I r h;obtain⟨l,bs,rfl,hx,q⟩:=h;obtain⟨u,rfl,ru⟩:=G6 r;cases ru;obtain⟨a_,rv,ht,hz⟩:=I.list hx;have e:=kz rv;subst e;have hl:=ht.isList;have j':l<s.heap.objs.size:=ht.lt;refine call_all_walk (JA hl ?_);refine⟨s.heap.objs.size,[s.heap.objs.size,l],[s.heap.objs.size],(bs.map Value.bool).toArray.size,_,_,λi=>(bs[i]?).getD true,rfl,Walks.list (A:=X.A.in1) (I.ok.hd hc) _ l (GU j') (bs.map Value.bool).toArray,
  ⟨⟨_,GW _ rfl,rfl,rfl⟩,hl.push _⟩,λi v s' Q' E' hP hQ=>?_,λh' tk hk=>?_⟩
 .have Nv:(bs.map Value.bool)[i]?=some v:=by simpa using hP
  rw[Gx] at Nv;cases e:bs[i]? with
  |none=>rw[e] at Nv;cases Nv
  |some b=>
   rw[e] at Nv
   cases Nv
   simp only[e,JJ] at hQ
   exact Ip hQ
 .have e:((List.range (bs.map Value.bool).toArray.size).all λi=>(bs[i]?).getD true)=bs.all id:=by
   rw[Hd,Gs];exact pz bs
  rw[e];exact⟨.bl (bs.all id),H,I.kept (qP hk),rfl,q⟩
theorem tf (hc:X.calm=true):CallR X (.builtin "any") (Co X.K):=by
 intro pins s σ H xs us Q I r h;obtain⟨l,bs,rfl,hx,q⟩:=h;obtain⟨u,rfl,ru⟩:=G6 r;cases ru;obtain⟨a_,rv,ht,hz⟩:=I.list hx;have e:=kz rv;subst e;have hl:=ht.isList;have j':l<s.heap.objs.size:=ht.lt;refine call_any_walk (JA hl ?_);refine⟨s.heap.objs.size,[s.heap.objs.size,l],[s.heap.objs.size],(bs.map Value.bool).toArray.size,_,_,λi=>(bs[i]?).getD true,rfl,Walks.list (A:=X.A.in1) (I.ok.hd hc) _ l (GU j') (bs.map Value.bool).toArray,
  ⟨⟨_,GW _ rfl,rfl,rfl⟩,hl.push _⟩,λi v s' Q' E' hP hQ=>?_,λh' tk hk=>?_⟩
 .have Nv:(bs.map Value.bool)[i]?=some v:=by simpa using hP
  rw[Gx] at Nv;cases e:bs[i]? with
  |none=>rw[e] at Nv;cases Nv
  |some b=>
   rw[e] at Nv
   cases Nv
   simp only[e,JJ] at hQ
   exact Ip hQ
 .have e:((List.range (bs.map Value.bool).toArray.size).any λi=>(bs[i]?).getD true)=bs.any id:=by
   rw[Hd,Gs];exact nW bs
  rw[e];exact⟨.bl (bs.any id),H,I.kept (qP hk),rfl,q⟩
def CM:V->Option Int->Option Int->Hp->VK->Prop:=λx lo hi H Q=>∃z,x= .str z/\z.length<=sizeLine/\Q (.str (Txt.slice z lo hi)) H
theorem BD:SlR X CM:=by
 intro pins s σ H x v vl vu lo hi sl Q I rx hs pl pu h;obtain⟨z,rfl,hz,q⟩:=h;obtain⟨t,rfl⟩:=rx;refine⟨"str",_,F.slot_str_getitem.lookup,LS _ _ _,?_⟩;have fin:∀t' k,EP X pins σ Q (.str (Txt.slice z lo hi) t') {s with toks:=k}:=λt' k=>⟨.str _,H,I.tok _,⟨t',rfl⟩,q⟩
 cases pl with
 |none=>
  cases pu with
  |none=>exact Ji (l:=none) (u:=none) (st:=none) hs rfl (Ku ⟨He (LJ z _ _) hz,fin⟩)
  |int j tj=>exact Ji (l:=none) (u:=some (j,tj)) (st:=none) hs rfl (Ku ⟨He (LJ z _ _) hz,fin⟩)
 |int i ti=>
  cases pu with
  |none=>exact Ji (l:=some (i,ti)) (u:=none) (st:=none) hs rfl (Ku ⟨He (LJ z _ _) hz,fin⟩)
  |int j tj=>exact Ji (l:=some (i,ti)) (u:=some (j,tj)) (st:=none) hs rfl (Ku ⟨He (LJ z _ _) hz,fin⟩)
def Ee (K:Qc):V->Option Int->Option Int->Hp->VK->Prop:=λx lo hi H Q=>Dw K x lo hi H Q\/DH K x lo hi H Q\/CM x lo hi H Q
theorem Az:SlR X (Ee X.K):=sl_list.or (sl_tup.or BD)
theorem RelV.plainB {x:V}{v:Value}(r:RelV x v)(b:Bool):plainIs v (.bool b)=true/\(v==Value.bool b)=decide (x= .bl b):=by
 cases x with
 |non=>cases r;exact⟨rfl,rfl⟩
 |bl c=>cases r;exact⟨rfl,by cases b<;>cases c<;>rfl⟩
 |int _=>obtain⟨t,rfl⟩:=r;exact⟨rfl,rfl⟩
 |str _=>obtain⟨t,rfl⟩:=r;exact⟨rfl,rfl⟩
 |byt _=>obtain⟨t,rfl⟩:=r;exact⟨rfl,rfl⟩
 |flt _=>obtain⟨t,rfl⟩:=r;exact⟨rfl,rfl⟩
 |ref _=>cases r;exact⟨rfl,rfl⟩
 |ty _=>cases r;exact⟨rfl,rfl⟩
def Ex (neg:Bool):R2:=λx y H Q=>(y= .non\/∃b,y= .bl b)/\Q (.bl (if neg then !decide (x=y) else decide (x=y))) H
theorem yW:OpR X (compareOp .Is) (Ex false):=by
 intro pins s σ H x y v u Q I rx ry h;obtain⟨hy,q⟩:=h;rcases hy with rfl|⟨b,rfl⟩
 .cases ry;exact is_none_gen ⟨.bl _,H,I,by rw[rx.none_iff];rfl,q⟩
 .cases ry;exact wpAny_is_plain (rx.plainB b).1 ⟨.bl _,H,I,by rw[(rx.plainB b).2];rfl,q⟩
theorem nN:OpR X (compareOp .IsNot) (Ex true):=by
 intro pins s σ H x y v u Q I rx ry h;obtain⟨hy,q⟩:=h;rcases hy with rfl|⟨b,rfl⟩
 .cases ry;exact isnot_none_gen ⟨.bl _,H,I,by rw[rx.none_iff];rfl,q⟩
 .cases ry;exact wpAny_isNot_plain (rx.plainB b).1 ⟨.bl _,H,I,by rw[(rx.plainB b).2];rfl,q⟩
def TyB (K:Qc)(H:Hp):V->String->Prop
 | .non,t=>t="NoneType"
 | .bl _,t=>t="bool"
 | .int _,t=>t="int"
 | .str _,t=>t="str"
 | .ref a,t=>(t="list"/\∃xs,SqL K H a xs)\/(t="tuple"/\∃xs,SqT K H a xs)\/(t="dict"/\∃kvs,Rd H a (.dK kvs))
 |_,_=>False
def fm (t T:String):Bool:=t==T||(t=="bool"&&T=="int")
def xg (K:Qc):List V->Hp->VK->Prop:=λxs H Q=>∃x T t,xs=[x,.ty T]/\TyB K H x t/\(T="str"\/T="int"\/T="bool"\/T="list"\/T="tuple"\/T="dict")/\Q (.bl (fm t T)) H
theorem U5 {K:Qc}{t T:String}(ht:t="NoneType"\/t="bool"\/t="int"\/t="str"\/t="list"\/t="tuple"\/t="dict")(hT:T="str"\/T="int"\/T="bool"\/T="list"\/T="tuple"\/T="dict"):
  PySem.W.kitOne K (.type t) (.type T)=some (fm t T):=by
 rcases ht with rfl|rfl|rfl|rfl|rfl|rfl|rfl<;>rcases hT with rfl|rfl|rfl|rfl|rfl|rfl<;>rfl
theorem call_isi:CallR X (.builtin "isinstance") (xg X.K):=by
 intro pins s σ H xs us Q I r h;obtain⟨x,T,t,rfl,ty,hT,q⟩:=h;obtain⟨u,c,rfl,rx,rc⟩:=U6 r;cases rc;have fin:∀tk,EP X pins σ Q (.bool (fm t T)) {s with toks:=tk}:=λtk=>⟨.bl _,H,I.tok tk,rfl,q⟩
 cases x with
 |non=>cases ty;cases (show u=Value.none from rx);exact IF PySem.W.kitx_none I.kIn True.intro (U5 (by simp) hT) (λz=>nomatch z) fin
 |bl y=>cases ty;cases (show u=Value.bool y from rx);exact IF PySem.W.kitx_bool I.kIn True.intro (U5 (by simp) hT) (λz=>nomatch z) fin
 |int i=>cases ty;obtain⟨t,q⟩:=(show ∃t,u=Value.int i t from rx);cases q;exact IF PySem.W.kitx_int I.kIn True.intro (U5 (by simp) hT) (λz=>nomatch z) fin
 |str y=>cases ty;obtain⟨t,q⟩:=(show ∃t,u=Value.str y t from rx);cases q;exact IF PySem.W.kitx_str I.kIn True.intro (U5 (by simp) hT) (λz=>nomatch z) fin
 |byt _=>exact False.elim ty
 |flt _=>exact False.elim ty
 |ty _=>exact False.elim ty
 |ref a=>
  cases (show u=Value.ref a from rx)
  rcases ty with⟨rfl,ys,hy⟩|⟨rfl,ys,hy⟩|⟨rfl,kvs,hy⟩
  .obtain⟨a_,_,⟨o,n,e,c,_,_⟩,_⟩:=I.list hy
   exact IF PySem.W.kitx_list I.kIn ⟨o,e,c⟩ (U5 (by simp) hT) (λz=>nomatch z) fin
  .obtain⟨a_,_,⟨o,e,c,_⟩,_⟩:=I.tuple hy
   exact IF PySem.W.kitx_tuple I.kIn ⟨o,e,c⟩ (U5 (by simp) hT) (λz=>nomatch z) fin
  .obtain⟨_,_,vs,_,o,es,ep,h1,h2,_⟩:=M4 I.hok hy
   exact IF MP I.kIn ⟨o,h1,h2.1⟩ (U5 (by simp) hT) (λz=>nomatch z) fin
end
section
variable {X:Cx}
def mf (K:Qc):R2:=λx y H Q=>wV (λi j=> .int (i+j)) x y H Q\/(∃i j,x= .str i/\y= .str j/\i.length+j.length<=sizeLine/\Q (.str (i++j)) H)\/BR x y H Q\/zj K x y H Q
theorem xK:OpR X (binaryOp .Add) (mf X.K):=op_add.or (op_add_str.or (op_cat.or xG))
theorem op_in_sgn:OpR X (compareOp .In) (λx y H Q=>∃c j,x=xc c/\y= .str j/\Q (.bl (decide (c∈j.cps.toList))) H):=by
 intro pins s σ H x y v u Q I rx ry h;obtain⟨c,j,rfl,rfl,q⟩:=h;refine sd pins s σ H _ _ v u Q I rx ry ⟨⟨#[c]⟩,j,rfl,rfl,?_⟩;rw[StrLaws.found_one];exact q
theorem op_notIn_sgn:OpR X (compareOp .NotIn) (λx y H Q=>∃c j,x=xc c/\y= .str j/\Q (.bl (!decide (c∈j.cps.toList))) H):=by
 intro pins s σ H x y v u Q I rx ry h;obtain⟨c,j,rfl,rfl,q⟩:=h;refine kX pins s σ H _ _ v u Q I rx ry ⟨⟨#[c]⟩,j,rfl,rfl,?_⟩;rw[StrLaws.found_one];exact q
theorem pH (hu:X.A.units+1<cLine):OpR X (compareOp .In) (λy x H Q=>∃a o,x= .ref a/\DGet H a y o/\Q (.bl o.isSome) H):=by
 intro pins s σ H y x v u Q I ry rx h;obtain⟨a,o,rfl,g,q⟩:=h;cases rx;exact Ew hu I g ry λs' I'=>⟨.bl _,H,I',rfl,q⟩
theorem iW (hu:X.A.units+1<cLine):OpR X (compareOp .NotIn) (λy x H Q=>∃a o,x= .ref a/\DGet H a y o/\Q (.bl (!o.isSome)) H):=by
 intro pins s σ H y x v u Q I ry rx h;obtain⟨a,o,rfl,g,q⟩:=h;cases rx;exact yE hu I g ry λs' I'=>⟨.bl _,H,I',rfl,q⟩
def su (K:Qc):R2:=λx y H Q=>(∃c j,x=xc c/\y= .str j/\Q (.bl (decide (c∈j.cps.toList))) H)\/Em K false x y H Q\/(∃a o,y= .ref a/\DGet H a x o/\Q (.bl o.isSome) H)
def gd (K:Qc):R2:=λx y H Q=>(∃c j,x=xc c/\y= .str j/\Q (.bl (!decide (c∈j.cps.toList))) H)\/Em K true x y H Q\/(∃a o,y= .ref a/\DGet H a x o/\Q (.bl (!o.isSome)) H)
theorem Bq (hu:X.A.units+1<cLine):OpR X (compareOp .In) (su X.K):=op_in_sgn.or (op_in_seq.or (pH hu))
theorem tu (hu:X.A.units+1<cLine):OpR X (compareOp .NotIn) (gd X.K):=op_notIn_sgn.or (op_notIn_seq.or (iW hu))
def BW:R2:=λx y H Q=>wV (λi j=> .bl (decide (i<j))) x y H Q\/(∃i j,x= .str i/\y= .str j/\Q (.bl (decide (i.cps.toList<j.cps.toList))) H)
theorem aC:OpR X (compareOp .Lt) BW:=op_lt.or rP
theorem yH (hu:X.A.units+1<cLine):IxR X (λx y H Q=>∃a v,x= .ref a/\DGet H a y (some v)/\Q v H):=by
 intro value slice pins s σ H x y v u Q I rx ry h hs;obtain⟨a,z,rfl,g,q⟩:=h;cases rx;exact tail_any (mG I g) PySem.F.slot_dict_getitem.lookup (rV hu I g ry λw2 s' I' r'=>⟨z,H,I',r',q⟩) hs
def mQ (K:Qc):R2:=λx y H Q=>FI K x y H Q\/(∃a v,x= .ref a/\DGet H a y (some v)/\Q v H)
theorem zp (hu:X.A.units+1<cLine):IxR X (mQ X.K):=ix_seq.or (yH hu)
def rZ (K:Qc):List V->Hp->VK->Prop:=λxs H Q=>(∃x n,xs=[x]/\Di K x H n/\Q (.int n) H)\/(∃a kvs,xs=[V.ref a]/\Rd H a (.dK kvs)/\Q (.int kvs.length) H)
theorem call_lenX:CallR X (.builtin "len") (rZ X.K):=by
 refine call_len.or ?_;intro pins s σ H xs us Q I r h;obtain⟨a,kvs,rfl,ha,q⟩:=h;obtain⟨u,rfl,ru⟩:=G6 r;cases ru;exact Df I ha λt s' I'=>⟨.int kvs.length,H,I',⟨t,rfl⟩,q⟩
end
def O4 (P:Program)(w:World)(K:Qc)(mg:Str->Option Value)(base:Heap)(CX:lO)(k:Nat)(x:Str)(ps:List Str)(l_:List V)(sp:Sp):Prop:=
 ∃f fd ds,A3 P w K mg base CX k f fd ps sp/\mg x=some (.ref f)/\PySem.W.keepIn K (.ref f)=true/\Binds K fd ps ds/\Vals l_ ds
section
variable {X:Cx} {CX:lO} {k:Nat} {x:Str} {ps:List Str} {l_:List V} {sp:Sp} {E:XK} {e:Expr} {es:List Expr} {t:TA} {p pos:Pos}
theorem ux (C:O4 X.prog X.w X.K X.mg X.base CX k x ps l_ sp)(hr:Room k X.A)(hx:cj CX X E)(ha:PA X (e::es) t)(hg:Gl X x:=by rfl)
  (q_:(x==("__debug__":Str))=false:=by decide) (he:starEach (e::es) X.env=(false,eval e X.env)::starEach es X.env:=by rfl) (Lw:(backTo pos (starEach es X.env)).any (·.1)=false:=by rfl):
  PE X (.Call (.Name x p) (e::es) [] pos) (mP sp l_ E t):=by
 obtain⟨f,fd,ds,F,hm,hk,hb,hd⟩:=C
 exact xo F hr hg hm hk hb hd hx ha q_ he Lw
def DY (mg:Str->Option Value)(x:Str)(v:V):Prop:=∃u,mg x=some u/\RelV v u
theorem AN {v:V}(h:DY X.mg x v)(hg:Gl X x:=by rfl)(hd:(x==("__debug__":Str))=false:=by decide):PE X (.Name x pos) (tC v):=by
 obtain⟨u,hm,r⟩:=h;exact yh hg hm r hd
theorem u9 {k:Nat}{A:Around}(r:Room k A):A.units+1<cLine:=by have:=r.un;lia
end
section
variable {K:Qc} {σ:St} {H:Hp} {Q:VK} {D:nz} {nx bk ct:St->Hp->Prop} {rt:VK}
theorem DJ {i:Nat}{v:V}(h:σ[i]?=some (some v))(q:Q v H):xl i σ H Q:=⟨v,h,q⟩
theorem FL {v:V}(q:Q v H):tC v σ H Q:=q
theorem EO {r:R2}{ta tb:TE}(q:ta σ H λx H1=>tb σ H1 λy H2=>r x y H2 Q):xH r ta tb σ H Q:=q
theorem zU {t:TE}{Qb:Bool->Hp->Prop}(q:t σ H λx H'=>∃k,x= .bl k/\Qb k H'):vy t σ H Qb:=q
theorem Fu {b:Bool}{Qb:Bool->Prop}(q:Qb b):∃k,V.bl b= .bl k/\Qb k:=⟨b,rfl,q⟩
theorem DG {b:Bool}{Qb:Bool->Prop}(q:Qb b):∃k,uf K (V.bl b) H k/\Qb k:=⟨b,rfl,q⟩
theorem DO {t:TT}{Qb:Bool->Hp->Prop}(q:t σ H λc H1=>Qb (!c) H1):BI t σ H Qb:=q
theorem Ck {t u:TT}{Qb:Bool->Hp->Prop}(q:t σ H λc H1=>if c=true then u σ H1 Qb else Qb false H1):BF t u σ H Qb:=q
theorem Fh {t u:TT}{Qb:Bool->Hp->Prop}(q:t σ H λc H1=>if c=true then Qb true H1 else u σ H1 Qb):Fo t u σ H Qb:=q
theorem zI {ta tb:TE}(q:ta σ H λx H1=>∃c,x= .bl c/\if c=true then tb σ H1 Q else Q (.bl false) H1):vE ta tb σ H Q:=q
theorem DU {ta tb:TE}(q:ta σ H λx H1=>∃c,x= .bl c/\if c=true then Q (.bl true) H1 else tb σ H1 Q):Af ta tb σ H Q:=q
theorem zT {ta:TE}(q:ta σ H λx H1=>∃c,x= .bl c/\Q (.bl (!c)) H1):vx ta σ H Q:=q
theorem Ff {t:TT}{ta tb:TE}(q:t σ H λc H1=>if c=true then ta σ H1 Q else tb σ H1 Q):EF t ta tb σ H Q:=q
theorem DW {Qa:List V->Hp->Prop}(q:Qa [] H):rW σ H Qa:=q
theorem AY {ta:TE}{tr:TA}{Qa:List V->Hp->Prop}(q:ta σ H λx H1=>tr σ H1 λxs H2=>Qa (x::xs) H2):qO ta tr σ H Qa:=q
theorem zr {sp:Sp}{l_:List V}{E:XK}{t:TA}(q:t σ H λvs H1=>sp (vs++l_) H1 Q E):mP sp l_ E t σ H Q:=q
theorem Fn {r:List V->Hp->VK->Prop}{t:TA}(q:t σ H λvs H1=>r vs H1 Q):Be r t σ H Q:=q
theorem EL {r:V->Option Int->Option Int->Hp->VK->Prop}{te:TE}{tl th:TO}(q:te σ H λx H1=>tl σ H1 λl H2=>th σ H2 λu H3=>r x l u H3 Q):Fc r te tl th σ H Q:=q
theorem uG {Qo:Option Int->Hp->Prop}(q:Qo none H):kT σ H Qo:=q
theorem zP {t:TE}{Qo:Option Int->Hp->Prop}(q:t σ H λx H1=>∃i,x= .int i/\Qo (some i) H1):wB t σ H Qo:=q
theorem CI {i:Int}{Qo:Int->Prop}(q:Qo i):∃j,V.int i= .int j/\Qo j:=⟨i,rfl,q⟩
theorem sy {i j:Int}(q:Q (.int (i+j)) H):mf K (.int i) (.int j) H Q:= .inl ⟨i,j,rfl,rfl,q⟩
theorem N7 {i j:Str}(h:i.length+j.length<=sizeLine)(q:Q (.str (i++j)) H):mf K (.str i) (.str j) H Q:= .inr (.inl ⟨i,j,rfl,rfl,h,q⟩)
theorem Fg {g:Int->Int->V}{i j:Int}(q:Q (g i j) H):wV g (.int i) (.int j) H Q:=⟨i,j,rfl,rfl,q⟩
theorem EW {C:Int->Int->Prop}{g:Int->Int->V}{i j:Int}(h:C i j)(q:Q (g i j) H):rI C g (.int i) (.int j) H Q:=⟨i,j,rfl,rfl,h,q⟩
theorem ud {i j:Int}(q:Q (.bl (decide (i<j))) H):BW (.int i) (.int j) H Q:= .inl ⟨i,j,rfl,rfl,q⟩
theorem mz {i j:Int}(q:Q (.bl (decide (i=j))) H):BX (.int i) (.int j) H Q:=⟨rfl,by rw[fY];rw[show(i==j)=decide (i=j) from Jw i j];exact q⟩
theorem qd {i j:Bool}(q:Q (.bl (decide (i=j))) H):BX (.bl i) (.bl j) H Q:=⟨rfl,by rw[oC];rw[show(i==j)=decide (i=j) from Jw i j];exact q⟩
theorem mw {i j:Str}(q:Q (.bl (decide (i=j))) H):BX (.str i) (.str j) H Q:=⟨rfl,by rw[lh];rw[show(i==j)=decide (i=j) from Jw i j];exact q⟩
theorem vR {c:Nat}{j:Str}(q:Q (.bl (decide (c∈j.cps.toList))) H):su K (xc c) (.str j) H Q:= .inl ⟨c,j,rfl,rfl,q⟩
theorem ff {y:Str}(h:y.length<=sizeLine)(q:Q (.int y.length) H):rZ K [.str y] H Q:= .inl ⟨.str y,y.length,rfl,⟨h,rfl⟩,q⟩
theorem x9 {p:Addr}{xs:List V}(h:SqL K H p xs)(q:Q (.int xs.length) H):rZ K [.ref p] H Q:= .inl ⟨.ref p,xs.length,rfl,.inl ⟨xs,h,rfl⟩,q⟩
theorem G5 {p:Addr}{kvs:List (j0×V)}(h:Rd H p (.dK kvs))(q:Q (.int kvs.length) H):rZ K [.ref p] H Q:= .inr ⟨p,kvs,rfl,h,q⟩
theorem i8 {p:Addr}{xs:List V}{i:Int}{v:V}(h:SqL K H p xs)(e:gM xs i=some v)(q:Q v H):mQ K (.ref p) (.int i) H Q:= .inl (.inl ⟨p,xs,i,v,rfl,rfl,h,e,q⟩)
theorem b0 {p:Addr}{xs:List V}{i:Int}{v:V}(h:SqT K H p xs)(e:gM xs i=some v)(q:Q v H):mQ K (.ref p) (.int i) H Q:= .inl (.inr (.inl ⟨p,xs,i,v,rfl,rfl,h,e,q⟩))
theorem aJ {z:Str}{i:Int}{c:Nat}(hz:z.length<=sizeLine)(e:gM z.cps.toList i=some c)(q:Q (xc c) H):mQ K (.str z) (.int i) H Q:= .inl (.inr (.inr ⟨z,i,c,rfl,rfl,hz,e,q⟩))
theorem B6 {p:Addr}{y v:V}(g:DGet H p y (some v))(q:Q v H):mQ K (.ref p) y H Q:= .inr ⟨p,v,rfl,g,q⟩
theorem nJ {p:Addr}{xs:List V}{lo hi:Option Int}(h:SqL K H p xs)(q:∀p,H p=none->Q (.ref p) (p0 H p (.lst (cD xs lo hi)))):Ee K (.ref p) lo hi H Q:= .inl ⟨p,xs,rfl,h,q⟩
theorem nQ {l b:Addr}{xs zs:List V}(h1:H l=some (.lst xs))(h2:H b=some (.lst zs))(hz:xs.length+zs.length<=sizeLine)(q:∀p,H p=none->Q (.ref p) (p0 H p (.lst (xs++zs)))):mf K (.ref l) (.ref b) H Q:= .inr (.inr (.inl ⟨l,b,xs,zs,rfl,rfl,h1,h2,hz,q⟩))
theorem CJ {neg:Bool}{x:V}(q:Q (.bl (if neg then !decide (x= .non) else decide (x= .non))) H):Ex neg x .non H Q:=⟨.inl rfl,q⟩
theorem gF {x:V}{t T:String}(ty:TyB K H x t)(hT:T="str"\/T="int"\/T="bool"\/T="list"\/T="tuple"\/T="dict")(q:Q (.bl (fm t T)) H):xg K [x,.ty T] H Q:=⟨x,T,t,rfl,ty,hT,q⟩
theorem jx {p:Addr}{bs:List Bool}(h:SqL K H p (bs.map V.bl))(q:Q (.bl (bs.all id)) H):rp K [.ref p] H Q:=⟨p,bs,rfl,h,q⟩
theorem Dn {t:TA}(q:t σ H λxs H1=>xs.length<=sizeLine/\∀p,H1 p=none->Q (.ref p) (p0 H1 p (.tup xs))):zz t σ H Q:=q
theorem Dq {t:TA}(q:t σ H λxs H1=>xs.length<=sizeLine/\∀p,H1 p=none->Q (.ref p) (p0 H1 p (.lst xs))):zM t σ H Q:=q
theorem N0 {t u:TS}(q:t ⟨u ⟨nx,rt,bk,ct⟩,rt,bk,ct⟩ σ H):sY t u ⟨nx,rt,bk,ct⟩ σ H:=q
theorem Aa (q:nx σ H):wA ⟨nx,rt,bk,ct⟩ σ H:=q
theorem Cg {te:TE}(q:te σ H rt):Bl te ⟨nx,rt,bk,ct⟩ σ H:=q
theorem Aq {te:TE}(q:te σ H λ_ H1=>nx σ H1):ug te ⟨nx,rt,bk,ct⟩ σ H:=q
theorem Dr {c:TT}{t u:TS}(q:c σ H λb H1=>if b=true then t ⟨nx,rt,bk,ct⟩ σ H1 else u ⟨nx,rt,bk,ct⟩ σ H1):Bo c t u ⟨nx,rt,bk,ct⟩ σ H:=q
theorem DS {te:TE}{g:TG}(q:te σ H λx H1=>g x σ H1 nx):pM te g ⟨nx,rt,bk,ct⟩ σ H:=q
theorem zQ {i:Nat}{v:V}{Qs:St->Hp->Prop}(q:Qs (σ.set i (some v)) H):Q3 i v σ H Qs:=q
end
section
variable {X:Cx} {pins:List (Addr×Obj)} {σ:St} {H:Hp} {s:Shared} {d:Addr} {kvs:List (j0×V)} {o:Obj}
abbrev D0 (d:Addr)(o:Obj)(kvs:List (j0×V))(H:Hp):Hp:=p0 H d (.frz o (.dK kvs))
theorem Inv.freeze (I:Inv X pins σ H s)(h:H d=some (.dK kvs))(ho:s.heap.get? d=some o):Inv X pins σ (D0 d o kvs H) s:=by
 have nd:∀b u,H b=some u->u≠ .dK kvs->b≠d:=λb u e n z=>by
  subst z;rw[h] at e;exact n (GL e).symm
 have hok:HOk X.prog X.w (D0 d o kvs H) s.heap:=λb u e=>by
  have st:∀{a:Addr} {u:HO},ObjOk X.prog X.w H s.heap a u->ObjOk X.prog X.w (D0 d o kvs H) s.heap a u:=fun{a u} x=>
   x.stay (λc v _ q=>q) (λc q=>by unfold D0;rw[b9 (nd c _ q (by intro z;cases z))];exact q) λc xs q=>by unfold D0;rw[b9 (nd c _ q (by intro z;cases z))];exact q
  by_cases hb:b=d
  .subst hb;unfold D0 at e;rw[b7] at e;cases e;exact⟨ho,st (I.hok _ _ h)⟩
  .unfold D0 at e;rw[b9 hb] at e;exact st (I.hok b u e)
 have q:=I.un (H':=D0 d o kvs H) (h':=s.heap) (t':=s.toks) ⟨λb o e n hb hx=>e,λb o e n hb hx=>⟨o.slots,e⟩,λb o e n hx=>by
  unfold D0;rw[b9 (λz=>by subst z;rw[h] at n;cases n)];exact n,λb o e _=>⟨o,e⟩,λb xs e=>by unfold D0;rw[b9 (nd b _ e (by intro z;cases z))];exact e,
  λb o u e=>by unfold D0;rw[b9 (nd b _ e (by intro z;cases z))];exact e,λb ps e=>⟨#[],by unfold D0;rw[b9 (nd b _ e (by intro z;cases z))];simpa using e⟩⟩ hok
 exact q
def DT:Option HO->Option HO
 |some (.frz _ u)=>some u
 |o=>o
def thaw (d:Addr)(H:Hp):Hp:=λb=>if b=d then DT (H d) else H b
theorem O2 {b:Addr}(h:b≠d):thaw d H b=H b:=by unfold thaw;rw[if_neg h]
theorem thaw_at {u:HO}(h:H d=some (.frz o u)):thaw d H d=some u:=by unfold thaw;rw[if_pos rfl,h];rfl
theorem wK {u:HO}(h:H d=some (.frz o u)):thaw d H=p0 H d u:=by
 funext b;by_cases hb:b=d
 .subst hb;rw[thaw_at h,b7]
 .rw[O2 hb,b9 hb]
theorem qw (h:∀o u,H d≠some (.frz o u)):thaw d H=H:=by
 funext b;by_cases hb:b=d
 .subst hb;unfold thaw;rw[if_pos rfl];cases q:H b with
  |none=>rfl
  |some u=>cases u with
   |frz o u=>exact absurd q (h o u)
   |_=>rfl
 .exact O2 hb
def yy (X:Cx)(th:Hp->Hp):Prop:=∀(pins:List (Addr×Obj)) (σ:St) (H:Hp) (s:Shared),Inv X pins σ H s->Inv X pins σ (th H) s
theorem dD:yy X id:=λ_ _ _ _ I=>I
theorem sF (hn:∀o u,X.H₀ d≠some (.frz o u)):yy X (thaw d):=λpins σ H s I=>by
 by_cases hf:∃o u,H d=some (.frz o u)
 .obtain⟨o,u,h⟩:=hf;rw[wK h];have nd:∀b v,H b=some v->v≠ .frz o u->b≠d:=λb v e n z=>by
   subst z;rw[h] at e;exact n (GL e).symm
  have nn:∀b,H b=none->b≠d:=λb e z=>by subst z;rw[h] at e;cases e
  have st:∀{a:Addr} {v:HO},ObjOk X.prog X.w H s.heap a v->ObjOk X.prog X.w (p0 H d u) s.heap a v:=fun{a v} x=>
   x.stay (λc v _ q=>q) (λc q=>by rw[b9 (nd c _ q (by intro z;cases z))];exact q) λc xs q=>by rw[b9 (nd c _ q (by intro z;cases z))];exact q
  refine⟨I.ok,I.os,I.bare,⟨I.base.keep,I.base.slot,λb ob e n hx=>?_,I.base.there,λb xs e=>?_,λb ob v e=>?_,λb ps e=>?_⟩,I.loc,I.cell,?_,λx c e=>?_,λp hp=>?_,λb v e=>?_,I.len⟩
  .have q:=I.base.free b ob e n hx;rw[b9 (nn b q)];exact q
  .have q:=I.base.tups b xs e;rw[b9 (nd b _ q (by intro z;cases z))];exact q
  .have q:=I.base.frzs b ob v e;rw[b9 (λz=>by subst z;exact hn ob v e)];exact q
  .obtain⟨m,q⟩:=I.base.tbls b ps e;exact⟨m,by rw[b9 (nd b _ q (by intro z;cases z))];exact q⟩
  .rw[b9 (nn _ I.free)];exact I.free
  .have q:=I.freeC x c e;rw[b9 (nn _ q)];exact q
  .obtain⟨a1,a2,a3⟩:=I.pin p hp;exact⟨a1,by rw[b9 (nn _ a2)];exact a2,a3⟩
  .by_cases hb:b=d
   .subst hb;rw[b7] at e;cases e;exact st (I.hok _ _ h).2
   .rw[b9 hb] at e;exact st (I.hok b v e)
 .rw[qw λo u e=>hf ⟨o,u,e⟩];exact I
theorem Same.thaw {H H':Hp}(h:H d=some (.dK kvs))(e:Same (D0 d o kvs H) H'):Same H (thaw d H'):=λb u q=>by
 by_cases hb:b=d
 .subst hb;rw[h] at q;cases q;have z:=e b _ (show D0 b o kvs H b=some _ from b7);exact thaw_at z
 .rw[O2 hb];exact e b u (by unfold D0;rw[b9 hb];exact q)
end
abbrev lN:=St->Hp->(It->(Hp->Hp)->Hp->Prop)->Prop
def uT (X:Cx)(tg iter:Expr)(wi:lN):Prop:=
 ∀(pins:List (Addr×Obj)) (s:Shared) (σ:St) (H:Hp) (R:It->(Hp->Hp)->Hp->Prop),Inv X pins σ H s->wi σ H R->
  wpAny (model X.prog X.w) X.A (eval iter X.env) (λv s1=>wpAny (model X.prog X.w) X.A (pyIter v) (Ei X pins σ tg λJ H'=>∃th,yy X th/\R J th H') X.xe s1) X.xe s
theorem PI.two {X:Cx}{tg iter:Expr}{wi:TI}(h:PI X tg iter wi):uT X tg iter (λσ H R=>wi σ H λJ H'=>R J id H'):=by
 intro pins s σ H R I q;refine E9 (h pins s σ H _ I q) λv s1 h1=>E9 h1 λQr s2 h2=>?_;obtain⟨it,fp,tn,J,H',e,I',T,st,f,q⟩:=h2;exact⟨it,fp,tn,J,H',e,I',T,st,f,id,dD,q⟩
def xS (J:It)(th:Hp->Hp)(g:TG)(tb:TS)(nx:St->Hp->Prop)(rt:VK)(σ:St)(H1:Hp):Prop:=∃W:Nat->Nat->St->Hp->Prop,(∃m,W 0 m σ H1)/\∀i m σ H,W i m σ H->
 (J.stop i H/\nx σ (th H))\/(J.go i H/\∃N:St->Hp->Prop,(∀σ' H',N σ' H'->∃m',m'<m/\W (i+1) m' σ' H')/\∀x H',J.yld i H x H'->g x σ H' λσ2 H2=>tb ⟨N,λv H=>rt v (th H),λσ H=>nx σ (th H),N⟩ σ2 H2)
def vt (wi:lN)(g:TG)(tb:TS):TS:=λD σ H=>wi σ H λJ th H1=>xS J th g tb D.nx D.rt σ H1
theorem yj {X:Cx}{tg iter:Expr}{body:List Stmt}{wi:lN}{g:TG}{tb:TS}{pos:Pos}(hp:PassesOwn (model X.prog X.w) X.A X.env X.xe)(hc:X.calm=true)(hi:uT X tg iter wi)(hg:PG X tg g)(hb:PSs X body tb)
  (hs:∀x,foldedSetIterable iter X.env x=pure x:=by intro _;rfl):PS X (.For tg iter body [] pos) (vt wi g tb):=by
 intro pins s σ H D I h
 refine wpAny_For (E9 (hi pins s σ H _ I h) λv s1 h1=>E9 h1 λQr s2 h2=>?_) hs
 obtain⟨it,fp,tn,J,H2,e,I2,T,J_,f2,th,MQ,W,⟨m0,w0⟩,turn⟩:=h2
 subst e
 have Nt:∀{H':Hp},(∀b∈fp,H' b=none)->∀b∈fp,cJ X pins H' b:=λhn b hb=>⟨hn b hb,(f2 b hb).2⟩
 refine codeAny_forLoop_any (λn s'=>∃i σ' H',Inv X pins σ' H' s'/\tn i s'.heap/\(∀b∈fp,H' b=none)/\W i n σ' H') ?_ m0 ⟨0,σ,H2,I2,J_,λb hb=>(f2 b hb).1,w0⟩
 rintro n s3 ⟨i,σ3,H3,I3,QD,QF,w3⟩
 rcases turn i n σ3 H3 w3 with⟨stop,qn⟩|⟨go,N,hN,step⟩
 .refine IT hp (E9 (T.done X rfl rfl rfl hc i pins s3 σ3 H3 X.xe I3 (Nt QF) QD stop) λr s4 ⟨hr,I4⟩=>?_)
  subst hr
  exact JP ⟨σ3,th H3,MQ _ _ _ _ I4,qn⟩
 .refine IT hp (E9 (T.item X rfl rfl rfl hc i pins s3 σ3 H3 X.xe I3 (Nt QF) QD go) λr s4 ⟨u,hr,h4⟩=>?_)
  subst hr
  refine IT hp (E9 h4 λ_ s5 ⟨x,H5,I5,r5,y5,st5,fr5⟩=>?_)
  have Tg:=I5.pinned (Nt fr5) (T.obj _ _ st5)
  refine IT hp (E9 (hg _ s5 σ3 H5 x u _ Tg r5 (step x H5 y5)) λ_ s6 ⟨σ6,H6,I6,q6⟩=>?_)
  refine IT hp (E9 (hb _ s6 σ6 H6 _ I6 q6) λf s7 q7=>?_)
  have again:∀{σ7:St} {H7:Hp},Inv X (pins++gQ fp s5.heap) σ7 H7 s7->N σ7 H7->∃m,m<n/\∃i σ' H',Inv X pins σ' H' s7/\tn i s7.heap/\(∀b∈fp,H' b=none)/\W i m σ' H':=fun{σ7 H7} I7 n7=>by
   obtain⟨m',hm,w7⟩:=hN σ7 H7 n7;refine⟨m',hm,i+1,σ7,H7,I7.unpinned,T.keep _ _ _ st5 λb hb o e=>(I7.pin (b,o) (GG _ (GG _ (Z2 hb e)))).1,λb hb=>?_,w7⟩;obtain⟨o,e,d⟩:=T.obj _ _ st5 b hb;exact(I7.pin (b,o) (GG _ (GG _ (Z2 hb e)))).2.1
  cases f with
  |next=>obtain⟨σ7,H7,I7,n7⟩:=q7;exact again I7 n7
  |cont=>obtain⟨σ7,H7,I7,n7⟩:=q7;exact again I7 n7
  |brk=>obtain⟨σ7,H7,I7,q7⟩:=q7;exact⟨σ7,th H7,MQ _ _ _ _ I7.unpinned,q7⟩
  |ret v=>obtain⟨x7,σ7,H7,I7,r7,q7⟩:=q7;exact⟨x7,σ7,th H7,MQ _ _ _ _ I7.unpinned,r7,q7⟩
def vN (own:List Str)(js:List Nat)(J:It)(th:Hp->Hp)(g:TG)(ti:TT)(te:TE)(Q:VK)(σ:St)(H1:Hp):Prop:=∃W:Nat->Nat->List V->Hp->Prop,(∃m,W 0 m [] H1)/\∀i m out H,W i m out H->
 (J.stop i H/\∀D,H D=none->out.length<=sizeLine/\Q (.ref D) (th (p0 H D (.lst out))))\/
 (J.go i H/\∀x H',J.yld i H x H'->g x (wQ own js σ) H' λσ2 H2=>σ2.drop own.length=js.map (λj=>(σ[j]?).join)/\ti σ2 H2 λb H3=>
  if b=true then te σ2 H3 λv H4=>out.length<=sizeLine/\∃m',m'<m/\W (i+1) m' (out++[v]) H4 else ∃m',m'<m/\W (i+1) m' out H3)
def iD (own:List Str)(js:List Nat)(wi:lN)(g:TG)(ti:TT)(te:TE):TE:=λσ H Q=>wi σ H λJ th H1=>vN own js J th g ti te Q σ H1
def AX:TT:=λ_ H Q=>Q true H
theorem DQ {X:Cx}:oZ X [] AX:=ER
theorem sv {X:Cx}{own:List Str}{js:List Nat}{scope:Scope}{tg iter elt:Expr}{ifs:List Expr}{pos:Pos}{g:TG}{ti:TT}{te:TE}{wi:lN}(S:BM X own js scope=true)(hc:X.calm=true)(hit:uT X tg iter wi)
  (hg:∀C s H fp,PG (bI X own js scope C s H fp) tg g) (hi:∀C s H fp,oZ (bI X own js scope C s H fp) ifs ti) (he:∀C s H fp,PE (bI X own js scope C s H fp) elt te)
  (hs:∀x,foldedSetIterable iter X.env x=pure x:=by intro _;rfl):
  PE X (.ListComp elt [⟨tg,iter,ifs,0⟩] scope pos) (iD own js wi g ti te):=by
 have SB:=uR S
 intro pins s σ H Q I h
 rw[eval_ListComp]
 refine KY (use:=none) rfl hs (gG (SB.cells I)) SB.kind SB.names (E9 (hit pins s σ H _ I h) λv s1 h1=>E9 h1 λQr s2 h2=>?_)
 obtain⟨it,fp,tn,J,H2,e,I2,T,J_,f2,th,MQ,W,⟨m0,w0⟩,turn⟩:=h2
 subst e
 refine IW (wpAny_newFunctionEnv SB.nocell (by intro y hy;simp at hy) (λh₁ hns₁ hsb₁=>?_) SB.kind)
 dsimp only at hns₁ hsb₁⊢
 generalize OU:s2.heap.push {cls:= .type "list",dict:=none,data:= .seq ([]:List Value).toArray}=G2 at hns₁ hsb₁⊢
 have QK:G2.objs.size=s2.heap.objs.size+1:=by rw[←OU,Mg]
 have MO:s2.heap.objs.size≠G2.objs.size:=by rw[QK];exact GU (Nat.lt_succ_self _)
 have hC:s2.heap.objs.size<=G2.objs.size:=by rw[QK];exact Kv _
 have old:∀b o,s2.heap.get? b=some o->h₁.get? b=some o:=λb o e=>
  hsb₁.extBut b o (GU (GK (GH e) hC)) (GB _ (OU▸GB _ e))
 have y_:∀b∈fp,∃o,s2.heap.get? b=some o:=λb hb=>let ⟨o,e,_⟩:=T.obj _ _ J_ b hb;⟨o,e⟩
 have v_:h₁.get? s2.heap.objs.size=some {cls:= .type "list",data:= .seq ([]:List Value).toArray}:=
  hsb₁.extBut _ _ MO (GB _ (OU▸GW _ rfl))
 have loop:∀s3:Shared,s3={s2 with heap:=h₁,toks:=s2.toks+([]:List (Str×Value)).length}->
   codeAny (model X.prog X.w) X.A (.compLoop (.ListComp elt [⟨tg,iter,ifs,0⟩] scope pos) 0 (.ref it) (.ref s2.heap.objs.size) (compEnvC scope (fT scope X.env) G2.objs.size X.env))
    (compPost (model X.prog X.w) X.A X.xe none (EP X pins σ Q) (.ref s2.heap.objs.size) G2.objs.size) s3:=by
  rintro s3 rfl
  refine jH (K:=λout H'=>Q (.ref s2.heap.objs.size) (th (p0 H' s2.heap.objs.size (.lst out)))) SB hc T I2 f2 (Gv _) hC MO y_ (hg _ _ _ _) (hi _ _ _ _) (he _ _ _ _) W (λi m out H' w=>?_) (λout H' s' B hl k=>?_) w0
   ⟨Inv.block SB I2 f2 y_ hC hns₁ old,I2.hok.fresh (Gv _),[],_,.nil,v_⟩ (T.keep _ _ _ J_ λb _ o e=>old b o e) (λb hb=>(f2 b hb).1)
  .rcases turn i m out H' w with⟨a,b⟩|c
   .exact .inl ⟨a,λn=>b _ n⟩
   .exact .inr c
  .obtain⟨mm,hn,_⟩:=B.inv.loc
   exact⟨mm,hn,λh' sb=>⟨.ref s2.heap.objs.size,_,MQ _ _ _ _ (B.out I2 f2 (Gv _) hC MO hl sb),rfl,k⟩⟩
 exact codeAny_compStart_list (loop _ rfl) (T.self _ 0 _ _ _ (T.keep _ _ _ J_ λb _ o e=>old b o e) (loop _ rfl))
theorem C8 {α β : Type} {F : α -> β -> Prop} : ∀ {l₁ : List α} {l₂ : List β} {i : Nat} {a : α}, Paired F l₁ l₂ -> l₁[i]? = some a -> ∃ b, l₂[i]? = some b /\ F a b
 := by
  intro l₁ l₂ i a hp e;induction hp generalizing i with
  | nil => cases e
  | cons r _ ih => cases i with
    | zero => cases e; exact ⟨_, rfl, r⟩
    | succ i => exact ih e
section
variable {P:Program} {w:World}
theorem gf {k:j0}{v:Value}(h:(k7 P w).is k v=true):RelV (kV k) v:=by
 rcases A9 (show bV k v=true from h) with⟨i,t,rfl,rfl⟩|⟨x,t,rfl,rfl⟩
 .exact⟨t,rfl⟩
 .exact⟨t,rfl⟩
theorem wg {k:j0}{v:Value}(h:(k7 P w).is k v=true):∀a,v≠ .ref a:=by
 rcases A9 (show bV k v=true from h) with⟨i,t,rfl,rfl⟩|⟨x,t,rfl,rfl⟩<;>exact λa z=>by cases z
structure vQ (P:Program) (w:World) (d:Addr) (o:Obj) (kvs:List (j0×V)) (vs:List (j0×Value)) (ep:Nat):Prop where
 kv:KV kvs vs
 at_:∀h:Heap,h.get? d=some o->h.DictAt (k7 P w) d vs ep
 nd:(kvs.map (·.1)).Nodup
theorem dU {H:Hp}{h:Heap}{d:Addr}{kvs:List (j0×V)}(ok:HOk P w H h)(e:Rd H d (.dK kvs)):(d==sysModules)=false/\∃o vs ep,h.get? d=some o/\vQ P w d o kvs vs ep:=by
 obtain⟨z,hd,vs,rel,o,es,ep,h1,r⟩:=M4 ok e;refine⟨hd,o,vs,ep,h1,rel,λh' e'=>⟨o,es,e',r⟩,?_⟩;rw[KV.keys rel];exact r.2.2.2.2
def Eg (d:Addr)(o:Obj)(kvs:List (j0×V))(f:j0×V->V):It:=
 ⟨λi H=>H d=some (.frz o (.dK kvs))/\i<kvs.length,λi H x H'=>H'=H/\∃kv,kvs[i]?=some kv/\x=f kv,λi H=>H d=some (.frz o (.dK kvs))/\kvs.length<=i⟩
def CV (d:Addr)(o:Obj)(kvs:List (j0×V)):It:=
 ⟨λi H=>H d=some (.frz o (.dK kvs))/\i<kvs.length,λi H x H'=>∃t kv,kvs[i]?=some kv/\H t=none/\x= .ref t/\H'=p0 H t (.tup [kV kv.1,kv.2]),λi H=>H d=some (.frz o (.dK kvs))/\kvs.length<=i⟩
theorem sP {K:Qc}{tg:Expr}{d:Addr}{o:Obj}{kvs:List (j0×V)}{vs:List (j0×Value)}{ep:Nat}(D:vQ P w d o kvs vs ep)(it:Addr):
  dE P w K tg (Eg d o kvs λkv=>kV kv.1) [it] it (λi h=>h.IsKeyIter it d i vs.length ep) where
 mem:=by simp
 obj:=λi h st b hb=>by
  have e:b=it:=by simpa using hb
  subst e;obtain⟨o,e,c,dd⟩:=st;exact⟨o,e,λv z=>by rw[dd] at z;cases z⟩
 keep:=λi h h' st k=>st.at λo e=>k it (by simp) o e
 item:=by
  intro X hP hw hK hc i pins s σ H E I hf st hg;subst hP hw hK;obtain⟨Nw,hi⟩:=hg;obtain⟨f0,f1,f2,f3,f4,f5⟩:=hf it (by simp);have dat:=D.at_ s.heap (I.hok d _ Nw).1;have hl:=KV.length D.kv;obtain⟨kv,f_⟩:∃kv,kvs[i]?=some kv:=⟨kvs[i],by simp [hi]⟩
  obtain⟨⟨k,x⟩,hx⟩:∃p,vs[i]?=some p:=⟨vs[i]'(by lia),by simp [show i<vs.length by lia]⟩
  have PC:kv.1=k:=by
   have e1:(kvs.map (·.1))[i]?=some kv.1:=by rw[Gx,f_];rfl
   rw[KV.keys D.kv,Gx,hx] at e1;exact(GL e1).symm
  refine wpAny_pyNext_dict_item st dat hx λkey h' w_ hit' J'=>?_;have I1:Inv X pins σ H {s with heap:=h'}:=I.turned (t':=s.toks) (λb o hb e=>J'.extBut b o hb e) f0 f1 f3 f4 f5;exact⟨key,rfl,qA (wg w_) ⟨kV kv.1,H,I1,by rw[PC];exact gf w_,⟨rfl,kv,f_,rfl⟩,hit',λb hb=>(hf b hb).1⟩⟩
 done:=by
  intro X hP hw hK hc i pins s σ H E I hf st hg;subst hP hw hK;obtain⟨Nw,hi⟩:=hg;obtain⟨f0,f1,f2,f3,f4,f5⟩:=hf it (by simp);have dat:=D.at_ s.heap (I.hok d _ Nw).1;have hl:=KV.length D.kv;exact wpAny_pyNext_dict_end (I.ok.hd hc) st dat (by simp;lia) λh' eb=>⟨rfl,I.turned (t':=s.toks) (λb o hb e=>eb b o hb e) f0 f1 f3 f4 f5⟩
 self:=λ_ _ _ _ _ st h=>wpAny_pyIter_keyiter st h
theorem oB {K:Qc}{elts:List Expr}{x1}{j_:Pos}{d:Addr}{o:Obj}{kvs:List (j0×V)}{vs:List (j0×Value)}{ep:Nat}(D:vQ P w d o kvs vs ep)(it:Addr):
  dE P w K (.Tuple elts x1 j_) (CV d o kvs) [it] it (λi h=>∃ok ov,IsItemIter h it d i vs.length ep ok ov) where
 mem:=by simp
 obj:=λi h st b hb=>by
  have e:b=it:=by simpa using hb
  subst e;obtain⟨ok,ov,e⟩:=st;exact⟨_,e,λv z=>by
   have z':Data.fields _=Data.cell v:=z;cases z'⟩
 keep:=λi h h' st k=>let ⟨ok,ov,e⟩:=st;⟨ok,ov,k it (by simp) _ e⟩
 item:=by
  intro X hP hw hK hc i pins s σ H E I hf st hg;subst hP hw hK;obtain⟨Nw,hi⟩:=hg;obtain⟨ok,ov,st⟩:=st;obtain⟨f0,f1,f2,f3,f4,f5⟩:=hf it (by simp);have dat:=D.at_ s.heap (I.hok d _ Nw).1;have hl:=KV.length D.kv;obtain⟨kv,f_⟩:∃kv,kvs[i]?=some kv:=⟨kvs[i],by simp [hi]⟩
  obtain⟨⟨k,x⟩,hx⟩:∃p,vs[i]?=some p:=⟨vs[i]'(by lia),by simp [show i<vs.length by lia]⟩
  obtain⟨PC,rx⟩:kv.1=k/\RelV kv.2 x:=by
   have q:=C8 D.kv f_;obtain⟨p,hp,r⟩:=q;rw[hx] at hp;cases hp;exact r
  refine wpAny_pyNext_items_item st dat hx λkey h' w_ hout htup hsz hk=>?_;have Oy:it<s.heap.objs.size:=GH st;refine⟨.ref s.heap.objs.size,rfl,wpAny_letOwnedTupleGo_items (s:={s with heap:=h'}) hout λB_ hit'' hs''=>?_⟩;have LK:Heap.SameBut it h' B_:=hs'';have kp:∀b o,b≠it->s.heap.get? b=some o->B_.get? b=some o:=λb o hb e=>LK.extBut b o hb (hk b o hb e);have Nx:B_.get? s.heap.objs.size=some {cls:= .type "tuple",data:= .seq #[key,x]}:=LK.extBut _ _ (KD Oy) htup;have fresh:H s.heap.objs.size=none:=I.hok.fresh (Gv _);have Th:∀b o,s.heap.get? b=some o->b≠s.heap.objs.size:=λb o e=>GU (GH e);have hH:∀b u,H b=some u->b≠s.heap.objs.size/\b≠it:=λb u e=>⟨j4 e fresh,j4 e f0⟩
  have hok:HOk X.prog X.w (p0 H s.heap.objs.size (.tup [kV kv.1,kv.2])) B_:=λb u e=>by
   by_cases hb:b=s.heap.objs.size
   .subst hb;rw[b7] at e;cases e;refine⟨by show 2<=sizeLine;decide,[key,x],.cons (by rw[PC];exact gf w_) (.cons rx .nil),⟨_,Nx,rfl,_,rfl⟩⟩
   .rw[b9 hb] at e;refine(I.hok b u e).stay (λc v hc q=>kp c v ?_ q) (λc q=>by rw[b9 (hH c _ q).1];exact q) λc xs q=>by rw[b9 (hH c _ q).1];exact q
    rcases hc with z|z
    .rw[z];exact(hH b _ e).2
    .exact(hH c _ z).2
  have I1:Inv X pins σ (p0 H s.heap.objs.size (.tup [kV kv.1,kv.2])) {s with heap:=B_}:=by
   refine I.call' (s':={s with heap:=B_}) (ch:=[it]) rfl ⟨λb o e n hb hx=>kp b o (by simpa using hx) e,λb o e n hb hx=>⟨o.slots,kp b o (by simpa using hx) e⟩,λb o e n hx=>by rw[b9 (Th b o e)];exact n,
    λb o e hx=>⟨o,kp b o (by simpa using hx) e⟩,λb xs e=>by rw[b9 (hH b _ e).1];exact e,λb ob v e=>by rw[b9 (hH b _ e).1];exact e,λb ps e=>⟨#[],by rw[b9 (hH b _ e).1];simpa using e⟩⟩ hok I.bare λb hb=>?_
   have e:b=it:=by simpa using hb
   subst e;exact⟨f3,f1,f4,f5⟩
  refine⟨.ref s.heap.objs.size,_,I1,rfl,⟨_,kv,f_,fresh,rfl,rfl⟩,⟨_,_,hit''⟩,λb hb=>?_⟩;have e:b=it:=by simpa using hb
  subst e;rw[b9 (GU Oy)];exact f0
 done:=by
  intro X hP hw hK hc i pins s σ H E I hf st hg;subst hP hw hK;obtain⟨Nw,hi⟩:=hg;obtain⟨ok,ov,st⟩:=st;obtain⟨f0,f1,f2,f3,f4,f5⟩:=hf it (by simp);have dat:=D.at_ s.heap (I.hok d _ Nw).1;have hl:=KV.length D.kv;exact wpAny_pyNext_items_end (I.ok.hd hc) st dat (by simp;lia) λh' eb=>⟨rfl,I.turned (t':=s.toks) (λb o hb e=>eb b o hb e) f0 f1 f3 f4 f5⟩
 self:=λ_ _ _ _ _ st h=>by
  obtain⟨ok,ov,st⟩:=st;exact PySem.W.kcp_self st h
end
section
variable {X:Cx} {tg:Expr}
def rIterD (mk:Addr->Obj->List (j0×V)->It)(v:V)(H:Hp)(R:It->(Hp->Hp)->Hp->Prop):Prop:=
 ∃d kvs,v= .ref d/\((H d=some (.dK kvs)/\((kvs.map (·.1)).Nodup->∀o,R (mk d o kvs) (thaw d) (D0 d o kvs H)))\/(∃o,H d=some (.frz o (.dK kvs))/\((kvs.map (·.1)).Nodup->R (mk d o kvs) id H)))
theorem rIterD.go {mk:Addr->Obj->List (j0×V)->It}{x:V}{u:Value}{pins:List (Addr×Obj)}{σ:St}{H:Hp}{s:Shared}{R:It->(Hp->Hp)->Hp->Prop}(I:Inv X pins σ H s)(r:RelV x u)(h:rIterD mk x H R):
  ∃d kvs o vs ep th H',u= .ref d/\(d==sysModules)=false/\s.heap.get? d=some o/\vQ X.prog X.w d o kvs vs ep/\Inv X pins σ H' s/\yy X th/\R (mk d o kvs) th H':=by
 obtain⟨d,kvs,e,h⟩:=h
 subst e
 cases r
 rcases h with⟨h,q⟩|⟨o,h,q⟩
 .obtain⟨hd,o,vs,ep,ho,D⟩:=dU I.hok (.inl h)
  refine⟨d,kvs,o,vs,ep,thaw d,_,rfl,hd,ho,D,I.freeze h ho,sF λob v z=>?_,q D.nd o⟩
  have z':=I.base.frzs d ob v z
  rw[h] at z';cases z'
 .obtain⟨hd,o',vs,ep,ho,D⟩:=dU I.hok (.inr ⟨o,h⟩)
  have e:=(I.hok d _ h).1
  rw[ho] at e;cases e
  exact⟨d,kvs,_,vs,ep,id,H,rfl,hd,ho,D,I,dD,q D.nd⟩
theorem rIter.mono {K:Qc}{v:V}{H:Hp}{R R':It->Hp->Prop}(h:rIter K v H R)(k:∀J H,R J H->R' J H):rIter K v H R':=by
 rcases h with⟨a,e,hq,q⟩|⟨a,e,hq,q⟩|⟨x,e,q⟩
 .exact .inl ⟨a,e,hq,k _ _ q⟩
 .exact .inr (.inl ⟨a,e,hq,k _ _ q⟩)
 .exact .inr (.inr ⟨x,e,k _ _ q⟩)
abbrev Fz (d:Addr)(o:Obj)(kvs:List (j0×V)):It:=Eg d o kvs λkv=>kV kv.1
def wJ (K:Qc)(v:V)(H:Hp)(R:It->(Hp->Hp)->Hp->Prop):Prop:=rIter K v H (λJ H'=>R J id H')\/rIterD Fz v H R
def Ek (K:Qc)(tl:TE):lN:=λσ H R=>tl σ H λv H1=>wJ K v H1 R
theorem CG {l:Expr}{tl:TE}(hl:PE X l tl):uT X tg l (Ek X.K tl):=by
 intro pins s σ H R I h;refine E9 (hl pins s σ H _ I h) λv s1 ⟨x,H1,I1,r1,q1⟩=>?_;rcases q1 with q1|q1
 .exact tP I1 r1 (q1.mono λJ H' q=>⟨id,dD,q⟩)
 .obtain⟨d,kvs,o,vs,ep,th,H',rfl,hd,ho,D,I2,MQ,q⟩:=rIterD.go I1 r1 q1;refine wpAny_pyIter_dict hd (D.at_ _ ho) ?_;refine⟨s1.heap.objs.size,[s1.heap.objs.size],_,_,H',rfl,I2.kept (t':=s1.toks) λb o e=>GB _ e,sP D _,⟨_,GW _ rfl,rfl,rfl⟩,λb hb=>?_,th,MQ,q⟩;have e:b=s1.heap.objs.size:=by simpa using hb
  subst e;exact I2.fpOk (Gv _) (I2.hok.fresh (Gv _))
def oW (tl:TE):lN:=λσ H R=>tl σ H λv H1=>rIterD CV v H1 R
theorem vp {elts:List Expr}{x1}{j_:Pos}{o:Expr}{tl:TE}{apos b_:Pos}(ho:PE X o tl)
  (g_:attributeBase o "items" X.env (eval o X.env)=eval o X.env:=by rfl) (h_:(apos.endLine==b_.line)=true:=by rfl):
  uT X (.Tuple elts x1 j_) (.Call (.Attribute o "items" apos) [] [] b_) (oW tl):=by
 intro pins s σ H R I h
 refine JS g_ h_ (E9 (ho pins s σ H _ I h) λv s1 ⟨x,H1,I1,r1,q1⟩=>?_)
 obtain⟨d,kvs,ob,vs,ep,th,H',rfl,hd,y_,D,I2,MQ,q⟩:=rIterD.go I1 r1 q1
 have Ob:=(D.at_ _ y_).dictOf
 refine⟨"dict","dict.items",F.plainAttrs_dict,F.slot_dict_items,F.type_dict_items,Ob.typeIs,Ob.mapOf.noDict,Im rfl (Kt ?_)⟩
 refine Ik F.slot_dict_items Ob.typeIs F.entry_dict_items (F.args_dict_items_1 _) (meets_dict_items (k7 X.prog X.w) d hd) ⟨⟨vs,Ob⟩,?_⟩
 have I3:Inv X pins σ H' {s1 with heap:=s1.heap.push {cls:= .type "dict_items",data:= .fields #[.ref d]}}:=I2.kept (t':=s1.toks) λb o e=>GB _ e
 refine wpAny_pyIter_items (s:={s1 with heap:=s1.heap.push {cls:= .type "dict_items",data:= .fields #[.ref d]}}) (knd:=k7 X.prog X.w) ⟨_,GW _ rfl,rfl,rfl⟩ (D.at_ _ (GB _ y_)) ?_
 generalize hG:s1.heap.push {cls:= .type "dict_items",data:= .fields #[.ref d]}=G at I3⊢
 refine⟨G.objs.size,[G.objs.size],_,_,H',rfl,I3.kept (t':=s1.toks) λb o e=>GB _ e,oB D _,⟨.none,.none,GW _ rfl⟩,λb hb=>?_,th,MQ,q⟩
 have e:b=G.objs.size:=by simpa using hb
 subst e
 exact I3.fpOk (Gv _) (I3.hok.fresh (Gv _))
end
section
variable {J:It} {th:Hp->Hp} {n:Nat} {g:TG} {tb:TS} {nx bk ct:St->Hp->Prop} {rt:VK} {σ:St} {H:Hp} {own:List Str} {js:List Nat} {ti:TT} {te:TE} {Q:VK} {K:Qc}
theorem J5 (Pv:Nat->St->Hp->Prop)(h0:Pv 0 σ H)(NS:∀i σ H,i<n->Pv i σ H->J.go i H)
  (hs:∀i x σ H H',i<n->Pv i σ H->J.yld i H x H'->g x σ H' λσ2 H2=>tb ⟨Pv (i+1),λv H=>rt v (th H),λσ H=>nx σ (th H),Pv (i+1)⟩ σ2 H2)
  (hd:∀σ H,Pv n σ H->J.stop n H/\nx σ (th H)):
  xS J th g tb nx rt σ H:=by
 refine⟨λi m σ H=>m=n -i/\i<=n/\Pv i σ H,⟨n,by simp,IA _,h0⟩,?_⟩
 rintro i m σ H ⟨rfl,hi,p⟩
 by_cases j':i<n
 .exact .inr ⟨NS i σ H j' p,Pv (i+1),λσ' H' p'=>⟨n -(i+1),by lia,rfl,j',p'⟩,λx H' y=>hs i x σ H H' j' p y⟩
 .have e:i=n:=by lia
  subst e
  exact .inl (hd σ H p)
theorem u4 (Pv:Nat->List V->Hp->Prop)(h0:Pv 0 [] H)(NS:∀i out H,i<n->Pv i out H->J.go i H)
  (hs:∀(N:List V->Hp->Prop) i x out H H',i<n->Pv i out H->J.yld i H x H'->(∀Ny H',Pv (i+1) Ny H'->N Ny H')->g x (wQ own js σ) H' λσ2 H2=>σ2.drop own.length=js.map (λj=>(σ[j]?).join)/\ti σ2 H2 λb H3=>
   if b=true then te σ2 H3 λv H4=>out.length<=sizeLine/\N (out++[v]) H4 else N out H3)
  (hd:∀out H,Pv n out H->J.stop n H/\∀D,H D=none->out.length<=sizeLine/\Q (.ref D) (th (p0 H D (.lst out)))):
  vN own js J th g ti te Q σ H:=by
 refine⟨λi m out H=>m=n -i/\i<=n/\Pv i out H,⟨n,by simp,IA _,h0⟩,?_⟩
 rintro i m out H ⟨rfl,hi,p⟩
 by_cases j':i<n
 .exact .inr ⟨NS i out H j' p,λx H' y=>hs (λNy H'=>∃m',m'<n -i/\m'=n -(i+1)/\i+1<=n/\Pv (i+1) Ny H') i x out H H' j' p y λNy H' q=>⟨n -(i+1),by lia,rfl,j',q⟩⟩
 .have e:i=n:=by lia
  subst e
  exact .inl (hd out H p)
theorem CH {wi:lN}(q:wi σ H λJ th H1=>xS J th g tb nx rt σ H1):vt wi g tb ⟨nx,rt,bk,ct⟩ σ H:=q
theorem AR {wi:lN}(q:wi σ H λJ th H1=>vN own js J th g ti te Q σ H1):iD own js wi g ti te σ H Q:=q
theorem Dt {Qb:Bool->Hp->Prop}(q:Qb true H):AX σ H Qb:=q
theorem EG {tl:TE}{R:It->(Hp->Hp)->Hp->Prop}(q:tl σ H λv H1=>wJ K v H1 R):Ek K tl σ H R:=q
theorem wy {x:Str}{R:It->(Hp->Hp)->Hp->Prop}(q:R (Its x) id H):wJ K (.str x) H R:= .inl (.inr (.inr ⟨x,rfl,q⟩))
theorem A0 {a:Addr}{xs:List V}{R:It->(Hp->Hp)->Hp->Prop}(h:SqL K H a xs)(q:R (Itl K a) id H):wJ K (.ref a) H R:= .inl (.inl ⟨a,rfl,⟨xs,h⟩,q⟩)
theorem nL {d:Addr}{kvs:List (j0×V)}{R:It->(Hp->Hp)->Hp->Prop}(h:H d=some (.dK kvs))(q:(kvs.map (·.1)).Nodup->∀o,R (Fz d o kvs) (thaw d) (D0 d o kvs H)):wJ K (.ref d) H R:=
 .inr ⟨d,kvs,rfl,.inl ⟨h,q⟩⟩
theorem xI {tl:TE}{R:It->(Hp->Hp)->Hp->Prop}(q:tl σ H λv H1=>rIterD CV v H1 R):oW tl σ H R:=q
theorem C7 {d:Addr}{kvs:List (j0×V)}{R:It->(Hp->Hp)->Hp->Prop}(h:H d=some (.dK kvs))(q:(kvs.map (·.1)).Nodup->∀o,R (CV d o kvs) (thaw d) (D0 d o kvs H)):rIterD CV (.ref d) H R:=⟨d,kvs,rfl,.inl ⟨h,q⟩⟩
theorem Aw {ta:TA}{R:It->Hp->Prop}(q:ta σ H λvs H1=>∃j:Int,vs=[.int j]/\-(2 ^ 62)<=j/\j<2 ^ 62/\R (Ef 0 j.toNat) H1):vA ta σ H R:=q
theorem J1 {i:Int}{R:Int->Prop}(h0:0<=i)(h1:i<1000000)(q:R i):∃j:Int,[V.int i]=[.int j]/\-(2 ^ 62)<=j/\j<2 ^ 62/\R j:=⟨i,rfl,by lia,by lia,q⟩
theorem C5 {p:Prop}[Decidable p]{A B:Prop}(h1:p->A)(h2:¬p->B):if decide p=true then A else B:=by
 by_cases h:p
 .rw[if_pos (Hf h)];exact h1 h
 .rw[if_neg (by simp [h])];exact h2 h
theorem aD {p:Prop}[Decidable p]{A B:Prop}(h1:¬p->A)(h2:p->B):if(!decide p)=true then A else B:=by
 by_cases h:p
 .rw[if_neg (by simp [h])];exact h2 h
 .rw[if_pos (by simp [h])];exact h1 h
theorem V5 {b:Bool}{A B:Prop}(h1:b=true->A)(h2:b=false->B):if b=true then A else B:=by
 cases b with
 |true=>rw[if_pos rfl];exact h1 rfl
 |false=>rw[if_neg Hi];exact h2 rfl
theorem dJ {b:Bool}{A B:Prop}(h1:b=false->A)(h2:b=true->B):if(!b)=true then A else B:=by
 cases b with
 |true=>rw[if_neg (by simp)];exact h2 rfl
 |false=>rw[if_pos (by simp)];exact h1 rfl
theorem CS {A B:Prop}(h:A):if(!false)=true then A else B:=by rw[if_pos (by rfl)];exact h
theorem BV {A B:Prop}(h:B):if(!true)=true then A else B:=by rw[if_neg (by decide)];exact h
theorem yL {t u:TS}(P:St->Hp->Prop)(h1:∀σ H,P σ H->u ⟨nx,rt,bk,ct⟩ σ H)(h2:∀nx':St->Hp->Prop,(∀σ H,P σ H->nx' σ H)->t ⟨nx',rt,bk,ct⟩ σ H):sY t u ⟨nx,rt,bk,ct⟩ σ H:=h2 _ h1
theorem b4 {o:HO}{p:Addr}(hp:H p=none):∃H',p0 H p o=H'/\H' p=some o/\Same H H'/\∀b,b≠p->H' b=H b:=⟨_,rfl,b7,λb u e=>by rw[b9 (j4 e hp)];exact e,λb hb=>b9 hb⟩
theorem fe {α:Type}{xs:List α}{i:Int}(h0:0<=i)(h1:i<xs.length):∃v,gM xs i=some v/\xs[i.toNat]?=some v:=by
 obtain⟨j,rfl⟩:=Ld h0;have hj:j<xs.length:=by lia
 exact⟨xs[j],b5 (by simp [hj]),by simp [hj]⟩
theorem bF (x y:Str):(x++y).length=x.length+y.length:=by
 show(x.cps++y.cps).size=_;simp [Str.length]
theorem dB (c:Nat):(⟨#[c]⟩:Str).length=1:=rfl
theorem og (x:Str):x.length=x.cps.toList.length:=by simp [Str.length]
theorem h9 {n:Nat}(h:n<=1000):n<=sizeLine:=He h (by decide)
theorem Same.rd {H H':Hp}{a:Addr}{u:HO}(s:Same H H')(h:Rd H a u):Rd H' a u:=by
 rcases h with h|⟨o,h⟩
 .exact .inl (s _ _ h)
 .exact .inr ⟨o,s _ _ h⟩
theorem Same.tup {H H':Hp}{a:Addr}{xs:List V}(s:Same H H')(h:SqT K H a xs):SqT K H' a xs:=by
 rcases h with h|h
 .exact .inl (s.rd h)
 .exact .inr h
theorem TyB.mono {H H':Hp}{v:V}{t:String}(h:TyB K H v t)(s:Same H H'):TyB K H' v t:=by
 cases v with
 |ref a=>
  rcases h with⟨e,xs,h⟩|⟨e,xs,h⟩|⟨e,kvs,h⟩
  .exact .inl ⟨e,xs,s.seq h⟩
  .exact .inr (.inl ⟨e,xs,s.tup h⟩)
  .exact .inr (.inr ⟨e,kvs,s.rd h⟩)
 |_=>exact h
theorem Its.lt {x:Str}{i:Nat}{H H':Hp}{v:V}(h:(Its x).yld i H v H'):H'=H/\∃c,x.cps.toList[i]?=some c/\v=xc c:=by
 obtain⟨e,c,hc,hv⟩:=h;exact⟨e,c,by simpa using hc,hv⟩
theorem Itl.get {a:Addr}{xs:List V}{i:Nat}{H H':Hp}{v:V}(h:(Itl K a).yld i H v H')(hx:SqL K H a xs):H'=H/\xs[i]?=some v:=⟨h.1,h.2 xs hx⟩
theorem C4 {α β:Type}{l:List α}{i:Nat}{a:α}(f:α->β)(h:l[i]?=some a):(l.take i).map f++[f a]=(l.take (i+1)).map f:=by
 rw[Ho,h];simp
end
section
variable {X:Cx} (K:Qc) {a e:Expr} {ta te:TE} {tg:Expr} {pos:Pos}
theorem F4 (h:X.K=K:=by rfl):OpR X (binaryOp .Add) (mf K):=h▸xK
theorem kIn (hu:X.A.units+1<cLine)(h:X.K=K:=by rfl):OpR X (compareOp .In) (su K):=h▸Bq hu
theorem bg (hu:X.A.units+1<cLine)(h:X.K=K:=by rfl):OpR X (compareOp .NotIn) (gd K):=h▸tu hu
theorem l0 (hu:X.A.units+1<cLine)(h:X.K=K:=by rfl):IxR X (mQ K):=h▸zp hu
theorem DP (h:X.K=K:=by rfl):SlR X (Ee K):=h▸Az
theorem tE (hc:X.calm=true)(h:X.K=K:=by rfl):CallR X (.builtin "all") (rp K):=h▸sS hc
theorem Fd (hc:X.calm=true)(h:X.K=K:=by rfl):CallR X (.builtin "any") (Co K):=h▸tf hc
def Bj (ta:TE):TT:=λσ H Q=>ta σ H λx H'=>∃k,uf K x H' k/\Q k H'
theorem Fq (ha:PE X a ta)(h:X.K=K:=by rfl)(he:∀whole,isTrue a X.env whole=(do let v←whole;standAt a.pos;holding [v] (truthy v)):=by intro _;rfl):PT X a (Bj K ta):=h▸uw ha he
theorem Bn {σ:St}{H:Hp}{Qb:Bool->Hp->Prop}(q:ta σ H λx H'=>∃k,uf K x H' k/\Qb k H'):Bj K ta σ H Qb:=q
theorem FR (hl:PE X a ta)(h:X.K=K:=by rfl):uT X tg a (Ek K ta):=h▸CG hl
theorem Ey {es:List Expr}{k:Nat}{t:pL}{n:Nat}(hc:X.calm=true)(hg:ym X es t)(h:X.K=K:=by rfl)
  (hn:(assignEach es X.env).length=n:=by rfl) (Nq:(assignEach es X.env).findIdx? (·.1)=none:=by rfl):PG X (.Tuple es k pos) (wD K n t):=h▸Bg hc hg hn Nq
end
def u6:Expr->Bool
 | .Starred _ _=>false
 |_=>true
def A2 (es:List Expr):Bool:=es.all u6
theorem G8 {e:Expr}{es:List Expr}{env:Env}(h:u6 e=true):starEach (e::es) env=(false,eval e env)::starEach es env:=by
 cases e<;>first|rfl|cases h
theorem aS {env:Env}{pos:Pos}:∀{es:List Expr},A2 es=true->(backTo pos (starEach es env)).any (·.1)=false
 |[],_=>rfl
 |e::es,h=>by
  have h':(u6 e&&A2 es)=true:=h;rw[GP] at h';rw[G8 h'.1];show(false||(backTo pos (starEach es env)).any (·.1))=false;rw[aS h'.2];rfl
theorem qa {e:Expr}{es:List Expr}{env:Env}(h:u6 e=true):assignEach (e::es) env=(false,assign e env)::assignEach es env:=by
 cases e<;>first|rfl|cases h
theorem ve {env:Env}:∀{es:List Expr},A2 es=true->(assignEach es env).length=es.length
 |[],_=>rfl
 |e::es,h=>by
  have h':(u6 e&&A2 es)=true:=h;rw[GP] at h';rw[qa h'.1,HF,ve h'.2,HF]
theorem vq {env:Env}:∀{es:List Expr},A2 es=true->(assignEach es env).findIdx? (·.1)=none
 |[],_=>rfl
 |e::es,h=>by
  have h':(u6 e&&A2 es)=true:=h;rw[GP] at h';rw[qa h'.1,List.findIdx?_cons];simp [vq h'.2]
section
variable {X:Cx} {K:Qc} {e:Expr} {es:List Expr} {te:TE} {t:TA} {x:Str} {p pos:Pos} {id T:String} {r:List V->Hp->VK->Prop}
theorem FT (ha:PE X e te)(hr:PA X es t)(h:u6 e=true:=by rfl):PA X (e::es) (qO te t):=xn ha hr (G8 h)
theorem cB (hc:CallR X (.builtin id) r)(hm:X.mg x=none)(hv:bootBuiltins x=some (.builtin id))(ha:PA X (e::es) t)(hg:Gl X x:=by rfl)(hn:x≠"__name__":=by decide)(q_:(x==("__debug__":Str))=false:=by decide)
  (h:A2 (e::es)=true:=by rfl):PE X (.Call (.Name x p) (e::es) [] pos) (Be r t):=by
 have h':(u6 e&&A2 es)=true:=h
 rw[GP] at h'
 exact vo hc hg hm hv ha hn q_ (G8 h'.1) (aS h'.2)
theorem FK (hc:CallR X (.type T) r)(hm:X.mg x=none)(hv:bootBuiltins x=some (.type T))(ha:PA X (e::es) t)(hg:Gl X x:=by rfl)(hn:x≠"__name__":=by decide)(q_:(x==("__debug__":Str))=false:=by decide)
  (h:A2 (e::es)=true:=by rfl):PE X (.Call (.Name x p) (e::es) [] pos) (Be r t):=by
 have h':(u6 e&&A2 es)=true:=h
 rw[GP] at h'
 exact rm hc hg hm hv ha hn q_ (G8 h'.1) (aS h'.2)
theorem cC {CX:lO}{k:Nat}{ps:List Str}{l_:List V}{sp:Sp}{E:XK}(C:O4 X.prog X.w X.K X.mg X.base CX k x ps l_ sp)(hr:Room k X.A)(hx:cj CX X E)(ha:PA X (e::es) t)(hg:Gl X x:=by rfl)
  (q_:(x==("__debug__":Str))=false:=by decide) (h:A2 (e::es)=true:=by rfl):PE X (.Call (.Name x p) (e::es) [] pos) (mP sp l_ E t):=by
 have h':(u6 e&&A2 es)=true:=h
 rw[GP] at h'
 exact ux C hr hx ha hg q_ (G8 h'.1) (aS h'.2)
theorem gT {tg:Expr}{k:Nat}{u:pL}(hc:X.calm=true)(hg:ym X es u)(hK:X.K=K:=by rfl)(h:A2 es=true:=by rfl):PG X (.Tuple es k pos) (wD K es.length u):=Ey K hc hg hK (ve h) (vq h)
theorem gC {g:TG}{u:pL}(h1:PG X e g)(h2:ym X es u)(h:u6 e=true:=by rfl):ym X (e::es) (pZ g u):=wq h1 h2 (by rw[qa h];rfl)
end
structure QE (X:Cx) (e:Expr) (t:TE):Prop where
 r:PE X e t
structure QT (X:Cx) (e:Expr) (t:TT):Prop where
 r:PT X e t
structure QW (X:Cx) (e:Expr) (t:TT):Prop where
 r:PW X e t
structure QA (X:Cx) (es:List Expr) (t:TA):Prop where
 r:PA X es t
structure QS (X:Cx) (st:Stmt) (t:TS):Prop where
 r:PS X st t
structure QSs (X:Cx) (st:List Stmt) (t:TS):Prop where
 r:PSs X st t
structure QG (X:Cx) (tg:Expr) (t:TG):Prop where
 r:PG X tg t
structure En (X:Cx) (tg:List Expr) (t:pL):Prop where
 r:ym X tg t
structure QI (X:Cx) (tg iter:Expr) (t:lN):Prop where
 r:uT X tg iter t
structure Et (X:Cx) (ifs:List Expr) (t:TT):Prop where
 r:oZ X ifs t
structure QO (X:Cx) (e:Option Expr) (t:TO):Prop where
 r:PO X e t
structure QP (X:Cx) (pos:Pos) (keys:List (Option Expr)) (values:List Expr) (SX:List (TE×TE)):Prop where
 r:FZ X pos keys values SX
section
variable {X:Cx} {a b c e o:Expr} {es:List Expr} {ta tb tc te to:TE} {tA N':TT} {t:TA} {T7:List Expr} {pos apos b_ p2:Pos} {x:Str} {p:Pos} {Oz T:String}
theorem mT {j}:QE X (.Constant .none j pos) (tC .non):=⟨zF⟩
theorem wW {b:Bool}{j}:QE X (.Constant (.bool b) j pos) (tC (.bl b)):=⟨CT⟩
theorem d8 {i:Int}{j}:QE X (.Constant (.int i) j pos) (tC (.int i)):=⟨BE⟩
theorem fV {x:Str}{j}:QE X (.Constant (.str x) j pos) (tC (.str x)):=⟨zX⟩
theorem qV (i:Nat)(hN:X.N[i]?=some x:=by rfl)(hv:EE X.env.scope x:=by first|exact Or.inl rfl|exact Or.inr (Or.inl rfl)|exact Or.inr (Or.inr rfl))(hd:(x==("__debug__":Str))=false:=by decide)
  (Mn:(x==("__classdict__":Str))=false:=by decide):QE X (.Name x pos) (xl i):=⟨zu hN hv hd Mn⟩
theorem Ft {v:V}(h:DY X.mg x v)(hg:Gl X x:=by rfl)(hd:(x==("__debug__":Str))=false:=by decide):QE X (.Name x pos) (tC v):=⟨AN h hg hd⟩
theorem DD (n:String)(hm:X.mg x=none)(hv:bootBuiltins x=some (.type n))(hg:Gl X x:=by rfl)(hn:x≠"__name__":=by decide)(hd:(x==("__debug__":Str))=false:=by decide):QE X (.Name x pos) (tC (.ty n)):=⟨xr hg hm hv rfl hn hd⟩
theorem B1 {op:Operator}{r:R2}(ho:OpR X (binaryOp op) r)(ha:QE X a ta)(hb:QE X b tb):QE X (.BinOp a op b pos) (xH r ta tb):=⟨CA ho ha.r hb.r⟩
theorem Gp {op:UnaryOp}{r:V->Hp->VK->Prop}(ho:Er X (unaryOp op) r)(ha:QE X a ta):QE X (.UnaryOp op a pos) (EA r ta):=⟨Ce ho ha.r⟩
theorem EM (ha:QE X a ta):QE X (.UnaryOp .Not a pos) (vx ta):=⟨zS ha.r⟩
theorem Bm {op}(h:QE X a ta):QE X (.BoolOp op [a] pos) ta:=⟨AM h.r⟩
theorem DI (ha:QE X a ta)(hb:QE X (.BoolOp .And (b::T7) pos) tb):QE X (.BoolOp .And (a::b::T7) pos) (vE ta tb):=⟨zv ha.r hb.r⟩
theorem FW (ha:QE X a ta)(hb:QE X (.BoolOp .Or (b::T7) pos) tb):QE X (.BoolOp .Or (a::b::T7) pos) (Af ta tb):=⟨Dp ha.r hb.r⟩
theorem dQ {op:CmpOp}{r:R2}(ho:OpR X (compareOp op) r)(ha:QE X a ta)(hb:QE X b tb)(hm:behindInMarks op b=false):QE X (.Compare a [op] [b] pos) (xH r ta tb):=⟨yp ho ha.r hb.r hm⟩
theorem x5 {op:CmpOp}{r:R2}(ho:OpR X (compareOp op) r)(ha:QE X a ta)(hb:QE X b tb)(hm:behindInMarks op b=false):QT X (.Compare a [op] [b] pos) (vy (xH r ta tb)):=⟨xR ho ha.r hb.r hm⟩
theorem Du (hc:QT X c tA)(ha:QE X a ta)(hb:QE X b tb):QE X (.IfExp c a b pos) (EF tA ta tb):=⟨wz hc.r ha.r hb.r⟩
theorem Ej:QO X none kT:=⟨xX⟩
theorem BP (h:QE X e te):QO X (some e) (wB te):=⟨xf h.r⟩
theorem Cb {lo hi:Option Expr}{tl th:TO}{r:V->Option Int->Option Int->Hp->VK->Prop}(hr:SlR X r)(he:QE X e te)(hl:QO X lo tl)(hu:QO X hi th):QE X (.Subscript e (.Slice lo hi none p2) pos) (Fc r te tl th):=⟨wI hr he.r hl.r hu.r⟩
theorem k9 {r:R2}(hr:IxR X r)(ha:QE X a ta)(hb:QE X b tb)(hs:qQ b):QE X (.Subscript a b pos) (xH r ta tb):=⟨Cy hr ha.r hb.r hs⟩
theorem dn (h:QA X es t):QE X (.List es pos) (zM t):=⟨Ao h.r⟩
theorem P5 {x1}(h:QA X es t):QE X (.Tuple es x1 pos) (zz t):=⟨Ad h.r⟩
theorem tH:QE X (.Dict [] [] pos) wm:=⟨um⟩
theorem j6:QA X [] rW:=⟨zq⟩
theorem j3 (ha:QE X e te)(hr:QA X es t)(h:u6 e=true:=by rfl):QA X (e::es) (qO te t):=⟨FT ha.r hr.r h⟩
theorem qB {r:List V->Hp->VK->Prop}(hc:CallR X (.builtin Oz) r)(hm:X.mg x=none)(hv:bootBuiltins x=some (.builtin Oz))(ha:QA X (e::es) t)(hg:Gl X x:=by rfl)(hn:x≠"__name__":=by decide)(q_:(x==("__debug__":Str))=false:=by decide)
  (h:A2 (e::es)=true:=by rfl):QE X (.Call (.Name x p) (e::es) [] pos) (Be r t):=⟨cB hc hm hv ha.r hg hn q_ h⟩
theorem gD {r:List V->Hp->VK->Prop}(hc:CallR X (.type T) r)(hm:X.mg x=none)(hv:bootBuiltins x=some (.type T))(ha:QA X (e::es) t)(hg:Gl X x:=by rfl)(hn:x≠"__name__":=by decide)(q_:(x==("__debug__":Str))=false:=by decide)
  (h:A2 (e::es)=true:=by rfl):QE X (.Call (.Name x p) (e::es) [] pos) (Be r t):=⟨FK hc hm hv ha.r hg hn q_ h⟩
theorem qC {CX:lO}{k:Nat}{ps:List Str}{l_:List V}{sp:Sp}{E:XK}(C:O4 X.prog X.w X.K X.mg X.base CX k x ps l_ sp)(hr:Room k X.A)(hx:cj CX X E)(ha:QA X (e::es) t)(hg:Gl X x:=by rfl)
  (q_:(x==("__debug__":Str))=false:=by decide) (h:A2 (e::es)=true:=by rfl):QE X (.Call (.Name x p) (e::es) [] pos) (mP sp l_ E t):=⟨cC C hr hx ha.r hg q_ h⟩
theorem qM {name:Str}{r:V->List V->Hp->VK->Prop}(pa:PlainAttrs T)(slot:Slot T name Oz)(N_:typeOf (.builtin Oz)=pure (.type "method_descriptor"))(hm:uO X Oz r)(K:Qc)(ho:QE X o to)(ha:QA X (e::es) t)(hK:X.K=K:=by rfl)
  (g_:attributeBase o name X.env (eval o X.env)=eval o X.env:=by rfl)
  (h:A2 (e::es)=true:=by rfl) (h2:decide ((e::es).length<30)=true:=by rfl) (h_:(apos.endLine==b_.line)=true:=by rfl):QE X (.Call (.Attribute o name apos) (e::es) [] b_) (EX K T r to t):=by
 have h':(u6 e&&A2 es)=true:=h
 rw[GP] at h'
 have o_:∀{l:List Expr},A2 l=true->(backTo b_ (starEach l X.env)).all (λx=>!x.1)=true:=fun{l} hl=>by
  have q:=aS (env:=X.env) (pos:=b_) hl;rw[Hk];intro y hy;rw[MT] at q;simpa using q y hy
 subst hK
 refine⟨Eb pa slot N_ hm ho.r ha.r g_ ?_ h_ (G8 h'.1) (aS h'.2)⟩
 rw[o_ h]
 show(true&&true&&decide ((e::es).length+0+0<30))=true
 simpa using h2
theorem DE {name:Str}{r:V->List V->Hp->VK->Prop}(pa:PlainAttrs T)(slot:Slot T name Oz)(N_:typeOf (.builtin Oz)=pure (.type "method_descriptor"))(hm:uO X Oz r)(K:Qc)(ho:QE X o to)(hK:X.K=K:=by rfl)
  (g_:attributeBase o name X.env (eval o X.env)=eval o X.env:=by rfl) (h_:(apos.endLine==b_.line)=true:=by rfl):QE X (.Call (.Attribute o name apos) [] [] b_) (BA K T r to):=⟨hK▸zO pa slot N_ hm ho.r g_ h_⟩
theorem E4 {own:List Str}{js:List Nat}{scope:Scope}{tg iter elt:Expr}{ifs:List Expr}{g:TG}{ti:TT}{wi:lN}(S:BM X own js scope=true)(hc:X.calm=true)(hit:QI X tg iter wi)
  (hg:∀C s H fp,QG (bI X own js scope C s H fp) tg g) (hi:∀C s H fp,Et (bI X own js scope C s H fp) ifs ti) (he:∀C s H fp,QE (bI X own js scope C s H fp) elt te)
  (hs:∀x,foldedSetIterable iter X.env x=pure x:=by intro _;rfl):QE X (.ListComp elt [⟨tg,iter,ifs,0⟩] scope pos) (iD own js wi g ti te):=
 ⟨sv S hc hit.r (λC s H fp=>(hg C s H fp).r) (λC s H fp=>(hi C s H fp).r) (λC s H fp=>(he C s H fp).r) hs⟩
theorem af:Et X [] AX:=⟨DQ⟩
theorem gP (h:QT X c tA):Et X [c] tA:=⟨Fw h.r⟩
theorem cK (ha:QT X a tA):QT X (.UnaryOp .Not a pos) (BI tA):=⟨zA ha.r⟩
theorem U4 (K:Qc)(ha:QE X a ta)(h:X.K=K:=by rfl)(he:∀whole,isTrue a X.env whole=(do let v←whole;standAt a.pos;holding [v] (truthy v)):=by intro _;rfl):QT X a (Bj K ta):=⟨Fq K ha.r h he⟩
theorem sL (h:QW X a tA):QT X a tA:=⟨h.r.pt⟩
theorem cn (ha:QT X a tA):QW X (.BoolOp .And [a] pos) tA:=⟨xp ha.r⟩
theorem kh (ha:QT X a tA):QW X (.BoolOp .Or [a] pos) tA:=⟨AA ha.r⟩
theorem dM (ha:QT X a tA)(hb:QW X (.BoolOp .And (b::T7) pos) N'):QW X (.BoolOp .And (a::b::T7) pos) (BF tA N'):=⟨AJ ha.r hb.r⟩
theorem oT (ha:QT X a tA)(hb:QW X (.BoolOp .Or (b::T7) pos) N'):QW X (.BoolOp .Or (a::b::T7) pos) (Fo tA N'):=⟨Cc ha.r hb.r⟩
theorem F9 {i:Nat}(hN:X.N.Nodup)(hi:X.N[i]?=some x)(hx:yQ X.env.scope x)(hf:X.fn x=true\/X.env.scope.names.lookup x=some .local:=by first|exact .inl rfl|exact .inr rfl|assumption):QG X (.Name x pos) (Q3 i):=⟨xN hN hi hx hf⟩
theorem oS:En X [] zV:=⟨xM⟩
theorem cH {g:TG}{u:pL}(h1:QG X e g)(h2:En X es u)(h:u6 e=true:=by rfl):En X (e::es) (pZ g u):=⟨gC h1.r h2.r h⟩
theorem oX (K:Qc){k:Nat}{u:pL}(hc:X.calm=true)(hg:En X es u)(hK:X.K=K:=by rfl)(h:A2 es=true:=by rfl):QG X (.Tuple es k pos) (wD K es.length u):=⟨gT (tg:= .Name Str.empty pos) hc hg.r hK h⟩
theorem kC {i:Expr}{ti:TE}{u:pF}(ho:QE X o to)(hi:QE X i ti)(hs:sh X u)
  (ha:∀v,assign (.Subscript o i pos) X.env v=(do
   let ov←holding [v] (eval o X.env)
   let iv←holding [v,ov] (eval i X.env)
   standAt pos
   holding [v,ov,iv] (setItem ov iv v)
   release [v,ov,iv] []):=by intro _;rfl):QG X (.Subscript o i pos) (xD to ti u):=⟨AK ho.r hi.r hs ha⟩
theorem Q4 (K:Qc){tg:Expr}(hl:QE X a ta)(h:X.K=K:=by rfl):QI X tg a (Ek K ta):=⟨FR K hl.r h⟩
def Bb (wi:TI):lN:=λσ H R=>wi σ H λJ H'=>R J id H'
theorem CK {wi:TI}{σ:St}{H:Hp}{R:It->(Hp->Hp)->Hp->Prop}(q:wi σ H λJ H'=>R J id H'):Bb wi σ H R:=q
theorem fQ {tg:Expr}(hm:X.mg "range"=none)(ha:QA X [a] t)(hg:Gl X "range":=by rfl)(h:u6 a=true:=by rfl):QI X tg (.Call (.Name "range" p) [a] [] pos) (Bb (vA t)):=⟨(rG hg hm ha.r (G8 h)).two⟩
theorem Q6 {elts:List Expr}{x1}{j_:Pos}(ho:QE X o to)
  (g_:attributeBase o "items" X.env (eval o X.env)=eval o X.env:=by rfl) (h_:(apos.endLine==b_.line)=true:=by rfl):QI X (.Tuple elts x1 j_) (.Call (.Attribute o "items" apos) [] [] b_) (oW to):=⟨vp ho.r g_ h_⟩
variable {st:Stmt} {Wc body orelse:List Stmt} {u u':TS} {g:TG}
theorem cF:QSs X [] wA:=⟨yk⟩
theorem A7 (h:QS X st u):QSs X [st] u:=⟨xQ h.r⟩
theorem x6 (h1:QS X st u)(h2:QSs X Wc u'):QSs X (st::Wc) (sY u u'):=⟨vF h1.r h2.r⟩
theorem j8 {i:Nat}{pos':Pos}(hN:X.N.Nodup)(hi:X.N[i]?=some x)(hx:yQ X.env.scope x)(he:QE X e te)(hs:swapsWith e (some (.Name x pos')) pos.line X.env=pure false:=by rfl)(hf:X.fn x=true\/X.env.scope.names.lookup x=some .local:=by first|exact .inl rfl|exact .inr rfl):
  QS X (.Assign [.Name x pos'] e pos) (pM te (Q3 i)):=⟨Ag hN hi hx he.r hs hf⟩
theorem W8 {tg:Expr}(he:QE X e te)(hg:QG X tg g)(hs:swapsWithSole [tg] e pos.line X.env=pure false:=by rfl)(hw:swappedStores [tg] e X.env=pure none:=by rfl)(h:u6 tg=true:=by rfl):QS X (.Assign [tg] e pos) (pM te g):=
 ⟨BB he.r hg.r hs hw (by rw[qa h];rfl)⟩
theorem bC (hc:QT X c tA)(ht:QSs X body u)(he:QSs X orelse u'):QS X (.If c body orelse pos) (Bo tA u u'):=⟨De hc.r ht.r he.r⟩
theorem A1 (he:QE X e te):QS X (.Return (some e) pos) (Bl te):=⟨AG he.r⟩
theorem uC (he:QE X e te)(hs:swapsWith e none pos.line X.env=pure false:=by rfl):QS X (.Expr e pos) (ug te):=⟨yr he.r hs⟩
theorem Q1 {tg iter:Expr}{wi:lN}(hp:PassesOwn (model X.prog X.w) X.A X.env X.xe)(hc:X.calm=true)(hi:QI X tg iter wi)(hg:QG X tg g)(hb:QSs X body u)(hs:∀x,foldedSetIterable iter X.env x=pure x:=by intro _;rfl):QS X (.For tg iter body [] pos) (vt wi g u):=
 ⟨yj hp hc hi.r hg.r hb.r hs⟩
theorem Br (hp:PassesOwn (model X.prog X.w) X.A X.env X.xe)(hc:QT X c tA)(hb:QSs X body u):QS X (.While c body [] pos) (vz tA u):=⟨vM hp hc.r hb.r⟩
end
theorem ao:∀{ss:List Str} {us:List Value},Vals (ss.map V.str) us->StrsAre us ss
 |[],_,.nil=> .nil
 |x::ss,_,.cons r t=>by
  obtain⟨k,rfl⟩:=r;exact .cons x k (ao t)
theorem au:∀{us:List Value} {ss:List Str},StrsAre us ss->Vals (ss.map V.str) us
 |_,_,.nil=> .nil
 |_,_,.cons y t r=> .cons ⟨t,rfl⟩ (au r)
theorem U1:∀{xs:List V} {us:List Value},xs.length=us.length->(∀(i:Nat) x u,xs[i]?=some x->us[i]?=some u->RelV x u)->Vals xs us
 |[],[],_,_=> .nil
 |[],_::_,h,_=>by simp at h
 |_::_,[],h,_=>by simp at h
 |x::xs,u::us,h,k=> .cons (k 0 x u rfl rfl) (U1 (by simpa using h) λi y v e1 e2=>k (i+1) y v (by simpa using e1) (by simpa using e2))
section
variable {X:Cx}
theorem Inv.newL {pins:List (Addr×Obj)}{σ:St}{H:Hp}{s:Shared}{h':Heap}{tk:Nat}{a:Addr}{xs:List V}{out:Array Value}{e:Nat}(I:Inv X pins σ H s)(k:∀b u,s.heap.get? b=some u->h'.get? b=some u)(ha:s.heap.objs.size<=a)
  (ho:h'.get? a=some {cls:= .type "list",data:= .seq out e}) (rv:Vals xs out.toList) (hz:xs.length<=sizeLine):Inv X pins σ (p0 H a (.lst xs)) {s with heap:=h',toks:=tk}:=
 I.laid k ha ⟨hz,out.toList,e,rv,by rw[ho]⟩
theorem ObjOk.live {P:Program}{w:World}{H:Hp}{h:Heap}{a:Addr}{o:HO}(x:ObjOk P w H h a o):∃ob,h.get? a=some ob:=by
 cases o with
 |lst xs=>obtain⟨_,_,_,_,e⟩:=x;exact⟨_,e⟩
 |tup xs=>obtain⟨_,_,_,o,e,_⟩:=x;exact⟨_,e⟩
 |dK kvs=>obtain⟨_,_,_,_,o,_,_,e,_⟩:=x;exact⟨_,e⟩
 |dT kvs=>obtain⟨_,_,_,_,o,_,_,e,_⟩:=x;exact⟨_,e⟩
 |set S n=>obtain⟨o,_,_,_,e,_⟩:=x;exact⟨_,e⟩
 |ins C dx fs=>obtain⟨_,_,_,e,_⟩:=x;exact⟨_,e⟩
 |own y=>exact x
 |xd fs=>obtain⟨_,⟨_,_,_,e,_⟩,_⟩:=x;exact⟨_,e⟩
 |rng lo hi=>obtain⟨_,_,_,e⟩:=x;exact⟨_,e⟩
 |frz ob u=>obtain⟨e,_⟩:=x;exact⟨_,e⟩
 |tbl ps=>exact⟨_,(show h.get? a=some _ from x)⟩
 |met f y=>exact⟨_,(show h.get? a=some _ from x)⟩
 |ext φ=>obtain⟨_,e,_⟩:=x;exact e
theorem Inv.newN {pins:List (Addr×Obj)}{σ:St}{H:Hp}{s:Shared}{h':Heap}{tk:Nat}{a:Addr}{xs:List V}{out:Array Value}{e:Nat}(I:Inv X pins σ H s)(k:∀b u,s.heap.get? b=some u->h'.get? b=some u)(hn:s.heap.get? a=none)
  (ho:h'.get? a=some {cls:= .type "list",data:= .seq out e}) (rv:Vals xs out.toList) (hz:xs.length<=sizeLine):H a=none/\Inv X pins σ (p0 H a (.lst xs)) {s with heap:=h',toks:=tk}:=by
 have hH:H a=none:=by
  cases q:H a with
  |none=>rfl
  |some u=>
   obtain⟨ob,z⟩:=(I.hok a u q).live
   rw[hn] at z;cases z
 have na:∀b o,s.heap.get? b=some o->b≠a:=λb o z w=>by rw[w,hn] at z;cases z
 have nh:∀b u,H b=some u->b≠a:=λb u z=>j4 z hH
 refine⟨hH,I.un ⟨λb o z n _ _=>k b o z,λb o z n _ _=>⟨o.slots,k b o z⟩,λb o z n _=>by rw[b9 (na b o z)];exact n,λb o z _=>⟨o,k b o z⟩,λb ys z=>by rw[b9 (nh b _ z)];exact z,
  λb ob u z=>by rw[b9 (nh b _ z)];exact z,λb ps z=>⟨#[],by rw[b9 (nh b _ z)];simpa using z⟩⟩ λb u z=>?_⟩
 by_cases hb:b=a
 .subst hb
  rw[b7] at z;cases z
  exact⟨hz,out.toList,e,rv,by rw[ho]⟩
 .rw[b9 hb] at z
  exact(I.hok b u z).stay (λc v _ y=>k c v y) (λc y=>by rw[b9 (nh c _ y)];exact y) λc ys y=>by rw[b9 (nh c _ y)];exact y
def lj (K:Qc):List V->Hp->VK->Prop:=λxs H Q=>∃(p:Addr) (ss:List Str),xs=[.ref p]/\(SqL K H p (ss.map V.str)\/∃kvs:List (j0×V),Rd H p (.dK kvs)/\kvs.map (·.1)=ss.map Sum.inr)/\ss.length<64/\
 ∀K':List Str,K'.Perm ss->sortedS K'=true->∀l,H l=none->Q (.ref l) (p0 H l (.lst (K'.map V.str)))
theorem qX {M:Program}{w:World}{A:Around}{E:Value->Shared->Prop}{s:Shared}{a:Addr}{vs:List Value}{ss:List Str}{n:Nat}{Q:Value->Shared->Prop}(ho:s.heap.get? a=some (seqObj "list" vs.toArray n))(hS:StrsAre vs ss)(RZ:vs.length<64)
  (h:∀(out:Array Value) (K':List Str),StrsAre out.toList K'->K'.Perm ss->sortedS K'=true->Q .none {s with heap:=sortedHeap s.heap a vs out}):
  wpAny (model M w) A (call (.builtin "list.sort") [.ref a]) Q E s:=by
 refine JI PySem.F.slot_list_sort ⟨_,ho,rfl⟩ PySem.F.entry_list_sort ?_ (PySem.F.args_list_sort_1 _)
 refine list_sort_treeK strKind_oneLt ho hS.keysOf (λv₁ v₂ T7 e=>keyKind_strs (by rw[←e];exact hS)) RZ λLf hp hs=>?_
 obtain⟨K',h1,h2,h3⟩:=sorted_out_str hS hp hs
 exact⟨_,rfl,h _ K' h1 h2 h3⟩
theorem kr (hc:X.calm=true):CallR X (.builtin "sorted") (lj X.K):=by
 intro pins s σ H xs us Q I r h;obtain⟨p,ss,rfl,hx,RZ,q⟩:=h;obtain⟨u,rfl,ru⟩:=G6 r;cases ru;have QL:(64:Nat)<=sizeLine:=by decide
 rcases hx with hx|⟨kvs,hx,hk⟩
 .obtain⟨a_,rv,ht,hz⟩:=I.list hx;have hS:=ao rv;have hl:a_.length=ss.length:=by have:=rv.length;simpa using this.symm
  refine sorted_strs ht.isList hS (by lia) λout K' a1 a2 a3=>?_;obtain⟨e,he⟩:=sortedAll_at s.heap a_ out;have NP:=a2.length_eq;exact⟨.ref (s.heap.objs.size+1),_,I.newL (tk:=s.toks) (λ_ _=>sortedAll_old) (Kv _) he (au a1) (by rw[Gs];lia),rfl,q K' a2 a3 _ (I.hok.fresh (Kv _))⟩
 .obtain⟨hd,o,vs,ep,ho,D⟩:=dU I.hok hx;have dat:=D.at_ _ ho;have hlen:kvs.length=ss.length:=by have:=Ia List.length hk;simpa using this
  have G_:=KV.length D.kv;refine Calls.call_function_entry kind_sorted plain_sorted entry_sorted (args_sorted1 _) ?_;unfold Builtin.«sorted»;refine Gz (m:=checkCount "sorted" 1 1 _) (GN ?_);refine Gz (PySem.W.kdu_collect (A:=X.A.in1) (PySem.W.kdl_dict (knd:=k7 X.prog X.w) (kvs:=vs) (ep:=ep) hd) (I.ok.hd hc) dat (by lia) λh' tk acc hkp v_=>?_);have hl:acc.toList.length=vs.length:=by rw[JL];exact v_.1
  have hS:StrsAre acc.toList ss:=by
   refine ao (U1 (by rw[Gs];lia) λi x u e1 e2=>?_);obtain⟨k,y,hy,Ti⟩:=v_.2 i u (by rw[←Ju];exact e2);have e3:(kvs.map (·.1))[i]?=some k:=by rw[KV.keys D.kv,Gx,hy];rfl
   rw[hk,Gx] at e3;rw[Gx] at e1;cases e4:ss[i]? with
   |none=>rw[e4] at e1;cases e1
   |some z=>
    rw[e4] at e1 e3
    cases e1
    cases e3
    exact gf Ti
  refine Gz (wpAny_newList ?_ (by rw[hl];lia));refine Gz (HU (qX (s:={s with heap:=h'.push {cls:= .type "list",data:= .seq acc.toList.toArray},toks:=tk}) (n:=0) (GW _ rfl) hS (by lia) λout K' a1 a2 a3=>?_));obtain⟨e,he⟩:=sortedHeap_at (h:=h'.push {cls:= .type "list",data:= .seq acc.toList.toArray}) (a:=h'.objs.size) (vs:=acc.toList) (n:=0) (out:=out) (GW _ rfl);have m_:s.heap.get? h'.objs.size=none:=by
   cases z:s.heap.get? h'.objs.size with
   |none=>rfl
   |some ob=>exact absurd (GH (hkp _ _ z)) (Ib _)
  have NP:=a2.length_eq;obtain⟨hH,I2⟩:=I.newN (tk:=tk) (h':=sortedHeap (h'.push {cls:= .type "list",data:= .seq acc.toList.toArray}) h'.objs.size acc.toList out) (xs:=K'.map V.str) (λb u eb=>by
   have hb:=GH (hkp b u eb);rw[sortedHeap_old (b:=b) (GU hb) (by rw[Mg];exact Nat.lt_succ_of_lt hb)];exact GB _ (hkp b u eb)) m_ he (au a1) (by rw[Gs];lia)
  exact GN ⟨_,rfl,.ref h'.objs.size,_,I2,rfl,q K' a2 a3 _ hH⟩
def qI (K:Qc):List V->Hp->VK->Prop:=λxs H Q=>(∃p ys,xs=[.ref p]/\(SqL K H p ys\/SqT K H p ys)/\∀l,H l=none->Q (.ref l) (p0 H l (.lst ys)))\/
 (∃(p:Addr) (kvs:List (j0×V)),xs=[.ref p]/\Rd H p (.dK kvs)/\∀l,H l=none->Q (.ref l) (p0 H l (.lst (kvs.map λkv=>kV kv.1))))
theorem ox (hc:X.calm=true):CallR X (.type "list") (qI X.K):=by
 refine call_list_of.or ?_;intro pins s σ H xs us Q I r h;obtain⟨p,kvs,rfl,hx,q⟩:=h;obtain⟨u,rfl,ru⟩:=G6 r;cases ru;obtain⟨hd,o,vs,ep,ho,D⟩:=dU I.hok hx;have G_:=KV.length D.kv;have hz:kvs.length<=sizeLine:=(M4 I.hok hx).1;refine PySem.W.kdl_call (PySem.W.kdl_dict (knd:=k7 X.prog X.w) (kvs:=vs) (ep:=ep) hd) (I.ok.hd hc) (D.at_ _ ho) (by lia) λh' tk acc c hkp hS v_=>?_;refine⟨.ref s.heap.objs.size,_,I.newL (tk:=tk) hkp (Gv _) hS (U1 (by have:=v_.1;simp;lia) λi x u e1 e2=>?_) (by rw[Gs];exact hz),rfl,q _ (I.hok.fresh (Gv _))⟩;obtain⟨k,y,hy,Ti⟩:=v_.2 i u (by rw[←Ju];exact e2);rw[Gx] at e1;cases e4:kvs[i]? with
 |none=>rw[e4] at e1;cases e1
 |some kv=>
  rw[e4] at e1
  cases e1
  have e3:(kvs.map (·.1))[i]?=some kv.1:=by rw[Gx,e4];rfl
  rw[KV.keys D.kv,Gx,hy] at e3
  cases e3
  exact gf Ti
def yV:List V->Hp->VK->Prop:=λxs H Q=>∃(p:Addr) (kvs:List (j0×V)),xs=[.ref p]/\Rd H p (.dK kvs)/\∀l,H l=none->Q (.ref l) (p0 H l (.dK kvs))
theorem oF:CallR X (.type "dict") yV:=by
 intro pins s σ H xs us Q I r h;obtain⟨p,kvs,rfl,hx,q⟩:=h;obtain⟨u,rfl,ru⟩:=G6 r;cases ru;exact vZ I hx λl s' hl I'=>⟨.ref l,_,I',rfl,q l hl⟩
def xZ (K:Qc):List V->Hp->VK->Prop:=λxs H Q=>∃(p:Addr) (ns:List Int),xs=[.ref p]/\SqL K H p (ns.map V.int)/\Q (.int ns.sum) H
theorem sj (hc:X.calm=true):CallR X (.builtin "sum") (xZ X.K):=by
 intro pins s σ H xs us Q I r h;obtain⟨p,ns,rfl,hx,q⟩:=h;obtain⟨u,rfl,ru⟩:=G6 r;cases ru;obtain⟨a_,rv,ht,hz⟩:=I.list hx;have hi:=oY rv;obtain⟨ys,hy⟩:=hi.allInts.items;have hl:s.heap.IsList p (intItems ys):=hy▸ht.isList;refine sum_intListG (I.ok.hd hc) hl λh' tk t' hk=>?_;have e1:ns=ys.toList.map (·.1):=by
  rw[←nums_intItems,←hy];exact(show numsOf a_.toArray.toList=ns from hi.numsOf).symm
 have e2:preSum (numAt ys) ys.size=ns.sum:=by
  rw[preSum_eq,GD (by simp),e1]
 rw[e2];exact⟨.int ns.sum,H,I.kept hk,⟨t',rfl⟩,q⟩
def tX:R2:=λx y H Q=>rI CMul (λi j=> .int (i*j)) x y H Q\/(∃z n,x= .str z/\y= .int n/\z.length<=1000/\-1000<=n/\n<=1000/\Q (.str (Txt.mul z n)) H)
theorem op_mulY:OpR X (binaryOp .Mult) tX:=by
 refine op_mul.or ?_;intro pins s σ H x y v u Q I rx ry h;obtain⟨z,n,rfl,rfl,h1,h2,h3,q⟩:=h;obtain⟨t,rfl⟩:=rx;obtain⟨t',rfl⟩:=ry;exact SB.mul (mulOk_of 1000 1000 h1 h3 (by lia) (by decide) (by decide)) λt2 k=>⟨.str _,H,I.tok _,⟨t2,rfl⟩,q⟩
def qb:pF:=λo i v H Q=>yX o i v H Q\/(∃a H',o= .ref a/\DPut H a i v H'/\Q H')
theorem xE (hu:X.A.units+1<cLine):sh X qb:=by
 intro pins s σ H o i v ov iv u Q I ro ri rv h;rcases h with h|⟨a,H',rfl,g,q⟩
 .exact vm pins s σ H o i v ov iv u Q I ro ri rv h
 .cases ro;exact rO hu I g ri rv λs' I'=>⟨H',I',q⟩
end
section
variable {X:Cx}
theorem Inv.pairNew {pins:List (Addr×Obj)}{σ:St}{H:Hp}{s:Shared}{fp:List Addr}{h':Heap}{tk:Nat}{x y:V}{u v:Value}{e:Nat}(I:Inv X pins σ H s)(hf:∀b∈fp,cJ X pins H b)
  (kp:∀b o,b∉fp->s.heap.get? b=some o->h'.get? b=some o) (there:∀b∈fp,b<s.heap.objs.size) (tup:h'.get? s.heap.objs.size=some {cls:= .type "tuple",data:= .seq #[u,v] e}) (rx:RelV x u) (ry:RelV y v):
  H s.heap.objs.size=none/\Inv X pins σ (p0 H s.heap.objs.size (.tup [x,y])) {s with heap:=h',toks:=tk}/\∀b∈fp,p0 H s.heap.objs.size (.tup [x,y]) b=none:=by
 have fresh:H s.heap.objs.size=none:=I.hok.fresh (Gv _)
 have Th:∀b o,s.heap.get? b=some o->b≠s.heap.objs.size:=λb o z=>GU (GH z)
 have hH:∀b w,H b=some w->b≠s.heap.objs.size/\b∉fp:=λb w z=>⟨j4 z fresh,λm=>by rw[(hf b m).1] at z;cases z⟩
 have hok:HOk X.prog X.w (p0 H s.heap.objs.size (.tup [x,y])) h':=λb w z=>by
  by_cases hb:b=s.heap.objs.size
  .subst hb;rw[b7] at z;cases z;exact⟨by show 2<=sizeLine;decide,[u,v],.cons rx (.cons ry .nil),⟨_,tup,rfl,_,rfl⟩⟩
  .rw[b9 hb] at z;refine(I.hok b w z).stay (λc ob hc q=>kp c ob ?_ q) (λc q=>by rw[b9 (hH c _ q).1];exact q) λc ys q=>by rw[b9 (hH c _ q).1];exact q
   rcases hc with m|m
   .rw[m];exact(hH b _ z).2
   .exact(hH c _ m).2
 refine⟨fresh,I.call' (s':={s with heap:=h',toks:=tk}) (ch:=fp) rfl ⟨λb o z n _ hx=>kp b o hx z,λb o z n _ hx=>⟨o.slots,kp b o hx z⟩,λb o z n _=>by rw[b9 (Th b o z)];exact n,
  λb o z hx=>⟨o,kp b o hx z⟩,λb ys z=>by rw[b9 (hH b _ z).1];exact z,λb ob w z=>by rw[b9 (hH b _ z).1];exact z,λb ps z=>⟨#[],by rw[b9 (hH b _ z).1];simpa using z⟩⟩ hok I.bare λb hb=>?_,λb hb=>?_⟩
 .obtain⟨f0,f1,f2,f3,f4,f5⟩:=hf b hb
  exact⟨f3,f1,f4,f5⟩
 .rw[b9 (GU (there b hb))];exact(hf b hb).1
theorem Inv.turnedAll {pins:List (Addr×Obj)}{σ:St}{H:Hp}{s:Shared}{fp:List Addr}{h':Heap}{tk:Nat}(I:Inv X pins σ H s)(hf:∀b∈fp,cJ X pins H b)
  (kp:∀b o,b∉fp->s.heap.get? b=some o->h'.get? b=some o):Inv X pins σ H {s with heap:=h',toks:=tk}:=by
 have hH:∀b w,H b=some w->b∉fp:=λb w z m=>by rw[(hf b m).1] at z;cases z
 refine I.call' (s':={s with heap:=h',toks:=tk}) (ch:=fp) rfl ⟨λb o z n _ hx=>kp b o hx z,λb o z n _ hx=>⟨o.slots,kp b o hx z⟩,λb o z n _=>n,
  λb o z hx=>⟨o,kp b o hx z⟩,λb ys z=>z,λb ob w z=>z,λb ps z=>⟨#[],by simpa using z⟩⟩ (λb w z=>?_) I.bare λb hb=>?_
 .refine(I.hok b w z).stay (λc ob hc q=>kp c ob ?_ q) (λc q=>q) λc ys q=>q
  rcases hc with m|m
  .rw[m];exact hH b _ z
  .exact hH c _ m
 .obtain⟨f0,f1,f2,f3,f4,f5⟩:=hf b hb
  exact⟨f3,f1,f4,f5⟩
end
def ES (K:Qc)(l:Addr):It:=
 ⟨λi H=>∃xs x,SqL K H l xs/\xs[i]?=some x,λi H x H'=>∃t v,(∀xs,SqL K H l xs->xs[i]?=some v)/\H t=none/\x= .ref t/\H'=p0 H t (.tup [.int i,v]),λi H=>∃xs,SqL K H l xs/\xs.length<=i⟩
theorem rM {P:Program}{w:World}{K:Qc}{elts:List Expr}{x1}{j_:Pos}{en it l:Addr}(G':en≠it):dE P w K (.Tuple elts x1 j_) (ES K l) [en,it] en (λi h=>∃old,IsEnum h en it i old/\h.IsListIter it l i) where
 mem:=by simp
 obj:=λi h st b hb=>by
  obtain⟨old,h1,o,e,c,d⟩:=st;have n_:b=en\/b=it:=by simpa using hb
  rcases n_ with rfl|rfl
  .exact⟨_,h1,λv z=>by
    have z':Data.fields _=Data.cell v:=z;cases z'⟩
  .exact⟨o,e,λv z=>by rw[d] at z;cases z⟩
 keep:=λi h h' st k=>by
  obtain⟨old,h1,h2⟩:=st;exact⟨old,k en (by simp) _ h1,h2.at λo e=>k it (by simp) o e⟩
 item:=by
  intro X hP hw hK hc i pins s σ H E I hf st hg;subst hP hw hK;obtain⟨old,Nz,J_⟩:=st;obtain⟨xs,x,hq,hx⟩:=hg;obtain⟨a_,rv,p,hz⟩:=I.list hq;obtain⟨u,hu,ru⟩:=rv.get hx;have NT:en<s.heap.objs.size:=GH Nz;have hit:it<s.heap.objs.size:=by obtain⟨o,e,_⟩:=J_;exact GH e
  refine wpAny_pyNext_enum_item Nz J_ p.isList (x:=u) (by simpa using hu) G' λh' Ov hit1 ht1 Tj OV=>?_;refine⟨.ref s.heap.objs.size,rfl,wpAny_letOwnedTupleGo_enum (s:={s with heap:=h',toks:=s.toks+1}) Ov λB_ he'' hs''=>?_⟩;have LK:Heap.SameBut en h' B_:=hs'';have Nx:B_.get? s.heap.objs.size=some {cls:= .type "tuple",data:= .seq #[.int i s.toks,u]}:=LK.extBut _ _ (KD NT) ht1;obtain⟨fr,I1,Tn⟩:=I.pairNew (fp:=[en,it]) (h':=B_) (tk:=s.toks+1) (x:= .int i) (y:=x) hf (λb o hb e=>by
   have n_:b≠en/\b≠it:=by simpa using hb
   exact LK.extBut b o n_.1 (OV b o n_.1 n_.2 e)) (λb hb=>by
   have n_:b=en\/b=it:=by simpa using hb
   rcases n_ with rfl|rfl
   .exact NT
   .exact hit) Nx ⟨_,rfl⟩ ru
  refine⟨.ref s.heap.objs.size,_,I1,rfl,⟨_,x,λys hy=>by rw[I.list_inj hy hq];exact hx,fr,rfl,rfl⟩,⟨_,he'',?_⟩,Tn⟩;exact hit1.at λo e=>LK.extBut it o (Io G') e
 done:=by
  intro X hP hw hK hc i pins s σ H E I hf st hg;subst hP hw hK;obtain⟨old,Nz,J_⟩:=st;obtain⟨xs,hq,hx⟩:=hg;obtain⟨a_,rv,p,hz⟩:=I.list hq;have hl:=rv.length;exact wpAny_pyNext_enum_end (I.ok.hd hc) Nz J_ p.isList (by simp;lia) λh' eb=>⟨rfl,I.turnedAll (fp:=[en,it]) (tk:=s.toks) hf λb o hb e=>eb b o (by
   have n_:b≠en/\b≠it:=by simpa using hb
   exact n_.2) e⟩
 self:=λ_ _ _ _ _ st h=>by
  obtain⟨old,Nz,J_⟩:=st;exact wpAny_pyIter_enum Nz h
section
variable {X:Cx} {a b:Expr} {t:TA} {p pos:Pos}
end
def Fv (K : Qc) (l m : Addr) : It :=
  ⟨λi H => ∃ xs ys x y, SqL K H l xs /\ SqL K H m ys /\ xs[i]? = some x /\ ys[i]? = some y,
   λi H v H' => ∃ t x y, (∀ xs, SqL K H l xs -> xs[i]? = some x) /\ (∀ ys, SqL K H m ys -> ys[i]? = some y) /\ H t = none /\ v = .ref t /\ H' = p0 H t (.tup [x, y]),
   λi H => ∃ xs ys, SqL K H l xs /\ SqL K H m ys /\ (xs.length <= i \/ ys.length <= i)⟩
theorem z9 {h:Heap}{a b:Addr}{o u:Obj}(e:h.get? a=some o)(e':h.get? b=some u)(n:o.cls≠u.cls):a≠b:=λz=>by
 subst z;rw[e] at e';cases e';exact n rfl
theorem uS {P:Program}{w:World}{K:Qc}{elts:List Expr}{x1}{j_:Pos}{z TI TO i1 i2 l m:Addr}(We:i1≠i2)(hT:TI≠TO):
  dE P w K (.Tuple elts x1 j_) (Fv K l m) [z,TI,TO,i1,i2] z (λi h=>IsZip h z TI TO .none/\IsPair h TI (.ref i1) (.ref i2)/\(∃a b,IsPair h TO a b)/\h.IsListIter i1 l i/\h.IsListIter i2 m i) where
 mem:=by simp
 obj:=λi h st b hb=>by
  obtain⟨z1,z2,⟨a,c,z3⟩,⟨o4,e4,c4,d4⟩,⟨o5,e5,c5,d5⟩⟩:=st;have n_:b=z\/b=TI\/b=TO\/b=i1\/b=i2:=by simpa using hb
  rcases n_ with rfl|rfl|rfl|rfl|rfl
  .exact⟨_,z1,λv q=>by
    have q':Data.fields _=Data.cell v:=q;cases q'⟩
  .exact⟨_,z2,λv q=>by
    have q':Data.seq _ _=Data.cell v:=q;cases q'⟩
  .exact⟨_,z3,λv q=>by
    have q':Data.seq _ _=Data.cell v:=q;cases q'⟩
  .exact⟨o4,e4,λv q=>by rw[d4] at q;cases q⟩
  .exact⟨o5,e5,λv q=>by rw[d5] at q;cases q⟩
 keep:=λi h h' st k=>by
  obtain⟨z1,z2,⟨a,c,z3⟩,z4,z5⟩:=st;exact⟨k z (by simp) _ z1,k TI (by simp) _ z2,⟨a,c,k TO (by simp) _ z3⟩,z4.at λo e=>k i1 (by simp) o e,z5.at λo e=>k i2 (by simp) o e⟩
 item:=by
  intro X hP hw hK hc i pins s σ H E I hf st hg;subst hP hw hK;obtain⟨z1,z2,⟨a,c,z3⟩,z4,z5⟩:=st;obtain⟨xs,ys,x,y,hq,OA,hx,hy⟩:=hg;obtain⟨a_,rv,p,hz⟩:=I.list hq;obtain⟨its',PD,p',OW⟩:=I.list OA;obtain⟨u,hu,ru⟩:=rv.get hx;obtain⟨u',R_,XR⟩:=PD.get hy;obtain⟨o4,e4,c4,d4⟩:=id z4;obtain⟨o5,e5,c5,d5⟩:=id z5;obtain⟨o6,n6,e6,c6,_⟩:=id p;obtain⟨o7,n7,e7,c7,_⟩:=id p';have D:ZipApart z TI TO i1 i2 l m:=
   ⟨z9 z2 z1 (by simp),z9 z3 z1 (by simp),z9 e4 z1 (by rw[c4];simp),z9 e5 z1 (by rw[c5];simp),hT,z9 z2 e4 (by rw[c4];simp),z9 z2 e5 (by rw[c5];simp),z9 z3 e4 (by rw[c4];simp),z9 z3 e5 (by rw[c5];simp),We,
    z9 e6 z1 (by rw[c6];simp),z9 e6 z3 (by rw[c6];simp),z9 e6 e4 (by rw[c6,c4];simp),z9 e6 e5 (by rw[c6,c5];simp),z9 e7 z1 (by rw[c7];simp),z9 e7 z3 (by rw[c7];simp),z9 e7 e4 (by rw[c7,c4];simp),z9 e7 e5 (by rw[c7,c5];simp)⟩
  refine wpAny_pyNext_zip_item D z1 z2 z3 z4 z5 p.isList p'.isList (x:=u) (y:=u') (by simpa using hu) (by simpa using R_) λh' a1 a2 a3 a4 a5 a6 a7=>?_;refine⟨.ref s.heap.objs.size,rfl,wpAny_letOwnedTupleGo_zip (s:={s with heap:=h'}) a1 λB_ b1 b2=>?_⟩;have LK:Heap.SameBut z h' B_:=b2;have lt:∀b∈[z,TI,TO,i1,i2],b<s.heap.objs.size:=λb hb=>by
   have n_:b=z\/b=TI\/b=TO\/b=i1\/b=i2:=by simpa using hb
   rcases n_ with rfl|rfl|rfl|rfl|rfl
   .exact GH z1
   .exact GH z2
   .exact GH z3
   .exact GH e4
   .exact GH e5
  have OB:∀b o,b≠z->h'.get? b=some o->B_.get? b=some o:=λb o hb e=>LK.extBut b o hb e;obtain⟨fr,I1,Tn⟩:=I.pairNew (fp:=[z,TI,TO,i1,i2]) (h':=B_) (tk:=s.toks) (x:=x) (y:=y) hf (λb o hb e=>by
   have n_:b≠z/\b≠TI/\b≠TO/\b≠i1/\b≠i2:=by simpa using hb
   exact OB b o n_.1 (a7 b o n_.1 n_.2.2.1 n_.2.2.2.1 n_.2.2.2.2 e)) lt (OB _ _ (KD (GH z1)) a5) ru XR
  refine⟨.ref s.heap.objs.size,_,I1,rfl,⟨_,x,y,λzs hs=>by rw[I.list_inj hs hq];exact hx,λzs hs=>by rw[I.list_inj hs OA];exact hy,fr,rfl,rfl⟩,⟨b1,?_,⟨u,u',?_⟩,?_,?_⟩,Tn⟩
  .exact OB _ _ D.TIz (a7 TI _ D.TIz D.TITO D.TIi1 D.TIi2 z2)
  .exact OB _ _ D.TOz a2
  .exact a3.at λo e=>OB _ o D.i1z e
  .exact a4.at λo e=>OB _ o D.i2z e
 done:=by
  intro X hP hw hK hc i pins s σ H E I hf st hg;subst hP hw hK;obtain⟨z1,z2,⟨a,c,z3⟩,z4,z5⟩:=st;obtain⟨xs,ys,hq,OA,hx⟩:=hg;obtain⟨a_,rv,p,hz⟩:=I.list hq;obtain⟨its',PD,p',OW⟩:=I.list OA;have hl:=rv.length;have NP:=PD.length;obtain⟨o4,e4,c4,d4⟩:=id z4;obtain⟨o5,e5,c5,d5⟩:=id z5;obtain⟨o6,n6,e6,c6,_⟩:=id p;obtain⟨o7,n7,e7,c7,_⟩:=id p';have D:ZipApart z TI TO i1 i2 l m:=
   ⟨z9 z2 z1 (by simp),z9 z3 z1 (by simp),z9 e4 z1 (by rw[c4];simp),z9 e5 z1 (by rw[c5];simp),hT,z9 z2 e4 (by rw[c4];simp),z9 z2 e5 (by rw[c5];simp),z9 z3 e4 (by rw[c4];simp),z9 z3 e5 (by rw[c5];simp),We,
    z9 e6 z1 (by rw[c6];simp),z9 e6 z3 (by rw[c6];simp),z9 e6 e4 (by rw[c6,c4];simp),z9 e6 e5 (by rw[c6,c5];simp),z9 e7 z1 (by rw[c7];simp),z9 e7 z3 (by rw[c7];simp),z9 e7 e4 (by rw[c7,c4];simp),z9 e7 e5 (by rw[c7,c5];simp)⟩
  refine wpAny_pyNext_zip_end (I.ok.hd hc) D z1 z2 z3 z4 z5 p.isList p'.isList ?_ λh' eb=>⟨rfl,I.turnedAll (fp:=[z,TI,TO,i1,i2]) (tk:=s.toks) hf λb o hb e=>?_⟩
  .rcases hx with hx|hx
   .exact .inl (by simp;lia)
   .exact .inr (by simp;lia)
  .have n_:b≠z/\b≠TI/\b≠TO/\b≠i1/\b≠i2:=by simpa using hb
   exact eb b o n_.1 n_.2.2.1 n_.2.2.2.1 n_.2.2.2.2 e
 self:=λ_ _ _ _ _ st h=>Lp st.1 h
section
variable {X:Cx} {a b:Expr} {t:TA} {p pos:Pos}
def Aj (K:Qc)(ta:TA):TI:=λσ H R=>ta σ H λvs H1=>∃l m xs ys,vs=[.ref l,.ref m]/\SqL K H1 l xs/\SqL K H1 m ys/\R (Fv K l m) H1
theorem Bw {elts:List Expr}{x1}{j_:Pos}(hg:Gl X "zip")(hm:X.mg "zip"=none)(ha:PA X [a,b] t)(hs:starEach [a,b] X.env=[(false,eval a X.env),(false,eval b X.env)])(LK:starEach [b] X.env=[(false,eval b X.env)]):
  PI X (.Tuple elts x1 j_) (.Call (.Name "zip" p) [a,b] [] pos) (Aj X.K t):=by
 intro pins s σ H R I h
 refine Call_ (Z6 I hg hm Boot.«zip» (HW (E9 (ha pos pins s σ H _ I h) λus s1 ⟨vs,H1,I1,r1,q1⟩=>?_) (by rw[hs,LK]) (by rw[LK];rfl)))
 obtain⟨l,m,xs,ys,e,hq,OA,q⟩:=q1
 subst e
 obtain⟨u,v,rfl,ru,rv⟩:=U6 r1
 cases ru
 cases rv
 obtain⟨a_,rv,pl,hz⟩:=I1.list hq
 obtain⟨its',PD,QM,OW⟩:=I1.list OA
 refine call_zip_2 pl.isList QM.isList λh' z1 z2 z3 z4 z5 hsz hk=>?_
 have I2:Inv X pins σ H1 {s1 with heap:=h'}:=I1.kept (t':=s1.toks) hk
 refine Lp (s:={s1 with heap:=h'}) z1 ?_
 refine⟨s1.heap.objs.size+4,[s1.heap.objs.size+4,s1.heap.objs.size+2,s1.heap.objs.size+3,s1.heap.objs.size,s1.heap.objs.size+1],_,_,H1,rfl,I2,uS (l:=l) (m:=m) (show(s1.heap.objs.size:Nat)≠s1.heap.objs.size+1 by lia) (show(s1.heap.objs.size+2:Nat)≠s1.heap.objs.size+3 by lia),⟨z1,z2,⟨_,_,z3⟩,z4,z5⟩,λc hc=>?_,q⟩
 have n_:c=s1.heap.objs.size+4\/c=s1.heap.objs.size+2\/c=s1.heap.objs.size+3\/c=s1.heap.objs.size\/c=s1.heap.objs.size+1:=by simpa using hc
 have hle:s1.heap.objs.size<=c:=by
  rcases n_ with rfl|rfl|rfl|rfl|rfl<;>first|exact Nat.le_add_right _ _|exact Gv _
 exact I1.fpOk hle (I1.hok.fresh hle)
end
section
variable {X:Cx} (K:Qc) {a b:Expr} {t:TA} {p pos:Pos}
theorem G4 (hc:X.calm=true)(h:X.K=K:=by rfl):CallR X (.builtin "sorted") (lj K):=h▸kr hc
theorem EN (hc:X.calm=true)(h:X.K=K:=by rfl):CallR X (.builtin "sum") (xZ K):=h▸sj hc
theorem Bd {elts:List Expr}{x1}{j_:Pos}(hm:X.mg "zip"=none)(ha:QA X [a,b] t)(hg:Gl X "zip":=by rfl)(h:u6 a=true:=by rfl)(h':u6 b=true:=by rfl)(hK:X.K=K:=by rfl):QI X (.Tuple elts x1 j_) (.Call (.Name "zip" p) [a,b] [] pos) (Bb (Aj K t)):=
 ⟨hK▸(Bw hg hm ha.r (by rw[G8 h,G8 h'];rfl) (G8 h')).two⟩
end
theorem B0 {X:Cx}:uO X "list.append" qr:=tG
section
variable {K:Qc} {σ:St} {H:Hp} {Q:VK}
theorem z7 {p:Addr}{kvs:List (j0×V)}{ss:List Str}(h:Rd H p (.dK kvs))(hk:kvs.map (·.1)=ss.map Sum.inr)(RZ:ss.length<64)(q:∀K':List Str,K'.Perm ss->sortedS K'=true->∀l,H l=none->Q (.ref l) (p0 H l (.lst (K'.map V.str)))):lj K [.ref p] H Q:=⟨p,ss,rfl,.inr ⟨kvs,h,hk⟩,RZ,q⟩
theorem gx {p:Addr}{kvs:List (j0×V)}(h:Rd H p (.dK kvs))(q:∀l,H l=none->Q (.ref l) (p0 H l (.lst (kvs.map λkv=>kV kv.1)))):qI K [.ref p] H Q:= .inr ⟨p,kvs,rfl,h,q⟩
theorem CD {p:Addr}{ns:List Int}(h:SqL K H p (ns.map V.int))(q:Q (.int ns.sum) H):xZ K [.ref p] H Q:=⟨p,ns,rfl,h,q⟩
theorem sW {i j:Int}(h:CMul i j)(q:Q (.int (i*j)) H):tX (.int i) (.int j) H Q:= .inl ⟨i,j,rfl,rfl,h,q⟩
theorem AI {to ti:TE}{t:pF}{v:V}{Qs:St->Hp->Prop}(q:to σ H λo H1=>ti σ H1 λi H2=>t o i v H2 λH3=>Qs σ H3):xD to ti t v σ H Qs:=q
theorem u7 {a:Addr}{kvs:List (j0×V)}{k:j0}{v:V}{Qh:Hp->Prop}(h:H a=some (.dK kvs))(hl:kvs.length<sizeLine)(q:Qh (p0 H a (.dK (B9 kvs k v)))):qb (.ref a) (kV k) v H Qh:= .inr ⟨a,_,rfl,DPut.k h hl,q⟩
theorem CL {ta:TA}{R:It->Hp->Prop}(q:ta σ H λvs H1=>∃l m xs ys,vs=[.ref l,.ref m]/\SqL K H1 l xs/\SqL K H1 m ys/\R (Fv K l m) H1):Aj K ta σ H R:=q
theorem J3 {n:Nat}{t:pL}{a:Addr}{xs:List V}{Qs:St->Hp->Prop}(h:SqT K H a xs)(hl:xs.length=n)(q:t xs σ H Qs):wD K n t (.ref a) σ H Qs:=⟨a,xs,rfl,h,hl,q⟩
theorem xa {t:TG}{u:pL}{v:V}{r:List V}{Qs:St->Hp->Prop}(q:t v σ H λσ' H'=>u r σ' H' Qs):pZ t u (v::r) σ H Qs:=⟨v,r,rfl,q⟩
theorem Ap {Qs:St->Hp->Prop}(q:Qs σ H):zV [] σ H Qs:=⟨rfl,q⟩
theorem ET {T:String}{r:V->List V->Hp->VK->Prop}{to:TE}{t:TA}(q:to σ H λx H1=>Dy K T x H1/\t σ H1 λxs H2=>r x xs H2 Q):EX K T r to t σ H Q:=q
theorem Cq {T:String}{r:V->List V->Hp->VK->Prop}{to:TE}(q:to σ H λx H1=>Dy K T x H1/\r x [] H1 Q):BA K T r to σ H Q:=q
theorem P0 {p:Addr}{x:V}{o:Option V}(g:DGet H p x o)(q:Q (.bl o.isSome) H):su K x (.ref p) H Q:= .inr (.inr ⟨p,o,rfl,g,q⟩)
theorem aP {p:Addr}{x:V}{o:Option V}(g:DGet H p x o)(q:Q (.bl (!o.isSome)) H):gd K x (.ref p) H Q:= .inr (.inr ⟨p,o,rfl,g,q⟩)
theorem vO {p:Addr}{x:V}{xs:List V}(h:SqL K H p xs\/SqT K H p xs)(h1:E1 x=true)(h2:xs.all E1=true)(q:Q (.bl (Ci x xs)) H):su K x (.ref p) H Q:= .inr (.inl ⟨p,xs,rfl,h,h1,h2,q⟩)
theorem iQ {p:Addr}{xs:List V}{lo hi:Option Int}(h:SqT K H p xs)(hw:¬(HT.sIx xs.length 0 lo=0/\HT.sIx xs.length xs.length hi=xs.length))(q:∀p,H p=none->Q (.ref p) (p0 H p (.tup (cD xs lo hi)))):Ee K (.ref p) lo hi H Q:= .inr (.inl ⟨p,xs,rfl,h,hw,q⟩)
theorem G3 {a:Addr}{kvs:List (j0×V)}{k:j0}(e:Rd H a (.dK kvs)):DGet H a (kV k) (p8 kvs k):= .inl ⟨kvs,k,e,rfl,rfl⟩
end
open PySem.AutoSeq1 (wpAny_loadPart')
def EqP (P:Program)(w:World)(A:Around)(s:Shared)(y x:Value)(b:Bool):Prop:=∀(E:Value->Shared->Prop) (Q:Bool->Shared->Prop),Q b s->wpAny (model P w) A (eqBool y x) Q E s
def RcP (P:Program)(w:World)(A:Around)(s:Shared)(y x:Value)(b:Bool):Prop:=∀(E:Value->Shared->Prop) (Q:Value->Shared->Prop),Q (.bool b) s->wpAny (model P w) A (richCompare .Eq y x) Q E s
theorem EqP.of {P:Program}{w:World}{A:Around}{s:Shared}{y x:Value}{b:Bool}(h:SeqAt.EqAt A s y x b):EqP P w A s y x b:=λE Q q=>h P w E Q q
theorem EqP.refs {P:Program}{w:World}{A:Around}{s:Shared}{l m:Addr}{k:Bool}(G':l≠m)(h:RcP P w A s (.ref l) (.ref m) k):EqP P w A s (.ref l) (.ref m) k:=λE Q q=>by
 unfold eqBool;refine HU (wpAny_ite_split (λz=>absurd (Value.ref.inj (eq_of_beq z)) G') λ_=>Gz (h E _ (Ip q)))
theorem BG {P:Program}{w:World}(l m:Addr)(xs ys:Array Value)(n1 n2:Nat)(d1 d2:Option Addr)(s1 s2:Array (Option Value))(f:Nat->Bool):
  MeetsIn P w (Builtin.«tuple.__eq__» ⟨[.ref l,.ref m],[]⟩) (λA R s=>
   s.heap.get? l=some {cls:= .type "tuple",dict:=d1,data:= .seq xs n1,slots:=s1}/\s.heap.get? m=some {cls:= .type "tuple",dict:=d2,data:= .seq ys n2,slots:=s2}/\
   (∀j (g1:j<xs.size) (g2:j<ys.size),EqP P w A.in1 s xs[j] ys[j] (f j))/\
   R (.ok (.ret (.bool ((List.range (min xs.size ys.size)).all f&&xs.size==ys.size)))) s):=
 .of_wp λA R s hyp=>by
  obtain⟨hp,gg,dr,tk,os⟩:=s;obtain⟨e1,e2,he,fin⟩:=hyp;have sub:=KZ;have len:(xs.toList.zip ys.toList).length=min xs.size ys.size:=by simp
  wp_walk using wpAny_loadPart' e1,wpAny_loadPart' e2,wpAny_forIn_list _ (λmore acc st=>acc.1=none/\st=⟨hp,gg,dr,tk,os⟩/\∃i,more=(xs.toList.zip ys.toList).drop i/\
   R (.ok (.ret (.bool (((List.range (min xs.size ys.size)).drop i).all f&&xs.size==ys.size)))) ⟨hp,gg,dr,tk,os⟩) _
  case turn=>
   rintro⟨y,x⟩ more acc st ⟨ha,rfl,i,hi,hR⟩
   have lt:i<(xs.toList.zip ys.toList).length:=by
    rcases Il i (xs.toList.zip ys.toList).length with z|z
    .exact z
    .rw[Jp z] at hi;cases hi
   have lm:i<min xs.size ys.size:=len▸lt
   have lx:i<xs.size:=GK lm (Nat.min_le_left _ _)
   have ly:i<ys.size:=GK lm (Lj _ _)
   rw[HS lt] at hi
   injection hi with h1 h2
   have q1:y=xs[i]:=by simpa using Ia Prod.fst h1
   have q2:x=ys[i]:=by simpa using Ia Prod.snd h1
   subst q1 q2
   have To:(List.range (min xs.size ys.size)).drop i=i::(List.range (min xs.size ys.size)).drop (i+1):=by simp [HS,lm]
   rw[To,Jh] at hR
   refine Gz (he i lx ly _ _ ?_)
   cases hf:f i with
   |true=>
    rw[hf] at hR
    wp_walk
    exact⟨rfl,rfl,i+1,h2,by simpa using hR⟩
   |false=>
    rw[hf] at hR
    wp_walk
    exact⟨_,rfl,by simpa using hR⟩
  case fin=>
   rintro⟨c1,c2⟩ st ⟨ha,rfl,i,hi,hR⟩
   simp only at ha
   subst ha
   have ge:min xs.size ys.size<=i:=by
    rcases Il i (xs.toList.zip ys.toList).length with z|z
    .rw[HS z] at hi;cases hi
    .exact len▸z
   rw[Jp (by simpa using ge)] at hR
   wp_walk
   exact⟨_,rfl,by simpa [Builtin.Tuple.tupleCompareSizes] using hR⟩
  case h=>
   exact⟨rfl,rfl,0,rfl,by simpa using fin⟩
theorem RcP.tup {P:Program}{w:World}{A:Around}{s:Shared}{l m:Addr}{xs ys:Array Value}{f:Nat->Bool}(hl:s.heap.IsTuple l xs)(hm:s.heap.IsTuple m ys)(hu:A.units<cLine)
  (he:∀j (g1:j<xs.size) (g2:j<ys.size),EqP P w A.in1 s xs[j] ys[j] (f j)):RcP P w A s (.ref l) (.ref m) ((List.range (min xs.size ys.size)).all f&&xs.size==ys.size):=λE Q q=>by
 obtain⟨⟨c1,d1,a1,s1⟩,o1,k1,n1,t1⟩:=id hl
 obtain⟨⟨c2,d2,a2,s2⟩,o2,k2,n2,t2⟩:=id hm
 simp only at k1 t1 k2 t2
 subst k1 t1 k2 t2
 refine IG (op:= .Eq) ⟨_,o1,rfl⟩ ⟨_,o2,rfl⟩ LL (Ik LL ⟨_,o1,rfl⟩ PySem.F.entry_tuple_eq (PySem.F.args_tuple_eq_2 _ _) (BG l m xs ys n1 n2 d1 d2 s1 s2 f) ⟨o1,o2,he,?_⟩) hu
 exact⟨(λz=>nomatch z),q⟩
def Q7:List V->List V->Bool
 |[],[]=>true
 |x::xs,y::ys=>cG x y&&Q7 xs ys
 |_,_=>false
inductive Eq1 (K:Qc) (H:Hp):V->V->Bool->Prop
 |flat {x y:V}:E1 x=true->E1 y=true->Eq1 K H x y (cG x y)
 |tup {a b:Addr} {xs ys:List V}:SqT K H a xs->SqT K H b ys->xs.all E1=true->ys.all E1=true->Eq1 K H (.ref a) (.ref b) (Q7 xs ys)
 |nt {a:Addr} {xs:List V}:SqT K H a xs->Eq1 K H .non (.ref a) false
 |tn {a:Addr} {xs:List V}:SqT K H a xs->Eq1 K H (.ref a) .non false
theorem uE:∀{x:V},E1 x=true->cG x x=true
 | .non,_=>rfl
 | .bl b,_=>by simp [cG]
 | .int i,_=>by simp [cG]
 | .str x,_=>by simp [cG]
theorem eX:∀{xs:List V},xs.all E1=true->Q7 xs xs=true
 |[],_=>rfl
 |x::xs,h=>by
  rw[Jh,GP] at h;show(cG x x&&Q7 xs xs)=true;rw[uE h.1,eX h.2];rfl
theorem N6:∀(xs ys:List V),((List.range (min xs.length ys.length)).all (λj=>cG (xs.getD j .non) (ys.getD j .non))&&xs.length==ys.length)=Q7 xs ys
 |[],[]=>rfl
 |[],_::_=>by simp [Q7]
 |_::_,[]=>by simp [Q7]
 |x::xs,y::ys=>by
  have ih:=N6 xs ys;have e:min (x::xs).length (y::ys).length=min xs.length ys.length+1:=by simp
  rw[e,Kd,Jh,IC];show((cG x y&&(List.range (min xs.length ys.length)).all _)&&(xs.length+1==ys.length+1))=(cG x y&&Q7 xs ys);rw[←ih,Bool.and_assoc];congr 1;congr 1;simp
section
variable {X:Cx} {pins:List (Addr×Obj)} {σ:St} {H:Hp} {s:Shared} {A:Around}
theorem Eq1.at_ {x y:V}{u v:Value}{b:Bool}(I:Inv X pins σ H s)(h:Eq1 X.K H x y b)(rx:RelV x u)(ry:RelV y v)(hu:A.units+8<cLine):SeqAt.EqAt A s u v b:=by
 cases h with
 |flat fx fy=>exact aR rx ry fx fy
 | @tup a c xs ys ha hc fx fy=>
  cases rx
  cases ry
  obtain⟨a_,r1,p1,z1⟩:=I.tuple ha
  obtain⟨its',r2,p2,z2⟩:=I.tuple hc
  by_cases hac:a=c
  .subst hac
   have e:=I.tuple_inj ha hc
   subst e
   rw[eX fx]
   exact Jt _
  .have l1:=r1.length
   have l2:=r2.length
   have q:=SeqAt.RcAt.tuples (A:=A) (e:=λj=>cG (xs.getD j .non) (ys.getD j .non)) (show s.heap.IsTuple a a_.toArray from p1) (show s.heap.IsTuple c its'.toArray from p2) (by lia) λj g1 g2=>by
    have LO:j<a_.length:=by simpa using g1
    have LW:j<its'.length:=by simpa using g2
    have x1:xs[j]?=some (xs[j]'(by lia)):=by simp [show j<xs.length by lia]
    have y1:ys[j]?=some (ys[j]'(by lia)):=by simp [show j<ys.length by lia]
    obtain⟨u1,MR,MA⟩:=r1.get x1;obtain⟨u2,MS,MB⟩:=r2.get y1;have e1:a_.toArray[j]=u1:=by
     have:=Gu LO;rw[MR] at this;simpa using(GL this).symm
    have e2:its'.toArray[j]=u2:=by
     have:=Gu LW;rw[MS] at this;simpa using(GL this).symm
    rw[e1,e2];have d1:xs.getD j .non=xs[j]'(by lia):=by rw[Hj,x1];rfl
    have d2:ys.getD j .non=ys[j]'(by lia):=by rw[Hj,y1];rfl
    rw[d1,d2];exact aR MA MB (Hk.mp fx _ (Hv _)) (Hk.mp fy _ (Hv _))
   have e3:a_.toArray.size=xs.length:=by simp [l1]
   have e4:its'.toArray.size=ys.length:=by simp [l2]
   rw[e3,e4,N6] at q
   exact .of_refs hac q
 | @nt a xs ha=>
  cases rx
  cases ry
  obtain⟨a_,r1,p1,z1⟩:=I.tuple ha
  exact SeqAt.EqAt.none_tuple (show s.heap.IsTuple a a_.toArray from p1) (by lia)
 | @tn a xs ha=>
  cases rx
  cases ry
  obtain⟨a_,r1,p1,z1⟩:=I.tuple ha
  exact SeqAt.EqAt.tuple_none (show s.heap.IsTuple a a_.toArray from p1) (by lia)
end
inductive EqH (K:Qc) (H:Hp) (kb:List (j0×V)):List (j0×V)->Bool->Prop
 |nil:EqH K H kb [] true
 |miss {k:j0} {v:V} {r:List (j0×V)}:p8 kb k=none->EqH K H kb ((k,v)::r) false
 |hit {k:j0} {v y:V} {r:List (j0×V)} {e b:Bool}:p8 kb k=some y->Eq1 K H v y e->EqH K H kb r b->EqH K H kb ((k,v)::r) (e&&b)
def EqD (K:Qc)(H:Hp)(a b:Addr)(r:Bool):Prop:=(a=b/\r=true)\/(a≠b/\∃ka kb r0,Rd H a (.dK ka)/\Rd H b (.dK kb)/\EqH K H kb ka r0/\r=(ka.length==kb.length&&r0))
section
variable {X:Cx} {pins:List (Addr×Obj)} {σ:St} {H:Hp} {s:Shared} {A:Around}
theorem EqH.hits {kb:List (j0×V)}{vb:List (j0×Value)}(I:Inv X pins σ H s)(hu:A.units+8<cLine)(rb:KV kb vb){ka:List (j0×V)}{r:Bool}(h:EqH X.K H kb ka r):∀{va:List (j0×Value)},KV ka va->PySem.W.KeqHits A s vb va r:=by
 induction h with
 |nil=>
  intro va t
  cases t
  exact .nil
 | @miss k v r hn=>
  intro va t
  cases t with
  | @cons _ q _ l e t=>
   obtain⟨k',u⟩:=q
   have Tp:k=k':=e.1
   subst Tp
   refine .miss ?_
   have z:=KV.val rb k
   rw[hn] at z
   cases e:valueAt vb k with
   |none=>rfl
   |some y=>rw[e] at z;exact False.elim z
 | @hit k v y r e b hy h1 hr ih=>
  intro va t
  cases t with
  | @cons _ q _ l e t=>
   obtain⟨k',u⟩:=q
   have Tp:k=k':=e.1
   subst Tp
   have z:=KV.val rb k
   rw[hy] at z
   cases e5:valueAt vb k with
   |none=>rw[e5] at z;exact False.elim z
   |some y'=>
    rw[e5] at z
    exact .hit e5 (h1.at_ I e.2 z hu) (ih t)
theorem EqD.at_ {a b:Addr}{r:Bool}(I:Inv X pins σ H s)(h:EqD X.K H a b r)(hu:A.units+16<cLine):EqP X.prog X.w A s (.ref a) (.ref b) r:=by
 rcases h with⟨rfl,rfl⟩|⟨G',ka,kb,r0,h1,h2,h3,rfl⟩
 .exact .of (Jt _)
 .obtain⟨z1,d1,va,ra,da⟩:=M4 I.hok h1;obtain⟨z2,d2,vb,rb,db⟩:=M4 I.hok h2;refine .refs G' λE Q q=>?_;have l1:=KV.length ra;have l2:=KV.length rb;exact PySem.W.keq_eq (knd:=k7 X.prog X.w) d1 d2 da db (by lia) (λ_=>h3.hits (A:=A.in1) I (by show A.units+1+8<_;lia) rb ra) (by rw[←l1,←l2];exact q)
def Dx (K:Qc):R2:=λx y H Q=>∃a b p q p' q' r r',x= .ref a/\y= .ref b/\SqT K H a [.ref p,.ref q]/\SqT K H b [.ref p',.ref q']/\EqD K H p p' r/\EqD K H q q' r'/\Q (.bl (r&&r')) H
theorem Av (hu:X.A.units+64<cLine):OpR X (compareOp .Eq) (Dx X.K):=by
 intro pins s σ H x y v u Q I rx ry h;obtain⟨a,b,p,q,p',q',r,r',rfl,rfl,ha,hb,h1,h2,k⟩:=h;cases rx;cases ry;obtain⟨a_,v1,t1,_⟩:=I.tuple ha;obtain⟨its',v2,t2,_⟩:=I.tuple hb;obtain⟨_,_,rfl,e1,e2⟩:=U6 v1;obtain⟨_,_,rfl,e3,e4⟩:=U6 v2;cases e1;cases e2;cases e3;cases e4;refine RcP.tup (P:=X.prog) (w:=X.w) (f:=λj=>if j=0 then r else r') (show s.heap.IsTuple a _ from t1) (show s.heap.IsTuple b _ from t2) (by lia) (λj g1 g2=>?_) _ _ ⟨.bl (r&&r'),H,I,by show Value.bool _=Value.bool _;simp [IY],k⟩;have g:j<2:=by simpa using g1
 match j,g with
 |0,_=>exact h1.at_ I (by show X.A.units+1+16<_;lia)
 |1,_=>exact h2.at_ I (by show X.A.units+1+16<_;lia)
def BY (K:Qc):R2:=λx y H Q=>∃a b xs ys,x= .ref a/\y= .ref b/\SqL K H a xs/\SqL K H b ys/\xs.all E1=true/\ys.all E1=true/\Q (.bl (Q7 xs ys)) H
theorem dh:∀{xs ys:List V},xs.length≠ys.length->Q7 xs ys=false
 |[],[],h=>absurd rfl h
 |[],_::_,_=>rfl
 |_::_,[],_=>rfl
 |x::xs,y::ys,h=>by
  show(cG x y&&Q7 xs ys)=false;rw[dh (by simpa using h),Bool.and_false]
theorem AU (hu:X.A.units+64<cLine):OpR X (compareOp .Eq) (BY X.K):=by
 intro pins s σ H x y v u Q I rx ry h;obtain⟨a,b,xs,ys,rfl,rfl,ha,hb,fx,fy,k⟩:=h;cases rx;cases ry;obtain⟨a_,r1,p1,z1⟩:=I.list ha;obtain⟨its',r2,p2,z2⟩:=I.list hb;have l1:=r1.length;have l2:=r2.length;have e3:a_.toArray.size=xs.length:=by simp [l1]
 have e4:its'.toArray.size=ys.length:=by simp [l2]
 by_cases hl:xs.length=ys.length
 .have q:=SeqAt.RcAt.lists (A:=X.A) (e:=λj=>cG (xs.getD j .non) (ys.getD j .non)) p1.isList p2.isList (by rw[e3,e4];exact hl) (by lia) λj g1 g2=>by
   have LO:j<a_.length:=by simpa using g1
   have LW:j<its'.length:=by simpa using g2
   have x1:xs[j]?=some (xs[j]'(by lia)):=by simp [show j<xs.length by lia]
   have y1:ys[j]?=some (ys[j]'(by lia)):=by simp [show j<ys.length by lia]
   obtain⟨u1,MR,MA⟩:=r1.get x1;obtain⟨u2,MS,MB⟩:=r2.get y1;have e1:a_.toArray[j]=u1:=by
    have:=Gu LO;rw[MR] at this;simpa using(GL this).symm
   have e2:its'.toArray[j]=u2:=by
    have:=Gu LW;rw[MS] at this;simpa using(GL this).symm
   rw[e1,e2];have d1:xs.getD j .non=xs[j]'(by lia):=by rw[Hj,x1];rfl
   have d2:ys.getD j .non=ys[j]'(by lia):=by rw[Hj,y1];rfl
   rw[d1,d2];exact aR MA MB (Hk.mp fx _ (Hv _)) (Hk.mp fy _ (Hv _))
  have e5:=N6 xs ys;rw[hl,Nat.min_self,Ln,JW] at e5;rw[e3,hl,e5] at q;exact q X.prog X.w _ _ ⟨.bl _,H,I,rfl,k⟩
 .refine JM (A:=X.A) p1.isList p2.isList (by rw[e3,e4];simpa using hl) (by lia) X.prog X.w _ _ ⟨.bl _,H,I,?_,k⟩;rw[dh hl];rfl
def Cr (K:Qc):R2:=λx y H Q=>(∃a b xs ys,x= .ref a/\y= .ref b/\SqT K H a xs/\SqT K H b ys/\xs.all E1=true/\ys.all E1=true/\Q (.bl (Q7 xs ys)) H)\/(∃a xs,x= .non/\y= .ref a/\SqT K H a xs/\Q (.bl false) H)
theorem BL (hu:X.A.units+64<cLine):OpR X (compareOp .Eq) (Cr X.K):=by
 intro pins s σ H x y v u Q I rx ry h;rcases h with⟨a,b,xs,ys,rfl,rfl,ha,hb,fx,fy,k⟩|⟨a,xs,rfl,rfl,ha,k⟩
 .cases rx;cases ry;obtain⟨a_,r1,p1,z1⟩:=I.tuple ha;obtain⟨its',r2,p2,z2⟩:=I.tuple hb;have l1:=r1.length;have l2:=r2.length;have q:=SeqAt.RcAt.tuples (A:=X.A) (e:=λj=>cG (xs.getD j .non) (ys.getD j .non)) (show s.heap.IsTuple a a_.toArray from p1) (show s.heap.IsTuple b its'.toArray from p2) (by lia) λj g1 g2=>by
   have LO:j<a_.length:=by simpa using g1
   have LW:j<its'.length:=by simpa using g2
   have x1:xs[j]?=some (xs[j]'(by lia)):=by simp [show j<xs.length by lia]
   have y1:ys[j]?=some (ys[j]'(by lia)):=by simp [show j<ys.length by lia]
   obtain⟨u1,MR,MA⟩:=r1.get x1;obtain⟨u2,MS,MB⟩:=r2.get y1;have e1:a_.toArray[j]=u1:=by
    have:=Gu LO;rw[MR] at this;simpa using(GL this).symm
   have e2:its'.toArray[j]=u2:=by
    have:=Gu LW;rw[MS] at this;simpa using(GL this).symm
   rw[e1,e2];have d1:xs.getD j .non=xs[j]'(by lia):=by rw[Hj,x1];rfl
   have d2:ys.getD j .non=ys[j]'(by lia):=by rw[Hj,y1];rfl
   rw[d1,d2];exact aR MA MB (Hk.mp fx _ (Hv _)) (Hk.mp fy _ (Hv _))
  have e3:a_.toArray.size=xs.length:=by simp [l1]
  have e4:its'.toArray.size=ys.length:=by simp [l2]
  rw[e3,e4,N6] at q;exact q X.prog X.w _ _ ⟨.bl _,H,I,rfl,k⟩
 .cases rx;cases ry;obtain⟨a_,r1,p1,z1⟩:=I.tuple ha;exact SeqAt.RcAt.none_tuple (A:=X.A) (show s.heap.IsTuple a a_.toArray from p1) (by lia) X.prog X.w _ _ ⟨.bl false,H,I,rfl,k⟩
def jj (K:Qc):R2:=λx y H Q=>BX x y H Q\/BY K x y H Q\/Cr K x y H Q\/Dx K x y H Q
theorem Gd (K:Qc){k:Nat}(hr:Room k X.A)(h:X.K=K:=by rfl):OpR X (compareOp .Eq) (jj K):=h▸op_eq.or ((AU hr.units).or ((BL hr.units).or (Av hr.units)))
end
section
variable {K:Qc} {H:Hp} {Q:VK}
theorem wL {i j:Int}(q:Q (.bl (decide (i=j))) H):jj K (.int i) (.int j) H Q:= .inl (mz q)
theorem yn {i j:Bool}(q:Q (.bl (decide (i=j))) H):jj K (.bl i) (.bl j) H Q:= .inl (qd q)
theorem wu {i j:Str}(q:Q (.bl (decide (i=j))) H):jj K (.str i) (.str j) H Q:= .inl (mw q)
theorem wo {a b:Addr}{xs ys:List V}(ha:SqT K H a xs)(hb:SqT K H b ys)(fx:xs.all E1=true)(fy:ys.all E1=true)(q:Q (.bl (Q7 xs ys)) H):jj K (.ref a) (.ref b) H Q:= .inr (.inr (.inl (.inl ⟨a,b,xs,ys,rfl,rfl,ha,hb,fx,fy,q⟩)))
end
section
variable {K:Qc} {σ:St} {H H' H1:Hp} {Q:VK} {d:Addr} {kvs:List (j0×V)} {o:Obj}
theorem my {i j:Int}(q:Q (.bl (!decide (i=j))) H):Eu (.int i) (.int j) H Q:=⟨rfl,by rw[fY];rw[show(i==j)=decide (i=j) from Jw i j];exact q⟩
theorem Fx {r:V->Hp->VK->Prop}{ta:TE}(q:ta σ H λx H1=>r x H1 Q):EA r ta σ H Q:=q
theorem DV {i:Int}(q:Q (.int (-i)) H):rU (λi=> .int (-i)) (.int i) H Q:=⟨i,rfl,q⟩
def nf:HO->Bool
 | .frz _ _=>false
 |_=>true
def Le (H H':Hp):Prop:=∀a u,nf u=true->Rd H a u->Rd H' a u
theorem Le.trans (a:Le H H1)(b:Le H1 H'):Le H H':=λx u n h=>b x u n (a x u n h)
theorem Same.le (s:Same H H'):Le H H':=λa u _ h=>s.rd h
theorem F8 (h:H d=some (.dK kvs)):Le H (D0 d o kvs H):=λa u n r=>by
 by_cases e:a=d
 .subst e;rcases r with r|⟨o',r⟩
  .rw[h] at r;cases r;exact .inr ⟨o,b7⟩
  .rw[h] at r;cases r
 .unfold D0 Rd;rw[b9 e];exact r
theorem pV:Le H (thaw d H):=λa u n r=>by
 by_cases e:a=d
 .subst e;rcases r with r|⟨o',r⟩
  .rw[qw λo v z=>by rw[r] at z;cases z;cases n];exact .inl r
  .exact .inl (thaw_at r)
 .unfold Rd;rw[O2 e];exact r
theorem Le.tup {a:Addr}{xs:List V}(l:Le H H')(h:SqT K H a xs):SqT K H' a xs:=by
 rcases h with h|h
 .exact .inl (l _ _ rfl h)
 .exact .inr h
theorem Le.lst {a:Addr}{xs:List V}(l:Le H H')(h:SqL K H a xs):SqL K H' a xs:=by
 rcases h with h|h
 .exact .inl (l _ _ rfl h)
 .exact .inr h
theorem Le.dic {a:Addr}(l:Le H H')(h:Rd H a (.dK kvs)):Rd H' a (.dK kvs):=l _ _ rfl h
abbrev F2:=Str×Str×Str
structure A6 where
 pts:List (Str×Str)
 ts:List (Str×F2)
def i9 (pts:List (Str×Str)):List (j0×V):=pts.map λx=>(Sum.inr x.1,.str x.2)
def cq (t:F2):List V:=[.str t.1,.str t.2.1,.str t.2.2]
def TieAt (K:Qc)(H:Hp)(kv:j0×V)(x:Str×F2):Prop:=kv.1=Sum.inr x.1/\∃a,kv.2= .ref a/\SqT K H a (cq x.2)
def TiesIs (K:Qc)(H:Hp)(kvs:List (j0×V))(ts:List (Str×F2)):Prop:=Paired (TieAt K H) kvs ts
structure WebAt (K:Qc) (H:Hp) (a p q:Addr) (kvs:List (j0×V)) (W:A6):Prop where
 tup:SqT K H a [.ref p,.ref q]
 pts:Rd H p (.dK (i9 W.pts))
 ties:Rd H q (.dK kvs)
 ts:TiesIs K H kvs W.ts
theorem TieAt.mono {kv:j0×V}{x:Str×F2}(l:Le H H')(h:TieAt K H kv x):TieAt K H' kv x:=let ⟨e,a,ea,s⟩:=h;⟨e,a,ea,l.tup s⟩
theorem TiesIs.mono {ts:List (Str×F2)}(l:Le H H')(h:TiesIs K H kvs ts):TiesIs K H' kvs ts:=Paired.imp' (λ_ _ z=>z.mono l) h
theorem WebAt.mono {a p q:Addr}{W:A6}(l:Le H H')(h:WebAt K H a p q kvs W):WebAt K H' a p q kvs W:=⟨l.tup h.tup,l.dic h.pts,l.dic h.ties,h.ts.mono l⟩
theorem TiesIs.length {ts:List (Str×F2)}(h:TiesIs K H kvs ts):kvs.length=ts.length:=Hn h
theorem TiesIs.keys {ts:List (Str×F2)}(h:TiesIs K H kvs ts):kvs.map (·.1)=ts.map λx=>Sum.inr x.1:=by
 unfold TiesIs at h;induction h with
 |nil=>rfl
 |cons r _ ih=>rw[Hu,Hu,ih,r.1]
theorem TiesIs.get {ts:List (Str×F2)}{i:Nat}{kv:j0×V}(h:TiesIs K H kvs ts)(e:kvs[i]?=some kv):∃x,ts[i]?=some x/\TieAt K H kv x:=C8 h e
theorem TiesIs.val {ts:List (Str×F2)}{n:Str}:∀{kvs:List (j0×V)} {ts:List (Str×F2)},TiesIs K H kvs ts->n∈ts.map (·.1)->∃a x,p8 kvs (Sum.inr n:j0)=some (.ref a)/\(n,x)∈ts/\SqT K H a (cq x)
 |_,_,.nil,h=>by simp at h
 |kv::r,x::ts,.cons t u,h=>by
  obtain⟨e,a,ea,s⟩:=t;by_cases hn:x.1=n
  .subst hn;refine⟨a,x.2,?_,Hg,s⟩;rw[C1 e,ea]
  .have h':n∈ts.map (·.1):=by
    rcases Hh.mp h with z|z
    .exact absurd z.symm hn
    .exact z
   obtain⟨b,y,h1,h2,h3⟩:=TiesIs.val (ts:=ts) u h';refine⟨b,y,?_,GY _ h2,h3⟩;rw[C0 (by rw[e];intro z;exact hn (Ij z))];exact h1
theorem B7 (pts:List (Str×Str)):(i9 pts).map (·.1)=pts.map λx=>Sum.inr x.1:=by
 unfold i9;rw[GQ];rfl
def lt (a b:Str):Bool:=decide (a.cps.toList<b.cps.toList)
def vK (ss:List Str):Bool:=(ss.dropLast.zip ss.tail).all λp=>lt p.1 p.2
theorem qF:∀a b:List Nat,ltCps a b=true\/a=b\/ltCps b a=true
 |[],[]=> .inr (.inl rfl)
 |[],_::_=> .inl rfl
 |_::_,[]=> .inr (.inr rfl)
 |x::r,y::t=>by
  rcases MW x y with h|h|h
  .exact .inl (by simp [ltCps,h])
  .subst h;rcases qF r t with z|z|z
   .exact .inl (by simp [ltCps,z])
   .exact .inr (.inl (by rw[z]))
   .exact .inr (.inr (by simp [ltCps,z]))
  .exact .inr (.inr (by simp [ltCps,h]))
theorem DB {a b:Str}(h:ltCps b.cps.toList a.cps.toList=false)(G':a≠b):lt a b=true:=by
 unfold lt;rw[←ltCps_eq];rcases qF a.cps.toList b.cps.toList with z|z|z
 .exact z
 .exfalso;apply G';obtain⟨⟨l⟩⟩:=a;obtain⟨⟨m⟩⟩:=b;have z':l=m:=z;rw[z']
 .rw[z] at h;cases h
theorem jI (x y:Str)(r:List Str):vK (x::y::r)=(lt x y&&vK (y::r)):=by
 unfold vK;simp [List.dropLast]
theorem gh:∀{ss:List Str},sortedS ss=true->ss.Nodup->vK ss=true
 |[],_,_=>rfl
 |[_],_,_=>rfl
 |x::y::r,h,n=>by
  have h':(!ltCps y.cps.toList x.cps.toList&&risingS y r)=true:=h;rw[GP] at h';have n':=Hs.mp n;rw[jI,DB (by simpa using h'.1) (λz=>n'.1 (by rw[z];exact Hg)),gh (ss:=y::r) h'.2 n'.2];rfl
end
theorem Inv.off {X:Cx}{pins:List (Addr×Obj)}{σ:St}{H:Hp}{s:Shared}{C:Addr}{h':Heap}(I:Inv X pins σ H s)(hH:H C=none)(h0:X.s₀.heap.objs.size<=C)(h1:C≠X.env.locals)(h2:∀x c,X.env.cells.lookup x=some c->c≠C)(h3:∀p∈X.pn++pins,p.1≠C)(sb:Heap.SameBut C s.heap h'):Inv X pins σ H {s with heap:=h'}:=by
 refine I.call' (s':={s with heap:=h'}) (ch:=[C]) rfl ?_ ?_ I.bare λb hb=>?_
 .have same:∀b,b∉[C]->h'.get? b=s.heap.get? b:=λb hb=>sb.2 b λz=>hb (by rw[z];exact Hg);refine⟨λb o q n hb hx=>?_,λb o q n hb hx=>?_,λb o q n hx=>n,λb o q hx=>?_,λb xs q=>q,λb o u q=>q,λb ps q=>⟨#[],by rw[Array.append_empty];exact q⟩⟩
  .show h'.get? b=_;rw[same b hx];exact q
  .exact⟨o.slots,(same b hx).trans q⟩
  .exact⟨o,(same b hx).trans q⟩
 .refine λb ob e=>(I.hok b ob e).stay (λc w' hc q=>(sb.2 c ?_).trans q) (λ_ q=>q) λ_ _ q=>q;rintro rfl;rcases hc with rfl|hc
  .rw[hH] at e;cases e
  .rw[hH] at hc;cases hc
 .rw[GZ.mp hb];exact⟨.inr h0,h1,h2,h3⟩
theorem oj {X:Cx}{own:List Str}{js:List Nat}{scope:Scope}{tg iter elt:Expr}{ifs:List Expr}{pos NA py:Pos}{g:TG}{ti:TT}{te:TE}{wi:lN}{i:Nat}{y:Str}(hN:X.N.Nodup)(hy:X.N[i]?=some y)(hl:yQ X.env.scope y)(S:BM X own js scope=true)(hc:X.calm=true)(hit:uT X tg iter wi)
  (hg:∀C s H fp,PG (bI X own js scope C s H fp) tg g) (hi:∀C s H fp,oZ (bI X own js scope C s H fp) ifs ti) (he:∀C s H fp,PE (bI X own js scope C s H fp) elt te)
  (Tq:swapsWith (.ListComp elt [⟨tg,iter,ifs,0⟩] scope pos) (some (.Name y py)) NA.line X.env=pure true)
  (hf:X.fn y=true\/X.env.scope.names.lookup y=some .local)
  (hs:∀x,foldedSetIterable iter X.env x=pure x):
  PS X (.Assign [.Name y py] (.ListComp elt [⟨tg,iter,ifs,0⟩] scope pos) NA) (pM (iD own js wi g ti te) (Q3 i)):=by
 have SB:=uR S
 intro pins s σ H D I h
 rw[exec_Assign_Name_used _ _ _ _ Tq]
 refine Gz (Mv (Gz ?_))
 show wpAny _ X.A (do let _←comprehension (.ListComp elt [⟨tg,iter,ifs,0⟩] scope pos) scope X.env _ (newList []) false (eval iter X.env) (some (assign (.Name y py) X.env))) _ _ s
 refine Gz (Kr (KY (use:=some (assign (.Name y py) X.env)) (Q:=λ_ s'=>SP X pins D .next s') rfl hs (gG (SB.cells I)) SB.kind SB.names (E9 (hit pins s σ H _ I h) λv s1 h1=>E9 h1 λQr s2 h2=>?_)) (λ_ s' hq=>GN (GN hq)) λ_ _ e=>e)
 obtain⟨it,fp,tn,J,H2,e,I2,T,J_,f2,th,MQ,W,⟨m0,w0⟩,turn⟩:=h2
 subst e
 refine IW (wpAny_newFunctionEnv SB.nocell (by intro y hy;simp at hy) (λh₁ hns₁ hsb₁=>?_) SB.kind)
 dsimp only at hns₁ hsb₁⊢
 generalize OU:s2.heap.push {cls:= .type "list",dict:=none,data:= .seq ([]:List Value).toArray}=G2 at hns₁ hsb₁⊢
 have QK:G2.objs.size=s2.heap.objs.size+1:=by rw[←OU,Mg]
 have MO:s2.heap.objs.size≠G2.objs.size:=by rw[QK];exact GU (Nat.lt_succ_self _)
 have hC:s2.heap.objs.size<=G2.objs.size:=by rw[QK];exact Kv _
 have old:∀b o,s2.heap.get? b=some o->h₁.get? b=some o:=λb o e=>
  hsb₁.extBut b o (GU (GK (GH e) hC)) (GB _ (OU▸GB _ e))
 have off:∀b o,s2.heap.get? b=some o->b≠G2.objs.size:=λb o e=>GU (GK (GH e) hC)
 have y_:∀b∈fp,∃o,s2.heap.get? b=some o:=λb hb=>let ⟨o,e,_⟩:=T.obj _ _ J_ b hb;⟨o,e⟩
 have v_:h₁.get? s2.heap.objs.size=some {cls:= .type "list",data:= .seq ([]:List Value).toArray}:=
  hsb₁.extBut _ _ MO (GB _ (OU▸GW _ rfl))
 have loop:∀s3:Shared,s3={s2 with heap:=h₁,toks:=s2.toks+([]:List (Str×Value)).length}->
   codeAny (model X.prog X.w) X.A (.compLoop (.ListComp elt [⟨tg,iter,ifs,0⟩] scope pos) 0 (.ref it) (.ref s2.heap.objs.size) (compEnvC scope (fT scope X.env) G2.objs.size X.env))
    (compPost (model X.prog X.w) X.A X.xe (some (assign (.Name y py) X.env)) (λ_ s'=>SP X pins D .next s') (.ref s2.heap.objs.size) G2.objs.size) s3:=by
  rintro s3 rfl
  refine jH (K:=λout H'=>Q3 i (.ref s2.heap.objs.size) σ (th (p0 H' s2.heap.objs.size (.lst out))) D.nx) SB hc T I2 f2 (Gv _) hC MO y_ (hg _ _ _ _) (hi _ _ _ _) (he _ _ _ _) W (λi m out H' w=>?_) (λout H' s' B NP k=>?_) w0
   ⟨Inv.block SB I2 f2 y_ hC hns₁ old,I2.hok.fresh (Gv _),[],_,.nil,v_⟩ (T.keep _ _ _ J_ λb _ o e=>old b o e) (λb hb=>(f2 b hb).1)
  .rcases turn i m out H' w with⟨a,b⟩|c
   .exact .inl ⟨a,λn=>b _ n⟩
   .exact .inr c
  .obtain⟨mm,hn,_⟩:=B.inv.loc
   have Tc:H' G2.objs.size=none:=B.inv.free
   have IJ:=B.out I2 f2 (Gv _) hC MO NP (h':=s'.heap) (Heap.SameBut.refl _ _)
   show wpAny _ X.A (assign (.Name y py) X.env (.ref s2.heap.objs.size)) _ _ s'
   refine wpAny_assign_Name (jt IJ hN hy hl (v:= .ref s2.heap.objs.size) rfl (λRT I'' hx=>?_) hf)
   obtain⟨a,sa,ha⟩:=hx
   have XS:G2.objs.size≠a:=by
    rcases ha with rfl|ha
    .exact Io (GU (GK I2.lt hC))
    .obtain⟨_,o,ho,_⟩:=I2.cell _ _ ha;exact Io (off _ _ ho)
   refine⟨mm,hn.sameBut sa XS,λh' sb=>⟨_,_,MQ _ _ _ _ (I''.off (by rw[b9 (Io MO)];exact Tc) (He I2.sz hC) (Io (GU (GK I2.lt hC))) (λx c e=>?_) (λp hp=>off _ _ (I2.pin p hp).1) sb),k⟩⟩
   obtain⟨_,o,ho,_⟩:=I2.cell _ _ e
   exact off _ _ ho
 exact codeAny_compStart_list (loop _ rfl) (T.self _ 0 _ _ _ (T.keep _ _ _ J_ λb _ o e=>old b o e) (loop _ rfl))
theorem cR {X:Cx}{own:List Str}{js:List Nat}{scope:Scope}{tg iter elt:Expr}{ifs:List Expr}{pos NA py:Pos}{g:TG}{ti:TT}{te:TE}{wi:lN}{i:Nat}{y:Str}(hN:X.N.Nodup)(hy:X.N[i]?=some y)(hl:yQ X.env.scope y)(S:BM X own js scope=true)(hc:X.calm=true)(hit:QI X tg iter wi)
  (hg:∀C s H fp,QG (bI X own js scope C s H fp) tg g) (hi:∀C s H fp,Et (bI X own js scope C s H fp) ifs ti) (he:∀C s H fp,QE (bI X own js scope C s H fp) elt te)
  (Tq:swapsWith (.ListComp elt [⟨tg,iter,ifs,0⟩] scope pos) (some (.Name y py)) NA.line X.env=pure true:=by rfl)
  (hf:X.fn y=true\/X.env.scope.names.lookup y=some .local:=by first|exact .inl rfl|exact .inr rfl)
  (hs:∀x,foldedSetIterable iter X.env x=pure x:=by intro _;rfl):QS X (.Assign [.Name y py] (.ListComp elt [⟨tg,iter,ifs,0⟩] scope pos) NA) (pM (iD own js wi g ti te) (Q3 i)):=
 ⟨oj hN hy hl S hc hit.r (λC s H fp=>(hg C s H fp).r) (λC s H fp=>(hi C s H fp).r) (λC s H fp=>(he C s H fp).r) Tq hf hs⟩
open PySem.AutoSeq1 (wpAny_loadPart')
def NcP (P:Program)(w:World)(A:Around)(s:Shared)(y x:Value)(b:Bool):Prop:=∀(E:Value->Shared->Prop) (Q:Value->Shared->Prop),Q (.bool b) s->wpAny (model P w) A (richCompare .NotEq y x) Q E s
theorem AL {P:Program}{w:World}(l m:Addr)(xs ys:Array Value)(n1 n2:Nat)(d1 d2:Option Addr)(s1 s2:Array (Option Value))(f:Nat->Bool):
  MeetsIn P w (Builtin.«tuple.__ne__» ⟨[.ref l,.ref m],[]⟩) (λA R s=>
   s.heap.get? l=some {cls:= .type "tuple",dict:=d1,data:= .seq xs n1,slots:=s1}/\s.heap.get? m=some {cls:= .type "tuple",dict:=d2,data:= .seq ys n2,slots:=s2}/\
   (∀j (g1:j<xs.size) (g2:j<ys.size),EqP P w A.in1 s xs[j] ys[j] (f j))/\
   R (.ok (.ret (.bool (!((List.range (min xs.size ys.size)).all f&&xs.size==ys.size))))) s):=
 .of_wp λA R s hyp=>by
  obtain⟨hp,gg,dr,tk,os⟩:=s;obtain⟨e1,e2,he,fin⟩:=hyp;have sub:=KZ;have len:(xs.toList.zip ys.toList).length=min xs.size ys.size:=by simp
  wp_walk using wpAny_loadPart' e1,wpAny_loadPart' e2,wpAny_forIn_list _ (λmore acc st=>acc.1=none/\st=⟨hp,gg,dr,tk,os⟩/\∃i,more=(xs.toList.zip ys.toList).drop i/\
   R (.ok (.ret (.bool (!(((List.range (min xs.size ys.size)).drop i).all f&&xs.size==ys.size))))) ⟨hp,gg,dr,tk,os⟩) _
  case turn=>
   rintro⟨y,x⟩ more acc st ⟨ha,rfl,i,hi,hR⟩
   have lt:i<(xs.toList.zip ys.toList).length:=by
    rcases Il i (xs.toList.zip ys.toList).length with z|z
    .exact z
    .rw[Jp z] at hi;cases hi
   have lm:i<min xs.size ys.size:=len▸lt
   have lx:i<xs.size:=GK lm (Nat.min_le_left _ _)
   have ly:i<ys.size:=GK lm (Lj _ _)
   rw[HS lt] at hi
   injection hi with h1 h2
   have q1:y=xs[i]:=by simpa using Ia Prod.fst h1
   have q2:x=ys[i]:=by simpa using Ia Prod.snd h1
   subst q1 q2
   have To:(List.range (min xs.size ys.size)).drop i=i::(List.range (min xs.size ys.size)).drop (i+1):=by simp [HS,lm]
   rw[To,Jh] at hR
   refine Gz (he i lx ly _ _ ?_)
   cases hf:f i with
   |true=>
    rw[hf] at hR
    wp_walk
    exact⟨rfl,rfl,i+1,h2,by simpa using hR⟩
   |false=>
    rw[hf] at hR
    wp_walk
    exact⟨_,rfl,by simpa using hR⟩
  case fin=>
   rintro⟨c1,c2⟩ st ⟨ha,rfl,i,hi,hR⟩
   simp only at ha
   subst ha
   have ge:min xs.size ys.size<=i:=by
    rcases Il i (xs.toList.zip ys.toList).length with z|z
    .rw[HS z] at hi;cases hi
    .exact len▸z
   rw[Jp (by simpa using ge)] at hR
   wp_walk
   exact⟨_,rfl,by simpa [Builtin.Tuple.tupleCompareSizes,bne] using hR⟩
  case h=>
   exact⟨rfl,rfl,0,rfl,by simpa using fin⟩
theorem NcP.tup {P:Program}{w:World}{A:Around}{s:Shared}{l m:Addr}{xs ys:Array Value}{f:Nat->Bool}(hl:s.heap.IsTuple l xs)(hm:s.heap.IsTuple m ys)(hu:A.units<cLine)
  (he:∀j (g1:j<xs.size) (g2:j<ys.size),EqP P w A.in1 s xs[j] ys[j] (f j)):NcP P w A s (.ref l) (.ref m) (!((List.range (min xs.size ys.size)).all f&&xs.size==ys.size)):=λE Q q=>by
 obtain⟨⟨c1,d1,a1,s1⟩,o1,k1,n1,t1⟩:=id hl
 obtain⟨⟨c2,d2,a2,s2⟩,o2,k2,n2,t2⟩:=id hm
 simp only at k1 t1 k2 t2
 subst k1 t1 k2 t2
 refine IG (op:= .NotEq) ⟨_,o1,rfl⟩ ⟨_,o2,rfl⟩ LM (Ik LM ⟨_,o1,rfl⟩ PySem.F.entry_tuple_ne (PySem.F.args_tuple_ne_2 _ _) (AL l m xs ys n1 n2 d1 d2 s1 s2 f) ⟨o1,o2,he,?_⟩) hu
 exact⟨(λz=>nomatch z),q⟩
section
variable {X:Cx} {pins:List (Addr×Obj)} {σ:St} {H:Hp} {s:Shared} {A:Around}
def Ca (K:Qc):R2:=λx y H Q=>∃a b p q p' q' r r',x= .ref a/\y= .ref b/\SqT K H a [.ref p,.ref q]/\SqT K H b [.ref p',.ref q']/\EqD K H p p' r/\EqD K H q q' r'/\Q (.bl (!(r&&r'))) H
theorem zC (hu:X.A.units+64<cLine):OpR X (compareOp .NotEq) (Ca X.K):=by
 intro pins s σ H x y v u Q I rx ry h;obtain⟨a,b,p,q,p',q',r,r',rfl,rfl,ha,hb,h1,h2,k⟩:=h;cases rx;cases ry;obtain⟨a_,v1,t1,_⟩:=I.tuple ha;obtain⟨its',v2,t2,_⟩:=I.tuple hb;obtain⟨_,_,rfl,e1,e2⟩:=U6 v1;obtain⟨_,_,rfl,e3,e4⟩:=U6 v2;cases e1;cases e2;cases e3;cases e4;refine NcP.tup (P:=X.prog) (w:=X.w) (f:=λj=>if j=0 then r else r') (show s.heap.IsTuple a _ from t1) (show s.heap.IsTuple b _ from t2) (by lia) (λj g1 g2=>?_) _ _ ⟨.bl (!(r&&r')),H,I,by show Value.bool _=Value.bool _;simp [IY],k⟩;have g:j<2:=by simpa using g1
 match j,g with
 |0,_=>exact h1.at_ I (by show X.A.units+1+16<_;lia)
 |1,_=>exact h2.at_ I (by show X.A.units+1+16<_;lia)
def BU (K:Qc):R2:=λx y H Q=>∃a b xs ys,x= .ref a/\y= .ref b/\SqL K H a xs/\SqL K H b ys/\xs.all E1=true/\ys.all E1=true/\Q (.bl (!Q7 xs ys)) H
theorem AO (hu:X.A.units+64<cLine):OpR X (compareOp .NotEq) (BU X.K):=by
 intro pins s σ H x y v u Q I rx ry h;obtain⟨a,b,xs,ys,rfl,rfl,ha,hb,fx,fy,k⟩:=h;cases rx;cases ry;obtain⟨a_,r1,p1,z1⟩:=I.list ha;obtain⟨its',r2,p2,z2⟩:=I.list hb;have l1:=r1.length;have l2:=r2.length;have e3:a_.toArray.size=xs.length:=by simp [l1]
 have e4:its'.toArray.size=ys.length:=by simp [l2]
 by_cases hl:xs.length=ys.length
 .have q:=SeqAt.RcNeAt.lists (A:=X.A) (e:=λj=>cG (xs.getD j .non) (ys.getD j .non)) p1.isList p2.isList (by rw[e3,e4];exact hl) (by lia) λj g1 g2=>by
   have LO:j<a_.length:=by simpa using g1
   have LW:j<its'.length:=by simpa using g2
   have x1:xs[j]?=some (xs[j]'(by lia)):=by simp [show j<xs.length by lia]
   have y1:ys[j]?=some (ys[j]'(by lia)):=by simp [show j<ys.length by lia]
   obtain⟨u1,MR,MA⟩:=r1.get x1;obtain⟨u2,MS,MB⟩:=r2.get y1;have e1:a_.toArray[j]=u1:=by
    have:=Gu LO;rw[MR] at this;simpa using(GL this).symm
   have e2:its'.toArray[j]=u2:=by
    have:=Gu LW;rw[MS] at this;simpa using(GL this).symm
   rw[e1,e2];have d1:xs.getD j .non=xs[j]'(by lia):=by rw[Hj,x1];rfl
   have d2:ys.getD j .non=ys[j]'(by lia):=by rw[Hj,y1];rfl
   rw[d1,d2];exact aR MA MB (Hk.mp fx _ (Hv _)) (Hk.mp fy _ (Hv _))
  have e5:=N6 xs ys;rw[hl,Nat.min_self,Ln,JW] at e5;rw[e3,hl,e5] at q;exact q X.prog X.w _ _ ⟨.bl _,H,I,rfl,k⟩
 .refine SeqAt.RcNeAt.lists_lengths (A:=X.A) p1.isList p2.isList (by rw[e3,e4];simpa using hl) (by lia) X.prog X.w _ _ ⟨.bl _,H,I,?_,k⟩;rw[dh hl];rfl
def DL (K:Qc):R2:=λ_ _ _ _=>False
theorem AV (hu:X.A.units+64<cLine):OpR X (compareOp .NotEq) (DL X.K):=by
 intro pins s σ H x y v u Q I rx ry h;exact h.elim
def ze (K:Qc):R2:=λ_ _ _ _=>False
def yM (K:Qc):R2:=λ_ _ _ _=>False
theorem xU (hu:X.A.units+64<cLine):OpR X (compareOp .Eq) (ze X.K):=by
 intro pins s σ H x y v u Q I rx ry h;exact h.elim
theorem yD (hu:X.A.units+64<cLine):OpR X (compareOp .NotEq) (yM X.K):=by
 intro pins s σ H x y v u Q I rx ry h;exact h.elim
def Bk (K:Qc):R2:=λx y H Q=>jj K x y H Q\/ze K x y H Q
theorem EZ (K:Qc){k:Nat}(hr:Room k X.A)(h:X.K=K:=by rfl):OpR X (compareOp .Eq) (Bk K):=(Gd K hr h).or (h▸xU hr.units)
def Bp (K:Qc):R2:=λx y H Q=>Eu x y H Q\/BU K x y H Q\/DL K x y H Q\/Ca K x y H Q\/yM K x y H Q
theorem FJ (K:Qc){k:Nat}(hr:Room k X.A)(h:X.K=K:=by rfl):OpR X (compareOp .NotEq) (Bp K):=h▸op_ne.or ((AO hr.units).or ((AV hr.units).or ((zC hr.units).or (yD hr.units))))
end
section
variable {K:Qc} {H:Hp} {Q:VK}
theorem EU {x y:V}(q:jj K x y H Q):Bk K x y H Q:= .inl q
theorem mB {i j:Int}(q:Q (.bl (!decide (i=j))) H):Bp K (.int i) (.int j) H Q:= .inl (my q)
theorem lD {j:Str}(q:Q (.bl false) H):jj K .non (.str j) H Q:= .inl ⟨rfl,by rw[show decide (V.non=V.str j)=false by simp];exact q⟩
theorem kZ {a:Addr}{xs:List V}(ha:SqT K H a xs)(q:Q (.bl false) H):jj K .non (.ref a) H Q:= .inr (.inr (.inl (.inr ⟨a,xs,rfl,rfl,ha,q⟩)))
end
section
variable {X:Cx} {o e f:Expr} {apos b_:Pos} {td ty tx:TE} {name:Str}
theorem Dh (hb:attributeBase o name X.env (eval o X.env)=eval o X.env)(hl:(apos.endLine==b_.line)=true)(h:u6 e=true):M1 X o name apos e b_:=by
 have z:starEach [e] X.env=[(false,eval e X.env)]:=G8 (es:=[]) h;have z2:backTo b_ (starEach [e] X.env)=[(false,eval e X.env)]:=by rw[z];rfl
 exact⟨hb,by rw[z2];rfl,hl,z2⟩
theorem Dc (hb:attributeBase o name X.env (eval o X.env)=eval o X.env)(hl:(apos.endLine==b_.line)=true)(h:u6 e=true)(h':u6 f=true):M2 X o name apos e f b_:=by
 have z:starEach [e,f] X.env=[(false,eval e X.env),(false,eval f X.env)]:=by rw[G8 (es:=[f]) h,G8 (es:=[]) h'];rfl
 have z2:backTo b_ (starEach [e,f] X.env)=[(false,eval e X.env),(false,eval f X.env)]:=by rw[z];rfl
 exact⟨hb,by rw[z2];rfl,hl,z2⟩
theorem qo (hu:X.A.units+1<cLine)(ho:QE X o td)(he:QE X e ty)(hb:attributeBase o "get" X.env (eval o X.env)=eval o X.env:=by rfl)(hl:(apos.endLine==b_.line)=true:=by rfl)(h:u6 e=true:=by rfl):
  QE X (.Call (.Attribute o "get" apos) [e] [] b_) (oO td ty):=⟨vY hu ho.r he.r (Dh hb hl h)⟩
theorem qT (hu:X.A.units+1<cLine)(ho:QE X o td)(he:QE X e ty)(hf:QE X f tx)(hb:attributeBase o "get" X.env (eval o X.env)=eval o X.env:=by rfl)(hl:(apos.endLine==b_.line)=true:=by rfl)(h:u6 e=true:=by rfl)(h':u6 f=true:=by rfl):
  QE X (.Call (.Attribute o "get" apos) [e,f] [] b_) (oR td ty tx):=⟨uF hu ho.r he.r hf.r (Dc hb hl h h')⟩
end
section
variable {σ:St} {H:Hp} {Q:VK} {td ty tx:TE}
theorem Ed (q:td σ H λx H1=>∃a,x= .ref a/\Cs H1 a/\ty σ H1 λy H2=>∃o,DGet H2 a y o/\Q (o.getD .non) H2):oO td ty σ H Q:=q
end
open Sem (wp)
section
variable {prog:Program} {w:World} {KT:Type} [DecidableEq KT] {knd:KeyKind prog w KT} {A:Around} {E:Value->Shared->Prop} {s:Shared}
end
section
variable {prog:Program} {w:World} {KT:Type} [DecidableEq KT] {knd:KeyKind prog w KT} {A:Around} {E:Value->Shared->Prop} {s:Shared}
open PySem.AutoSeq1 (wpAny_loadPart')
end
section
variable {X:Cx} {a:Expr} {t:TA} {p pos:Pos}
def pf (K:Qc)(ta:TA):lN:=λσ H R=>ta σ H λvs H1=>∃v,vs=[v]/\((∃l xs,v= .ref l/\SqL K H1 l xs/\R (ES K l) id H1)\/False)
theorem ua {elts:List Expr}{x1}{j_:Pos}(hg:Gl X "enumerate")(hm:X.mg "enumerate"=none)(ha:PA X [a] t)(hs:starEach [a] X.env=[(false,eval a X.env)]):uT X (.Tuple elts x1 j_) (.Call (.Name "enumerate" p) [a] [] pos) (pf X.K t):=by
 intro pins s σ H R I h;refine Call_ (Z6 I hg hm Boot.«enumerate» (HW (E9 (ha pos pins s σ H _ I h) λus s1 ⟨vs,H1,I1,r1,q1⟩=>?_) hs rfl));obtain⟨v,e,q⟩:=q1;subst e;obtain⟨u,rfl,ru⟩:=G6 r1;rcases q with⟨l,xs,rfl,hq,q⟩|q
 .cases ru;obtain⟨a_,rv,pl,hz⟩:=I1.list hq;refine call_enumerate_list pl.isList λh' he hit hsz hk=>?_;have I2:Inv X pins σ H1 {s1 with heap:=h'}:=I1.kept (t':=s1.toks) hk;refine wpAny_pyIter_enum (s:={s1 with heap:=h'}) he ?_;refine⟨s1.heap.objs.size+1,[s1.heap.objs.size+1,s1.heap.objs.size],_,_,H1,rfl,I2,rM (l:=l) (Nat.succ_ne_self _),⟨_,he,hit⟩,λb hb=>?_,id,dD,q⟩;have n_:b=s1.heap.objs.size+1\/b=s1.heap.objs.size:=by simpa using hb
  rcases n_ with rfl|rfl
  .exact I1.fpOk (Kv _) (I1.hok.fresh (Kv _))
  .exact I1.fpOk (Gv _) (I1.hok.fresh (Gv _))
 .exact q.elim
theorem cN (K:Qc){elts:List Expr}{x1}{j_:Pos}(hm:X.mg "enumerate"=none)(ha:QA X [a] t)(hg:Gl X "enumerate":=by rfl)(h:u6 a=true:=by rfl)(hK:X.K=K:=by rfl):QI X (.Tuple elts x1 j_) (.Call (.Name "enumerate" p) [a] [] pos) (pf K t):=
 ⟨hK▸ua hg hm ha.r (G8 h)⟩
end
section
variable {K:Qc} {σ:St} {H:Hp} {ta:TA} {R:It->(Hp->Hp)->Hp->Prop}
theorem yd (q:ta σ H λvs H1=>∃v,vs=[v]/\((∃l xs,v= .ref l/\SqL K H1 l xs/\R (ES K l) id H1)\/False)):pf K ta σ H R:=q
end
open Sem (wp)
theorem lA:typeLookup (.type "list") "keys"=pure none:=by rw[LN,Kl];kernel_rfl
section
variable {prog:Program} {w:World} {A:Around} {E:Value->Shared->Prop} {s:Shared}
theorem sZ {a:Addr}{o:Obj}{xs:Array Value}{k:Nat}{Q:Option Value->Shared->Prop}
  (hx:s.heap.get? a=some o) (hc:o.cls= .type "list") (H_:o.data= .seq xs k) (hd:o.dict=none) (hA:A.handled=none)
  (h:∀h' tk,(∀b ob,s.heap.get? b=some ob->h'.get? b=some ob)->Q none {s with heap:=h',toks:=tk}):
  wpAny (model prog w) A (getAttr? (.ref a) "keys") Q E s:=by
 obtain⟨c,dct,dat,sl⟩:=o
 simp only at hc H_ hd
 subst hc H_ hd
 obtain⟨hp,g,d,tk,os⟩:=s
 have hT:∀tk',(⟨hp,g,d,tk',os⟩:Shared).TypeIs (.ref a) "list":=λ_=>⟨_,hx,rfl⟩
 have f1:=sub_AttributeError
 have f3:=JN.lookup
 have f4:=JN.bind (.ref a)
 have f5:=am_list_getattr_none
 unfold getAttr? getAttrBy? getAttrBy
 repeat(any_goals (first|assumption|exact hT _|((with_reducible show wpAny _ _ (call (Value.builtin "list.__getattribute__") _ _) _ _ _);refine LU JN (hT _) am_entry_list_getattribute (F.args_list_getattribute_2 _ _) (meets_getattribute_miss_list a xs k sl "keys" _ lA (by decide+kernel) (by decide+kernel)) ⟨hx,hA,λh' tk' e p_=>?_⟩)|wp_step))
 obtain⟨t',u',he⟩:=p_.there
 show wpAny _ _ (getattributeRaised _ _ _ _ _ _ _) _ _ _
 unfold getattributeRaised
 repeat(any_goals (first|assumption|wp_step))
 exact h _ _ p_.keeps
end
theorem K7:entryFor table "dict.update.loop"=some Builtin.«dict.update.loop»:=entryFor_of_tree (by kernel_rfl)
theorem B8:plainId "dict.update.loop"=true:=by decide+kernel
section
variable {prog:Program} {w:World} {KT:Type} [DecidableEq KT] {knd:KeyKind prog w KT} {A:Around} {E:Value->Shared->Prop}
def PairAt (knd:KeyKind prog w KT)(h:Heap)(d it:Addr)(u:Value)(kv:KT×Value):Prop:=∃t key,u= .ref t/\h.IsTuple t #[key,kv.2]/\knd.is kv.1 key=true/\t≠d/\t≠it
theorem PairAt.keep {h h':Heap}{d it:Addr}{u:Value}{kv:KT×Value}(p:PairAt knd h d it u kv)(k:∀b o,b≠d->b≠it->h.get? b=some o->h'.get? b=some o):PairAt knd h' d it u kv:=by
 obtain⟨t,key,e,⟨o,ho,r⟩,hk,h1,h2⟩:=p;exact⟨t,key,e,⟨o,k t o h1 h2 ho,r⟩,hk,h1,h2⟩
theorem rS {d it l:Addr}{items:List Value}{res:Value}(hh:A.handled=none)(OX:d≠it)(Tr:l≠it)(Ts:l≠d):
  ∀(more:List (KT×Value)) (i:Nat) (s:Shared) (kvs:List (KT×Value)) (R:Result->Shared->Prop),
   s.heap.IsListIter it l i->s.heap.IsList l items.toArray->Paired (PairAt knd s.heap d it) (items.drop i) more->s.heap.DictOf knd d kvs->kvs.length+more.length<=sizeLine->
   (∀h' tk,(∀b o,b≠d->b≠it->s.heap.get? b=some o->h'.get? b=some o)->h'.DictOf knd d (more.foldl (λa x=>stored a x.1 x.2) kvs)->R (.ok (.ret res)) {s with heap:=h',toks:=tk})->
   codeAny (model prog w) A (.builtin "dict.update.loop" ⟨[.ref d,.ref it,rawInt (i:Int),res],[]⟩) R s:=by
 intro more
 induction more with
 |nil=>
  intro i s kvs R hit hl hp hd hz hR
  have hx:items.toArray[i]?=none:=by
   have hn:items.drop i=[]:=by cases r_:items.drop i with
    |nil=>rfl
    |cons x r=>rw[r_] at hp;cases hp
   have:=Kp.mp hn;simp;lia
  refine Ig K7 ?_
  rw[HV B8 _]
  show wpAny _ A.in1 (pyNext (.ref it)>>=_) _ _ s
  refine Gz (Kj (A:=A.in1) hh hit hl hx λh' eb=>?_)
  show wpAny _ A.in1 (Builtin.Dict.addKeywords d []>>=_) _ _ _
  refine Gz (GN (GN ?_))
  exact hR h' s.toks (λb o h1 h2 e=>eb b o h2 e) (hd.extBut eb OX)
 |cons kv more ih=>
  intro i s kvs R hit hl hp hd hz hR
  obtain⟨x,hx,XT,MU⟩:∃x,items.toArray[i]?=some x/\PairAt knd s.heap d it x kv/\Paired (PairAt knd s.heap d it) (items.drop (i+1)) more:=by
   cases r_:items.drop i with
   |nil=>rw[r_] at hp;cases hp
   |cons x r=>
    rw[r_] at hp
    cases hp with
    |cons h1 h2=>
     refine⟨x,?_,h1,?_⟩
     .have z:=Ia List.head? r_
      simpa using z
     .have z:=Ia List.tail r_
      rw[Mh] at z
      rw[z];exact h2
  obtain⟨t,key,rfl,⟨ot,QN,XU,nt,XW⟩,w_,h1,h2⟩:=XT
  refine Ig K7 ?_
  rw[HV B8 _]
  show wpAny _ A.in1 (pyNext (.ref it)>>=_) _ _ s
  refine Gz (Kc hit hl hx λh' hit' J'=>?_)
  have QQ:h'.get? t=some ot:=J'.extBut _ _ h2 QN
  refine Gz (HU (Gz (wpAny_tryCatch ?_)))
  unfold Builtin.Dict.pairItems
  refine Gz (KH (s:={s with heap:=h'}) ⟨_,QQ,XU⟩ ?_)
  rw[if_pos (by decide)]
  refine Gz (KN (s:={s with heap:=h'}) QQ XW ?_)
  refine GN ?_
  show wpAny _ A.in1 (holding [key,kv.2] (dictSet d key kv.2)) _ _ _
  refine HU (wpAny_dictSet_pairs (s:={s with heap:=h'}) (kvs:=kvs) w_ (hd.extBut J'.extBut OX) (λB_ dd hs''=>?_) (by simp only[HF] at hz;lia))
  have kp:∀b o,b≠d->b≠it->s.heap.get? b=some o->B_.get? b=some o:=λb o hb1 LY e=>hs''.extBut b o hb1 (J'.extBut b o LY e)
  refine GN ⟨IM B8 _,?_⟩
  refine ih (i+1) _ (stored kvs kv.1 kv.2) R ?_ ?_ (Paired.imp' (λ_ _ z=>z.keep kp) MU) dd ?_ (λh3 tk k3 d3=>hR h3 tk (λb o e1 e2 e=>k3 b o e1 e2 (kp b o e1 e2 e)) d3)
  .exact hit'.at λo e=>hs''.extBut it o (Io OX) e
  .obtain⟨ol,C_,r⟩:=hl
   exact⟨ol,kp l ol Ts Tr C_,r⟩
  .have z:=stored_length_le kvs kv.1 kv.2
   simp only[HF] at hz
   lia
theorem fU {l:Addr}{items:List Value}{o:Obj}{n:Nat}{more:List (KT×Value)}{s:Shared}{Q:Value->Shared->Prop}(hh:A.handled=none)(ho:s.heap.get? l=some o)(hc:o.cls= .type "list")(H_:o.data= .seq items.toArray n)(QR:o.dict=none)(hz:more.length<=sizeLine)
  (hp:Paired (λu kv=>∃t key,u= .ref t/\s.heap.IsTuple t #[key,kv.2]/\knd.is kv.1 key=true) items more)
  (h:∀h' tk,h'.DictOf knd s.heap.objs.size (more.foldl (λa x=>stored a x.1 x.2) [])->(∀b o,s.heap.get? b=some o->h'.get? b=some o)->Q (.ref s.heap.objs.size) {s with heap:=h',toks:=tk}):
  wpAny (model prog w) A (call (.type "dict") [.ref l]) Q E s:=by
 refine callType_codes (Q₁:=λobj s₁=>obj= .ref s.heap.objs.size/\s₁={s with heap:=s.heap.push {cls:= .type "dict",data:= .dict #[]}}) F.kt_called_dict (F.kt_typeCall_dict_1 _) F.entry_dict_init (kt_code_dict_new _ ⟨rfl,rfl⟩) ?_
 rintro obj s₁ ⟨rfl,rfl⟩
 have L_:(s.heap.push {cls:= .type "dict",data:= .dict #[]}).DictOf knd s.heap.objs.size []:=LF s.heap
 have QB:l≠s.heap.objs.size:=GU (GH ho)
 refine⟨L_.typeIs,F.args_dict_init_2 _ _,?_⟩
 unfold Builtin.«dict.__init__»
 refine Gz ?_
 unfold Builtin.Dict.selfAndRest
 refine Gz (Km L_.typeIs ?_)
 show wpAny _ _ (pure (s.heap.objs.size,[Value.ref l])) _ _ _
 refine GN ?_
 show wpAny _ _ (Builtin.Dict.updateFrom "dict.__init__" s.heap.objs.size (.ref l) [] .none) _ _ _
 unfold Builtin.Dict.updateFrom
 have NB:(s.heap.push {cls:= .type "dict",data:= .dict #[]}).get? l=some o:=GB _ ho
 refine Gz (KH (s:={s with heap:=s.heap.push {cls:= .type "dict",data:= .dict #[]}}) ⟨_,NB,hc⟩ ?_)
 rw[if_pos (by decide)]
 refine Gz (sZ (s:={s with heap:=s.heap.push {cls:= .type "dict",data:= .dict #[]}}) NB hc H_ QR hh λh2 Oc k2=>?_)
 rw[if_pos (show((none:Option Value).isNone)=true from rfl)]
 have Nk:h2.get? l=some o:=k2 l o NB
 have hd2:h2.DictOf knd s.heap.objs.size []:=let ⟨od,es,ep,e,r⟩:=L_;⟨od,es,ep,k2 _ _ e,r⟩
 have j':s.heap.objs.size<h2.objs.size:=by obtain⟨od,es,ep,e,r⟩:=hd2;exact GH e
 have up:∀b ob,s.heap.get? b=some ob->(h2.push {cls:= .type "list_iterator",data:= .fields #[.ref l,.int 0 0]}).get? b=some ob:=λb ob e=>GB _ (k2 b ob (GB _ e))
 refine Gz (MZ (Gz (JA (l:=l) (items:=items.toArray) ⟨o,Nk,hc,n,H_⟩ ?_)))
 refine GN ⟨IM B8 _,?_⟩
 refine rS (knd:=knd) (l:=l) (items:=items) (A:=A.in1) hh (GU j') (GU (GH Nk)) QB more 0 _ [] _ ⟨_,GW _ rfl,rfl,rfl⟩ ⟨o,GB _ Nk,hc,n,H_⟩ ?_ (hd2.push _) (by simpa using hz) λh3 tk k3 d3=>⟨rfl,h h3 tk d3 λb ob e=>k3 b ob (GU (GH e)) (GU (LD (GH e) j')) (up b ob e)⟩
 rw[KO]
 refine Paired.imp' (λu kv z=>?_) hp
 obtain⟨t,key,rfl,⟨ot,QN,r⟩,hk⟩:=z
 exact⟨t,key,rfl,⟨ot,up t ot QN,r⟩,hk,GU (GH QN),GU (LD (GH QN) j')⟩
end
section
variable {X:Cx}
def PrV (K:Qc)(H:Hp)(x:V)(kv:j0×V):Prop:=∃t,x= .ref t/\SqT K H t [kV kv.1,kv.2]
def X3 (kvs:List (j0×V)):List (j0×V):=kvs.foldl (λa x=>B9 a x.1 x.2) []
theorem KV.puts:∀{ps:List (j0×V)} {qs:List (j0×Value)} {a:List (j0×V)} {b:List (j0×Value)},KV ps qs->KV a b->KV (ps.foldl (λa x=>B9 a x.1 x.2) a) (qs.foldl (λa x=>stored a x.1 x.2) b)
 |_,_,_,_,.nil,h=>h
 |_::_,_::_,a,b,.cons r t,h=>by
  obtain⟨e,rv⟩:=r;rw[Jx,Jx];refine KV.puts t ?_;rw[←e];exact KV.put h _ rv
theorem bw:∀(ps:List (j0×V)) (a:List (j0×V)),(ps.foldl (λa x=>B9 a x.1 x.2) a).length<=a.length+ps.length
 |[],a=>Gv _
 |p::r,a=>by
  rw[Jx,HF];have z:=bw r (B9 a p.1 p.2);have z2:=F5 a p.1 p.2;lia
theorem zN {pins : List (Addr × Obj)} {σ : L2.St} {H : Hp} {s : Shared} (I : Inv X pins σ H s) : ∀ {xs : List V} {kvs : List (j0 × V)} {us : List Value}, Paired (PrV X.K H) xs kvs -> Vals xs us -> ∃ more : List (j0 × Value), KV kvs more /\ Paired (λu kv => ∃ t key, u = Value.ref t /\ s.heap.IsTuple t #[key, kv.2] /\ (k7 X.prog X.w).is kv.1 key = true) us more
 := by
  intro xs kvs us hp hv;induction hp generalizing us with
  | nil => cases hv; exact ⟨[], .nil, .nil⟩
  | @cons x kv l m r t ih => cases hv with
    | cons r' t' =>
      obtain ⟨tt, rfl, sq⟩ := r
      cases r'
      obtain ⟨a_, v1, t1, _⟩ := I.tuple sq
      obtain ⟨key, v, rfl, rk, rv⟩ := U6 v1
      obtain ⟨more, h1, h2⟩ := ih t'
      exact ⟨(kv.1, v) :: more, .cons ⟨rfl, rv⟩ h1, .cons ⟨tt, key, rfl, t1, dj rk⟩ h2⟩
def tZ (K:Qc):List V->Hp->VK->Prop:=λxs H Q=>∃(p:Addr) (ys:List V) (kvs:List (j0×V)),xs=[.ref p]/\SqL K H p ys/\Paired (PrV K H) ys kvs/\kvs.length<=sizeLine/\∀l,H l=none->Q (.ref l) (p0 H l (.dK (X3 kvs)))
theorem oI (hc:X.calm=true):CallR X (.type "dict") (tZ X.K):=by
 intro pins s σ H xs us Q I r h;obtain⟨p,ys,kvs,rfl,hq,hp,hz,q⟩:=h;obtain⟨u,rfl,ru⟩:=G6 r;cases ru;obtain⟨a_,rv,pl,_⟩:=I.list hq;obtain⟨more,kv,pr⟩:=zN I hp rv;obtain⟨o,n,e,c,hd,dt⟩:=pl;have hl:more.length=kvs.length:=(KV.length kv).symm;refine fU (knd:=k7 X.prog X.w) (I.ok.hd hc) e c dt hd (by lia) pr λh' tk dd k=>?_;refine⟨.ref s.heap.objs.size,_,?_,rfl,q _ (I.hok.fresh (Gv _))⟩;refine I.laid (a:=s.heap.objs.size) (o:= .dK (X3 kvs)) (t':=tk) k (Gv _) (gy ?_ (IE.mpr (Io (GU I.big))) (KV.puts kv .nil) dd);have z:=bw kvs [];unfold X3;simp only[JT] at z;lia
def ky (K:Qc):List V->Hp->VK->Prop:=λxs H Q=>yV xs H Q\/tZ K xs H Q
theorem X9 (K:Qc)(hc:X.calm=true)(h:X.K=K:=by rfl):CallR X (.type "dict") (ky K):=by
 subst h;intro pins s σ H xs us Q I r h;rcases h with h|h
 .exact oF pins s σ H xs us Q I r h
 .exact oI hc pins s σ H xs us Q I r h
end
section
variable {K:Qc} {H:Hp} {Q:VK}
theorem J6 {p:Addr}{kvs:List (j0×V)}(h:Rd H p (.dK kvs))(q:∀l,H l=none->Q (.ref l) (p0 H l (.dK kvs))):ky K [.ref p] H Q:= .inl ⟨p,kvs,rfl,h,q⟩
theorem N9 {p:Addr}{xs:List V}{kvs:List (j0×V)}(h:SqL K H p xs)(hp:Paired (PrV K H) xs kvs)(hz:kvs.length<=sizeLine)(q:∀l,H l=none->Q (.ref l) (p0 H l (.dK (X3 kvs)))):ky K [.ref p] H Q:= .inr ⟨p,xs,kvs,rfl,h,hp,hz,q⟩
end
section
variable {X:Cx}
end
theorem ObjOk.there {P:Program}{w:World}{H:Hp}{h:Heap}{a:Addr}{o:HO}(x:ObjOk P w H h a o):∃u,h.get? a=some u:=by
 induction o with
 |lst xs=>obtain⟨_,_,_,_,e⟩:=x;exact⟨_,e⟩
 |tup xs=>obtain⟨_,_,_,o,e,_⟩:=x;exact⟨_,e⟩
 |dK kvs=>obtain⟨_,_,_,_,o,_,_,e,_⟩:=x;exact⟨_,e⟩
 |dT kvs=>obtain⟨_,_,_,_,o,_,_,e,_⟩:=x;exact⟨_,e⟩
 |set S n=>obtain⟨o,_,_,_,e,_⟩:=x;exact⟨_,e⟩
 |ins C dx fs=>obtain⟨_,_,_,e,_⟩:=x;exact⟨_,e⟩
 |own y=>exact x
 |xd fs=>obtain⟨_,⟨_,_,_,e,_⟩,_⟩:=x;exact⟨_,e⟩
 |rng lo hi=>obtain⟨_,_,_,e⟩:=x;exact⟨_,e⟩
 |frz ob u=>obtain⟨e,_⟩:=x;exact⟨_,e⟩
 |tbl ps=>exact⟨_,show h.get? a=some _ from x⟩
 |met f y=>exact⟨_,show h.get? a=some _ from x⟩
 |ext φ=>obtain⟨_,e,_⟩:=x;exact e
structure Fly (P:Program) (w:World) (outer:List Env) (H:Hp) (s:Shared) (a C:Addr) (a0:Value) (B:Heap) (H':Hp) (s':Shared):Prop where
 fl:Heap.FlyingW B outer a (.ref C) a0 s'.heap
 os:s'.os=s.os
 bare:AllBare s'.gens
 un:Un (Y0 outer) [] H H' s.heap s'.heap
 hok:HOk P w H' s'.heap
 kp:∀b o,s.heap.get? b=some o->H b=none->b∉Y0 outer->B.get? b=some o
 th:∀b o,s.heap.get? b=some o->b∉Y0 outer->∃o',B.get? b=some o'
 tr:∀b o,H' b=some o->∃u,B.get? b=some u
 nw:H' a=none
def ou (P:Program)(w:World):lO:=λouter H s E e s'=>∃(a C:Addr) (a0:Value) (B:Heap) (H':Hp),e= .ref a/\Fly P w outer H s a C a0 B H' s'/\E (.ref C) (some a) H'
theorem pD {P:Program}{w:World}{H:Hp}{B h h':Heap}(ok:HOk P w H h)(tr:∀b o,H b=some o->∃u,B.get? b=some u)(k1:B.StaysIn h)(k2:B.StaysIn h'):HOk P w H h':=λa o e=>
 (ok a o e).stay (λb u hb q=>by
  have hH:∃o',H b=some o':=by
   rcases hb with rfl|hb
   .exact⟨_,e⟩
   .exact⟨_,hb⟩
  obtain⟨o',NY⟩:=hH;obtain⟨u',R_⟩:=tr b o' NY;have z:=k1 b u' R_;rw[q] at z;cases z;exact k2 b _ R_) (λ_ z=>z) λ_ _ z=>z
section
variable {X:Cx} {pins:List (Addr×Obj)} {σ:St} {H:Hp} {s s':Shared}
theorem F7 {base h:Heap}{l:List Env}(F:h.FunFrames base l){b:Addr}{o:Obj}(hb:b∈Y0 l)(e:h.get? b=some o):∀vs,o.data≠ .fields vs:=by
 obtain⟨_,o',h1,h2⟩:=F.mem hb;rw[e] at h1;cases h1;exact h2
theorem Fly.land {a C:Addr}{a0:Value}{B:Heap}{H':Hp}{h':Heap}(I:Inv X pins σ H s)(F:Fly X.prog X.w X.stack H s a C a0 B H' s')(k:B.StaysIn h')(sl:s'.heap.UpToSlots h')(t':Nat):
  Inv X pins σ H' {s' with heap:=h',toks:=t'}:=by
 have fr:=F.fl.2.2.1
 have u:Un (Y0 X.stack) [] H H' s.heap h':=by
  refine⟨λb o e n hb _=>k b o (F.kp b o e n hb),λb o e n hb _=>?_,F.un.free,λb o e _=>?_,F.un.tups,F.un.frzs,F.un.tbls⟩
  .obtain⟨s1,e1⟩:=F.un.slot b o e n hb (by simp);obtain⟨s2,e2⟩:=sl b _ e1 (F7 fr hb e1);exact⟨s2,e2⟩
  .by_cases hb:b∈Y0 X.stack
   .obtain⟨o',e1⟩:=F.un.there b o e (by simp);obtain⟨s2,e2⟩:=sl b _ e1 (F7 fr hb e1);exact⟨_,e2⟩
   .obtain⟨o',e1⟩:=F.th b o e hb;exact⟨o',k b o' e1⟩
 have hok:=pD F.hok F.tr F.fl.1 k
 exact I.call' (s':={s' with heap:=h',toks:=t'}) (ch:=[]) F.os u hok F.bare (λb z=>absurd z (by simp))
end
section
variable {P:Program} {w:World} {K:Qc} {mg:Str->Option Value} {base:Heap} {N:List Str} {qual:Str} {scope:Scope} {f:Addr} {cd:Value} {A:Around} {outer:List Env} {s0:Shared} {H0:Hp} {E:XK}
theorem dH {b:Addr}(hb:b∈Y0 outer):b∈Y0 (envOfC qual scope s0.heap.objs.size f cd::outer):=by
 unfold Y0 at*;rw[Jf];split
 .exact hb
 .exact GY _ hb
theorem gk {b:Addr}{o:Obj}(e:s0.heap.get? b=some o)(hb:b∉Y0 outer):b∉Y0 (envOfC qual scope s0.heap.objs.size f cd::outer):=λz=>by
 unfold Y0 at z hb;rw[Jf] at z;have hl:=GH e;rcases Hh.mp z with z|z
 .rw[z] at hl;exact absurd hl (Ib _)
 .exact hb z
theorem kI {pins:List (Addr×Obj)}{σ:St}{H:Hp}{s:Shared}{h1:Heap}{e C:Addr}{vs:List Value}(I:Inv (iN (ou P w) P w K mg base N qual scope f cd A outer s0 H0 E) pins σ H s)
  (hx:Heap.MadeExcOf s.heap h1 e (.ref C) vs) (q:E (.ref C) (some e) H):(iN (ou P w) P w K mg base N qual scope f cd A outer s0 H0 E).xe (.ref e) {s with heap:=h1}:=by
 have Nq:∀env∈(envOfC qual scope s0.heap.objs.size f cd::outer),∀b,env.frame=some b->b∈Y0 (envOfC qual scope s0.heap.objs.size f cd::outer):=λenv he b hb=>KG.mpr ⟨env,he,hb⟩
 have fr:s.heap.FunFrames base (envOfC qual scope s0.heap.objs.size f cd::outer):=I.stack
 have tr:∀b o,H b=some o->∃u,(PySem.W.hideAll s.heap (Y0 (envOfC qual scope s0.heap.objs.size f cd::outer))).get? b=some u:=λb o z=>by
  obtain⟨u,hu⟩:=(I.hok b o z).there;refine⟨u,JK _ hu λhb=>?_⟩;have:=I.stkFree b hb;rw[z] at this;cases this
 have nw:H e=none:=by
  cases z:H e with
  |none=>rfl
  |some o=>
   obtain⟨u,hu⟩:=(I.hok e o z).there
   rw[hx.new] at hu;cases hu
 have z_:Un (Y0 outer) [] H0 H s0.heap s.heap:=I.base
 refine wpAny_leaves_madeW (base:=PySem.W.hideAll s.heap (Y0 (envOfC qual scope s0.heap.objs.size f cd::outer))) I.ok.frames rfl (λb o z=>KC _ z) (PySem.W.funFrames_hide fr Nq) hx λh' t x1 x2 x3 x4=>?_
 have kp:∀b o,s0.heap.get? b=some o->H0 b=none->b∉Y0 outer->(PySem.W.hideAll s.heap (Y0 (envOfC qual scope s0.heap.objs.size f cd::outer))).get? b=some o:=λb o z n hb=>
  JK _ (z_.keep b o z n hb (by simp)) (gk z hb)
 have th:∀b o,s0.heap.get? b=some o->b∉Y0 outer->∃o',(PySem.W.hideAll s.heap (Y0 (envOfC qual scope s0.heap.objs.size f cd::outer))).get? b=some o':=λb o z hb=>by
  obtain⟨o',z'⟩:=z_.there b o z (by simp);exact⟨o',JK _ z' (gk z hb)⟩
 have hk:=x1.1
 refine⟨e,C,_,_,H,rfl,⟨x1,I.os,I.bare,⟨λb o z n hb _=>hk b o (kp b o z n hb),λb o z n hb _=>?_,λb o z n _=>z_.free b o z n (by simp),λb o z _=>?_,z_.tups,z_.frzs,z_.tbls⟩,?_,kp,th,tr,nw⟩,q⟩
 .obtain⟨s1,e1⟩:=z_.slot b o z n hb (by simp)
  have nf:=F7 fr (dH hb) e1
  obtain⟨s2,e2⟩:=x4 b _ (hx.keeps _ _ e1) nf
  exact⟨s2,e2⟩
 .by_cases hb:b∈Y0 outer
  .obtain⟨o',e1⟩:=z_.there b o z (by simp)
   obtain⟨s2,e2⟩:=x4 b _ (hx.keeps _ _ e1) (F7 fr (dH hb) e1)
   exact⟨_,e2⟩
  .obtain⟨o',e1⟩:=th b o z hb
   exact⟨o',hk b o' e1⟩
 .exact pD I.hok tr (λb o z=>KC _ z) hk
theorem yT:cj (ou P w) (iN (ou P w) P w K mg base N qual scope f cd A outer s0 H0 E) E:=by
 intro pins σ H s e s' I h;obtain⟨a,C,a0,B,H',rfl,F,q⟩:=h;have fr:=F.fl.2.2.1;have z_:Un (Y0 outer) [] H0 H s0.heap s.heap:=I.base;refine wpAny_leaves_onW I.ok.frames rfl F.fl λh' x1 x2=>?_;have hk:=x1.1;have kp:∀b o,s0.heap.get? b=some o->H0 b=none->b∉Y0 outer->B.get? b=some o:=λb o z n hb=>
  F.kp b o (z_.keep b o z n hb (by simp)) (z_.free b o z n (by simp)) (gk z hb)
 have th:∀b o,s0.heap.get? b=some o->b∉Y0 outer->∃o',B.get? b=some o':=λb o z hb=>by
  obtain⟨o',z'⟩:=z_.there b o z (by simp);exact F.th b o' z' (gk z hb)
 have ub:Un (Y0 (envOfC qual scope s0.heap.objs.size f cd::outer)) [] H H' s.heap s'.heap:=F.un;refine⟨a,C,a0,B,H',rfl,⟨x1,F.os.trans I.os,F.bare,⟨λb o z n hb _=>hk b o (kp b o z n hb),λb o z n hb _=>?_,λb o z n _=>?_,λb o z _=>?_,λb xs z=>ub.tups b xs (z_.tups b xs z),λb o u z=>ub.frzs b o u (z_.frzs b o u z),λb ps z=>?_⟩,pD F.hok F.tr F.fl.1 hk,kp,th,F.tr,F.nw⟩,q⟩
 .obtain⟨s1,e1⟩:=z_.slot b o z n hb (by simp);obtain⟨s2,e2⟩:=ub.slot b _ e1 (z_.free b o z n (by simp)) (dH hb) (by simp);obtain⟨s3,e3⟩:=x2 b _ e2 (F7 fr (dH hb) e2);exact⟨s3,e3⟩
 .obtain⟨o',e1⟩:=z_.there b o z (by simp);exact ub.free b o' e1 (z_.free b o z n (by simp)) (by simp)
 .by_cases hb:b∈Y0 outer
  .obtain⟨o',e1⟩:=z_.there b o z (by simp);obtain⟨o2,e2⟩:=ub.there b o' e1 (by simp);obtain⟨s3,e3⟩:=x2 b _ e2 (F7 fr (dH hb) e2);exact⟨_,e3⟩
  .obtain⟨o',e1⟩:=th b o z hb;exact⟨o',hk b o' e1⟩
 .obtain⟨m1,e1⟩:=z_.tbls b ps z;obtain⟨m2,e2⟩:=ub.tbls b _ e1;exact⟨m1++m2,by rw[e2,Mu]⟩
end
def BO:List Value:=[.type "ValueError",.type "Exception",.type "BaseException",.type "object"]
structure ExC (K:Qc) (mg:Str->Option Value) (x:Str) (C:Addr):Prop where
 bound:mg x=some (.ref C)
 exc:PySem.W.excIn K C BO "ValueError.__new__"=true
theorem ExC.own {K:Qc}{mg:Str->Option Value}{x:Str}{C:Addr}{h:Heap}(O:ExC K mg x C)(X:K.In h):OwnCls x C BO "ValueError.__new__" mg h:=by
 have q:=O.exc;refine⟨O.bound,?_⟩;unfold PySem.W.excIn at q;split at q
 .rename_i g1 g2 g3 lk
  split at q
  .rename_i c2 l2 i0 i1 i2 i3 nn i5 em es
   simp only[GP,Pa,Hm] at q;obtain⟨⟨⟨⟨⟨ea,eb⟩,q1⟩,q2⟩,q3⟩,q4⟩:=q;subst ea;subst eb;obtain⟨y1,y2,y3,y4,y5,y6,y7,y8,y9,XX,y11⟩:=g2;dsimp only at em q1 q3 q4;subst em q1;have e3:g3= #[i0,i1,i2,i3,some (.builtin "ValueError.__new__"),i5]:=by
    cases g3 with
    |mk l=>
     have NZ:l=[i0,i1,i2,i3,some (.builtin "ValueError.__new__"),i5]:=es
     rw[NZ]
   subst e3;exact⟨l2,y4,y1,y5,y2,y6,y7,y8,y9,XX,g1,i0,i1,i2,i3,i5,h.nsMap y4,X _ _ lk,Heap.Ns.of_isNs (PySem.W.isNs_of_in X q3),PySem.W.nsMap_none_of_in X q3 q4,PySem.W.tail_of_in X q2⟩
  .cases q
 .cases q
def oU (X:Cx)(E:XK):Prop:=∀(pins:List (Addr×Obj)) (σ:St) (H:Hp) (s:Shared) (h1:Heap) (e C:Addr) (vs:List Value),Inv X pins σ H s->Heap.MadeExcOf s.heap h1 e (.ref C) vs->E (.ref C) (some e) H->X.xe (.ref e) {s with heap:=h1}
theorem gi {P:Program}{w:World}{K:Qc}{mg:Str->Option Value}{base:Heap}{N:List Str}{qual:Str}{scope:Scope}{f:Addr}{cd:Value}{A:Around}{outer:List Env}{s0:Shared}{H0:Hp}{E:XK}:
  oU (iN (ou P w) P w K mg base N qual scope f cd A outer s0 H0 E) E:=λ_ _ _ _ _ _ _ _ I hx q=>kI I hx q
def pk (C:Addr)(E:XK)(ta:TA):TS:=λ_ σ H=>ta σ H λvs H1=>vs.length<=sizeLine/\∀e,H1 e=none->E (.ref C) (some e) H1
section
variable {X:Cx} {E:XK} {x:Str} {C:Addr} {np b_ pos:Pos} {e:Expr} {es:List Expr} {ta:TA}
theorem uL (R:oU X E)(O:ExC X.K X.mg x C)(hc:X.calm=true)(ha:PA X (e::es) ta)(hg:Gl X x:=by rfl)(q_:(x==("__debug__":Str))=false:=by decide)(h:A2 (e::es)=true:=by rfl):
  PS X (.Raise (some (.Call (.Name x np) (e::es) [] b_)) none pos) (pk C E ta):=by
 intro pins s σ H D I hw
 have h':(u6 e&&A2 es)=true:=h
 rw[GP] at h'
 have h1:starEach (e::es) X.env=(false,eval e X.env)::starEach es X.env:=G8 h'.1
 have h2:(backTo b_ (starEach es X.env)).any (·.1)=false:=aS h'.2
 obtain⟨tl,y0,y1,y2,y3,y4,y5,y6,y7,y8,y9,u0,u1,u2,u3,u5,mN,hC,hN,PF,T⟩:=(O.own I.ok.mod.kin).obj
 refine wpAny_Raise_call_subT (k5:=u5) (k3:=u3) (k2:=u2) (k1:=u1) (k0:=u0) (dd:=y9) (col:=y8) (ab:=y7) (sub:=y6) (sn:=y5) (hdct:=y4) (bs:=y3) (q:=y2) (nm:=y1) (N:=y0) (C:=C) (bm:=tl) (mN:=mN) PySem.F.excBase_ValueError (T.hasType (by decide)) (I.ok.hd hc) ?_ PF (cS I hg O.bound ⟨rfl,?_⟩ q_)
 .rw[h1]
  show(false||(backTo b_ (starEach es X.env)).any (·.1))=false
  rw[h2];rfl
 .have QU:=ha b_ pins s σ H _ I hw
  rw[h1] at QU⊢
  refine JB (E9 QU λus s1 ⟨vs,H1,I1,r,q1,q2⟩=>?_)
  refine⟨rfl,by rw[←r.length];exact q1,I1.bk _ _ hC,hN.keeps I1.bk,T.keeps I1.bk,λh2 e2 hm=>?_⟩
  have nw:H1 e2=none:=by
   cases z:H1 e2 with
   |none=>rfl
   |some o=>
    obtain⟨u,hu⟩:=(I1.hok e2 o z).there
    rw[hm.new] at hu;cases hu
  exact R pins σ H1 s1 h2 e2 C us I1 hm (q2 e2 nw)
theorem kK (R:oU X E)(O:ExC X.K X.mg x C)(hc:X.calm=true)(ha:QA X (e::es) ta)(hg:Gl X x:=by rfl)(q_:(x==("__debug__":Str))=false:=by decide)(h:A2 (e::es)=true:=by rfl):
  QS X (.Raise (some (.Call (.Name x np) (e::es) [] b_)) none pos) (pk C E ta):=⟨uL R O hc ha.r hg q_ h⟩
def Fy (te:TE)(c:Str):TE:=λσ H Q=>te σ H λv H1=>∃y:Str,v= .str y/\y.length+c.length<=1000/\∀z:Str,Q (.str z) H1
theorem Gb {te:TE}{c:Str}{p1 p2:Pos}{j}(he:QE X e te):QE X (.JoinedStr [.FormattedValue e (-1) none p1,.Constant (.str c) j p2] pos) (Fy te c):=⟨by
 intro pins s σ H Q I h;refine JoinedStr_many (joinParts_cons (FormattedValue_plain (E9 (he.r pins s σ H _ I h) λu s1 ⟨v,H1,I1,r,y,ev,hl,q⟩=>?_)));subst ev;obtain⟨t,rfl⟩:=(show ∃t,u=Value.str y t from r)
 refine formatField_str (λt' tk=>?_) (h9 (by lia));refine⟨h9 (by rw[MC];show 0+_<=1000;lia),joinParts_cons ?_⟩;have hc:=(fV (X:=X) (x:=c) (j:=j) (pos:=p2)).r pins {s1 with toks:=tk} σ H1 (λv H2=>v= .str c/\H2=H1) (I1.tok tk) ⟨rfl,rfl⟩;refine E9 hc λu2 s2 ⟨v2,H2,I2,r2,e2,e3⟩=>?_;subst e2 e3;obtain⟨t2,rfl⟩:=(show ∃t,u2=Value.str c t from r2)
 have hz:(Str.empty++y++c).length<=sizeLine:=h9 (by rw[MC,MC];show 0+_+_<=1000;lia);refine⟨hz,joinParts_nil ⟨.str (Str.empty++y++c),H2,I2.tok _,⟨_,rfl⟩,q _⟩ hz⟩⟩
end
theorem Fun.okE {P:Program}{w:World}{K:Qc}{mg:Str->Option Value}{base:Heap}{x qual:Str}{st:Stmt}{f:Addr}{fd:FuncData}{N ps:List Str}{k:Nat}{sp:Sp}(F:Fun K x qual st f fd)(S:j5 N ps (i7 st))(len:∀vs H Q E,sp vs H Q E->vs.length=ps.length)
  (Lx:∀(d_:Value) (A:Around) (outer:List Env) (s:Shared) (H:Hp) (vs:List V) (Q:VK) (E:XK),Room k (A.deeper (envOfC qual (i7 st) s.heap.objs.size f d_))->sp vs H Q E->
   ∃t,PSs (iN (ou P w) P w K mg base N qual (i7 st) f d_ A outer s H E) (O6 st) t/\t {nx:=λ_ H'=>Q .non H',rt:=Q} (dW N vs) H):A3 P w K mg base (ou P w) (k+1) f fd ps sp:=by
 obtain⟨oc,od,kV,doc,pm,an,d_,ct,Mq,rfl,lk,Mn⟩:=F.ex
 exact zh lk Mn S len λA outer s H vs Q E hr NQ=>Lx d_ A outer s H vs Q E hr NQ
abbrev Cx.pinned (X:Cx)(pins:List (Addr×Obj)):Cx:={X with pn:=X.pn++pins}
def Gf (X:Cx)(pins:List (Addr×Obj))(Es:St->XK):Value->Shared->Prop:=λe s'=>∃(i':List (Addr×Obj)) (σ:St) (H:Hp) (s:Shared),Inv (X.pinned pins) i' σ H s/\ou X.prog X.w X.stack H s (Es σ) e s'
abbrev Cx.tried (X:Cx)(pins:List (Addr×Obj))(Es:St->XK):Cx:={X with pn:=X.pn++pins,xe:=Gf X pins Es}
abbrev Cx.suite (X:Cx)(e:Addr):Cx:={X with A:=X.A.mark (some (.ref e)),calm:=false,xe:=λ_ _=>False}
section
variable {X:Cx} {pins i':List (Addr×Obj)} {Es:St->XK} {σ:St} {H:Hp} {s:Shared} {e:Addr}
theorem Inv.toTried (I:Inv X pins σ H s):Inv (X.tried pins Es) [] σ H s:=
 ⟨⟨I.ok.mod,I.ok.kind,I.ok.glob,I.ok.blt,I.ok.above,I.ok.inj,I.ok.has,I.ok.cab,I.ok.hd,I.ok.frames,I.ok.stk,I.ok.exf,I.ok.bs,I.ok.bsz,I.ok.noex,I.ok.exfs,I.ok.funs,I.ok.frf⟩,
  I.os,I.bare,I.base,I.loc,I.cell,I.free,I.freeC,λp hp=>I.pin p (by simpa using hp),I.hok,I.len⟩
theorem Inv.ofTried (I:Inv (X.tried pins Es) i' σ H s):Inv X pins σ H s:=
 ⟨⟨I.ok.mod,I.ok.kind,I.ok.glob,I.ok.blt,I.ok.above,I.ok.inj,I.ok.has,I.ok.cab,I.ok.hd,I.ok.frames,I.ok.stk,I.ok.exf,I.ok.bs,I.ok.bsz,I.ok.noex,I.ok.exfs,I.ok.funs,I.ok.frf⟩,
  I.os,I.bare,I.base,I.loc,I.cell,I.free,I.freeC,λp hp=>I.pin p (GA _ hp),I.hok,I.len⟩
theorem Inv.ofPinned (I:Inv (X.pinned pins) i' σ H s):Inv X pins σ H s:=
 ⟨⟨I.ok.mod,I.ok.kind,I.ok.glob,I.ok.blt,I.ok.above,I.ok.inj,I.ok.has,I.ok.cab,I.ok.hd,I.ok.frames,I.ok.stk,I.ok.exf,I.ok.bs,I.ok.bsz,I.ok.noex,I.ok.exfs,I.ok.funs,I.ok.frf⟩,
  I.os,I.bare,I.base,I.loc,I.cell,I.free,I.freeC,λp hp=>I.pin p (GA _ hp),I.hok,I.len⟩
theorem Inv.triedPinned (I:Inv (X.tried pins Es) i' σ H s):Inv (X.pinned pins) i' σ H s:=
 ⟨⟨I.ok.mod,I.ok.kind,I.ok.glob,I.ok.blt,I.ok.above,I.ok.inj,I.ok.has,I.ok.cab,I.ok.hd,I.ok.frames,I.ok.stk,I.ok.exf,I.ok.bs,I.ok.bsz,I.ok.noex,I.ok.exfs,I.ok.funs,I.ok.frf⟩,
  I.os,I.bare,I.base,I.loc,I.cell,I.free,I.freeC,I.pin,I.hok,I.len⟩
theorem nH (A:Around)(h:Option Value):(A.mark h).frames=A.frames:=rfl
theorem Inv.toSuite (I:Inv X pins σ H s):Inv (X.suite e) pins σ H s:=
 ⟨⟨I.ok.mod,I.ok.kind,I.ok.glob,I.ok.blt,I.ok.above,I.ok.inj,I.ok.has,I.ok.cab,(λz=>nomatch z),(nH _ _).trans I.ok.frames,I.ok.stk,I.ok.exf,I.ok.bs,I.ok.bsz,I.ok.noex,I.ok.exfs,I.ok.funs,I.ok.frf⟩,
  I.os,I.bare,I.base,I.loc,I.cell,I.free,I.freeC,I.pin,I.hok,I.len⟩
theorem Inv.ofSuite (ok:X.Ok)(I:Inv (X.suite e) pins σ H s):Inv X pins σ H s:=
 ⟨ok,I.os,I.bare,I.base,I.loc,I.cell,I.free,I.freeC,I.pin,I.hok,I.len⟩
def aV (a C:Addr)(h:Heap):Prop:=∃o vs,h.get? a=some o/\o.cls= .ref C/\o.data= .fields vs
theorem ur {P:Program}{w:World}{H:Hp}{h:Heap}{a C:Addr}(x:aV a C h):ObjOk P w H h a (.ext (aV a C)):=by
 obtain⟨o,vs,e,c,d⟩:=x;refine⟨⟨o,vs,e,c,d⟩,⟨o,e⟩,λh1 h2 ⟨o',vs',e',c',d'⟩ k=>⟨o',vs',k _ e',c',d'⟩⟩
theorem Inv.track {a C:Addr}(I:Inv X pins σ H s)(hn:H a=none)(x:aV a C s.heap)(h0:X.s₀.heap.get? a=none)(hp:∀p∈X.pn++pins,p.1≠a):Inv X pins σ (p0 H a (.ext (aV a C))) s:=by
 obtain⟨o,vs,e,c,d⟩:=id x;have XY:∀b ob,X.s₀.heap.get? b=some ob->b≠a:=λb ob z q=>by rw[q,h0] at z;cases z
 refine⟨I.ok,I.os,I.bare,⟨I.base.keep,I.base.slot,λb ob z n hx=>?_,I.base.there,λb xs z=>?_,λb ob u z=>?_,λb ps z=>?_⟩,I.loc,I.cell,?_,λy c' z=>?_,λp hq=>?_,λb u z=>?_,I.len⟩
 .rw[b9 (XY b ob z)];exact I.base.free b ob z n hx
 .have z':=I.base.tups b xs z;rw[b9 λq=>by rw[q,hn] at z';cases z'];exact z'
 .have z':=I.base.frzs b ob u z;rw[b9 λq=>by rw[q,hn] at z';cases z'];exact z'
 .obtain⟨more,z'⟩:=I.base.tbls b ps z;exact⟨more,by rw[b9 λq=>by rw[q,hn] at z';cases z'];exact z'⟩
 .obtain⟨m,⟨oL,es,ep,hL,dL,_⟩,_⟩:=I.loc;rw[b9 λq=>?_]
  .exact I.free
  .rw[q,e] at hL;cases hL;rw[d] at dL;cases dL
 .obtain⟨v,oc,ON,hod⟩:=I.cell y c' z;rw[b9 λq=>?_]
  .exact I.freeC y c' z
  .rw[q,e] at ON;cases ON;rw[d] at hod;cases hod
 .obtain⟨p1,p2,p3,p4,p5⟩:=I.pin p hq;exact⟨p1,by rw[b9 (hp p hq)];exact p2,p3,p4,p5⟩
 .by_cases q:b=a
  .subst q;rw[b7] at z;cases z;exact ur x
  .rw[b9 q] at z;refine(I.hok b u z).stay (λ_ _ _ q=>q) (λb' q'=>?_) λb' xs q'=>?_
   .rw[b9 λk=>by rw[k,hn] at q';cases q'];exact q'
   .rw[b9 λk=>by rw[k,hn] at q';cases q'];exact q'
end
def vV (sp:Sp)(l_:List V)(Es:St->XK)(t:TA):TE:=λσ H Q=>t σ H λvs H1=>sp (vs++l_) H1 Q (Es σ)
section
variable {X:Cx} {pins:List (Addr×Obj)} {Es:St->XK} {k:Nat} {ps:List Str} {l_:List V} {sp:Sp} {x:Str} {p pos:Pos} {e:Expr} {es:List Expr} {t:TA}
theorem FU (C:O4 X.prog X.w X.K X.mg X.base (ou X.prog X.w) k x ps l_ sp)(hr:Room k X.A)(ha:QA (X.tried pins Es) (e::es) t)(hg:Gl X x:=by rfl)
  (q_:(x==("__debug__":Str))=false:=by decide) (h:A2 (e::es)=true:=by rfl):QE (X.tried pins Es) (.Call (.Name x p) (e::es) [] pos) (vV sp l_ Es t):=⟨by
 have h':(u6 e&&A2 es)=true:=h
 rw[GP] at h'
 obtain⟨f,fd,ds,F,hm,hk,hb,hd⟩:=C
 intro i' s σ H Q I hw
 refine IL (cS I hg hm ?_ q_)
 refine Mw (h₀:=X.base) I.ok.mod.kin hk (E9 (ha.r pos i' s σ H _ I hw) λus s1 ⟨vs,H1,I1,r,q⟩=>⟨I1.kIn,?_⟩) (G8 h'.1) (aS h'.2)
 have r2:Vals (vs++l_) (us++ds):=r.append hd
 have hl:(us++ds).length=ps.length:=by rw[←r2.length];exact F.len _ _ _ _ q
 refine wpAny_call (Kk (F.run X.A X.stack s1 H1 ⟨us,[]⟩ (us++ds) (vs++l_) Q (Es σ) hr I1.env0 (hb s1 us I1.kIn hl) r2 q) λr s' hq=>?_)
 cases r with
 |error e=>exact⟨i',σ,H1,s1,I1.triedPinned,hq⟩
 |ok fl=>
  cases fl with
  |ret u=>exact I1.after hq
  |next=>exact False.elim hq
  |brk=>exact False.elim hq
  |cont=>exact False.elim hq⟩
end
theorem mU {M:Model}{A:Around}{E:Value->Shared->Prop}{K:Qc}{s:Shared}{a C T:Addr}{b:Bool}{Q:Bool->Shared->Prop}(X:K.In s.heap)(x:aV a C s.heap)(hm:PySem.W.typeIn K (.ref T)=some (.type "type"))
  (he:PySem.W.subIn K (.ref T) (.type "BaseException")=some true) (hc:(PySem.W.clsIn K T).isSome=true) (hs:PySem.W.subIn K (.ref C) (.ref T)=some b) (q:Q b s):wpAny M A (excMatches (.ref a) (.ref T)) Q E s:=by
 obtain⟨oe,vs,ex,ec,ed⟩:=x
 have L1:PySem.W.Looks M s.heap (isInstance (.ref T) (.type "tuple")) false:=(PySem.W.looks_typeIn X hm).andThen (PySem.W.Looks.of_pure tc_notTuple)
 have L2:PySem.W.Looks M s.heap (isType (.ref T)) true:=by
  unfold PySem.W.clsIn at hc;split at hc
  .rename_i lk
   intro A' Q' E' s' k q';unfold isType loadHead;exact Gz (wpAny_loadPart (k _ _ (X _ _ lk)) (GN q'))
  .cases hc
 have L3:=Mr (M:=M) X he
 have L4:PySem.W.Looks M s.heap (typeOf (.ref a)) (.ref C):=by
  have z:PySem.W.Looks M s.heap (typeOf (.ref a)) oe.cls:=(PySem.W.Looks.ld ex).andThen .now;rw[ec] at z;exact z
 have L5:=Mr (M:=M) X hs
 unfold excMatches
 refine Gz (L1.here ?_)
 simp only[JV,LQ]
 have LX:PySem.W.Looks M s.heap (isExcClass (.ref T)) true:=by
  unfold isExcClass;exact L2.andThen (by simpa using L3)
 refine Gz (GN ?_)
 refine Gz ?_
 rw[JU]
 refine Gz (Gz (LX.here ?_))
 simp only[Bool.not_true,JV,LQ]
 refine GN ?_
 simp only[KP]
 refine GN ?_
 refine Gz (L4.here ?_)
 refine Gz ?_
 rw[JU]
 refine Gz (Gz (L5.here ?_))
 cases b with
 |true=>
  simp only[ML]
  exact GN (GN (GN q))
 |false=>
  simp only[JV,LQ]
  refine GN ?_
  simp only[KP]
  exact GN (GN q)
structure EJ (K:Qc) (mg:Str->Option Value) (x:Str) (T:Addr):Prop where
 bound:mg x=some (.ref T)
 ty:PySem.W.typeIn K (.ref T)=some (.type "type")
 exc:PySem.W.subIn K (.ref T) (.type "BaseException")=some true
 cls:(PySem.W.clsIn K T).isSome=true
section
variable {X:Cx} {x n:Str} {T:Addr} {np NC pos:Pos} {i:Nat} {b₀:Stmt} {body suite:List Stmt} {tb:(St->XK)->TS} {ts:TS}
end
end L2
namespace L2
open PySem PySem.Spec PyProof.Rows PySem.W
section
variable {X:Cx}
end
def cA (K:Frag)(x:Str):Addr:=match nsIn K mainGlobals x with
 |some (some (.ref C))=>C
 |_=>0
section
variable {K:Frag} {σ:St} {H:Hp} {Q:VK} {D:nz}
theorem yC {C:Addr}{E:XK}{ta:TA}(q:ta σ H λvs H1=>vs.length<=sizeLine/\∀e,H1 e=none->E (.ref C) (some e) H1):pk C E ta D σ H:=q
theorem Fe {te:TE}{c:Str}(q:te σ H λv H1=>∃y:Str,v= .str y/\y.length+c.length<=1000/\∀z:Str,Q (.str z) H1):Fy te c σ H Q:=q
theorem xY {sp:Sp}{l_:List V}{Es:St->XK}{t:TA}(q:t σ H λvs H1=>sp (vs++l_) H1 Q (Es σ)):vV sp l_ Es t σ H Q:=q
end
section
variable {X:Cx}
def Cu (K:Frag):R2:=λ_ _ _ _=>False
theorem Ab (hu:X.A.units+64<cLine):OpR X (compareOp .NotEq) (Cu X.K):=by
 intro pins s σ H x y v u Q I rx ry h;exact h.elim
def Ah (K:Frag):R2:=λx y H Q=>Bp K x y H Q\/Cu K x y H Q
theorem EI (K:Frag){k:Nat}(hr:Room k X.A)(h:X.K=K:=by rfl):OpR X (compareOp .NotEq) (Ah K):=(FJ K hr h).or (h▸Ab hr.units)
end
section
variable {K:Frag} {H:Hp} {Q:VK}
theorem uB {i j:Int}(q:Q (.bl (!decide (i=j))) H):Ah K (.int i) (.int j) H Q:= .inl (mB q)
end
def K0 (ka kb:List (j0×V)):List (j0×V):=kb.foldl (λa x=>B9 a x.1 x.2) ka
theorem jZ:∀{kb ka:List (j0×V)},(K0 ka kb).length<=ka.length+kb.length
 |[],ka=>Gv _
 |p::r,ka=>by
  show(K0 (B9 ka p.1 p.2) r).length<=_;have z:=jZ (kb:=r) (ka:=B9 ka p.1 p.2);have z2:=F5 ka p.1 p.2;rw[HF];lia
section
variable {X:Cx}
def yx:V->List V->Hp->VK->Prop:=λx vs H Q=>∃a b ka kb,x= .ref a/\vs=[.ref b]/\H a=some (.dK ka)/\Rd H b (.dK kb)/\a≠b/\ka.length+kb.length<=1000/\Q .non (p0 H a (.dK (K0 ka kb)))
theorem P6:uO X "dict.update" yx:=by
 intro pins s σ H x vs v us Q I rx rv h;obtain⟨a,b,ka,kb,rfl,rfl,hA,hB,G',hl,q⟩:=h;cases rx;obtain⟨u,rfl,ru⟩:=G6 rv;cases ru;obtain⟨z,hd,va,ra,da⟩:=uM I.hok hA;obtain⟨z2,hd2,vb,rb,db⟩:=M4 I.hok hB;have lz:ka.length+kb.length<=sizeLine:=h9 hl;refine Ik IZ da.typeIs PySem.F.entry_dict_update (PySem.F.args_dict_update_2 _ _) (meets_dict_update (k7 X.prog X.w) a b G' hd2) ⟨va,vb,da,db,by rw[←ra.length,←rb.length];exact lz,λh' dd' _ hs=>?_⟩;have he:∃q,h'.get? a=some q:=let ⟨q,_,_,hq,_⟩:=dd';⟨q,hq⟩
 have Nm:=jZ (kb:=kb) (ka:=ka);refine⟨.non,_,cQ (t':=s.toks) I (by rw[hA];exact True.intro) hs he (gy (kvs:=K0 ka kb) (He Nm lz) hd (KV.puts rb ra) dd'),rfl,q⟩
end
section
open PySem.Builtin PySem.Builtin.Str
end
def aA (σ:List Str)(x:Str):List Str:=if x∈σ then σ else σ++[x]
def eT (ss:List Str):List Str:=ss.foldl aA []
theorem qD (σ:List Str)(x:Str):(aA σ x).length<=σ.length+1:=by
 unfold aA;split
 .lia
 .rw[GF];simp
theorem wM {σ:List Str}{x y:Str}:y∈aA σ x↔y∈σ\/y=x:=by
 unfold aA;split
 .next h=>exact⟨.inl,λz=>z.elim id λe=>e▸h⟩
 .simp
theorem gZ:∀(ss σ:List Str),(ss.foldl aA σ).length<=σ.length+ss.length
 |[],σ=>Gv _
 |x::r,σ=>by
  have z:=gZ r (aA σ x);have z2:=qD σ x;rw[Jx,HF];lia
theorem jo:∀(ss σ:List Str),σ.Nodup->((ss.foldl aA σ).length=σ.length+ss.length↔(σ++ss).Nodup)
 |[],σ,nd=>by simp [nd]
 |x::r,σ,nd=>by
  rw[Jx,HF];by_cases h:x∈σ
  .have e:aA σ x=σ:=by unfold aA;rw[if_pos h]
   rw[e];have z:=gZ r σ;constructor
   .intro q;lia
   .intro q;exact absurd rfl ((GX.mp q).2.2 x h x (by simp))
  .have e:aA σ x=σ++[x]:=by unfold aA;rw[if_neg h]
   have nd':(σ++[x]).Nodup:=GX.mpr ⟨nd,by simp,λa ha b hb e=>h (by
    have XZ:b=x:=by simpa using hb
    rw[←XZ,←e];exact ha)⟩
   have z:=jo r (σ++[x]) nd';rw[e];rw[GF,Hb] at z;rw[Hl] at z;show _↔(σ++([x]++r)).Nodup;rw[←z];lia
theorem mF (ss:List Str):(eT ss).length=ss.length↔ss.Nodup:=by
 have z:=jo ss [] IS;simpa [eT] using z
section
variable {prog:Program} {w:World} {A:Around} {E:Value->Shared->Prop}
def StrsAre:List Value->List Str->Prop:=Paired λu x=>∃t,u= .str x t
theorem wN {d it l:Addr}{items:List Value}(hh:A.handled=none)(OX:d≠it)(Tr:l≠it)(Ts:l≠d):
  ∀(more:List Str) (i:Nat) (s:Shared) (σ:List Str) (R:Result->Shared->Prop),
   s.heap.IsListIter it l i->s.heap.IsList l items.toArray->StrsAre (items.drop i) more->s.heap.SetOf (strKind prog w) d (λk=>decide (k∈σ)) σ.length->σ.length+more.length<2000->
   (∀h' tk,(∀b o,b≠d->b≠it->s.heap.get? b=some o->h'.get? b=some o)->h'.SetOf (strKind prog w) d (λk=>decide (k∈more.foldl aA σ)) (more.foldl aA σ).length->R (.ok (.ret .none)) {s with heap:=h',toks:=tk})->
   codeAny (model prog w) A (.builtin "set.update.loop" ⟨[.ref d,.ref it],[]⟩) R s:=by
 intro more
 induction more with
 |nil=>
  intro i s σ R hit hl hp hd hz hR
  have hx:items.toArray[i]?=none:=by
   have hn:items.drop i=[]:=by cases r_:items.drop i with
    |nil=>rfl
    |cons x r=>rw[r_] at hp;cases hp
   have:=Kp.mp hn;simp;lia
  refine Ig F.entry_set_update_loop ?_
  rw[HV JX _]
  show wpAny _ A.in1 (pyNext (.ref it)>>=_) _ _ s
  refine Gz (Kj (A:=A.in1) hh hit hl hx λh' eb=>?_)
  show wpAny _ A.in1 (ret Value.none) _ _ _
  refine GN (hR h' s.toks (λb o h1 h2 e=>eb b o h2 e) ?_)
  obtain⟨o,es,ep,t,ho,r⟩:=hd
  exact⟨o,es,ep,t,eb d o OX ho,r⟩
 |cons x more ih=>
  intro i s σ R hit hl hp hd hz hR
  obtain⟨u,hx,⟨t,rfl⟩,MU⟩:∃u,items.toArray[i]?=some u/\(∃t,u=Value.str x t)/\StrsAre (items.drop (i+1)) more:=by
   cases r_:items.drop i with
   |nil=>rw[r_] at hp;cases hp
   |cons u r=>
    rw[r_] at hp
    cases hp with
    |cons h1 h2=>
     refine⟨u,?_,h1,?_⟩
     .have z:=Ia List.head? r_
      simpa using z
     .have z:=Ia List.tail r_
      rw[Mh] at z
      rw[z];exact h2
  simp only[HF] at hz
  refine Ig F.entry_set_update_loop ?_
  rw[HV JX _]
  show wpAny _ A.in1 (pyNext (.ref it)>>=_) _ _ s
  refine Gz (Kc hit hl hx λh' hit' J'=>?_)
  have Qn:h'.SetOf (strKind prog w) d (λk=>decide (k∈σ)) σ.length:=by
   obtain⟨o,es,ep,tb,ho,r⟩:=hd;exact⟨o,es,ep,tb,J'.extBut d o OX ho,r⟩
  refine Gz (HU ?_)
  unfold setAdd
  refine HU (Gz ((strKind prog w).pyHash (k:=x) (strKind_is _ _ _ _) ?_))
  refine wpAny_setAddHashed_of (knd:=strKind prog w) (s:={s with heap:=h',toks:=s.toks+1}) (strKind_is _ _ _ _) rfl Qn (by unfold scanBound;lia) λB_ hs'' Tt=>?_
  have X':B_.SetOf (strKind prog w) d (λk=>decide (k∈aA σ x)) (aA σ x).length:=by
   refine SetOf_congr Tt (λk=>?_) ?_
   .rw[Hq];simp [wM]
   .unfold aA;by_cases h:x∈σ
    .rw[if_pos (by simpa using h),if_pos h]
    .rw[if_neg (by simpa using h),if_neg h,GF];rfl
  have kp:∀b o,b≠d->b≠it->s.heap.get? b=some o->B_.get? b=some o:=λb o hb1 LY e=>(hs''.2 b hb1).trans (J'.extBut b o LY e)
  have hle:=qD σ x
  refine GN ⟨IM JX _,?_⟩
  refine ih (i+1) _ (aA σ x) R ?_ ?_ MU X' (by lia) (λh3 tk k3 d3=>hR h3 tk (λb o e1 e2 e=>k3 b o e1 e2 (kp b o e1 e2 e)) d3)
  .exact hit'.at λo e=>(hs''.2 it (Io OX)).trans e
  .obtain⟨ol,C_,r⟩:=hl
   exact⟨ol,kp l ol Ts Tr C_,r⟩
end
section
variable {prog:Program} {w:World} {A:Around} {E:Value->Shared->Prop}
set_option maxHeartbeats 3200000 in
theorem jc {l:Addr}{items:List Value}{o:Obj}{n:Nat}{ss:List Str}{s:Shared}{Q:Value->Shared->Prop}(hh:A.handled=none)(ho:s.heap.get? l=some o)(hc:o.cls= .type "list")(H_:o.data= .seq items.toArray n)(hz:ss.length<1000)(hp:StrsAre items ss)
  (h:∀h' tk,h'.SetOf (strKind prog w) s.heap.objs.size (λk=>decide (k∈eT ss)) (eT ss).length->(∀b o,s.heap.get? b=some o->h'.get? b=some o)->Q (.ref s.heap.objs.size) {s with heap:=h',toks:=tk}):
  wpAny (model prog w) A (call (.type "set") [.ref l]) Q E s:=by
 obtain⟨c1,c2,c3⟩:=Jy.mro
 have c4:=Jy.made;have c5:=Jy.sub;have c6:=Jy.notType;have c7:=Jy.canCreate;have c8:=F.typeCall_set_1 (.ref l)
 refine wpAny_call (codeAny_of_tree (show wpAny _ _ (callAny (.type "set") _) _ _ _ from GN ⟨Code.quiet_builtin _ (by decide+kernel),Ig F.entry_type_call ?_⟩))
 rw[Around.under_plain (weight_type_call_type "set" [Value.ref l] []) rfl]
 repeat(any_goals first|assumption|wp_step)
 refine Kk (code_set_new_1 (E:=E) (.ref l) (Q₁:=λob st=>∃led:Bool,ob= .ref s.heap.objs.size/\st={s with heap:=s.heap.push {cls:= .type "set",dict:=none,data:= .set #[] 0 (.fresh 0 0 led)}}) λled=>⟨led,rfl,rfl⟩) λr1 Nz hr1=>?_
 match r1,hr1 with
 | .error _,hr1=>exact hr1
 | .ok .next,hr1=>exact hr1.elim
 | .ok .brk,hr1=>exact hr1.elim
 | .ok .cont,hr1=>exact hr1.elim
 | .ok (.ret ob),hr1=>
  obtain⟨led,rfl,rfl⟩:=hr1
  have Sa:(s.heap.push {cls:= .type "set",dict:=none,data:= .set #[] 0 (.fresh 0 0 led)}).get? s.heap.objs.size=some {cls:= .type "set",dict:=none,data:= .set #[] 0 (.fresh 0 0 led)}:=GW _ rfl
  have NB:(s.heap.push {cls:= .type "set",dict:=none,data:= .set #[] 0 (.fresh 0 0 led)}).get? l=some o:=GB _ ho
  have QB:l≠s.heap.objs.size:=GU (GH ho)
  generalize hP:s.heap.push {cls:= .type "set",dict:=none,data:= .set #[] 0 (.fresh 0 0 led)}=MU at Sa NB
  have c9:Shared.TypeIs {s with heap:=MU} (.ref s.heap.objs.size) "set":=⟨_,Sa,rfl⟩
  have c10:=Jy.init.lookup;have c11:=Jy.init.bind (.ref s.heap.objs.size)
  repeat(any_goals first|assumption|wp_step)
  refine Kk (codeAny_call_builtin (R:=wants (λr st=>r= .none/\∃h2 Oc,st={s with heap:=h2,toks:=Oc}/\h2.SetOf (strKind prog w) s.heap.objs.size (λk=>decide (k∈eT ss)) (eT ss).length/\(∀b o,s.heap.get? b=some o->h2.get? b=some o)) E) Jy.init.plain F.entry_set_init (check_set_init_1 c9 ?_)) λr2 J_ hr2=>?_
  .obtain⟨k1,k2,k3,k4⟩:=o
   dsimp only at hc H_
   subst hc H_
   have d1:=F.sub_list_set;have d2:=F.sub_list_frozenset;have d3:(Value.type "list"==Value.type "dict")=false:=by decide
   have Mc:MU.IsList l items.toArray:=⟨_,NB,rfl,n,rfl⟩
   unfold Builtin.«set.__init__» noKeywords Builtin.Frozenset.updateFrom
   generalize X_:pyIter=PI
   wp_walk
   subst X_
   refine JA Mc (Gz (wpAny_runValue ?_))
   have hsz:s.heap.objs.size<MU.objs.size:=GH Sa
   refine wN (l:=l) (items:=items) (A:=A.in1.in1) (by simpa using hh) (GU hsz) (GU (GH NB)) QB ss 0 _ [] _ ⟨_,GW _ rfl,rfl,rfl⟩ (Mc.push _) (by rw[KO];exact hp) ?_ (by simpa using(show ss.length<2000 by lia)) λh3 tk3 PH d3'=>?_
   .have hg:(MU.push {cls:= .type "list_iterator",data:= .fields #[.ref l,.int 0 0]}).get? s.heap.objs.size=some {cls:= .type "set",dict:=none,data:= .set #[] 0 (.fresh 0 0 led)}:=GB _ Sa
    exact SetOf_congr ((setObjOf_fresh (knd:=strKind prog w) led).setOf hg (by unfold scanBound;lia)) (λ_=>by simp) rfl
   .show wpAny _ _ _ _ _ _
    refine GN (show wpAny _ _ (ret Value.none) _ _ _ from GN ⟨rfl,h3,tk3,rfl,d3',λb ob e=>?_⟩)
    have e1:MU.get? b=some ob:=by rw[←hP];exact GB _ e
    exact PH b ob (GU (GH e)) (GU (GH e1)) (GB _ e1)
  .match r2,hr2 with
   | .error _,hr2=>exact hr2
   | .ok .next,hr2=>exact hr2.elim
   | .ok .brk,hr2=>exact hr2.elim
   | .ok .cont,hr2=>exact hr2.elim
   | .ok (.ret r),hr2=>
    obtain⟨rfl,h2,Oc,rfl,Tt,OY⟩:=hr2
    repeat(any_goals first|assumption|wp_step)
    exact h _ _ Tt OY
end
def cv (a:Addr)(n:Nat)(h:Heap):Prop:=∃o es ep t,h.get? a=some o/\o.ExactSet/\o.data= .set es ep t/\t.fits es.size=true/\es.size=n
theorem rJ {P:Program}{w:World}{H:Hp}{h:Heap}{a:Addr}{n:Nat}(x:cv a n h):ObjOk P w H h a (.ext (cv a n)):=by
 obtain⟨o,es,ep,t,e,r⟩:=x;exact⟨⟨o,es,ep,t,e,r⟩,⟨o,e⟩,λh1 h2 ⟨o',NZ,OM,t',e',r'⟩ k=>⟨o',NZ,OM,t',k _ e',r'⟩⟩
theorem jM:∀{ss:List Str} {us:List Value},Vals (ss.map V.str) us->StrsAre us ss
 |[],_,.nil=> .nil
 |x::r,_,.cons h t=> .cons h (jM t)
section
variable {X:Cx}
def yY (K:Qc):List V->Hp->VK->Prop:=λxs H Q=>∃(p:Addr) (ss:List Str),xs=[.ref p]/\SqL K H p (ss.map V.str)/\ss.length<1000/\∀l,H l=none->Q (.ref l) (p0 H l (.ext (cv l (eT ss).length)))
theorem rQ (hc:X.calm=true):CallR X (.type "set") (yY X.K):=by
 intro pins s σ H xs us Q I r h;obtain⟨p,ss,rfl,hq,hz,q⟩:=h;obtain⟨u,rfl,ru⟩:=G6 r;cases ru;obtain⟨a_,rv,⟨o,n,e,c,hd,dt⟩,_⟩:=I.list hq;refine jc (I.ok.hd hc) e c dt hz (jM rv) λh' tk hS k=>?_;refine⟨.ref s.heap.objs.size,_,?_,rfl,q _ (I.hok.fresh (Gv _))⟩;obtain⟨o',es,ep,t,h1,h2,h3,_,_,_,h7,h8⟩:=hS;exact I.laid (a:=s.heap.objs.size) (t':=tk) k (Gv _) (rJ ⟨o',es,ep,t,h1,h2,h3,h7,h8⟩)
def yO (K:Qc):List V->Hp->VK->Prop:=λxs H Q=>rZ K xs H Q\/∃p n,xs=[V.ref p]/\H p=some (.ext (cv p n))/\n<=1000/\Q (.int n) H
theorem call_lenS:CallR X (.builtin "len") (yO X.K):=by
 refine call_lenX.or ?_;intro pins s σ H xs us Q I r h;obtain⟨p,n,rfl,hp,hn,q⟩:=h;obtain⟨u,rfl,ru⟩:=G6 r;cases ru;obtain⟨o,es,ep,t,h1,h2,h3,h4,h5⟩:=(I.hok p _ hp).1;exact call_len_set h1 h2 h3 h4 (by lia) ⟨.int n,H,I.tok _,⟨_,by rw[h5]⟩,q⟩
theorem Dk (K:Qc)(hc:X.calm=true)(h:X.K=K:=by rfl):CallR X (.type "set") (yY K):=h▸rQ hc
end
open PySem.AutoSeq1 (wpAny_loadPart')
open PySem.MeetsSeq PySem.MeetsSeq2 PySem.MeetsSeq3
theorem lX:plainId "list.__eq__.loop"=true:=plain_eq_loop
section
variable {P:Program} {w:World}
theorem mZ (l m:Addr)(xs ys:Array Value)(n1 n2:Nat)(d1 d2:Option Addr)(s1 s2:Array (Option Value))(hz:xs.size=ys.size)(f:Nat->Bool)(md:Int)(PJ:md=2\/md=3):∀(k i:Nat),xs.size -i=k->
  MeetsIn P w (Builtin.«list.__eq__.loop» ⟨[.ref l,.ref m,rawInt i,rawInt md],[]⟩) (λA R s=>
   s.heap.get? l=some {cls:= .type "list",dict:=d1,data:= .seq xs n1,slots:=s1}/\s.heap.get? m=some {cls:= .type "list",dict:=d2,data:= .seq ys n2,slots:=s2}/\
   (∀j (g1:j<xs.size) (g2:j<ys.size),EqP P w A.in1 s xs[j] ys[j] (f j))/\
   R (.ok (.ret (.bool (if md=2 then((List.range xs.size).drop i).all f else !((List.range xs.size).drop i).all f)))) s):=by
 intro k
 induction k with
 |zero=>
  intro i hk
  intro A R s hyp
  obtain⟨hp,gg,dr,tk,os⟩:=s
  obtain⟨e1,e2,he,fin⟩:=hyp
  have x1:xs[((i:Nat):Int).toNat]?=none:=by simp;lia
  have x2:ys[((i:Nat):Int).toNat]?=none:=by simp;lia
  have x3:(List.range xs.size).drop i=[]:=by simp;lia
  rw[x3] at fin
  rcases PJ with rfl|rfl
  .wp_walk using wpAny_loadPart' e1,wpAny_loadPart' e2
   rw[x1,x2]
   wp_walk using wpAny_loadPart' e1,wpAny_loadPart' e2
   show R (.ok (.ret (.bool (xs.size==ys.size)))) _
   rw[hz];simpa using fin
  .wp_walk using wpAny_loadPart' e1,wpAny_loadPart' e2
   rw[x1,x2]
   wp_walk using wpAny_loadPart' e1,wpAny_loadPart' e2
   show R (.ok (.ret (.bool (xs.size !=ys.size)))) _
   rw[hz];simpa using fin
 |succ k ih=>
  intro i hk
  intro A R s hyp
  have ih:=ih (i+1) (by lia)
  obtain⟨hp,gg,dr,tk,os⟩:=s
  obtain⟨e1,e2,he,fin⟩:=hyp
  have l1:i<xs.size:=by lia
  have l2:i<ys.size:=by lia
  have x1:xs[((i:Nat):Int).toNat]?=some xs[i]:=by simp [l1]
  have x2:ys[((i:Nat):Int).toNat]?=some ys[i]:=by simp [l2]
  have x3:(List.range xs.size).drop i=i::(List.range xs.size).drop (i+1):=by simp [HS,l1]
  have x4:((i:Int)+1)=((i+1:Nat):Int):=by push_cast;rfl
  rw[x3,Jh] at fin
  rcases PJ with rfl|rfl
  .wp_walk using wpAny_loadPart' e1,wpAny_loadPart' e2
   rw[x1,x2]
   refine Gz (he i l1 l2 _ _ ?_)
   cases hf:f i with
   |true=>
    rw[hf] at fin
    wp_walk
    rw[x4]
    refine⟨IM lX _,Ig Lg ?_⟩
    rw[HV lX _]
    exact ih A R _ ⟨e1,e2,he,by simpa using fin⟩
   |false=>
    rw[hf] at fin
    wp_walk using wpAny_loadPart' e1,wpAny_loadPart' e2
    rw[x1,x2]
    wp_walk
    simpa using fin
  .wp_walk using wpAny_loadPart' e1,wpAny_loadPart' e2
   rw[x1,x2]
   refine Gz (he i l1 l2 _ _ ?_)
   cases hf:f i with
   |true=>
    rw[hf] at fin
    wp_walk
    rw[x4]
    refine⟨IM lX _,Ig Lg ?_⟩
    rw[HV lX _]
    exact ih A R _ ⟨e1,e2,he,by simpa using fin⟩
   |false=>
    rw[hf] at fin
    wp_walk using wpAny_loadPart' e1,wpAny_loadPart' e2
    rw[x1,x2]
    wp_walk
    simpa using fin
theorem BK (l m:Addr)(xs ys:Array Value)(n1 n2:Nat)(d1 d2:Option Addr)(s1 s2:Array (Option Value))(hz:xs.size=ys.size)(f:Nat->Bool):
  MeetsIn P w (Builtin.«list.__eq__» ⟨[.ref l,.ref m],[]⟩) (λA R s=>
   s.heap.get? l=some {cls:= .type "list",dict:=d1,data:= .seq xs n1,slots:=s1}/\s.heap.get? m=some {cls:= .type "list",dict:=d2,data:= .seq ys n2,slots:=s2}/\
   (∀j (g1:j<xs.size) (g2:j<ys.size),EqP P w A.in1 s xs[j] ys[j] (f j))/\R (.ok (.ret (.bool ((List.range xs.size).all f)))) s):=by
 intro A R s hyp
 obtain⟨hp,gg,dr,tk,os⟩:=s
 obtain⟨e1,e2,he,fin⟩:=hyp
 have q1:=AutoSeq1.sub_list_list;have q2:¬(xs.size !=ys.size)=true:=by simp [hz]
 wp_walk using wpAny_loadPart' e1,wpAny_loadPart' e2
 refine⟨IM lX _,Ig Lg ?_⟩
 rw[HV lX _]
 exact mZ l m xs ys n1 n2 d1 d2 s1 s2 hz f 2 (.inl rfl) _ 0 rfl A R _ ⟨e1,e2,he,by simpa using fin⟩
theorem zY (l m:Addr)(xs ys:Array Value)(n1 n2:Nat)(d1 d2:Option Addr)(s1 s2:Array (Option Value))(hz:xs.size=ys.size)(f:Nat->Bool):
  MeetsIn P w (Builtin.«list.__ne__» ⟨[.ref l,.ref m],[]⟩) (λA R s=>
   s.heap.get? l=some {cls:= .type "list",dict:=d1,data:= .seq xs n1,slots:=s1}/\s.heap.get? m=some {cls:= .type "list",dict:=d2,data:= .seq ys n2,slots:=s2}/\
   (∀j (g1:j<xs.size) (g2:j<ys.size),EqP P w A.in1 s xs[j] ys[j] (f j))/\R (.ok (.ret (.bool (!(List.range xs.size).all f)))) s):=by
 intro A R s hyp
 obtain⟨hp,gg,dr,tk,os⟩:=s
 obtain⟨e1,e2,he,fin⟩:=hyp
 have q1:=AutoSeq1.sub_list_list;have q2:¬(xs.size !=ys.size)=true:=by simp [hz]
 wp_walk using wpAny_loadPart' e1,wpAny_loadPart' e2
 refine⟨IM lX _,Ig Lg ?_⟩
 rw[HV lX _]
 exact mZ l m xs ys n1 n2 d1 d2 s1 s2 hz f 3 (.inr rfl) _ 0 rfl A R _ ⟨e1,e2,he,by simpa using fin⟩
theorem RcP.lst {A:Around}{s:Shared}{l m:Addr}{xs ys:Array Value}{f:Nat->Bool}(hl:s.heap.IsList l xs)(hm:s.heap.IsList m ys)(hz:xs.size=ys.size)(hu:A.units<cLine)
  (he:∀j (g1:j<xs.size) (g2:j<ys.size),EqP P w A.in1 s xs[j] ys[j] (f j)):RcP P w A s (.ref l) (.ref m) ((List.range xs.size).all f):=λE Q q=>by
 obtain⟨⟨c1,d1,a1,s1⟩,o1,k1,n1,t1⟩:=id hl
 obtain⟨⟨c2,d2,a2,s2⟩,o2,k2,n2,t2⟩:=id hm
 simp only at k1 t1 k2 t2
 subst k1 t1 k2 t2
 refine IG (op:= .Eq) ⟨_,o1,rfl⟩ ⟨_,o2,rfl⟩ Ma (Ik Ma ⟨_,o1,rfl⟩ PySem.F.entry_list_eq (PySem.F.args_list_eq_2 _ _) (BK l m xs ys n1 n2 d1 d2 s1 s2 hz f) ⟨o1,o2,he,?_⟩) hu
 exact⟨(λz=>nomatch z),q⟩
theorem NcP.lst {A:Around}{s:Shared}{l m:Addr}{xs ys:Array Value}{f:Nat->Bool}(hl:s.heap.IsList l xs)(hm:s.heap.IsList m ys)(hz:xs.size=ys.size)(hu:A.units<cLine)
  (he:∀j (g1:j<xs.size) (g2:j<ys.size),EqP P w A.in1 s xs[j] ys[j] (f j)):NcP P w A s (.ref l) (.ref m) (!(List.range xs.size).all f):=λE Q q=>by
 obtain⟨⟨c1,d1,a1,s1⟩,o1,k1,n1,t1⟩:=id hl
 obtain⟨⟨c2,d2,a2,s2⟩,o2,k2,n2,t2⟩:=id hm
 simp only at k1 t1 k2 t2
 subst k1 t1 k2 t2
 refine IG (op:= .NotEq) ⟨_,o1,rfl⟩ ⟨_,o2,rfl⟩ Mb (Ik Mb ⟨_,o1,rfl⟩ PySem.F.entry_list_ne (PySem.F.args_list_ne_2 _ _) (zY l m xs ys n1 n2 d1 d2 s1 s2 hz f) ⟨o1,o2,he,?_⟩) hu
 exact⟨(λz=>nomatch z),q⟩
end
def EqN (K:Qc)(H:Hp):Nat->V->V->Bool->Prop
 |0,x,y,b=>Eq1 K H x y b\/∃a c,x= .ref a/\y= .ref c/\EqD K H a c b
 |n+1,x,y,b=>EqN K H n x y b\/∃(a c:Addr) (xs ys:List V) (bs:List Bool),x= .ref a/\y= .ref c/\a≠c/\((SqT K H a xs/\SqT K H c ys)\/(SqL K H a xs/\SqL K H c ys))/\xs.length=ys.length/\bs.length=xs.length/\
   (∀(j:Nat) (x' y':V) (b':Bool),xs[j]?=some x'->ys[j]?=some y'->bs[j]?=some b'->EqN K H n x' y' b')/\b=bs.all id
theorem E7:∀(bs:List Bool),(List.range bs.length).all (λj=>bs.getD j true)=bs.all id
 |[]=>rfl
 |b::r=>by
  rw[HF,Kd,Jh,IC];show(b&&(List.range r.length).all λj=>r.getD j true)=(b&&r.all id);rw[E7 r]
section
variable {X:Cx} {pins:List (Addr×Obj)} {σ:St} {H:Hp} {s:Shared}
theorem fh {n:Nat}{xs ys:List V}{bs:List Bool}{us vs:List Value}{A:Around}(r1:Vals xs us)(r2:Vals ys vs)(hl:xs.length=ys.length)(hb:bs.length=xs.length)
  (he:∀(j:Nat) (x' y':V) (b':Bool),xs[j]?=some x'->ys[j]?=some y'->bs[j]?=some b'->EqN X.K H n x' y' b')
  (at_:∀{x y:V} {u v:Value} {b:Bool},EqN X.K H n x y b->RelV x u->RelV y v->EqP X.prog X.w A.in1 s u v b):
  ∀j (g1:j<us.toArray.size) (g2:j<vs.toArray.size),EqP X.prog X.w A.in1 s us.toArray[j] vs.toArray[j] (bs.getD j true):=λj g1 g2=>by
 have l1:=r1.length
 have l2:=r2.length
 have LO:j<us.length:=by simpa using g1
 have LW:j<vs.length:=by simpa using g2
 have x1:xs[j]?=some (xs[j]'(by lia)):=Gu _
 have y1:ys[j]?=some (ys[j]'(by lia)):=Gu _
 have b1:bs[j]?=some (bs[j]'(by lia)):=Gu _
 obtain⟨u1,MR,MA⟩:=r1.get x1
 obtain⟨u2,MS,MB⟩:=r2.get y1
 have e1:us.toArray[j]=u1:=by
  have:=Gu LO;rw[MR] at this;simpa using(GL this).symm
 have e2:vs.toArray[j]=u2:=by
  have:=Gu LW;rw[MS] at this;simpa using(GL this).symm
 rw[e1,e2,Hj,b1]
 exact at_ (he j _ _ _ x1 y1 b1) MA MB
theorem EqN.at_ (I:Inv X pins σ H s):∀{n:Nat} {A:Around} {x y:V} {u v:Value} {b:Bool},EqN X.K H n x y b->RelV x u->RelV y v->A.units+32+n<cLine->EqP X.prog X.w A s u v b:=by
 intro n;induction n with
 |zero=>
  intro A x y u v b h rx ry hu
  rcases h with h|⟨a,c,rfl,rfl,h⟩
  .exact .of (h.at_ I rx ry (by lia))
  .cases rx
   cases ry
   exact h.at_ I (by lia)
 |succ n ih=>
  intro A x y u v b h rx ry hu
  rcases h with h|⟨a,c,xs,ys,bs,rfl,rfl,G',hh,hl,hb,he,rfl⟩
  .exact ih h rx ry (by lia)
  .cases rx
   cases ry
   have k_:A.in1.units=A.units+1:=rfl
   rcases hh with⟨h1,h2⟩|⟨h1,h2⟩
   .obtain⟨us,r1,p1,z1⟩:=I.tuple h1
    obtain⟨vs,r2,p2,z2⟩:=I.tuple h2
    have l1:=r1.length
    have l2:=r2.length
    have q:=RcP.tup (P:=X.prog) (w:=X.w) (A:=A) (f:=λj=>bs.getD j true) (show s.heap.IsTuple a us.toArray from p1) (show s.heap.IsTuple c vs.toArray from p2) (by lia) (fh r1 r2 hl hb he λz q1 q2=>ih z q1 q2 (by lia))
    have e3:min us.toArray.size vs.toArray.size=bs.length:=by simp;lia
    have e4:(us.toArray.size==vs.toArray.size)=true:=by simp;lia
    rw[e3,e4,E7,JW] at q
    exact .refs G' q
   .obtain⟨us,r1,p1,z1⟩:=I.list h1
    obtain⟨vs,r2,p2,z2⟩:=I.list h2
    have l1:=r1.length
    have l2:=r2.length
    have q:=RcP.lst (P:=X.prog) (w:=X.w) (A:=A) (f:=λj=>bs.getD j true) p1.isList p2.isList (by simp;lia) (by lia) (fh r1 r2 hl hb he λz q1 q2=>ih z q1 q2 (by lia))
    have e3:us.toArray.size=bs.length:=by simp;lia
    rw[e3,E7] at q
    exact .refs G' q
end
def FA (K:Qc)(H:Hp)(x y:V)(bs:List Bool):Prop:=∃(a c:Addr) (xs ys:List V),x= .ref a/\y= .ref c/\((SqT K H a xs/\SqT K H c ys)\/(SqL K H a xs/\SqL K H c ys))/\xs.length=ys.length/\bs.length=xs.length/\
 ∀(j:Nat) (x' y':V) (b':Bool),xs[j]?=some x'->ys[j]?=some y'->bs[j]?=some b'->EqN K H 8 x' y' b'
section
variable {X:Cx}
def CB (K:Qc):R2:=λx y H Q=>∃bs,FA K H x y bs/\Q (.bl (bs.all id)) H
def Dj (K:Qc):R2:=λx y H Q=>∃bs,FA K H x y bs/\Q (.bl (!bs.all id)) H
theorem AD (hu:X.A.units+64<cLine):OpR X (compareOp .Eq) (CB X.K):=by
 intro pins s σ H x y v u Q I rx ry h;obtain⟨bs,⟨a,c,xs,ys,rfl,rfl,hh,hl,hb,he⟩,k⟩:=h;cases rx;cases ry;have k_:X.A.in1.units=X.A.units+1:=rfl;rcases hh with⟨h1,h2⟩|⟨h1,h2⟩
 .obtain⟨us,r1,p1,z1⟩:=I.tuple h1;obtain⟨vs,r2,p2,z2⟩:=I.tuple h2;have l1:=r1.length;have l2:=r2.length;have q:=RcP.tup (P:=X.prog) (w:=X.w) (A:=X.A) (f:=λj=>bs.getD j true) (show s.heap.IsTuple a us.toArray from p1) (show s.heap.IsTuple c vs.toArray from p2) (by lia) (fh r1 r2 hl hb he λz q1 q2=>EqN.at_ I z q1 q2 (by lia));have e3:min us.toArray.size vs.toArray.size=bs.length:=by simp;lia
  have e4:(us.toArray.size==vs.toArray.size)=true:=by simp;lia
  rw[e3,e4,E7,JW] at q;exact q _ _ ⟨.bl _,H,I,rfl,k⟩
 .obtain⟨us,r1,p1,z1⟩:=I.list h1;obtain⟨vs,r2,p2,z2⟩:=I.list h2;have l1:=r1.length;have l2:=r2.length;have q:=RcP.lst (P:=X.prog) (w:=X.w) (A:=X.A) (f:=λj=>bs.getD j true) p1.isList p2.isList (by simp;lia) (by lia) (fh r1 r2 hl hb he λz q1 q2=>EqN.at_ I z q1 q2 (by lia));have e3:us.toArray.size=bs.length:=by simp;lia
  rw[e3,E7] at q;exact q _ _ ⟨.bl _,H,I,rfl,k⟩
theorem zt (hu:X.A.units+64<cLine):OpR X (compareOp .NotEq) (Dj X.K):=by
 intro pins s σ H x y v u Q I rx ry h;obtain⟨bs,⟨a,c,xs,ys,rfl,rfl,hh,hl,hb,he⟩,k⟩:=h;cases rx;cases ry;have k_:X.A.in1.units=X.A.units+1:=rfl;rcases hh with⟨h1,h2⟩|⟨h1,h2⟩
 .obtain⟨us,r1,p1,z1⟩:=I.tuple h1;obtain⟨vs,r2,p2,z2⟩:=I.tuple h2;have l1:=r1.length;have l2:=r2.length;have q:=NcP.tup (P:=X.prog) (w:=X.w) (A:=X.A) (f:=λj=>bs.getD j true) (show s.heap.IsTuple a us.toArray from p1) (show s.heap.IsTuple c vs.toArray from p2) (by lia) (fh r1 r2 hl hb he λz q1 q2=>EqN.at_ I z q1 q2 (by lia));have e3:min us.toArray.size vs.toArray.size=bs.length:=by simp;lia
  have e4:(us.toArray.size==vs.toArray.size)=true:=by simp;lia
  rw[e3,e4,E7,JW] at q;exact q _ _ ⟨.bl _,H,I,rfl,k⟩
 .obtain⟨us,r1,p1,z1⟩:=I.list h1;obtain⟨vs,r2,p2,z2⟩:=I.list h2;have l1:=r1.length;have l2:=r2.length;have q:=NcP.lst (P:=X.prog) (w:=X.w) (A:=X.A) (f:=λj=>bs.getD j true) p1.isList p2.isList (by simp;lia) (by lia) (fh r1 r2 hl hb he λz q1 q2=>EqN.at_ I z q1 q2 (by lia));have e3:us.toArray.size=bs.length:=by simp;lia
  rw[e3,E7] at q;exact q _ _ ⟨.bl _,H,I,rfl,k⟩
def ql (K:Qc):R2:=λx y H Q=>Ah K x y H Q\/Dj K x y H Q
theorem ir (K:Qc){k:Nat}(hr:Room k X.A)(h:X.K=K:=by rfl):OpR X (compareOp .NotEq) (ql K):=(EI K hr h).or (h▸zt hr.units)
def fz (K:Qc):R2:=λx y H Q=>Bk K x y H Q\/CB K x y H Q
theorem M9 (K:Qc){k:Nat}(hr:Room k X.A)(h:X.K=K:=by rfl):OpR X (compareOp .Eq) (fz K):=(EZ K hr h).or (h▸AD hr.units)
end
def jg (v d:Addr)(h:Heap):Prop:=h.IsValuesView v d
theorem yw {P:Program}{w:World}{H:Hp}{h:Heap}{v d:Addr}(x:jg v d h):ObjOk P w H h v (.ext (jg v d)):=by
 obtain⟨o,e,r⟩:=x;exact⟨⟨o,e,r⟩,⟨o,e⟩,λh1 h2 ⟨o',e',r'⟩ k=>⟨o',k _ e',r'⟩⟩
section
variable {X:Cx}
def xO:V->List V->Hp->VK->Prop:=λx vs H Q=>∃d kvs,x= .ref d/\vs=[]/\Rd H d (.dK kvs)/\∀v,H v=none->Q (.ref v) (p0 H v (.ext (jg v d)))
theorem J2:uO X "dict.values" xO:=by
 intro pins s σ H x vs v us Q I rx rv h;obtain⟨d,kvs,rfl,rfl,hd,q⟩:=h;cases rx;have SW:=rv.zero;subst SW;obtain⟨z,hs,ws,rel,dd⟩:=M4 I.hok hd;refine Ik Iy dd.typeIs PySem.F.entry_dict_values (PySem.F.args_dict_values_1 _) (meets_dict_values (k7 X.prog X.w) d hs) ⟨⟨ws,dd⟩,?_⟩;refine⟨.ref s.heap.objs.size,_,?_,rfl,q _ (I.hok.fresh (Gv _))⟩;exact I.laid (a:=s.heap.objs.size) (t':=s.toks) (λb u e=>GB _ e) (Gv _) (yw ⟨_,GW _ rfl,rfl,rfl⟩)
def kH (K:Qc):List V->Hp->VK->Prop:=λxs H Q=>qI K xs H Q\/∃(v d:Addr) (kvs:List (j0×V)),xs=[.ref v]/\H v=some (.ext (jg v d))/\Rd H d (.dK kvs)/\∀l,H l=none->Q (.ref l) (p0 H l (.lst (kvs.map (·.2))))
theorem pB (hc:X.calm=true):CallR X (.type "list") (kH X.K):=by
 refine(ox hc).or ?_;intro pins s σ H xs us Q I r h;obtain⟨v,d,kvs,rfl,hv,hx,q⟩:=h;obtain⟨u,rfl,ru⟩:=G6 r;cases ru;have Ya:jg v d s.heap:=(I.hok v _ hv).1;obtain⟨hd,o,vs,ep,ho,D⟩:=dU I.hok hx;have G_:=KV.length D.kv;have hz:kvs.length<=sizeLine:=(M4 I.hok hx).1;refine PySem.W.kdl_call (PySem.W.kdl_values (knd:=k7 X.prog X.w) (kvs:=vs) (ep:=ep)) (I.ok.hd hc) ⟨Ya,D.at_ _ ho⟩ (by lia) λh' tk acc c hkp hS v_=>?_;refine⟨.ref s.heap.objs.size,_,I.newL (tk:=tk) hkp (Gv _) hS (U1 (by have:=v_.1;simp;lia) λi x u e1 e2=>?_) (by rw[Gs];exact hz),rfl,q _ (I.hok.fresh (Gv _))⟩;obtain⟨k,hy⟩:=v_.2 i u (by rw[←Ju];exact e2);rw[Gx] at e1;obtain⟨kv,e4,rfl⟩:=Hr.mp e1;obtain⟨q1,Wf,q2,q3⟩:=C8 (show Paired _ kvs vs from D.kv) e4;rw[hy] at Wf;cases Wf;exact q3
theorem eO (K:Qc)(hc:X.calm=true)(h:X.K=K:=by rfl):CallR X (.type "list") (kH K):=h▸pB hc
end
section
variable {K:Qc} {H:Hp} {Q:VK}
theorem uK {xs:List V}(h:qI K xs H Q):kH K xs H Q:= .inl h
theorem T9 {v d:Addr}{kvs:List (j0×V)}(hv:H v=some (.ext (jg v d)))(hd:Rd H d (.dK kvs))(q:∀l,H l=none->Q (.ref l) (p0 H l (.lst (kvs.map (·.2))))):kH K [.ref v] H Q:= .inr ⟨v,d,kvs,rfl,hv,hd,q⟩
end
section
variable {prog:Program} {w:World} {A:Around} {E:Value->Shared->Prop}
end
section
variable {X:Cx}
end
section
variable {prog:Program} {w:World} {A:Around} {E:Value->Shared->Prop} {s:Shared}
theorem sR {Q:Int->Shared->Prop}(h:Q 0xFCA86420 {s with toks:=s.toks+1}):wpAny (model prog w) A (pyHash .none) Q E s:=by
 have hT:s.TypeIs Value.none "NoneType":=rfl;unfold pyHash pyHashByItsType;refine Gz ?_;rw[cRoomFor,if_neg (show ¬([Value.none].any Value.onHeap)=true by decide)];refine GN (Gz (wpAny_specialOf hT IK.lookup ?_));refine(show wpAny _ _ (if(some (Value.builtin "NoneType.__hash__")==some Value.none)=true then _ else _) Q E s from ?_);rw[if_neg (by decide)];refine Gz (wpAny_specialOf hT IK.lookup ?_);refine(show wpAny _ _ (callSpecialIfBoundUnlessNone? Value.none "__hash__" _>>=_) Q E s from ?_);refine Gz (wpAny_callSpecialIfBoundUnlessNone?_slot hT IK (JI IK hT PySem.F.entry_NoneType_hash (show wpAny _ _ (do ret (←mkInt 0xFCA86420)) _ _ s from wpAny_ret_mkInt ?_) (PySem.F.args_NoneType_hash_1 _)));refine(show wpAny _ _ (if(decide (-(2:Int) ^ 63<=0xFCA86420)&&decide ((0xFCA86420:Int)<2 ^ 63))=true then _ else _) Q E _ from ?_);rw[if_pos (by decide)];exact GN h
end
abbrev jh:=Option j0
def FG:jh->Value->Bool
 |none,.none=>true
 |none,_=>false
 |some k,v=>bV k v
theorem N1:∀{k:jh} {v:Value},FG k v=true->(k=none/\v=Value.none)\/(∃i t,k=some (Sum.inl i)/\v=Value.int i t)\/(∃x t,k=some (Sum.inr x)/\v=Value.str x t)
 |none,v,h=>by cases v<;>first|exact .inl ⟨rfl,rfl⟩|cases h
 |some k,v,h=>by
  rcases A9 (show bV k v=true from h) with⟨i,t,rfl,rfl⟩|⟨x,t,rfl,rfl⟩
  .exact .inr (.inl ⟨i,t,rfl,rfl⟩)
  .exact .inr (.inr ⟨x,t,rfl,rfl⟩)
def Cw (w:World):jh->Int
 |none=>0xFCA86420
 |some k=>CW w k
def dC (prog:Program)(w:World):PySem.KeyKind prog w jh where
 is:=FG
 hash:=Cw w
 inj:=λv a b ha hb=>by
  rcases N1 ha with⟨rfl,rfl⟩|⟨i,t,rfl,rfl⟩|⟨x,t,rfl,rfl⟩<;>rcases N1 hb with⟨rfl,e⟩|⟨j,u,rfl,e⟩|⟨y,u,rfl,e⟩<;>first|rfl|(cases e<;>rfl)
 byValue:=λk v h=>by
  rcases N1 h with⟨rfl,rfl⟩|⟨i,t,rfl,rfl⟩|⟨x,t,rfl,rfl⟩<;>rfl
 pyHash:=λhv h=>by
  rcases N1 hv with⟨rfl,rfl⟩|⟨i,t,rfl,rfl⟩|⟨x,t,rfl,rfl⟩
  .exact sR h
  .exact wpAny_pyHash_int h
  .exact wpAny_pyHash_str h
 eqBool:=fun{A E s a b u v Q} hu hv h=>by
  have dk:∀{k k':j0},decide ((some k:jh)=some k')=decide (k=k'):=fun{k k'}=>by
   by_cases e:k=k'
   .subst e;simp
   .rw[Hc e,Hc λz=>e (GL z)]
  rcases N1 hu with⟨rfl,rfl⟩|⟨i,t,rfl,rfl⟩|⟨x,t,rfl,rfl⟩<;>rcases N1 hv with⟨rfl,rfl⟩|⟨j,t',rfl,rfl⟩|⟨y,t',rfl,rfl⟩
  .exact Jt _ _ _ _ _ (by simpa using h)
  .exact SeqAt.EqAt.none_int j t' _ _ _ _ (by simpa using h)
  .exact SeqAt.EqAt.none_str y t' _ _ _ _ (by simpa using h)
  .exact SeqAt.EqAt.int_none i t _ _ _ _ (by simpa using h)
  .rw[dk,tK] at h;exact wpAny_eqBool_int h
  .rw[dk,tQ] at h;exact Kz i t y t' _ _ _ _ h
  .exact SeqAt.EqAt.str_none x t _ _ _ _ (by simpa using h)
  .rw[dk,wx] at h;exact KA x t j t' _ _ _ _ h
  .rw[dk,wj] at h;exact wpAny_eqBool_str h
 «strs»:=λk x t v h=>by
  rcases N1 h with⟨rfl,e⟩|⟨i,u,rfl,e⟩|⟨y,u,rfl,e⟩
  .exact nomatch e
  .exact nomatch e
  .injection e with e1 _
   subst e1;cases v<;>rfl
def ai (P:Program)(w:World)(a:Addr)(n:Nat)(h:Heap):Prop:=(a==sysModules)=false/\∃vs,h.DictOf (dC P w) a vs/\vs.length=n
theorem pK {P P':Program}{w w':World}{H:Hp}{h:Heap}{a:Addr}{n:Nat}(x:ai P w a n h):ObjOk P' w' H h a (.ext (ai P w a n)):=by
 obtain⟨hs,vs,⟨o,es,ep,e,r⟩,hl⟩:=x;exact⟨⟨hs,vs,⟨o,es,ep,e,r⟩,hl⟩,⟨o,e⟩,λh1 h2 ⟨J',vs',⟨o',NZ,OM,e',r'⟩,NP⟩ k=>⟨J',vs',⟨o',NZ,OM,k _ e',r'⟩,NP⟩⟩
theorem gI {P:Program}{w:World}:∀{es:List DictEntry} {vs:List (j0×Value)},Pairs (k7 P w) es vs->Pairs (dC P w) es (vs.map λx=>(some x.1,x.2))
 |_,_,.nil=> .nil
 |_,_,.cons h e t=> .cons h e (gI t)
theorem xb {P:Program}{w:World}{h:Heap}{a:Addr}{vs:List (j0×Value)}(dd:h.DictOf (k7 P w) a vs):h.DictOf (dC P w) a (vs.map λx=>(some x.1,x.2)):=by
 obtain⟨o,es,ep,h1,h2,h3,h4,h5,h6⟩:=dd;refine⟨o,es,ep,h1,h2,h3,λe he=>?_,gI h5,?_⟩
 .obtain⟨k,q1,q2⟩:=h4 e he;exact⟨some k,q1,q2⟩
 .rw[GQ];have e:((λx:jh×Value=>x.1)∘λx:j0×Value=>((some x.1:jh),x.2))=(λk:j0=>(some k:jh))∘λx:j0×Value=>x.1:=rfl;rw[e,←GQ];exact Ja _ (λa b h z=>h (GL z)) h6
theorem ow {vs:List (j0×Value)}{v:Value}:stored (vs.map λx=>((some x.1:jh),x.2)) none v=(vs.map λx=>((some x.1:jh),x.2))++[(none,v)]:=by
 unfold stored;rw[if_neg];intro z;obtain⟨x,hx,e⟩:=Ih.mp z;obtain⟨y,_,rfl⟩:=Gw.mp hx;cases HI e
section
variable {X:Cx}
def wd (P:Program)(w:World):pF:=λo i v H Q=>qb o i v H Q\/∃a kvs,o= .ref a/\i= .non/\H a=some (.dK kvs)/\kvs.length<1000/\Q (p0 H a (.ext (ai P w a (kvs.length+1))))
theorem uZ (hu:X.A.units+1<cLine):sh X (wd X.prog X.w):=by
 intro pins s σ H o i v ov iv u Q I ro ri rv h;rcases h with h|⟨a,kvs,rfl,rfl,hA,hl,q⟩
 .exact xE hu pins s σ H o i v ov iv u Q I ro ri rv h
 .cases ro;cases ri;obtain⟨z,hd,vs,rel,dd⟩:=uM I.hok hA;have G_:=rel.length;refine wpAny_setItem_pairs (knd:=dC X.prog X.w) (k:=none) (hsz:=by rw[Gs];lia) rfl (xb dd) λh' dd' hs=>?_;rw[ow] at dd';have he:∃q,h'.get? a=some q:=let ⟨q,_,_,hq,_⟩:=dd';⟨q,hq⟩
  exact⟨_,cQ I (by rw[hA];exact True.intro) hs he (pK ⟨hd,_,dd',by rw[GF,Gs,G_];rfl⟩),q⟩
def jR (K:Qc)(P:Program)(w:World):List V->Hp->VK->Prop:=λxs H Q=>yO K xs H Q\/∃p n,xs=[V.ref p]/\H p=some (.ext (ai P w p n))/\n<=1000/\Q (.int n) H
theorem rA:CallR X (.builtin "len") (jR X.K X.prog X.w):=by
 refine call_lenS.or ?_;intro pins s σ H xs us Q I r h;obtain⟨p,n,rfl,hp,hn,q⟩:=h;obtain⟨u,rfl,ru⟩:=G6 r;cases ru;obtain⟨hs,vs,dd,hl⟩:=(I.hok p _ hp).1;refine call_len_dict hs dd (by lia) ?_;rw[hl];exact⟨.int n,H,I.tok _,⟨_,rfl⟩,q⟩
theorem BQ (K:Qc)(h:X.K=K:=by rfl):CallR X (.builtin "len") (jR K X.prog X.w):=h▸rA
def pR (K:Qc)(P:Program)(w:World):List V->Hp->VK->Prop:=λxs H Q=>xg K xs H Q\/∃p n T,xs=[V.ref p,.ty T]/\H p=some (.ext (ai P w p n))/\(T="str"\/T="int"\/T="bool"\/T="list"\/T="tuple"\/T="dict")/\Q (.bl (fm "dict" T)) H
theorem sr:CallR X (.builtin "isinstance") (pR X.K X.prog X.w):=by
 refine call_isi.or ?_;intro pins s σ H xs us Q I r h;obtain⟨p,n,T,rfl,hp,hT,q⟩:=h;obtain⟨u,c,rfl,rx,rc⟩:=U6 r;cases rx;cases rc;obtain⟨hs,vs,⟨o,es,ep,h1,h2,r⟩,hl⟩:=(I.hok p _ hp).1;exact IF MP I.kIn ⟨o,h1,h2.1⟩ (U5 (by simp) hT) (λz=>nomatch z) λtk=>⟨.bl _,H,I.tok tk,rfl,q⟩
theorem Dm (K:Qc)(h:X.K=K:=by rfl):CallR X (.builtin "isinstance") (pR K X.prog X.w):=h▸sr
end
section
variable {K:Qc} {P:Program} {w:World} {H:Hp} {Q:VK}
theorem C3 {xs:List V}(h:rZ K xs H Q):jR K P w xs H Q:= .inl (.inl h)
theorem jw {p:Addr}{n:Nat}(h:H p=some (.ext (cv p n)))(hn:n<=1000)(q:Q (.int n) H):jR K P w [.ref p] H Q:= .inl (.inr ⟨p,n,rfl,h,hn,q⟩)
theorem vn {p:Addr}{n:Nat}(h:H p=some (.ext (ai P w p n)))(hn:n<=1000)(q:Q (.int n) H):jR K P w [.ref p] H Q:= .inr ⟨p,n,rfl,h,hn,q⟩
theorem gR {xs:List V}(h:xg K xs H Q):pR K P w xs H Q:= .inl h
theorem G7 {o i v:V}{Qh:Hp->Prop}(h:qb o i v H Qh):wd P w o i v H Qh:= .inl h
theorem rH {x y:V}(h:jj K x y H Q):fz K x y H Q:= .inl (EU h)
theorem wH {i j:Int}(q:Q (.bl (decide (i=j))) H):fz K (.int i) (.int j) H Q:=rH (wL q)
theorem xm {i j:Bool}(q:Q (.bl (decide (i=j))) H):fz K (.bl i) (.bl j) H Q:=rH (yn q)
theorem iO {i j:Str}(q:Q (.bl (decide (i=j))) H):fz K (.str i) (.str j) H Q:=rH (wu q)
theorem nA {i j:Int}(q:Q (.bl (!decide (i=j))) H):ql K (.int i) (.int j) H Q:= .inl (uB q)
end
theorem nT {X:Cx}(K:Qc)(P:Program)(w:World)(h:X.K=K:=by rfl)(hp:X.prog=P:=by rfl)(hw:X.w=w:=by rfl):CallR X (.builtin "isinstance") (pR K P w):=by subst hp hw;exact Dm K h
theorem C6 {X:Cx}(K:Qc)(P:Program)(w:World)(h:X.K=K:=by rfl)(hp:X.prog=P:=by rfl)(hw:X.w=w:=by rfl):CallR X (.builtin "len") (jR K P w):=by subst hp hw;exact BQ K h
theorem z6 {X:Cx}(P:Program)(w:World)(hu:X.A.units+1<cLine)(hp:X.prog=P:=by rfl)(hw:X.w=w:=by rfl):sh X (wd P w):=by subst hp hw;exact uZ hu
section
variable {X:Cx} {a b:Expr} {ta:TA} {x y:Str} {pos:Pos}
end
section
variable {σ:St} {H:Hp} {nx:St->Hp->Prop} {rt:VK} {bk ct:St->Hp->Prop} {ta:TA}
end
section
variable {P:Program} {w:World}
theorem rB {K:Qc}{tg:Expr}{d:Addr}{o:Obj}{kvs:List (j0×V)}{vs:List (j0×Value)}{ep:Nat}(D:vQ P w d o kvs vs ep)(it:Addr):
  dE P w K tg (Eg d o kvs λkv=>kv.2) [it] it (λi h=>h.IsValIter it d i vs.length ep) where
 mem:=by simp
 obj:=λi h st b hb=>by
  have e:b=it:=by simpa using hb
  subst e;obtain⟨o,e,c,dd⟩:=st;exact⟨o,e,λv z=>by rw[dd] at z;cases z⟩
 keep:=λi h h' st k=>let ⟨o,e,r⟩:=st;⟨o,k it (by simp) o e,r⟩
 item:=by
  intro X hP hw hK hc i pins s σ H E I hf st hg;subst hP hw hK;obtain⟨Nw,hi⟩:=hg;obtain⟨f0,f1,f2,f3,f4,f5⟩:=hf it (by simp);have dat:=D.at_ s.heap (I.hok d _ Nw).1;have hl:=KV.length D.kv;obtain⟨kv,f_⟩:∃kv,kvs[i]?=some kv:=⟨kvs[i],by simp [hi]⟩
  obtain⟨⟨k,x⟩,hx⟩:∃p,vs[i]?=some p:=⟨vs[i]'(by lia),by simp [show i<vs.length by lia]⟩
  obtain⟨PC,rx⟩:kv.1=k/\RelV kv.2 x:=by
   have q:=C8 D.kv f_;obtain⟨p,hp,r⟩:=q;rw[hx] at hp;cases hp;exact r
  refine wpAny_pyNext_values_item st dat hx λh' Lf J'=>?_;have I1:Inv X pins σ H {s with heap:=h'}:=I.turned (t':=s.toks) (λb o hb e=>J'.extBut b o hb e) f0 f1 f3 f4 f5;obtain⟨oo,e,c,dd⟩:=id Lf;exact⟨x,rfl,mx (s:={s with heap:=h'}) e c dd (by decide) ⟨kv.2,H,I1,rx,⟨rfl,kv,f_,rfl⟩,Lf,λb hb=>(hf b hb).1⟩⟩
 done:=by
  intro X hP hw hK hc i pins s σ H E I hf st hg;subst hP hw hK;obtain⟨Nw,hi⟩:=hg;obtain⟨f0,f1,f2,f3,f4,f5⟩:=hf it (by simp);have dat:=D.at_ s.heap (I.hok d _ Nw).1;have hl:=KV.length D.kv;exact wpAny_pyNext_values_end (I.ok.hd hc) st dat (by simp;lia) λh' eb=>⟨rfl,I.turned (t':=s.toks) (λb o hb e=>eb b o hb e) f0 f1 f3 f4 f5⟩
 self:=λ_ _ _ _ _ st h=>wpAny_pyIter_valiter st h
end
section
variable {X:Cx} {tg:Expr}
abbrev FC (d:Addr)(o:Obj)(kvs:List (j0×V)):It:=Eg d o kvs λkv=>kv.2
def lM (tl:TE):lN:=λσ H R=>tl σ H λv H1=>rIterD FC v H1 R
theorem rq {o:Expr}{tl:TE}{apos b_:Pos}(ho:PE X o tl)
  (g_:attributeBase o "values" X.env (eval o X.env)=eval o X.env:=by rfl) (h_:(apos.endLine==b_.line)=true:=by rfl):
  uT X tg (.Call (.Attribute o "values" apos) [] [] b_) (lM tl):=by
 intro pins s σ H R I h
 refine JS g_ h_ (E9 (ho pins s σ H _ I h) λv s1 ⟨x,H1,I1,r1,q1⟩=>?_)
 obtain⟨d,kvs,ob,vs,ep,th,H',rfl,hd,y_,D,I2,MQ,q⟩:=rIterD.go I1 r1 q1
 have Ob:=(D.at_ _ y_).dictOf
 refine⟨"dict","dict.values",F.plainAttrs_dict,F.slot_dict_values,F.type_dict_values,Ob.typeIs,Ob.mapOf.noDict,Im rfl (Kt ?_)⟩
 refine Ik F.slot_dict_values Ob.typeIs F.entry_dict_values (F.args_dict_values_1 _) (meets_dict_values (k7 X.prog X.w) d hd) ⟨⟨vs,Ob⟩,?_⟩
 have I3:Inv X pins σ H' {s1 with heap:=s1.heap.push {cls:= .type "dict_values",data:= .fields #[.ref d]}}:=I2.kept (t':=s1.toks) λb o e=>GB _ e
 refine wpAny_pyIter_values (s:={s1 with heap:=s1.heap.push {cls:= .type "dict_values",data:= .fields #[.ref d]}}) (knd:=k7 X.prog X.w) ⟨_,GW _ rfl,rfl,rfl⟩ (D.at_ _ (GB _ y_)) ?_
 generalize hG:s1.heap.push {cls:= .type "dict_values",data:= .fields #[.ref d]}=G at I3⊢
 refine⟨G.objs.size,[G.objs.size],_,_,H',rfl,I3.kept (t':=s1.toks) λb o e=>GB _ e,rB D _,⟨_,GW _ rfl,rfl,rfl⟩,λb hb=>?_,th,MQ,q⟩
 have e:b=G.objs.size:=by simpa using hb
 subst e
 exact I3.fpOk (Gv _) (I3.hok.fresh (Gv _))
theorem dG {tg o:Expr}{to:TE}{apos b_:Pos}(ho:QE X o to)
  (g_:attributeBase o "values" X.env (eval o X.env)=eval o X.env:=by rfl) (h_:(apos.endLine==b_.line)=true:=by rfl):QI X tg (.Call (.Attribute o "values" apos) [] [] b_) (lM to):=⟨rq ho.r g_ h_⟩
theorem rC {tl:TE}{σ:St}{H:Hp}{R:It->(Hp->Hp)->Hp->Prop}(q:tl σ H λv H1=>rIterD FC v H1 R):lM tl σ H R:=q
end
section
variable {J:It} {th:Hp->Hp} {n:Nat} {g:TG} {tb:TS} {nx:L2.St->Hp->Prop} {rt:VK} {σ:L2.St} {H:Hp}
theorem S8 (Pv:Nat->L2.St->Hp->Prop)(h0:Pv 0 σ H)(NS:∀i σ H,i<n->Pv i σ H->J.go i H)
  (hs:∀(bk:L2.St->Hp->Prop) i x σ H H',i<n->Pv i σ H->J.yld i H x H'->g x σ H' λσ2 H2=>tb ⟨Pv (i+1),λv H=>rt v (th H),bk,Pv (i+1)⟩ σ2 H2)
  (hd:∀σ H,Pv n σ H->J.stop n H/\nx σ (th H)):xS J th g tb nx rt σ H:=J5 Pv h0 NS (hs λσ H=>nx σ (th H)) hd
end
section
variable {prog:Program} {w:World} {A:Around} {E:Value->Shared->Prop} {s:Shared}
end
theorem fw {α β:Type}{F:α->β->Prop}:∀{l:List α} {m:List β} {b:β},Paired F l m->b∈m->∃a∈l,F a b
 |_,_,_,.cons r t,h=>by
  rcases Hh.mp h with e|e
  .exact⟨_,Hg,e▸r⟩
  .obtain⟨a,h1,h2⟩:=fw t e;exact⟨a,GY _ h1,h2⟩
section
variable {X:Cx}
end
section
variable {K:Qc} {P:Program} {w:World} {H:Hp} {Q:VK} {σ:L2.St}
end
def BN:Value->V
 | .none=> .non
 | .bool b=> .bl b
 | .int i _=> .int i
 | .str x _=> .str x
 | .bytes b _=> .byt b
 | .float b _=> .flt b
 | .ref a=> .ref a
 | .type n=> .ty n
 |_=> .non
theorem wG {v:V}{u:Value}(r:RelV v u):BN u=v:=by
 cases v with
 |non=>rw[show u=Value.none from r];rfl
 |bl b=>rw[show u=Value.bool b from r];rfl
 |int i=>obtain⟨t,rfl⟩:=r;rfl
 |str x=>obtain⟨t,rfl⟩:=r;rfl
 |byt x=>obtain⟨t,rfl⟩:=r;rfl
 |flt x=>obtain⟨t,rfl⟩:=r;rfl
 |ref a=>rw[show u=Value.ref a from r];rfl
 |ty n=>rw[show u=Value.type n from r];rfl
theorem CY {f:V->Bool}:∀{xs:List V} {us:List Value},Vals xs us->us.countP (f∘BN)=xs.countP f
 |_,_,.nil=>rfl
 |_,_,.cons r t=>by rw[Lq,Lq,CY t,Function.comp,wG r]
section
variable {X:Cx}
end
def uD (K:Qc)(a:Addr)(xs:List V):It:=
 ⟨λi H=>SqL K H a xs/\i<xs.length,λi H x H'=>H'=H/\xs[xs.length -1 -i]?=some x,λi _=>i=xs.length⟩
theorem uU {P:Program}{w:World}{K:Qc}{tg:Expr}(a it:Addr)(xs:List V):dE P w K tg (uD K a xs) [it] it (λi h=>h.IsRevIter it a ((xs.length:Int) -1 -(i:Int))) where
 mem:=by simp
 obj:=λi h st b hb=>by
  have e:b=it:=by simpa using hb
  subst e;obtain⟨o,e,c,d⟩:=st;exact⟨o,e,λv z=>by rw[d] at z;cases z⟩
 keep:=λi h h' st k=>st.at λo e=>k it (by simp) o e
 item:=by
  intro X hP hw hK hc i pins s σ H E I hf st hg;subst hP hw hK;obtain⟨hq,hi⟩:=hg;obtain⟨a_,rv,p,hz⟩:=I.list hq;have hj:xs.length -1 -i<xs.length:=by lia
  obtain⟨u,hu,ru⟩:=rv.get (Gu hj);obtain⟨f0,f1,f2,f3,f4,f5⟩:=hf it (by simp);have Nz:s.heap.IsRevIter it a ((xs.length -1 -i:Nat):Int):=by
   have e:((xs.length -1 -i:Nat):Int)=(xs.length:Int) -1 -(i:Int):=by lia
   rw[e];exact st
  refine wpAny_pyNext_rev_item Nz p.isList (x:=u) (by simpa using hu) λh' Lf sb=>?_;have I1:Inv X pins σ H {s with heap:=h'}:=I.turned (t':=s.toks) (λb o hb e=>(sb.2 b hb).trans e) f0 f1 f3 f4 f5;obtain⟨o,e,c,d⟩:=id Lf;have J_:h'.IsRevIter it a ((xs.length:Int) -1 -((i+1:Nat):Int)):=by
   have e:(xs.length:Int) -1 -((i+1:Nat):Int)=((xs.length -1 -i:Nat):Int) -1:=by lia
   rw[e];exact Lf
  exact⟨u,rfl,mx (s:={s with heap:=h'}) e c d (by decide) ⟨_,H,I1,ru,⟨rfl,Gu hj⟩,J_,λb hb=>(hf b hb).1⟩⟩
 done:=by
  intro X hP hw hK hc i pins s σ H E I hf st hg;subst hP hw hK;have Wg:i=xs.length:=hg;obtain⟨f0,f1,f2,f3,f4,f5⟩:=hf it (by simp);have Nz:s.heap.IsRevIter it a (-1):=by
   have e:(-1:Int)=(xs.length:Int) -1 -(i:Int):=by lia
   rw[e];exact st
  exact wpAny_pyNext_rev_end (I.ok.hd hc) Nz λh' eb=>⟨rfl,I.turned (t':=s.toks) (λb o hb e=>eb b o hb e) f0 f1 f3 f4 f5⟩
 self:=λ_ _ _ _ _ st h=>wpAny_pyIter_revIter st h
section
variable {X:Cx} {a:Expr} {t:TA} {p pos:Pos} {tg:Expr}
def Bx (K:Qc)(ta:TA):lN:=λσ H R=>ta σ H λvs H1=>∃l xs,vs=[.ref l]/\SqL K H1 l xs/\R (uD K l xs) id H1
theorem Ay (hg:Gl X "reversed")(hm:X.mg "reversed"=none)(ha:PA X [a] t)(hs:starEach [a] X.env=[(false,eval a X.env)]):uT X tg (.Call (.Name "reversed" p) [a] [] pos) (Bx X.K t):=by
 intro pins s σ H R I h;refine Call_ (Z6 I hg hm Boot.«reversed» (HW (E9 (ha pos pins s σ H _ I h) λus s1 ⟨vs,H1,I1,r1,q1⟩=>?_) hs rfl));obtain⟨l,xs,e,hq,q⟩:=q1;subst e;obtain⟨u,rfl,ru⟩:=G6 r1;cases ru;obtain⟨a_,rv,pl,hz⟩:=I1.list hq;have hl:=rv.length;refine call_reversed_list pl.isList ?_;have I2:Inv X pins σ H1 {s1 with heap:=s1.heap.push (revObj l ((a_.toArray.size:Int) -1))}:=I1.kept (t':=s1.toks) λb o e=>GB _ e;have st:(s1.heap.push (revObj l ((a_.toArray.size:Int) -1))).IsRevIter s1.heap.objs.size l ((xs.length:Int) -1 -((0:Nat):Int)):=by
  refine⟨_,GW _ rfl,rfl,?_⟩;show Data.fields #[.ref l,rawInt ((a_.toArray.size:Int) -1)]=_;rw[show(a_.toArray.size:Int) -1=(xs.length:Int) -1 -((0:Nat):Int) by rw[Hd];lia]
 refine wpAny_pyIter_revIter (s:={s1 with heap:=s1.heap.push (revObj l ((a_.toArray.size:Int) -1))}) st ?_;refine⟨s1.heap.objs.size,[s1.heap.objs.size],_,_,H1,rfl,I2,uU l _ xs,st,λb hb=>?_,id,dD,q⟩;have e:b=s1.heap.objs.size:=by simpa using hb
 subst e;exact I1.fpOk (Gv _) (I1.hok.fresh (Gv _))
theorem nE (K:Qc)(hm:X.mg "reversed"=none)(ha:QA X [a] t)(hg:Gl X "reversed":=by rfl)(h:u6 a=true:=by rfl)(hK:X.K=K:=by rfl):QI X tg (.Call (.Name "reversed" p) [a] [] pos) (Bx K t):=
 ⟨hK▸Ay hg hm ha.r (G8 h)⟩
end
section
variable {K:Qc} {σ:L2.St} {H:Hp} {ta:TA} {R:It->(Hp->Hp)->Hp->Prop}
theorem CQ (q:ta σ H λvs H1=>∃l xs,vs=[V.ref l]/\SqL K H1 l xs/\R (uD K l xs) id H1):Bx K ta σ H R:=q
end
abbrev jF (h:Heap)(z TI TO:Addr)(f0:Value)(b:Bool):Prop:=h.get? z=some {cls:= .type "zip",dict:=none,data:= .fields #[f0,.bool b,.bool false,.ref TI,.ref TO],slots:= #[]}
section
variable {prog:Program} {w:World} {A:Around} {E:Value->Shared->Prop} {s:Shared}
theorem nk {z TI TO T:Addr}{b:Bool}{ot:Obj}{Q:Bool->Shared->Prop}(hz:jF s.heap z TI TO (rawInt T) b)(hT:s.heap.get? T=some ot)
  (hQ:∀h',jF h' z TI TO (rawInt T) true->Heap.SameBut z s.heap h'->Q false {s with heap:=h'}):wpAny (model prog w) A (Builtin.SmallTypes.ownedTupleIsFree (.ref z)) Q E s:=by
 unfold Builtin.SmallTypes.ownedTupleIsFree
 refine Gz (Js hz rfl (x:=rawInt T) rfl ?_)
 refine Gz (PySem.W.kdx_alive (show s.heap.get? ((T:Int).toNat)=some ot by rw[MK];exact hT) ?_)
 rw[if_neg (by simp)]
 refine Gz (Js hz rfl (x:= .bool b) rfl ?_)
 cases b with
 |true=>
  rw[if_neg (by decide)]
  exact GN (hQ s.heap hz (Heap.SameBut.refl _ _))
 |false=>
  rw[if_pos (by decide)]
  exact Gz (wpAny_setField_rec hz (by simp) λh' g' s'=>GN (hQ h' g' s'))
theorem rf {z TI TO T i1 i2 l1 l2:Addr}{k1 k2:Nat}{b:Bool}{ot:Obj}{xs ys:Array Value}{x y:Value}{Q:Option Value->Shared->Prop}(D:ZipApart z TI TO i1 i2 l1 l2)
  (hz:jF s.heap z TI TO (rawInt T) b) (Tu:s.heap.get? T=some ot) (PK:IsPair s.heap TI (.ref i1) (.ref i2))
  (h1:s.heap.IsListIter i1 l1 k1) (h2:s.heap.IsListIter i2 l2 k2) (Mc:s.heap.IsList l1 xs) (Nm:s.heap.IsList l2 ys) (hx:xs[k1]?=some x) (hy:ys[k2]?=some y)
  (hQ:∀h',jF h' z TI TO (rawInt T) true->h'.IsListIter i1 l1 (k1+1)->h'.IsListIter i2 l2 (k2+1)->IsPair h' s.heap.objs.size x y->
   (∀c o,c≠z->c≠i1->c≠i2->s.heap.get? c=some o->h'.get? c=some o)->Q (some (.ref s.heap.objs.size)) {s with heap:=h'}):wpAny (model prog w) A (pyNext (.ref z)) Q E s:=by
 have hT:s.TypeIs (.ref z) "zip":=⟨_,hz,rfl⟩
 unfold pyNext
 refine Gz (wpAny_attempt (JR (name:=Str.ofString "__next__") hT Kw (JI Kw hT F.entry_zip_next ?_ (F.args_zip_next_1 _))))
 show wpAny (model prog w) _ (field (.ref z) 2>>=_) _ _ _
 refine Gz (Js hz rfl (x:= .bool false) rfl ?_)
 show wpAny (model prog w) _ (field (.ref z) 3>>=_) _ _ _
 refine Gz (Js hz rfl (x:= .ref TI) rfl (Gz (KN PK rfl ?_)))
 show wpAny (model prog w) _ (Builtin.SmallTypes.ownedTupleIsFree (.ref z)>>=_) _ _ _
 refine Gz (nk hz Tu λYb g1 s1=>?_)
 rw[if_neg (by decide)]
 dsimp only
 refine Gz ?_
 rw[←ME]
 simp only[JU,KP]
 refine Gz (Gz (HU ?_))
 show wpAny (model prog w) _ (Builtin.SmallTypes.nextOf (.ref i1)>>=_) _ _ _
 refine Gz (Ke (h1.extBut s1.extBut D.i1z) (Mc.extBut s1.extBut D.l1z) hx λWh g2 s2=>GN (GN ?_))
 refine Gz (Gz (HU ?_))
 show wpAny (model prog w) _ (Builtin.SmallTypes.nextOf (.ref i2)>>=_) _ _ _
 refine Gz (Ke ((h2.extBut s1.extBut D.i2z).extBut s2.extBut D.i12.symm) ((Nm.extBut s1.extBut D.l2z).extBut s2.extBut D.l2i1) hy λPH g3 s3=>GN (GN (GN ?_)))
 have sz:PH.objs.size=s.heap.objs.size:=by rw[s3.1,s2.1,s1.1]
 have up:∀c o,c≠z->c≠i1->c≠i2->s.heap.get? c=some o->PH.get? c=some o:=λc o c1 c2 c3 e=>s3.extBut _ _ c3 (s2.extBut _ _ c2 (s1.extBut _ _ c1 e))
 refine Gz (wpAny_newTuple (GN ⟨_,rfl,?_⟩) (by show 2<=sizeLine;decide))
 refine GN ?_
 show Q (some (.ref PH.objs.size)) _
 rw[sz]
 refine hQ _ (GB _ (s3.extBut _ _ D.i2z.symm (s2.extBut _ _ D.i1z.symm g1))) ((g2.extBut s3.extBut D.i12).at λo e=>GB _ e) (g3.at λo e=>GB _ e) ?_ λc o c1 c2 c3 e=>GB _ (up c o c1 c2 c3 e)
 rw[←sz]
 exact GW _ rfl
theorem tN {z TI TO T i1 i2 l1 l2:Addr}{k1 k2:Nat}{b:Bool}{ot:Obj}{xs ys:Array Value}{Q:Option Value->Shared->Prop}(hh:A.handled=none)(D:ZipApart z TI TO i1 i2 l1 l2)
  (hz:jF s.heap z TI TO (rawInt T) b) (Tu:s.heap.get? T=some ot) (PK:IsPair s.heap TI (.ref i1) (.ref i2))
  (h1:s.heap.IsListIter i1 l1 k1) (h2:s.heap.IsListIter i2 l2 k2) (Mc:s.heap.IsList l1 xs) (Nm:s.heap.IsList l2 ys) (MV:xs[k1]?=none\/ys[k2]?=none)
  (hQ:∀h',(∀c o,c≠z->c≠i1->c≠i2->s.heap.get? c=some o->h'.get? c=some o)->Q none {s with heap:=h'}):wpAny (model prog w) A (pyNext (.ref z)) Q E s:=by
 have hT:s.TypeIs (.ref z) "zip":=⟨_,hz,rfl⟩
 unfold pyNext
 refine Gz (wpAny_attempt (JR (name:=Str.ofString "__next__") hT Kw (JI Kw hT F.entry_zip_next ?_ (F.args_zip_next_1 _))))
 show wpAny (model prog w) _ (field (.ref z) 2>>=_) _ _ _
 refine Gz (Js hz rfl (x:= .bool false) rfl ?_)
 show wpAny (model prog w) _ (field (.ref z) 3>>=_) _ _ _
 refine Gz (Js hz rfl (x:= .ref TI) rfl (Gz (KN PK rfl ?_)))
 show wpAny (model prog w) _ (Builtin.SmallTypes.ownedTupleIsFree (.ref z)>>=_) _ _ _
 refine Gz (nk hz Tu λYb g1 s1=>?_)
 rw[if_neg (by decide)]
 dsimp only
 refine Gz ?_
 rw[←ME]
 simp only[JU,KP]
 refine Gz (Gz (HU ?_))
 show wpAny (model prog w) _ (Builtin.SmallTypes.nextOf (.ref i1)>>=_) _ _ _
 cases hx:xs[k1]? with
 |none=>
  refine Gz (wpAny_nextOf_list_end hh (h1.extBut s1.extBut D.i1z) (Mc.extBut s1.extBut D.l1z) hx λWh e s2 he=>?_)
  obtain⟨oe,Tv,Tw⟩:=he
  exact Gz (wpAny_isInstance (T:="StopIteration") (b:=true) ⟨oe,Tv,Tw⟩ isSubtype_stop (GN (hQ _ λc o c1 c2 c3 x=>s2 _ _ c2 (s1.extBut _ _ c1 x))))
 |some x=>
  have hy:ys[k2]?=none:=by
   rcases MV with h|h
   .rw[hx] at h;cases h
   .exact h
  refine Gz (Ke (h1.extBut s1.extBut D.i1z) (Mc.extBut s1.extBut D.l1z) hx λWh g2 s2=>GN (GN ?_))
  refine Gz (Gz (HU ?_))
  show wpAny (model prog w) _ (Builtin.SmallTypes.nextOf (.ref i2)>>=_) _ _ _
  refine Gz (wpAny_nextOf_list_end hh ((h2.extBut s1.extBut D.i2z).extBut s2.extBut D.i12.symm) ((Nm.extBut s1.extBut D.l2z).extBut s2.extBut D.l2i1) hy λPH e s3 he=>?_)
  obtain⟨oe,Tv,Tw⟩:=he
  exact Gz (wpAny_isInstance (T:="StopIteration") (b:=true) ⟨oe,Tv,Tw⟩ isSubtype_stop (GN (hQ _ λc o c1 c2 c3 x=>s3 _ _ c3 (s2.extBut _ _ c2 (s1.extBut _ _ c1 x)))))
end
theorem nV:typeLookup (.type "zip") "keys"=pure none:=by rw[LN,Kl];kernel_rfl
theorem sQ:typeLookup (.type "zip") "__getattr__"=pure none:=by rw[LN,Kl];kernel_rfl
section
variable {prog:Program} {w:World} {A:Around} {E:Value->Shared->Prop} {s:Shared}
theorem vI (a:Addr)(fs:Array Value)(u:Tok):Meets (Builtin.«object.__getattribute__» ⟨[.ref a,.str "keys" u],[]⟩) (λA R s=>s.heap.get? a=some {cls:= .type "zip",dict:=none,data:= .fields fs,slots:= #[]}/\raisesAttr (.ref a) "keys" A R s):=
 Meets.of_wp λprog w A R s hs=>by
  obtain⟨hp,g,d,tk,os⟩:=s;obtain⟨hx,hs⟩:=hs;have hT:(⟨hp,g,d,tk,os⟩:Shared).TypeIs (.ref a) "zip":=⟨_,hx,rfl⟩
  have Wi:=nV;unfold Builtin.«object.__getattribute__»;repeat(any_goals (first|assumption|wp_step))
  exact wpAny_raiseAttrError hs.1 hs.2 (attrMsg_fits (by decide+kernel) (by decide+kernel))
theorem oV:entryFor table "zip.__getattribute__"=some Builtin.«object.__getattribute__»:=entryFor_alias (id':="object.__getattribute__") (by kernel_rfl) (by decide+kernel) (by decide+kernel) (by kernel_rfl)
theorem ng {a:Addr}{fs:Array Value}{Q:Option Value->Shared->Prop}(hx:s.heap.get? a=some {cls:= .type "zip",dict:=none,data:= .fields fs,slots:= #[]})(hA:A.handled=none)
  (h:∀h' tk,(∀b ob,s.heap.get? b=some ob->h'.get? b=some ob)->Q none {s with heap:=h',toks:=tk}):wpAny (model prog w) A (getAttr? (.ref a) "keys") Q E s:=by
 obtain⟨hp,g,d,tk,os⟩:=s
 have hT:∀tk',(⟨hp,g,d,tk',os⟩:Shared).TypeIs (.ref a) "zip":=λ_=>⟨_,hx,rfl⟩
 have f1:=sub_AttributeError
 have f3:=JY.lookup
 have f4:=JY.bind (.ref a)
 have f5:=sQ
 unfold getAttr? getAttrBy? getAttrBy
 repeat(any_goals (first|assumption|exact hT _|((with_reducible show wpAny _ _ (call (Value.builtin "zip.__getattribute__") _ _) _ _ _);refine LU JY (hT _) oV (F.args_zip_getattribute_2 _ _) (vI a fs _) ⟨hx,hA,λh' tk' e p_=>?_⟩)|wp_step))
 obtain⟨t',u',he⟩:=p_.there
 show wpAny _ _ (getattributeRaised _ _ _ _ _ _ _) _ _ _
 unfold getattributeRaised
 repeat(any_goals (first|assumption|wp_step))
 exact h _ _ p_.keeps
end
section
variable {prog:Program} {w:World} {A:Around} {E:Value->Shared->Prop} {s:Shared}
structure ZipSt (h:Heap) (d z TI TO i1 i2 l1 l2:Addr) (k:Nat) (xs ys:Array Value):Prop where
 ti:IsPair h TI (.ref i1) (.ref i2)
 a1:h.IsListIter i1 l1 k
 a2:h.IsListIter i2 l2 k
 b1:h.IsList l1 xs
 b2:h.IsList l2 ys
 st:(∃a b,IsZip h z TI TO .none/\IsPair h TO a b)\/∃(T:Addr) (b:Bool) (ot:Obj),jF h z TI TO (rawInt T) b/\h.get? T=some ot/\T≠z/\T≠i1/\T≠i2/\T≠d
structure lF (d z TI TO i1 i2 l1 l2:Addr):Prop where
 z:z≠d
 TI:TI≠d
 TO:TO≠d
 i1:i1≠d
 i2:i2≠d
 l1:l1≠d
 l2:l2≠d
theorem ZipSt.keep {h h':Heap}{d z TI TO i1 i2 l1 l2:Addr}{k:Nat}{xs ys:Array Value}(Z:ZipSt h d z TI TO i1 i2 l1 l2 k xs ys)(O:lF d z TI TO i1 i2 l1 l2)(kp:∀c o,c≠d->h.get? c=some o->h'.get? c=some o):ZipSt h' d z TI TO i1 i2 l1 l2 k xs ys:=by
 refine⟨kp _ _ O.TI Z.ti,Z.a1.at λo e=>kp _ o O.i1 e,Z.a2.at λo e=>kp _ o O.i2 e,?_,?_,?_⟩
 .obtain⟨o,ho,r⟩:=Z.b1;exact⟨o,kp _ _ O.l1 ho,r⟩
 .obtain⟨o,ho,r⟩:=Z.b2;exact⟨o,kp _ _ O.l2 ho,r⟩
 .rcases Z.st with⟨a,b,h1,h2⟩|⟨T,b,ot,h1,h2,h3⟩
  .exact .inl ⟨a,b,kp _ _ O.z h1,kp _ _ O.TO h2⟩
  .exact .inr ⟨T,b,ot,kp _ _ O.z h1,kp _ _ h3.2.2.2 h2,h3⟩
theorem rl {d z TI TO i1 i2 l1 l2:Addr}{k:Nat}{xs ys:Array Value}{x y:Value}{od:Obj}{Q:Option Value->Shared->Prop}(D:ZipApart z TI TO i1 i2 l1 l2)(O:lF d z TI TO i1 i2 l1 l2)(hd:s.heap.get? d=some od)
  (Z:ZipSt s.heap d z TI TO i1 i2 l1 l2 k xs ys) (hx:xs[k]?=some x) (hy:ys[k]?=some y)
  (hQ:∀h',ZipSt h' d z TI TO i1 i2 l1 l2 (k+1) xs ys->IsPair h' s.heap.objs.size x y->(∀c o,c≠z->c≠TO->c≠i1->c≠i2->s.heap.get? c=some o->h'.get? c=some o)->Q (some (.ref s.heap.objs.size)) {s with heap:=h'}):
  wpAny (model prog w) A (pyNext (.ref z)) Q E s:=by
 have lt:∀{c:Addr} {o:Obj},s.heap.get? c=some o->s.heap.objs.size≠c:=fun{c o} e=>KD (GH e)
 rcases Z.st with⟨a,b,h1,h2⟩|⟨T,b,ot,h1,h2,h3,h4,h5,h6⟩
 .refine wpAny_pyNext_zip_item D h1 Z.ti h2 Z.a1 Z.a2 Z.b1 Z.b2 hx hy λh' q1 q2 q3 q4 q5 q6 q7=>hQ h' ⟨q7 _ _ D.TIz D.TITO D.TIi1 D.TIi2 Z.ti,q3,q4,?_,?_,?_⟩ q5 q7
  .obtain⟨o,ho,r⟩:=Z.b1;exact⟨o,q7 _ _ D.l1z D.l1TO D.l1i1 D.l1i2 ho,r⟩
  .obtain⟨o,ho,r⟩:=Z.b2;exact⟨o,q7 _ _ D.l2z D.l2TO D.l2i1 D.l2i2 ho,r⟩
  .obtain⟨o1,e1,_⟩:=Z.a1
   obtain⟨o2,e2,_⟩:=Z.a2
   exact .inr ⟨_,false,_,q1,q5,lt h1,lt e1,lt e2,lt hd⟩
 .refine rf D h1 h2 Z.ti Z.a1 Z.a2 Z.b1 Z.b2 hx hy λh' q1 q3 q4 q5 q7=>hQ h' ⟨q7 _ _ D.TIz D.TIi1 D.TIi2 Z.ti,q3,q4,?_,?_,.inr ⟨T,true,ot,q1,q7 _ _ h3 h4 h5 h2,h3,h4,h5,h6⟩⟩ q5 λc o c1 _ c3 c4 e=>q7 c o c1 c3 c4 e
  .obtain⟨o,ho,r⟩:=Z.b1;exact⟨o,q7 _ _ D.l1z D.l1i1 D.l1i2 ho,r⟩
  .obtain⟨o,ho,r⟩:=Z.b2;exact⟨o,q7 _ _ D.l2z D.l2i1 D.l2i2 ho,r⟩
theorem vh {d z TI TO i1 i2 l1 l2:Addr}{k:Nat}{xs ys:Array Value}{Q:Option Value->Shared->Prop}(hh:A.handled=none)(D:ZipApart z TI TO i1 i2 l1 l2)
  (Z:ZipSt s.heap d z TI TO i1 i2 l1 l2 k xs ys) (MV:xs[k]?=none\/ys[k]?=none)
  (hQ:∀h',(∀c o,c≠z->c≠TO->c≠i1->c≠i2->s.heap.get? c=some o->h'.get? c=some o)->Q none {s with heap:=h'}):wpAny (model prog w) A (pyNext (.ref z)) Q E s:=by
 rcases Z.st with⟨a,b,h1,h2⟩|⟨T,b,ot,h1,h2,h3,h4,h5,h6⟩
 .exact wpAny_pyNext_zip_end hh D h1 Z.ti h2 Z.a1 Z.a2 Z.b1 Z.b2 MV hQ
 .exact tN hh D h1 h2 Z.ti Z.a1 Z.a2 Z.b1 Z.b2 MV λh' q=>hQ h' λc o c1 _ c3 c4 e=>q c o c1 c3 c4 e
end
section
variable {prog:Program} {w:World} {KT:Type} [DecidableEq KT] {knd:KeyKind prog w KT} {A:Around} {E:Value->Shared->Prop}
def ig (knd:KeyKind prog w KT)(u:Value×Value)(kv:KT×Value):Prop:=knd.is kv.1 u.1=true/\u.2=kv.2
theorem ph {d z TI TO i1 i2 l1 l2:Addr}{xs ys:List Value}{res:Value}(hh:A.handled=none)(D:ZipApart z TI TO i1 i2 l1 l2)(O:lF d z TI TO i1 i2 l1 l2):
  ∀(more:List (KT×Value)) (i:Nat) (s:Shared) (kvs:List (KT×Value)) (R:Result->Shared->Prop),
   ZipSt s.heap d z TI TO i1 i2 l1 l2 i xs.toArray ys.toArray->Paired (ig knd) ((xs.zip ys).drop i) more->s.heap.DictOf knd d kvs->kvs.length+more.length<=sizeLine->
   (∀h' tk,(∀b o,b≠d->b≠z->b≠TO->b≠i1->b≠i2->s.heap.get? b=some o->h'.get? b=some o)->h'.DictOf knd d (more.foldl (λa x=>stored a x.1 x.2) kvs)->R (.ok (.ret res)) {s with heap:=h',toks:=tk})->
   codeAny (model prog w) A (.builtin "dict.update.loop" ⟨[.ref d,.ref z,rawInt (i:Int),res],[]⟩) R s:=by
 intro more
 induction more with
 |nil=>
  intro i s kvs R Z hp hd hz hR
  have MV:xs.toArray[i]?=none\/ys.toArray[i]?=none:=by
   have hn:(xs.zip ys).drop i=[]:=by cases r_:(xs.zip ys).drop i with
    |nil=>rfl
    |cons x r=>rw[r_] at hp;cases hp
   have hl:=Kp.mp hn;rw[JZ] at hl;by_cases h:xs.length<=i
   .exact .inl (by simp;lia)
   .exact .inr (by simp;lia)
  refine Ig K7 ?_
  rw[HV B8 _]
  show wpAny _ A.in1 (pyNext (.ref z)>>=_) _ _ s
  refine Gz (vh (A:=A.in1) hh D Z MV λh' kp=>?_)
  show wpAny _ A.in1 (Builtin.Dict.addKeywords d []>>=_) _ _ _
  refine Gz (GN (GN ?_))
  refine hR h' s.toks (λb o _ h1 h2 h3 h4 e=>kp b o h1 h2 h3 h4 e) ?_
  obtain⟨od,es,ep,e,r⟩:=hd
  exact⟨od,es,ep,kp d od (Io O.z) (Io O.TO) (Io O.i1) (Io O.i2) e,r⟩
 |cons kv more ih=>
  intro i s kvs R Z hp hd hz hR
  obtain⟨x,y,hx,hy,hk,MU⟩:∃x y,xs.toArray[i]?=some x/\ys.toArray[i]?=some y/\ig knd (x,y) kv/\Paired (ig knd) ((xs.zip ys).drop (i+1)) more:=by
   cases r_:(xs.zip ys).drop i with
   |nil=>rw[r_] at hp;cases hp
   |cons u r=>
    rw[r_] at hp
    cases hp with
    |cons h1 h2=>
     have z1:(xs.zip ys)[i]?=some u:=by
      have z:=Ia List.head? r_;simpa using z
     obtain⟨q1,q2⟩:=JG.mp z1
     refine⟨u.1,u.2,by simpa using q1,by simpa using q2,h1,?_⟩
     have z:=Ia List.tail r_
     rw[Mh] at z
     rw[z];exact h2
  obtain⟨w_,hv⟩:=hk
  obtain⟨od,es,ep,Wj,Yc⟩:=id hd
  refine Ig K7 ?_
  rw[HV B8 _]
  show wpAny _ A.in1 (pyNext (.ref z)>>=_) _ _ s
  refine Gz (rl D O Wj Z hx hy λh' Z' hT kp=>?_)
  refine Gz (HU (Gz (wpAny_tryCatch ?_)))
  unfold Builtin.Dict.pairItems
  refine Gz (KH (s:={s with heap:=h'}) ⟨_,hT,rfl⟩ ?_)
  rw[if_pos (by decide)]
  refine Gz (KN (s:={s with heap:=h'}) hT rfl ?_)
  refine GN ?_
  show wpAny _ A.in1 (holding [x,y] (dictSet d x y)) _ _ _
  have Qn:h'.DictOf knd d kvs:=⟨od,es,ep,kp d od (Io O.z) (Io O.TO) (Io O.i1) (Io O.i2) Wj,Yc⟩
  refine HU (wpAny_dictSet_pairs (s:={s with heap:=h'}) (kvs:=kvs) w_ Qn (λB_ dd hs''=>?_) (by simp only[HF] at hz;lia))
  have OB:∀b o,b≠d->b≠z->b≠TO->b≠i1->b≠i2->s.heap.get? b=some o->B_.get? b=some o:=λb o h0 h1 h2 h3 h4 e=>hs''.extBut b o h0 (kp b o h1 h2 h3 h4 e)
  refine GN ⟨IM B8 _,?_⟩
  have ey:y=kv.2:=hv
  rw[ey] at dd
  refine ih (i+1) _ (stored kvs kv.1 kv.2) R (Z'.keep O λc o hc e=>hs''.extBut c o hc e) MU dd ?_ (λh3 tk k3 d3=>hR h3 tk (λb o h0 h1 h2 h3 h4 e=>k3 b o h0 h1 h2 h3 h4 (OB b o h0 h1 h2 h3 h4 e)) d3)
  have z:=stored_length_le kvs kv.1 kv.2
  simp only[HF] at hz
  lia
end
section
variable {prog:Program} {w:World} {KT:Type} [DecidableEq KT] {knd:KeyKind prog w KT} {A:Around} {E:Value->Shared->Prop}
theorem iX {z TI TO i1 i2 l1 l2:Addr}{xs ys:List Value}{more:List (KT×Value)}{a b:Value}{s:Shared}{Q:Value->Shared->Prop}(hh:A.handled=none)(D:ZipApart z TI TO i1 i2 l1 l2)
  (hz:IsZip s.heap z TI TO .none) (PK:IsPair s.heap TI (.ref i1) (.ref i2)) (Wk:IsPair s.heap TO a b) (h1:s.heap.IsListIter i1 l1 0) (h2:s.heap.IsListIter i2 l2 0) (Mc:s.heap.IsList l1 xs.toArray) (Nm:s.heap.IsList l2 ys.toArray)
  (hlen:more.length<=sizeLine) (hp:Paired (ig knd) (xs.zip ys) more)
  (h:∀h' tk,h'.DictOf knd s.heap.objs.size (more.foldl (λa x=>stored a x.1 x.2) [])->(∀b o,b≠z->b≠TO->b≠i1->b≠i2->s.heap.get? b=some o->h'.get? b=some o)->Q (.ref s.heap.objs.size) {s with heap:=h',toks:=tk}):
  wpAny (model prog w) A (call (.type "dict") [.ref z]) Q E s:=by
 refine callType_codes (Q₁:=λobj s₁=>obj= .ref s.heap.objs.size/\s₁={s with heap:=s.heap.push {cls:= .type "dict",data:= .dict #[]}}) F.kt_called_dict (F.kt_typeCall_dict_1 _) F.entry_dict_init (kt_code_dict_new _ ⟨rfl,rfl⟩) ?_
 rintro obj s₁ ⟨rfl,rfl⟩
 have L_:(s.heap.push {cls:= .type "dict",data:= .dict #[]}).DictOf knd s.heap.objs.size []:=LF s.heap
 have ne:∀{c:Addr} {o:Obj},s.heap.get? c=some o->c≠s.heap.objs.size:=fun{c o} e=>GU (GH e)
 obtain⟨o1,e1,r1⟩:=id h1
 obtain⟨o2,e2,r2⟩:=id h2
 obtain⟨o3,e3,r3⟩:=id Mc
 obtain⟨o4,e4,r4⟩:=id Nm
 have O:lF s.heap.objs.size z TI TO i1 i2 l1 l2:=⟨ne hz,ne PK,ne Wk,ne e1,ne e2,ne e3,ne e4⟩
 refine⟨L_.typeIs,F.args_dict_init_2 _ _,?_⟩
 unfold Builtin.«dict.__init__»
 refine Gz ?_
 unfold Builtin.Dict.selfAndRest
 refine Gz (Km L_.typeIs ?_)
 show wpAny _ _ (pure (s.heap.objs.size,[Value.ref z])) _ _ _
 refine GN ?_
 show wpAny _ _ (Builtin.Dict.updateFrom "dict.__init__" s.heap.objs.size (.ref z) [] .none) _ _ _
 unfold Builtin.Dict.updateFrom
 have Tj:(s.heap.push {cls:= .type "dict",data:= .dict #[]}).get? z=some _:=GB _ hz
 refine Gz (KH (s:={s with heap:=s.heap.push {cls:= .type "dict",data:= .dict #[]}}) ⟨_,Tj,rfl⟩ ?_)
 rw[if_pos (by decide)]
 refine Gz (ng (s:={s with heap:=s.heap.push {cls:= .type "dict",data:= .dict #[]}}) Tj hh λh2 Oc k2=>?_)
 rw[if_pos (show((none:Option Value).isNone)=true from rfl)]
 have up:∀b ob,s.heap.get? b=some ob->h2.get? b=some ob:=λb ob e=>k2 b ob (GB _ e)
 have hd2:h2.DictOf knd s.heap.objs.size []:=let ⟨od,es,ep,e,r⟩:=L_;⟨od,es,ep,k2 _ _ e,r⟩
 refine Gz (MZ (Gz (Lp (f0:= .none) (up _ _ hz) ?_)))
 refine GN ⟨IM B8 _,?_⟩
 refine ph (knd:=knd) (xs:=xs) (ys:=ys) (A:=A.in1) hh D O more 0 _ [] _ ⟨up _ _ PK,⟨o1,up _ _ e1,r1⟩,⟨o2,up _ _ e2,r2⟩,⟨o3,up _ _ e3,r3⟩,⟨o4,up _ _ e4,r4⟩,.inl ⟨a,b,up _ _ hz,up _ _ Wk⟩⟩ (by rw[KO];exact hp) hd2 (by simpa using hlen) λh3 tk k3 d3=>⟨rfl,h h3 tk d3 λb ob c1 c2 c3 c4 e=>k3 b ob (ne e) c1 c2 c3 c4 (up b ob e)⟩
end
section
variable {X:Cx} {a b:Expr} {t:TA} {p pos p2 MX:Pos}
def EY (K:Qc)(t:TA):TE:=λσ H Q=>t σ H λvs H1=>∃(l m:Addr) (ks:List j0) (ys:List V),vs=[.ref l,.ref m]/\SqL K H1 l (ks.map kV)/\SqL K H1 m ys/\∀d,H1 d=none->Q (.ref d) (p0 H1 d (.dK (X3 (ks.zip ys))))
theorem rT {P : Program} {w : World} : ∀ {ks : List j0} {ys : List V} {us vs : List Value}, Vals (ks.map kV) us -> Vals ys vs -> ∃ more, Paired (ig (k7 P w)) (us.zip vs) more /\ KV (ks.zip ys) more
 := by
  intro ks ys us vs hu hv;induction ks generalizing ys us vs with
  | nil => cases hu; exact ⟨[], .nil, .nil⟩
  | cons k ks ih => cases hu with
    | cons r t => cases hv with
      | nil => exact ⟨[], .nil, .nil⟩
      | cons r' t' =>
        obtain ⟨more, h1, h2⟩ := ih t t'
        exact ⟨(k, _) :: more, .cons ⟨dj r, rfl⟩ h1, .cons ⟨rfl, r'⟩ h2⟩
theorem Cn (Tx:Gl X "dict")(PJ:X.mg "dict"=none)(Tz:Gl X "zip")(TC:X.mg "zip"=none)(hc:X.calm=true)(ha:PA X [a,b] t)(hs:starEach [a,b] X.env=[(false,eval a X.env),(false,eval b X.env)])(LK:starEach [b] X.env=[(false,eval b X.env)])
  (Wl:starEach [Expr.Call (.Name "zip" p2) [a,b] [] MX] X.env=[(false,eval (Expr.Call (.Name "zip" p2) [a,b] [] MX) X.env)]):PE X (.Call (.Name "dict" p) [.Call (.Name "zip" p2) [a,b] [] MX] [] pos) (EY X.K t):=by
 intro pins s σ H Q I h
 refine IL (Z6 I Tx PJ Boot.«dict» (HW ?_ Wl rfl) (by decide) (by decide))
 rw[Wl]
 show wpAny _ _ (spliced [(false,eval (Expr.Call (.Name "zip" p2) [a,b] [] MX) X.env)]) _ _ s
 refine Jq ?_
 refine IL (Z6 I Tz TC Boot.«zip» (HW (E9 (ha MX pins s σ H _ I h) λus s1 ⟨vs,H1,I1,r1,q1⟩=>?_) (by rw[hs,LK]) (by rw[LK];rfl)) (by decide) (by decide))
 obtain⟨l,m,ks,ys,e,hq,OA,q⟩:=q1
 subst e
 obtain⟨u,v,rfl,ru,rv⟩:=U6 r1
 cases ru
 cases rv
 obtain⟨a_,rv,pl,hz⟩:=I1.list hq
 obtain⟨its',PD,QM,OW⟩:=I1.list OA
 obtain⟨more,g1,g2⟩:=rT (P:=X.prog) (w:=X.w) rv PD
 refine call_zip_2 pl.isList QM.isList λh' z1 z2 z3 z4 z5 hsz hk=>?_
 refine Kf ?_
 have ll:(l:Nat)<(s1.heap.objs.size:Nat):=by obtain⟨o,e,_⟩:=pl.isList;exact GH e
 have lm:(m:Nat)<(s1.heap.objs.size:Nat):=by obtain⟨o,e,_⟩:=QM.isList;exact GH e
 have D:ZipApart (s1.heap.objs.size+4) (s1.heap.objs.size+2) (s1.heap.objs.size+3) s1.heap.objs.size (s1.heap.objs.size+1) l m:=by
  constructor<;>first|exact GU (GK ll (by lia))|exact GU (GK lm (by lia))|(intro z;have z':(_:Nat)=(_:Nat):=z;lia)
 have Wm:more.length<=sizeLine:=by
  have e1:=KV.length g2;rw[JZ] at e1;lia
 refine iX (knd:=k7 X.prog X.w) (s:={s1 with heap:=h'}) (I.ok.hd hc) D z1 z2 z3 z4 z5 ?_ ?_ Wm g1 λh3 tk d3 k3=>?_
 .obtain⟨o,e,r⟩:=pl.isList;exact⟨o,hk _ _ e,r⟩
 .obtain⟨o,e,r⟩:=QM.isList;exact⟨o,hk _ _ e,r⟩
 have QR:s1.heap.objs.size<=h'.objs.size:=by rw[hsz];lia
 refine⟨.ref h'.objs.size,_,I1.laid (a:=h'.objs.size) (t':=tk) (λb o e=>?_) QR (gy (kvs:=X3 (ks.zip ys)) ?_ ?_ (KV.puts g2 .nil) d3),rfl,q _ (I1.hok.fresh QR)⟩
 .have hb:(b:Nat)<(s1.heap.objs.size:Nat):=GH e
  exact k3 b o (GU (GK hb (by lia))) (GU (GK hb (by lia))) (GU (GK hb (by lia))) (GU (GK hb (by lia))) (hk _ _ e)
 .have z:=bw (ks.zip ys) []
  unfold X3
  have e1:=KV.length g2
  simp only[JT] at z
  lia
 .exact IE.mpr (Io (GU (GK I1.big QR)))
theorem FE (K:Qc)(PJ:X.mg "dict"=none)(TC:X.mg "zip"=none)(hc:X.calm=true)(ha:QA X [a,b] t)(Tx:Gl X "dict":=by rfl)(Tz:Gl X "zip":=by rfl)(h:u6 a=true:=by rfl)(h':u6 b=true:=by rfl)(hK:X.K=K:=by rfl):
  QE X (.Call (.Name "dict" p) [.Call (.Name "zip" p2) [a,b] [] MX] [] pos) (EY K t):=⟨hK▸Cn Tx PJ Tz TC hc ha.r (by rw[G8 h,G8 h'];rfl) (G8 h') (G8 rfl)⟩
theorem Ez {K:Qc}{σ:L2.St}{H:Hp}{Q:VK}{t:TA}(q:t σ H λvs H1=>∃(l m:Addr) (ks:List j0) (ys:List V),vs=[.ref l,.ref m]/\SqL K H1 l (ks.map kV)/\SqL K H1 m ys/\∀d,H1 d=none->Q (.ref d) (p0 H1 d (.dK (X3 (ks.zip ys))))):EY K t σ H Q:=q
end
open PySem.AutoSeq1 (wpAny_loadPart')
open PySem.MeetsSeq PySem.MeetsSeq2 PySem.MeetsSeq3
def EqL (K:Qc)(H:Hp)(x y:V)(b:Bool):Prop:=∃(a c:Addr) (xs ys:List V),x= .ref a/\y= .ref c/\SqL K H a xs/\SqL K H c ys/\xs.all E1=true/\ys.all E1=true/\b=Q7 xs ys
section
variable {X:Cx} {pins:List (Addr×Obj)} {σ:St} {H:Hp} {s:Shared} {A:Around}
theorem EqL.at_ {x y:V}{u v:Value}{b:Bool}(I:Inv X pins σ H s)(h:EqL X.K H x y b)(rx:RelV x u)(ry:RelV y v)(hu:A.units+8<cLine):SeqAt.EqAt A s u v b:=by
 obtain⟨a,c,xs,ys,rfl,rfl,ha,hc,fx,fy,rfl⟩:=h;cases rx;cases ry;obtain⟨a_,r1,p1,z1⟩:=I.list ha;obtain⟨its',r2,p2,z2⟩:=I.list hc;by_cases hac:a=c
 .subst hac;have e:=I.list_inj ha hc;subst e;rw[eX fx];exact Jt _
 .have l1:=r1.length;have l2:=r2.length;by_cases hl:xs.length=ys.length
  .have q:=SeqAt.RcAt.lists (A:=A) (e:=λj=>cG (xs.getD j .non) (ys.getD j .non)) p1.isList p2.isList (by simp;lia) (by lia) λj g1 g2=>by
    have LO:j<a_.length:=by simpa using g1
    have LW:j<its'.length:=by simpa using g2
    have x1:xs[j]?=some (xs[j]'(by lia)):=by simp [show j<xs.length by lia]
    have y1:ys[j]?=some (ys[j]'(by lia)):=by simp [show j<ys.length by lia]
    obtain⟨u1,MR,MA⟩:=r1.get x1;obtain⟨u2,MS,MB⟩:=r2.get y1;have e1:a_.toArray[j]=u1:=by
     have:=Gu LO;rw[MR] at this;simpa using(GL this).symm
    have e2:its'.toArray[j]=u2:=by
     have:=Gu LW;rw[MS] at this;simpa using(GL this).symm
    rw[e1,e2];have d1:xs.getD j .non=xs[j]'(by lia):=by rw[Hj,x1];rfl
    have d2:ys.getD j .non=ys[j]'(by lia):=by rw[Hj,y1];rfl
    rw[d1,d2];exact aR MA MB (Hk.mp fx _ (Hv _)) (Hk.mp fy _ (Hv _))
   have e3:a_.toArray.size=min xs.length ys.length:=by simp;lia
   have z:=N6 xs ys;rw[show(xs.length==ys.length)=true by simpa using hl,JW] at z;rw[e3,z] at q;exact .of_refs hac q
  .rw[dh hl];exact .of_refs hac (JM p1.isList p2.isList (by simp;lia) (by lia))
end
section
variable {X:Cx}
def pN (K:Qc):V->List V->Hp->VK->Prop:=λx vs H Q=>∃(l:Addr) (xs:List V) (y:V) (f:V->Bool),x= .ref l/\vs=[y]/\H l=some (.lst xs)/\(∀z∈xs,EqL K H z y (f z))/\Q (.int (xs.countP f:Nat)) H
theorem fX {k:Nat}(hr:Room k X.A):uO X "list.count" (pN X.K):=by
 intro pins s σ H x vs v us Q I rx rv h;obtain⟨l,xs,y,f,rfl,rfl,hl,he,q⟩:=h;cases rx;obtain⟨u,rfl,ru⟩:=G6 rv;obtain⟨hz,a_,n,r,hle,e⟩:=I.lstM hl;refine LU F.slot_list_count ⟨_,e,rfl⟩ F.entry_list_count (F.args_list_count_2 _ _) (SeqAt.list_countAt l a_.toArray n _ _ u (f∘BN)) ⟨e,λw hw=>?_,?_⟩
 .obtain⟨z,OW,rz⟩:=fw r (show w∈a_ by simpa using hw);have g:=EqL.at_ (A:=X.A.in1) I (he z OW) rz ru (by have:=hr.un;show X.A.units+1+8<cLine;lia);rw[show(f∘BN) w=f z by show f (BN w)=f z;rw[wG rz]];exact g
 .refine⟨.int (xs.countP f:Nat),H,I.tok _,⟨s.toks,?_⟩,q⟩;show Value.int (a_.countP (f∘BN):Nat) _=_;rw[CY r]
theorem fW {X:Cx}{k:Nat}(K:Qc)(hr:Room k X.A)(h:X.K=K:=by rfl):uO X "list.count" (pN K):=h▸fX hr
theorem lG {X:Cx}:uO X "list.pop" CO:=zL
theorem EB {pos:Pos}:QE X (.Dict [] [] pos) vP:=⟨uk⟩
end
section
variable {P:Program} {w:World}
end
section
variable {X:Cx}
end
section
variable {K:Qc} {H:Hp} {Q:VK} {x y:V}
end
end L2
namespace PySem
section
variable {prog:Program} {w:World} {K:Type} [DecidableEq K] {A:Around} {E:Value->Shared->Prop} {s:Shared}
theorem T8 {knd:HeapKind prog w K}{d a:Addr}{xs:List (K×Addr×Value)}{k:K}{v:Value}{Q:Value->Shared->Prop}(hu:knd.room A)(w_:knd.is s.heap k a)(hm:s.heap.DictOfH knd d xs)
  (OZ:∀p,atKey xs k=some p->Q p.2 {s with toks:=s.toks+knd.draws k})
  (hQ:atKey xs k=none->∀h',h'.DictOfH knd d (storedH xs k a v)->Heap.SameBut d s.heap h'->Q v {s with heap:=h',toks:=s.toks+knd.draws k})
  (hsz:xs.length<=sizeLine):
  wpAny (model prog w) A (dictSetDefault d (.ref a) v) Q E s:=by
 obtain⟨o,es,ep,ho,hc,hd,he,Wn,hn⟩:=hm
 unfold dictSetDefault
 try with_reducible refine HU ?_
 refine Gz (knd.pyHash hu w_ ?_)
 refine Gz (wpAny_dictFind_heap (s:={s with toks:=s.toks+knd.draws k}) hu w_ ho hd he Wn hn ?_ ?_)
 .intro m_
  have TF:k∉xs.map (·.1):=not_mem_keys_of_get m_
  refine Gz (MZ (Gz (wpAny_updateDictKeys (hz:=by have e:=size_of_entries he;lia) (s:={s with toks:=s.toks+knd.draws k}) ho hd (GN (hQ (Kg m_) _ ⟨_,_,ep+1,Heap.get?_update_self _ ho (Obj.isFreed_of_dict (Obj.data_mapDictKeys hd _)),
   hc.mapDictKeys _,Obj.data_mapDictKeys hd _,?_,?_,?_⟩ (Kx ..))))))
  .rw[storedH_new (Kg m_)]
   simp [he,entryOfKey]
  .rw[storedH_new (Kg m_)]
   intro x hx
   rcases GO.mp hx with hx|hx
   .exact knd.keeps (Wn x hx) ho hd (Kx ..)
   .simp only[GZ] at hx
    subst hx
    exact knd.keeps w_ ho hd (Kx ..)
  .rw[storedH_new (Kg m_)]
   rw[Gy,GX]
   refine⟨hn,by simp,?_⟩
   intro x hx y hy
   simp only[Hu,KI,GZ] at hy
   subst hy
   exact λe=>TF (e▸hx)
 .intro j p hj
  refine Gz (wpAny_dictEntries (s:={s with toks:=s.toks+knd.draws k}) ho hd ?_)
  rw[entry_at he j,hj]
  exact Gz (MZ (GN (OZ _ (atKey_of_get hn hj))))
theorem ae (knd:HeapKind prog w K)(d a:Addr)(hd:(d==sysModules)=false)(dflt:Value):
  MeetsIn prog w (Builtin.«dict.setdefault» ⟨[.ref d,.ref a,dflt],[]⟩) (λA R s=>knd.room A.in1/\∃k xs,knd.is s.heap k a/\s.heap.DictOfH knd d xs/\xs.length<=sizeLine/\
   (∀p,atKey xs k=some p->R (.ok (.ret p.2)) {s with toks:=s.toks+knd.draws k})/\
   (atKey xs k=none->∀h',h'.DictOfH knd d (storedH xs k a dflt)->Heap.SameBut d s.heap h'->R (.ok (.ret dflt)) {s with heap:=h',toks:=s.toks+knd.draws k})):=
 .of_wp λA R s ⟨hu,k,xs,hk,hm,hz,h1,h2⟩=>by
  unfold Builtin.«dict.setdefault»;refine Gz ?_;unfold Builtin.Dict.keyAndDefault;refine Gz (Km hm.typeIs ?_);show wpAny _ _ (pure (d,Value.ref a,some dflt)) _ _ s;refine GN ?_;show wpAny _ _ (if(d==sysModules)=true then _ else(dictSetDefault d (.ref a) dflt>>=_)) _ _ s;rw[if_neg (by rw[hd];exact Hi)];exact Gz (T8 hu hk hm (λp hp=>GN ⟨_,rfl,h1 p hp⟩) (λhn h' hm' J'=>GN ⟨dflt,rfl,h2 hn h' hm' J'⟩) hz)
end
end PySem
namespace L2
open PySem PySem.Spec PyProof.Rows
section
variable {X:Cx}
def xW:V->List V->Hp->VK->Prop:=λx vs H Q=>∃(d t:Addr) (kvs:List (List j0×V)) (k:List j0) (v:V),x= .ref d/\vs=[.ref t,v]/\H d=some (.dT kvs)/\H t=some (.tup (k.map kV))/\kvs.length<sizeLine/\
 (match p8 kvs k with|some u=>Q u H|none=>Q v (p0 H d (.dT (B9 kvs k v))))
theorem bH {k:Nat}(hr:Room k X.A):uO X "dict.setdefault" xW:=by
 intro pins s σ H x vs v us Q I rx rv h;obtain⟨d,t,kvs,k',y,rfl,rfl,e,et,hl,q⟩:=h;cases rx;obtain⟨u1,u2,rfl,r1,r2⟩:=U6 rv;cases r1;obtain⟨z,hd,xs,rel,dd⟩:=zl I.hok e;have hz:xs.length<=sizeLine:=by rw[←Hn rel];exact z
 have NP:(B9 kvs k' y).length<=sizeLine:=by have:=F5 kvs k' y;lia
 refine Ik F.slot_dict_setdefault dd.typeIs F.entry_dict_setdefault (F.args_dict_setdefault_3 _ _ _) (ae (tupleKind (k7 X.prog X.w)) d t hd u2) ⟨Iw (by have:=hr.un;lia),k',xs,ba I.hok et,dd,hz,λp hp=>?_,λhn h' dd' hs=>?_⟩
 .have hw:(atKey xs k').map (·.2)=some p.2:=by rw[hp];rfl
  have ro:=rel.val k';rw[hw] at ro;cases hv:p8 kvs k' with
  |none=>rw[hv] at ro;cases ro
  |some w'=>
   rw[hv] at ro q
   exact⟨w',H,I.tok _,ro,q⟩
 .have ro:=rel.val k';rw[hn] at ro;cases hv:p8 kvs k' with
  |some w'=>rw[hv] at ro;cases ro
  |none=>
   rw[hv] at q
   refine⟨y,_,?_,r2,q⟩
   obtain⟨o',es,ep,hq,h2,h3,h4,_,h5⟩:=dd'
   refine cQ I (by rw[e];exact True.intro) hs ⟨o',hq⟩ ⟨NP,hd,_,(rel.put k' et r2).keeps λc ys ec=>?_,o',es,ep,hq,h2,h3,h4,h5⟩
   rw[b9 (yN ec e (λz=>nomatch z))]
   exact ec
end
section
variable {X:Cx}
def tR (K:Qc):List V->Hp->VK->Prop:=λxs H Q=>∃(t:Addr) (a b:Str),xs=[.ref t]/\SqT K H t [.str a,.str b]/\Q (.str (if a.cps.toList<b.cps.toList then b else a)) H
theorem sG (hc:X.calm=true):CallR X (.builtin "max") (tR X.K):=by
 intro pins s σ H xs us Q I r h;obtain⟨t,a,b,rfl,ht,q⟩:=h;obtain⟨u,rfl,ru⟩:=G6 r;cases ru;obtain⟨a_,rv,p,hz⟩:=I.tuple ht;obtain⟨_,_,rfl,⟨t1,rfl⟩,⟨t2,rfl⟩⟩:=U6 rv;refine call_max_walk (wpAny_pyIter_tuple (show s.heap.IsTuple t #[Value.str a t1,Value.str b t2] from p) ?_);have j':t<s.heap.objs.size:=by
  obtain⟨o,e,_⟩:=(show s.heap.IsTuple t #[Value.str a t1,Value.str b t2] from p)
  exact GH e
 have kp:∀c o,s.heap.get? c=some o->(s.heap.push {cls:= .type "tuple_iterator",data:= .fields #[.ref t,.int 0 0]}).get? c=some o:=λc o e=>GB _ e;refine⟨s.heap.objs.size,[s.heap.objs.size,t],[s.heap.objs.size],2,_,_,λi j=>decide ((if j=0 then a else b).cps.toList<(if i=0 then a else b).cps.toList),rfl,Walks.tuple (A:=X.A.in1) (show X.A.in1.handled=none from I.ok.hd hc) s.heap.objs.size t (GU j') #[Value.str a t1,Value.str b t2],⟨⟨_,GW _ rfl,rfl,rfl⟩,let ⟨o,e,r⟩:=p;⟨o,kp _ _ e,r⟩⟩,λc L'=>?_,by decide,?_,?_⟩
 .show c<(s.heap.push _).objs.size;rcases Hh.mp L' with rfl|L'
  .simp [Heap.push]
  .rw[GZ.mp L'];have z:s.heap.objs.size<(s.heap.push {cls:= .type "tuple_iterator",data:= .fields #[.ref t,.int 0 0]}).objs.size:=by simp [Heap.push]
   exact LD j' z
 .intro i j vi vj s' Q' E' hi hj hQ;have key:∀(i:Nat) (v:Value),(#[Value.str a t1,Value.str b t2]:Array Value)[i]?=some v->∃tk,v= .str (if i=0 then a else b) tk:=λi v h=>by
   match i,h with
   |0,h=>exact⟨t1,by simpa using h.symm⟩
   |1,h=>exact⟨t2,by simpa using h.symm⟩
   |n+2,h=>simp at h
  obtain⟨k1,rfl⟩:=key i vi hi;obtain⟨k2,rfl⟩:=key j vj hj;exact richCompare_gives (op:= .Gt) (LS _ _ _) (LS _ _ _) F.slot_str_gt F.entry_str_gt (F.args_str_gt_2 _ _) (gives_str_gt _ _ _ _) (λe=>nomatch e) hQ
 .intro v h' tk hv hk;have I2:Inv X pins σ H {s with heap:=h',toks:=tk}:=I.kept λc o e=>hk c o (λz=>by rw[GZ.mp z] at e;exact absurd (GH e) (Ib _)) (kp c o e);refine⟨_,H,I2,?_,q⟩;by_cases hl:a.cps.toList<b.cps.toList
  .have e:argBest (λi j=>decide ((if j=0 then a else b).cps.toList<(if i=0 then a else b).cps.toList)) (2 -1)=1:=by show(if decide (a.cps.toList<b.cps.toList)=true then 1 else 0)=1;rw[if_pos (Hf hl)]
   rw[e] at hv;rw[if_pos hl];exact⟨t2,by simpa using hv.symm⟩
  .have e:argBest (λi j=>decide ((if j=0 then a else b).cps.toList<(if i=0 then a else b).cps.toList)) (2 -1)=0:=by show(if decide (a.cps.toList<b.cps.toList)=true then 1 else 0)=0;rw[if_neg (by rw[Hc hl];decide)]
   rw[e] at hv;rw[if_neg hl];exact⟨t1,by simpa using hv.symm⟩
theorem CC (K:Qc)(hc:X.calm=true)(h:X.K=K:=by rfl):CallR X (.builtin "max") (tR K):=h▸sG hc
end
theorem Bu {K:Qc}{H:Hp}{Q:VK}{t:Addr}{a b:Str}(h:SqT K H t [.str a,.str b])(q:Q (.str (if a.cps.toList<b.cps.toList then b else a)) H):tR K [.ref t] H Q:=⟨t,a,b,rfl,h,q⟩
structure Gj (K:Qc) (x qual:Str) (st:Stmt) (T:Addr) (f:Addr) (fd:FuncData):Prop where
 ex:∃(oc:Value) (od:Option Addr) (kV doc pm:Value) (an:Option Addr) (d_ ct:Value) (Mq:Array (Option Value)),
  fd=PySem.W.fnOf x qual (U2 st) (O6 st) (i7 st) (.ref T) kV doc pm an d_ ct/\K.lookup f=some ⟨oc,od,.func fd,Mq⟩/\PySem.W.codeIn K d_ qual=true
 kp:PySem.W.keepIn K (.ref f)=true
section
variable {P:Program} {w:World} {K:Qc} {mg:Str->Option Value} {base:Heap}
end
open PySem.AutoSeq1 (wpAny_loadPart')
open PySem.MeetsSeq PySem.MeetsSeq2 PySem.MeetsSeq3
section
variable {P:Program} {w:World}
end
section
variable {X:Cx}
end
section
variable {α β:Type}
end
def FX (rk:Value->Int)(p:Keyed):Keyed:=(.int (rk p.1) 0,p.2)
def kA (rk:Value->Int)(st:SortSt)(i:Nat):Int:=K ((arrOf st).map (FX rk)) i
structure TB (kd:SortKind) (base:Array Keyed) (st:SortSt):Prop where
 pm:(arrOf st).Perm base
 kd:kindOf st=kd
 fl:failedOf st=none
 pe:pendingOf st= #[]
section
variable {prog:Program} {w:World} {A:Around} {E:Value->Shared->Prop} {s:Shared} {rk:Value->Int} {kd:SortKind} {base:Array Keyed} {st:SortSt}
def Gk (rk:Value->Int)(st:SortSt)(n:Nat):Prop:=∀i j,i<=j->j<n->kA rk st i<=kA rk st j
end
section
variable {prog:Program} {w:World} {A:Around} {E:Value->Shared->Prop} {s:Shared} {rk:Value->Int} {kd:SortKind} {base:Array Keyed} {st:SortSt}
structure TD (rk:Value->Int) (base:Array Keyed) (st:SortSt):Prop where
 pm:(arrOf st).Perm base
 fl:failedOf st=none
 pe:pendingOf st= #[(0,base.size,0)]
 up:Gk rk st base.size
end
def Fs:V->List Nat
 | .str a=>a.cps.toList
 | .bl b=>[b.toNat]
 |_=>[]
abbrev EK (xs:List V):List (List Nat):=xs.map Fs
theorem xh {a b:Str}(h:a.cps.toList=b.cps.toList):a=b:=by
 cases a;cases b;congr;exact Array.toList_inj.mp h
section
variable {P:Program} {w:World} {A:Around} {E:Value->Shared->Prop} {s:Shared}
end
abbrev Ga:=List (List Nat)
section
variable {P:Program} {w:World} {A:Around} {E:Value->Shared->Prop} {s:Shared}
structure Gg (h:Heap) (kf:Value->Ga) (v:Value):Prop where
 at_:∃(a:Addr) (us:List Value) (xs:List V) (x:Str) (r:List V),v= .ref a/\h.IsTuple a us.toArray/\Vals xs us/\xs= .str x::r/\kf v=EK xs
end
section
variable {P:Program} {w:World} {A:Around} {E:Value->Shared->Prop} {s:Shared}
end
section
variable {X:Cx}
end
abbrev Lk:=Str×Bool×Bool
def Dd (c:Lk):List V:=[.str c.1,.bl c.2.1,.bl c.2.2]
theorem Ds (c d:Lk):Q7 (Dd c) (Dd d)=decide (c=d):=by
 obtain⟨c1,c2,c3⟩:=c;obtain⟨d1,d2,d3⟩:=d;show(c1==d1&&(c2==d2&&(c3==d3&&true)))=_;rw[Hq];simp
theorem zW {c d:Lk}(h:Dd c=Dd d):c=d:=by
 obtain⟨c1,c2,c3⟩:=c;obtain⟨d1,d2,d3⟩:=d;have h1:=V.str.inj (Jj h).1;have h2:=V.bl.inj (Jj (Jj h).2).1;have h3:=V.bl.inj (Jj (Jj (Jj h).2).2).1;rw[show c1=d1 from h1,show c2=d2 from h2,show c3=d3 from h3]
def mL (K:Qc)(H:Hp)(xs:List V)(cs:List Lk):Prop:=Paired (λv c=>∃t,v=V.ref t/\SqT K H t (Dd c)) xs cs
structure LkV (K:Qc) (H:Hp) (u:V) (kd:Str) (cs:List Lk):Prop where
 ex:∃(a l:Addr) (xs:List V),u= .ref a/\SqT K H a [.str kd,.ref l]/\SqL K H l xs/\mL K H xs cs
section
variable {X:Cx} {pins:List (Addr×Obj)} {σ:St} {H:Hp} {s:Shared}
theorem uQ (I : Inv X pins σ H s) : ∀ {xs : List V} {cs ds : List Lk}, mL X.K H xs cs -> mL X.K H xs ds -> cs = ds
 := by
  intro xs cs ds h1 h2;induction h1 generalizing ds with
  | nil => cases h2; rfl
  | cons a r ih => cases h2 with
    | cons a' r' =>
      obtain ⟨t, e, h⟩ := a
      obtain ⟨t', e', h'⟩ := a'
      rw [e] at e'
      cases e'
      rw [zW (I.tuple_inj h h'), ih r']
theorem Dl (I:Inv X pins σ H s){A:Around}{l m:Addr}{xs ys:List V}{cs ds:List Lk}(h1:SqL X.K H l xs)(h2:SqL X.K H m ys)(p1:mL X.K H xs cs)(p2:mL X.K H ys ds)(hu:A.units+48<cLine):EqP X.prog X.w A s (.ref l) (.ref m) (decide (cs=ds)):=by
 by_cases e:l=m
 .subst e;have ex:=I.list_inj h1 h2;subst ex;rw[Hf (uQ I p1 p2)];exact .of (Jt _)
 .obtain⟨us,r1,q1,z1⟩:=I.list h1;obtain⟨vs,r2,q2,z2⟩:=I.list h2;have a1:=r1.length;have a2:=r2.length;have b1:=Hn p1;have b2:=Hn p2;by_cases hl:xs.length=ys.length
  .have q:=RcP.lst (P:=X.prog) (w:=X.w) (A:=A) (f:=λj=>decide (cs[j]?=ds[j]?)) q1.isList q2.isList (by simp;lia) (by lia) λj g1 g2=>by
    have LO:j<us.length:=by simpa using g1
    have LW:j<vs.length:=by simpa using g2
    have x1:xs[j]?=some (xs[j]'(by lia)):=Gu _;have y1:ys[j]?=some (ys[j]'(by lia)):=Gu _;obtain⟨u1,MR,MA⟩:=r1.get x1;obtain⟨u2,MS,MB⟩:=r2.get y1;have e1:us.toArray[j]=u1:=by
     have:=Gu LO;rw[MR] at this;simpa using(GL this).symm
    have e2:vs.toArray[j]=u2:=by
     have:=Gu LW;rw[MS] at this;simpa using(GL this).symm
    obtain⟨c,hc,t1,Yd,s1⟩:=C8 p1 x1;obtain⟨d,hd,t2,Ye,s2⟩:=C8 p2 y1;rw[e1,e2,hc,hd];rw[Yd] at MA;rw[Ye] at MB;have z:=EqN.at_ (n:=0) (A:=A.in1) I (.inl (Eq1.tup s1 s2 rfl rfl)) MA MB (by show A.units+1+32+0<cLine;lia);rw[Ds] at z;rw[show decide (some c=some d)=decide (c=d) by simp];exact z
   have e3:(List.range us.toArray.size).all (λj=>decide (cs[j]?=ds[j]?))=decide (cs=ds):=by
    rw[Hq,Hk,GS];constructor
    .intro h;refine Nc λj=>?_;rcases Il j us.length with z|z
     .exact HI (h j (by simpa using z))
     .rw[HH (by lia),HH (by lia)]
    .rintro rfl j _;exact Hf rfl
   rw[e3] at q;exact .refs e q
  .have G':cs≠ds:=λz=>hl (by rw[b1,b2,z]);rw[Hc G'];exact .of (.of_refs e (JM q1.isList q2.isList (by simp;lia) (by lia)))
end
section
variable {X:Cx}
def zm (K:Qc):R2:=λx y H Q=>∃(kd I_:Str) (cs ds:List Lk),LkV K H x kd cs/\LkV K H y I_ ds/\Q (.bl (decide (kd=I_)&&decide (cs=ds))) H
theorem yJ (hu:X.A.units+64<cLine):OpR X (compareOp .Eq) (zm X.K):=by
 intro pins s σ H x y v u Q I rx ry h;obtain⟨kd,I_,cs,ds,⟨a,l,xs,rfl,t1,s1,p1⟩,⟨c,m,ys,rfl,t2,s2,p2⟩,k⟩:=h;cases rx;cases ry;obtain⟨us,r1,q1,z1⟩:=I.tuple t1;obtain⟨vs,r2,q2,z2⟩:=I.tuple t2;obtain⟨u1,u2,rfl,⟨Sb,rfl⟩,e2⟩:=U6 r1;obtain⟨v1,v2,rfl,⟨Oc,rfl⟩,f2⟩:=U6 r2;cases e2;cases f2;have q:=RcP.tup (P:=X.prog) (w:=X.w) (A:=X.A) (f:=λj=>if j=0 then decide (kd=I_) else decide (cs=ds)) (show s.heap.IsTuple a #[Value.str kd Sb,Value.ref l] from q1) (show s.heap.IsTuple c #[Value.str I_ Oc,Value.ref m] from q2) (by lia) λj g1 g2=>by
  match j,g1,g2 with
  |0,_,_=>
   have z:=EqP.of (P:=X.prog) (w:=X.w) (aR (A:=X.A.in1) (s:=s) (y:= .str kd) (x:= .str I_) ⟨Sb,rfl⟩ ⟨Oc,rfl⟩ rfl rfl)
   rw[show cG (.str kd) (.str I_)=decide (kd=I_) from rfl] at z
   exact z
  |1,_,_=>exact Dl (A:=X.A.in1) I s1 s2 p1 p2 (by show X.A.units+1+48<cLine;lia)
  |n+2,g1,_=>exact absurd g1 (by simp)
 have e:((List.range (min (#[Value.str kd Sb,Value.ref l]:Array Value).size (#[Value.str I_ Oc,Value.ref m]:Array Value).size)).all (λj=>if j=0 then decide (kd=I_) else decide (cs=ds))&&(#[Value.str kd Sb,Value.ref l]:Array Value).size==(#[Value.str I_ Oc,Value.ref m]:Array Value).size)=(decide (kd=I_)&&decide (cs=ds)):=by
  show(([0,1]:List Nat).all _&&true)=_;simp
 rw[e] at q;exact q _ _ ⟨.bl _,H,I,rfl,k⟩
def zi (K:Qc):R2:=λx y H Q=>fz K x y H Q\/zm K x y H Q
theorem Ct (K:Qc){k:Nat}(hr:Room k X.A)(h:X.K=K:=by rfl):OpR X (compareOp .Eq) (zi K):=(M9 K hr h).or (h▸yJ hr.units)
def EqA (K:Qc)(H:Hp)(x y:V)(b:Bool):Prop:=(∃a c,x= .str a/\y= .str c/\b=decide (a=c))\/∃(kd I_:Str) (cs ds:List Lk),LkV K H x kd cs/\LkV K H y I_ ds/\b=(decide (kd=I_)&&decide (cs=ds))
theorem DZ {K:Qc}{H:Hp}{Q:VK}{x y:V}{b:Bool}(h:EqA K H x y b)(q:Q (.bl b) H):zi K x y H Q:=by
 rcases h with⟨a,c,rfl,rfl,rfl⟩|⟨kd,I_,cs,ds,h1,h2,rfl⟩
 .exact .inl (iO q)
 .exact .inr ⟨kd,I_,cs,ds,h1,h2,q⟩
theorem LkV.mono {K:Qc}{H H':Hp}{u:V}{kd:Str}{cs:List Lk}(l:Le H H')(h:LkV K H u kd cs):LkV K H' u kd cs:=by
 obtain⟨a,m,xs,e,t,s,p⟩:=h;exact⟨a,m,xs,e,l.tup t,l.lst s,Paired.imp' (λ_ _ ⟨t,e,z⟩=>⟨t,e,l.tup z⟩) p⟩
theorem EqA.mono {K:Qc}{H H':Hp}{x y:V}{b:Bool}(l:Le H H')(h:EqA K H x y b):EqA K H' x y b:=by
 rcases h with h|⟨kd,I_,cs,ds,h1,h2,e⟩
 .exact .inl h
 .exact .inr ⟨kd,I_,cs,ds,h1.mono l,h2.mono l,e⟩
end
open PySem.AutoSeq1 (wpAny_loadPart')
open PySem.MeetsSeq PySem.MeetsSeq2 PySem.MeetsSeq3
section
variable {P:Program} {w:World}
end
section
variable {X:Cx}
end
structure FnIn (K:Qc) (n:Str) (st:Stmt) (f:Addr):Prop where
 a:PySem.W.nsIn K mainGlobals n=some (some (.ref f))
 F:∃fd,Fun K n n st f fd
theorem FnIn.mk' {K:Qc}{n:Str}{st:Stmt}{f:Addr}{oc:Value}{od an:Option Addr}{Mq:Array (Option Value)}{kV doc pm d_ ct:Value}(a:PySem.W.nsIn K mainGlobals n=some (some (.ref f)))(l:K.lookup f=some ⟨oc,od,.func (PySem.W.fnOf n n (U2 st) (O6 st) (i7 st) .none kV doc pm an d_ ct),Mq⟩)
  (c:PySem.W.codeIn K d_ n=true) (k:PySem.W.keepIn K (.ref f)=true):FnIn K n st f:=⟨a,_,Au l c k⟩
theorem j9 {P:Program}{w:World}{K:Qc}{mg:Str->Option Value}{base h:Heap}{CX:lO}{k:Nat}{n:Str}{st:Stmt}{ps:List Str}{sp:Sp}{f:Addr}(X:K.In h)(G:h.Ns mainGlobals mg)(a:FnIn K n st f)(ok:∀{f fd},Fun K n n st f fd->A3 P w K mg base CX k f fd ps sp)
  (b:∀(kV doc pm:Value) (an:Option Addr) (d_ ct:Value) (us:List Value),us.length=ps.length->bindArgs (PySem.W.fnOf n n (U2 st) (O6 st) (i7 st) .none kV doc pm an d_ ct) ⟨us,[]⟩=pure (ps.zip us)):O4 P w K mg base CX k n ps [] sp:=by
 obtain⟨fd,F⟩:=a.F
 exact⟨f,_,[],ok F,IB X G a.a,F.kp,F.binds b,.nil⟩
theorem Ac {P:Program}{w:World}{K:Qc}{mg:Str->Option Value}{h:Heap}{CX:lO}{k:Nat}{st:Stmt}{p:Str}{sp:Sp}{f fa:Addr}(X:K.In h)(G:h.Ns mainGlobals mg)(TJ:mg "law"=some (.ref fa))(a:FnIn K "law" st f)(ok:∀{base f fd},Fun K "law" "law" st f fd->A3 P w K mg base CX k f fd [p] sp)
  (b:∀(kV doc pm:Value) (an:Option Addr) (d_ ct:Value) (s:Shared) (v:Value),BindsTo s (PySem.W.fnOf "law" "law" (U2 st) (O6 st) (i7 st) .none kV doc pm an d_ ct) ⟨[v],[]⟩ [(p,v)]):
  ∃fd:FuncData,(∀(s:Shared) (v:Value),BindsTo s fd ⟨[v],[]⟩ [(p,v)])/\∀base:Heap,K.In base->base.Ns mainGlobals mg->A3 P w K mg base CX k fa fd [p] sp:=by
 obtain⟨fd,F⟩:=a.F
 have e:=TJ.symm.trans (IB X G a.a)
 cases e
 obtain⟨oc,od,kV,doc,pm,an,d_,ct,Mq,rfl,lk,Mn⟩:=id F.ex
 exact⟨_,λs v=>b _ _ _ _ _ _ s v,λbase _ _=>ok F⟩
section
variable {fd:FuncData} {ps:List Str} {us:List Value}
theorem uc {us:List Value}{n:Nat}(h:us.length=n+1):∃a r,us=a::r/\r.length=n:=by
 cases us with
 |nil=>cases h
 |cons a r=>exact⟨a,r,rfl,Nat.succ.inj h⟩
theorem Gm (h:us.length=1)(g:∀a:Value,bindArgs fd ⟨[a],[]⟩=pure (ps.zip [a])):bindArgs fd ⟨us,[]⟩=pure (ps.zip us):=by
 obtain⟨a,us,rfl,h1⟩:=uc h;cases us with
 |nil=>exact g a
 |cons _ _=>cases h1
theorem FQ (h:us.length=2)(g:∀a b:Value,bindArgs fd ⟨[a,b],[]⟩=pure (ps.zip [a,b])):bindArgs fd ⟨us,[]⟩=pure (ps.zip us):=by
 obtain⟨a,us,rfl,h1⟩:=uc h;obtain⟨b,us,rfl,h2⟩:=uc h1;cases us with
 |nil=>exact g a b
 |cons _ _=>cases h2
theorem Gi (h:us.length=3)(g:∀a b c:Value,bindArgs fd ⟨[a,b,c],[]⟩=pure (ps.zip [a,b,c])):bindArgs fd ⟨us,[]⟩=pure (ps.zip us):=by
 obtain⟨a,us,rfl,h1⟩:=uc h;obtain⟨b,us,rfl,h2⟩:=uc h1;obtain⟨c,us,rfl,h3⟩:=uc h2;cases us with
 |nil=>exact g a b c
 |cons _ _=>cases h3
theorem FP (h:us.length=4)(g:∀a b c d:Value,bindArgs fd ⟨[a,b,c,d],[]⟩=pure (ps.zip [a,b,c,d])):bindArgs fd ⟨us,[]⟩=pure (ps.zip us):=by
 obtain⟨a,us,rfl,h1⟩:=uc h;obtain⟨b,us,rfl,h2⟩:=uc h1;obtain⟨c,us,rfl,h3⟩:=uc h2;obtain⟨d,us,rfl,h4⟩:=uc h3;cases us with
 |nil=>exact g a b c d
 |cons _ _=>cases h4
theorem Gn (h:us.length=5)(g:∀a b c d e:Value,bindArgs fd ⟨[a,b,c,d,e],[]⟩=pure (ps.zip [a,b,c,d,e])):bindArgs fd ⟨us,[]⟩=pure (ps.zip us):=by
 obtain⟨a,us,rfl,h1⟩:=uc h;obtain⟨b,us,rfl,h2⟩:=uc h1;obtain⟨c,us,rfl,h3⟩:=uc h2;obtain⟨d,us,rfl,h4⟩:=uc h3;obtain⟨e,us,rfl,h5⟩:=uc h4;cases us with
 |nil=>exact g a b c d e
 |cons _ _=>cases h5
theorem FO (h:us.length=6)(g:∀a b c d e f:Value,bindArgs fd ⟨[a,b,c,d,e,f],[]⟩=pure (ps.zip [a,b,c,d,e,f])):bindArgs fd ⟨us,[]⟩=pure (ps.zip us):=by
 obtain⟨a,us,rfl,h1⟩:=uc h;obtain⟨b,us,rfl,h2⟩:=uc h1;obtain⟨c,us,rfl,h3⟩:=uc h2;obtain⟨d,us,rfl,h4⟩:=uc h3;obtain⟨e,us,rfl,h5⟩:=uc h4;obtain⟨f,us,rfl,h6⟩:=uc h5;cases us with
 |nil=>exact g a b c d e f
 |cons _ _=>cases h6
end
section
variable {J:It} {th:Hp->Hp} {g:V->St->Hp->(St->Hp->Prop)->Prop} {tb:TS} {nx:St->Hp->Prop} {rt:V->Hp->Prop} {σ:St} {H:Hp} {n:Nat}
end
def wC (K:Qc)(T:Addr)(tb:(St->XK)->TS)(ts:TS):TS:=λD σ H=>
 tb (λσ' c oa H'=>∃C a,c= .ref C/\oa=some a/\PySem.W.subIn K (.ref C) (.ref T)=some true/\ts D σ' (p0 H' a (.ext (aV a C)))) D σ H
theorem Ai {K:Qc}{T:Addr}{tb:(St->XK)->TS}{ts:TS}{D:nz}{σ:St}{H:Hp}(q:tb (λσ' c oa H'=>∃C a,c= .ref C/\oa=some a/\PySem.W.subIn K (.ref C) (.ref T)=some true/\ts D σ' (p0 H' a (.ext (aV a C)))) D σ H):wC K T tb ts D σ H:=q
section
variable {X:Cx} {x:Str} {T:Addr} {np NC pos:Pos} {b₀:Stmt} {body suite:List Stmt} {tb:(St->XK)->TS} {ts:TS}
theorem xj (O:EJ X.K X.mg x T)(hb:∀pins Es,PSs (X.tried pins Es) body (tb Es))(hs:∀e,PSs (X.suite e) (b₀::suite) ts)
  (Nq:X.stack=X.env::X.outer) (MY:X.env.frame=some X.env.locals) (hex:X.ex=[]) (hg:Gl X x:=by rfl) (q_:(x==("__debug__":Str))=false:=by decide):
  PS X (.Try body [.ExceptHandler (some (.Name x np)) none (b₀::suite) NC] [] [] pos) (wC X.K T tb ts):=by
 intro pins s σ H D I hw
 refine wpAny_Try_except (Kr (hb pins _ [] s σ H D I.toTried hw) (λf s1 q=>?_) λe s1 q=>?_)
 .cases f with
  |next=>obtain⟨σ',H',I',q'⟩:=q;exact JP ⟨σ',H',I'.ofTried,q'⟩
  |brk=>obtain⟨σ',H',I',q'⟩:=q;exact⟨σ',H',I'.ofTried,q'⟩
  |cont=>obtain⟨σ',H',I',q'⟩:=q;exact⟨σ',H',I'.ofTried,q'⟩
  |ret u=>obtain⟨v,σ',H',I',r',q'⟩:=q;exact⟨v,σ',H',I'.ofTried,r',q'⟩
 .obtain⟨i',σ',H1,s2,I2',a,C',a0,B,H',rfl,F,C,a',ec,ea,Ly,K_⟩:=q
  cases ec
  cases ea
  have I2:=I2'.ofPinned
  have A_:=F.fl
  rw[Nq] at A_
  refine wpAny_looks_onW (by rw[I.ok.frames,Nq]) MY A_ λh4 held4 sm4=>?_
  refine wpAny_landsW held4 λh5 hfl5 sm5=>?_
  have I5:Inv X pins σ' H' {s1 with heap:=h5}:=F.land I2 hfl5.1 (sm4.trans sm5) s1.toks
  have Se:aV a C' h5:=by
   obtain⟨oe,vs,z1,z2,z3,_⟩:=hfl5.first;exact⟨oe,vs,z1,z2,z3⟩
  refine wpAny_handleBy_cons (codeAny_handlers_test ?_) (by intro q;cases q)
  refine cS (X:=X.suite a) (I5.toSuite (e:=a)) hg O.bound ?_ q_
  refine mU I5.kIn Se O.ty O.exc O.cls Ly ?_
  refine codeAny_handlers_suite ?_
  refine lands_againW hfl5 λh6 hfl6 sm6=>?_
  have I6:Inv X pins σ' H' {s1 with heap:=h6}:=F.land I2 hfl6.1 ((sm4.trans sm5).trans sm6) s1.toks
  have Wo:aV a C' h6:=by
   obtain⟨oe,vs,z1,z2,z3,_⟩:=hfl6.first;exact⟨oe,vs,z1,z2,z3⟩
  have nB:B.get? a=none:=hfl6.2.1
  have Yf:a∉Y0 X.stack:=λhb=>by
   obtain⟨oe,vs,z1,z2,z3⟩:=Wo;rw[Nq] at hb;exact F7 hfl6.2.2.1 hb z1 vs z3
  have n2:s2.heap.get? a=none:=by
   cases z:s2.heap.get? a with
   |none=>rfl
   |some o=>
    obtain⟨o',z'⟩:=F.th a o z Yf
    rw[nB] at z';cases z'
  have n0:X.s₀.heap.get? a=none:=by
   cases z:X.s₀.heap.get? a with
   |none=>rfl
   |some o=>
    obtain⟨o',z'⟩:=I2.base.there a o z (by rw[hex];simp)
    rw[n2] at z';cases z'
  have I7:=(I6.track F.nw Wo n0 λp hp q=>by
   have z:=(I2.pin p hp).1;rw[q,n2] at z;cases z).toSuite (e:=a)
  refine Kr (hs a pins _ _ _ _ I7 K_) (λf s9 q=>?_) λ_ _ z=>z.elim
  cases f with
  |next=>obtain⟨σ9,H9,I9,q9⟩:=q;exact⟨_,_,I9.ofSuite I.ok,q9⟩
  |brk=>obtain⟨σ9,H9,I9,q9⟩:=q;exact⟨_,_,I9.ofSuite I.ok,q9⟩
  |cont=>obtain⟨σ9,H9,I9,q9⟩:=q;exact⟨_,_,I9.ofSuite I.ok,q9⟩
  |ret u=>obtain⟨v9,σ9,H9,I9,r9,q9⟩:=q;exact⟨_,_,_,I9.ofSuite I.ok,r9,q9⟩
theorem DA (O:EJ X.K X.mg x T)(hb:∀pins Es,QSs (X.tried pins Es) body (tb Es))(hs:∀e,QSs (X.suite e) (b₀::suite) ts)
  (Nq:X.stack=X.env::X.outer:=by rfl) (MY:X.env.frame=some X.env.locals:=by rfl) (hex:X.ex=[]:=by rfl) (hg:Gl X x:=by rfl) (q_:(x==("__debug__":Str))=false:=by decide):
  QS X (.Try body [.ExceptHandler (some (.Name x np)) none (b₀::suite) NC] [] [] pos) (wC X.K T tb ts):=⟨xj O (λp E=>(hb p E).r) (λe=>(hs e).r) Nq MY hex hg q_⟩
end
section
variable {X:Cx} {e:Expr} {te:TE} {pos p2 p3 p4:Pos} {j:Nat}
end
section
variable {X:Cx} {pins:List (Addr×Obj)} {σ:St} {H:Hp} {s:Shared} {h':Heap}
end
section
variable {X:Cx}
end
section
variable {K:Qc} {H:Hp} {Q:VK}
end
def zk:R2:=λx y H Q=>tX x y H Q\/rI IntMulOk (λi j=> .int (i*j)) x y H Q
theorem xk {X:Cx}:OpR X (binaryOp .Mult) zk:=op_mulY.or (Dg λ_ _ _ _ _ _ _ hc q=>mul_int q hc)
theorem pO {i:Int}{n:Nat}(h:i.natAbs<2 ^ n):Builtin.Int.intBits i<=n:=by
 unfold Builtin.Int.intBits;split
 .exact IA _
 .rename_i hz
  have hp:i.natAbs≠0:=λe=>hz (by rw[Int.natAbs_eq_zero.mp e];rfl);exact(Nat.log2_lt hp).mpr h
theorem xC {i j:Int}(h1:i.natAbs<2 ^ 1000)(h2:j.natAbs<2 ^ 1000):IntMulOk i j:=by
 have e1:=pO h1;have e2:=pO h2;unfold IntMulOk;have e3:Builtin.Int.intTooBig (Builtin.Int.intBits i+Builtin.Int.intBits j:Nat)=false:=by
  unfold Builtin.Int.intTooBig;refine Hc (Int.not_lt.mpr ?_);have h:((2000:Nat):Int)<=bitsLine:=by decide
  exact Int.le_trans (Int.ofNat_le.mpr (by lia)) h
 intro h;rw[GP] at h;have h2:=h.2;first
 |(rw[e3] at h2;cases h2)
 |(rw[show((Builtin.Int.intBits i:Int)+(Builtin.Int.intBits j:Int))=((Builtin.Int.intBits i+Builtin.Int.intBits j:Nat):Int) by simp,e3] at h2;cases h2)
theorem Ae {i j:Int}{H:Hp}{Q:VK}(h:IntMulOk i j)(q:Q (.int (i*j)) H):zk (.int i) (.int j) H Q:= .inr ⟨i,j,rfl,rfl,h,q⟩
end L2
set_option maxHeartbeats 1000000
namespace K62
open PySem PySem.Spec PyProof.Rows L2
def Q2 (i:Nat):Stmt:=PySem.Challenge.pw_gluework_k62_steps_are_lighter.main.body.getD i (.Pass ⟨0,0,0,0⟩)
abbrev eu:Stmt:=Q2 1
theorem sc_weighed:j5 ["web","weights","kinds"] ["web","weights"] (i7 eu):=⟨rfl,rfl,rfl,by decide+kernel,rfl,by decide+kernel,by decide+kernel⟩
abbrev lB:Stmt:=Q2 2
theorem sc_falls:j5 ["rule","weights"] ["rule","weights"] (i7 lB):=⟨rfl,rfl,rfl,by decide+kernel,rfl,by decide+kernel,by decide+kernel⟩
abbrev Y6:Stmt:=Q2 13
theorem sc_is_text_of:j5 ["thing","signs","most"] ["thing","signs","most"] (i7 Y6):=⟨rfl,rfl,rfl,by decide+kernel,rfl,by decide+kernel,by decide+kernel⟩
abbrev eV:Stmt:=Q2 14
theorem sc_is_name:j5 ["thing"] ["thing"] (i7 eV):=⟨rfl,rfl,rfl,by decide+kernel,rfl,by decide+kernel,by decide+kernel⟩
abbrev cb:Stmt:=Q2 15
theorem sc_in_order:j5 ["named"] ["named"] (i7 cb):=⟨rfl,rfl,rfl,by decide+kernel,rfl,by decide+kernel,by decide+kernel⟩
abbrev gK:Stmt:=Q2 16
theorem sc_copied:j5 ["web"] ["web"] (i7 gK):=⟨rfl,rfl,rfl,by decide+kernel,rfl,by decide+kernel,by decide+kernel⟩
abbrev hJ:Stmt:=Q2 17
theorem sc_things:j5 ["web"] ["web"] (i7 hJ):=⟨rfl,rfl,rfl,by decide+kernel,rfl,by decide+kernel,by decide+kernel⟩
abbrev dY:Stmt:=Q2 18
theorem sc_without:j5 ["web","names","points","ties","name"] ["web","names"] (i7 dY):=⟨rfl,rfl,rfl,by decide+kernel,rfl,by decide+kernel,by decide+kernel⟩
abbrev iL:Stmt:=Q2 19
theorem sc_united:j5 ["web","more","points","ties"] ["web","more"] (i7 iL):=⟨rfl,rfl,rfl,by decide+kernel,rfl,by decide+kernel,by decide+kernel⟩
abbrev V8:Stmt:=Q2 20
theorem sc_tie_renamed:j5 ["tie","names"] ["tie","names"] (i7 V8):=⟨rfl,rfl,rfl,by decide+kernel,rfl,by decide+kernel,by decide+kernel⟩
abbrev eh:Stmt:=Q2 21
theorem sc_renamed:j5 ["web","names","points","ties"] ["web","names"] (i7 eh):=⟨rfl,rfl,rfl,by decide+kernel,rfl,by decide+kernel,by decide+kernel⟩
abbrev ck:Stmt:=Q2 23
theorem sc_is_match:j5 ["piece","web","match","names"] ["piece","web","match"] (i7 ck):=⟨rfl,rfl,rfl,by decide+kernel,rfl,by decide+kernel,by decide+kernel⟩
abbrev pd:Stmt:=Q2 24
theorem sc_line:j5 ["piece","match"] ["piece","match"] (i7 pd):=⟨rfl,rfl,rfl,by decide+kernel,rfl,by decide+kernel,by decide+kernel⟩
abbrev V0:Stmt:=Q2 25
theorem sc_first_match:j5 ["piece","web","fixed"] ["piece","web","fixed"] (i7 V0):=⟨rfl,rfl,rfl,by decide+kernel,rfl,by decide+kernel,by decide+kernel⟩
abbrev V1:Stmt:=Q2 26
theorem sc_first_found:j5 ["piece","web","piece_looks","web_looks","fixed","told"] ["piece","web","piece_looks","web_looks","fixed"] (i7 V1):=⟨rfl,rfl,rfl,by decide+kernel,rfl,by decide+kernel,by decide+kernel⟩
abbrev ki:Stmt:=Q2 27
theorem sc_found:j5 ["piece","web","piece_looks","web_looks","fixed","most","told","choices","places","names"] ["piece","web","piece_looks","web_looks","fixed","most"] (i7 ki):=⟨rfl,rfl,rfl,by decide+kernel,rfl,by decide+kernel,by decide+kernel⟩
abbrev ia:Stmt:=Q2 28
theorem sc_may_be:j5 ["name","image","fixed"] ["name","image","fixed"] (i7 ia):=⟨rfl,rfl,rfl,by decide+kernel,rfl,by decide+kernel,by decide+kernel⟩
abbrev P9:Stmt:=Q2 29
theorem sc_point_choices:j5 ["piece_looks","web_looks","fixed","choices","name","look","alike"] ["piece_looks","web_looks","fixed"] (i7 P9):=⟨rfl,rfl,rfl,by decide+kernel,rfl,by decide+kernel,by decide+kernel⟩
abbrev Z1:Stmt:=Q2 30
theorem sc_tie_places:j5 ["piece","web","fixed","places","name","tie","there","image","other"] ["piece","web","fixed"] (i7 Z1):=⟨rfl,rfl,rfl,by decide+kernel,rfl,by decide+kernel,by decide+kernel⟩
abbrev gL:Stmt:=Q2 31
theorem sc_enough:j5 ["lists"] ["lists"] (i7 gL):=⟨rfl,rfl,rfl,by decide+kernel,rfl,by decide+kernel,by decide+kernel⟩
abbrev kJ:Stmt:=Q2 32
theorem sc_lines:j5 ["piece","choices","places","most","names","told","waiting","begun","image"] ["piece","choices","places","most"] (i7 kJ):=⟨rfl,rfl,rfl,by decide+kernel,rfl,by decide+kernel,by decide+kernel⟩
abbrev iH:Stmt:=Q2 33
theorem sc_images:j5 ["piece","choices","places","begun","names","name","put","unlike"] ["piece","choices","places","begun"] (i7 iH):=⟨rfl,rfl,rfl,by decide+kernel,rfl,by decide+kernel,by decide+kernel⟩
abbrev V3:Stmt:=Q2 34
theorem sc_tie_choices:j5 ["piece","places","put","name","ends"] ["piece","places","put","name"] (i7 V3):=⟨rfl,rfl,rfl,by decide+kernel,rfl,by decide+kernel,by decide+kernel⟩
abbrev cx:Stmt:=Q2 35
theorem sc_has_room:j5 ["piece","places","put","name","image","longer","due"] ["piece","places","put","name","image"] (i7 cx):=⟨rfl,rfl,rfl,by decide+kernel,rfl,by decide+kernel,by decide+kernel⟩
abbrev oh:Stmt:=Q2 37
theorem sc_both:j5 ["web","other"] ["web","other"] (i7 oh):=⟨rfl,rfl,rfl,by decide+kernel,rfl,by decide+kernel,by decide+kernel⟩
abbrev kF:Stmt:=Q2 38
theorem sc_alone:j5 ["web","other"] ["web","other"] (i7 kF):=⟨rfl,rfl,rfl,by decide+kernel,rfl,by decide+kernel,by decide+kernel⟩
abbrev pA:Stmt:=Q2 39
theorem sc_kept:j5 ["rule"] ["rule"] (i7 pA):=⟨rfl,rfl,rfl,by decide+kernel,rfl,by decide+kernel,by decide+kernel⟩
abbrev kj:Stmt:=Q2 40
theorem sc_taken:j5 ["rule"] ["rule"] (i7 kj):=⟨rfl,rfl,rfl,by decide+kernel,rfl,by decide+kernel,by decide+kernel⟩
abbrev cf:Stmt:=Q2 41
theorem sc_fresh_of:j5 ["rule"] ["rule"] (i7 cf):=⟨rfl,rfl,rfl,by decide+kernel,rfl,by decide+kernel,by decide+kernel⟩
abbrev iK:Stmt:=Q2 43
theorem sc_picked:j5 ["put","names"] ["put","names"] (i7 iK):=⟨rfl,rfl,rfl,by decide+kernel,rfl,by decide+kernel,by decide+kernel⟩
abbrev ic:Stmt:=Q2 44
theorem sc_barred:j5 ["web","rule","match","number","bar","told"] ["web","rule","match"] (i7 ic):=⟨rfl,rfl,rfl,by decide+kernel,rfl,by decide+kernel,by decide+kernel⟩
abbrev bu:Stmt:=Q2 45
theorem sc_taken_out:j5 ["step"] ["step"] (i7 bu):=⟨rfl,rfl,rfl,by decide+kernel,rfl,by decide+kernel,by decide+kernel⟩
abbrev U8:Stmt:=Q2 46
theorem sc_names_serve:j5 ["web","rule","fresh","names"] ["web","rule","fresh"] (i7 U8):=⟨rfl,rfl,rfl,by decide+kernel,rfl,by decide+kernel,by decide+kernel⟩
abbrev dX:Stmt:=Q2 47
theorem sc_rest_of:j5 ["web","step","rule","rest"] ["web","step"] (i7 dX):=⟨rfl,rfl,rfl,by decide+kernel,rfl,by decide+kernel,by decide+kernel⟩
abbrev oM:Stmt:=Q2 48
theorem sc_done:j5 ["web","step","rule","rest"] ["web","step"] (i7 oM):=⟨rfl,rfl,rfl,by decide+kernel,rfl,by decide+kernel,by decide+kernel⟩
abbrev gY:Stmt:=Q2 49
theorem sc_behind:j5 ["step","rule","put"] ["step"] (i7 gY):=⟨rfl,rfl,rfl,by decide+kernel,rfl,by decide+kernel,by decide+kernel⟩
abbrev Y5:Stmt:=Q2 51
theorem sc__law_cells:j5 ["_law_script","_law_start","_law_many"] ["_law_script","_law_start","_law_many"] (i7 Y5):=⟨rfl,rfl,rfl,by decide+kernel,rfl,by decide+kernel,by decide+kernel⟩
abbrev R0:Stmt:=Q2 52
theorem sc__law_cell_at:j5 ["_law_script","_law_k"] ["_law_script","_law_k"] (i7 R0):=⟨rfl,rfl,rfl,by decide+kernel,rfl,by decide+kernel,by decide+kernel⟩
abbrev Y8:Stmt:=Q2 53
theorem sc__law_kinds:j5 ["_law_cell","_law_letters","_law_size","_law_at","_law_kinds_here","_law_k","_law_kind","_law_j"] ["_law_cell"] (i7 Y8):=⟨rfl,rfl,rfl,by decide+kernel,rfl,by decide+kernel,by decide+kernel⟩
abbrev Z3:Stmt:=Q2 54
theorem sc__law_names:j5 ["_law_cell","_law_many","_law_letters","_law_size","_law_at","_law_signs","_law_names_here","_law_k","_law_name","_law_j"] ["_law_cell","_law_many"] (i7 Z3):=⟨rfl,rfl,rfl,by decide+kernel,rfl,by decide+kernel,by decide+kernel⟩
abbrev Y1:Stmt:=Q2 55
theorem sc__law_words:j5 ["_law_cell","_law_many","_law_letters","_law_size","_law_at","_law_words_here","_law_k","_law_word","_law_j","_law_step"] ["_law_cell","_law_many"] (i7 Y1):=⟨rfl,rfl,rfl,by decide+kernel,rfl,by decide+kernel,by decide+kernel⟩
abbrev V6:Stmt:=Q2 56
theorem sc__law_digits:j5 ["_law_cell","_law_many","_law_number","_law_digits_here","_law_k"] ["_law_cell","_law_many"] (i7 V6):=⟨rfl,rfl,rfl,by decide+kernel,rfl,by decide+kernel,by decide+kernel⟩
abbrev cz:Stmt:=Q2 57
theorem sc__law_web:j5 ["_law_cells_here","_law_names_here","_law_kinds_here","_law_points","_law_ties","_law_k","_law_cell","_law_ends","_law_start"] ["_law_cells_here","_law_names_here","_law_kinds_here"] (i7 cz):=⟨rfl,rfl,rfl,by decide+kernel,rfl,by decide+kernel,by decide+kernel⟩
abbrev S9:Stmt:=Q2 58
theorem sc__law_planted:j5 ["_law_web_here","_law_piece","_law_names_here","_law_put","_law_name","_law_new","_law_points","_law_ties","_law_tie"] ["_law_web_here","_law_piece","_law_names_here"] (i7 S9):=⟨rfl,rfl,rfl,by decide+kernel,rfl,by decide+kernel,by decide+kernel⟩
abbrev aH:Stmt:=Q2 59
theorem sc__law_left:j5 ["_law_digits_here","_law_words_here","_law_kinds_here","_law_points","_law_ties","_law_many","_law_k","_law_start","_law_end"] ["_law_digits_here","_law_words_here","_law_kinds_here"] (i7 aH):=⟨rfl,rfl,rfl,by decide+kernel,rfl,by decide+kernel,by decide+kernel⟩
abbrev Y2:Stmt:=Q2 60
theorem sc__law_right:j5 ["_law_left_here","_law_digits_here","_law_words_here","_law_kinds_here","_law_points","_law_ties","_law_k","_law_name","_law_tie","_law_ends","_law_start"] ["_law_left_here","_law_digits_here","_law_words_here","_law_kinds_here"] (i7 Y2):=⟨rfl,rfl,rfl,by decide+kernel,rfl,by decide+kernel,by decide+kernel⟩
abbrev aE:Stmt:=Q2 61
theorem sc__law_rule:j5 ["_law_cell","_law_words_here","_law_kinds_here","_law_digits_here","_law_left_here","_law_bars","_law_points","_law_ties","_law_ends"] ["_law_cell","_law_words_here","_law_kinds_here"] (i7 aE):=⟨rfl,rfl,rfl,by decide+kernel,rfl,by decide+kernel,by decide+kernel⟩
abbrev R3:Stmt:=Q2 62
theorem sc__law_weights:j5 ["_law_cell","_law_kinds_here","_law_weights_here","_law_k","_law_number"] ["_law_cell","_law_kinds_here"] (i7 R3):=⟨rfl,rfl,rfl,by decide+kernel,rfl,by decide+kernel,by decide+kernel⟩
abbrev U7:Stmt:=Q2 63
theorem sc__law_weight:j5 ["_law_web_here","_law_weights_here","_law_many","_law_kind","_law_tie"] ["_law_web_here","_law_weights_here"] (i7 U7):=⟨rfl,rfl,rfl,by decide+kernel,rfl,by decide+kernel,by decide+kernel⟩
abbrev uA:Stmt:=Q2 64
theorem sc_law:j5 ["_law_script","_law_cells_here","_law_kinds_here","_law_words_here","_law_rule_here","_law_names_here","_law_web_here","_law_match","_law_fresh","_law_k","_law_name","_law_weights_here","_law_behind_it","_law_lighter","_law_found"] ["_law_script"] (i7 uA):=⟨rfl,rfl,rfl,by decide+kernel,rfl,by decide+kernel,by decide+kernel⟩
abbrev av:Str:="abcdefghijklmnopqrstuvwxyz"
abbrev cW:Str:="abcdefghijklmnopqrstuvwxyz0123456789."
structure Txt (K:Qc) (mg:Str->Option Value):Prop where
 r_Barred:ExC K mg "Barred" (cA K "Barred")
 r_Loose:ExC K mg "Loose" (cA K "Loose")
 r_NoMatch:ExC K mg "NoMatch" (cA K "NoMatch")
 r_NoNames:ExC K mg "NoNames" (cA K "NoNames")
 t_GlueError:EJ K mg "GlueError" (cA K "GlueError")
 s_Barred_GlueError:PySem.W.subIn K (.ref (cA K "Barred")) (.ref (cA K "GlueError"))=some true
 s_Loose_GlueError:PySem.W.subIn K (.ref (cA K "Loose")) (.ref (cA K "GlueError"))=some true
 s_NoMatch_GlueError:PySem.W.subIn K (.ref (cA K "NoMatch")) (.ref (cA K "GlueError"))=some true
 s_NoNames_GlueError:PySem.W.subIn K (.ref (cA K "NoNames")) (.ref (cA K "GlueError"))=some true
 b_all:mg "all"=none
 b_any:mg "any"=none
 b_bool:mg "bool"=none
 b_dict:mg "dict"=none
 b_enumerate:mg "enumerate"=none
 b_int:mg "int"=none
 b_isinstance:mg "isinstance"=none
 b_len:mg "len"=none
 b_list:mg "list"=none
 b_max:mg "max"=none
 b_min:mg "min"=none
 b_range:mg "range"=none
 b_reversed:mg "reversed"=none
 b_set:mg "set"=none
 b_sorted:mg "sorted"=none
 b_str:mg "str"=none
 b_sum:mg "sum"=none
 b_zip:mg "zip"=none
 c_MOST_NAME_SIGNS:DY mg "MOST_NAME_SIGNS" (.int 24)
 c_NAME_SIGNS:DY mg "NAME_SIGNS" (.str cW)
 c_SMALL_LETTERS:DY mg "SMALL_LETTERS" (.str av)
abbrev kSL:Str:="abcdefghijklmnopqrstuvwxyz"
abbrev kNS:Str:="abcdefghijklmnopqrstuvwxyz0123456789."
def cV (x signs:Str):Bool:=x.cps.toList.all λc=>decide (c∈signs.cps.toList)
def K8 (x signs:Str)(most:Int):Bool:=decide (1<=(x.length:Int))&&decide ((x.length:Int)<=most)&&cV x signs
def Eh (x signs:Str):Bool:=decide (x.cps.toList.headD 0∈signs.cps.toList)
def R4 (x:Str):Bool:=K8 x kNS 24&&Eh x kSL
def X1 (x:Str):Bool:=K8 x kSL 8
def CP (K:Qc)(H:Hp)(v:V):Prop:=∃t,TyB K H v t/\t≠"str"
def yK (K:Qc)(f:Str->Bool)(v:V)(H:Hp)(Q:VK):Prop:=
 (∃x,v= .str x/\x.length<=1000/\∀H',Same H H'->Q (.bl (f x)) H')\/(CP K H v/\∀H',Same H H'->Q (.bl false) H')
def bX (K:Qc):Sp:=λvs H Q _=>∃v signs most,vs=[v,.str signs,.int most]/\yK K (λx=>K8 x signs most) v H Q
def hV (K:Qc):Sp:=λvs H Q _=>∃v,vs=[v]/\yK K R4 v H Q
def xy (H:Hp)(Q:VK)(P:List Str->Prop):Prop:=∀(p:Addr) (H':Hp) (ss:List Str),H p=none->Same H H'->H' p=some (.lst (ss.map V.str))->P ss->Q (.ref p) H'
def d9 (W:A6):List Str:=W.pts.map (·.1)++W.ts.map (·.1)
structure WebIs (n:Nat) (K:Qc) (H:Hp) (a p q:Addr) (kvs:List (j0×V)) (W:A6):Prop where
 at_:WebAt K H a p q kvs W
 hp:H p=some (.dK (i9 W.pts))
 hq:H q=some (.dK kvs)
 ne:p≠q
 nd:(d9 W).Nodup
 len:(d9 W).length<=n
 ends:∀x∈W.ts,x.2.2.1∈W.pts.map (·.1)/\x.2.2.2∈W.pts.map (·.1)
 nl:∀x∈d9 W,x.length<=100
theorem WebIs.same {n:Nat}{K:Qc}{H H':Hp}{a p q:Addr}{kvs:List (j0×V)}{W:A6}(h:WebIs n K H a p q kvs W)(s:Same H H'):WebIs n K H' a p q kvs W:=⟨h.at_.mono s.le,s _ _ h.hp,s _ _ h.hq,h.ne,h.nd,h.len,h.ends,h.nl⟩
local macro_rules| `(tactic|walk_at "b")=> `(tactic|(intro _ _ _ _ _ _ us hl;first|exact bn0 hl rfl|exact Gm hl λ_=>rfl|exact FQ hl λ_ _=>rfl|exact Gi hl λ_ _ _=>rfl|exact FP hl λ_ _ _ _=>rfl|exact Gn hl λ_ _ _ _ _=>rfl|exact FO hl λ_ _ _ _ _ _=>rfl))
local macro_rules| `(tactic|walk_at "E")=> `(tactic|first
 |(with_reducible (first|refine r_par ?_|refine yC ?_|refine Fe ?_|refine xY ?_|refine DS ?_|refine zQ ?_|refine FL ?_|refine EO ?_|refine Dr ?_|refine Cg ?_|refine Aq ?_|refine Aa ?_|refine CH ?_|refine AR ?_|refine EG ?_|refine xI ?_|refine rC ?_|refine CQ ?_|refine Ez ?_|refine Aw ?_|refine CK ?_|refine Dt ?_|refine zU ?_|refine Fu ?_|refine DG ?_|refine DO ?_|refine Ck ?_|refine Fh ?_|refine zI ?_|refine DU ?_|refine zT ?_|refine Ff ?_|refine DW ?_|refine AY ?_|refine zr ?_|refine Fn ?_|refine EL ?_|refine uG ?_|refine zP ?_|refine CI ?_|refine r_chain ?_|refine sy ?_|refine Fg ?_|refine ud ?_|refine r_lt_str ?_|refine mz ?_|refine qd ?_|refine mw ?_|refine vR ?_|refine r_notIn_sgn ?_|refine r_is ?_|refine wH ?_|refine xm ?_|refine iO ?_|refine my ?_|refine nA ?_|refine w_ne_bl ?_|refine w_ne_str ?_|refine mB ?_|refine n_ne_bl ?_|refine n_ne_str ?_|refine Ed ?_|refine yd ?_|refine AI ?_|refine r_enum ?_|refine CL ?_|refine xa ?_|refine Ap ?_|refine ET ?_|refine Cq ?_|refine Fx ?_|refine DV ?_|refine CJ ?_|refine wy ?_|refine Dn ?_|refine Dq ?_|refine EV ?_|refine ED ?_|refine CS ?_|refine BV ?_))
 |((with_reducible refine' DJ ?h ?_);(case h=>rfl))
 |with_reducible refine Bn _ ?_
 |((with_reducible refine' sW ?c ?_);(case c=>(unfold CMul;lia)))
 |((with_reducible refine' EW ?c ?_);(case c=>(first|lia|(dsimp only<;>lia)|(unfold CMul;lia)|(unfold CF;lia)|(unfold BZ;decide)|exact Int.pow_pos (by decide)))))
local macro_rules| `(tactic|walk_at "R")=> `(tactic|first|with_reducible refine N0 ?_|with_reducible refine r_try ?_|walk_at "E")
local macro_rules| `(tactic|walk_at "r")=> `(tactic|repeat walk_at "R")
local macro_rules| `(tactic|walk_at "e")=> `(tactic|repeat walk_at "E")
local macro_rules| `(tactic|walk_at "l")=> `(tactic|first|exact Or.inl rfl|exact Or.inr rfl)
section
variable {P:Program} {w:World} {K:Qc} {mg:Str->Option Value} {base:Heap}
def aB (i:Int):Nat:=("abcdefghijklmnopqrstuvwxyz":Str).cps.toList.getD i.toNat 0
theorem oH (i:Int)(h0:0<=i)(h1:i<26):gM ("abcdefghijklmnopqrstuvwxyz":Str).cps.toList i=some (aB i):=by
 have hl:("abcdefghijklmnopqrstuvwxyz":Str).cps.toList.length=26:=by decide+kernel
 obtain⟨v,hv,Lz⟩:=fe (xs:=("abcdefghijklmnopqrstuvwxyz":Str).cps.toList) h0 (by rw[hl];exact h1);rw[hv];unfold aB;rw[Hj,Lz];rfl
theorem vd:∀i j:Nat,i<26->j<26->aB i=aB j->i=j:=by
 have h:∀i,i<26->∀j,j<26->aB (i:Nat)=aB (j:Nat)->i=j:=by decide+kernel
 exact λi j hi hj=>h i hi j hj
theorem iJ {f:Nat->Str}:∀{n:Nat},(∀i j,i<n->j<n->f i=f j->i=j)->((List.range n).map f).Nodup
 |0,_=>IS
 |n+1,h=>by
  rw[IY,Gy];refine Q5 (iJ λi j hi hj=>h i j (by lia) (by lia)) λm=>?_;obtain⟨i,hi,e⟩:=Gw.mp m;have OT:=JF.mp hi;have z:=h i n (by lia) (by lia) e;lia
theorem eG:("abcdefghijklmnopqrstuvwxyz":Str).length<=sizeLine:=by decide+kernel
theorem cY (ss:List Str):(ss.map V.str).all E1=true:=by
 rw[IC,Hk];intro _ _;rfl
theorem vc {F:j0×V->Prop}{kvs:List (j0×V)}{k:j0}{v:V}(h:∀kv∈kvs,F kv)(h':F (k,v)):∀kv∈B9 kvs k v,F kv:=by
 intro kv f_;unfold B9 at f_;split at f_
 .obtain⟨x,hx,e⟩:=Gw.mp f_;split at e
  .next e'=>rw[←e,e'];exact h'
  .rw[←e];exact h x hx
 .rcases GO.mp f_ with z|z
  .exact h kv z
  .rw[GZ.mp z];exact h'
theorem zR {kvs:List (j0×V)}{k:j0}{v:V}(h:(kvs.map (·.1)).Nodup):((B9 kvs k v).map (·.1)).Nodup:=by
 cases e:p8 kvs k with
 |none=>exact yg v h e
 |some x=>
  unfold B9
  rw[if_pos (by rw[G9,e];rfl),GQ]
  have e2:((λkv:j0×V=>kv.1)∘λkv=>if kv.1=k then(kv.1,v) else kv)=λkv=>kv.1:=by
   funext kv;show(if kv.1=k then(kv.1,v) else kv).1=kv.1;split<;>rfl
  rw[e2];exact h
theorem Y7 {K:Qc}{H:Hp}{d:Addr}{k1 k2 kv:_}{x:Str×F2}(h:H d=some (.dK k1))(t:TieAt K H kv x):TieAt K (p0 H d (.dK k2)) kv x:=by
 obtain⟨e,a,ea,s⟩:=t;refine⟨e,a,ea,?_⟩;rcases s with s|s
 .refine .inl ?_;by_cases z:a=d
  .subst z;rcases s with s|⟨_,s⟩<;>(rw[h] at s;cases s)
  .unfold Rd;rw[b9 z];exact s
 .exact .inr s
theorem B5 {H H1:Hp}{d:Addr}{o:HO}(s:Same H H1)(h:H d=none):Same H (p0 H1 d o):=λb u e=>by
 rw[b9 (j4 e h)];exact s _ _ e
theorem A5 {ss:List Str}{i:Int}(h0:0<=i)(h1:i<ss.length):∃x,gM (ss.map V.str) i=some (.str x)/\x∈ss:=by
 obtain⟨v,hv,Lz⟩:=fe (xs:=ss.map V.str) h0 (by rw[Gs];exact h1);rw[Gx] at Lz;obtain⟨x,hx,e⟩:=Hr.mp Lz;exact⟨x,by rw[hv,e],GJ hx⟩
theorem r6 {α:Type}(l:List (Str×α)):(l.map (·.1)).map (Sum.inr:Str->j0)=l.map λx=>Sum.inr x.1:=by rw[GQ];rfl
theorem K6 {l:List Str}{n:Str}(h:(Sum.inr n:j0)∈l.map (Sum.inr:Str->j0)):n∈l:=by
 obtain⟨x,hx,e⟩:=Gw.mp h;rw[←Ij e];exact hx
theorem C9 {kvs:List (j0×V)}{k:j0}(h:k∉kvs.map (·.1)):p8 kvs k=none:=by
 cases e:p8 kvs k with
 |none=>rfl
 |some v=>exact absurd (pT e) h
theorem vw {a:List (Str×Str)}{b:List (Str×F2)}{n:Str}{t:F2}(h:(a.map (·.1)++b.map (·.1)).Nodup)(f:n∉a.map (·.1)++b.map (·.1)):(a.map (·.1)++(b++[(n,t)]).map (·.1)).Nodup:=by
 rw[Gy,←Hl];exact Q5 h f
theorem wF {a:List (Str×Str)}{b:List (Str×F2)}{n s:Str}(h:(a.map (·.1)++b.map (·.1)).Nodup)(f:n∉a.map (·.1)++b.map (·.1)):((a++[(n,s)]).map (·.1)++b.map (·.1)).Nodup:=by
 have z:=Q5 h f;refine(List.Perm.nodup_iff ?_).mpr z;rw[Gy,Hl,Hl];exact Kn _ Jz
theorem qL {a:List (Str×Str)}{b:List (Str×F2)}{n:Str}{t:F2}{l:List Str}(h:∀x∈a.map (·.1)++b.map (·.1),x∈l)(f:n∈l):∀x∈a.map (·.1)++(b++[(n,t)]).map (·.1),x∈l:=by
 intro x hx;rw[Gy,←Hl] at hx;rcases GO.mp hx with h'|h'
 .exact h x h'
 .have:x=n:=by simpa using h'
  rw[this];exact f
theorem qt {a:List (Str×Str)}{b:List (Str×F2)}{n s:Str}{l:List Str}(h:∀x∈a.map (·.1)++b.map (·.1),x∈l)(f:n∈l):∀x∈(a++[(n,s)]).map (·.1)++b.map (·.1),x∈l:=by
 intro x hx;rw[Gy,Hl] at hx;rcases GO.mp hx with h'|h'
 .exact h x (GA _ h')
 .rcases GO.mp h' with h2|h2
  .have:x=n:=by simpa using h2
   rw[this];exact f
  .exact h x (GG _ h2)
theorem q8 {α β:Type}{F:α->β->Prop}:∀{l:List α} {m:List β} {a:α} {b:β},Paired F l m->F a b->Paired F (l++[a]) (m++[b])
 |_,_,_,_,.nil,h=> .cons h .nil
 |_,_,_,_,.cons r t,h=> .cons r (q8 t h)
theorem cM:∀{kvs:List (j0×V)} {kv:j0×V},(kvs.map (·.1)).Nodup->kv∈kvs->p8 kvs kv.1=some kv.2
 |p::r,kv,nd,h=>by
  have nd':=Hs.mp (show(p.1::r.map (·.1)).Nodup from nd);rcases Hh.mp h with z|z
  .rw[z];exact C1 rfl
  .rw[C0 λe=>nd'.1 (by rw[e];exact Gw.mpr ⟨kv,z,rfl⟩)];exact cM nd'.2 z
theorem AS {kvs:List (j0×V)}{ss:List Str}(hk:kvs.map (·.1)=ss.map Sum.inr)(nd:(kvs.map (·.1)).Nodup):kvs=ss.map λs=>(Sum.inr s,(p8 kvs (Sum.inr s:j0)).getD .non):=by
 have h1:kvs=kvs.map λkv=>(kv.1,(p8 kvs kv.1).getD .non):=by
  have:∀kv∈kvs,kv=(kv.1,(p8 kvs kv.1).getD .non):=λkv h=>by rw[cM nd h];rfl
  exact(KJ kvs).symm.trans (Iq this)
 have h2:(kvs.map λkv=>(kv.1,(p8 kvs kv.1).getD V.non))=(kvs.map (·.1)).map λk=>(k,(p8 kvs k).getD .non):=by rw[GQ];rfl
 rw[hk,GQ] at h2;exact h1.trans h2
theorem gO:∀{r a:List (j0×V)},((a++r).map (·.1)).Nodup->r.foldl (λa x=>B9 a x.1 x.2) a=a++r
 |[],a,_=>by simp
 |p::r,a,nd=>by
  rw[Jx];have nd':((a++[p]++r).map (·.1)).Nodup:=by rw[Hl];exact nd
  have hf:p.1∉a.map (·.1):=λm=>by
   rw[Gy] at nd;exact(GX.mp nd).2.2 p.1 m p.1 (by simp) rfl
  rw[E8 p.2 (C9 hf),gO (r:=r) (a:=a++[(p.1,p.2)]) nd',Hl];rfl
theorem T6 {kvs:List (j0×V)}(nd:(kvs.map (·.1)).Nodup):X3 kvs=kvs:=by
 unfold X3;rw[gO (by simpa using nd)];rfl
theorem PrV.mono {K:Qc}{H H':Hp}{x:V}{kv:j0×V}(l:Le H H')(h:PrV K H x kv):PrV K H' x kv:=let ⟨t,e,s⟩:=h;⟨t,e,l.tup s⟩
theorem U0 {α β:Type}{F:α->β->Prop}{l2 m:List α}(h:l2.Perm m):∀{r:List β},Paired F m r->∃r',Paired F l2 r'/\r'.Perm r:=by
 induction h with
 |nil=>intro r p;cases p;exact⟨[],.nil,.nil⟩
 |cons x _ ih=>
  intro r p
  cases p with
  |cons a b=>
   obtain⟨r',h1,h2⟩:=ih b
   exact⟨_::r',.cons a h1,h2.cons _⟩
 |swap x y l=>
  intro r p
  cases p with
  |cons a b=>
   cases b with
   |cons c d=>exact⟨_::_::_,.cons c (.cons a d),.swap _ _ _⟩
 |trans _ _ ih1 ih2=>
  intro r p
  obtain⟨r',h1,h2⟩:=ih2 p
  obtain⟨Yg,h3,h4⟩:=ih1 h1
  exact⟨Yg,h3,h4.trans h2⟩
theorem Y9:∀pts:List (Str×Str),Paired (fun(kv:j0×V) (x:Str×Str)=>kv=(Sum.inr x.1,.str x.2)) (i9 pts) pts
 |[]=> .nil
 |x::r=> .cons rfl (Y9 r)
theorem cc:∀{kvs:List (j0×V)} {pts:List (Str×Str)},Paired (fun(kv:j0×V) (x:Str×Str)=>kv=(Sum.inr x.1,.str x.2)) kvs pts->kvs=i9 pts
 |_,_,.nil=>rfl
 |_,_,.cons e t=>by rw[e,cc t];rfl
theorem uv {kvs:List (j0×V)}{pts:List (Str×Str)}(h:kvs.Perm (i9 pts)):∃i_,kvs=i9 i_/\i_.Perm pts:=by
 obtain⟨r,h1,h2⟩:=U0 h (Y9 pts);exact⟨r,cc h1,h2⟩
theorem k8 (pts:List (Str×Str)):(i9 pts).length=pts.length:=by unfold i9;rw[Gs]
theorem bE {pts:List (Str×Str)}{i:Nat}{kv:j0×V}(h:(i9 pts)[i]?=some kv):∃x,pts[i]?=some x/\kv=(Sum.inr x.1,.str x.2):=by
 unfold i9 at h;rw[Gx] at h;obtain⟨x,hx,e⟩:=Hr.mp h;exact⟨x,hx,e.symm⟩
theorem K3 {D d:Addr}{kvs:List (j0×V)}{o:Obj}{u:HO}{H H1:Hp}(h:H d=some (.dK kvs))(s:Same (D0 d o kvs H) H1)(hD:H1 D=none):Same H (thaw d (p0 H1 D u)):=
 Same.thaw h λb v z=>by rw[b9 (j4 (s _ _ z) hD)];exact s _ _ z
theorem Z0 {D d:Addr}{kvs:List (j0×V)}{o:Obj}{u:HO}{H H1:Hp}(s:Same (D0 d o kvs H) H1)(hD:H1 D=none):(thaw d (p0 H1 D u)) D=some u:=by
 have Yh:D≠d:=λz=>by rw[z,s _ _ b7] at hD;cases hD
 rw[O2 Yh,b7]
theorem lI {D d:Addr}{u:HO}{H1:Hp}(hD:H1 D=none):Le H1 (thaw d (p0 H1 D u)):=by
 have s:Same H1 (p0 H1 D u):=λb v z=>by rw[b9 (j4 z hD)];exact z
 exact s.le.trans pV
theorem Z8 {pts:List (Str×Str)}(h:(pts.map (·.1)).Nodup):((i9 pts).map (·.1)).Nodup:=by
 rw[B7,←r6];refine Ja _ ?_ h;exact λa b h z=>h (Ij z)
theorem O9 {α:Type}:∀{l:List (Str×α)} {n:Str} {x y:α},(l.map (·.1)).Nodup->(n,x)∈l->(n,y)∈l->x=y
 |p::r,n,x,y,nd,hx,hy=>by
  have nd':=Hs.mp (show(p.1::r.map (·.1)).Nodup from nd);rcases Hh.mp hx with zx|zx
  .rcases Hh.mp hy with zy|zy
   .have:=zx.trans zy.symm;exact(IH this).2
   .exact absurd (Gw.mpr ⟨(n,y),zy,by rw[←zx]⟩) nd'.1
  .rcases Hh.mp hy with zy|zy
   .exact absurd (Gw.mpr ⟨(n,x),zx,by rw[←zy]⟩) nd'.1
   .exact O9 nd'.2 zx zy
theorem dg {K:Qc}{H:Hp}{kvs:List (j0×V)}{ts:List (Str×F2)}{n:Str}{t:F2}(w:TiesIs K H kvs ts)(nd:(ts.map (·.1)).Nodup)(h:(n,t)∈ts):∃a,p8 kvs (Sum.inr n:j0)=some (.ref a)/\SqT K H a (cq t):=by
 obtain⟨a,x,h1,h2,h3⟩:=TiesIs.val (ts:=ts) w (Gw.mpr ⟨(n,t),h,rfl⟩);rw[O9 nd h h2];exact⟨a,h1,h3⟩
theorem aU {pts:List (Str×Str)}{n k:Str}(nd:(pts.map (·.1)).Nodup)(h:(n,k)∈pts):p8 (i9 pts) (Sum.inr n:j0)=some (.str k):=
 cM (kv:=(Sum.inr n,.str k)) (Z8 nd) (Gw.mpr ⟨(n,k),h,rfl⟩)
theorem gN {n:Str}:∀{gs:List Str},Ci (.str n) (gs.map V.str)=decide (n∈gs)
 |[]=>rfl
 |g::r=>by
  show(cG (.str g) (.str n)||Ci (.str n) (r.map V.str))=_;rw[gN (gs:=r),show cG (.str g) (.str n)=decide (g=n) by unfold cG;rw[Hq];simp];rw[Hq];simp;constructor
  .rintro(h|h)
   .exact .inl h.symm
   .exact .inr h
  .rintro(h|h)
   .exact .inl h.symm
   .exact .inr h
theorem Q9 {K:Qc}{H:Hp}{Q:VK}{l:Addr}{gs:List Str}{n:Str}(h:SqL K H l (gs.map V.str))(q:Q (.bl (!decide (n∈gs))) H):gd K (.str n) (.ref l) H Q:=
 .inr (.inl ⟨l,_,rfl,.inl h,rfl,cY _,by rw[if_pos rfl,gN];exact q⟩)
theorem qj {K:Qc}{H:Hp}{Q:VK}{l:Addr}{gs:List Str}{n:Str}(h:SqL K H l (gs.map V.str))(q:Q (.bl (decide (n∈gs))) H):su K (.str n) (.ref l) H Q:=
 vO (.inl h) rfl (cY _) (by rw[gN];exact q)
def dO (gs:List Str):j0->Bool
 | .inr n=>decide (n∈gs)
 |_=>false
theorem O8 {α β:Type}{F:α->β->Prop}{f:α->Bool}{g:β->Bool}(h:∀a b,F a b->f a=g b):∀{l:List α} {m:List β},Paired F l m->Paired F (l.filter f) (m.filter g)
 |_,_,.nil=> .nil
 |a::l,b::m,.cons r t=>by
  have z:=O8 h t;have e:=h a b r;cases hb:g b with
  |true=>rw[Hz (by rw[e,hb]),Hz hb];exact .cons r z
  |false=>rw[HG (by rw[e,hb];simp),HG (by rw[hb];simp)];exact z
theorem N4 {α β:Type}{f:α->β}{p:α->Bool}{l:List α}(h:(l.map f).Nodup):((l.filter p).map f).Nodup:=h.sublist ((HK).map f)
theorem rL {ka kb:List (j0×V)}(nd:((ka++kb).map (·.1)).Nodup):K0 ka kb=ka++kb:=gO nd
theorem cE {α β:Type}{F:α->β->Prop}:∀{l1 l2:List α} {m1 m2:List β},Paired F l1 m1->Paired F l2 m2->Paired F (l1++l2) (m1++m2)
 |_,_,_,_,.nil,h=>h
 |_,_,_,_,.cons r t,h=> .cons r (cE t h)
theorem pY {K:Qc}{H:Hp}{kvs:List (j0×V)}{ts:List (Str×F2)}(w:TiesIs K H kvs ts)(h:(ts.map (·.1)).Nodup):(kvs.map (·.1)).Nodup:=by
 rw[w.keys,←r6];refine Ja _ ?_ h;exact λa b h z=>h (Ij z)
theorem P1 {K:Qc}{H:Hp}{d:Addr}{k1 k2:List (j0×V)}{kvs:List (j0×V)}{ts:List (Str×F2)}(h:H d=some (.dK k1))(w:TiesIs K H kvs ts):TiesIs K (p0 H d (.dK k2)) kvs ts:=Paired.imp' (λ_ _ z=>Y7 h z) w
theorem Ak {α:Type}{l m:List (Str×α)}(h1:(l.map (·.1)).Nodup)(h2:(m.map (·.1)).Nodup)(h:∀n∈m.map (·.1),n∉l.map (·.1)):((l++m).map (·.1)).Nodup:=by
 rw[Gy];exact GX.mpr ⟨h1,h2,λa ha b hb e=>h b hb (e▸ha)⟩
theorem G0 {pts:List (Str×Str)}{n:Str}:(p8 (i9 pts) (Sum.inr n:j0)).isSome=decide (n∈pts.map (·.1)):=by
 rw[←G9,Hq,Ih,GS];constructor
 .rintro⟨kv,f_,e⟩;obtain⟨x,hx,rfl⟩:=Gw.mp f_;exact Gw.mpr ⟨x,hx,Ij (HI e)⟩
 .intro m;obtain⟨x,hx,rfl⟩:=Gw.mp m;exact⟨_,Gw.mpr ⟨x,hx,rfl⟩,Hf rfl⟩
theorem X7 {K:Qc}{H:Hp}{kvs:List (j0×V)}{ts:List (Str×F2)}{n:Str}(w:TiesIs K H kvs ts):(p8 kvs (Sum.inr n:j0)).isSome=decide (n∈ts.map (·.1)):=by
 by_cases hn:n∈ts.map (·.1)
 .obtain⟨a,x,h1,_⟩:=TiesIs.val (ts:=ts) w hn;rw[h1,Hf hn];rfl
 .cases e:p8 kvs (Sum.inr n:j0) with
  |none=>simp [hn]
  |some v=>
   have z:=pT e
   rw[w.keys,←r6] at z
   exact absurd (K6 z) hn
theorem Bv {kvs:List (j0×V)}{k:j0}{v:V}{n:Nat}(h:kvs.length<=n):(B9 kvs k v).length<=n+1:=by
 have z:=F5 kvs k v;lia
theorem tJ {pts:List (Str×Str)}:(i9 pts).map (λkv=>kV kv.1)=(pts.map (·.1)).map V.str:=by unfold i9;rw[GQ,GQ];rfl
theorem tY {α:Type}{xs:List α}(h:0<xs.length):∃v,gM xs (-1)=some v/\v∈xs:=by
 have e:yu xs.length (-1)=some (xs.length -1):=by
  unfold yu;rw[if_neg (by lia),if_pos (by lia)];congr 1;lia
 refine⟨xs[xs.length -1],?_,Hv _⟩;unfold gM;rw[e];show xs[xs.length -1]?=_;exact Gu (by lia)
theorem dR:∀{kvs:List (j0×V)} {k:j0} {v:V},p8 kvs k=some v->(k,v)∈kvs
 |p::r,k,v,h=>by
  by_cases e:p.1=k
  .rw[C1 e] at h;rw[←e,←GL h];exact Hg
  .rw[C0 e] at h;exact GY _ (dR h)
theorem uy (a b:F2):Q7 (cq a) (cq b)=decide (a=b):=by
 obtain⟨a1,a2,a3⟩:=a;obtain⟨b1,b2,b3⟩:=b;show(a1==b1&&(a2==b2&&(a3==b3&&true)))=_;rw[Hq];simp
theorem lS (a:F2):(cq a).all E1=true:=rfl
theorem ku {pts:List (Str×Str)}{n:Str}{v:V}(h:p8 (i9 pts) (Sum.inr n:j0)=some v):∃k,v= .str k/\(n,k)∈pts:=by
 obtain⟨x,hx,e⟩:=Gw.mp (dR h);obtain⟨x1,x2⟩:=x;have e1:=(IH e).1;have e2:=(IH e).2;exact⟨x2,e2.symm,by rw[←Ij e1];exact hx⟩
theorem DC {H:Hp}{Q:VK}{pts:List (Str×Str)}{m k:Str}(nd:(pts.map (·.1)).Nodup)(q:Q (.bl (decide ((m,k)∈pts))) H):fz K ((p8 (i9 pts) (Sum.inr m:j0)).getD .non) (.str k) H Q:=by
 cases e:p8 (i9 pts) (Sum.inr m:j0) with
 |none=>
  refine rH (lD ?_)
  rw[Hc (λz=>by rw[aU nd z] at e;cases e)] at q;exact q
 |some v=>
  obtain⟨k2,rfl,hk⟩:=ku e
  refine iO ?_
  have:decide (k2=k)=decide ((m,k)∈pts):=by
   rw[Hq,GS,GS];exact⟨λz=>z▸hk,λz=>O9 nd hk z⟩
  rw[this];exact q
theorem AH {H:Hp}{Q:VK}{kvs:List (j0×V)}{ts:List (Str×F2)}{m:Str}{y:F2}{l:Addr}(w:TiesIs K H kvs ts)(nd:(ts.map (·.1)).Nodup)(hl:SqT K H l (cq y))(q:Q (.bl (decide ((m,y)∈ts))) H):fz K ((p8 kvs (Sum.inr m:j0)).getD .non) (.ref l) H Q:=by
 by_cases hm:m∈ts.map (·.1)
 .obtain⟨a,x,h1,h2,h3⟩:=TiesIs.val (ts:=ts) w hm;rw[h1];refine rH (wo h3 hl (lS _) (lS _) ?_);rw[uy];have:decide (x=y)=decide ((m,y)∈ts):=by
   rw[Hq,GS,GS];exact⟨λz=>z▸h2,λz=>O9 nd h2 z⟩
  rw[this];exact q
 .have e:p8 kvs (Sum.inr m:j0)=none:=by
   have z:=X7 (n:=m) w;rw[Hc hm] at z;cases e:p8 kvs (Sum.inr m:j0) with
   |none=>rfl
   |some v=>rw[e] at z;cases z
  rw[e];refine rH (kZ hl ?_);rw[Hc (λz=>hm (Gw.mpr ⟨_,z,rfl⟩))] at q;exact q
theorem E6 {W:A6}(h:(d9 W).Nodup):(W.pts.map (·.1)).Nodup:=(GX.mp h).1
theorem K4 {W:A6}(h:(d9 W).Nodup):(W.ts.map (·.1)).Nodup:=(GX.mp h).2.1
theorem Bz {t:String}(h:t≠"str"):fm t "str"=false:=by
 unfold fm;have e1:(t=="str")=false:=by simpa using h
 rw[e1];simp
abbrev cZ (P:Program)(w:World)(K:Qc)(mg:Str->Option Value)(base:Heap):Prop:=O4 P w K mg base C2 1 "is_text_of" ["thing","signs","most"] [] (bX K)
theorem iU {f:Addr}{fd:FuncData}(T:Txt K mg)(F:Fun K "is_text_of" "is_text_of" Y6 f fd):A3 P w K mg base C2 1 f fd ["thing","signs","most"] (bX K):=by
 refine F.ok sc_is_text_of (λvs H Q E h=>?_) (λd_ A outer s H vs Q E hr h=>?_)
 .obtain⟨v,signs,most,rfl,_⟩:=h;rfl
 .obtain⟨v,signs,most,rfl,h⟩:=h;have hN:=sc_is_text_of.nd;have hu:=u9 hr;refine⟨_,QSs.r (x6 (bC (sL (oT (cK (U4 K (qB (nT K P w) T.b_isinstance Boot.«isinstance» (j3 (qV 0) (j3 (DD "str" T.b_str Boot.«str») j6))))) (oT (x5 aC (qB (C6 K P w) T.b_len Boot.«len» (j3 (qV 0) j6)) d8 (p7 _)) (kh (x5 jL (qB (C6 K P w) T.b_len Boot.«len» (j3 (qV 0) j6)) (qV 2) (p7 _)))))) (A7 (A1 wW)) cF)
   (A7 (A1 (qB (tE K rfl) T.b_all Boot.«all» (j3 (E4 (own:=["sign"]) (js:=[1]) (by kernel_rfl) rfl (Q4 K (qV 0)) (λ_ _ _ _=>(F9 (i:=0) (show List.Nodup (["sign","signs"]:List Str) by decide+kernel) rfl (by walk_at "l"))) (λ_ _ _ _=>af) (λ_ _ _ _=>(dQ (kIn K hu) (qV 0) (qV 1) (by rfl)))) j6))))),?_⟩
  rcases h with⟨x,rfl,hx,k⟩|⟨⟨t,ty,ht⟩,k⟩
  .walk_at "r";refine gR (gF (t:="str") rfl (by simp) ?_);walk_at "r";rw[if_neg (by decide)];walk_at "r";refine C3 (ff (h9 hx) ?_);walk_at "r";refine C5 (λh1=>?_) (λh1=>?_)
   .walk_at "r";have e:K8 x signs most=false:=by
     unfold K8;rw[Hc (by lia)];rfl
    rw[←e];exact k H (Same.refl H)
   .walk_at "r";refine C3 (ff (h9 hx) ?_);walk_at "r";refine C5 (λh2=>?_) (λh2=>?_)
    .walk_at "r";have e:K8 x signs most=false:=by
      unfold K8;rw[Hc (show ¬((x.length:Int)<=most) by lia)];simp
     rw[←e];exact k H (Same.refl H)
    .walk_at "r";refine u4 (n:=x.cps.size) (λi out H'=>H'=H/\out=(x.cps.toList.take i).map λc=>V.bl (decide (c∈signs.cps.toList))) ⟨rfl,rfl⟩ (λi out H' hi _=>by exact hi) ?_ ?_
     .rintro N i v out H1 H2 hi ⟨rfl,rfl⟩ y hN;obtain⟨rfl,c,hc,rfl⟩:=Its.lt y;walk_at "r";refine⟨rfl,?_⟩;walk_at "r";refine⟨h9 (by rw[Gs,GC,←og];lia),hN _ _ ⟨rfl,?_⟩⟩;exact C4 (λc=>V.bl (decide (c∈signs.cps.toList))) hc
     .rintro out H1 ⟨rfl,rfl⟩;refine⟨Gv _,λD hD=>⟨h9 (by rw[Gs,GC,←og];lia),?_⟩⟩;walk_at "r";refine jx (bs:=x.cps.toList.map λc=>decide (c∈signs.cps.toList)) (SqL.of ?_) ?_
      .show p0 H1 D _ D=_;rw[b7,GD (by simp),GQ];rfl
      .have e:K8 x signs most=(x.cps.toList.map λc=>decide (c∈signs.cps.toList)).all id:=by
        unfold K8 cV;rw[Hf (show 1<=(x.length:Int) by lia),Hf (show(x.length:Int)<=most by lia),IC];rfl
       rw[←e];exact k _ λb o q=>by
        show p0 H1 D _ b=_;rw[b9 (j4 q hD)];exact q
  .walk_at "r";refine gR (gF ty (by simp) ?_);rw[Bz ht];walk_at "r";exact k H (Same.refl H)
theorem uI {x:Str}(h:1<=(x.length:Int)):gM x.cps.toList 0=some (x.cps.toList.headD 0):=by
 refine b5 (j:=0) ?_;have hl:=og x;cases e:x.cps.toList with
 |nil=>rw[e] at hl;simp at hl;lia
 |cons c r=>rfl
abbrev jN (P:Program)(w:World)(K:Qc)(mg:Str->Option Value)(base:Heap):Prop:=O4 P w K mg base C2 2 "is_name" ["thing"] [] (hV K)
theorem oK {f:Addr}{fd:FuncData}(T:Txt K mg)(Y3:cZ P w K mg base)(F:Fun K "is_name" "is_name" eV f fd):A3 P w K mg base C2 2 f fd ["thing"] (hV K):=by
 refine F.ok sc_is_name (λvs H Q E h=>?_) (λd_ A outer s H vs Q E hr h=>?_)
 .obtain⟨v,rfl,_⟩:=h;rfl
 .obtain⟨v,rfl,h⟩:=h;have hN:=sc_is_name.nd;have hu:=u9 hr;refine⟨_,QSs.r (A7 (A1 (DI (qC Y3 (hr.mono (by decide)) j7 (j3 (qV 0) (j3 (Ft T.c_NAME_SIGNS) (j3 (Ft T.c_MOST_NAME_SIGNS) j6)))) (Bm (dQ (kIn K hu) (k9 (l0 K hu) (qV 0) d8 (λ_ _=>rfl)) (Ft T.c_SMALL_LETTERS) (by rfl)))))),?_⟩;walk_at "r";refine⟨v,_,_,rfl,?_⟩;rcases h with⟨x,rfl,hx,k⟩|⟨no,k⟩
  .refine .inl ⟨x,rfl,hx,λH' sm=>?_⟩;walk_at "r";refine V5 (λe=>?_) (λe=>?_)
   .walk_at "r";have h1:1<=(x.length:Int):=by
     unfold K8 at e;simp only[GP,GS] at e;exact e.1.1
    refine aJ (h9 hx) (uI h1) ?_;walk_at "r";have e2:R4 x=Eh x kSL:=by
     unfold R4;rw[show K8 x kNS 24=true from e,MF]
    have q:=k H' sm;rw[e2] at q;exact q
   .have e2:R4 x=false:=by
     unfold R4;rw[show K8 x kNS 24=false from e,Bool.false_and]
    have q:=k H' sm;rw[e2] at q;exact q
  .refine .inr ⟨no,λH' sm=>?_⟩;walk_at "r";exact k H' sm--SPLIT
def Fi (a b:Str):Prop:=a.cps.toList<b.cps.toList
theorem cX:∀{ss:List Str},vK ss=true->ss.Pairwise Fi
 |[],_=> .nil
 |[_],_=>Ka _ _
 |x::y::r,h=>by
  rw[jI,GP] at h;have ih:=cX h.2;have Sf:x.cps.toList<y.cps.toList:=HI h.1;refine Kb.mpr ⟨λz hz=>?_,ih⟩;rcases Hh.mp hz with e|e
  .rw[e];exact Sf
  .exact List.lt_trans Sf ((Kb.mp ih).1 z e)
theorem mh:∀{a b:List Str},a.Pairwise Fi->b.Pairwise Fi->a.Perm b->a=b
 |[],b,_,_,p=>(List.Perm.nil_eq p)
 |x::r,[],_,_,p=>(List.Perm.eq_nil p)
 |x::r,y::t,h1,h2,p=>by
  have NU:=Kb.mp h1;have Wq:=Kb.mp h2;have e:x=y:=Classical.byContradiction λne=>by
   have m1:x∈y::t:=p.mem_iff.mp Hg;have m2:y∈x::r:=p.mem_iff.mpr Hg;rcases Hh.mp m1 with z|z
   .exact ne z
   .rcases Hh.mp m2 with z'|z'
    .exact ne z'.symm
    .have q1:y.cps.toList<x.cps.toList:=Wq.1 x z;have q2:x.cps.toList<y.cps.toList:=NU.1 y z';exact Lh q1 q2
  subst e;rw[mh NU.2 Wq.2 (List.Perm.cons_inv p)]
theorem E5 {a b:List Str}(h1:sortedS a=true)(h2:sortedS b=true)(nd:a.Nodup)(p:a.Perm b):a=b:=
 mh (cX (gh h1 nd)) (cX (gh h2 (p.nodup_iff.mp nd))) p
structure Ordr (W:A6) (s1 s2:List Str):Prop where
 p1:s1.Perm (W.pts.map (·.1))
 p2:s2.Perm (W.ts.map (·.1))
 o1:sortedS s1=true
 o2:sortedS s2=true
theorem Ordr.mem {W:A6}{s1 s2:List Str}(h:Ordr W s1 s2){n:Str}:n∈s1++s2↔n∈d9 W:=by
 unfold d9;rw[GO,GO,h.p1.mem_iff,h.p2.mem_iff]
theorem Ordr.perm {W:A6}{s1 s2:List Str}(h:Ordr W s1 s2):(s1++s2).Perm (d9 W):=h.p1.append h.p2
theorem Ordr.len {W:A6}{s1 s2:List Str}(h:Ordr W s1 s2):(s1++s2).length=(d9 W).length:=h.perm.length_eq
def i6 (kvm:List (j0×V))(n:Str):Str:=match p8 kvm (Sum.inr n:j0) with
 |some (.str s)=>s
 |_=>""
theorem bB {kvm:List (j0×V)}{n s:Str}(h:p8 kvm (Sum.inr n:j0)=some (.str s)):i6 kvm n=s:=by unfold i6;rw[h]
def TxtAt (kvm:List (j0×V))(n:Str):Prop:=∃s,p8 kvm (Sum.inr n:j0)=some (.str s)
theorem TxtAt.at_ {kvm:List (j0×V)}{n:Str}(h:TxtAt kvm n):p8 kvm (Sum.inr n:j0)=some (.str (i6 kvm n)):=by
 obtain⟨s,hs⟩:=h;rw[bB hs];exact hs
theorem Ar {H:Hp}{Q:VK}{d:Addr}{kvm:List (j0×V)}{n:Str}(hD:Rd H d (.dK kvm))(h:TxtAt kvm n)(q:Q (.str (i6 kvm n)) H):mQ K (.ref d) (.str n) H Q:=
 B6 (by have z:=G3 (k:=Sum.inr n) hD;rw[h.at_] at z;exact z) q
def jX (K:Qc):Sp:=λvs H Q _=>∃(a p q:Addr) (kvs:List (j0×V)) (W:A6),vs=[.ref a]/\WebAt K H a p q kvs W/\(d9 W).length<=60/\∀(l:Addr) (H':Hp) (s1 s2:List Str),H l=none->Same H H'->H' l=some (.lst ((s1++s2).map V.str))->Ordr W s1 s2->Q (.ref l) H'
theorem A4 (W:A6):(d9 W).length=W.pts.length+W.ts.length:=by unfold d9;rw[GF,Gs,Gs]
abbrev K2 (P:Program)(w:World)(K:Qc)(mg:Str->Option Value)(base:Heap):Prop:=O4 P w K mg base C2 1 "things" ["web"] [] (jX K)
theorem sE {f:Addr}{fd:FuncData}(T:Txt K mg)(F:Fun K "things" "things" hJ f fd):A3 P w K mg base C2 1 f fd ["web"] (jX K):=by
 refine F.ok sc_things (λvs H Q E h=>?_) (λd_ A outer s H vs Q E hr h=>?_)
 .obtain⟨a,p,q,kvs,W,rfl,_⟩:=h;rfl
 .obtain⟨a,p,q,kvs,W,rfl,hW,h1,k⟩:=h;rw[A4] at h1;have hN:=sc_things.nd;have hu:=u9 hr;refine⟨_,QSs.r (A7 (A1 (B1 (F4 K) (qB (G4 K rfl) T.b_sorted Boot.«sorted» (j3 (k9 (l0 K hu) (qV 0) d8 (λ_ _=>rfl)) j6)) (qB (G4 K rfl) T.b_sorted Boot.«sorted» (j3 (k9 (l0 K hu) (qV 0) d8 (λ_ _=>rfl)) j6))))),?_⟩;walk_at "r";refine b0 hW.tup (b5 (j:=0) rfl) ?_;walk_at "r";refine z7 (ss:=W.pts.map (·.1)) hW.pts (by rw[B7,r6]) (by rw[Gs];lia) (λs1 a1 a2 l1 n1=>?_);obtain⟨H1,e1,f1,m1,_⟩:=b4 (o:= .lst _) n1;rw[e1];have W1:=hW.mono m1.le;walk_at "r";refine b0 W1.tup (b5 (j:=1) rfl) ?_;walk_at "r";refine z7 (ss:=W.ts.map (·.1)) W1.ties (by rw[W1.ts.keys,r6]) (by rw[Gs];lia) (λs2 b1 b2 l2 n2=>?_);obtain⟨H2,e2,f2,m2,_⟩:=b4 (o:= .lst _) n2;rw[e2];have g1:=a1.length_eq;have g2:=b1.length_eq;rw[Gs] at g1 g2;refine nQ (m2 _ _ f1) f2 (h9 (by rw[Gs,Gs];lia)) (λl3 n3=>?_);obtain⟨H3,e3,f3,m3,_⟩:=b4 (o:= .lst _) n3;rw[e3];refine k l3 H3 s1 s2 (m1.free (m2.free n3)) (m1.trans (m2.trans m3)) ?_ ⟨a1,b1,a2,b2⟩;rw[f3,Gy]
def fG (K:Qc):Sp:=λvs H Q _=>∃(d:Addr) (kvs:List (j0×V)) (ss:List Str),vs=[.ref d]/\Rd H d (.dK kvs)/\kvs.map (·.1)=ss.map Sum.inr/\ss.Nodup/\ss.length<=60/\∀(l:Addr) (H':Hp) (c_:List (j0×V)),H l=none->Same H H'->H' l=some (.dK c_)->c_.Perm kvs->Q (.ref l) H'
def NewP (K:Qc)(H:Hp)(Q:VK)(W:A6):Prop:=∀(a p q:Addr) (kvs:List (j0×V)) (W':A6) (H':Hp),Same H H'->WebAt K H' a p q kvs W'->H' p=some (.dK (i9 W'.pts))->H' q=some (.dK kvs)->p≠q->H p=none->H q=none->W'.pts.Perm W.pts->W'.ts.Perm W.ts->Q (.ref a) H'
def jW (K:Qc):Sp:=λvs H Q _=>∃(a p q:Addr) (kvs:List (j0×V)) (W:A6),vs=[.ref a]/\WebAt K H a p q kvs W/\(W.pts.map (·.1)).Nodup/\(W.ts.map (·.1)).Nodup/\W.pts.length<=60/\W.ts.length<=60/\NewP K H Q W
abbrev iy (P:Program)(w:World)(K:Qc)(mg:Str->Option Value)(base:Heap):Prop:=O4 P w K mg base C2 1 "in_order" ["named"] [] (fG K)
theorem mY {f:Addr}{fd:FuncData}(T:Txt K mg)(F:Fun K "in_order" "in_order" cb f fd):A3 P w K mg base C2 1 f fd ["named"] (fG K):=by
 refine F.ok sc_in_order (λvs H Q E h=>?_) (λd_ A outer s H vs Q E hr h=>?_)
 .obtain⟨d,kvs,ss,rfl,_⟩:=h;rfl
 .obtain⟨d,kvs,ss,rfl,hd,hk,D_,hl,k⟩:=h;have nd:(kvs.map (·.1)).Nodup:=by
   rw[hk];refine Ja _ ?_ D_;exact λa b h z=>h (Ij z)
  have hN:=sc_in_order.nd;have hu:=u9 hr;refine⟨_,QSs.r (A7 (A1 (gD (X9 K rfl) T.b_dict Boot.«dict» (j3 (E4 (own:=["name"]) (js:=[0]) (by kernel_rfl) rfl (Q4 K (qB (G4 K rfl) T.b_sorted Boot.«sorted» (j3 (qV 0) j6))) (λ_ _ _ _=>(F9 (i:=0) (show List.Nodup (["name","named"]:List Str) by decide+kernel) rfl (by walk_at "l"))) (λ_ _ _ _=>af) (λ_ _ _ _=>(P5 (j3 (qV 0) (j3 (k9 (l0 K hu) (qV 1) (qV 0) (λ_ _=>rfl)) j6))))) j6)))),?_⟩;walk_at "r";refine z7 (ss:=ss) hd hk (by lia) (λs1 a1 a2 l1 n1=>?_);obtain⟨H1,e1,f1,m1,_⟩:=b4 (o:= .lst _) n1;rw[e1];have Yi:=m1.rd hd;have Mc:=a1.length_eq;refine A0 (SqL.of f1) ?_;refine u4 (n:=s1.length) (λi out H'=>Same H1 H'/\Paired (PrV K H') out ((s1.take i).map λs=>(Sum.inr s,(p8 kvs (Sum.inr s:j0)).getD .non))) ⟨Same.refl _,.nil⟩ (λi out H' hi hp=>⟨_,.str (s1[i]),SqL.of (hp.1 _ _ f1),by rw[Gx,Gu hi];rfl⟩) ?_ ?_
  .rintro N i v out H2 H3 hi ⟨s2,pr⟩ y hN';obtain⟨rfl,hx⟩:=Itl.get y (SqL.of (s2 _ _ f1));rw[Gx] at hx;obtain⟨x,p_,rfl⟩:=Hr.mp hx;have Yj:(Sum.inr x:j0)∈kvs.map (·.1):=by
    rw[hk];exact Gw.mpr ⟨x,a1.mem_iff.mp (GJ p_),rfl⟩
   obtain⟨kv,f_,Yk⟩:=Gw.mp Yj;have ev:=cM nd f_;rw[Yk] at ev;have e7:s1.take (i+1)=s1.take i++[x]:=by rw[Ho,p_];rfl
   walk_at "r";refine⟨rfl,?_⟩;walk_at "r";refine B6 (v:=kv.2) (by have z':=G3 (k:=Sum.inr x) (s2.rd Yi);rw[ev] at z';exact z') ?_;walk_at "r";refine⟨h9 (by simp),λt nt=>?_⟩;obtain⟨H4,e4,f4,m4,_⟩:=b4 (o:= .tup _) nt;rw[e4];have C_:=Hn pr;rw[Gs,GC] at C_;refine⟨h9 (by lia),hN' _ _ ⟨s2.trans m4,?_⟩⟩;rw[e7,Gy];refine q8 (Paired.imp' (λ_ _ z=>PrV.mono m4.le z) pr) ⟨t,rfl,?_⟩;show SqT K _ t [V.str x,(p8 kvs (Sum.inr x:j0)).getD V.non];rw[ev];exact SqT.of f4
  .rintro out H2 ⟨s2,pr⟩;have C_:=Hn pr;rw[Gs,GC] at C_;refine⟨⟨_,SqL.of (s2 _ _ f1),by rw[Gs];exact Gv _⟩,λD hD=>⟨h9 (by lia),?_⟩⟩;obtain⟨H5,e5,f5,m5,_⟩:=b4 (o:= .lst out) hD;show rW _ (p0 _ D _) _;rw[e5];walk_at "r";rw[GD (Gv _)] at pr;refine N9 (SqL.of f5) (Paired.imp' (λ_ _ z=>PrV.mono m5.le z) pr) (h9 (by rw[Gs];lia)) (λl nl=>?_);obtain⟨H6,e6,f6,m6,_⟩:=b4 (o:= .dK _) nl;rw[e6];have mA:=m1.trans (s2.trans (m5.trans m6));have OC:(s1.map λs=>((Sum.inr s:j0),(p8 kvs (Sum.inr s:j0)).getD V.non)).Perm kvs:=by
    refine List.Perm.trans (a1.map _) ?_;rw[←AS hk nd]
   rw[T6 ((OC.map _).nodup_iff.mpr nd)] at f6;exact k l H6 _ ((m1.trans (s2.trans m5)).free nl) mA f6 OC
abbrev de (P:Program)(w:World)(K:Qc)(mg:Str->Option Value)(base:Heap):Prop:=O4 P w K mg base C2 2 "copied" ["web"] [] (jW K)
theorem qY {f:Addr}{fd:FuncData}(T:Txt K mg)(Z5:iy P w K mg base)(F:Fun K "copied" "copied" gK f fd):A3 P w K mg base C2 2 f fd ["web"] (jW K):=by
 refine F.ok sc_copied (λvs H Q E h=>?_) (λd_ A outer s H vs Q E hr h=>?_)
 .obtain⟨a,p,q,kvs,W,rfl,_⟩:=h;rfl
 .obtain⟨a,p,q,kvs,W,rfl,hW,d1,d2,l1,l2,k⟩:=h;have hN:=sc_copied.nd;have hu:=u9 hr;refine⟨_,QSs.r (A7 (A1 (P5 (j3 (qC Z5 (hr.mono (by decide)) j7 (j3 (k9 (l0 K hu) (qV 0) d8 (λ_ _=>rfl)) j6)) (j3 (qC Z5 (hr.mono (by decide)) j7 (j3 (k9 (l0 K hu) (qV 0) d8 (λ_ _=>rfl)) j6)) j6))))),?_⟩;walk_at "r";refine b0 hW.tup (b5 (j:=0) rfl) ?_;walk_at "r";refine⟨p,i9 W.pts,W.pts.map (·.1),rfl,hW.pts,by rw[B7,r6],d1,by rw[Gs];exact l1,λp' H1 kp np' m1 f1 pm1=>?_⟩;have W1:=hW.mono m1.le;walk_at "r";refine b0 W1.tup (b5 (j:=1) rfl) ?_;walk_at "r";refine⟨q,kvs,W.ts.map (·.1),rfl,W1.ties,by rw[W1.ts.keys,r6],d2,by rw[Gs];exact l2,λq' H2 kq nq' m2 f2 pm2=>?_⟩;walk_at "r";refine⟨h9 (by simp),λl9 n9=>?_⟩;obtain⟨H9,e9,f9,m9,_⟩:=b4 (o:= .tup _) n9;rw[e9];obtain⟨i_,rfl,pp⟩:=uv pm1;have W2:=hW.mono (m1.trans (m2.trans m9)).le;obtain⟨ND,w',pt⟩:=U0 pm2 W2.ts;have g1:=m9 _ _ (m2 _ _ f1);have g2:=m9 _ _ f2;exact k l9 p' q' kq ⟨i_,ND⟩ H9 (m1.trans (m2.trans m9)) ⟨SqT.of f9,.inl g1,.inl g2,w'⟩ g1 g2 (j4 f1 nq') np' (m1.free nq') pp pt
structure Ea (W:A6):Prop where
 nm:∀x∈d9 W,R4 x=true
 kd:∀x∈W.pts,X1 x.2=true
 tk:∀x∈W.ts,X1 x.2.1=true
theorem jG {x s:Str}{m:Int}(h:K8 x s m=true):(x.length:Int)<=m:=by
 unfold K8 at h;simp only[GP,GS] at h;exact h.1.2
theorem ue {x:Str}(h:R4 x=true):x.length<=1000:=by
 unfold R4 at h;have:=jG (GP _ _▸h).1;lia
theorem uX:fm "dict" "dict"=true:=rfl--SPLIT
structure oJ (m:Nat) (W:A6):Prop where
 good:Ea W
 kds:∀n∈d9 W,X1 n=true
 l1:W.pts.length<=m
 l2:W.ts.length<=m
def qu (K:Qc):Sp:=λvs H Q _=>∃(a p q a' p' q':Addr) (kvs c_:List (j0×V)) (W O:A6),vs=[.ref a,.ref a']/\WebIs 24 K H a p q kvs W/\WebIs 24 K H a' p' q' c_ O/\∀(l:Addr) (H':Hp) (s1 s2:List Str),H l=none->Same H H'->Ordr W s1 s2->H' l=some (.lst (((s1++s2).filter λn=>decide (n∈d9 O)).map V.str))->Q (.ref l) H'
def lY (K:Qc):Sp:=λvs H Q _=>∃(a p q a' p' q':Addr) (kvs c_:List (j0×V)) (W O:A6),vs=[.ref a,.ref a']/\WebIs 24 K H a p q kvs W/\WebIs 24 K H a' p' q' c_ O/\∀(l:Addr) (H':Hp) (s1 s2:List Str),H l=none->Same H H'->Ordr W s1 s2->H' l=some (.lst (((s1++s2).filter λn=>!decide (n∈d9 O)).map V.str))->Q (.ref l) H'
theorem xJ (n:Nat):(List.replicate n true).all id=true:=by rw[Hk];intro b hb;exact(List.mem_replicate.mp hb).2--SPLIT
abbrev vk (P:Program)(w:World)(K:Qc)(mg:Str->Option Value)(base:Heap):Prop:=O4 P w K mg base C2 2 "both" ["web","other"] [] (qu K)
theorem yf {f:Addr}{fd:FuncData}(T:Txt K mg)(x8:K2 P w K mg base)(F:Fun K "both" "both" oh f fd):A3 P w K mg base C2 2 f fd ["web","other"] (qu K):=by
 refine F.ok sc_both (λvs H Q E h=>?_) (λd_ A outer s H vs Q E hr h=>?_)
 .obtain⟨a,p,q,a',p',q',kvs,c_,W,O,rfl,_⟩:=h;rfl
 .obtain⟨a,p,q,a',p',q',kvs,c_,W,O,rfl,hW,hO,k⟩:=h;have Yl:=hW.len;have hN:=sc_both.nd;have hu:=u9 hr;refine⟨_,QSs.r (A7 (A1 (E4 (own:=["name"]) (js:=[1]) (by kernel_rfl) rfl (Q4 K (qC x8 (hr.mono (by decide)) j7 (j3 (qV 0) j6))) (λ_ _ _ _=>(F9 (i:=0) (show List.Nodup (["name","other"]:List Str) by decide+kernel) rfl (by walk_at "l"))) (λ_ _ _ _=>(gP (sL (oT (x5 (kIn K hu) (qV 0) (k9 (l0 K hu) (qV 1) d8 (λ_ _=>rfl)) (by rfl)) (kh (x5 (kIn K hu) (qV 0) (k9 (l0 K hu) (qV 1) d8 (λ_ _=>rfl)) (by rfl))))))) (λ_ _ _ _=>(qV 0))))),?_⟩;walk_at "r";refine⟨a,p,q,kvs,W,rfl,hW.at_,by lia,λl1 H1 s1 s2 n1 m1 f1 or=>?_⟩;have hlen:=or.len;refine A0 (SqL.of f1) ?_;refine u4 (n:=(s1++s2).length) (λi out H'=>Same H1 H'/\out=(((s1++s2).take i).filter λn=>decide (n∈d9 O)).map V.str) ⟨Same.refl _,rfl⟩ (λi out H' hi hp=>⟨_,.str ((s1++s2)[i]),SqL.of (hp.1 _ _ f1),by rw[Gx,Gu hi];rfl⟩) ?_ ?_
  .rintro N i v out H3' H3 hi ⟨s3,rfl⟩ y hN';obtain⟨rfl,hx⟩:=Itl.get y (SqL.of (s3 _ _ f1));rw[Gx,Gu hi] at hx;cases hx;have O3:=hO.at_.mono (m1.trans s3).le;have e7:(s1++s2).take (i+1)=(s1++s2).take i++[(s1++s2)[i]]:=by rw[Ho,Gu hi];rfl
   have A_:=GI (λn=>decide (n∈d9 O)) ((s1++s2).take i);rw[GC] at A_;have yes:(decide ((s1++s2)[i]∈d9 O))=true->((((s1++s2).take i).filter λn=>decide (n∈d9 O)).map V.str).length<=sizeLine/\N ((((s1++s2).take i).filter λn=>decide (n∈d9 O)).map V.str++[V.str (s1++s2)[i]]) H3:=λhb=>by
    refine⟨h9 (by rw[Gs];lia),hN' _ _ ⟨s3,?_⟩⟩;rw[e7,Hw,Hz (p:=λn=>decide (n∈d9 O)) hb,Iv,Gy];rfl
   have no:(decide ((s1++s2)[i]∈d9 O))=false->N ((((s1++s2).take i).filter λn=>decide (n∈d9 O)).map V.str) H3:=λhb=>by
    refine hN' _ _ ⟨s3,?_⟩;rw[e7,Hw,HG (p:=λn=>decide (n∈d9 O)) (by rw[hb];simp),Iv,HX]
   walk_at "r";refine⟨rfl,?_⟩;walk_at "r";refine b0 O3.tup (b5 (j:=0) rfl) ?_;refine P0 (G3 (k:=Sum.inr (s1++s2)[i]) O3.pts) ?_;rw[G0];walk_at "r";refine C5 (λb1=>?_) (λb1=>?_)
   .walk_at "r";refine yes (by rw[Hf (show(s1++s2)[i]∈d9 O from GA _ b1)])
   .walk_at "r";refine b0 O3.tup (b5 (j:=1) rfl) ?_;refine P0 (G3 (k:=Sum.inr (s1++s2)[i]) O3.ties) ?_;rw[X7 O3.ts];walk_at "r";refine C5 (λb2=>?_) (λb2=>?_)
    .walk_at "r";refine yes (by rw[Hf (show(s1++s2)[i]∈d9 O from GG _ b2)])
    .exact no (by rw[Hc (show(s1++s2)[i]∉d9 O from λz=>(GO.mp z).elim b1 b2)])
  .rintro out H3 ⟨s3,rfl⟩;have A_:=GI (λn=>decide (n∈d9 O)) ((s1++s2).take (s1++s2).length);rw[GC] at A_;refine⟨⟨_,SqL.of (s3 _ _ f1),by rw[Gs];exact Gv _⟩,λD hD=>⟨h9 (by rw[Gs];lia),?_⟩⟩;rw[GD (Gv _)];obtain⟨H4,e4,f4,m4,_⟩:=b4 (H:=H3) (o:= .lst (((s1++s2).filter λn=>decide (n∈d9 O)).map V.str)) hD;refine k D _ s1 s2 ((m1.trans s3).free hD) ?_ or ?_
   .show Same _ (p0 _ D _);rw[e4];exact m1.trans (s3.trans m4)
   .show p0 _ D _ D=_;rw[b7]
abbrev kP (P:Program)(w:World)(K:Qc)(mg:Str->Option Value)(base:Heap):Prop:=O4 P w K mg base C2 2 "alone" ["web","other"] [] (lY K)
theorem uu {f:Addr}{fd:FuncData}(T:Txt K mg)(x8:K2 P w K mg base)(F:Fun K "alone" "alone" kF f fd):A3 P w K mg base C2 2 f fd ["web","other"] (lY K):=by
 refine F.ok sc_alone (λvs H Q E h=>?_) (λd_ A outer s H vs Q E hr h=>?_)
 .obtain⟨a,p,q,a',p',q',kvs,c_,W,O,rfl,_⟩:=h;rfl
 .obtain⟨a,p,q,a',p',q',kvs,c_,W,O,rfl,hW,hO,k⟩:=h;have Yl:=hW.len;have hN:=sc_alone.nd;have hu:=u9 hr;refine⟨_,QSs.r (A7 (A1 (E4 (own:=["name"]) (js:=[1]) (by kernel_rfl) rfl (Q4 K (qC x8 (hr.mono (by decide)) j7 (j3 (qV 0) j6))) (λ_ _ _ _=>(F9 (i:=0) (show List.Nodup (["name","other"]:List Str) by decide+kernel) rfl (by walk_at "l"))) (λ_ _ _ _=>(gP (sL (dM (x5 (bg K hu) (qV 0) (k9 (l0 K hu) (qV 1) d8 (λ_ _=>rfl)) (by rfl)) (cn (x5 (bg K hu) (qV 0) (k9 (l0 K hu) (qV 1) d8 (λ_ _=>rfl)) (by rfl))))))) (λ_ _ _ _=>(qV 0))))),?_⟩;walk_at "r";refine⟨a,p,q,kvs,W,rfl,hW.at_,by lia,λl1 H1 s1 s2 n1 m1 f1 or=>?_⟩;have hlen:=or.len;refine A0 (SqL.of f1) ?_;refine u4 (n:=(s1++s2).length) (λi out H'=>Same H1 H'/\out=(((s1++s2).take i).filter λn=>!decide (n∈d9 O)).map V.str) ⟨Same.refl _,rfl⟩ (λi out H' hi hp=>⟨_,.str ((s1++s2)[i]),SqL.of (hp.1 _ _ f1),by rw[Gx,Gu hi];rfl⟩) ?_ ?_
  .rintro N i v out H3' H3 hi ⟨s3,rfl⟩ y hN';obtain⟨rfl,hx⟩:=Itl.get y (SqL.of (s3 _ _ f1));rw[Gx,Gu hi] at hx;cases hx;have O3:=hO.at_.mono (m1.trans s3).le;have e7:(s1++s2).take (i+1)=(s1++s2).take i++[(s1++s2)[i]]:=by rw[Ho,Gu hi];rfl
   have A_:=GI (λn=>!decide (n∈d9 O)) ((s1++s2).take i);rw[GC] at A_;have yes:(!decide ((s1++s2)[i]∈d9 O))=true->((((s1++s2).take i).filter λn=>!decide (n∈d9 O)).map V.str).length<=sizeLine/\N ((((s1++s2).take i).filter λn=>!decide (n∈d9 O)).map V.str++[V.str (s1++s2)[i]]) H3:=λhb=>by
    refine⟨h9 (by rw[Gs];lia),hN' _ _ ⟨s3,?_⟩⟩;rw[e7,Hw,Hz (p:=λn=>!decide (n∈d9 O)) hb,Iv,Gy];rfl
   have no:(!decide ((s1++s2)[i]∈d9 O))=false->N ((((s1++s2).take i).filter λn=>!decide (n∈d9 O)).map V.str) H3:=λhb=>by
    refine hN' _ _ ⟨s3,?_⟩;rw[e7,Hw,HG (p:=λn=>!decide (n∈d9 O)) (by rw[hb];simp),Iv,HX]
   walk_at "r";refine⟨rfl,?_⟩;walk_at "r";refine b0 O3.tup (b5 (j:=0) rfl) ?_;refine aP (G3 (k:=Sum.inr (s1++s2)[i]) O3.pts) ?_;rw[G0];walk_at "r";refine aD (λb1=>?_) (λb1=>?_)
   .walk_at "r";refine b0 O3.tup (b5 (j:=1) rfl) ?_;refine aP (G3 (k:=Sum.inr (s1++s2)[i]) O3.ties) ?_;rw[X7 O3.ts];walk_at "r";refine aD (λb2=>?_) (λb2=>?_)
    .walk_at "r";refine yes (by rw[Hc (show(s1++s2)[i]∉d9 O from λz=>(GO.mp z).elim b1 b2)];rfl)
    .exact no (by rw[Hf (show(s1++s2)[i]∈d9 O from GG _ b2)];rfl)
   .exact no (by rw[Hf (show(s1++s2)[i]∈d9 O from GA _ b1)];rfl)
  .rintro out H3 ⟨s3,rfl⟩;have A_:=GI (λn=>!decide (n∈d9 O)) ((s1++s2).take (s1++s2).length);rw[GC] at A_;refine⟨⟨_,SqL.of (s3 _ _ f1),by rw[Gs];exact Gv _⟩,λD hD=>⟨h9 (by rw[Gs];lia),?_⟩⟩;rw[GD (Gv _)];obtain⟨H4,e4,f4,m4,_⟩:=b4 (H:=H3) (o:= .lst (((s1++s2).filter λn=>!decide (n∈d9 O)).map V.str)) hD;refine k D _ s1 s2 ((m1.trans s3).free hD) ?_ or ?_
   .show Same _ (p0 _ D _);rw[e4];exact m1.trans (s3.trans m4)
   .show p0 _ D _ D=_;rw[b7]
structure Sd where
 a:Addr
 p:Addr
 q:Addr
 kvs:List (j0×V)
 W:A6
def SdIs (K:Qc)(H:Hp)(s:Sd):Prop:=WebIs 24 K H s.a s.p s.q s.kvs s.W
theorem SdIs.same {H H':Hp}{s:Sd}(h:SdIs K H s)(m:Same H H'):SdIs K H' s:=WebIs.same h m
structure RuleIs (K:Qc) (H:Hp) (r bl:Addr) (L R:Sd) (bs:List Sd):Prop where
 tup:SqT K H r [.ref L.a,.ref R.a,.ref bl]
 l:SdIs K H L
 r:SdIs K H R
 bl:SqL K H bl (bs.map λs=>V.ref s.a)
 bars:∀b∈bs,SdIs K H b
theorem RuleIs.same {H H':Hp}{r bl:Addr}{L R:Sd}{bs:List Sd}(h:RuleIs K H r bl L R bs)(m:Same H H'):RuleIs K H' r bl L R bs:=⟨m.tup h.tup,h.l.same m,h.r.same m,m.seq h.bl,λb hb=>(h.bars b hb).same m⟩
structure Cf (n:Str) (L R:A6):Prop where
 p:∀k,(n,k)∈L.pts↔(n,k)∈R.pts
 t:∀t,(n,t)∈L.ts↔(n,t)∈R.ts
structure Fp (L R:A6) (bs:List Sd):Prop where
 l:oJ 4 L
 r:oJ 4 R
 ag:∀n∈d9 L,n∈d9 R->Cf n L R
 len:bs.length<=3
 bars:∀b∈bs,oJ 6 b.W/\(∀x∈L.pts,x∈b.W.pts)/\∀x∈L.ts,x∈b.W.ts
def pW (K:Qc):Sp:=λvs H Q _=>∃(r bl:Addr) (L R:Sd) (bs:List Sd),vs=[.ref r]/\RuleIs K H r bl L R bs/\∀(l:Addr) (H':Hp) (s1 s2:List Str),H l=none->Same H H'->Ordr L.W s1 s2->H' l=some (.lst (((s1++s2).filter λn=>decide (n∈d9 R.W)).map V.str))->Q (.ref l) H'
def mq (K:Qc):Sp:=λvs H Q _=>∃(r bl:Addr) (L R:Sd) (bs:List Sd),vs=[.ref r]/\RuleIs K H r bl L R bs/\∀(l:Addr) (H':Hp) (s1 s2:List Str),H l=none->Same H H'->Ordr L.W s1 s2->H' l=some (.lst (((s1++s2).filter λn=>!decide (n∈d9 R.W)).map V.str))->Q (.ref l) H'
def fu (K:Qc):Sp:=λvs H Q _=>∃(r bl:Addr) (L R:Sd) (bs:List Sd),vs=[.ref r]/\RuleIs K H r bl L R bs/\∀(l:Addr) (H':Hp) (s1 s2:List Str),H l=none->Same H H'->Ordr R.W s1 s2->H' l=some (.lst (((s1++s2).filter λn=>!decide (n∈d9 L.W)).map V.str))->Q (.ref l) H'
abbrev tM (P:Program)(w:World)(K:Qc)(mg:Str->Option Value)(base:Heap):Prop:=O4 P w K mg base C2 3 "kept" ["rule"] [] (pW K)
theorem xP {f:Addr}{fd:FuncData}(T:Txt K mg)(pq:vk P w K mg base)(F:Fun K "kept" "kept" pA f fd):A3 P w K mg base C2 3 f fd ["rule"] (pW K):=by
 refine F.ok sc_kept (λvs H Q E h=>?_) (λd_ A outer s H vs Q E hr h=>?_)
 .obtain⟨r,bl,L,R,bs,rfl,_⟩:=h;rfl
 .obtain⟨r,bl,L,R,bs,rfl,hr',k⟩:=h;have hN:=sc_kept.nd;have hu:=u9 hr;refine⟨_,QSs.r (A7 (A1 (qC pq (hr.mono (by decide)) j7 (j3 (k9 (l0 K hu) (qV 0) d8 (λ_ _=>rfl)) (j3 (k9 (l0 K hu) (qV 0) d8 (λ_ _=>rfl)) j6))))),?_⟩;walk_at "r";refine b0 hr'.tup (b5 (j:=0) rfl) ?_;walk_at "r";refine b0 hr'.tup (b5 (j:=1) rfl) ?_;walk_at "r";exact⟨_,_,_,_,_,_,_,_,_,_,rfl,hr'.l,hr'.r,λl H' s1 s2 n m o f=>k l H' s1 s2 n m o f⟩
abbrev qv (P:Program)(w:World)(K:Qc)(mg:Str->Option Value)(base:Heap):Prop:=O4 P w K mg base C2 3 "taken" ["rule"] [] (mq K)
theorem tV {f:Addr}{fd:FuncData}(T:Txt K mg)(bG:kP P w K mg base)(F:Fun K "taken" "taken" kj f fd):A3 P w K mg base C2 3 f fd ["rule"] (mq K):=by
 refine F.ok sc_taken (λvs H Q E h=>?_) (λd_ A outer s H vs Q E hr h=>?_)
 .obtain⟨r,bl,L,R,bs,rfl,_⟩:=h;rfl
 .obtain⟨r,bl,L,R,bs,rfl,hr',k⟩:=h;have hN:=sc_taken.nd;have hu:=u9 hr;refine⟨_,QSs.r (A7 (A1 (qC bG (hr.mono (by decide)) j7 (j3 (k9 (l0 K hu) (qV 0) d8 (λ_ _=>rfl)) (j3 (k9 (l0 K hu) (qV 0) d8 (λ_ _=>rfl)) j6))))),?_⟩;walk_at "r";refine b0 hr'.tup (b5 (j:=0) rfl) ?_;walk_at "r";refine b0 hr'.tup (b5 (j:=1) rfl) ?_;walk_at "r";exact⟨_,_,_,_,_,_,_,_,_,_,rfl,hr'.l,hr'.r,λl H' s1 s2 n m o f=>k l H' s1 s2 n m o f⟩
abbrev cm (P:Program)(w:World)(K:Qc)(mg:Str->Option Value)(base:Heap):Prop:=O4 P w K mg base C2 3 "fresh_of" ["rule"] [] (fu K)
theorem mO {f:Addr}{fd:FuncData}(T:Txt K mg)(bG:kP P w K mg base)(F:Fun K "fresh_of" "fresh_of" cf f fd):A3 P w K mg base C2 3 f fd ["rule"] (fu K):=by
 refine F.ok sc_fresh_of (λvs H Q E h=>?_) (λd_ A outer s H vs Q E hr h=>?_)
 .obtain⟨r,bl,L,R,bs,rfl,_⟩:=h;rfl
 .obtain⟨r,bl,L,R,bs,rfl,hr',k⟩:=h;have hN:=sc_fresh_of.nd;have hu:=u9 hr;refine⟨_,QSs.r (A7 (A1 (qC bG (hr.mono (by decide)) j7 (j3 (k9 (l0 K hu) (qV 0) d8 (λ_ _=>rfl)) (j3 (k9 (l0 K hu) (qV 0) d8 (λ_ _=>rfl)) j6))))),?_⟩;walk_at "r";refine b0 hr'.tup (b5 (j:=1) rfl) ?_;walk_at "r";refine b0 hr'.tup (b5 (j:=0) rfl) ?_;walk_at "r";exact⟨_,_,_,_,_,_,_,_,_,_,rfl,hr'.r,hr'.l,λl H' s1 s2 n m o f=>k l H' s1 s2 n m o f⟩
def bj (K:Qc):Sp:=λvs H Q _=>∃(t d:Addr) (x:F2) (kvm:List (j0×V)),vs=[.ref t,.ref d]/\SqT K H t (cq x)/\Rd H d (.dK kvm)/\TxtAt kvm x.2.1/\TxtAt kvm x.2.2/\∀(l:Addr) (H':Hp),H l=none->Same H H'->H' l=some (.tup (cq (x.1,i6 kvm x.2.1,i6 kvm x.2.2)))->Q (.ref l) H'
structure cg (P W:A6) (kvm:List (j0×V)):Prop where
 len:kvm.length=(d9 P).length
 txt:∀n∈d9 P,TxtAt kvm n
 nd:((d9 P).map (i6 kvm)).Nodup
 pts:∀x∈P.pts,(i6 kvm x.1,x.2)∈W.pts
 ts:∀x∈P.ts,(i6 kvm x.1,(x.2.1,i6 kvm x.2.2.1,i6 kvm x.2.2.2))∈W.ts
theorem yq {pts:List (Str×Str)}{n s:Str}(h:n∉pts.map (·.1)):B9 (i9 pts) (Sum.inr n:j0) (.str s)=i9 (pts++[(n,s)]):=by
 rw[E8 _ (C9 (by rw[B7,←r6];exact λm=>h (K6 m)))];unfold i9;rw[Gy];rfl
theorem P2 {ms:List (Str×Str)}{n m:Str}(nd:(ms.map (·.1)).Nodup)(h:(n,m)∈ms):i6 (i9 ms) n=m:=bB (aU nd h)
abbrev O1 (P:Program)(w:World)(K:Qc)(mg:Str->Option Value)(base:Heap):Prop:=O4 P w K mg base C2 1 "tie_renamed" ["tie","names"] [] (bj K)
theorem iG {f:Addr}{fd:FuncData}(T:Txt K mg)(F:Fun K "tie_renamed" "tie_renamed" V8 f fd):A3 P w K mg base C2 1 f fd ["tie","names"] (bj K):=by
 refine F.ok sc_tie_renamed (λvs H Q E h=>?_) (λd_ A outer s H vs Q E hr h=>?_)
 .obtain⟨t,d,x,kvm,rfl,_⟩:=h;rfl
 .obtain⟨t,d,⟨x1,x2,x3⟩,kvm,rfl,hT,hD,k1,k2,k⟩:=h;have hN:=sc_tie_renamed.nd;have hu:=u9 hr;refine⟨_,QSs.r (A7 (A1 (P5 (j3 (k9 (l0 K hu) (qV 0) d8 (λ_ _=>rfl)) (j3 (k9 (l0 K hu) (qV 1) (k9 (l0 K hu) (qV 0) d8 (λ_ _=>rfl)) (λ_ _=>rfl)) (j3 (k9 (l0 K hu) (qV 1) (k9 (l0 K hu) (qV 0) d8 (λ_ _=>rfl)) (λ_ _=>rfl)) j6)))))),?_⟩;walk_at "r";refine b0 hT (b5 (j:=0) rfl) ?_;walk_at "r";refine b0 hT (b5 (j:=1) rfl) ?_;refine Ar hD k1 ?_;walk_at "r";refine b0 hT (b5 (j:=2) rfl) ?_;refine Ar hD k2 ?_;walk_at "r";refine⟨h9 (by simp),λl9 n9=>?_⟩;obtain⟨H9,e9,f9,m9,_⟩:=b4 (o:= .tup _) n9;rw[e9];exact k l9 H9 n9 m9 f9
def jd (x:Str):List Str->List Str
 |[]=>[x]
 |y::r=>if ltCps y.cps.toList x.cps.toList=true then y::jd x r else x::y::r
def pG:List Str->List Str
 |[]=>[]
 |x::r=>jd x (pG r)
theorem jz (x:Str):∀l,(jd x l).Perm (x::l)
 |[]=> .refl _
 |y::r=>by
  unfold jd;split
  .exact((jz x r).cons y).trans (.swap _ _ _)
  .exact .refl _
theorem eM:∀l,(pG l).Perm l
 |[]=> .refl _
 |x::r=>(jz x _).trans ((eM r).cons x)
theorem mV {a b:Str}(h:ltCps a.cps.toList b.cps.toList=true):ltCps b.cps.toList a.cps.toList=false:=by
 rw[ltCps_eq] at h⊢;exact Hc (Lh (HI h))
theorem nI {x:Str}:∀{l:List Str} {p:Str},risingS p l=true->ltCps x.cps.toList p.cps.toList=false->risingS p (jd x l)=true
 |[],p,_,h=>by unfold jd;unfold risingS;rw[h];rfl
 |y::r,p,h1,h=>by
  have NU:(!ltCps y.cps.toList p.cps.toList&&risingS y r)=true:=h1;rw[GP] at NU;unfold jd;split
  .next e=>
   show(!ltCps y.cps.toList p.cps.toList&&risingS y (jd x r))=true;rw[NU.1,nI NU.2 (mV e)];rfl
  .next e=>
   show(!ltCps x.cps.toList p.cps.toList&&(!ltCps y.cps.toList x.cps.toList&&risingS y r))=true;rw[h,NU.2];simpa using e
theorem lK:∀l,sortedS (pG l)=true
 |[]=>rfl
 |x::r=>by
  have ih:=lK r;show sortedS (jd x (pG r))=true;cases e:pG r with
  |nil=>rfl
  |cons y t=>
   rw[e] at ih
   unfold jd
   split
   .next z=>exact nI ih (mV z)
   .next z=>
    show(!ltCps y.cps.toList x.cps.toList&&risingS y t)=true
    rw[show risingS y t=true from ih];simpa using z
def E3 (ts:List (Str×F2))(n:Str):F2:=match ts.find? (λx=>decide (x.1=n)) with
 |some x=>x.2
 |none=>("","","")
theorem ef:∀{ts:List (Str×F2)} {n:Str} {t:F2},(ts.map (·.1)).Nodup->(n,t)∈ts->E3 ts n=t
 |[],_,_,_,h=>nomatch h
 |x::r,n,t,nd,h=>by
  unfold E3;have nd':=Hs.mp (show(x.1::r.map (·.1)).Nodup from nd);by_cases e:x.1=n
  .rw[List.find?_cons_of_pos (by simpa using e)];rcases Hh.mp h with z|z
   .rw[←z]
   .exact absurd (Gw.mpr ⟨_,z,rfl⟩) (e▸nd'.1)
  .rw[List.find?_cons_of_neg (by simpa using e)];rcases Hh.mp h with z|z
   .exact absurd (by rw[←z]) e
   .exact ef nd'.2 z
theorem aZ {ts:List (Str×F2)}{n:Str}(h:n∈ts.map (·.1)):(n,E3 ts n)∈ts:=by
 unfold E3;cases e:ts.find? (λx=>decide (x.1=n)) with
 |none=>
  obtain⟨x,hx,z⟩:=Gw.mp h
  exact absurd (List.find?_eq_none.mp e x hx) (by simpa using z)
 |some x=>
  have z:x.1=n:=by simpa using List.find?_some e
  rw[←z];exact List.mem_of_find?_eq_some e
def K9 (fx:List (Str×Str))(n im:Str):Bool:=if n∈fx.map (·.1) then decide (im=i6 (i9 fx) n) else !decide (im∈fx.map (·.2))
def oA (L:Str->Str->Bool)(gp:List Str)(fx:List (Str×Str))(n:Str):List Str:=(gp.filter (L n)).filter (K9 fx n)
def qc (W:A6)(gt:List Str)(fx:List (Str×Str))(n:Str)(t:F2):List Str:=gt.filter λim=>decide (E3 W.ts im=t)&&K9 fx n im
def gv (nm b:List Str)(x:Str):Str:=i6 (i9 (nm.zip b)) x
def rX (W:A6)(gt:List Str)(fx:List (Str×Str))(nm b:List Str)(x:Str×F2):List Str:=qc W gt fx x.1 (x.2.1,gv nm b x.2.2.1,gv nm b x.2.2.2)
def ya (a b:Str):Str:=if a.cps.toList<b.cps.toList then b else a
def aQ (ts:List (Str×F2))(n:Str):List (Str×F2):=ts.filter λx=>decide (ya x.2.2.1 x.2.2.2=n)
def vB (ls:List (List Str)):Bool:=ls.all λd=>decide (ls.count d<=d.length)
def R1 (L:Str->Str->Bool)(Pc W:A6)(gp gt:List Str)(fx:List (Str×Str))(nm b:List Str):List Str:=match nm[b.length]? with
 |none=>[]
 |some n=>if n∈Pc.ts.map (·.1) then(rX W gt fx nm b (n,E3 Pc.ts n)).filter (λx=>!decide (x∈b))
  else((oA L gp fx n).filter (λx=>!decide (x∈b))).filter λim=>vB ((aQ Pc.ts n).map (rX W gt fx nm (b++[im])))
def eI (img:List Str->List Str):Nat->List Str->List (List Str)
 |0,b=>[b]
 |k+1,b=>(img b).flatMap λx=>eI img k (b++[x])
def iC:List (List Str)->List Str->List (List Str)
 |[],b=>[b]
 |c::r,b=>c.flatMap λx=>iC r (b++[x])
def El (img:List Str->List Str)(j:Nat)(row:List Str):Prop:=∀(i:Nat) (x:Str),j<=i->row[i]?=some x->x∈img (row.take i)
theorem dP:∀{bs:List (List Str)} {b row:List Str},row∈iC bs b->∃t,row=b++t/\t.length=bs.length/\∀(i:Nat) (x:Str) (c:List Str),t[i]?=some x->bs[i]?=some c->x∈c
 |[],b,row,h=>by
  rw[GZ.mp h];exact⟨[],by simp,rfl,λi x c hx _=>by simp at hx⟩
 |c::r,b,row,h=>by
  obtain⟨x,hx,h'⟩:=List.mem_flatMap.mp h;obtain⟨t,e,hl,hm⟩:=dP h';refine⟨x::t,by rw[e];simp,by simp [hl],λi y d hy hd=>?_⟩;cases i with
  |zero=>cases hy;cases hd;exact hx
  |succ i=>exact hm i y d hy hd
theorem aX {α β:Type}(p:α->Bool)(F:α->List β):∀l:List α,(l.filter p).flatMap F=l.flatMap λx=>if p x=true then F x else []
 |[]=>rfl
 |a::l=>by
  cases e:p a with
  |true=>rw[Hz e,Jb,Jb,if_pos e,aX p F l]
  |false=>rw[HG (by rw[e];decide),Jb,if_neg (by rw[e];decide),aX p F l];rfl
theorem bZ {α β:Type}{F G:α->List β}:∀{l:List α},(∀x∈l,F x=G x)->l.flatMap F=l.flatMap G
 |[],_=>rfl
 |a::l,h=>by rw[Jb,Jb,h a Hg,bZ λx hx=>h x (GY _ hx)]
theorem O7 {α:Type}{p q:α->Bool}:∀{l:List α},(∀x∈l,p x=q x)->l.filter p=l.filter q
 |[],_=>rfl
 |a::l,h=>by
  have z:=O7 (l:=l) λx hx=>h x (GY _ hx);rw[Jn,Jn,h a Hg,z]
open Classical in
theorem ui {img:List Str->List Str}:∀{bs:List (List Str)} {b:List Str},(∀(j:Nat) (c:List Str),bs[j]?=some c->∀b':List Str,b'.length=b.length+j->img b'=c.filter λx=>decide (x∈img b'))->
  eI img bs.length b=(iC bs b).filter λrow=>decide (El img b.length row)
 |[],b,_=>by
  show [b]=[b].filter _;rw[Hz (by
   refine Hf λi x hi hx=>?_;rw[HH hi] at hx;cases hx)];rfl
 |c::r,b,h=>by
  show(img b).flatMap (λx=>eI img r.length (b++[x]))=(c.flatMap λx=>iC r (b++[x])).filter _;have h0:=h 0 c rfl b (by lia);have hF:∀x,eI img r.length (b++[x])=(iC r (b++[x])).filter λrow=>decide (El img (b++[x]).length row):=λx=>
   ui λj d hd b' hb=>h (j+1) d hd b' (by rw[hb,GF,Hb];lia)
  rw[List.filter_flatMap,h0,aX];refine bZ λx hx=>?_;rw[hF x];by_cases k_:x∈img b
  .rw[if_pos (Hf k_)];refine O7 λrow Md=>?_;obtain⟨t,e,_⟩:=dP Md;rw[Hq,GS,GS];constructor
   .intro ok i y hi hy;by_cases z:i=b.length
    .have e1:row[i]?=some x:=by rw[e,z];simp
     rw[e1] at hy;cases hy;have e2:row.take i=b:=by rw[e,z];simp
     rw[e2];exact k_
    .exact ok i y (by rw[GF,Hb];lia) hy
   .intro ok i y hi hy;exact ok i y (by rw[GF,Hb] at hi;lia) hy
  .rw[if_neg (by rw[Hc k_];decide)];refine(II.mpr λrow Md=>?_).symm;obtain⟨t,e,_⟩:=dP Md;intro ok;have z:=HI ok b.length x (Gv _) (by rw[e];simp);rw[show row.take b.length=b by rw[e];simp] at z;exact k_ z
theorem mK {c:List Str}{p:Str->Bool}:c.filter p=c.filter λx=>decide (x∈c.filter p):=O7 λx hx=>by
 rw[Hq,GS,GR];exact⟨λh=>⟨hx,h⟩,λh=>h.2⟩
theorem qE:∀(nm b:List Str),((nm.zip b).map (·.1)).Sublist nm
 |[],_=> .slnil
 |_::_,[]=>List.nil_sublist _
 |n::nm,x::b=>(qE nm b).cons_cons n
theorem kO {nm:List Str}(b:List Str)(nd:nm.Nodup):((nm.zip b).map (·.1)).Nodup:=nd.sublist (qE nm b)
theorem kU {nm b:List Str}{i:Nat}{n x:Str}(h1:nm[i]?=some n)(h2:b[i]?=some x):(n,x)∈nm.zip b:=by
 have z:(nm.zip b)[i]?=some (n,x):=by rw[JG];exact⟨h1,h2⟩
 exact GJ z
theorem lT {nm b:List Str}{i:Nat}{n x:Str}(nd:nm.Nodup)(h1:nm[i]?=some n)(h2:b[i]?=some x):gv nm b n=x:=P2 (kO b nd) (kU h1 h2)
theorem vf {nm row:List Str}(nd:nm.Nodup)(hl:row.length=nm.length):nm.map (gv nm row)=row:=by
 refine Nc λi=>?_;rw[Gx];by_cases hi:i<nm.length
 .rw[Gu hi,Gu (show i<row.length by lia)];exact Ia some (lT nd (Gu hi) (Gu (by lia)))
 .rw[HH (by lia),HH (by lia)];rfl
theorem jn:∀{l m:List Str},l.Nodup->(∀x∈l,x∈m)->l.length<=m.length
 |[],m,_,_=>IA _
 |x::r,m,nd,h=>by
  have nd':=Hs.mp nd;have hx:=h x Hg;have z:=jn (l:=r) (m:=m.erase x) nd'.2 λy hy=>(List.mem_erase_of_ne (λe:y=x=>nd'.1 (by rw[←e];exact hy))).mpr (h y (GY _ hy));rw[List.length_erase_of_mem hx] at z;have:0<m.length:=List.length_pos_of_mem hx;rw[HF];lia
theorem jv {α:Type}(f:α->List Str)(d:List Str):∀ts:List α,(ts.map f).count d=(ts.filter λt=>decide (f t=d)).length
 |[]=>rfl
 |t::r=>by
  rw[Hu,List.count_cons,jv f d r,Jn];by_cases e:f t=d
  .rw[if_pos (by simpa using e),if_pos (by simpa using e)];rfl
  .rw[if_neg (by simpa using e),if_neg (by simpa using e)];rfl
theorem yU {α:Type}{ts:List α}{f:α->List Str}{r:α->Str}(hm:∀t∈ts,r t∈f t)(nd:(ts.map r).Nodup):vB (ts.map f)=true:=by
 unfold vB;rw[Hk];intro d hd;rw[GS,jv];have z:((ts.filter λt=>decide (f t=d)).map r).length<=d.length:=by
  refine jn (nd.sublist (HK.map r)) λx hx=>?_;obtain⟨t,ht,rfl⟩:=Gw.mp hx;rw[GR] at ht;rw[←HI ht.2];exact hm t ht.1
 rw[Gs] at z;exact z
def lZ (fx:List (Str×Str))(nm row:List Str):Prop:=∀x∈fx,gv nm row x.1=x.2
structure SrchP (L:Str->Str->Bool) (Pc W:A6) (s1 s2 gp gt:List Str) (fx:List (Str×Str)):Prop where
 o:Ordr Pc s1 s2
 o':Ordr W gp gt
 nd:(d9 Pc).Nodup
 nd':(d9 W).Nodup
 ends:∀x∈Pc.ts,x.2.2.1∈Pc.pts.map (·.1)/\x.2.2.2∈Pc.pts.map (·.1)
 fnd:(fx.map (·.1)).Nodup
 fin:∀x∈fx,x.1∈d9 Pc
 ls:∀n x,n∈Pc.pts.map (·.1)->x∈W.pts.map (·.1)->L n x=true->i6 (i9 W.pts) x=i6 (i9 Pc.pts) n
 lc:∀row,cg Pc W (i9 ((s1++s2).zip row))->∀x∈Pc.pts,L x.1 (gv (s1++s2) row x.1)=true
section
variable {L:Str->Str->Bool} {Pc W:A6} {s1 s2 gp gt:List Str} {fx:List (Str×Str)}
def oN (s1 s2 gp gt:List Str):List (List Str):=List.replicate s1.length gp++List.replicate s2.length gt
theorem il:(oN s1 s2 gp gt).length=(s1++s2).length:=by unfold oN;simp
theorem SrchP.nn (S:SrchP L Pc W s1 s2 gp gt fx):(s1++s2).Nodup:=S.o.perm.nodup_iff.mpr S.nd
theorem SrchP.is1 (S:SrchP L Pc W s1 s2 gp gt fx){i:Nat}{n:Str}(h:(s1++s2)[i]?=some n):(n∉Pc.ts.map (·.1)/\i<s1.length)\/(n∈Pc.ts.map (·.1)/\s1.length<=i):=by
 by_cases hi:i<s1.length
 .refine .inl ⟨λz=>?_,hi⟩;rw[HQ hi] at h;have m1:n∈s1:=GJ h;exact(GX.mp S.nn).2.2 n m1 n (S.o.p2.mem_iff.mpr z) rfl
 .rw[Ic (by lia)] at h;exact .inr ⟨S.o.p2.mem_iff.mp (GJ h),by lia⟩
theorem xx {L c:List Str}{p:Str->Bool}(e:L=c.filter p):L=c.filter λx=>decide (x∈L):=by subst e;exact mK
theorem uh (S:SrchP L Pc W s1 s2 gp gt fx){j:Nat}{c b:List Str}(h:(oN s1 s2 gp gt)[j]?=some c)(hb:b.length=j):R1 L Pc W gp gt fx (s1++s2) b=c.filter λx=>decide (x∈R1 L Pc W gp gt fx (s1++s2) b):=by
 have hj:j<(s1++s2).length:=by
  rw[←il (gp:=gp) (gt:=gt)];rcases Il j (oN s1 s2 gp gt).length with z|z
  .exact z
  .rw[HH z] at h;cases h
 have hn:(s1++s2)[b.length]?=some ((s1++s2)[j]):=by rw[hb];exact Gu hj
 have hc:c=if j<s1.length then gp else gt:=by
  unfold oN at h;by_cases z:j<s1.length
  .rw[HQ (by simpa using z),JQ,if_pos z] at h;rw[if_pos z];exact(GL h).symm
  .rw[Ic (by simpa using z),Ir,JQ,if_pos (by rw[GF] at hj;lia)] at h;rw[if_neg z];exact(GL h).symm
 obtain⟨p,e⟩:∃p,R1 L Pc W gp gt fx (s1++s2) b=c.filter p:=by
  unfold R1;rw[hn];dsimp only;rcases S.is1 (i:=j) (Gu hj) with⟨h1,h2⟩|⟨h1,h2⟩
  .rw[if_neg h1,hc,if_pos h2];unfold oA;rw[Iz,Iz,Iz];exact⟨_,rfl⟩
  .rw[if_pos h1,hc,if_neg (by lia)];unfold rX qc;rw[Iz];exact⟨_,rfl⟩
 exact xx e
theorem iP {n:Str}{l:List Str}(h:n∈l):∃i:Nat,l[i]?=some n:=JC h
theorem SrchP.pt_idx (S:SrchP L Pc W s1 s2 gp gt fx){n:Str}(h:n∈Pc.pts.map (·.1)):∃i:Nat,i<s1.length/\(s1++s2)[i]?=some n:=by
 obtain⟨i,hi⟩:=iP (S.o.p1.mem_iff.mpr h);have hl:i<s1.length:=by
  rcases Il i s1.length with z|z
  .exact z
  .rw[HH z] at hi;cases hi
 exact⟨i,hl,by rw[HQ hl];exact hi⟩
theorem gj {nm row:List Str}{i j:Nat}{n:Str}(nd:nm.Nodup)(hl:row.length=nm.length)(h:nm[i]?=some n)(TK:i<j):gv nm (row.take j) n=gv nm row n:=by
 have hi:i<nm.length:=by
  rcases Il i nm.length with z|z
  .exact z
  .rw[HH z] at h;cases h
 have h2:row[i]?=some row[i]:=Gu (by lia);rw[lT nd h h2,lT nd h (b:=row.take j) (x:=row[i]) (by rw[KL,if_pos TK];exact h2)]
theorem AQ {n x:Str}{nm row:List Str}(fnd:(fx.map (·.1)).Nodup)(d:lZ fx nm row)(inj:∀y∈fx,gv nm row y.1=gv nm row n->y.1=n)(e:gv nm row n=x):K9 fx n x=true:=by
 unfold K9;split
 .next h=>
  obtain⟨y,hy,rfl⟩:=Gw.mp h;rw[P2 fnd (show(y.1,y.2)∈fx from hy),←e];exact Hf (d y hy)
 .next h=>
  have z:x∉fx.map (·.2):=λz=>by
   obtain⟨y,hy,ey⟩:=Gw.mp z;have z1:=d y hy;rw[ey,←e] at z1;exact h (by rw[←inj y hy z1];exact Gw.mpr ⟨y,hy,rfl⟩)
  simpa using z
theorem DF {pts:List (Str×Str)}{g:List Str}{x kd:Str}(nd:(pts.map (·.1)).Nodup)(p:g.Perm (pts.map (·.1)))(h:x∈g)(hk:i6 (i9 pts) x=kd):(x,kd)∈pts:=by
 obtain⟨y,hy,rfl⟩:=Gw.mp (p.mem_iff.mp h);rw[P2 nd (show(y.1,y.2)∈pts from hy)] at hk;rw[←hk];exact hy
theorem DX {Q:A6}{kvm:List (j0×V)}{x y:Str}(nd:((d9 Q).map (i6 kvm)).Nodup)(hx:x∈d9 Q)(hy:y∈d9 Q)(e:i6 kvm x=i6 kvm y):x=y:=by
 obtain⟨i,hi⟩:=iP hx;obtain⟨j,hj⟩:=iP hy;have e1:((d9 Q).map (i6 kvm))[i]?=some (i6 kvm x):=by rw[Gx,hi];rfl
 have e2:((d9 Q).map (i6 kvm))[j]?=some (i6 kvm x):=by rw[Gx,hj,e];rfl
 have li:i<((d9 Q).map (i6 kvm)).length:=by
  rcases Il i ((d9 Q).map (i6 kvm)).length with z|z
  .exact z
  .rw[HH z] at e1;cases e1
 have z:=(Nd li nd).mp (e1.trans e2.symm);rw[z,hj] at hi;exact(GL hi).symm
theorem fZ (S:SrchP L Pc W s1 s2 gp gt fx){i:Nat}{e:Str}(hi:i<s1.length)(he:e∈Pc.pts.map (·.1))(hle:¬(s1[i].cps.toList<e.cps.toList)):∃j:Nat,j<=i/\(s1++s2)[j]?=some e:=by
 obtain⟨j,hj,TM⟩:=S.pt_idx he;refine⟨j,?_,TM⟩;rcases Il i j with z|z
 .exfalso;have nd1:s1.Nodup:=(GX.mp S.nn).1;have pw:=cX (gh S.o.o1 nd1);have w:=JH.mp pw i j hi hj z;rw[HQ hj,Gu hj] at TM;rw[GL TM] at w;exact hle w
 .exact z
end
section
variable {L:Str->Str->Bool} {Pc W:A6} {s1 s2 gp gt:List Str} {fx:List (Str×Str)}
theorem bA {α:Type}{l:List α}{i:Nat}{x:α}(h:l[i]?=some x):i<l.length:=by
 rcases Il i l.length with z|z
 .exact z
 .rw[HH z] at h;cases h
theorem mem_ch {n x:Str}:x∈oA L gp fx n↔x∈gp/\L n x=true/\K9 fx n x=true:=by
 unfold oA;rw[GR,GR,and_assoc]
theorem mem_pl {n x:Str}{t:F2}:x∈qc W gt fx n t↔x∈gt/\E3 W.ts x=t/\K9 fx n x=true:=by
 unfold qc;rw[GR,GP,GS]
theorem zG (S:SrchP L Pc W s1 s2 gp gt fx){row:List Str}(hl:row.length=(s1++s2).length)(ok:El (R1 L Pc W gp gt fx (s1++s2)) 0 row):cg Pc W (i9 ((s1++s2).zip row))/\lZ fx (s1++s2) row:=by
 have nn:=S.nn;have key:∀(i:Nat) (n x:Str),(s1++s2)[i]?=some n->row[i]?=some x->x∉row.take i/\K9 fx n x=true/\(n∉Pc.ts.map (·.1)->(x,i6 (i9 Pc.pts) n)∈W.pts)/\(n∈Pc.ts.map (·.1)->(x,((E3 Pc.ts n).1,gv (s1++s2) row (E3 Pc.ts n).2.1,gv (s1++s2) row (E3 Pc.ts n).2.2))∈W.ts):=by
  intro i n x hn hx;have TN:=bA hn;have h0:=ok i x (IA _) hx;have j':(row.take i).length=i:=by rw[GC];lia
  unfold R1 at h0;rw[j',hn] at h0;dsimp only at h0;rcases S.is1 hn with⟨h1,h2⟩|⟨h1,h2⟩
  .rw[if_neg h1,GR,GR,mem_ch] at h0;refine⟨by simpa using h0.1.2,h0.1.1.2.2,λ_=>DF (E6 S.nd') S.o'.p1 h0.1.1.1 (S.ls n x ((GO.mp (S.o.mem.mp (GJ hn))).resolve_right h1) (S.o'.p1.mem_iff.mp h0.1.1.1) h0.1.1.2.1),λz=>absurd z h1⟩
  .rw[if_pos h1,GR] at h0;have hm:=mem_pl.mp (show x∈qc W gt fx n _ from h0.1);refine⟨by simpa using h0.2,hm.2.2,λz=>absurd h1 z,λ_=>?_⟩;have k_:=aZ h1;have he:=S.ends _ k_;obtain⟨j1,Wr,OV⟩:=S.pt_idx he.1;obtain⟨j2,Ws,OY⟩:=S.pt_idx he.2;have e1:=gj (j:=i) nn hl OV (by lia);have e2:=gj (j:=i) nn hl OY (by lia);have z:=aZ (S.o'.p2.mem_iff.mp hm.1);rw[hm.2.1] at z;dsimp only at z e1 e2;rw[e1,e2] at z;exact z
 have TQ:row.Nodup:=by
  refine JH.mpr λi j hi hj TK e=>?_;have z:=(key j ((s1++s2)[j]'(by lia)) row[j] (Gu (by lia)) (Gu hj)).1;refine z (GJ (i:=i) ?_);rw[KL,if_pos TK,Gu hi,e]
 have Sg:∀n∈s1++s2,∃(i:Nat) (x:Str),(s1++s2)[i]?=some n/\row[i]?=some x/\gv (s1++s2) row n=x:=λn hn=>by
  obtain⟨i,hi⟩:=iP hn;have TN:=bA hi;exact⟨i,row[i],hi,Gu (by lia),lT nn hi (Gu (by lia))⟩
 refine⟨⟨?_,λn hn=>?_,?_,λx hx=>?_,λx hx=>?_⟩,λx hx=>?_⟩
 .rw[k8,JZ,←S.o.len];lia
 .obtain⟨i,x,h1,h2,_⟩:=Sg n (S.o.mem.mpr hn);exact⟨x,aU (kO row nn) (kU h1 h2)⟩
 .have e:=vf nn hl;exact((S.o.perm.map (gv (s1++s2) row)).nodup_iff).mp (by rw[e];exact TQ)
 .have hm:x.1∈d9 Pc:=GA _ (Gw.mpr ⟨x,hx,rfl⟩);obtain⟨i,y,h1,h2,h3⟩:=Sg x.1 (S.o.mem.mpr hm);have m_:x.1∉Pc.ts.map (·.1):=λz=>(GX.mp S.nd).2.2 x.1 (Gw.mpr ⟨x,hx,rfl⟩) x.1 z rfl;have z:=(key i x.1 y h1 h2).2.2.1 m_;rw[P2 (E6 S.nd) (show(x.1,x.2)∈Pc.pts from hx)] at z;rw[show i6 (i9 ((s1++s2).zip row)) x.1=y from h3];exact z
 .have hm:x.1∈Pc.ts.map (·.1):=Gw.mpr ⟨x,hx,rfl⟩;obtain⟨i,y,h1,h2,h3⟩:=Sg x.1 (S.o.mem.mpr (GG _ hm));have z:=(key i x.1 y h1 h2).2.2.2 hm;rw[ef (K4 S.nd) (show(x.1,x.2)∈Pc.ts from hx)] at z;rw[show i6 (i9 ((s1++s2).zip row)) x.1=y from h3];exact z
 .obtain⟨i,y,h1,h2,h3⟩:=Sg x.1 (S.o.mem.mpr (S.fin x hx));have z:=(key i x.1 y h1 h2).2.1;unfold K9 at z;rw[if_pos (Gw.mpr ⟨x,hx,rfl⟩),P2 S.fnd (show(x.1,x.2)∈fx from hx)] at z;rw[h3];exact HI z
theorem pU (S:SrchP L Pc W s1 s2 gp gt fx){row:List Str}(f:cg Pc W (i9 ((s1++s2).zip row)))(d:lZ fx (s1++s2) row){n:Str}(hn:n∈d9 Pc):K9 fx n (gv (s1++s2) row n)=true:=
 AQ S.fnd d (λy hy e=>DX f.nd (S.fin y hy) hn e) rfl
theorem vC (S:SrchP L Pc W s1 s2 gp gt fx){row:List Str}(f:cg Pc W (i9 ((s1++s2).zip row)))(d:lZ fx (s1++s2) row){x:Str×Str}(hx:x∈Pc.pts):gv (s1++s2) row x.1∈oA L gp fx x.1:=by
 have z:=f.pts x hx;exact mem_ch.mpr ⟨S.o'.p1.mem_iff.mpr (Gw.mpr ⟨_,z,rfl⟩),S.lc row f x hx,pU S f d (GA _ (Gw.mpr ⟨x,hx,rfl⟩))⟩
theorem uN (S:SrchP L Pc W s1 s2 gp gt fx){row:List Str}(f:cg Pc W (i9 ((s1++s2).zip row)))(d:lZ fx (s1++s2) row){x:Str×F2}(hx:x∈Pc.ts):gv (s1++s2) row x.1∈rX W gt fx (s1++s2) row x:=by
 have z:=f.ts x hx;exact mem_pl.mpr ⟨S.o'.p2.mem_iff.mpr (Gw.mpr ⟨_,z,rfl⟩),ef (K4 S.nd') z,pU S f d (GG _ (Gw.mpr ⟨x,hx,rfl⟩))⟩
theorem Bt (S:SrchP L Pc W s1 s2 gp gt fx){row:List Str}(f:cg Pc W (i9 ((s1++s2).zip row)))(d:lZ fx (s1++s2) row):vB (Pc.pts.map λx=>oA L gp fx x.1)=true:=by
 refine yU (r:=λx=>gv (s1++s2) row x.1) (λx hx=>vC S f d hx) ?_;have z:=f.nd;unfold d9 at z;rw[Gy,GQ] at z;exact(GX.mp z).1
theorem qm (S:SrchP L Pc W s1 s2 gp gt fx){row:List Str}(hl:row.length=(s1++s2).length){i:Nat}{x:Str×F2}(h1:∃j:Nat,j<i/\(s1++s2)[j]?=some x.2.2.1)(h2:∃j:Nat,j<i/\(s1++s2)[j]?=some x.2.2.2):rX W gt fx (s1++s2) (row.take i) x=rX W gt fx (s1++s2) row x:=by
 obtain⟨j1,a1,b1⟩:=h1;obtain⟨j2,a2,b2⟩:=h2;unfold rX;rw[gj S.nn hl b1 a1,gj S.nn hl b2 a2]
theorem As (S:SrchP L Pc W s1 s2 gp gt fx){row:List Str}(hl:row.length=(s1++s2).length)(f:cg Pc W (i9 ((s1++s2).zip row)))(d:lZ fx (s1++s2) row):El (R1 L Pc W gp gt fx (s1++s2)) 0 row:=by
 have nn:=S.nn;have e:=vf nn hl;have TQ:row.Nodup:=by
  rw[←e];exact((S.o.perm.map (gv (s1++s2) row)).nodup_iff).mpr f.nd
 intro i x _ hx;have TN:=bA hx;have hn:(s1++s2)[i]?=some ((s1++s2)[i]'(by lia)):=Gu (by lia);generalize (s1++s2)[i]'(by lia)=n at hn;have hg:gv (s1++s2) row n=x:=lT nn hn hx;have j':(row.take i).length=i:=by rw[GC];lia
 have PF:x∉row.take i:=λz=>by
  obtain⟨j,hj⟩:=iP z;rw[KL] at hj;split at hj
  .next hji=>
   have z2:=(Nd (bA hj) TQ).mp (hj.trans hx.symm);lia
  .cases hj
 unfold R1;rw[j',hn];dsimp only;rcases S.is1 hn with⟨h1,h2⟩|⟨h1,h2⟩
 .rw[if_neg h1];have hm:n∈Pc.pts.map (·.1):=by
   rcases GO.mp (S.o.mem.mp (GJ hn)) with z|z
   .exact z
   .exact absurd z h1
  obtain⟨y,hy,ey⟩:=Gw.mp hm;have hc:=vC S f d hy;rw[ey,hg] at hc;refine GR.mpr ⟨GR.mpr ⟨hc,by simpa using PF⟩,?_⟩;have et:row.take i++[x]=row.take (i+1):=by rw[Ho,hx];rfl
  rw[et];have Od:s1[i]=n:=by
   rw[HQ h2,Gu h2] at hn;exact GL hn
  refine yU (r:=λt=>gv (s1++s2) row t.1) (λt ht=>?_) ?_
  .unfold aQ at ht;rw[GR,GS] at ht;have he:=S.ends t ht.1;have m1:¬(s1[i].cps.toList<t.2.2.1.cps.toList):=by
    rw[Od,←ht.2];unfold ya;split
    .next z=>exact Lh z
    .exact KQ _
   have m2:¬(s1[i].cps.toList<t.2.2.2.cps.toList):=by
    rw[Od,←ht.2];unfold ya;split
    .exact KQ _
    .next z=>exact z
   obtain⟨j1,a1,b1⟩:=fZ S h2 he.1 m1;obtain⟨j2,a2,b2⟩:=fZ S h2 he.2 m2;rw[qm S hl ⟨j1,by lia,b1⟩ ⟨j2,by lia,b2⟩];exact uN S f d ht.1
  .have z:=f.nd;unfold d9 at z;rw[Gy,GQ,GQ] at z;exact((GX.mp z).2.1).sublist (HK.map _)
 .rw[if_pos h1];have k_:=aZ h1;have he:=S.ends _ k_;obtain⟨j1,Wr,OV⟩:=S.pt_idx he.1;obtain⟨j2,Ws,OY⟩:=S.pt_idx he.2;have hp:=uN S f d k_;rw[←qm S hl (i:=i) ⟨j1,by lia,OV⟩ ⟨j2,by lia,OY⟩] at hp;refine GR.mpr ⟨?_,by simpa using PF⟩;have Wg:gv (s1++s2) row (n,E3 Pc.ts n).1=x:=hg;rw[Wg] at hp;exact hp
open Classical in
noncomputable def gJ (Pc W:A6)(s1 s2 gp gt:List Str)(fx:List (Str×Str)):List (List Str):=(iC (oN s1 s2 gp gt) []).filter λrow=>decide (cg Pc W (i9 ((s1++s2).zip row))/\lZ fx (s1++s2) row)
theorem wc {row:List Str}(h:row∈iC (oN s1 s2 gp gt) []):row.length=(s1++s2).length:=by
 obtain⟨t,e,hl,_⟩:=dP h;rw[e,LH,hl,il]
open Classical in
theorem uJ (S:SrchP L Pc W s1 s2 gp gt fx):eI (R1 L Pc W gp gt fx (s1++s2)) (s1++s2).length []=gJ Pc W s1 s2 gp gt fx:=by
 rw[←il (gp:=gp) (gt:=gt),ui λj c hc b' hb=>uh S hc (by rw[hb];simp)];unfold gJ;refine O7 λrow Md=>?_;have hl:=wc Md;rw[Hq,GS,GS];exact⟨λok=>zG S hl ok,λh=>As S hl h.1 h.2⟩
open Classical in
theorem tF (S:SrchP L Pc W s1 s2 gp gt fx)(h:vB (Pc.pts.map λx=>oA L gp fx x.1)=false):gJ Pc W s1 s2 gp gt fx=[]:=by
 unfold gJ;refine II.mpr λrow _ z=>?_;have z:=HI z;rw[Bt S z.1 z.2] at h;cases h
end
def jP (K:Qc):Sp:=λvs H Q _=>∃(d:Addr) (n im:Str) (fx:List (Str×Str)),vs=[.str n,.str im,.ref d]/\H d=some (.dK (i9 fx))/\∀H',Same H H'->Q (.bl (K9 fx n im)) H'
theorem mJ {pts:List (Str×Str)}{n:Str}(h:n∈pts.map (·.1)):p8 (i9 pts) (Sum.inr n:j0)=some (.str (i6 (i9 pts) n)):=by
 cases e:p8 (i9 pts) (Sum.inr n:j0) with
 |none=>have z:=G0 (pts:=pts) (n:=n);rw[e,Hf h] at z;cases z
 |some v=>
  obtain⟨k',rfl,_⟩:=ku e
  rw[bB e]
theorem tO {pts:List (Str×Str)}:(i9 pts).map (·.2)=(pts.map (·.2)).map V.str:=by unfold i9;rw[GQ,GQ];rfl
abbrev iM (P:Program)(w:World)(K:Qc)(mg:Str->Option Value)(base:Heap):Prop:=O4 P w K mg base C2 1 "may_be" ["name","image","fixed"] [] (jP K)
theorem sg {f:Addr}{fd:FuncData}(T:Txt K mg)(F:Fun K "may_be" "may_be" ia f fd):A3 P w K mg base C2 1 f fd ["name","image","fixed"] (jP K):=by
 refine F.ok sc_may_be (λvs H Q E h=>?_) (λd_ A outer s H vs Q E hr h=>?_)
 .obtain⟨d,n,im,fx,rfl,_⟩:=h;rfl
 .obtain⟨d,n,im,fx,rfl,hd,k⟩:=h;have hN:=sc_may_be.nd;have hu:=u9 hr;refine⟨_,QSs.r (x6 (bC (x5 (kIn K hu) (qV 0) (qV 2) (by rfl)) (A7 (A1 (dQ (M9 K hr) (qV 1) (k9 (l0 K hu) (qV 2) (qV 0) (λ_ _=>rfl)) (p7 _)))) cF)
   (A7 (A1 (dQ (bg K hu) (qV 1) (gD (eO K rfl) T.b_list Boot.«list» (j3 (DE HL Iy Jc J2 K (qV 2)) j6)) (by rfl))))),?_⟩
  walk_at "r";refine P0 (G3 (k:=Sum.inr n) (.inl hd)) ?_;rw[G0];walk_at "r";refine C5 (λh1=>?_) (λh1=>?_)
  .walk_at "r";refine B6 (v:= .str (i6 (i9 fx) n)) (by have z:=G3 (k:=Sum.inr n) (.inl hd);rw[mJ h1] at z;exact z) ?_;walk_at "r";have e:K9 fx n im=decide (im=i6 (i9 fx) n):=by unfold K9;rw[if_pos h1]
   rw[←e];exact k H (Same.refl H)
  .walk_at "r";refine⟨.inr (.inr (.inl ⟨rfl,.inl ⟨_,hd⟩⟩)),?_⟩;walk_at "r";refine⟨d,_,rfl,rfl,.inl hd,λv1 n1=>?_⟩;obtain⟨H1,e1,f1,m1,_⟩:=b4 (o:= .ext (jg v1 d)) n1;rw[e1];walk_at "r";refine T9 f1 (.inl (m1 _ _ hd)) (λl2 n2=>?_);obtain⟨H2,e2,f2,m2,_⟩:=b4 (o:= .lst _) n2;rw[e2];refine Q9 (gs:=fx.map (·.2)) (SqL.of (by rw[f2,tO])) ?_;have e:K9 fx n im=!decide (im∈fx.map (·.2)):=by unfold K9;rw[if_neg h1]
   rw[←e];exact k H2 (m1.trans m2)
def LstAt (H:Hp)(v:V)(l:List Str):Prop:=∃a,v= .ref a/\H a=some (.lst (l.map V.str))
theorem LstAt.same {H H':Hp}{v:V}{l:List Str}(h:LstAt H v l)(s:Same H H'):LstAt H' v l:=let ⟨a,e,z⟩:=h;⟨a,e,s _ _ z⟩
def ChAt (H:Hp)(F:Str×Str->List Str)(kvs:List (j0×V))(pts:List (Str×Str)):Prop:=Paired (λkv x=>kv.1=Sum.inr x.1/\LstAt H kv.2 (F x)) kvs pts
theorem ChAt.same {H H':Hp}{F:Str×Str->List Str}{kvs:List (j0×V)}{pts:List (Str×Str)}(h:ChAt H F kvs pts)(s:Same H H'):ChAt H' F kvs pts:=Paired.imp' (λ_ _ z=>⟨z.1,z.2.same s⟩) h
theorem ChAt.keys {H:Hp}{F:Str×Str->List Str}:∀{kvs:List (j0×V)} {pts:List (Str×Str)},ChAt H F kvs pts->kvs.map (·.1)=(pts.map (·.1)).map Sum.inr
 |_,_,.nil=>rfl
 |_,_,.cons a t=>by rw[Hu,a.1,ChAt.keys t];rfl
theorem sD {p:Str->Bool}{s:List Str}{i:Nat}{x:Str}(h:s[i]?=some x)(hp:p x=true):(s.take (i+1)).filter p=(s.take i).filter p++[x]:=by
 rw[Ho,h,Hw];show _++List.filter p [x]=_;rw[Hz hp];rfl
theorem nZ {p:Str->Bool}{s:List Str}{i:Nat}{x:Str}(h:s[i]?=some x)(hp:p x=false):(s.take (i+1)).filter p=(s.take i).filter p:=by
 rw[Ho,h,Hw];show _++List.filter p [x]=_;rw[HG (by rw[hp];decide)];simp
theorem eB {p:Str->Bool}{s:List Str}{i:Nat}:((s.take i).filter p).length<=s.length:=He (GI _ _) (by rw[GC];lia)
theorem O0 {p b:Addr}{o:Obj}{kvs:List (j0×V)}{H:Hp}(h:b≠p):D0 p o kvs H b=H b:=b9 h
theorem Ba {p:Addr}{o:Obj}{kvs:List (j0×V)}{H:Hp}:D0 p o kvs H p=some (.frz o (.dK kvs)):=b7
theorem dA {p:Addr}{o:Obj}{kvs:List (j0×V)}{H H1:Hp}(s:Same H H1):Same (D0 p o kvs H) (D0 p o kvs H1):=λb u hb=>by
 by_cases z:b=p
 .rw[z,Ba] at hb⊢;exact hb
 .rw[O0 z] at hb⊢;exact s _ _ hb
theorem yz {kvs:List (j0×V)}{pp:List (Str×Str)}{i:Nat}{kv:j0×V}(h:kvs.map (·.1)=(pp.map (·.1)).map Sum.inr)(e:kvs[i]?=some kv):∃x,pp[i]?=some x/\kv.1=Sum.inr x.1:=by
 have z:(kvs.map (·.1))[i]?=some kv.1:=by rw[Gx,e];rfl
 rw[h,Gx,Gx] at z;cases e2:pp[i]? with
 |none=>rw[e2] at z;cases z
 |some x=>rw[e2] at z;exact⟨x,rfl,(GL z).symm⟩
theorem yF {kvs:List (j0×V)}{k:j0}(h:k∈kvs.map (·.1)):∃u,p8 kvs k=some u:=by
 induction kvs with
 |nil=>cases h
 |cons p r ih=>
  by_cases e:p.1=k
  .exact⟨p.2,C1 e⟩
  .rw[C0 e]
   exact ih ((Hh.mp h).resolve_left λz=>e z.symm)
def X4 (K:Qc):Sp:=λvs H Q _=>∃(p g d:Addr) (e_ u_:List (j0×V)) (pp gg fx:List (Str×Str)) (L:Str->Str->Bool) (gp:List Str),vs=[.ref p,.ref g,.ref d]/\H p=some (.dK e_)/\e_.map (·.1)=(pp.map (·.1)).map Sum.inr/\(pp.map (·.1)).Nodup/\pp.length<=30/\Rd H g (.dK u_)/\u_.map (·.1)=(gg.map (·.1)).map Sum.inr/\(gg.map (·.1)).Nodup/\gg.length<=30/\gp.Perm (gg.map (·.1))/\sortedS gp=true/\
 (∀(n:Str) (v:V) (m:Str) (u:V),(Sum.inr n,v)∈e_->p8 u_ (Sum.inr m:j0)=some u->EqA K H u v (L n m))/\H d=some (.dK (i9 fx))/\d≠p/\
 ∀(c:Addr) (H':Hp) (kvs:List (j0×V)),H c=none->Same H H'->H' c=some (.dK kvs)->ChAt H' (λx=>oA L gp fx x.1) kvs pp->Q (.ref c) H'
abbrev aw (P:Program)(w:World)(K:Qc)(mg:Str->Option Value)(base:Heap):Prop:=O4 P w K mg base C2 2 "point_choices" ["piece_looks","web_looks","fixed"] [] (X4 K)
theorem eZ {f:Addr}{fd:FuncData}(T:Txt K mg)(X8:iM P w K mg base)(F:Fun K "point_choices" "point_choices" P9 f fd):A3 P w K mg base C2 2 f fd ["piece_looks","web_looks","fixed"] (X4 K):=by
 refine F.ok sc_point_choices (λvs H Q E h=>?_) (λd_ A outer s H vs Q E hr h=>?_)
 .obtain⟨p,g,d,e_,u_,pp,gg,fx,L,gp,rfl,_⟩:=h;rfl
 .obtain⟨p,g,d,e_,u_,pp,gg,fx,L,gp,rfl,hp,hkp,npp,lpp,hg,hkg,ngg,lgg,pgp,ogp,hEq,hd,QV,k⟩:=h;have Ym:e_.length=pp.length:=by have z:=Ia List.length hkp;rwa [Gs,Gs,Gs] at z
  have ngp:gp.Nodup:=pgp.nodup_iff.mpr ngg;have TU:gp.length<=30:=by rw[pgp.length_eq,Gs];exact lgg
  have hN:=sc_point_choices.nd;have hu:=u9 hr;refine⟨_,QSs.r (x6 (j8 (i:=3) hN rfl (by walk_at "l") tH)
   (x6 (Q1 Ht rfl (Q6 (qV 0)) (oX K rfl (cH (F9 (i:=4) hN rfl (by walk_at "l")) (cH (F9 (i:=5) hN rfl (by walk_at "l")) oS)))
    (x6 (cR (i:=6) hN rfl (by walk_at "l") (own:=["image"]) (js:=[5,1]) (by kernel_rfl) rfl (Q4 K (qB (G4 K rfl) T.b_sorted Boot.«sorted» (j3 (qV 1) j6))) (λ_ _ _ _=>(F9 (i:=0) (show List.Nodup (["image","look","web_looks"]:List Str) by decide+kernel) rfl (by walk_at "l"))) (λ_ _ _ _=>(gP (x5 (Ct K hr) (k9 (l0 K hu) (qV 2) (qV 0) (λ_ _=>rfl)) (qV 1) (p7 _)))) (λ_ _ _ _=>(qV 0)))
   (A7 (W8 (E4 (own:=["image"]) (js:=[4,2]) (by kernel_rfl) rfl (Q4 K (qV 6)) (λ_ _ _ _=>(F9 (i:=0) (show List.Nodup (["image","name","fixed"]:List Str) by decide+kernel) rfl (by walk_at "l"))) (λ_ _ _ _=>(gP (U4 K (qC X8 (hr.mono (by decide)) j7 (j3 (qV 1) (j3 (qV 0) (j3 (qV 2) j6))))))) (λ_ _ _ _=>(qV 0))) (kC (qV 3) (qV 4) (z6 P w hu))))))
   (A7 (A1 (qV 3))))),?_⟩
  walk_at "r";intro c nc;obtain⟨H1,e1,f1,m1,_⟩:=b4 (o:= .dK []) nc;rw[e1];walk_at "r";have MU:=m1 _ _ hp;have QX:c≠p:=(j4 hp nc).symm;refine C7 MU (λO' o1=>?_);refine S8 (n:=e_.length) (λi σ H'=>∃(kvs:List (j0×V)) (v1 v2 v3:Option V),σ=[some (.ref p),some (.ref g),some (.ref d),some (.ref c),v1,v2,v3]/\Same (D0 p o1 e_ H) H'/\H' c=some (.dK kvs)/\ChAt H' (λx=>oA L gp fx x.1) kvs (pp.take i)) ⟨[],none,none,none,rfl,?_,?_,.nil⟩ (λi σ H' hi hp=>?_) ?_ ?_
  .exact dA m1
  .rw[O0 QX];exact f1
  .obtain⟨_,_,_,_,_,s,_⟩:=hp;exact⟨s _ _ b7,hi⟩
  .rintro bk i v σ H2' H2 hi ⟨kvs,v1,v2,v3,rfl,s2,Nl,ch2⟩ ⟨t,kv,f_,nt,rfl,rfl⟩;obtain⟨x,hx,ex⟩:=yz hkp f_;obtain⟨kk,look⟩:=kv;have Nj:kk=Sum.inr x.1:=ex;subst Nj;have QY:=GJ f_;obtain⟨H3,e3,f3,m3,_⟩:=b4 (o:= .tup _) nt;rw[e3];have s3:=s2.trans m3;have Wt:Rd H3 g (.dK u_):=((F8 hp).trans s3.le) _ _ rfl hg;have QZ:H3 d=some (.dK (i9 fx)):=s3 _ _ (by rw[O0 QV];exact hd);refine J3 (SqT.of f3) rfl ?_;walk_at "r";refine z7 (ss:=gg.map (·.1)) Wt hkg (by rw[Gs];lia) (λg1 a1 a2 l4 n4=>?_);have eg:g1=gp:=E5 a2 ogp (a1.nodup_iff.mpr ngg) (a1.trans pgp.symm);subst eg;obtain⟨H4,e4,f4,m4,_⟩:=b4 (o:= .lst _) n4;rw[e4];refine A0 (SqL.of f4) ?_;refine u4 (n:=g1.length) (λi out H'=>H'=H4/\out=((g1.take i).filter λim=>L x.1 im).map V.str) ⟨rfl,rfl⟩ (λi out H' hi hp=>⟨g1.map V.str,.str (g1[i]),SqL.of (by rw[hp.1];exact f4),by rw[Gx,Gu hi];rfl⟩) ?_ ?_
   .rintro N j v out H5 H5' hj ⟨rfl,rfl⟩ y hN';obtain⟨rfl,hy⟩:=Itl.get y (SqL.of f4);rw[Gx] at hy;obtain⟨im,NF,rfl⟩:=Hr.mp hy;have k_:im∈gg.map (·.1):=a1.mem_iff.mp (GJ NF);walk_at "r";refine⟨rfl,?_⟩;walk_at "r";obtain⟨u,hu⟩:=yF (kvs:=u_) (k:=Sum.inr im) (by rw[hkg];exact Gw.mpr ⟨im,k_,rfl⟩);refine B6 (v:=u) (by have z:=G3 (k:=Sum.inr im) (m4.rd Wt);rw[hu] at z;exact z) ?_;walk_at "r";refine DZ (((hEq x.1 look im u QY hu).mono (F8 hp)).mono (s3.trans m4).le) ?_;walk_at "r";refine V5 (λh1=>?_) (λh1=>?_)
    .walk_at "r";refine⟨h9 (by rw[Gs];have:=eB (p:=λim=>L x.1 im) (s:=g1) (i:=j);lia),hN' _ _ ⟨rfl,?_⟩⟩;rw[sD NF h1,Gy];rfl
    .exact hN' _ _ ⟨rfl,by rw[nZ NF h1]⟩
   .rintro out H5 ⟨rfl,rfl⟩;refine⟨⟨_,SqL.of f4,by rw[Gs];exact Gv _⟩,λD hD=>⟨h9 (by rw[Gs];have:=eB (p:=λim=>L x.1 im) (s:=g1) (i:=g1.length);lia),?_⟩⟩;rw[GD (Gv _)];obtain⟨H6,e6,f6,m6,_⟩:=b4 (H:=H5) (o:= .lst ((g1.filter λim=>L x.1 im).map V.str)) hD;generalize Wu:(g1.filter λim=>L x.1 im)=al at e6 f6⊢;have o_:al.length<=30:=by rw[←Wu];exact He (GI _ _) TU
    change Q3 _ _ _ (p0 H5 D _) _;rw[e6];walk_at "r";refine A0 (SqL.of f6) ?_;refine u4 (n:=al.length) (λi out H'=>Same H6 H'/\out=((al.take i).filter (K9 fx x.1)).map V.str) ⟨Same.refl _,rfl⟩ (λi out H' hi hp=>⟨_,.str (al[i]),SqL.of (hp.1 _ _ f6),by rw[Gx,Gu hi];rfl⟩) ?_ ?_
    .rintro N j v out H7 H7' hj ⟨s7,rfl⟩ y hN';obtain⟨rfl,hy⟩:=Itl.get y (SqL.of (s7 _ _ f6));rw[Gx] at hy;obtain⟨im,NF,rfl⟩:=Hr.mp hy;walk_at "r";refine⟨rfl,?_⟩;walk_at "r";refine⟨d,x.1,im,fx,rfl,s7 _ _ (m6 _ _ (m4 _ _ QZ)),λH8 m8=>?_⟩;walk_at "r";refine V5 (λh1=>?_) (λh1=>?_)
     .walk_at "r";refine⟨h9 (by rw[Gs];have:=eB (p:=K9 fx x.1) (s:=al) (i:=j);lia),hN' _ _ ⟨s7.trans m8,?_⟩⟩;rw[sD NF h1,Gy];rfl
     .exact hN' _ _ ⟨s7.trans m8,by rw[nZ NF h1]⟩
    .rintro out H7 ⟨s7,rfl⟩;refine⟨⟨_,SqL.of (s7 _ _ f6),by rw[Gs];exact Gv _⟩,λD2 hD2=>⟨h9 (by rw[Gs];have:=eB (p:=K9 fx x.1) (s:=al) (i:=al.length);lia),?_⟩⟩;rw[GD (Gv _)];obtain⟨H8,e8,f8,m8,_⟩:=b4 (H:=H7) (o:= .lst ((al.filter (K9 fx x.1)).map V.str)) hD2;have TV:=m4.trans (m6.trans (s7.trans m8));change xl _ _ (p0 H7 D2 _) _;rw[e8];have Wv:H8 c=some (.dK kvs):=TV _ _ (m3 _ _ Nl);have TX:=Hn ch2;rw[GC] at TX;walk_at "r";refine G7 (u7 (k:=Sum.inr x.1) Wv (h9 (by lia)) ?_);have fr:x.1∉(pp.take i).map (·.1):=λz=>by
      have e7:pp.take (i+1)=pp.take i++[x]:=by rw[Ho,hx];rfl
      have w:((pp.take (i+1)).map (·.1)).Nodup:=npp.sublist ((ID _ _).map _);rw[e7,Gy] at w;exact(GX.mp w).2.2 x.1 z x.1 (by simp) rfl
     have ek:B9 kvs (Sum.inr x.1:j0) (.ref D2)=kvs++[(Sum.inr x.1,.ref D2)]:=E8 _ (C9 (by rw[ch2.keys];exact λm=>fr (K6 m)));have TY:(D0 p o1 e_ H) c=none:=by rw[O0 QX];exact nc
     have Ww:∀{v:V} {l:List Str},LstAt H8 v l->LstAt (p0 H8 c (.dK (kvs++[(Sum.inr x.1,V.ref D2)]))) v l:=fun{v l} ⟨a,ea,z⟩=>⟨a,ea,by rw[b9 (λq=>by rw[q,Wv] at z;cases z)];exact z⟩
     refine⟨kvs++[(Sum.inr x.1,.ref D2)],_,_,_,rfl,B5 (s3.trans TV) TY,by rw[b7,ek],?_⟩;rw[ek,show pp.take (i+1)=pp.take i++[x] by rw[Ho,hx];rfl];refine q8 (Paired.imp' (λ_ _ z=>⟨z.1,Ww (z.2.same (m3.trans TV))⟩) ch2) ⟨rfl,Ww ⟨D2,rfl,?_⟩⟩;rw[f8];show _=some (HO.lst ((oA L g1 fx x.1).map V.str));unfold oA;rw[show(List.filter (L x.1) g1)=al from Wu]
  .rintro σ H2 ⟨kvs,v1,v2,v3,rfl,s2,Nl,ch2⟩;refine⟨⟨s2 _ _ b7,Gv _⟩,?_⟩;walk_at "r";have TZ:thaw p H2 c=some (.dK kvs):=by rw[O2 QX];exact Nl
   rw[GD (by rw[Ym];exact Gv _)] at ch2;refine k c _ kvs nc (Same.thaw hp s2) TZ (Paired.imp' (λkv x z=>⟨z.1,?_⟩) ch2);obtain⟨a,ea,za⟩:=z.2;have Yn:a≠p:=λq=>by rw[q,s2 _ _ b7] at za;cases za
   exact⟨a,ea,by rw[O2 Yn];exact za⟩
abbrev k2 (a b:Str):List j0:=[Sum.inr a,Sum.inr b]
structure TH (HB H:Hp) (t:Addr) (kvs:List (List j0×V)) (F:Str->Str->List Str):Prop where
 at_:H t=some (.dT kvs)
 no:∀a b,p8 kvs (k2 a b)=none->F a b=[]
 so:∀a b v,p8 kvs (k2 a b)=some v->∃l,v= .ref l/\H l=some (.lst ((F a b).map V.str))/\HB l=none
 inj:∀a b a' b' v,p8 kvs (k2 a b)=some v->p8 kvs (k2 a' b')=some v->a=a'/\b=b'
theorem TH.same {HB H H2:Hp}{t:Addr}{kvs:List (List j0×V)}{F:Str->Str->List Str}(h:TH HB H t kvs F)(s:Same H H2):TH HB H2 t kvs F:=
 ⟨s _ _ h.at_,h.no,λa b v e=>let ⟨l,q,z,f⟩:=h.so a b v e;⟨l,q,s _ _ z,f⟩,h.inj⟩
theorem TH.ext {HB H:Hp}{t:Addr}{kvs:List (List j0×V)}{F G:Str->Str->List Str}(h:TH HB H t kvs F)(e:∀a b,G a b=F a b):TH HB H t kvs G:=by
 have:G=F:=funext λa=>funext λb=>e a b;rw[this];exact h
theorem TH.hit {HB H:Hp}{t l:Addr}{kvs:List (List j0×V)}{F G:Str->Str->List Str}{a' b' im:Str}(h:TH HB H t kvs F)(hv:p8 kvs (k2 a' b')=some (.ref l))(h1:G a' b'=F a' b'++[im])(h2:∀a b,¬(a=a'/\b=b')->G a b=F a b):
  TH HB (p0 H l (.lst ((F a' b').map V.str++[.str im]))) t kvs G:=by
 obtain⟨l',e',z',f'⟩:=h.so _ _ _ hv
 cases e'
 have OD:t≠l:=λq=>by rw[←q,h.at_] at z';cases z'
 refine⟨by rw[b9 OD];exact h.at_,λa b e=>?_,λa b v e=>?_,h.inj⟩
 .by_cases q:a=a'/\b=b'
  .rw[q.1,q.2,hv] at e;cases e
  .rw[h2 a b q];exact h.no a b e
 .by_cases q:a=a'/\b=b'
  .obtain⟨rfl,rfl⟩:=q
   rw[hv] at e
   cases e
   exact⟨l,rfl,by rw[b7,h1,Gy];rfl,f'⟩
  .obtain⟨l2,e2,z2,f2⟩:=h.so a b v e
   refine⟨l2,e2,?_,f2⟩
   have:l2≠l:=λw=>q (by
    rw[e2,w] at e;exact h.inj a b a' b' _ e hv)
   rw[b9 this,h2 a b q];exact z2
theorem TH.miss {HB H:Hp}{t l:Addr}{kvs:List (List j0×V)}{F G:Str->Str->List Str}{a' b' im:Str}(h:TH HB H t kvs F)(hv:p8 kvs (k2 a' b')=none)(hl:HB l=none)(m_:∀a b,p8 kvs (k2 a b)≠some (.ref l))(j':l≠t)(h1:G a' b'=F a' b'++[im])(h2:∀a b,¬(a=a'/\b=b')->G a b=F a b):
  TH HB (p0 (p0 H t (.dT (B9 kvs (k2 a' b') (.ref l)))) l (.lst ([]++[.str im]))) t (B9 kvs (k2 a' b') (.ref l)) G:=by
 have hk:∀{a b:Str},¬(a=a'/\b=b')->k2 a b≠k2 a' b':=fun{a b} q w=>by
  have w1:=Jj w;have w2:=Jj w1.2;exact q ⟨Ij w1.1,Ij w2.1⟩
 refine⟨by rw[b9 j'.symm,b7],λa b e=>?_,λa b v e=>?_,λa b c d v e e'=>?_⟩
 .by_cases q:a=a'/\b=b'
  .rw[G1,if_pos (by rw[q.1,q.2])] at e;cases e
  .rw[G1,if_neg (hk q)] at e
   rw[h2 a b q];exact h.no a b e
 .by_cases q:a=a'/\b=b'
  .obtain⟨rfl,rfl⟩:=q
   rw[G1,if_pos rfl] at e
   cases e
   exact⟨l,rfl,by rw[b7,h1,h.no _ _ hv];rfl,hl⟩
  .rw[G1,if_neg (hk q)] at e
   obtain⟨l2,e2,z2,f2⟩:=h.so a b v e
   have w1:l2≠l:=λw=>m_ a b (by rw[e,e2,w])
   have w2:l2≠t:=λw=>by rw[w,h.at_] at z2;cases z2
   exact⟨l2,e2,by rw[b9 w1,b9 w2,h2 a b q];exact z2,f2⟩
 .by_cases q:a=a'/\b=b'
  .by_cases q':c=a'/\d=b'
   .exact⟨q.1.trans q'.1.symm,q.2.trans q'.2.symm⟩
   .rw[G1,if_pos (by rw[q.1,q.2])] at e
    rw[G1,if_neg (hk q')] at e'
    cases e
    exact absurd e' (m_ c d)
  .by_cases q':c=a'/\d=b'
   .rw[G1,if_pos (by rw[q'.1,q'.2])] at e'
    rw[G1,if_neg (hk q)] at e
    cases e'
    exact absurd e (m_ a b)
   .rw[G1,if_neg (hk q)] at e
    rw[G1,if_neg (hk q')] at e'
    exact h.inj a b c d v e e'
def PlAt (H:Hp)(v:V)(F:Str->Str->List Str):Prop:=∃(t:Addr) (kvs:List (List j0×V)),v= .ref t/\H t=some (.dT kvs)/\(∀a b,p8 kvs (k2 a b)=none->F a b=[])/\∀a b v,p8 kvs (k2 a b)=some v->LstAt H v (F a b)
theorem PlAt.same {H H':Hp}{v:V}{F:Str->Str->List Str}(h:PlAt H v F)(s:Same H H'):PlAt H' v F:=
 let ⟨t,kvs,e,a,n,z⟩:=h;⟨t,kvs,e,s _ _ a,n,λx y v q=>(z x y v q).same s⟩
def PlsAt (H:Hp)(F:Str×F2->Str->Str->List Str)(kvs:List (j0×V))(ts:List (Str×F2)):Prop:=Paired (λkv x=>kv.1=Sum.inr x.1/\PlAt H kv.2 (F x)) kvs ts
theorem PlsAt.keys {H:Hp}{F:Str×F2->Str->Str->List Str}:∀{kvs:List (j0×V)} {ts:List (Str×F2)},PlsAt H F kvs ts->kvs.map (·.1)=(ts.map (·.1)).map Sum.inr
 |_,_,.nil=>rfl
 |_,_,.cons a t=>by rw[Hu,a.1,PlsAt.keys t];rfl
theorem PlsAt.same {H H':Hp}{F:Str×F2->Str->Str->List Str}{kvs:List (j0×V)}{ts:List (Str×F2)}(h:PlsAt H F kvs ts)(s:Same H H'):PlsAt H' F kvs ts:=Paired.imp' (λ_ _ z=>⟨z.1,z.2.same s⟩) h
theorem thaw_at {q a:Addr}{H:Hp}{o:Obj}{w u:HO}(hq:H q=some (.frz o w))(ha:H a=some u)(hu:∀o' w',u≠ .frz o' w'):thaw q H a=some u:=by
 have:a≠q:=λz=>by rw[z,hq] at ha;cases ha;exact hu _ _ rfl
 rw[O2 this];exact ha
theorem LstAt.thaw {q:Addr}{H:Hp}{o:Obj}{w:HO}{v:V}{l:List Str}(hq:H q=some (.frz o w))(h:LstAt H v l):LstAt (thaw q H) v l:=let ⟨a,e,z⟩:=h;⟨a,e,thaw_at hq z (λ_ _ z=>nomatch z)⟩
theorem PlAt.thaw {q:Addr}{H:Hp}{o:Obj}{w:HO}{v:V}{F:Str->Str->List Str}(hq:H q=some (.frz o w))(h:PlAt H v F):PlAt (thaw q H) v F:=
 let ⟨t,kvs,e,a,n,z⟩:=h;⟨t,kvs,e,thaw_at hq a (λ_ _ z=>nomatch z),n,λx y v q=>(z x y v q).thaw hq⟩
def bP (K:Qc):Sp:=λvs H Q _=>∃(a p q a' p' q' d:Addr) (kvs c_:List (j0×V)) (Pc W:A6) (fx:List (Str×Str)) (gt:List Str),vs=[.ref a,.ref a',.ref d]/\WebAt K H a p q kvs Pc/\H q=some (.dK kvs)/\(Pc.ts.map (·.1)).Nodup/\Pc.ts.length<=30/\WebAt K H a' p' q' c_ W/\(W.ts.map (·.1)).Nodup/\W.ts.length<=30/\gt.Perm (W.ts.map (·.1))/\sortedS gt=true/\H d=some (.dK (i9 fx))/\d≠q/\
 ∀(c:Addr) (H':Hp) (e_:List (j0×V)),H c=none->Same H H'->H' c=some (.dK e_)->PlsAt H' (λx a b=>qc W gt fx x.1 (x.2.1,a,b)) e_ Pc.ts->Q (.ref c) H'
abbrev cU (P:Program)(w:World)(K:Qc)(mg:Str->Option Value)(base:Heap):Prop:=O4 P w K mg base C2 2 "tie_places" ["piece","web","fixed"] [] (bP K)
theorem jf {f:Addr}{fd:FuncData}(T:Txt K mg)(X8:iM P w K mg base)(F:Fun K "tie_places" "tie_places" Z1 f fd):A3 P w K mg base C2 2 f fd ["piece","web","fixed"] (bP K):=by
 refine F.ok sc_tie_places (λvs H Q E h=>?_) (λd_ A outer s H vs Q E hr h=>?_)
 .obtain⟨a,p,q,a',p',q',d,kvs,c_,Pc,W,fx,gt,rfl,_⟩:=h;rfl
 .obtain⟨a,p,q,a',p',q',d,kvs,c_,Pc,W,fx,gt,rfl,hP,hq,RU,lP,hW,Sh,lW,pgt,ogt,hd,Q_,k⟩:=h;have Wx:gt.length<=30:=by rw[pgt.length_eq,Gs];exact lW
  have MD:=hP.ts.length;have hN:=sc_tie_places.nd;have hu:=u9 hr;refine⟨_,QSs.r (x6 (j8 (i:=3) hN rfl (by walk_at "l") tH)
   (x6 (Q1 Ht rfl (Q6 (k9 (l0 K hu) (qV 0) d8 (λ_ _=>rfl))) (oX K rfl (cH (F9 (i:=4) hN rfl (by walk_at "l")) (cH (F9 (i:=5) hN rfl (by walk_at "l")) oS)))
    (x6 (j8 (i:=6) hN rfl (by walk_at "l") EB)
   (x6 (Q1 Ht rfl (Q4 K (qB (G4 K rfl) T.b_sorted Boot.«sorted» (j3 (k9 (l0 K hu) (qV 1) d8 (λ_ _=>rfl)) j6))) (F9 (i:=7) hN rfl (by walk_at "l"))
    (x6 (j8 (i:=8) hN rfl (by walk_at "l") (k9 (l0 K hu) (k9 (l0 K hu) (qV 1) d8 (λ_ _=>rfl)) (qV 7) (λ_ _=>rfl)))
   (A7 (bC (sL (dM (x5 (M9 K hr) (k9 (l0 K hu) (qV 8) d8 (λ_ _=>rfl)) (k9 (l0 K hu) (qV 5) d8 (λ_ _=>rfl)) (p7 _)) (cn (U4 K (qC X8 (hr.mono (by decide)) j7 (j3 (qV 4) (j3 (qV 7) (j3 (qV 2) j6)))))))) (A7 (uC (qM HP HY HZ B0 K (qM HL PySem.F.slot_dict_setdefault PySem.F.type_dict_setdefault (bH hr) K (qV 6) (j3 (Cb (DP K) (qV 8) (BP d8) Ej) (j3 (dn j6) j6))) (j3 (qV 7) j6)))) cF))))
   (A7 (W8 (qV 6) (kC (qV 3) (qV 4) (z6 P w hu)))))))
   (A7 (A1 (qV 3))))),?_⟩
  walk_at "r";intro c nc;obtain⟨H1,e1,f1,m1,_⟩:=b4 (o:= .dK []) nc;rw[e1];have Wy:c≠q:=(j4 hq nc).symm;walk_at "r";refine b0 (m1.tup hP.tup) (b5 (j:=1) rfl) ?_;refine C7 (m1 _ _ hq) (λOE o1=>?_);refine S8 (n:=kvs.length) (λi σ H'=>∃(e_:List (j0×V)) (v1 v2 v3 v4 v5:Option V),σ=[some (.ref a),some (.ref a'),some (.ref d),some (.ref c),v1,v2,v3,v4,v5]/\Same (D0 q o1 kvs H) H'/\H' c=some (.dK e_)/\PlsAt H' (λx a b=>qc W gt fx x.1 (x.2.1,a,b)) e_ (Pc.ts.take i)) ⟨[],none,none,none,none,none,rfl,dA m1,by rw[O0 Wy];exact f1,.nil⟩ (λi σ H' hi hp=>?_) ?_ ?_
  .obtain⟨_,_,_,_,_,_,_,s,_⟩:=hp;exact⟨s _ _ b7,hi⟩
  .rintro bk i v σ H2' H2 hi ⟨e_,v1,v2,v3,v4,v5,rfl,s2,Nl,pl2⟩ ⟨t,kv,f_,nt,rfl,rfl⟩;obtain⟨H3,e3,f3,m3,_⟩:=b4 (o:= .tup _) nt;rw[e3];have s3:=s2.trans m3;have Oe:=(F8 (o:=o1) hq).trans s3.le;have P3:=hP.mono Oe;have W3:=hW.mono Oe;have QZ:H3 d=some (.dK (i9 fx)):=s3 _ _ (by rw[O0 Q_];exact hd);obtain⟨x,hx,ex,tb,eb,sb⟩:=P3.ts.get f_;obtain⟨kk,M'⟩:=kv;have Nj:kk=Sum.inr x.1:=ex;have M_:M'= .ref tb:=eb;subst Nj M_;refine J3 (SqT.of f3) rfl ?_;walk_at "r";intro th nth;obtain⟨H4,e4,f4,m4,_⟩:=b4 (o:= .dT []) nth;rw[e4];walk_at "r";refine b0 (m4.tup W3.tup) (b5 (j:=1) rfl) ?_;walk_at "r";refine z7 (ss:=W.ts.map (·.1)) (m4.rd W3.ties) (by rw[W3.ts.keys,r6]) (by rw[Gs];lia) (λg1 a1 a2 l5 n5=>?_);have eg:g1=gt:=E5 a2 ogt (a1.nodup_iff.mpr Sh) (a1.trans pgt.symm);subst eg;obtain⟨H5,e5,f5,m5,_⟩:=b4 (o:= .lst _) n5;rw[e5];refine A0 (SqL.of f5) ?_;have hl5:H3 l5=none:=m4.free n5;refine S8 (n:=g1.length) (λj σ H'=>∃(kt:List (List j0×V)) (w1 w2:Option V),σ=[some (.ref a),some (.ref a'),some (.ref d),some (.ref c),some (.str x.1),some (.ref tb),some (.ref th),w1,w2]/\Same H3 H'/\H' l5=some (.lst (g1.map V.str))/\kt.length<=j/\(∀A B,p8 kt (k2 A B)≠some (.ref l5))/\TH H3 H' th kt λA B=>(g1.take j).filter λim=>decide (E3 W.ts im=(x.2.1,A,B))&&K9 fx x.1 im) ⟨[],v4,v5,rfl,m4.trans m5,f5,Gv _,(λ_ _ z=>nomatch z),⟨m5 _ _ f4,(λ_ _ _=>rfl),(λ_ _ _ z=>nomatch z),λ_ _ _ _ _ z _=>nomatch z⟩⟩ (λj σ H' hj hp=>?_) ?_ ?_
   .obtain⟨_,_,_,_,_,z,_⟩:=hp;exact⟨g1.map V.str,.str (g1[j]),SqL.of z,by rw[Gx,Gu hj];rfl⟩
   .rintro bk2 j v σ H6' H6 hj ⟨kt,w1,w2,rfl,s6,O_,lk6,Pb,th6⟩ y;obtain⟨rfl,hy⟩:=Itl.get y (SqL.of O_);rw[Gx] at hy;obtain⟨im,NF,rfl⟩:=Hr.mp hy;have k_:im∈W.ts.map (·.1):=a1.mem_iff.mp (GJ NF);have W6:=W3.mono s6.le;obtain⟨aa,hv,hT⟩:=dg W6.ts Sh (aZ k_);generalize T':E3 W.ts im=to at hT;obtain⟨t1,t2,t3⟩:=to;walk_at "r";refine b0 W6.tup (b5 (j:=1) rfl) ?_;walk_at "r";refine B6 (v:= .ref aa) (by have z:=G3 (k:=Sum.inr im) W6.ties;rw[hv] at z;exact z) ?_;walk_at "r";refine b0 hT (b5 (j:=0) rfl) ?_;walk_at "r";refine b0 (s6.tup sb) (b5 (j:=0) rfl) ?_;walk_at "r";have stay:(∀A B,(decide (E3 W.ts im=(x.2.1,A,B))&&K9 fx x.1 im)=false)->∀H7,Same H6 H7->∃(kt:List (List j0×V)) (w1 w2:Option V),[some (.ref a),some (.ref a'),some (.ref d),some (.ref c),some (.str x.1),some (.ref tb),some (.ref th),some (.str im),some (.ref aa)]=[some (.ref a),some (.ref a'),some (.ref d),some (.ref c),some (.str x.1),some (.ref tb),some (.ref th),w1,w2]/\Same H3 H7/\H7 l5=some (.lst (g1.map V.str))/\kt.length<=j+1/\(∀A B,p8 kt (k2 A B)≠some (.ref l5))/\TH H3 H7 th kt λA B=>(g1.take (j+1)).filter λim=>decide (E3 W.ts im=(x.2.1,A,B))&&K9 fx x.1 im:=λhf H7 m7=>
     ⟨kt,_,_,rfl,s6.trans m7,m7 _ _ O_,by lia,Pb,(th6.same m7).ext λA B=>nZ NF (hf A B)⟩
    refine C5 (λh1=>?_) (λh1=>?_)
    .walk_at "r";refine⟨d,x.1,im,fx,rfl,s6 _ _ QZ,λH7 m7=>?_⟩;walk_at "r";refine V5 (λh2=>?_) (λh2=>?_)
     .walk_at "r";have T_:=th6.same m7;refine⟨.inr (.inr (.inl ⟨rfl,.inr ⟨_,T_.at_⟩⟩)),?_⟩;walk_at "r";refine iQ (m7.tup hT) (by rintro⟨z,_⟩;exact absurd (show(1:Nat)=0 from z) (by decide)) (λl8 n8=>?_);obtain⟨H8,e8,f8,m8,_⟩:=b4 (o:= .tup [.str t2,.str t3]) n8;rw[show cD (cq (t1,t2,t3)) (some 1) none=[V.str t2,.str t3] from rfl,e8];walk_at "r";refine⟨h9 (by simp),λl9 n9=>?_⟩;obtain⟨H9,e9,f9,m9,o9⟩:=b4 (o:= .lst []) n9;rw[e9];have PN:=T_.same (m8.trans m9);have Wz:=s6.trans (m7.trans (m8.trans m9));have WA:H3 l9=none:=(s6.trans (m7.trans m8)).free n9;have Of:=(m7.trans (m8.trans m9)) _ _ O_;have LO:((g1.take (j+1)).filter λim=>decide (E3 W.ts im=(x.2.1,t2,t3))&&K9 fx x.1 im)=((g1.take j).filter λim=>decide (E3 W.ts im=(x.2.1,t2,t3))&&K9 fx x.1 im)++[im]:=sD NF (by rw[T',h2,Hf (by rw[show t1=x.2.1 from h1])];rfl);have LW:∀A B,¬(A=t2/\B=t3)->((g1.take (j+1)).filter λim=>decide (E3 W.ts im=(x.2.1,A,B))&&K9 fx x.1 im)=((g1.take j).filter λim=>decide (E3 W.ts im=(x.2.1,A,B))&&K9 fx x.1 im):=λA B m_=>nZ NF (by
       rw[T',Hc (λz=>m_ ?_)];rfl;have z2:=(IH z).2;exact⟨(IH z2).1.symm,(IH z2).2.symm⟩)
      refine⟨th,l8,kt,k2 t2 t3,.ref l9,rfl,rfl,PN.at_,m9 _ _ f8,h9 (by lia),?_⟩;cases hvk:p8 kt (k2 t2 t3) with
      |some v=>
       obtain⟨l,rfl,hl,Ua⟩:=PN.so _ _ _ hvk
       refine⟨.inl ⟨rfl,_,SqL.of hl⟩,?_⟩
       walk_at "r"
       refine⟨l,_,.str im,rfl,rfl,hl,h9 (by rw[Gs];have:=eB (p:=λim=>decide (E3 W.ts im=(x.2.1,t2,t3))&&K9 fx x.1 im) (s:=g1) (i:=j);lia),?_⟩
       have Pd:l5≠l:=λz=>Pb t2 t3 (by rw[hvk,z])
       exact⟨kt,_,_,rfl,B5 Wz Ua,by rw[b9 Pd];exact Of,by lia,Pb,PN.hit hvk LO LW⟩
      |none=>
       have j':l9≠th:=λz=>by rw[z,PN.at_] at f9;cases f9
       have m_:∀A B,p8 kt (k2 A B)≠some (.ref l9):=λA B z=>by
        obtain⟨l,e,hl,_⟩:=(T_.same m8).so _ _ _ z;cases e;rw[n9] at hl;cases hl
       have WB:l5≠l9:=λz=>by
        have:=(m7.trans m8) _ _ O_;rw[z,n9] at this;cases this
       have Yo:l5≠th:=λz=>by rw[z,PN.at_] at Of;cases Of
       refine⟨.inl ⟨rfl,[],SqL.of (by rw[b9 j'];exact f9)⟩,?_⟩
       walk_at "r"
       refine⟨l9,[],.str im,rfl,rfl,by rw[b9 j'];exact f9,h9 (by simp),?_⟩
       have Ub:H3 th=none:=nth
       refine⟨B9 kt (k2 t2 t3) (.ref l9),_,_,rfl,B5 (B5 Wz Ub) WA,by rw[b9 WB,b9 Yo];exact Of,?_,λA B z=>?_,PN.miss hvk WA m_ j' LO LW⟩
       .have:=F5 kt (k2 t2 t3) (.ref l9);lia
       .rw[G1] at z
        split at z
        .cases z;exact WB rfl
        .exact Pb A B z
     .exact stay (λA B=>by rw[h2,Bool.and_false]) H7 m7
    .walk_at "r";exact stay (λA B=>by rw[T',Hc (λz=>h1 (IH z).1)];rfl) H6 (Same.refl _)
   .rintro σ H6 ⟨kt,w1,w2,rfl,s6,O_,lk6,Pb,th6⟩;refine⟨⟨_,SqL.of O_,by rw[Gs];exact Gv _⟩,?_⟩;rw[GD (Gv _)] at th6;have Uc:H6 c=some (.dK e_):=s6 _ _ (m3 _ _ Nl);have TX:=Hn pl2;rw[GC] at TX;walk_at "r";refine G7 (u7 (k:=Sum.inr x.1) Uc (h9 (by lia)) ?_);have e7:Pc.ts.take (i+1)=Pc.ts.take i++[x]:=by rw[Ho,hx];rfl
    have fr:x.1∉(Pc.ts.take i).map (·.1):=λz=>by
     have w:((Pc.ts.take (i+1)).map (·.1)).Nodup:=RU.sublist ((ID _ _).map _);rw[e7,Gy] at w;exact(GX.mp w).2.2 x.1 z x.1 (by simp) rfl
    have ek:B9 e_ (Sum.inr x.1:j0) (.ref th)=e_++[(Sum.inr x.1,.ref th)]:=E8 _ (C9 (by rw[pl2.keys];exact λm=>fr (K6 m)));have TY:(D0 q o1 kvs H) c=none:=by rw[O0 Wy];exact nc
    have cL:∀{v:V} {l:List Str},LstAt H6 v l->LstAt (p0 H6 c (.dK (e_++[(Sum.inr x.1,V.ref th)]))) v l:=fun{v l} ⟨a,ea,z⟩=>⟨a,ea,by rw[b9 (λq=>by rw[q,Uc] at z;cases z)];exact z⟩
    have cP:∀{v:V} {F:Str->Str->List Str},PlAt H6 v F->PlAt (p0 H6 c (.dK (e_++[(Sum.inr x.1,V.ref th)]))) v F:=fun{v F} ⟨t,kk,e,z,n,so⟩=>⟨t,kk,e,by rw[b9 (λq=>by rw[q,Uc] at z;cases z)];exact z,n,λA B v e=>cL (so A B v e)⟩
    refine⟨e_++[(Sum.inr x.1,.ref th)],_,_,_,_,_,rfl,B5 (s3.trans s6) TY,by rw[b7,ek],?_⟩;rw[ek,e7];refine q8 (Paired.imp' (λ_ _ z=>⟨z.1,cP (z.2.same (m3.trans s6))⟩) pl2) ⟨rfl,cP ⟨th,kt,rfl,th6.at_,th6.no,λA B v e=>?_⟩⟩;obtain⟨l,e1,e2,_⟩:=th6.so A B v e;exact⟨l,e1,e2⟩
  .rintro σ H2 ⟨e_,v1,v2,v3,v4,v5,rfl,s2,Nl,pl2⟩;refine⟨⟨s2 _ _ b7,Gv _⟩,?_⟩;walk_at "r";have WC:H2 q=some (.frz o1 (.dK kvs)):=s2 _ _ b7;rw[GD (by lia)] at pl2;exact k c _ e_ nc (Same.thaw hq s2) (thaw_at WC Nl (λ_ _ z=>nomatch z)) (Paired.imp' (λkv x z=>⟨z.1,z.2.thaw WC⟩) pl2)
def fg (fx:List (Str×Str))(n:Str):Bool:=!decide (n∈fx.map (·.1))
theorem kW {td ty tx:TE}{σ:L2.St}{H:Hp}{Q:VK}(q:td σ H λx H1=>∃a,x= .ref a/\Cs H1 a/\ty σ H1 λy H2=>tx σ H2 λz H3=>∃o,DGet H3 a y o/\Q (o.getD z) H3):oR td ty tx σ H Q:=q
abbrev LsAt (H:Hp)(xs:List V)(ls:List (List Str)):Prop:=Paired (LstAt H) xs ls
theorem LsAt.same {H H':Hp}{xs:List V}{ls:List (List Str)}(h:LsAt H xs ls)(s:Same H H'):LsAt H' xs ls:=Paired.imp' (λ_ _ z=>z.same s) h
theorem jY:∀l d:List Str,Q7 (l.map V.str) (d.map V.str)=decide (l=d)
 |[],[]=>rfl
 |[],_::_=>by simp [Q7]
 |_::_,[]=>by simp [Q7]
 |x::l,y::d=>by
  show(cG (.str x) (.str y)&&Q7 (l.map V.str) (d.map V.str))=_;rw[jY l d,Hq];simp [cG]
def pX (H:Hp):V->List V
 | .ref a=>match H a with
  |some (.lst xs)=>xs
  |_=>[]
 |_=>[]
theorem lV {H:Hp}{v:V}{l:List Str}(h:LstAt H v l):pX H v=l.map V.str:=by
 obtain⟨a,rfl,z⟩:=h;show(match H a with|some (.lst xs)=>xs|_=>[])=_;rw[z]
theorem mH {H:Hp}{d:List Str}:∀{xs:List V} {ls:List (List Str)},LsAt H xs ls->xs.countP (λz=>Q7 (pX H z) (d.map V.str))=ls.count d
 |_,_,.nil=>rfl
 |_,l::_,.cons a t=>by
  rw[Lq,List.count_cons,mH t,lV a,jY];by_cases e:l=d
  .rw[if_pos (Hf e),if_pos (by simpa using e)]
  .rw[if_neg (by rw[Hc e];decide),if_neg (by simpa using e)]
def jk (K:Qc):Sp:=λvs H Q _=>∃(l:Addr) (xs:List V) (ls:List (List Str)),vs=[.ref l]/\H l=some (.lst xs)/\LsAt H xs ls/\ls.length<=60/\∀H',Same H H'->Q (.bl (vB ls)) H'
abbrev iz (P:Program)(w:World)(K:Qc)(mg:Str->Option Value)(base:Heap):Prop:=O4 P w K mg base C2 1 "enough" ["lists"] [] (jk K)
theorem si {f:Addr}{fd:FuncData}(T:Txt K mg)(F:Fun K "enough" "enough" gL f fd):A3 P w K mg base C2 1 f fd ["lists"] (jk K):=by
 refine F.ok sc_enough (λvs H Q E h=>?_) (λd_ A outer s H vs Q E hr h=>?_)
 .obtain⟨l,xs,ls,rfl,_⟩:=h;rfl
 .obtain⟨l,xs,ls,rfl,hl,hx,hn,k⟩:=h;have Ra:=Hn hx;have hN:=sc_enough.nd;have hu:=u9 hr;refine⟨_,QSs.r (A7 (A1 (qB (tE K rfl) T.b_all Boot.«all» (j3 (E4 (own:=["drawn"]) (js:=[0]) (by kernel_rfl) rfl (Q4 K (qV 0)) (λ_ _ _ _=>(F9 (i:=0) (show List.Nodup (["drawn","lists"]:List Str) by decide+kernel) rfl (by walk_at "l"))) (λ_ _ _ _=>af) (λ_ _ _ _=>(dQ Cv (qM HP PySem.F.slot_list_count PySem.F.type_list_count (fW K hr) K (qV 1) (j3 (qV 0) j6)) (qB (C6 K P w) T.b_len Boot.«len» (j3 (qV 0) j6)) (p7 _)))) j6)))),?_⟩;walk_at "r";refine A0 (SqL.of hl) ?_;refine u4 (n:=xs.length) (λi out H'=>H'=H/\out=(ls.take i).map λd=>V.bl (decide (ls.count d<=d.length))) ⟨rfl,rfl⟩ (λi out H' hi hp=>⟨xs,xs[i],SqL.of (by rw[hp.1];exact hl),Gu hi⟩) ?_ ?_
  .rintro N i v out H1' H1 hi ⟨rfl,rfl⟩ y hN';obtain⟨rfl,hy⟩:=Itl.get y (SqL.of hl);obtain⟨d,hd,a,rfl,WD⟩:=C8 hx hy;walk_at "r";refine⟨rfl,?_⟩;walk_at "r";refine⟨.inl ⟨rfl,_,SqL.of hl⟩,?_⟩;walk_at "r";refine⟨l,xs,.ref a,λz=>Q7 (pX H1 z) (d.map V.str),rfl,rfl,hl,λz hz=>?_,?_⟩
   .obtain⟨j,hj⟩:=JC hz;obtain⟨e,he,b,rfl,hb⟩:=C8 hx hj;exact⟨b,a,_,_,rfl,rfl,SqL.of hb,SqL.of WD,cY _,cY _,by show Q7 (pX H1 (V.ref b)) _=_;rw[lV ⟨b,rfl,hb⟩]⟩
   .rw[mH hx];walk_at "r";refine C3 (x9 (SqL.of WD) ?_);rw[Gs];walk_at "r";refine⟨h9 (by rw[Gs,GC];lia),hN' _ _ ⟨rfl,?_⟩⟩;have e:decide ((ls.count d:Int)<=(d.length:Int))=decide (ls.count d<=d.length):=by rw[Hq];simp
    rw[e];exact C4 (λd=>V.bl (decide (ls.count d<=d.length))) hd
  .rintro out H1 ⟨rfl,rfl⟩;refine⟨⟨_,SqL.of hl,Gv _⟩,λD hD=>⟨h9 (by rw[Gs,GC];lia),?_⟩⟩;rw[GD (by lia)];obtain⟨H2,e2,f2,m2,_⟩:=b4 (H:=H1) (o:= .lst (ls.map λd=>V.bl (decide (ls.count d<=d.length)))) hD;walk_at "r";change rp K _ (p0 H1 D _) _;rw[e2];refine jx (bs:=ls.map λd=>decide (ls.count d<=d.length)) (SqL.of (by rw[f2,GQ];rfl)) ?_;have e:(ls.map λd=>decide (ls.count d<=d.length)).all id=vB ls:=by unfold vB;rw[IC];rfl
   rw[e];exact k H2 m2
structure Sx (K:Qc) (H:Hp) (a p q c pl:Addr) (kvs s_ e_:List (j0×V)) (L:Str->Str->Bool) (Pc W:A6) (s1 s2 gp gt:List Str) (fx:List (Str×Str)):Prop where
 S:SrchP L Pc W s1 s2 gp gt fx
 at_:WebAt K H a p q kvs Pc
 hq:H q=some (.dK kvs)
 l1:(d9 Pc).length<=30
 l2:(d9 W).length<=30
 big:((d9 Pc).length+1)*(max W.pts.length W.ts.length+1) ^ ((d9 Pc).filter (fg fx)).length<=1000000
 hc:H c=some (.dK s_)
 ch:ChAt H (λx=>oA L gp fx x.1) s_ Pc.pts
 hl:H pl=some (.dK e_)
 pls:PlsAt H (λx a b=>qc W gt fx x.1 (x.2.1,a,b)) e_ Pc.ts
theorem Sx.same {H H':Hp}{a p q c pl:Addr}{kvs s_ e_:List (j0×V)}{L:Str->Str->Bool}{Pc W:A6}{s1 s2 gp gt:List Str}{fx:List (Str×Str)}(h:Sx K H a p q c pl kvs s_ e_ L Pc W s1 s2 gp gt fx)(s:Same H H'):Sx K H' a p q c pl kvs s_ e_ L Pc W s1 s2 gp gt fx:=
 ⟨h.S,h.at_.mono s.le,s _ _ h.hq,h.l1,h.l2,h.big,s _ _ h.hc,h.ch.same s,s _ _ h.hl,h.pls.same s⟩
theorem gm {α:Type}{R:V->Str×α->Prop}:∀{kvs:List (j0×V)} {ts:List (Str×α)} {x:Str×α},Paired (λkv x=>kv.1=Sum.inr x.1/\R kv.2 x) kvs ts->(ts.map (·.1)).Nodup->x∈ts->∃v,p8 kvs (Sum.inr x.1:j0)=some v/\R v x
 |_,[],_,_,_,hx=>nomatch hx
 |kv::r,y::ts,x,.cons a t,nd,hx=>by
  have nd':=Hs.mp (show(y.1::ts.map (·.1)).Nodup from nd);rcases Hh.mp hx with z|z
  .subst z;exact⟨kv.2,C1 a.1,a.2⟩
  .obtain⟨v,h1,h2⟩:=gm t nd'.2 z;refine⟨v,?_,h2⟩;rw[C0 (by rw[a.1];exact λe=>nd'.1 (Gw.mpr ⟨x,z,(Ij e).symm⟩))];exact h1
def bt (K:Qc):Sp:=λvs H Q _=>∃(a p q c pl d:Addr) (kvs s_ e_ kvm:List (j0×V)) (L:Str->Str->Bool) (Pc W:A6) (s1 s2 gp gt:List Str) (fx:List (Str×Str)) (x:Str×F2),vs=[.ref a,.ref pl,.ref d,.str x.1]/\Sx K H a p q c pl kvs s_ e_ L Pc W s1 s2 gp gt fx/\x∈Pc.ts/\Rd H d (.dK kvm)/\TxtAt kvm x.2.2.1/\TxtAt kvm x.2.2.2/\
 ∀(v:V) (H':Hp),Same H H'->LstAt H' v (qc W gt fx x.1 (x.2.1,i6 kvm x.2.2.1,i6 kvm x.2.2.2))->Q v H'
abbrev W5 (P:Program)(w:World)(K:Qc)(mg:Str->Option Value)(base:Heap):Prop:=O4 P w K mg base C2 2 "tie_choices" ["piece","places","put","name"] [] (bt K)
theorem gW {f:Addr}{fd:FuncData}(T:Txt K mg)(B4:O1 P w K mg base)(F:Fun K "tie_choices" "tie_choices" V3 f fd):A3 P w K mg base C2 2 f fd ["piece","places","put","name"] (bt K):=by
 refine F.ok sc_tie_choices (λvs H Q E h=>?_) (λd_ A outer s H vs Q E hr h=>?_)
 .obtain⟨a,p,q,c,pl,d,kvs,s_,e_,kvm,L,Pc,W,s1,s2,gp,gt,fx,x,rfl,_⟩:=h;rfl
 .obtain⟨a,p,q,c,pl,d,kvs,s_,e_,kvm,L,Pc,W,s1,s2,gp,gt,fx,x,rfl,X0,hx,hd,t1,t2,k⟩:=h;obtain⟨aa,hv,hT⟩:=dg X0.at_.ts (K4 X0.S.nd) (show(x.1,x.2)∈Pc.ts from hx);have hN:=sc_tie_choices.nd;have hu:=u9 hr;refine⟨_,QSs.r (x6 (j8 (i:=4) hN rfl (by walk_at "l") (Cb (DP K) (qC B4 (hr.mono (by decide)) j7 (j3 (k9 (l0 K hu) (k9 (l0 K hu) (qV 0) d8 (λ_ _=>rfl)) (qV 3) (λ_ _=>rfl)) (j3 (qV 2) j6))) (BP d8) Ej))
   (A7 (A1 (qT hu (k9 (l0 K hu) (qV 1) (qV 3) (λ_ _=>rfl)) (qV 4) (dn j6))))),?_⟩
  walk_at "r";refine b0 X0.at_.tup (b5 (j:=1) rfl) ?_;walk_at "r";refine B6 (v:= .ref aa) (by have z:=G3 (k:=Sum.inr x.1) X0.at_.ties;rw[hv] at z;exact z) ?_;walk_at "r";refine⟨aa,d,x.2,kvm,rfl,hT,hd,t1,t2,λl1 H1 n1 m1 f1=>?_⟩;walk_at "r";refine iQ (SqT.of f1) (by rintro⟨z,_⟩;exact absurd (show(1:Nat)=0 from z) (by decide)) (λl2 n2=>?_);obtain⟨H2,e2,f2,m2,_⟩:=b4 (o:= .tup [.str (i6 kvm x.2.2.1),.str (i6 kvm x.2.2.2)]) n2;rw[show cD (cq (x.2.1,i6 kvm x.2.2.1,i6 kvm x.2.2.2)) (some 1) none=[V.str (i6 kvm x.2.2.1),.str (i6 kvm x.2.2.2)] from rfl,e2];have X2:=X0.same (m1.trans m2);obtain⟨v,Lz,t,kt,rfl,ht,m_,Yp⟩:=gm (R:=λv (x:Str×F2)=>PlAt H2 v λa b=>qc W gt fx x.1 (x.2.1,a,b)) (show Paired _ _ _ from X2.pls) (K4 X0.S.nd) hx;walk_at "r";refine kW ?_;walk_at "r";refine B6 (v:= .ref t) (by have z:=G3 (k:=Sum.inr x.1) (.inl X2.hl);rw[Lz] at z;exact z) ?_;refine⟨t,rfl,.inr ⟨_,.inl ht⟩,?_⟩;walk_at "r";refine⟨h9 (by simp),λl3 n3=>?_⟩;obtain⟨H3,e3,f3,m3,_⟩:=b4 (o:= .lst []) n3;rw[e3];refine⟨_,DGet.t (k:=k2 (i6 kvm x.2.2.1) (i6 kvm x.2.2.2)) (m3 _ _ ht) (m3 _ _ f2),?_⟩;have NG:=m1.trans (m2.trans m3);cases hvk:p8 kt (k2 (i6 kvm x.2.2.1) (i6 kvm x.2.2.2)) with
  |none=>exact k _ H3 NG ⟨l3,rfl,by rw[f3];have z:=m_ _ _ hvk;dsimp only at z;rw[z];rfl⟩
  |some v=>exact k _ H3 NG ((Yp _ _ _ hvk).same m3)
theorem dF:∀{nm b:List Str} {n x:Str},nm[b.length]?=some n->nm.zip (b++[x])=nm.zip b++[(n,x)]
 |[],b,n,x,h=>by simp at h
 |m::nm,[],n,x,h=>by
  have e:m=n:=by simpa using h
  subst e;simp
 |m::nm,y::b,n,x,h=>by
  have z:=dF (nm:=nm) (b:=b) (n:=n) (x:=x) (by simpa using h);show(m,y)::nm.zip (b++[x])=(m,y)::nm.zip b++[(n,x)];rw[z];rfl
theorem qK (nm:List Str):nm.map V.str=(nm.map (Sum.inr:Str->j0)).map kV:=by rw[GQ];rfl
theorem lU {nm b:List Str}(nd:nm.Nodup):X3 ((nm.map (Sum.inr:Str->j0)).zip (b.map V.str))=i9 (nm.zip b):=by
 have e:(nm.map (Sum.inr:Str->j0)).zip (b.map V.str)=i9 (nm.zip b):=by rw[List.zip_map];rfl
 rw[e,T6];rw[B7,←r6];exact Ja _ (λa b h z=>h (Ij z)) (kO b nd)
theorem kx {mm:List (Str×Str)}{n:Str}(h:n∈mm.map (·.1)):TxtAt (i9 mm) n:=⟨_,mJ h⟩
theorem kN {nm b:List Str}{i:Nat}{n:Str}(h:nm[i]?=some n)(hi:i<b.length):n∈(nm.zip b).map (·.1):=Gw.mpr ⟨(n,b[i]),kU h (Gu hi),rfl⟩
theorem rj {nm b:List Str}{n:Str}(nd:nm.Nodup)(h:nm[b.length]?=some n):n∉(nm.zip b).map (·.1):=λz=>by
 have w:=kO (b++[n]) nd;rw[dF h,Gy] at w;exact(GX.mp w).2.2 n z n (by simp) rfl
def fq (K:Qc):Sp:=λvs H Q _=>∃(a p q c pl d:Addr) (kvs s_ e_:List (j0×V)) (L:Str->Str->Bool) (Pc W:A6) (s1 s2 gp gt:List Str) (fx mm:List (Str×Str)) (n im:Str),vs=[.ref a,.ref pl,.ref d,.str n,.str im]/\Sx K H a p q c pl kvs s_ e_ L Pc W s1 s2 gp gt fx/\H d=some (.dK (i9 mm))/\mm.length<=60/\n∉mm.map (·.1)/\
 (∀x∈aQ Pc.ts n,x.2.2.1∈(mm++[(n,im)]).map (·.1)/\x.2.2.2∈(mm++[(n,im)]).map (·.1))/\
 ∀H',Same H H'->Q (.bl (vB ((aQ Pc.ts n).map λx=>qc W gt fx x.1 (x.2.1,i6 (i9 (mm++[(n,im)])) x.2.2.1,i6 (i9 (mm++[(n,im)])) x.2.2.2)))) H'
theorem DR {α:Type}{p:α->Bool}{s:List α}{i:Nat}{x:α}(h:s[i]?=some x)(hp:p x=true):(s.take (i+1)).filter p=(s.take i).filter p++[x]:=by
 rw[Ho,h,Hw];show _++List.filter p [x]=_;rw[Hz hp];rfl
theorem Ec {α:Type}{p:α->Bool}{s:List α}{i:Nat}{x:α}(h:s[i]?=some x)(hp:p x=false):(s.take (i+1)).filter p=(s.take i).filter p:=by
 rw[Ho,h,Hw];show _++List.filter p [x]=_;rw[HG (by rw[hp];decide)];simp
theorem zg {α:Type}{p:α->Bool}{s:List α}{i:Nat}:((s.take i).filter p).length<=s.length:=He (GI _ _) (by rw[GC];lia)
abbrev gu (P:Program)(w:World)(K:Qc)(mg:Str->Option Value)(base:Heap):Prop:=O4 P w K mg base C2 3 "has_room" ["piece","places","put","name","image"] [] (fq K)
theorem nG {f:Addr}{fd:FuncData}(T:Txt K mg)(X6:iz P w K mg base)(F0:W5 P w K mg base)(F:Fun K "has_room" "has_room" cx f fd):A3 P w K mg base C2 3 f fd ["piece","places","put","name","image"] (fq K):=by
 refine F.ok sc_has_room (λvs H Q E h=>?_) (λd_ A outer s H vs Q E hr h=>?_)
 .obtain⟨a,p,q,c,pl,d,kvs,s_,e_,L,Pc,W,s1,s2,gp,gt,fx,mm,n,im,rfl,_⟩:=h;rfl
 .obtain⟨a,p,q,c,pl,d,kvs,s_,e_,L,Pc,W,s1,s2,gp,gt,fx,mm,n,im,rfl,X0,hd,lm,nn,he,k⟩:=h;have MD:=X0.at_.ts.length;have l1:=X0.l1;rw[A4] at l1;have hN:=sc_has_room.nd;have hu:=u9 hr;refine⟨_,QSs.r (x6 (j8 (i:=5) hN rfl (by walk_at "l") (gD (X9 K rfl) T.b_dict Boot.«dict» (j3 (qV 2) j6)))
   (x6 (W8 (qV 4) (kC (qV 5) (qV 3) (z6 P w hu)))
   (x6 (cR (i:=6) hN rfl (by walk_at "l") (own:=["tie","told"]) (js:=[3]) (by kernel_rfl) rfl (Q6 (k9 (l0 K hu) (qV 0) d8 (λ_ _=>rfl))) (λ_ _ _ _=>(oX K rfl (cH (F9 (i:=0) (show List.Nodup (["tie","told","name"]:List Str) by decide+kernel) rfl (by walk_at "l")) (cH (F9 (i:=1) (show List.Nodup (["tie","told","name"]:List Str) by decide+kernel) rfl (by walk_at "l")) oS)))) (λ_ _ _ _=>(gP (x5 (M9 K hr) (qB (CC K rfl) T.b_max Boot.«max» (j3 (Cb (DP K) (qV 1) (BP d8) Ej) j6)) (qV 2) (p7 _)))) (λ_ _ _ _=>(qV 0)))
   (A7 (A1 (qC X6 (hr.mono (by decide)) j7 (j3 (E4 (own:=["tie"]) (js:=[0,1,5]) (by kernel_rfl) rfl (Q4 K (qV 6)) (λ_ _ _ _=>(F9 (i:=0) (show List.Nodup (["tie","piece","places","longer"]:List Str) by decide+kernel) rfl (by walk_at "l"))) (λ_ _ _ _=>af) (λ_ _ _ _=>(qC F0 (hr.mono (by decide)) j7 (j3 (qV 1) (j3 (qV 2) (j3 (qV 3) (j3 (qV 0) j6))))))) j6))))))),?_⟩
  walk_at "r";refine J6 (.inl hd) (λl1 n1=>?_);obtain⟨H1,e1,f1,m1,_⟩:=b4 (o:= .dK (i9 mm)) n1;rw[e1];walk_at "r";refine G7 (u7 (k:=Sum.inr n) f1 (h9 (by rw[k8];lia)) ?_);rw[yq nn];have f2:(p0 H1 l1 (.dK (i9 (mm++[(n,im)])))) l1=some (.dK (i9 (mm++[(n,im)]))):=b7;have m2:Same H (p0 H1 l1 (.dK (i9 (mm++[(n,im)])))):=B5 m1 n1;generalize p0 H1 l1 (.dK (i9 (mm++[(n,im)])))=H2 at f2 m2⊢;have X2:=X0.same m2;walk_at "r";refine b0 X2.at_.tup (b5 (j:=1) rfl) ?_;refine C7 X2.hq (λOE o3=>?_);refine u4 (n:=kvs.length) (λi out H'=>Same (D0 q o3 kvs H2) H'/\out=((Pc.ts.take i).filter λx=>decide (ya x.2.2.1 x.2.2.2=n)).map λx=>V.str x.1) ⟨Same.refl _,rfl⟩ (λi out H' hi hp=>⟨hp.1 _ _ b7,hi⟩) ?_ ?_
  .rintro N i v out H3' H3 hi ⟨s3,rfl⟩ ⟨t,kv,f_,nt,rfl,rfl⟩ hN';obtain⟨H4,e4,f4,m4,_⟩:=b4 (o:= .tup _) nt;rw[e4];have Og:=(F8 (o:=o3) X2.hq).trans (s3.trans m4).le;have P4:=X2.at_.mono Og;obtain⟨x,hx,ex,tb,eb,sb⟩:=P4.ts.get f_;obtain⟨kk,M'⟩:=kv;have Nj:kk=Sum.inr x.1:=ex;have M_:M'= .ref tb:=eb;subst Nj M_;refine J3 (SqT.of f4) rfl ?_;walk_at "r";refine⟨rfl,?_⟩;walk_at "r";refine iQ sb (by rintro⟨z,_⟩;exact absurd (show(1:Nat)=0 from z) (by decide)) (λl5 n5=>?_);obtain⟨H5,e5,f5,m5,_⟩:=b4 (o:= .tup [.str x.2.2.1,.str x.2.2.2]) n5;rw[show cD (cq x.2) (some 1) none=[V.str x.2.2.1,.str x.2.2.2] from rfl,e5];walk_at "r";refine Bu (SqT.of f5) ?_;walk_at "r";rw[show(if x.2.2.1.cps.toList<x.2.2.2.cps.toList then x.2.2.2 else x.2.2.1)=ya x.2.2.1 x.2.2.2 from rfl];refine C5 (λh1=>?_) (λh1=>?_)
   .walk_at "r";refine⟨h9 (by rw[Gs];have:=zg (p:=λx:Str×F2=>decide (ya x.2.2.1 x.2.2.2=n)) (s:=Pc.ts) (i:=i);lia),hN' _ _ ⟨s3.trans (m4.trans m5),?_⟩⟩;rw[DR hx (Hf h1),Gy];rfl
   .exact hN' _ _ ⟨s3.trans (m4.trans m5),by rw[Ec hx (Hc h1)]⟩
  .rintro out H3 ⟨s3,rfl⟩;refine⟨⟨s3 _ _ b7,Gv _⟩,λD hD=>⟨h9 (by rw[Gs];have:=zg (p:=λx:Str×F2=>decide (ya x.2.2.1 x.2.2.2=n)) (s:=Pc.ts) (i:=kvs.length);lia),?_⟩⟩;rw[GD (by lia)];change Q3 _ _ _ (thaw q (p0 H3 D (.lst ((aQ Pc.ts n).map λx=>V.str x.1)))) _;have sM:=K3 X2.hq s3 hD (u:= .lst ((aQ Pc.ts n).map λx=>V.str x.1));have fM:=Z0 s3 hD (u:= .lst ((aQ Pc.ts n).map λx=>V.str x.1));generalize thaw q (p0 H3 D (.lst ((aQ Pc.ts n).map λx=>V.str x.1)))=HM at sM fM⊢;have XM:=X2.same sM;have Rb:∀x∈aQ Pc.ts n,x∈Pc.ts:=λx hx=>(GR.mp hx).1;have Rc:(aQ Pc.ts n).length<=30:=He (GI _ _) (by lia);generalize aQ Pc.ts n=due at fM Rb Rc he k;walk_at "r";refine A0 (SqL.of fM) ?_;refine u4 (n:=due.length) (λi out H'=>Same HM H'/\LsAt H' out ((due.take i).map λx=>qc W gt fx x.1 (x.2.1,i6 (i9 (mm++[(n,im)])) x.2.2.1,i6 (i9 (mm++[(n,im)])) x.2.2.2))) ⟨Same.refl _,.nil⟩ (λi out H' hi hp=>⟨_,.str (due[i]).1,SqL.of (hp.1 _ _ fM),by rw[Gx,Gu hi];rfl⟩) ?_ ?_
   .rintro N i v out H4' H4 hi ⟨s4,ls⟩ y hN';obtain⟨rfl,hy⟩:=Itl.get y (SqL.of (s4 _ _ fM));rw[Gx] at hy;obtain⟨x,hx,rfl⟩:=Hr.mp hy;have LB:=GJ hx;walk_at "r";refine⟨rfl,?_⟩;walk_at "r";refine⟨a,p,q,c,pl,l1,kvs,s_,e_,_,L,Pc,W,s1,s2,gp,gt,fx,x,rfl,XM.same s4,Rb x LB,.inl (s4 _ _ (sM _ _ f2)),kx (he x LB).1,kx (he x LB).2,λv H5 m5 hv=>?_⟩;have Pd:=Hn ls;rw[Gs,GC] at Pd;refine⟨h9 (by lia),hN' _ _ ⟨s4.trans m5,?_⟩⟩;rw[show due.take (i+1)=due.take i++[x] by rw[Ho,hx];rfl,Gy];exact q8 (LsAt.same ls m5) hv
   .rintro out H4 ⟨s4,ls⟩;have Pd:=Hn ls;rw[Gs,GC] at Pd;refine⟨⟨_,SqL.of (s4 _ _ fM),by rw[Gs];exact Gv _⟩,λD2 hD2=>⟨h9 (by lia),?_⟩⟩;rw[GD (Gv _)] at ls;obtain⟨H5,e5,f5,m5,_⟩:=b4 (H:=H4) (o:= .lst out) hD2;change rW _ (p0 H4 D2 _) _;rw[e5];walk_at "r";exact⟨D2,out,_,rfl,f5,LsAt.same ls m5,by rw[Gs];lia,λH6 m6=>k H6 (m2.trans (sM.trans (s4.trans (m5.trans m6))))⟩
def jl (K:Qc):Sp:=λvs H Q _=>∃(a p q c pl bl:Addr) (kvs s_ e_:List (j0×V)) (L:Str->Str->Bool) (Pc W:A6) (s1 s2 gp gt:List Str) (fx:List (Str×Str)) (b:List Str),vs=[.ref a,.ref c,.ref pl,.ref bl]/\Sx K H a p q c pl kvs s_ e_ L Pc W s1 s2 gp gt fx/\H bl=some (.lst (b.map V.str))/\b.length<(s1++s2).length/\xy H Q λss=>ss=R1 L Pc W gp gt fx (s1++s2) b
abbrev nS (P:Program)(w:World)(K:Qc)(mg:Str->Option Value)(base:Heap):Prop:=O4 P w K mg base C2 4 "images" ["piece","choices","places","begun"] [] (jl K)
theorem sO {f:Addr}{fd:FuncData}(T:Txt K mg)(x8:K2 P w K mg base)(F0:W5 P w K mg base)(bY:gu P w K mg base)(F:Fun K "images" "images" iH f fd):A3 P w K mg base C2 4 f fd ["piece","choices","places","begun"] (jl K):=by
 refine F.ok sc_images (λvs H Q E h=>?_) (λd_ A outer s H vs Q E hr h=>?_)
 .obtain⟨a,p,q,c,pl,bl,kvs,s_,e_,L,Pc,W,s1,s2,gp,gt,fx,b,rfl,_⟩:=h;rfl
 .obtain⟨a,p,q,c,pl,bl,kvs,s_,e_,L,Pc,W,s1,s2,gp,gt,fx,b,rfl,X0,hb,Ua,k⟩:=h;have S:=X0.S;have nn:=S.nn;have NV:=S.o.len;have l1:=X0.l1;have l2:=X0.l2;have Wx:gt.length<=30:=by rw[S.o'.p2.length_eq,Gs];rw[A4] at l2;lia
  have TU:gp.length<=30:=by rw[S.o'.p1.length_eq,Gs];rw[A4] at l2;lia
  obtain⟨n,hn⟩:∃n,(s1++s2)[b.length]?=some n:=⟨_,Gu Ua⟩
  have hN:=sc_images.nd;have hu:=u9 hr;refine⟨_,QSs.r (x6 (j8 (i:=4) hN rfl (by walk_at "l") (qC x8 (hr.mono (by decide)) j7 (j3 (qV 0) j6)))
   (x6 (j8 (i:=5) hN rfl (by walk_at "l") (k9 (l0 K hu) (qV 4) (qB (C6 K P w) T.b_len Boot.«len» (j3 (qV 3) j6)) (λ_ _=>rfl)))
   (x6 (j8 (i:=6) hN rfl (by walk_at "l") (FE K T.b_dict T.b_zip rfl (j3 (qV 4) (j3 (qV 3) j6))))
   (x6 (bC (x5 (kIn K hu) (qV 5) (k9 (l0 K hu) (qV 0) d8 (λ_ _=>rfl)) (by rfl)) (A7 (A1 (E4 (own:=["image"]) (js:=[3]) (by kernel_rfl) rfl (Q4 K (qC F0 (hr.mono (by decide)) j7 (j3 (qV 0) (j3 (qV 2) (j3 (qV 6) (j3 (qV 5) j6)))))) (λ_ _ _ _=>(F9 (i:=0) (show List.Nodup (["image","begun"]:List Str) by decide+kernel) rfl (by walk_at "l"))) (λ_ _ _ _=>(gP (x5 (bg K hu) (qV 0) (qV 1) (by rfl)))) (λ_ _ _ _=>(qV 0))))) cF)
   (x6 (cR (i:=7) hN rfl (by walk_at "l") (own:=["image"]) (js:=[3]) (by kernel_rfl) rfl (Q4 K (k9 (l0 K hu) (qV 1) (qV 5) (λ_ _=>rfl))) (λ_ _ _ _=>(F9 (i:=0) (show List.Nodup (["image","begun"]:List Str) by decide+kernel) rfl (by walk_at "l"))) (λ_ _ _ _=>(gP (x5 (bg K hu) (qV 0) (qV 1) (by rfl)))) (λ_ _ _ _=>(qV 0)))
   (A7 (A1 (E4 (own:=["image"]) (js:=[0,2,6,5]) (by kernel_rfl) rfl (Q4 K (qV 7)) (λ_ _ _ _=>(F9 (i:=0) (show List.Nodup (["image","piece","places","put","name"]:List Str) by decide+kernel) rfl (by walk_at "l"))) (λ_ _ _ _=>(gP (U4 K (qC bY (hr.mono (by decide)) j7 (j3 (qV 1) (j3 (qV 2) (j3 (qV 3) (j3 (qV 4) (j3 (qV 0) j6))))))))) (λ_ _ _ _=>(qV 0)))))))))),?_⟩
  walk_at "r";refine⟨a,p,q,kvs,Pc,rfl,X0.at_,by lia,λln H1 r1 r2 n1 m1 f1 or=>?_⟩;have Rf:r1=s1:=E5 or.o1 S.o.o1 (or.p1.nodup_iff.mpr (E6 S.nd)) (or.p1.trans S.o.p1.symm);have Rg:r2=s2:=E5 or.o2 S.o.o2 (or.p2.nodup_iff.mpr (K4 S.nd)) (or.p2.trans S.o.p2.symm);subst Rf Rg;walk_at "r";refine C3 (x9 (SqL.of (m1 _ _ hb)) ?_);rw[Gs];refine i8 (SqL.of f1) (i:=(b.length:Int)) (v:= .str n) (b5 (j:=b.length) (by rw[Gx,hn];rfl)) ?_;walk_at "r";refine⟨ln,bl,(r1++r2).map Sum.inr,b.map V.str,rfl,by rw[←qK];exact SqL.of f1,SqL.of (m1 _ _ hb),λd nd=>?_⟩;rw[lU nn];obtain⟨H2,e2,f2,m2,_⟩:=b4 (o:= .dK (i9 ((r1++r2).zip b))) nd;rw[e2];have MJ:=m1.trans m2;have X2:=X0.same MJ;have LY:=MJ _ _ hb;walk_at "r";refine b0 X2.at_.tup (b5 (j:=1) rfl) ?_;walk_at "r";refine P0 (G3 (k:=Sum.inr n) X2.at_.ties) ?_;rw[X7 X2.at_.ts];walk_at "r";have Na:∀(p:Str->Bool) (l:List Str),l.length<=30->∀i,((l.take i).filter p).length<=1000:=λp l hl i=>He eB (by lia);refine C5 (λh1=>?_) (λh1=>?_)
  .have hle:r1.length<=b.length:=by
    rcases S.is1 hn with⟨z,_⟩|⟨_,z⟩
    .exact absurd h1 z
    .exact z
   have k_:=aZ h1;have he:=S.ends _ k_;obtain⟨j1,Wr,OV⟩:=S.pt_idx he.1;obtain⟨j2,Ws,OY⟩:=S.pt_idx he.2;walk_at "r";refine⟨a,p,q,c,pl,d,kvs,s_,e_,_,L,Pc,W,r1,r2,gp,gt,fx,(n,E3 Pc.ts n),rfl,X2,k_,.inl f2,kx (kN OV (by lia)),kx (kN OY (by lia)),λv H3 m3 hv=>?_⟩;obtain⟨lv,rfl,G_⟩:=hv;have Yq:qc W gt fx n ((E3 Pc.ts n).1,i6 (i9 ((r1++r2).zip b)) (E3 Pc.ts n).2.1,i6 (i9 ((r1++r2).zip b)) (E3 Pc.ts n).2.2)=rX W gt fx (r1++r2) b (n,E3 Pc.ts n):=rfl;dsimp only at G_;rw[Yq] at G_;have x_:(rX W gt fx (r1++r2) b (n,E3 Pc.ts n)).length<=30:=He (GI _ _) Wx;generalize Ud:rX W gt fx (r1++r2) b (n,E3 Pc.ts n)=tc at G_ x_;refine A0 (SqL.of G_) ?_;refine u4 (n:=tc.length) (λi out H'=>Same H3 H'/\out=((tc.take i).filter λx=>!decide (x∈b)).map V.str) ⟨Same.refl _,rfl⟩ (λi out H' hi hp=>⟨_,.str (tc[i]),SqL.of (hp.1 _ _ G_),by rw[Gx,Gu hi];rfl⟩) ?_ ?_
   .rintro N i v out H4' H4 hi ⟨s4,rfl⟩ y hN';obtain⟨rfl,hy⟩:=Itl.get y (SqL.of (s4 _ _ G_));rw[Gx] at hy;obtain⟨x,hx,rfl⟩:=Hr.mp hy;walk_at "r";refine⟨rfl,?_⟩;walk_at "r";refine Q9 (gs:=b) (SqL.of (s4 _ _ (m3 _ _ LY))) ?_;walk_at "r";refine V5 (λh2=>?_) (λh2=>?_)
    .walk_at "r";refine⟨h9 (by rw[Gs];exact Na _ _ x_ _),hN' _ _ ⟨s4,?_⟩⟩;rw[sD hx h2,Gy];rfl
    .exact hN' _ _ ⟨s4,by rw[nZ hx h2]⟩
   .rintro out H4 ⟨s4,rfl⟩;refine⟨⟨_,SqL.of (s4 _ _ G_),by rw[Gs];exact Gv _⟩,λD hD=>⟨h9 (by rw[Gs];exact Na _ _ x_ _),?_⟩⟩;rw[GD (Gv _)];obtain⟨H5,e5,f5,m5,_⟩:=b4 (H:=H4) (o:= .lst ((tc.filter λx=>!decide (x∈b)).map V.str)) hD;show Q _ (p0 H4 D _);rw[e5];refine k D H5 _ (MJ.free (m3.free (s4.free hD))) (MJ.trans (m3.trans (s4.trans m5))) f5 ?_;unfold R1;rw[hn];dsimp only;rw[if_pos h1,Ud]
  .have j':b.length<r1.length:=by
    rcases S.is1 hn with⟨_,z⟩|⟨z,_⟩
    .exact z
    .exact absurd z h1
   have hm:n∈Pc.pts.map (·.1):=by
    rcases GO.mp (S.o.mem.mp (GJ hn)) with z|z
    .exact z
    .exact absurd z h1
   obtain⟨y,hy,ey⟩:=Gw.mp hm;obtain⟨v,hv,lv,rfl,G_⟩:=gm (R:=λv (x:Str×Str)=>LstAt H2 v (oA L gp fx x.1)) (show Paired _ _ _ from X2.ch) (E6 S.nd) hy;rw[ey] at hv G_;have x_:(oA L gp fx n).length<=30:=He (GI _ _) (He (GI _ _) TU);generalize Ud:oA L gp fx n=tc at G_ x_;walk_at "r";refine B6 (v:= .ref lv) (by have z:=G3 (k:=Sum.inr n) (.inl X2.hc);rw[hv] at z;exact z) ?_;refine A0 (SqL.of G_) ?_;refine u4 (n:=tc.length) (λi out H'=>Same H2 H'/\out=((tc.take i).filter λx=>!decide (x∈b)).map V.str) ⟨Same.refl _,rfl⟩ (λi out H' hi hp=>⟨_,.str (tc[i]),SqL.of (hp.1 _ _ G_),by rw[Gx,Gu hi];rfl⟩) ?_ ?_
   .rintro N i v out H4' H4 hi ⟨s4,rfl⟩ y hN';obtain⟨rfl,hy⟩:=Itl.get y (SqL.of (s4 _ _ G_));rw[Gx] at hy;obtain⟨x,hx,rfl⟩:=Hr.mp hy;walk_at "r";refine⟨rfl,?_⟩;walk_at "r";refine Q9 (gs:=b) (SqL.of (s4 _ _ LY)) ?_;walk_at "r";refine V5 (λh2=>?_) (λh2=>?_)
    .walk_at "r";refine⟨h9 (by rw[Gs];exact Na _ _ x_ _),hN' _ _ ⟨s4,?_⟩⟩;rw[sD hx h2,Gy];rfl
    .exact hN' _ _ ⟨s4,by rw[nZ hx h2]⟩
   .rintro out H4 ⟨s4,rfl⟩;refine⟨⟨_,SqL.of (s4 _ _ G_),by rw[Gs];exact Gv _⟩,λD hD=>⟨h9 (by rw[Gs];exact Na _ _ x_ _),?_⟩⟩;rw[GD (Gv _)];obtain⟨H5,e5,f5,m5,_⟩:=b4 (H:=H4) (o:= .lst ((tc.filter λx=>!decide (x∈b)).map V.str)) hD;have OF:(tc.filter λx=>!decide (x∈b)).length<=30:=He (GI _ _) x_;generalize Yr:(tc.filter λx=>!decide (x∈b))=un at e5 f5 OF⊢;change Q3 _ _ _ (p0 H4 D _) _;rw[e5];have Mj:=s4.trans m5;have X5:=X2.same Mj;walk_at "r";refine A0 (SqL.of f5) ?_;refine u4 (n:=un.length) (λi out H'=>Same H5 H'/\out=((un.take i).filter λim=>vB ((aQ Pc.ts n).map (rX W gt fx (r1++r2) (b++[im])))).map V.str) ⟨Same.refl _,rfl⟩ (λi out H' hi hp=>⟨_,.str (un[i]),SqL.of (hp.1 _ _ f5),by rw[Gx,Gu hi];rfl⟩) ?_ ?_
    .rintro N i v out H6' H6 hi ⟨s6,rfl⟩ y hN';obtain⟨rfl,hy⟩:=Itl.get y (SqL.of (s6 _ _ f5));rw[Gx] at hy;obtain⟨x,hx,rfl⟩:=Hr.mp hy;walk_at "r";refine⟨rfl,?_⟩;walk_at "r";have Od:r1[b.length]=n:=by
      rw[HQ j',Gu j'] at hn;exact GL hn
     have ends:∀t∈aQ Pc.ts n,t.2.2.1∈((r1++r2).zip b++[(n,x)]).map (·.1)/\t.2.2.2∈((r1++r2).zip b++[(n,x)]).map (·.1):=λt ht=>by
      unfold aQ at ht;rw[GR,GS] at ht;have he:=S.ends t ht.1;rw[←dF hn];have q1:¬(r1[b.length].cps.toList<t.2.2.1.cps.toList):=by
       rw[Od,←ht.2];unfold ya;split
       .next z=>exact Lh z
       .exact KQ _
      have q2:¬(r1[b.length].cps.toList<t.2.2.2.cps.toList):=by
       rw[Od,←ht.2];unfold ya;split
       .exact KQ _
       .next z=>exact z
      obtain⟨j1,a1,b1⟩:=fZ S j' he.1 q1;obtain⟨j2,a2,b2⟩:=fZ S j' he.2 q2;exact⟨kN b1 (by rw[GF,Hb];lia),kN b2 (by rw[GF,Hb];lia)⟩
     refine⟨a,p,q,c,pl,d,kvs,s_,e_,L,Pc,W,r1,r2,gp,gt,fx,(r1++r2).zip b,n,x,rfl,X5.same s6,s6 _ _ (Mj _ _ f2),by rw[JZ];lia,rj nn hn,ends,λH7 m7=>?_⟩;have Ys:((aQ Pc.ts n).map λt=>qc W gt fx t.1 (t.2.1,i6 (i9 ((r1++r2).zip b++[(n,x)])) t.2.2.1,i6 (i9 ((r1++r2).zip b++[(n,x)])) t.2.2.2))=(aQ Pc.ts n).map (rX W gt fx (r1++r2) (b++[x])):=by
      rw[←dF hn];rfl
     rw[Ys];walk_at "r";refine V5 (λh2=>?_) (λh2=>?_)
     .walk_at "r";refine⟨h9 (by rw[Gs];exact Na _ _ OF _),hN' _ _ ⟨s6.trans m7,?_⟩⟩;rw[sD hx h2,Gy];rfl
     .exact hN' _ _ ⟨s6.trans m7,by rw[nZ hx h2]⟩
    .rintro out H6 ⟨s6,rfl⟩;refine⟨⟨_,SqL.of (s6 _ _ f5),by rw[Gs];exact Gv _⟩,λD2 hD2=>⟨h9 (by rw[Gs];exact Na _ _ OF _),?_⟩⟩;rw[GD (Gv _)];obtain⟨H7,e7,f7,m7,_⟩:=b4 (H:=H6) (o:= .lst ((un.filter λim=>vB ((aQ Pc.ts n).map (rX W gt fx (r1++r2) (b++[im])))).map V.str)) hD2;show Q _ (p0 H6 D2 _);rw[e7];refine k D2 H7 _ (MJ.free (Mj.free (s6.free hD2))) (MJ.trans (Mj.trans (s6.trans m7))) f7 ?_;unfold R1;rw[hn];dsimp only;rw[if_neg h1,Ud,Yr]
def ndL (img:List Str->List Str):Nat->List Str->Nat
 |0,_=>1
 |k+1,b=>1+((img b).map λx=>ndL img k (b++[x])).sum
theorem uP {α:Type}{f:α->Nat}{B:Nat}:∀{l:List α},(∀x∈l,f x<=B)->(l.map f).sum<=l.length*B
 |[],_=>by simp
 |x::l,h=>by
  have z:=uP (l:=l) λy hy=>h y (GY _ hy);have z1:=h x Hg;rw[Hu,Li,HF,NR];lia
theorem AZ {img:List Str->List Str}{k:Nat}{b:List Str}:1<=ndL img k b:=by
 cases k with
 |zero=>exact Gv _
 |succ k=>show 1<=1+_;lia
theorem qx {α:Type}{f:α->Nat}:∀{l:List α},(∀x∈l,1<=f x)->l.length<=(l.map f).sum
 |[],_=>Gv _
 |x::l,h=>by
  have z:=qx (l:=l) λy hy=>h y (GY _ hy);have z1:=h x Hg;rw[Hu,Li,HF];lia
theorem qN {L:Str->Str->Bool}{Pc W:A6}{s1 s2 gp gt:List Str}{fx:List (Str×Str)}(S:SrchP L Pc W s1 s2 gp gt fx)(b:List Str):(R1 L Pc W gp gt fx (s1++s2) b).length<=max W.pts.length W.ts.length:=by
 have h1:=S.o'.p1.length_eq;have h2:=S.o'.p2.length_eq;rw[Gs] at h1 h2;unfold R1;split
 .simp
 .split
  .exact He (GI _ _) (He (GI _ _) (by lia))
  .exact He (GI _ _) (He (GI _ _) (He (GI _ _) (He (GI _ _) (by lia))))
theorem qy {c:Str}:∀{l:List Str},l.Nodup->(∀x∈l,x=c)->l.length<=1
 |[],_,_=>IA _
 |[_],_,_=>Gv _
 |x::y::l,nd,h=>by
  have e1:=h x (by simp);have e2:=h y (by simp);rw[e1,e2] at nd;exact absurd Hg (Hs.mp nd).1
theorem xi {L:Str->Str->Bool}{Pc W:A6}{s1 s2 gp gt:List Str}{fx:List (Str×Str)}(S:SrchP L Pc W s1 s2 gp gt fx){b:List Str}{n:Str}(hn:(s1++s2)[b.length]?=some n)(hf:n∈fx.map (·.1)):(R1 L Pc W gp gt fx (s1++s2) b).length<=1:=by
 have O':gp.Nodup:=S.o'.p1.nodup_iff.mpr (E6 S.nd');have ndt:gt.Nodup:=S.o'.p2.nodup_iff.mpr (K4 S.nd');have hm:∀im,K9 fx n im=true->im=i6 (i9 fx) n:=λim h=>by
  unfold K9 at h;rw[if_pos hf] at h;exact HI h
 unfold R1;rw[hn];show(if _ then _ else _:List Str).length<=1;split
 .refine qy (c:=i6 (i9 fx) n) ((ndt.sublist HK).sublist HK) λx hx=>?_;have z:=(GR.mp (GR.mp hx).1).2;exact hm x (Bool.and_eq_true_iff.mp z).2
 .refine qy (c:=i6 (i9 fx) n) ((((O'.sublist HK).sublist HK).sublist HK).sublist HK) λx hx=>?_;exact hm x (GR.mp (GR.mp (GR.mp hx).1).1).2
theorem wO {L:Str->Str->Bool}{Pc W:A6}{s1 s2 gp gt:List Str}{fx:List (Str×Str)}(S:SrchP L Pc W s1 s2 gp gt fx):∀(k:Nat) (b:List Str),b.length+k=(s1++s2).length->ndL (R1 L Pc W gp gt fx (s1++s2)) k b<=(k+1)*(max W.pts.length W.ts.length+1) ^ (((s1++s2).drop b.length).filter (fg fx)).length
 |0,b,_=>by
  show 1<=_;rw[Nat.zero_add,Nat.one_mul];exact Nat.one_le_pow _ _ (by lia)
 |k+1,b,hk=>by
  obtain⟨n,hn⟩:∃n,(s1++s2)[b.length]?=some n:=⟨_,Gu (by lia)⟩
  have hd:(s1++s2).drop b.length=n::(s1++s2).drop (b.length+1):=by
   rw[HS (by lia)];rw[Gu (by lia)] at hn;rw[GL hn]
  have hM:=qN S b;generalize Yt:max W.pts.length W.ts.length=M at*;have ih:∀x∈R1 L Pc W gp gt fx (s1++s2) b,ndL (R1 L Pc W gp gt fx (s1++s2)) k (b++[x])<=(k+1)*(M+1) ^ (((s1++s2).drop (b.length+1)).filter (fg fx)).length:=λx _=>by
   have z:=wO S k (b++[x]) (by rw[GF,Hb];lia);rw[GF,Hb,Yt] at z;exact z
  have z:=uP (f:=λx=>ndL (R1 L Pc W gp gt fx (s1++s2)) k (b++[x])) ih;have z2:1<=(M+1) ^ (((s1++s2).drop (b.length+1)).filter (fg fx)).length:=Nat.one_le_pow _ _ (by lia);show 1+_<=(k+1+1)*_;rw[hd,Jn];generalize hc:(((s1++s2).drop (b.length+1)).filter (fg fx)).length=c at*;by_cases hf:n∈fx.map (·.1)
  .have h1:=xi S hn hf;rw[if_neg (by unfold fg;simp [hf]),hc];have z3:(R1 L Pc W gp gt fx (s1++s2) b).length*((k+1)*(M+1) ^ c)<=1*((k+1)*(M+1) ^ c):=Me _ h1;rw[NR (k+1) 1];lia
  .rw[if_pos (by unfold fg;simp [hf]),HF,hc,Nat.pow_succ];have z3:(R1 L Pc W gp gt fx (s1++s2) b).length*((k+1)*(M+1) ^ c)<=M*((k+1)*(M+1) ^ c):=Me _ hM;have e1:(k+1+1)*((M+1) ^ c*(M+1))=M*((k+1)*(M+1) ^ c)+((k+1)*(M+1) ^ c+((M+1) ^ c*(M+1))):=by
    rw[NR (k+1) 1,Nat.one_mul,←Nat.mul_assoc (k+1),Nat.mul_add ((k+1)*(M+1) ^ c) M 1,Nat.mul_one,Nat.mul_comm ((k+1)*(M+1) ^ c) M];lia
   rw[e1];have z4:1<=(k+1)*(M+1) ^ c:=Nat.mul_pos (by lia) z2;lia
def wZ (mo:Option Nat)(rows:List (List Str)):List (List Str):=match mo with
 |none=>rows
 |some k=>rows.take k
def FY (mo:Option Nat)(n:Int):Bool:=match mo with
 |none=>true
 |some k=>!decide (n=(k:Int))
def Bh (mv:V)(mo:Option Nat):Prop:=(mv= .non/\mo=none)\/(mv= .int 1/\mo=some 1)
def LoAt (H:Hp)(t w:Addr)(xs:List V)(ls:List (List Str)):Prop:=Paired (λv l=>∃a,v=V.ref a/\a≠t/\a≠w/\H a=some (.lst (l.map V.str))) xs ls
theorem LoAt.same {H H':Hp}{t w:Addr}{xs:List V}{ls:List (List Str)}(h:LoAt H t w xs ls)(s:Same H H'):LoAt H' t w xs ls:=Paired.imp' (λ_ _ ⟨a,e,n,m,z⟩=>⟨a,e,n,m,s _ _ z⟩) h
theorem LoAt.upT {H:Hp}{t w:Addr}{xs:List V}{ls:List (List Str)}{u:HO}(h:LoAt H t w xs ls):LoAt (p0 H t u) t w xs ls:=Paired.imp' (λ_ _ ⟨a,e,n,m,z⟩=>⟨a,e,n,m,by rw[b9 n];exact z⟩) h
theorem LoAt.upW {H:Hp}{t w:Addr}{xs:List V}{ls:List (List Str)}{u:HO}(h:LoAt H t w xs ls):LoAt (p0 H w u) t w xs ls:=Paired.imp' (λ_ _ ⟨a,e,n,m,z⟩=>⟨a,e,n,m,by rw[b9 m];exact z⟩) h
theorem cO {α β:Type}{F:α->β->Prop}:∀{xs:List α} {ls:List β},Paired F xs ls->xs≠[]->∃Si x Sj l,xs=Si++[x]/\ls=Sj++[l]/\Paired F Si Sj/\F x l
 |_,_,.nil,h=>absurd rfl h
 |[x],[l],.cons a .nil,_=>⟨[],x,[],l,rfl,rfl,.nil,a⟩
 |x::y::xs,l::m::ls,.cons a t,_=>by
  obtain⟨Si,x',Sj,l',e1,e2,h1,h2⟩:=cO t (by simp);exact⟨x::Si,x',l::Sj,l',by rw[e1];rfl,by rw[e2];rfl,.cons a h1,h2⟩
structure LI (mo:Option Nat) (K:Qc) (img:List Str->List Str) (n:Nat) (H0 H':Hp) (tl wl:Addr) (xt xw:List V) (rows bs:List (List Str)) (m:Nat):Prop where
 s:Same H0 H'
 ht:H' tl=some (.lst xt)
 hw:H' wl=some (.lst xw)
 lt:LoAt H' tl wl xt rows
 lw:LoAt H' tl wl xw bs
 bl:∀b∈bs,b.length<=n
 sum:m=(bs.map λb=>ndL img (n -b.length) b).sum
 all:rows++bs.reverse.flatMap (λb=>eI img (n -b.length) b)=eI img n []
 big:rows.length+m<=1000000
 le1:mo=some 1->rows.length<=1
def ni (K:Qc):Sp:=λvs H Q _=>∃(a p q c pl:Addr) (kvs s_ e_:List (j0×V)) (L:Str->Str->Bool) (Pc W:A6) (s1 s2 gp gt:List Str) (fx:List (Str×Str)) (mv:V) (mo:Option Nat),vs=[.ref a,.ref c,.ref pl,mv]/\Bh mv mo/\Sx K H a p q c pl kvs s_ e_ L Pc W s1 s2 gp gt fx/\
 ∀(l:Addr) (H':Hp) (xs:List V),H l=none->Same H H'->H' l=some (.lst xs)->LsAt H' xs (wZ mo (gJ Pc W s1 s2 gp gt fx))->(gJ Pc W s1 s2 gp gt fx).length<=1000000->Q (.ref l) H'
theorem kS {n:Nat}(h:n<=2000000):n<sizeLine:=My h (by decide)
theorem kQ {H:Hp}{Q:VK}{i:Int}(q:Q (.bl true) H):ql K (.int i) .non H Q:= .inl (.inl (.inl ⟨rfl,by simpa using q⟩))
theorem rY {H:Hp}{Q:VK}{i:Int}{mv:V}{mo:Option Nat}(h:Bh mv mo)(q:Q (.bl (FY mo i)) H):ql K (.int i) mv H Q:=by
 rcases h with⟨rfl,rfl⟩|⟨rfl,rfl⟩
 .exact kQ q
 .exact nA q
theorem pS {img:List Str->List Str}:∀{k:Nat} {b:List Str},(eI img k b).length<=ndL img k b
 |0,_=>Gv _
 |k+1,b=>by
  show((img b).flatMap λx=>eI img k (b++[x])).length<=1+((img b).map λx=>ndL img k (b++[x])).sum;rw[List.length_flatMap];have z:((img b).map λx=>(eI img k (b++[x])).length).sum<=((img b).map λx=>ndL img k (b++[x])).sum:=by
   generalize img b=l;induction l with
   |nil=>exact Gv _
   |cons x l ih=>
    rw[Hu,Hu,Li,Li]
    exact Nat.add_le_add pS ih
  lia
abbrev qR (P:Program)(w:World)(K:Qc)(mg:Str->Option Value)(base:Heap):Prop:=O4 P w K mg base C2 5 "lines" ["piece","choices","places","most"] [] (ni K)
theorem vJ {f:Addr}{fd:FuncData}(T:Txt K mg)(x8:K2 P w K mg base)(iu:nS P w K mg base)(F:Fun K "lines" "lines" kJ f fd):A3 P w K mg base C2 5 f fd ["piece","choices","places","most"] (ni K):=by
 refine F.ok sc_lines (λvs H Q E h=>?_) (λd_ A outer s H vs Q E hr h=>?_)
 .obtain⟨a,p,q,c,pl,kvs,s_,e_,Lr,Pc,W,s1,s2,gp,gt,fx,mv,mo,rfl,_⟩:=h;rfl
 .obtain⟨a,p,q,c,pl,kvs,s_,e_,Lr,Pc,W,s1,s2,gp,gt,fx,mv,mo,rfl,PQ,X0,k⟩:=h;have S:=X0.S;have NV:=S.o.len;have l1:=X0.l1;have l2:=X0.l2;have Yu:=l2;rw[A4] at Yu;have Pe:=uJ S;have hM:=qN S;have Ue:=wO S (s1++s2).length [] (by simp);have NH:=X0.big;rw[←NV,←(S.o.perm.filter (fg fx)).length_eq] at NH;rw[show([]:List Str).length=0 from rfl,KO] at Ue;have hN:=sc_lines.nd;have hu:=u9 hr;refine⟨_,QSs.r (x6 (j8 (i:=4) hN rfl (by walk_at "l") (qC x8 (hr.mono (by decide)) j7 (j3 (qV 0) j6)))
   (x6 (j8 (i:=5) hN rfl (by walk_at "l") (dn j6))
   (x6 (j8 (i:=6) hN rfl (by walk_at "l") (dn (j3 (dn j6) j6)))
   (x6 (Br Ht (sL (dM (U4 K (qV 6)) (cn (x5 (ir K hr) (qB (C6 K P w) T.b_len Boot.«len» (j3 (qV 5) j6)) (qV 3) (p7 _))))) (x6 (j8 (i:=7) hN rfl (by walk_at "l") (DE HP PySem.F.slot_list_pop PySem.F.type_list_pop lG K (qV 6)))
   (A7 (bC (x5 (M9 K hr) (qB (C6 K P w) T.b_len Boot.«len» (j3 (qV 7) j6)) (qB (C6 K P w) T.b_len Boot.«len» (j3 (qV 4) j6)) (p7 _)) (A7 (uC (qM HP HY HZ B0 K (qV 5) (j3 (qV 7) j6)))) (A7 (Q1 Ht rfl (nE K T.b_reversed (j3 (qC iu (hr.mono (by decide)) j7 (j3 (qV 0) (j3 (qV 1) (j3 (qV 2) (j3 (qV 7) j6))))) j6)) (F9 (i:=8) hN rfl (by walk_at "l"))
    (A7 (uC (qM HP HY HZ B0 K (qV 6) (j3 (B1 (F4 K) (qV 7) (dn (j3 (qV 8) j6))) j6))))))))))
   (A7 (A1 (qV 5))))))),?_⟩
  walk_at "r";refine⟨a,p,q,kvs,Pc,rfl,X0.at_,by lia,λln H1 r1 r2 n1 m1 f1 or=>?_⟩;have Rf:r1=s1:=E5 or.o1 S.o.o1 (or.p1.nodup_iff.mpr (E6 S.nd)) (or.p1.trans S.o.p1.symm);have Rg:r2=s2:=E5 or.o2 S.o.o2 (or.p2.nodup_iff.mpr (K4 S.nd)) (or.p2.trans S.o.p2.symm);subst Rf Rg;walk_at "r";refine⟨h9 (by simp),λtl ntl=>?_⟩;obtain⟨H2,e2,f2,m2,_⟩:=b4 (o:= .lst []) ntl;rw[e2];walk_at "r";refine⟨h9 (by simp),λl3 n3=>?_⟩;obtain⟨H3,e3,f3,m3,_⟩:=b4 (o:= .lst []) n3;rw[e3];walk_at "r";refine⟨h9 (by simp),λwl nwl=>?_⟩;obtain⟨H4,e4,f4,m4,_⟩:=b4 (o:= .lst [.ref l3]) nwl;rw[e4];walk_at "r";have Sk:=m4 _ _ (m3 _ _ f2);have Yv:=m4 _ _ f3;have Yw:l3≠tl:=(j4 f2 n3).symm;have Yx:l3≠wl:=j4 f3 nwl;have Ug:tl≠wl:=j4 (m3 _ _ f2) nwl;have PU:=m2.trans (m3.trans m4);have Rh:H1 wl=none:=m2.free (m3.free nwl);generalize hN:(r1++r2).length=n at*;generalize Uh:R1 Lr Pc W gp gt fx (r1++r2)=img at*;refine⟨λm σ H'=>∃(xt xw:List V) (rows bs:List (List Str)) (v1 v2:Option V),σ=[some (.ref a),some (.ref c),some (.ref pl),some mv,some (.ref ln),some (.ref tl),some (.ref wl),v1,v2]/\LI mo K img n H1 H' tl wl xt xw rows bs m,⟨_,[],[.ref l3],[],[[]],none,none,rfl,⟨PU,Sk,f4,.nil,.cons ⟨l3,rfl,Yw,Yx,Yv⟩ .nil,(λb hb=>by rw[GZ.mp hb];exact IA _),rfl,by simp,?_,λ_=>IA _⟩⟩,?_⟩
  .show 0+(ndL img n []+0)<=1000000;lia
  rintro m σ H5 ⟨xt,xw,rows,bs,v1,v2,rfl,L⟩;have Ri:bs.length<=m:=by rw[L.sum];exact qx λ_ _=>AZ
  have Ox:=Hn L.lw;have OD:=Hn L.lt;have hb5:=L.big;walk_at "r";refine⟨!xw.isEmpty,.inl ⟨_,SqL.of L.hw,rfl⟩,?_⟩;cases Oh:xw.isEmpty with
  |true=>
   walk_at "r"
   have Ui:xw=[]:=by simpa using Oh
   have z_:bs=[]:=by
    have:bs.length=0:=by rw[←Ox,Ui];rfl
    exact Ko this
   have ha:=L.all
   rw[z_] at ha
   simp only[List.reverse_nil,List.flatMap_nil,HX] at ha
   rw[Pe] at ha
   have hle:=L.le1
   refine k tl H5 xt (m1.free ntl) (m1.trans L.s) L.ht ?_ ?_
   .rw[←ha]
    have e:wZ mo rows=rows:=by
     rcases PQ with⟨_,rfl⟩|⟨_,rfl⟩
     .rfl
     .exact GD (hle rfl)
    rw[e]
    exact Paired.imp' (λ_ _ ⟨a,e,_,_,z⟩=>⟨a,e,z⟩) L.lt
   .rw[←ha];lia
  |false=>
   have Uj:xw≠[]:=by
    intro z;rw[z] at Oh;cases Oh
   walk_at "r"
   refine C3 (x9 (SqL.of L.ht) ?_)
   walk_at "r"
   refine rY PQ ?_
   walk_at "r"
   refine V5 (λNS=>?_) (λNS=>?_)
   case refine_2=>
    walk_at "r"
    have o_:=L.all
    rw[Pe] at o_
    have h1:mo=some 1/\rows.length=1:=by
     rcases PQ with⟨_,rfl⟩|⟨_,rfl⟩
     .cases NS
     .refine⟨rfl,?_⟩;have z:(!decide ((xt.length:Int)=((1:Nat):Int)))=false:=NS;simp at z;lia
    have Yy:=pS (img:=img) (k:=n) (b:=[])
    rw[Pe] at Yy
    refine k tl H5 xt (m1.free ntl) (m1.trans L.s) L.ht ?_ (by lia)
    rw[h1.1,←o_]
    show LsAt H5 xt (List.take 1 _)
    rw[List.take_append_of_le_length (by lia),GD (by lia)]
    exact Paired.imp' (λ_ _ ⟨a,e,_,_,z⟩=>⟨a,e,z⟩) L.lt
   have Uk:mo=some 1->rows.length=0:=λe=>by
    have z:=L.le1 e;subst e;have z2:(!decide ((xt.length:Int)=((1:Nat):Int)))=true:=NS;simp at z2;lia
   refine⟨λσ' H'=>∃m',m'<m/\∃(xt xw:List V) (rows bs:List (List Str)) (v1 v2:Option V),σ'=[some (.ref a),some (.ref c),some (.ref pl),some mv,some (.ref ln),some (.ref tl),some (.ref wl),v1,v2]/\LI mo K img n H1 H' tl wl xt xw rows bs m',λσ' H' z=>z,?_⟩
   obtain⟨Nb,xv,PX,b,WE,PY,WG,a5,rfl,Rj,Ul,hb⟩:=cO L.lw Uj
   have Pf:b∈bs:=by rw[PY];simp
   have hbn:=L.bl b Pf
   have Ng:=L.sum
   rw[PY,Gy,Jd] at Ng
   have Od:([b].map λb=>ndL img (n -b.length) b).sum=ndL img (n -b.length) b:=by simp
   rw[Od] at Ng
   have o_:=L.all
   rw[PY,Ms,List.reverse_singleton,List.singleton_append,Jb] at o_
   have Yz:PX.length<=m:=by rw[PY,GF] at Ri;lia
   have YA:=Hn WG
   walk_at "r"
   refine⟨.inl ⟨rfl,_,SqL.of L.hw⟩,?_⟩
   walk_at "r"
   refine⟨wl,xw,.ref a5,rfl,rfl,L.hw,by rw[WE];simp,?_⟩
   rw[show xw.dropLast=Nb by rw[WE];simp]
   have s6:Same H1 (p0 H5 wl (.lst Nb)):=B5 L.s Rh
   have f6:(p0 H5 wl (.lst Nb)) wl=some (.lst Nb):=b7
   have t6:(p0 H5 wl (.lst Nb)) tl=some (.lst xt):=by rw[b9 Ug];exact L.ht
   have b6:(p0 H5 wl (.lst Nb)) a5=some (.lst (b.map V.str)):=by rw[b9 Ul];exact hb
   have Um:LoAt (p0 H5 wl (.lst Nb)) tl wl xt rows:=L.lt.upW
   have Uo:LoAt (p0 H5 wl (.lst Nb)) tl wl Nb PX:=LoAt.upW (show LoAt H5 tl wl Nb PX from WG)
   generalize p0 H5 wl (.lst Nb)=H6 at s6 f6 t6 b6 Um Uo⊢
   walk_at "r"
   refine C3 (x9 (SqL.of b6) ?_)
   rw[Gs]
   walk_at "r"
   refine C3 (x9 (SqL.of (s6 _ _ f1)) ?_)
   rw[Gs,hN]
   walk_at "r"
   refine C5 (λh1=>?_) (λh1=>?_)
   .have NU:b.length=n:=by lia
    walk_at "r"
    refine⟨.inl ⟨rfl,_,SqL.of t6⟩,?_⟩
    walk_at "r"
    refine⟨tl,xt,.ref a5,rfl,rfl,t6,kS (by lia),?_⟩
    rw[NU,Nat.sub_self] at Ng o_
    have e1:ndL img 0 b=1:=rfl
    have e2:eI img 0 b=[b]:=rfl
    rw[e1] at Ng
    rw[e2] at o_
    have Up:H1 tl=none:=ntl
    refine⟨m -1,by lia,xt++[.ref a5],Nb,rows++[b],PX,_,_,rfl,⟨B5 s6 Up,b7,by rw[b9 Ug.symm];exact f6,q8 Um.upT ⟨a5,rfl,Rj,Ul,by rw[b9 Rj];exact b6⟩,Uo.upT,λb' n_=>L.bl b' (by rw[PY];exact GA _ n_),by lia,by rw[Hl];exact o_,by rw[GF,Hb];lia,λe=>by rw[GF,Hb,Uk e];exact Gv _⟩⟩
   .have NU:b.length<n:=by lia
    obtain⟨kk,PC⟩:∃kk,n -b.length=kk+1:=⟨n -b.length -1,by lia⟩
    walk_at "r"
    refine⟨a,p,q,c,pl,a5,kvs,s_,e_,Lr,Pc,W,r1,r2,gp,gt,fx,b,rfl,X0.same (m1.trans s6),b6,by lia,λli H7 ss n7 m7 f7 hss=>?_⟩
    rw[Uh] at hss
    subst hss
    walk_at "r"
    refine⟨li,_,rfl,SqL.of f7,?_⟩
    have TN:=hM b
    have YB:li≠tl:=(j4 t6 n7).symm
    have Uq:li≠wl:=(j4 f6 n7).symm
    refine S8 (n:=(img b).length) (λi σ H'=>∃(Pg:List V) (v2:Option V),σ=[some (.ref a),some (.ref c),some (.ref pl),some mv,some (.ref ln),some (.ref tl),some (.ref wl),some (.ref a5),v2]/\Same H1 H'/\H' li=some (.lst ((img b).map V.str))/\H' tl=some (.lst xt)/\H' wl=some (.lst Pg)/\H' a5=some (.lst (b.map V.str))/\LoAt H' tl wl xt rows/\LoAt H' tl wl Pg (PX++((img b).reverse.take i).map λx=>b++[x])) ⟨Nb,v2,rfl,s6.trans m7,f7,m7 _ _ t6,m7 _ _ f6,m7 _ _ b6,Um.same m7,by simpa using Uo.same m7⟩ (λi σ H' hi hp=>?_) ?_ ?_
    .obtain⟨_,_,_,_,z,_⟩:=hp
     exact⟨SqL.of z,by rw[Gs];exact hi⟩
    .rintro bk i v σ H8' H8 hi ⟨Pg,Ur,rfl,s8,g8,t8,w8,b8,lt8,lw8⟩ ⟨rfl,hv⟩
     rw[Gs] at hv
     have Us:(img b).reverse[i]?=(img b)[(img b).length -1 -i]?:=List.getElem?_reverse hi
     rw[Gx,←Us] at hv
     obtain⟨x,hx,rfl⟩:=Hr.mp hv
     have Wa:=Hn lw8
     rw[GF,Gs,GC] at Wa
     walk_at "r"
     refine⟨.inl ⟨rfl,_,SqL.of w8⟩,?_⟩
     walk_at "r"
     refine⟨h9 (by simp),λl9 n9=>?_⟩
     obtain⟨H9,e9,f9,m9,_⟩:=b4 (o:= .lst [.str x]) n9
     rw[e9]
     refine nQ (m9 _ _ b8) f9 (Ki (h9 (by rw[Gs];simp;lia))) (λRk n10=>?_)
     obtain⟨Rl,Ph,Pj,NW,_⟩:=b4 (o:= .lst (b.map V.str++[.str x])) n10
     rw[Ph]
     have Ml:=m9.trans NW
     have Ut:Rk≠tl:=(j4 (m9 _ _ t8) n10).symm
     have Rm:Rk≠wl:=(j4 (m9 _ _ w8) n10).symm
     walk_at "r"
     refine⟨wl,Pg,.ref Rk,rfl,rfl,Ml _ _ w8,kS (by lia),?_⟩
     refine⟨Pg++[.ref Rk],_,rfl,B5 (s8.trans Ml) Rh,by rw[b9 Uq];exact Ml _ _ g8,by rw[b9 Ug];exact Ml _ _ t8,b7,by rw[b9 Ul];exact Ml _ _ b8,(lt8.same Ml).upW,?_⟩
     rw[Ho,hx,Gy,←Hl]
     refine q8 (lw8.same Ml).upW ⟨Rk,rfl,Ut,Rm,?_⟩
     rw[b9 Rm,Pj,Gy];rfl
    .rintro σ H8 ⟨Pg,Ur,rfl,s8,g8,t8,w8,b8,lt8,lw8⟩
     rw[GD (by rw[List.length_reverse];exact Gv _)] at lw8
     refine⟨by show(img b).length=((img b).map V.str).length;rw[Gs],?_⟩
     rw[PC] at Ng o_
     have e1:ndL img (kk+1) b=1+((img b).map λx=>ndL img kk (b++[x])).sum:=rfl
     have e2:eI img (kk+1) b=(img b).flatMap λx=>eI img kk (b++[x]):=rfl
     rw[e1] at Ng
     rw[e2] at o_
     have ek:∀x:Str,n -(b++[x]).length=kk:=λx=>by rw[GF,Hb];lia
     have eS:(((img b).reverse.map λx=>b++[x]).map λb=>ndL img (n -b.length) b).sum=((img b).map λx=>ndL img kk (b++[x])).sum:=by
      rw[GQ,List.map_reverse,List.sum_reverse];exact Ia List.sum (Iq λx _=>by show ndL img (n -(b++[x]).length) (b++[x])=_;rw[ek x])
     refine⟨m -1,by lia,xt,Pg,rows,PX++(img b).reverse.map λx=>b++[x],_,_,rfl,⟨s8,t8,w8,lt8,lw8,λb' n_=>?_,?_,?_,by lia,L.le1⟩⟩
     .rcases GO.mp n_ with z|z
      .exact L.bl b' (by rw[PY];exact GA _ z)
      .obtain⟨x,_,rfl⟩:=Gw.mp z
       rw[GF,Hb];lia
     .rw[Gy,Jd,eS];lia
     .rw[Ms,←List.map_reverse,List.reverse_reverse,List.flatMap_append,List.flatMap_map]
      rw[←o_]
      congr 1
      congr 1
      exact bZ λx _=>by rw[ek x]
def wU (W:A6):List Str:=pG (W.pts.map (·.1))
def wY (W:A6):List Str:=pG (W.ts.map (·.1))
def tI (W:A6):List Str:=wU W++wY W
noncomputable def I0 (Pc W:A6)(fx:List (Str×Str)):List (List Str):=gJ Pc W (wU Pc) (wY Pc) (wU W) (wY W) fx
theorem bW (W:A6):Ordr W (wU W) (wY W):=⟨eM _,eM _,lK _,lK _⟩
def DcAt (H:Hp)(nm:List Str)(xs:List V)(rows:List (List Str)):Prop:=Paired (λv row=>∃d,v=V.ref d/\H d=some (.dK (i9 (nm.zip row)))) xs rows
theorem DcAt.same {H H':Hp}{nm:List Str}{xs:List V}{rows:List (List Str)}(h:DcAt H nm xs rows)(s:Same H H'):DcAt H' nm xs rows:=Paired.imp' (λ_ _ ⟨d,e,z⟩=>⟨d,e,s _ _ z⟩) h
def Dv (H:Hp)(p q:Addr)(fv:V)(fx:List (Str×Str)):Prop:=(fv= .non/\fx=[])\/∃d,fv= .ref d/\H d=some (.dK (i9 fx))/\d≠p/\d≠q
structure Mx (K:Qc) (H:Hp) (a p q a' p' q':Addr) (kvs c_:List (j0×V)) (Pc W:A6) (fx:List (Str×Str)):Prop where
 P:WebIs 30 K H a p q kvs Pc
 G:WebIs 30 K H a' p' q' c_ W
 big:((d9 Pc).length+1)*(max W.pts.length W.ts.length+1) ^ ((d9 Pc).filter (fg fx)).length<=1000000
 fnd:(fx.map (·.1)).Nodup
 fin:∀x∈fx,x.1∈d9 Pc
structure LkP (K:Qc) (H:Hp) (pl wl:Addr) (e_ u_:List (j0×V)) (L:Str->Str->Bool) (Pc W:A6):Prop where
 hp:H pl=some (.dK e_)
 kp:e_.map (·.1)=(Pc.pts.map (·.1)).map Sum.inr
 hg:Rd H wl (.dK u_)
 kg:u_.map (·.1)=(W.pts.map (·.1)).map Sum.inr
 eq:∀(n:Str) (v:V) (m:Str) (u:V),(Sum.inr n,v)∈e_->p8 u_ (Sum.inr m:j0)=some u->EqA K H u v (L n m)
 ls:∀n x,n∈Pc.pts.map (·.1)->x∈W.pts.map (·.1)->L n x=true->i6 (i9 W.pts) x=i6 (i9 Pc.pts) n
 lc:∀row,cg Pc W (i9 ((tI Pc).zip row))->∀x∈Pc.pts,L x.1 (gv (tI Pc) row x.1)=true
theorem LkP.same {H H':Hp}{pl wl:Addr}{e_ u_:List (j0×V)}{L:Str->Str->Bool}{Pc W:A6}(h:LkP K H pl wl e_ u_ L Pc W)(s:Same H H'):LkP K H' pl wl e_ u_ L Pc W:=⟨s _ _ h.hp,h.kp,s.rd h.hg,h.kg,λn v m u a b=>(h.eq n v m u a b).mono s.le,h.ls,h.lc⟩
def EH (H:Hp)(Q:VK)(mo:Option Nat)(Pc W:A6)(fx:List (Str×Str)):Prop:=∀(l:Addr) (H':Hp) (xs:List V),H l=none->Same H H'->H' l=some (.lst xs)->DcAt H' (tI Pc) xs (wZ mo (I0 Pc W fx))->(I0 Pc W fx).length<=1000000->(∀x∈xs,∃d,x=V.ref d/\H d=none)->Q (.ref l) H'
def mI (K:Qc):Sp:=λvs H Q _=>∃(a p q a' p' q' pl wl:Addr) (kvs c_ e_ u_:List (j0×V)) (L:Str->Str->Bool) (Pc W:A6) (fx:List (Str×Str)) (fv mv:V) (mo:Option Nat),vs=[.ref a,.ref a',.ref pl,.ref wl,fv,mv]/\Mx K H a p q a' p' q' kvs c_ Pc W fx/\LkP K H pl wl e_ u_ L Pc W/\Bh mv mo/\Dv H pl q fv fx/\EH H Q mo Pc W fx
theorem yt {H:Hp}{a p q a' p' q' pl wl:Addr}{kvs c_ e_ u_:List (j0×V)}{L:Str->Str->Bool}{Pc W:A6}{fx:List (Str×Str)}(h:Mx K H a p q a' p' q' kvs c_ Pc W fx)(l:LkP K H pl wl e_ u_ L Pc W):SrchP L Pc W (wU Pc) (wY Pc) (wU W) (wY W) fx:=
 ⟨bW _,bW _,h.P.nd,h.G.nd,h.P.ends,h.fnd,h.fin,l.ls,l.lc⟩
theorem zd {H:Hp}{F:Str×Str->List Str}:∀{kvs:List (j0×V)} {pts:List (Str×Str)},ChAt H F kvs pts->LsAt H (kvs.map (·.2)) (pts.map F)
 |_,_,.nil=> .nil
 |_,_,.cons a t=> .cons a.2 (zd t)
theorem Mx.same {H0 H1:Hp}{a p q a' p' q':Addr}{kvs c_:List (j0×V)}{Pc W:A6}{fx:List (Str×Str)}(h:Mx K H0 a p q a' p' q' kvs c_ Pc W fx)(s:Same H0 H1):Mx K H1 a p q a' p' q' kvs c_ Pc W fx:=⟨h.P.same s,h.G.same s,h.big,h.fnd,h.fin⟩
theorem yP {mo:Option Nat}{rows:List (List Str)}:(wZ mo rows).length<=rows.length:=by
 cases mo with
 |none=>exact Gv _
 |some k=>exact List.length_take_le' _ _
def Cp (Pc W:A6)(n m:Str):Bool:=decide (i6 (i9 W.pts) m=i6 (i9 Pc.pts) n)
theorem yl {H:Hp}{a p q a' p' q':Addr}{kvs c_:List (j0×V)}{Pc W:A6}{fx:List (Str×Str)}(M:Mx K H a p q a' p' q' kvs c_ Pc W fx):LkP K H p p' (i9 Pc.pts) (i9 W.pts) (Cp Pc W) Pc W:=by
 refine⟨M.P.hp,by rw[B7,r6],M.G.at_.pts,by rw[B7,r6],λn v m u h1 h2=>?_,λn x _ _ h=>HI h,λrow f x hx=>?_⟩
 .obtain⟨y,hy,e⟩:=Gw.mp h1;have e1:y.1=n:=Ij (IH e).1;have e2:V.str y.2=v:=(IH e).2;obtain⟨k',rfl,hk'⟩:=ku h2;refine .inl ⟨k',y.2,rfl,e2.symm,?_⟩;unfold Cp;rw[bB h2,←e1,P2 (E6 M.P.nd) (show(y.1,y.2)∈Pc.pts from hy)]
 .have z:=f.pts x hx;refine Hf ?_;rw[P2 (E6 M.P.nd) (show(x.1,x.2)∈Pc.pts from hx)];exact P2 (E6 M.G.nd) z
abbrev qk (P:Program)(w:World)(K:Qc)(mg:Str->Option Value)(base:Heap):Prop:=O4 P w K mg base C2 6 "found" ["piece","web","piece_looks","web_looks","fixed","most"] [] (mI K)
theorem uH {f:Addr}{fd:FuncData}(T:Txt K mg)(Q0:aw P w K mg base)(X6:iz P w K mg base)(Y4:cU P w K mg base)(x8:K2 P w K mg base)(kR:qR P w K mg base)(F:Fun K "found" "found" ki f fd):A3 P w K mg base C2 6 f fd ["piece","web","piece_looks","web_looks","fixed","most"] (mI K):=by
 refine F.ok sc_found (λvs H Q E h=>?_) (λd_ A outer s H vs Q E hr h=>?_)
 .obtain⟨a,p,q,a',p',q',pl,wl,kvs,c_,e_,u_,L,Pc,W,fx,fv,mv,mo,rfl,_⟩:=h;rfl
 .obtain⟨a,p,q,a',p',q',pl,wl,kvs,c_,e_,u_,L,Pc,W,fx,fv,mv,mo,rfl,M0,L0,PQ,hf,k⟩:=h;have S:=yt M0 L0;have lP:=M0.P.len;have lW:=M0.G.len;have YC:=lP;have YD:=lW;rw[A4] at YC YD;have hN:=sc_found.nd;have hu:=u9 hr;refine⟨_,QSs.r (x6 (j8 (i:=6) hN rfl (by walk_at "l") (Du (x5 yW (qV 4) mT (p7 _)) tH (qV 4)))
   (x6 (j8 (i:=7) hN rfl (by walk_at "l") (qC Q0 (hr.mono (by decide)) j7 (j3 (qV 2) (j3 (qV 3) (j3 (qV 6) j6)))))
   (x6 (bC (cK (U4 K (qC X6 (hr.mono (by decide)) j7 (j3 (gD (eO K rfl) T.b_list Boot.«list» (j3 (DE HL Iy Jc J2 K (qV 7)) j6)) j6)))) (A7 (A1 (dn j6))) cF)
   (x6 (j8 (i:=8) hN rfl (by walk_at "l") (qC Y4 (hr.mono (by decide)) j7 (j3 (qV 0) (j3 (qV 1) (j3 (qV 6) j6)))))
   (x6 (j8 (i:=9) hN rfl (by walk_at "l") (qC x8 (hr.mono (by decide)) j7 (j3 (qV 0) j6)))
   (A7 (A1 (E4 (own:=["row"]) (js:=[9]) (by kernel_rfl) rfl (Q4 K (qC kR (hr.mono (by decide)) j7 (j3 (qV 0) (j3 (qV 7) (j3 (qV 8) (j3 (qV 5) j6)))))) (λ_ _ _ _=>(F9 (i:=0) (show List.Nodup (["row","names"]:List Str) by decide+kernel) rfl (by walk_at "l"))) (λ_ _ _ _=>af) (λ_ _ _ _=>(FE K T.b_dict T.b_zip rfl (j3 (qV 1) (j3 (qV 0) j6)))))))))))),?_⟩
  refine yL (λσ H'=>∃d,σ=[some (.ref a),some (.ref a'),some (.ref pl),some (.ref wl),some fv,some mv,some (.ref d),none,none,none]/\Same H H'/\H' d=some (.dK (i9 fx))/\d≠pl/\d≠q) ?_ ?_
  .rintro σ H1 ⟨d,rfl,m1,hd,QV,Q_⟩;have M1:=M0.same m1;have L1:=L0.same m1;walk_at "r";refine⟨pl,wl,d,e_,u_,Pc.pts,W.pts,fx,L,wU W,rfl,L1.hp,L1.kp,E6 M1.P.nd,by lia,L1.hg,L1.kg,E6 M1.G.nd,by lia,(bW W).p1,(bW W).o1,L1.eq,hd,QV,λc H2 s_ nc m2 hc ch=>?_⟩;have M2:=M1.same m2;walk_at "r";refine⟨.inr (.inr (.inl ⟨rfl,.inl ⟨_,hc⟩⟩)),?_⟩;walk_at "r";refine⟨c,_,rfl,rfl,.inl hc,λv3 n3=>?_⟩;obtain⟨H3,e3,f3,m3,_⟩:=b4 (o:= .ext (jg v3 c)) n3;rw[e3];walk_at "r";refine T9 f3 (.inl (m3 _ _ hc)) (λl4 n4=>?_);obtain⟨H4,e4,f4,m4,_⟩:=b4 (o:= .lst _) n4;rw[e4];walk_at "r";have Uu:=m3.trans m4;refine⟨l4,_,_,rfl,f4,LsAt.same (zd ch) Uu,by rw[Gs];lia,λH5 m5=>?_⟩;have Mj:=Uu.trans m5;have M5:=M2.same Mj;walk_at "r";refine dJ (λh1=>?_) (λh1=>?_)
   .walk_at "r";refine⟨h9 (by simp),λl6 n6=>?_⟩;obtain⟨H6,e6,f6,m6,_⟩:=b4 (o:= .lst []) n6;rw[e6];have e0:I0 Pc W fx=[]:=tF S h1;refine k l6 H6 [] (m1.free (m2.free (Mj.free n6))) (m1.trans (m2.trans (Mj.trans m6))) f6 (by rw[e0];rcases PQ with⟨_,rfl⟩|⟨_,rfl⟩<;>exact .nil) (by rw[e0];exact IA _) (λ_ h=>nomatch h)
   .walk_at "r";refine⟨a,p,q,a',p',q',d,kvs,c_,Pc,W,fx,wY W,rfl,M5.P.at_,M5.P.hq,K4 M5.P.nd,by lia,M5.G.at_,K4 M5.G.nd,by lia,(bW W).p2,(bW W).o2,Mj _ _ (m2 _ _ hd),Q_,λps H6 kvq nps m6 hps pls=>?_⟩;have M6:=M5.same m6;have PZ:=Mj.trans m6;walk_at "r";refine⟨a,p,q,kvs,Pc,rfl,M6.P.at_,by lia,λln H7 r1 r2 n7 m7 f7 or=>?_⟩;have Rf:r1=wU Pc:=E5 or.o1 (bW Pc).o1 (or.p1.nodup_iff.mpr (E6 S.nd)) (or.p1.trans (bW Pc).p1.symm);have Rg:r2=wY Pc:=E5 or.o2 (bW Pc).o2 (or.p2.nodup_iff.mpr (K4 S.nd)) (or.p2.trans (bW Pc).p2.symm);subst Rf Rg;have M7:=M6.same m7;have Oi:=PZ.trans m7;walk_at "r";refine⟨a,p,q,c,ps,kvs,s_,kvq,L,Pc,W,wU Pc,wY Pc,wU W,wY W,fx,mv,mo,rfl,PQ,⟨S,M7.P.at_,M7.P.hq,by lia,by lia,M0.big,Oi _ _ hc,ch.same Oi,m7 _ _ hps,pls.same m7⟩,λlr H8 xs n8 m8 f8 ls NH=>?_⟩;have YE:=Hn ls;refine A0 (SqL.of f8) ?_;refine u4 (n:=xs.length) (λi out H'=>Same H8 H'/\DcAt H' (tI Pc) out ((wZ mo (I0 Pc W fx)).take i)/\∀x∈out,∃d,x=V.ref d/\H d=none) ⟨Same.refl _,.nil,λ_ h=>nomatch h⟩ (λi out H' hi hp=>⟨xs,xs[i],SqL.of (hp.1 _ _ f8),Gu hi⟩) ?_ ?_
    .rintro N i v out H9' H9 hi ⟨s9,dc,MY⟩ y hN';obtain⟨rfl,hy⟩:=Itl.get y (SqL.of (s9 _ _ f8));obtain⟨row,Md,ar,rfl,YF⟩:=C8 ls hy;have Rc:=Hn dc;rw[GC] at Rc;walk_at "r";refine⟨rfl,?_⟩;walk_at "r";refine⟨ln,ar,(tI Pc).map Sum.inr,row.map V.str,rfl,by rw[←qK];exact SqL.of (s9 _ _ (m8 _ _ f7)),SqL.of (s9 _ _ YF),λd2 Nn=>?_⟩;rw[lU (nm:=tI Pc) S.nn];obtain⟨Rl,Ph,Pj,NW,_⟩:=b4 (o:= .dK (i9 ((tI Pc).zip row))) Nn;change _/\N _ (p0 H9 d2 (.dK (i9 ((tI Pc).zip row))));rw[Ph];have Rn:(I0 Pc W fx).length<=1000000:=NH;have OD:(wZ mo (I0 Pc W fx)).length<=(I0 Pc W fx).length:=yP;refine⟨Ki (kS (by lia)),hN' _ _ ⟨s9.trans NW,?_,λx hx=>?_⟩⟩
     .rw[show(wZ mo (I0 Pc W fx)).take (i+1)=(wZ mo (I0 Pc W fx)).take i++[row] by rw[Ho,show(wZ mo (I0 Pc W fx))[i]?=some row from Md];rfl];exact q8 (DcAt.same dc NW) ⟨d2,rfl,Pj⟩
     .rcases GO.mp hx with z|z
      .exact MY x z
      .exact⟨d2,GZ.mp z,m1.free (m2.free (Oi.free (m8.free (s9.free Nn))))⟩
    .rintro out H9 ⟨s9,dc,MY⟩;have Rc:=Hn dc;rw[GC] at Rc;have Rn:(I0 Pc W fx).length<=1000000:=NH;have OD:(wZ mo (I0 Pc W fx)).length<=(I0 Pc W fx).length:=yP;refine⟨⟨_,SqL.of (s9 _ _ f8),Gv _⟩,λD hD=>⟨Ki (kS (by lia)),?_⟩⟩;rw[GD (by rw[YE];exact Gv _)] at dc;obtain⟨Rl,Ph,Pj,NW,_⟩:=b4 (H:=H9) (o:= .lst out) hD;show Q _ (p0 H9 D _);rw[Ph];exact k D Rl out (m1.free (m2.free (Oi.free (m8.free (s9.free hD))))) (m1.trans (m2.trans (Oi.trans (m8.trans (s9.trans NW))))) Pj (dc.same NW) NH MY
  .intro nx hnx;walk_at "r";rcases hf with⟨rfl,rfl⟩|⟨d,rfl,hd,QV,Q_⟩
   .rw[if_pos (by simp)];walk_at "r";intro d nd;obtain⟨H1,e1,f1,m1,_⟩:=b4 (o:= .dK []) nd;rw[e1];walk_at "r";exact hnx _ _ ⟨d,rfl,m1,f1,(j4 L0.hp nd).symm,(j4 M0.P.hq nd).symm⟩
   .rw[if_neg (by simp)];walk_at "r";exact hnx _ _ ⟨d,rfl,Same.refl _,hd,QV,Q_⟩
def yS (H:Hp)(nm:List Str)(v:V)(rows:List (List Str)):Prop:=(rows=[]/\v= .non)\/∃(row:List Str) (r:List (List Str)) (d:Addr),rows=row::r/\v= .ref d/\H d=some (.dK (i9 (nm.zip row)))
def aT (K:Qc):Sp:=λvs H Q _=>∃(a p q a' p' q' pl wl:Addr) (kvs c_ e_ u_:List (j0×V)) (L:Str->Str->Bool) (Pc W:A6) (fx:List (Str×Str)) (fv:V),vs=[.ref a,.ref a',.ref pl,.ref wl,fv]/\Mx K H a p q a' p' q' kvs c_ Pc W fx/\LkP K H pl wl e_ u_ L Pc W/\Dv H pl q fv fx/\∀(v:V) (H':Hp),Same H H'->yS H' (tI Pc) v (I0 Pc W fx)->(∀d,v= .ref d->H d=none)->Q v H'
abbrev bU (P:Program)(w:World)(K:Qc)(mg:Str->Option Value)(base:Heap):Prop:=O4 P w K mg base C2 7 "first_found" ["piece","web","piece_looks","web_looks","fixed"] [] (aT K)
theorem iw {f:Addr}{fd:FuncData}(T:Txt K mg)(kG:qk P w K mg base)(F:Fun K "first_found" "first_found" V1 f fd):A3 P w K mg base C2 7 f fd ["piece","web","piece_looks","web_looks","fixed"] (aT K):=by
 refine F.ok sc_first_found (λvs H Q E h=>?_) (λd_ A outer s H vs Q E hr h=>?_)
 .obtain⟨a,p,q,a',p',q',pl,wl,kvs,c_,e_,u_,L,Pc,W,fx,fv,rfl,_⟩:=h;rfl
 .obtain⟨a,p,q,a',p',q',pl,wl,kvs,c_,e_,u_,L,Pc,W,fx,fv,rfl,M0,L0,hf,k⟩:=h;have hN:=sc_first_found.nd;have hu:=u9 hr;refine⟨_,QSs.r (x6 (j8 (i:=5) hN rfl (by walk_at "l") (qC kG (hr.mono (by decide)) j7 (j3 (qV 0) (j3 (qV 1) (j3 (qV 2) (j3 (qV 3) (j3 (qV 4) (j3 d8 j6))))))))
   (A7 (A1 (Du (U4 K (qV 5)) (k9 (l0 K hu) (qV 5) d8 (λ_ _=>rfl)) mT)))),?_⟩
  walk_at "r";refine⟨a,p,q,a',p',q',pl,wl,kvs,c_,e_,u_,L,Pc,W,fx,fv,.int 1,some 1,rfl,M0,L0,.inr ⟨rfl,rfl⟩,hf,λl H1 xs nl m1 f1 dc _ MY=>?_⟩;have Sm:DcAt H1 (tI Pc) xs ((I0 Pc W fx).take 1):=dc;have Ra:=Hn Sm;walk_at "r";refine⟨!xs.isEmpty,.inl ⟨_,SqL.of f1,rfl⟩,?_⟩;cases hr:I0 Pc W fx with
  |nil=>
   rw[hr] at Sm Ra
   have Ui:xs=[]:=Ko (by simpa using Ra)
   subst Ui
   rw[if_neg (by decide)]
   walk_at "r"
   exact k .non H1 m1 (.inl ⟨hr,rfl⟩) λ_ z=>nomatch z
  |cons row r=>
   rw[hr] at Sm Ra
   obtain⟨x,rfl⟩:∃x,xs=[x]:=by
    match xs,Ra with
    |[x],_=>exact⟨x,rfl⟩
   obtain⟨Uv,Ro,d,rfl,hd⟩:=C8 (i:=0) Sm rfl
   have er:row=Uv:=GL Ro
   subst er
   rw[if_pos (by rfl)]
   walk_at "r"
   refine i8 (SqL.of f1) (b5 (j:=0) rfl) ?_
   walk_at "r"
   exact k (.ref d) H1 m1 (.inr ⟨row,r,d,hr,rfl,hd⟩) λd' e=>by
    obtain⟨d2,e2,z⟩:=MY (.ref d) (by simp);have e3:d=d2:=by injection e2
    have e4:d=d':=by injection e
    rw[←e4,e3];exact z
def bo (K:Qc):Sp:=λvs H Q _=>∃(a p q a' p' q' d:Addr) (kvs c_:List (j0×V)) (Pc W:A6) (fx:List (Str×Str)),vs=[.ref a,.ref a',.ref d]/\Mx K H a p q a' p' q' kvs c_ Pc W fx/\H d=some (.dK (i9 fx))/\d≠p/\d≠q/\∀(v:V) (H':Hp),Same H H'->yS H' (tI Pc) v (I0 Pc W fx)->(∀d,v= .ref d->H d=none)->Q v H'
abbrev bM (P:Program)(w:World)(K:Qc)(mg:Str->Option Value)(base:Heap):Prop:=O4 P w K mg base C2 8 "first_match" ["piece","web","fixed"] [] (bo K)
theorem hU {f:Addr}{fd:FuncData}(T:Txt K mg)(U9:bU P w K mg base)(F:Fun K "first_match" "first_match" V0 f fd):A3 P w K mg base C2 8 f fd ["piece","web","fixed"] (bo K):=by
 refine F.ok sc_first_match (λvs H Q E h=>?_) (λd_ A outer s H vs Q E hr h=>?_)
 .obtain⟨a,p,q,a',p',q',d,kvs,c_,Pc,W,fx,rfl,_⟩:=h;rfl
 .obtain⟨a,p,q,a',p',q',d,kvs,c_,Pc,W,fx,rfl,M0,hd,n1,n2,k⟩:=h;have hN:=sc_first_match.nd;have hu:=u9 hr;refine⟨_,QSs.r (A7 (A1 (qC U9 (hr.mono (by decide)) j7 (j3 (qV 0) (j3 (qV 1) (j3 (k9 (l0 K hu) (qV 0) d8 (λ_ _=>rfl)) (j3 (k9 (l0 K hu) (qV 1) d8 (λ_ _=>rfl)) (j3 (qV 2) j6)))))))),?_⟩;walk_at "r";refine b0 M0.P.at_.tup (b5 (j:=0) rfl) ?_;walk_at "r";refine b0 M0.G.at_.tup (b5 (j:=0) rfl) ?_;walk_at "r";exact⟨a,p,q,a',p',q',p,p',kvs,c_,_,_,_,Pc,W,fx,.ref d,rfl,M0,yl M0,.inr ⟨d,rfl,hd,n1,n2⟩,k⟩
theorem B2 {t u:TS}{nx:L2.St->Hp->Prop}{rt:V->Hp->Prop}{bk ct:L2.St->Hp->Prop}{σ:L2.St}{H:Hp}(h:∀nx':L2.St->Hp->Prop,(∀σ H,u ⟨nx,rt,bk,ct⟩ σ H->nx' σ H)->t ⟨nx',rt,bk,ct⟩ σ H):sY t u ⟨nx,rt,bk,ct⟩ σ H:=h _ λ_ _ z=>z
theorem WebIs.up {n m:Nat}{H:Hp}{a p q:Addr}{kvs:List (j0×V)}{W:A6}(h:WebIs n K H a p q kvs W)(l:n<=m):WebIs m K H a p q kvs W:=⟨h.at_,h.hp,h.hq,h.ne,h.nd,He h.len l,h.ends,h.nl⟩
structure yv (B W:A6) (fx:List (Str×Str)):Prop where
 big:((d9 B).length+1)*(max W.pts.length W.ts.length+1) ^ ((d9 B).filter (fg fx)).length<=1000000
 fnd:(fx.map (·.1)).Nodup
 fin:∀x∈fx,x.1∈d9 B
def Cm (H H':Hp)(v:V)(bs:List Sd)(W:A6)(fx:List (Str×Str)):Prop:=
 ((∀b∈bs,I0 b.W W fx=[])/\v= .non)\/∃(i:Nat) (b:Sd) (row:List Str) (r:List (List Str)) (t d:Addr),bs[i]?=some b/\(∀b'∈bs.take i,I0 b'.W W fx=[])/\I0 b.W W fx=row::r/\v= .ref t/\H' t=some (.tup [.int (i:Int),.ref d])/\H' d=some (.dK (i9 ((tI b.W).zip row)))/\H d=none
def jU (K:Qc):Sp:=λvs H Q _=>∃(S L R:Sd) (r bl m:Addr) (bs:List Sd) (fx:List (Str×Str)),vs=[.ref S.a,.ref r,.ref m]/\SdIs K H S/\RuleIs K H r bl L R bs/\bs.length<=10/\H m=some (.dK (i9 fx))/\(∀b∈bs,m≠b.p/\m≠b.q/\yv b.W S.W fx)/\∀(v:V) (H':Hp),Same H H'->Cm H H' v bs S.W fx->Q v H'
abbrev nF (P:Program)(w:World)(K:Qc)(mg:Str->Option Value)(base:Heap):Prop:=O4 P w K mg base C2 9 "barred" ["web","rule","match"] [] (jU K)
theorem rh {f:Addr}{fd:FuncData}(T:Txt K mg)(V9:bM P w K mg base)(F:Fun K "barred" "barred" ic f fd):A3 P w K mg base C2 9 f fd ["web","rule","match"] (jU K):=by
 refine F.ok sc_barred (λvs H Q E h=>?_) (λd_ A outer s H vs Q E hr h=>?_)
 .obtain⟨S,L,R,r,bl,m,bs,fx,rfl,_⟩:=h;rfl
 .obtain⟨S,L,R,r,bl,m,bs,fx,rfl,hS,hR,Ri,hm,hb,k⟩:=h;have hN:=sc_barred.nd;have hu:=u9 hr;refine⟨_,QSs.r (x6 (Q1 Ht rfl (cN K T.b_enumerate (j3 (k9 (l0 K hu) (qV 1) d8 (λ_ _=>rfl)) j6)) (oX K rfl (cH (F9 (i:=3) hN rfl (by walk_at "l")) (cH (F9 (i:=4) hN rfl (by walk_at "l")) oS)))
    (x6 (j8 (i:=5) hN rfl (by walk_at "l") (qC V9 (hr.mono (by decide)) j7 (j3 (qV 4) (j3 (qV 0) (j3 (qV 2) j6)))))
   (A7 (bC (x5 nN (qV 5) mT (p7 _)) (A7 (A1 (P5 (j3 (qV 3) (j3 (qV 5) j6))))) cF))))
   (A7 (A1 mT))),?_⟩
  refine B2 λRp hx=>?_;walk_at "e";refine b0 hR.tup (b5 (j:=2) rfl) ?_;refine⟨_,rfl,.inl ⟨bl,_,rfl,hR.bl,?_⟩⟩;refine S8 (n:=bs.length) (λi σ H'=>Same H H'/\(∃v3 v4 v5,σ=[some (.ref S.a),some (.ref r),some (.ref m),v3,v4,v5])/\∀b∈bs.take i,I0 b.W S.W fx=[]) ⟨Same.refl _,⟨_,_,_,rfl⟩,λb h=>by simp at h⟩ (λi σ H' hi hp=>⟨_,.ref (bs[i]).a,hp.1.seq hR.bl,by rw[Gx,Gu hi];rfl⟩) ?_ ?_
  .rintro bk i v σ H1 H1' hi ⟨s1,⟨v3,v4,v5,rfl⟩,m_⟩ ⟨t,x,hx9,nt,rfl,rfl⟩;have p_:=hx9 _ (s1.seq hR.bl);rw[Gx,Gu hi] at p_;cases p_;have WH:=Hv hi;obtain⟨n1,n2,B⟩:=hb _ WH;obtain⟨H2,e2,f2,m2,_⟩:=b4 (o:= .tup _) nt;rw[e2];have s2:=s1.trans m2;have R2:=hR.same s2;refine J3 (SqT.of f2) rfl ?_;walk_at "e";refine B2 λP_ hx2=>?_;walk_at "e";refine⟨_,_,_,_,_,_,m,_,_,_,_,fx,rfl,⟨WebIs.up (R2.bars _ WH) (by lia),WebIs.up (hS.same s2) (by lia),B.big,B.fnd,B.fin⟩,s2 _ _ hm,n1,n2,λv' H3 m3 fst nw=>?_⟩;refine hx2 [some (.ref S.a),some (.ref r),some (.ref m),some (.int (i:Int)),some (.ref (bs[i]).a),some v'] _ ?_;rcases fst with⟨e,rfl⟩|⟨row,rr,d,e,rfl,hd⟩
   .walk_at "e";rw[if_neg (by simp)];walk_at "e";refine⟨s2.trans m3,⟨_,_,_,rfl⟩,λb h=>?_⟩;rw[Ho,Gu hi] at h;rcases GO.mp h with z|z
    .exact m_ b z
    .rw[show b=bs[i] by simpa using z];exact e
   .walk_at "e";rw[if_pos (by simp)];walk_at "e";refine⟨h9 (by simp),λt4 n4=>?_⟩;obtain⟨H4,e4,f4,m4,_⟩:=b4 (o:= .tup [.int (i:Int),.ref d]) n4;rw[e4];exact k _ _ (s2.trans (m3.trans m4)) (.inr ⟨i,_,row,rr,t4,d,Gu hi,m_,e,rfl,f4,m4 _ _ hd,s2.free (nw d rfl)⟩)
  rintro σ H1 ⟨s1,⟨v3,v4,v5,rfl⟩,m_⟩;refine⟨⟨_,s1.seq hR.bl,by rw[Gs];exact Gv _⟩,?_⟩;rw[GD (Gv _)] at m_;refine hx [some (.ref S.a),some (.ref r),some (.ref m),v3,v4,v5] H1 ?_;walk_at "e";exact k _ _ s1 (.inl ⟨m_,rfl⟩)
theorem vH:∀x∈kSL.cps.toList,x∈kNS.cps.toList:=by decide+kernel
def Wd (ws:List Str)(lo hi:Nat)(n:Str):Prop:=∃j,lo<=j/\j<hi/\ws[j]?=some n
theorem N8 {ws:List Str}(nd:ws.Nodup){i j:Nat}{n:Str}(h1:ws[i]?=some n)(h2:ws[j]?=some n):i=j:=by
 obtain⟨hi,e1⟩:=Ie.mp h1;obtain⟨hj,e2⟩:=Ie.mp h2;have z:=JH.mp nd;rcases MW i j with h|h|h
 .exact absurd (e1.trans e2.symm) (z i j hi hj h)
 .exact h
 .exact absurd (e2.trans e1.symm) (z j i hj hi h)
structure LR (ws:List Str) (i1 i2 i3 i4:Nat) (PL:List (Str×Str)) (TL:List (Str×F2)) (PR:List (Str×Str)) (TR:List (Str×F2)):Prop where
 pl:∀x∈PL,Wd ws 0 i1 x.1/\X1 x.2=true
 tl:∀x∈TL,Wd ws 4 (4+i2) x.1/\X1 x.2.1=true/\x.2.2.1∈PL.map (·.1)/\x.2.2.2∈PL.map (·.1)
 ndl:(PL.map (·.1)).Nodup
 ndt:(TL.map (·.1)).Nodup
 ll:PL.length<=i1
 lt:TL.length<=i2
 pr:∀x∈PR,(x∈PL\/Wd ws 8 (8+i3) x.1)/\X1 x.2=true
 tr:∀x∈TR,(x∈TL\/Wd ws 10 (10+i4) x.1)/\X1 x.2.1=true/\x.2.2.1∈PR.map (·.1)/\x.2.2.2∈PR.map (·.1)
 ndr:(PR.map (·.1)).Nodup
 ndu:(TR.map (·.1)).Nodup
 lr:PR.length<=i1+i3
 lu:TR.length<=i2+i4
theorem eo {x:Str}(h:X1 x=true):x.length<=8:=by
 have:=jG (show K8 x kSL 8=true from h);lia
def DK (H:Hp)(a:Addr):Prop:=∃k,H a=some (.dK k)
structure Wb (K:Qc) (H:Hp) (s:Sd):Prop where
 t:SqT K H s.a [.ref s.p,.ref s.q]
 p:DK H s.p
 q:DK H s.q
def bq (gs:List Str)(W:A6):A6:=⟨W.pts.filter λx=>!decide (x.1∈gs),W.ts.filter λx=>!decide (x.1∈gs)⟩
def kM (gs:List Str)(W:A6):Bool:=(bq gs W).ts.any λx=>decide (x.2.2.1∈gs)||decide (x.2.2.2∈gs)
def gn (K:Qc):Sp:=λvs H Q E=>∃(a l p q:Addr) (kvs:List (j0×V)) (W:A6) (gs:List Str),vs=[.ref a,.ref l]/\WebAt K H a p q kvs W/\H p=some (.dK (i9 W.pts))/\H q=some (.dK kvs)/\SqL K H l (gs.map V.str)/\(W.pts.map (·.1)).Nodup/\(W.ts.map (·.1)).Nodup/\W.pts.length<=60/\W.ts.length<=60/\(∀x∈W.ts,x.1.length<=100)/\
 if kM gs W=true then ∀H' e,Same H H'->H' e=none->E (.ref (cA K "Loose")) (some e) H' else NewP K H Q (bq gs W)
theorem NewP.mono {K:Qc}{H H1:Hp}{Q:VK}{W:A6}(s:Same H H1)(k:NewP K H Q W):NewP K H1 Q W:=λa p q kvs W' H' s' h1 h2 h3 h4 h5 h6 h7 h8=>k a p q kvs W' H' (s.trans s') h1 h2 h3 h4 (s.free h5) (s.free h6) h7 h8
abbrev jO (P:Program)(w:World)(K:Qc)(mg:Str->Option Value)(base:Heap):Prop:=O4 P w K mg base (ou P w) 3 "without" ["web","names"] [] (gn K)
theorem pj {f:Addr}{fd:FuncData}(T:Txt K mg)(K5:de P w K mg base)(F:Fun K "without" "without" dY f fd):A3 P w K mg base (ou P w) 3 f fd ["web","names"] (gn K):=by
 refine F.okE sc_without (λvs H Q E h=>?_) (λd_ A outer s H vs Q E hr h=>?_)
 .obtain⟨a,l,p,q,kvs,W,gs,rfl,_⟩:=h;rfl
 .obtain⟨a,l,p,q,kvs,W,gs,rfl,hW,hp,hq,hL,nd1,Nn,l1,l2,NV,k⟩:=h;have Lw:=k8 W.pts;have MD:=hW.ts.length;have hN:=sc_without.nd;have hu:=u9 hr;refine⟨_,QSs.r (x6 (j8 (i:=2) hN rfl (by walk_at "l") (gD (X9 K rfl) T.b_dict Boot.«dict» (j3 (E4 (own:=["name","kind"]) (js:=[1]) (by kernel_rfl) rfl (Q6 (k9 (l0 K hu) (qV 0) d8 (λ_ _=>rfl))) (λ_ _ _ _=>(oX K rfl (cH (F9 (i:=0) (show List.Nodup (["name","kind","names"]:List Str) by decide+kernel) rfl (by walk_at "l")) (cH (F9 (i:=1) (show List.Nodup (["name","kind","names"]:List Str) by decide+kernel) rfl (by walk_at "l")) oS)))) (λ_ _ _ _=>(gP (x5 (bg K hu) (qV 0) (qV 2) (by rfl)))) (λ_ _ _ _=>(P5 (j3 (qV 0) (j3 (qV 1) j6))))) j6)))
   (x6 (j8 (i:=3) hN rfl (by walk_at "l") (gD (X9 K rfl) T.b_dict Boot.«dict» (j3 (E4 (own:=["name","tie"]) (js:=[1]) (by kernel_rfl) rfl (Q6 (k9 (l0 K hu) (qV 0) d8 (λ_ _=>rfl))) (λ_ _ _ _=>(oX K rfl (cH (F9 (i:=0) (show List.Nodup (["name","tie","names"]:List Str) by decide+kernel) rfl (by walk_at "l")) (cH (F9 (i:=1) (show List.Nodup (["name","tie","names"]:List Str) by decide+kernel) rfl (by walk_at "l")) oS)))) (λ_ _ _ _=>(gP (x5 (bg K hu) (qV 0) (qV 2) (by rfl)))) (λ_ _ _ _=>(P5 (j3 (qV 0) (j3 (qV 1) j6))))) j6)))
   (x6 (Q1 PassesOwn.leaving rfl (Q4 K (qB (G4 K rfl) T.b_sorted Boot.«sorted» (j3 (qV 3) j6))) (F9 (i:=4) hN rfl (by walk_at "l"))
    (A7 (bC (sL (oT (x5 (kIn K hu) (k9 (l0 K hu) (k9 (l0 K hu) (qV 3) (qV 4) (λ_ _=>rfl)) d8 (λ_ _=>rfl)) (qV 1) (by rfl)) (kh (x5 (kIn K hu) (k9 (l0 K hu) (k9 (l0 K hu) (qV 3) (qV 4) (λ_ _=>rfl)) d8 (λ_ _=>rfl)) (qV 1) (by rfl))))) (A7 (kK gi T.r_Loose rfl (j3 (Gb (qV 4)) j6))) cF)))
   (A7 (A1 (qC K5 (hr.mono (by decide)) j7 (j3 (P5 (j3 (qV 2) (j3 (qV 3) j6))) j6))))))),?_⟩
  walk_at "r";refine b0 hW.tup (b5 (j:=0) rfl) ?_;refine C7 hp (λO' o1=>?_);refine u4 (n:=(i9 W.pts).length) (λi out H'=>Same (D0 p o1 (i9 W.pts) H) H'/\Paired (PrV K H') out (i9 ((W.pts.take i).filter λx=>!decide (x.1∈gs)))) ⟨Same.refl _,.nil⟩ (λi out H' hi hp=>⟨hp.1 _ _ b7,hi⟩) ?_ ?_
  .rintro N i v out H1 H2 hi ⟨s1,pr⟩ ⟨t,kv,f_,nt,rfl,rfl⟩ hN';obtain⟨x,hx,rfl⟩:=bE f_;obtain⟨H3,e3,f3,m3,_⟩:=b4 (o:= .tup _) nt;rw[e3];have L3:=((F8 (o:=o1) hp).trans (s1.trans m3).le).lst hL;have e7:W.pts.take (i+1)=W.pts.take i++[x]:=by rw[Ho,hx];rfl
   have C_:=Hn pr;have A_:=GI (λx:Str×Str=>!decide (x.1∈gs)) (W.pts.take i);rw[k8] at C_;rw[GC] at A_;refine J3 (SqT.of f3) rfl ?_;walk_at "r";refine⟨rfl,?_⟩;walk_at "r";refine Q9 L3 ?_;walk_at "r";refine dJ (λhb=>?_) (λhb=>?_)
   .walk_at "r";refine⟨h9 (by simp),λt4 n4=>?_⟩;obtain⟨H4,e4,f4,m4,_⟩:=b4 (o:= .tup _) n4;rw[e4];refine⟨h9 (by lia),hN' _ _ ⟨s1.trans (m3.trans m4),?_⟩⟩;rw[e7,Hw,Hz (by rw[hb];rfl),Iv];unfold i9 at pr⊢;rw[Gy];exact q8 (Paired.imp' (λ_ _ z=>PrV.mono (m3.trans m4).le z) pr) ⟨t4,rfl,SqT.of f4⟩
   .refine hN' _ _ ⟨s1.trans m3,?_⟩;rw[e7,Hw,HG (by rw[hb];simp),Iv,HX];exact Paired.imp' (λ_ _ z=>PrV.mono m3.le z) pr
  .rintro out H1 ⟨s1,pr⟩;have C_:=Hn pr;have A_:=GI (λx:Str×Str=>!decide (x.1∈gs)) (W.pts.take (i9 W.pts).length);rw[k8] at C_;rw[GC] at A_;refine⟨⟨s1 _ _ b7,Gv _⟩,λD hD=>⟨h9 (by lia),?_⟩⟩;have sM:=K3 hp s1 hD (u:= .lst out);have fM:=Z0 s1 hD (u:= .lst out);have Pk:=Paired.imp' (λ_ _ z=>PrV.mono (lI (d:=p) (u:= .lst out) hD) z) pr;generalize thaw p (p0 H1 D (.lst out))=HM at sM fM Pk⊢;rw[GD (by lia)] at Pk;walk_at "r";refine N9 (SqL.of fM) Pk (h9 (by rw[k8];refine He (GI _ _) ?_;lia)) (λpp npp=>?_);have eP:X3 (i9 (W.pts.filter λx=>!decide (x.1∈gs)))=i9 (bq gs W).pts:=T6 (Z8 (N4 nd1));rw[eP];obtain⟨H2,e2,f2,m2,_⟩:=b4 (o:= .dK (i9 (bq gs W).pts)) npp;show Q3 _ _ _ (p0 HM pp (.dK (i9 (bq gs W).pts))) _;rw[e2];have s2:=sM.trans m2;have W2:=hW.mono s2.le;have Pl:=s2 _ _ hq;have YG:=s2.seq hL;walk_at "r";refine b0 W2.tup (b5 (j:=1) rfl) ?_;refine C7 Pl (λOE o2=>?_);refine u4 (n:=kvs.length) (λi out H'=>Same (D0 q o2 kvs H2) H'/\Paired (PrV K H') out ((kvs.take i).filter λkv=>!dO gs kv.1)) ⟨Same.refl _,.nil⟩ (λi out H' hi hp=>⟨hp.1 _ _ b7,hi⟩) ?_ ?_
   .rintro N i v out H3 H3' hi ⟨s3,pr3⟩ ⟨t,kv,f_,nt,rfl,rfl⟩ hN';obtain⟨H4,e4,f4,m4,_⟩:=b4 (o:= .tup _) nt;rw[e4];have Og:=(F8 (o:=o2) Pl).trans (s3.trans m4).le;have L4:=Og.lst YG;obtain⟨x,hx,ex,b,eb,sb⟩:=(W2.ts.mono Og).get f_;obtain⟨kk,M'⟩:=kv;have Nj:kk=Sum.inr x.1:=ex;have M_:M'= .ref b:=eb;subst Nj M_;have e7:kvs.take (i+1)=kvs.take i++[(Sum.inr x.1,.ref b)]:=by rw[Ho,f_];rfl
    have Uw:=Hn pr3;have NI:=GI (λkv:j0×V=>!dO gs kv.1) (kvs.take i);rw[GC] at NI;refine J3 (SqT.of f4) rfl ?_;walk_at "r";refine⟨rfl,?_⟩;walk_at "r";refine Q9 L4 ?_;walk_at "r";refine dJ (λhb=>?_) (λhb=>?_)
    .walk_at "r";refine⟨h9 (by simp),λt5 n5=>?_⟩;obtain⟨H5,e5,f5,m5,_⟩:=b4 (o:= .tup _) n5;rw[e5];refine⟨h9 (by lia),hN' _ _ ⟨s3.trans (m4.trans m5),?_⟩⟩;rw[e7,Hw,Hz (p:=λkv:j0×V=>!dO gs kv.1) (by show(!decide (x.1∈gs))=true;rw[hb];rfl),Iv];exact q8 (Paired.imp' (λ_ _ z=>PrV.mono (m4.trans m5).le z) pr3) ⟨t5,rfl,SqT.of f5⟩
    .refine hN' _ _ ⟨s3.trans m4,?_⟩;rw[e7,Hw,HG (p:=λkv:j0×V=>!dO gs kv.1) (by show ¬(!decide (x.1∈gs))=true;rw[hb];simp),Iv,HX];exact Paired.imp' (λ_ _ z=>PrV.mono m4.le z) pr3
   .rintro Oj H3 ⟨s3,pr3⟩;have Uw:=Hn pr3;have NI:=GI (λkv:j0×V=>!dO gs kv.1) (kvs.take kvs.length);rw[GC] at NI;refine⟨⟨s3 _ _ b7,Gv _⟩,λD3 hD3=>⟨h9 (by lia),?_⟩⟩;have Ux:=K3 Pl s3 hD3 (u:= .lst Oj);have WI:=Z0 s3 hD3 (u:= .lst Oj);have Pm:=Paired.imp' (λ_ _ z=>PrV.mono (lI (d:=q) (u:= .lst Oj) hD3) z) pr3;generalize thaw q (p0 H3 D3 (.lst Oj))=HM3 at Ux WI Pm⊢;rw[GD (Gv _)] at Pm;have ndk:((kvs.filter λkv=>!dO gs kv.1).map (·.1)).Nodup:=N4 OE;walk_at "r";refine N9 (SqL.of WI) Pm (h9 (by refine He (GI _ _) ?_;lia)) (λqq nqq=>?_);rw[T6 ndk];obtain⟨H4,e4,f4,m4,_⟩:=b4 (o:= .dK (kvs.filter λkv=>!dO gs kv.1)) nqq;show Q3 _ _ _ (p0 HM3 qq _) _;rw[e4];have s4:=s2.trans (Ux.trans m4);have W4:=hW.mono s4.le;have TT:TiesIs K H4 (kvs.filter λkv=>!dO gs kv.1) (bq gs W).ts:=O8 (λkv x z=>by rw[z.1];rfl) W4.ts;have YH:=(Ux.trans m4) _ _ f2;generalize YI:(kvs.filter λkv=>!dO gs kv.1)=kvf at TT f4 ndk;have lkf:kvf.length<=60:=by rw[←YI];refine He (GI _ _) ?_;lia
    have L4:=s4.seq hL;walk_at "r";refine z7 (ss:=(bq gs W).ts.map (·.1)) (.inl f4) (by rw[TT.keys,r6]) (by rw[Gs,←TT.length];lia) (λs1 a1 a2 ls1 n1=>?_);obtain⟨H5,e5,f5,m5,_⟩:=b4 (o:= .lst _) n1;rw[e5];have ndt:((bq gs W).ts.map (·.1)).Nodup:=N4 Nn;refine A0 (SqL.of f5) ?_;refine J5 (n:=s1.length) (λi σ H'=>Same H5 H'/\(∃v4,σ=[some (.ref a),some (.ref l),some (.ref pp),some (.ref qq),v4])/\∀n∈s1.take i,∀t:F2,(n,t)∈(bq gs W).ts->(decide (t.2.1∈gs)||decide (t.2.2∈gs))=false) ⟨Same.refl _,⟨_,rfl⟩,by simp⟩ (λi σ H' hi hp=>⟨_,.str (s1[i]),SqL.of (hp.1 _ _ f5),by rw[Gx,Gu hi];rfl⟩) ?_ ?_
    .rintro i v σ H6' H6 hi ⟨s6,⟨v4,rfl⟩,ha⟩ y;obtain⟨rfl,hx⟩:=Itl.get y (SqL.of (s6 _ _ f5));rw[Gx] at hx;obtain⟨nm,p_,rfl⟩:=Hr.mp hx;have MN:=a1.mem_iff.mp (GJ p_);obtain⟨⟨Qd,tt⟩,k_,rfl⟩:=Gw.mp MN;have Qe:=m5.trans s6;obtain⟨c,ev,sc⟩:=dg (TT.mono Qe.le) ndt k_;have L6:=Qe.seq L4;have F6:Rd H6 qq (.dK kvf):= .inl (Qe _ _ f4);have loud:(decide (tt.2.1∈gs)||decide (tt.2.2∈gs))=true->∀e,H6 e=none->E (.ref (cA K "Loose")) (some e) H6:=λhb e he=>by
      have hl:kM gs W=true:=Ih.mpr ⟨_,k_,hb⟩;rw[if_pos hl] at k;exact k H6 e (s4.trans Qe) he
     have WJ:Qd.length<=100:=NV _ (GR.mp k_).1;have WK:(" is not taken out, but an end of it is":Str).length<=100:=by decide+kernel
     walk_at "r";refine B6 (v:= .ref c) (by have z':=G3 (k:=Sum.inr Qd) F6;rw[ev] at z';exact z') ?_;walk_at "r";refine b0 sc (b5 (j:=1) rfl) ?_;walk_at "r";refine qj L6 ?_;walk_at "r";refine C5 (λh1=>?_) (λh1=>?_)
     .walk_at "r";refine⟨Qd,rfl,by lia,λz=>?_⟩;walk_at "r";exact⟨h9 (by simp),loud (by rw[Hf h1];rfl)⟩
     .walk_at "r";refine B6 (v:= .ref c) (by have z':=G3 (k:=Sum.inr Qd) F6;rw[ev] at z';exact z') ?_;walk_at "r";refine b0 sc (b5 (j:=2) rfl) ?_;walk_at "r";refine qj L6 ?_;walk_at "r";refine C5 (λh2=>?_) (λh2=>?_)
      .walk_at "r";refine⟨Qd,rfl,by lia,λz=>?_⟩;walk_at "r";exact⟨h9 (by simp),loud (by rw[Hf h2,Bool.or_true])⟩
      .walk_at "r";refine⟨s6,⟨_,rfl⟩,λn hn t ht=>?_⟩;rw[Ho,p_] at hn;rcases GO.mp hn with h'|h'
       .exact ha n h' t ht
       .have Qq:n=Qd:=by simpa using h'
        subst Qq;rw[O9 ndt ht k_,Hc h1,Hc h2];rfl
    .rintro σ H6 ⟨s6,⟨v4,rfl⟩,ha⟩;refine⟨⟨_,SqL.of (s6 _ _ f5),by rw[Gs];exact Gv _⟩,?_⟩;rw[GD (Gv _)] at ha;have hl:¬kM gs W=true:=λz=>by
      obtain⟨x,hx,hb⟩:=Ih.mp z;rw[ha x.1 (a1.mem_iff.mpr (Gw.mpr ⟨x,hx,rfl⟩)) x.2 hx] at hb;cases hb
     rw[if_neg hl] at k;have Qe:=m5.trans s6;walk_at "r";refine⟨h9 (by simp),λt9 n9=>?_⟩;obtain⟨H9,e9,f9,m9,_⟩:=b4 (o:= .tup _) n9;rw[e9];have Sn:=Qe.trans m9;walk_at "r";exact⟨t9,pp,qq,kvf,bq gs W,rfl,⟨SqT.of f9,.inl (Sn _ _ YH),.inl (Sn _ _ f4),TT.mono Sn.le⟩,N4 nd1,ndt,He (GI _ _) l1,He (GI _ _) l2,NewP.mono (s4.trans Sn) k⟩
def qH (K:Qc):Sp:=λvs H Q _=>∃(a p q d:Addr) (kvs:List (j0×V)) (W:A6) (kvm:List (j0×V)),vs=[.ref a,.ref d]/\WebAt K H a p q kvs W/\(d9 W).length<=60/\Rd H d (.dK kvm)/\(∀n∈d9 W,TxtAt kvm n)/\∀(l:Addr) (H':Hp) (s1 s2:List Str),H l=none->Same H H'->H' l=some (.lst (((s1++s2).map (i6 kvm)).map V.str))->Ordr W s1 s2->Q (.ref l) H'
abbrev wR (P:Program)(w:World)(K:Qc)(mg:Str->Option Value)(base:Heap):Prop:=O4 P w K mg base C2 2 "line" ["piece","match"] [] (qH K)
theorem xV {f:Addr}{fd:FuncData}(T:Txt K mg)(x8:K2 P w K mg base)(F:Fun K "line" "line" pd f fd):A3 P w K mg base C2 2 f fd ["piece","match"] (qH K):=by
 refine F.ok sc_line (λvs H Q E h=>?_) (λd_ A outer s H vs Q E hr h=>?_)
 .obtain⟨a,p,q,d,kvs,W,kvm,rfl,_⟩:=h;rfl
 .obtain⟨a,p,q,d,kvs,W,kvm,rfl,hW,hl,hD,hT,k⟩:=h;have hN:=sc_line.nd;have hu:=u9 hr;refine⟨_,QSs.r (A7 (A1 (E4 (own:=["name"]) (js:=[1]) (by kernel_rfl) rfl (Q4 K (qC x8 (hr.mono (by decide)) j7 (j3 (qV 0) j6))) (λ_ _ _ _=>(F9 (i:=0) (show List.Nodup (["name","match"]:List Str) by decide+kernel) rfl (by walk_at "l"))) (λ_ _ _ _=>af) (λ_ _ _ _=>(k9 (l0 K hu) (qV 1) (qV 0) (λ_ _=>rfl)))))),?_⟩;walk_at "r";refine⟨a,p,q,kvs,W,rfl,hW,hl,λl1 H1 s1 s2 n1 m1 f1 or=>?_⟩;have hlen:=or.len;refine A0 (SqL.of f1) ?_;refine u4 (n:=(s1++s2).length) (λi out H'=>Same H1 H'/\out=((s1++s2).take i).map λn=>V.str (i6 kvm n)) ⟨Same.refl _,rfl⟩ (λi out H' hi hp=>⟨_,.str ((s1++s2)[i]),SqL.of (hp.1 _ _ f1),by rw[Gx,Gu hi];rfl⟩) ?_ ?_
  .rintro N i v out H2 H3 hi ⟨s3,rfl⟩ y hN';obtain⟨rfl,hx⟩:=Itl.get y (SqL.of (s3 _ _ f1));rw[Gx,Gu hi] at hx;cases hx;walk_at "r";refine⟨rfl,?_⟩;walk_at "r";refine Ar ((m1.trans s3).rd hD) (hT _ (or.mem.mp (Hv hi))) ?_;refine⟨h9 (by rw[Gs,GC];lia),hN' _ _ ⟨s3,?_⟩⟩;exact C4 (λn:Str=>V.str (i6 kvm n)) (Gu hi)
  .rintro out H2 ⟨s3,rfl⟩;refine⟨⟨_,SqL.of (s3 _ _ f1),by rw[Gs];exact Gv _⟩,λD hD'=>⟨h9 (by rw[Gs,GC];lia),?_⟩⟩;rw[GD (Gv _)];obtain⟨H3,e3,f3,m3,_⟩:=b4 (o:= .lst ((s1++s2).map λn=>V.str (i6 kvm n))) hD';refine k D _ s1 s2 ((m1.trans s3).free hD') ?_ ?_ or
   .show Same _ (p0 _ D _);rw[e3];exact m1.trans (s3.trans m3)
   .show p0 _ D _ D=_;rw[b7,GQ];rfl
open Classical in
noncomputable def rE (P W:A6)(kvm:List (j0×V)):Bool:=decide (cg P W kvm)
open Classical in
theorem gw {P W:A6}{kvm:List (j0×V)}(h:¬cg P W kvm):rE P W kvm=false:=by unfold rE;exact Hc h
open Classical in
theorem qf {P W:A6}{kvm:List (j0×V)}(h:cg P W kvm):rE P W kvm=true:=by unfold rE;exact Hf h
def Fl (K:Qc)(PG:Program)(w:World)(H:Hp)(mv:V)(P W:A6)(b:Bool):Prop:=
 (∃t,TyB K H mv t/\t≠"dict"/\b=false)\/
 (∃d n,mv= .ref d/\H d=some (.ext (ai PG w d n))/\n<=1000/\n≠(d9 P).length/\b=false)\/
 (∃d kvm,mv= .ref d/\H d=some (.dK kvm)/\(kvm.map (·.1)).Nodup/\kvm.length<=100/\(∀kv∈kvm,∃t,TyB K H kv.2 t)/\b=rE P W kvm)
theorem zJ {t:String}(h:t≠"dict"):fm t "dict"=false:=by
 unfold fm;rw[show(t=="dict")=false by simpa using h];simp
def wX (kvm:List (j0×V))(n:Str):Bool:=match p8 kvm (Sum.inr n:j0) with
 |some (.str _)=>true
 |_=>false
theorem txB_iff {kvm:List (j0×V)}{n:Str}:wX kvm n=true↔TxtAt kvm n:=by
 unfold wX TxtAt;constructor
 .intro h;split at h
  .next s e=>exact⟨s,e⟩
  .cases h
 .rintro⟨s,e⟩;rw[e]
theorem BJ {H:Hp}{v:V}{t:String}(h:TyB K H v t):fm t "str"=(match v with| .str _=>true|_=>false):=by
 cases v with
 |non=>cases h;rfl
 |bl _=>cases h;rfl
 |int _=>cases h;rfl
 |str _=>cases h;rfl
 |ref a=>rcases h with⟨rfl,_⟩|⟨rfl,_⟩|⟨rfl,_⟩<;>rfl
 |_=>exact h.elim
theorem zB {H:Hp}{kvm:List (j0×V)}(h:∀kv∈kvm,∃t,TyB K H kv.2 t)(n:Str):∃t,TyB K H ((p8 kvm (Sum.inr n:j0)).getD .non) t/\fm t "str"=wX kvm n:=by
 unfold wX;cases e:p8 kvm (Sum.inr n:j0) with
 |none=>exact⟨"NoneType",rfl,rfl⟩
 |some v=>
  obtain⟨t,ht⟩:=h _ (dR e)
  refine⟨t,ht,?_⟩
  rw[BJ (v:=v) ht]
  cases v<;>rfl
def fK (K:Qc)(P:Program)(w:World):Sp:=λvs H Q _=>∃(a p q a' p' q':Addr) (kvs c_:List (j0×V)) (Pc W:A6) (mv:V) (b:Bool),vs=[.ref a,.ref a',mv]/\WebIs 24 K H a p q kvs Pc/\WebIs 24 K H a' p' q' c_ W/\Fl K P w H mv Pc W b/\∀H',Same H H'->Q (.bl b) H'
abbrev ie (P:Program)(w:World)(K:Qc)(mg:Str->Option Value)(base:Heap):Prop:=O4 P w K mg base C2 3 "is_match" ["piece","web","match"] [] (fK K P w)
theorem mS {f:Addr}{fd:FuncData}(T:Txt K mg)(x8:K2 P w K mg base)(oy:wR P w K mg base)(B4:O1 P w K mg base)(F:Fun K "is_match" "is_match" ck f fd):A3 P w K mg base C2 3 f fd ["piece","web","match"] (fK K P w):=by
 refine F.ok sc_is_match (λvs H Q E h=>?_) (λd_ A outer s H vs Q E hr h=>?_)
 .obtain⟨a,p,q,a',p',q',kvs,c_,Pc,W,mv,b,rfl,_⟩:=h;rfl
 .obtain⟨a,p,q,a',p',q',kvs,c_,Pc,W,mv,b,rfl,hP,hW,hM,k⟩:=h;have YJ:=hP.len;have hN:=sc_is_match.nd;have hu:=u9 hr;refine⟨_,QSs.r (x6 (j8 (i:=3) hN rfl (by walk_at "l") (qC x8 (hr.mono (by decide)) j7 (j3 (qV 0) j6)))
   (x6 (bC (sL (oT (cK (U4 K (qB (nT K P w) T.b_isinstance Boot.«isinstance» (j3 (qV 2) (j3 (DD "dict" T.b_dict Boot.«dict») j6))))) (kh (x5 (ir K hr) (qB (C6 K P w) T.b_len Boot.«len» (j3 (qV 2) j6)) (qB (C6 K P w) T.b_len Boot.«len» (j3 (qV 3) j6)) (p7 _))))) (A7 (A1 wW)) cF)
   (x6 (bC (cK (U4 K (qB (tE K rfl) T.b_all Boot.«all» (j3 (E4 (own:=["name"]) (js:=[2]) (by kernel_rfl) rfl (Q4 K (qV 3)) (λ_ _ _ _=>(F9 (i:=0) (show List.Nodup (["name","match"]:List Str) by decide+kernel) rfl (by walk_at "l"))) (λ_ _ _ _=>af) (λ_ _ _ _=>(qB (nT K P w) T.b_isinstance Boot.«isinstance» (j3 (qo hu (qV 1) (qV 0)) (j3 (DD "str" T.b_str Boot.«str») j6))))) j6)))) (A7 (A1 wW)) cF)
   (x6 (bC (x5 (ir K hr) (qB (C6 K P w) T.b_len Boot.«len» (j3 (gD (Dk K rfl) T.b_set Boot.«set» (j3 (qC oy (hr.mono (by decide)) j7 (j3 (qV 0) (j3 (qV 2) j6))) j6)) j6)) (qB (C6 K P w) T.b_len Boot.«len» (j3 (qV 3) j6)) (p7 _)) (A7 (A1 wW)) cF)
   (x6 (bC (cK (U4 K (qB (tE K rfl) T.b_all Boot.«all» (j3 (E4 (own:=["name","kind"]) (js:=[2,1]) (by kernel_rfl) rfl (Q6 (k9 (l0 K hu) (qV 0) d8 (λ_ _=>rfl))) (λ_ _ _ _=>(oX K rfl (cH (F9 (i:=0) (show List.Nodup (["name","kind","match","web"]:List Str) by decide+kernel) rfl (by walk_at "l")) (cH (F9 (i:=1) (show List.Nodup (["name","kind","match","web"]:List Str) by decide+kernel) rfl (by walk_at "l")) oS)))) (λ_ _ _ _=>af) (λ_ _ _ _=>(dQ (M9 K hr) (qo hu (k9 (l0 K hu) (qV 3) d8 (λ_ _=>rfl)) (k9 (l0 K hu) (qV 2) (qV 0) (λ_ _=>rfl))) (qV 1) (p7 _)))) j6)))) (A7 (A1 wW)) cF)
   (A7 (A1 (qB (tE K rfl) T.b_all Boot.«all» (j3 (E4 (own:=["name","tie"]) (js:=[2,1]) (by kernel_rfl) rfl (Q6 (k9 (l0 K hu) (qV 0) d8 (λ_ _=>rfl))) (λ_ _ _ _=>(oX K rfl (cH (F9 (i:=0) (show List.Nodup (["name","tie","match","web"]:List Str) by decide+kernel) rfl (by walk_at "l")) (cH (F9 (i:=1) (show List.Nodup (["name","tie","match","web"]:List Str) by decide+kernel) rfl (by walk_at "l")) oS)))) (λ_ _ _ _=>af) (λ_ _ _ _=>(dQ (M9 K hr) (qo hu (k9 (l0 K hu) (qV 3) d8 (λ_ _=>rfl)) (k9 (l0 K hu) (qV 2) (qV 0) (λ_ _=>rfl))) (qC B4 (hr.mono (by decide)) j7 (j3 (qV 1) (j3 (qV 2) j6))) (p7 _)))) j6))))))))),?_⟩
  walk_at "r";refine⟨a,p,q,kvs,Pc,rfl,hP.at_,by lia,λln H1 s1 s2 n1 m1 f1 or=>?_⟩;have hlen:=or.len;walk_at "r";rcases hM with⟨t,ty,ht,rfl⟩|⟨d,n,rfl,hd,hn,G',rfl⟩|⟨d,kvm,rfl,YK,So,Wm,N_,rfl⟩
  .refine gR (gF (ty.mono m1) (by simp) ?_);rw[zJ ht];walk_at "r";exact k _ m1
  .refine .inr ⟨d,n,"dict",rfl,m1 _ _ hd,by simp,?_⟩;rw[uX];walk_at "r";refine vn (m1 _ _ hd) hn ?_;walk_at "r";refine C3 (x9 (SqL.of f1) ?_);rw[Gs,hlen];walk_at "r";refine aD (λhz=>?_) (λhz=>absurd (MG.mp hz) G');walk_at "r";exact k _ m1
  have hD:Rd H d (.dK kvm):= .inl YK;have D1:=m1.rd hD;refine gR (gF (t:="dict") (.inr (.inr ⟨rfl,_,D1⟩)) (by simp) ?_);rw[uX];walk_at "r";refine C3 (G5 D1 ?_);walk_at "r";refine C3 (x9 (SqL.of f1) ?_);rw[Gs,hlen];walk_at "r";refine aD (λhz=>?_) (λhz=>?_)
  .walk_at "r";rw[←gw (P:=Pc) (W:=W) (kvm:=kvm) (λz=>hz (by rw[z.len]))];exact k _ m1
  have OW:kvm.length=(d9 Pc).length:=MG.mp hz;walk_at "r";refine A0 (SqL.of f1) ?_;refine u4 (n:=(s1++s2).length) (λi out H'=>Same H1 H'/\out=((s1++s2).take i).map λn=>V.bl (wX kvm n)) ⟨Same.refl _,rfl⟩ (λi out H' hi hp=>⟨_,.str ((s1++s2)[i]),SqL.of (hp.1 _ _ f1),by rw[Gx,Gu hi];rfl⟩) ?_ ?_
  .rintro N i v out H2 H3 hi ⟨s3,rfl⟩ y hN';obtain⟨rfl,hx⟩:=Itl.get y (SqL.of (s3 _ _ f1));rw[Gx,Gu hi] at hx;cases hx;walk_at "r";refine⟨rfl,?_⟩;walk_at "r";refine⟨d,rfl,.inl ⟨_,s3.rd D1⟩,?_⟩;walk_at "r";refine⟨_,G3 (k:=Sum.inr (s1++s2)[i]) (s3.rd D1),?_⟩;obtain⟨t,ht,e⟩:=zB (K:=K) N_ (s1++s2)[i];walk_at "r";refine gR (gF (ht.mono (m1.trans s3)) (by simp) ?_);rw[e];refine⟨h9 (by rw[Gs,GC];lia),hN' _ _ ⟨s3,?_⟩⟩;exact C4 (λn:Str=>V.bl (wX kvm n)) (Gu hi)
  .rintro out H2 ⟨s3,rfl⟩;refine⟨⟨_,SqL.of (s3 _ _ f1),by rw[Gs];exact Gv _⟩,λD hD'=>⟨h9 (by rw[Gs,GC];lia),?_⟩⟩;rw[GD (Gv _)];have e9:((s1++s2).map λn=>V.bl (wX kvm n))=((s1++s2).map (wX kvm)).map V.bl:=by rw[GQ];rfl
   rw[e9];obtain⟨H3,e3,f3,m3,_⟩:=b4 (o:= .lst (((s1++s2).map (wX kvm)).map V.bl)) hD';have m4:=m1.trans (s3.trans m3);have f4:=m3 _ _ (s3 _ _ f1);walk_at "r";change rp K _ (p0 H2 D _) _;rw[e3];refine jx (SqL.of f3) ?_;walk_at "r";refine dJ (λhb=>?_) (λhb=>?_)
   .walk_at "r";rw[←gw (P:=Pc) (W:=W) (kvm:=kvm) (λz=>?_)]
    .exact k _ m4
    .have:((s1++s2).map (wX kvm)).all id=true:=by
      rw[IC,Hk];exact λn hn=>txB_iff.mpr (z.txt n (or.mem.mp hn))
     rw[this] at hb;cases hb
   have hT:∀n∈d9 Pc,TxtAt kvm n:=λn hn=>by
    rw[IC,Hk] at hb;exact txB_iff.mp (hb n (or.mem.mpr hn))
   walk_at "r";refine⟨a,p,q,d,kvs,Pc,kvm,rfl,hP.at_.mono m4.le,by lia,m4.rd hD,hT,λl5 H5 r1 r2 n5 m5 f5 or5=>?_⟩;have Rq:=or5.len;walk_at "r";refine⟨l5,_,rfl,SqL.of f5,by rw[Gs];lia,λl6 n6=>?_⟩;obtain⟨H6,e6,f6,m6,_⟩:=b4 (o:= .ext (cv l6 (eT ((r1++r2).map (i6 kvm))).length)) n6;rw[e6];walk_at "r";have Pn:(eT ((r1++r2).map (i6 kvm))).length<=1000:=by
    have z:=gZ ((r1++r2).map (i6 kvm)) [];rw[Gs] at z;unfold eT;simp only[JT] at z;lia
   refine jw f6 Pn ?_;walk_at "r";refine C3 (x9 (SqL.of (m6 _ _ (m5 _ _ f4))) ?_);rw[Gs,hlen];walk_at "r";have m7:=m4.trans (m5.trans m6);have Rr:(eT ((r1++r2).map (i6 kvm))).length=(d9 Pc).length↔((d9 Pc).map (i6 kvm)).Nodup:=by
    have z:=mF ((r1++r2).map (i6 kvm));rw[Gs,Rq] at z;rw[z];exact(or5.perm.map _).nodup_iff
   refine aD (λSq=>?_) (λSq=>?_)
   .walk_at "r";rw[←gw (P:=Pc) (W:=W) (kvm:=kvm) (λz=>Sq (by rw[Rr.mpr z.nd]))];exact k _ m7
   have D_:=Rr.mp (MG.mp Sq);clear Sq;have D7:=m7.rd hD;have Uy:=m7 _ _ hP.hp;have P7:=hP.same m7;have W7:=hW.same m7;have Uz:=k8 Pc.pts;have MD:=hP.at_.ts.length;rw[A4] at YJ;walk_at "r";refine b0 P7.at_.tup (b5 (j:=0) rfl) ?_;refine C7 Uy (λO' o8=>?_);refine u4 (n:=(i9 Pc.pts).length) (λi out H'=>Same (D0 p o8 (i9 Pc.pts) H6) H'/\out=(Pc.pts.take i).map λx=>V.bl (decide ((i6 kvm x.1,x.2)∈W.pts))) ⟨Same.refl _,rfl⟩ (λi out H' hi hp=>⟨hp.1 _ _ b7,hi⟩) ?_ ?_
   .rintro N i v out H8' H8 hi ⟨s8,rfl⟩ ⟨t,kv,f_,nt,rfl,rfl⟩ hN';obtain⟨x,hx,rfl⟩:=bE f_;obtain⟨H9,e9,f9,m9,_⟩:=b4 (o:= .tup _) nt;rw[e9];have WL:=(F8 (o:=o8) Uy).trans (s8.trans m9).le;have W9:=W7.at_.mono WL;have D9:=WL.dic D7;refine J3 (SqT.of f9) rfl ?_;walk_at "r";refine⟨rfl,?_⟩;walk_at "r";refine b0 W9.tup (b5 (j:=0) rfl) ?_;refine⟨p',rfl,.inl ⟨_,W9.pts⟩,?_⟩;walk_at "r";refine Ar D9 (hT _ (GA _ (Gw.mpr ⟨x,GJ hx,rfl⟩))) ?_;refine⟨_,G3 (k:=Sum.inr (i6 kvm x.1)) W9.pts,?_⟩;walk_at "r";refine DC (E6 W7.nd) ?_;refine⟨h9 (by rw[Gs,GC];lia),hN' _ _ ⟨s8.trans m9,?_⟩⟩;exact C4 (λx:Str×Str=>V.bl (decide ((i6 kvm x.1,x.2)∈W.pts))) hx
   .rintro out H8 ⟨s8,rfl⟩;refine⟨⟨s8 _ _ b7,Gv _⟩,λD8 hD8=>⟨h9 (by rw[Gs,GC];lia),?_⟩⟩;rw[Uz,GD (Gv _)];have Ph:(Pc.pts.map λx=>V.bl (decide ((i6 kvm x.1,x.2)∈W.pts)))=(Pc.pts.map λx=>decide ((i6 kvm x.1,x.2)∈W.pts)).map V.bl:=by rw[GQ];rfl
    rw[Ph];have sM:=K3 Uy s8 hD8 (u:= .lst ((Pc.pts.map λx=>decide ((i6 kvm x.1,x.2)∈W.pts)).map V.bl));have fM:=Z0 s8 hD8 (u:= .lst ((Pc.pts.map λx=>decide ((i6 kvm x.1,x.2)∈W.pts)).map V.bl));generalize thaw p (p0 H8 D8 (.lst ((Pc.pts.map λx=>decide ((i6 kvm x.1,x.2)∈W.pts)).map V.bl)))=HM at sM fM⊢;walk_at "r";refine jx (SqL.of fM) ?_;walk_at "r";have mM:=m7.trans sM;refine dJ (λLY=>?_) (λLY=>?_)
    .walk_at "r";rw[←gw (P:=Pc) (W:=W) (kvm:=kvm) (λz=>?_)]
     .exact k _ mM
     .have:(Pc.pts.map λx=>decide ((i6 kvm x.1,x.2)∈W.pts)).all id=true:=by
       rw[IC,Hk];exact λx hx=>Hf (z.pts x hx)
      rw[this] at LY;cases LY
    have UA:∀x∈Pc.pts,(i6 kvm x.1,x.2)∈W.pts:=λx hx=>by
     rw[IC,Hk] at LY;exact HI (LY x hx)
    have DM:=mM.rd hD;have PM:=hP.same mM;have WM:=hW.same mM;have UB:=PM.hq;walk_at "r";refine b0 PM.at_.tup (b5 (j:=1) rfl) ?_;refine C7 UB (λOE o10=>?_);refine u4 (n:=kvs.length) (λi out H'=>Same (D0 q o10 kvs HM) H'/\out=(Pc.ts.take i).map λx=>V.bl (decide ((i6 kvm x.1,(x.2.1,i6 kvm x.2.2.1,i6 kvm x.2.2.2))∈W.ts))) ⟨Same.refl _,rfl⟩ (λi out H' hi hp=>⟨hp.1 _ _ b7,hi⟩) ?_ ?_
    .rintro N i v out H11' UC hi ⟨s11,rfl⟩ ⟨t,kv,f_,nt,rfl,rfl⟩ hN';obtain⟨YL,Sr,Qf,MJ,_⟩:=b4 (o:= .tup _) nt;rw[Sr];have Po:=(F8 (o:=o10) UB).trans (s11.trans MJ).le;have Ss:=WM.at_.mono Po;have WN:=Po.dic DM;obtain⟨x,hx,ex,bb,eb,sb⟩:=(PM.at_.ts.mono Po).get f_;obtain⟨kk,M'⟩:=kv;have Nj:kk=Sum.inr x.1:=ex;have M_:M'= .ref bb:=eb;subst Nj M_;have LB:=GJ hx;have Oh:=hP.ends x LB;refine J3 (SqT.of Qf) rfl ?_;walk_at "r";refine⟨rfl,?_⟩;walk_at "r";refine b0 Ss.tup (b5 (j:=1) rfl) ?_;refine⟨q',rfl,.inl ⟨_,Ss.ties⟩,?_⟩;walk_at "r";refine Ar WN (hT _ (GG _ (Gw.mpr ⟨x,LB,rfl⟩))) ?_;refine⟨_,G3 (k:=Sum.inr (i6 kvm x.1)) Ss.ties,?_⟩;walk_at "r";refine⟨bb,d,x.2,kvm,rfl,sb,WN,hT _ (GA _ Oh.1),hT _ (GA _ Oh.2),λYM YN n13 NG Qg=>?_⟩;refine AH (Ss.mono NG.le).ts (K4 hW.nd) (SqT.of Qg) ?_;refine⟨h9 (by rw[Gs,GC];lia),hN' _ _ ⟨s11.trans (MJ.trans NG),?_⟩⟩;exact C4 (λx:Str×F2=>V.bl (decide ((i6 kvm x.1,(x.2.1,i6 kvm x.2.2.1,i6 kvm x.2.2.2))∈W.ts))) hx
    .rintro out UC ⟨s11,rfl⟩;refine⟨⟨s11 _ _ b7,Gv _⟩,λYO hD11=>⟨h9 (by rw[Gs,GC];lia),?_⟩⟩;rw[MD,GD (Gv _)];have Su:(Pc.ts.map λx=>V.bl (decide ((i6 kvm x.1,(x.2.1,i6 kvm x.2.2.1,i6 kvm x.2.2.2))∈W.ts)))=(Pc.ts.map λx=>decide ((i6 kvm x.1,(x.2.1,i6 kvm x.2.2.1,i6 kvm x.2.2.2))∈W.ts)).map V.bl:=by rw[GQ];rfl
     rw[Su];generalize UD:(Pc.ts.map λx=>decide ((i6 kvm x.1,(x.2.1,i6 kvm x.2.2.1,i6 kvm x.2.2.2))∈W.ts))=bs;have sN:=K3 UB s11 hD11 (u:= .lst (bs.map V.bl));have fN:=Z0 s11 hD11 (u:= .lst (bs.map V.bl));generalize thaw q (p0 UC YO (.lst (bs.map V.bl)))=HN at sN fN⊢;walk_at "r";refine jx (SqL.of fN) ?_;have eF:bs.all id=rE Pc W kvm:=by
      rw[←UD];cases hc:(Pc.ts.map λx=>decide ((i6 kvm x.1,(x.2.1,i6 kvm x.2.2.1,i6 kvm x.2.2.2))∈W.ts)).all id with
      |true=>
       rw[IC,Hk] at hc
       exact(qf ⟨OW,hT,D_,UA,λx hx=>HI (hc x hx)⟩).symm
      |false=>
       refine(gw λz=>?_).symm
       have:(Pc.ts.map λx=>decide ((i6 kvm x.1,(x.2.1,i6 kvm x.2.2.1,i6 kvm x.2.2.2))∈W.ts)).all id=true:=by
        rw[IC,Hk];exact λx hx=>Hf (z.ts x hx)
       rw[this] at hc;cases hc
     rw[eF];exact k _ (mM.trans sN)
def J0 (f:Str->Str)(W:A6):A6:=⟨W.pts.map λx=>(f x.1,x.2),W.ts.map λx=>(f x.1,(x.2.1,f x.2.2.1,f x.2.2.2))⟩
def ix (K:Qc):Sp:=λvs H Q _=>∃(a d p q:Addr) (kvs nm:List (j0×V)) (W:A6) (f:Str->Str),vs=[.ref a,.ref d]/\WebAt K H a p q kvs W/\H p=some (.dK (i9 W.pts))/\H q=some (.dK kvs)/\Rd H d (.dK nm)/\f=i6 nm/\(∀n∈d9 W,TxtAt nm n)/\((d9 W).map f).Nodup/\(d9 W).length<=60/\
 (∀x∈W.ts,x.2.2.1∈W.pts.map (·.1)/\x.2.2.2∈W.pts.map (·.1))/\NewP K H Q (J0 f W)
abbrev jq (P:Program)(w:World)(K:Qc)(mg:Str->Option Value)(base:Heap):Prop:=O4 P w K mg base C2 3 "renamed" ["web","names"] [] (ix K)
theorem oq {f:Addr}{fd:FuncData}(T:Txt K mg)(B4:O1 P w K mg base)(K5:de P w K mg base)(F:Fun K "renamed" "renamed" eh f fd):A3 P w K mg base C2 3 f fd ["web","names"] (ix K):=by
 refine F.ok sc_renamed (λvs H Q E h=>?_) (λd_ A outer s H vs Q E hr h=>?_)
 .obtain⟨a,d,p,q,kvs,nm,W,f,rfl,_⟩:=h;rfl
 .obtain⟨a,d,p,q,kvs,nm,W,f,rfl,hW,hp,hq,hd,rfl,hT,D_,hl,hE,k⟩:=h;have hf:∀n∈d9 W,p8 nm (Sum.inr n:j0)=some (.str (i6 nm n)):=λn hn=>(hT n hn).at_;have Rt:W.pts.length+W.ts.length<=60:=by unfold d9 at hl;rw[GF,Gs,Gs] at hl;exact hl
  have YQ:∀x∈W.pts,p8 nm (Sum.inr x.1:j0)=some (.str (i6 nm x.1)):=λx hx=>hf _ (GA _ (Gw.mpr ⟨x,hx,rfl⟩));have YR:∀x∈W.ts,p8 nm (Sum.inr x.1:j0)=some (.str (i6 nm x.1)):=λx hx=>hf _ (GG _ (Gw.mpr ⟨x,hx,rfl⟩));have nd1:((J0 (i6 nm) W).pts.map (·.1)).Nodup:=by
   unfold d9 at D_;rw[Gy] at D_;have z:=(GX.mp D_).1;unfold J0;rw[GQ] at z⊢;exact z
  have Nn:((J0 (i6 nm) W).ts.map (·.1)).Nodup:=by
   unfold d9 at D_;rw[Gy] at D_;have z:=(GX.mp D_).2.1;unfold J0;rw[GQ] at z⊢;exact z
  have Lw:=k8 W.pts;have MD:=hW.ts.length;have hN:=sc_renamed.nd;have hu:=u9 hr;refine⟨_,QSs.r (x6 (j8 (i:=2) hN rfl (by walk_at "l") (gD (X9 K rfl) T.b_dict Boot.«dict» (j3 (E4 (own:=["name","kind"]) (js:=[1]) (by kernel_rfl) rfl (Q6 (k9 (l0 K hu) (qV 0) d8 (λ_ _=>rfl))) (λ_ _ _ _=>(oX K rfl (cH (F9 (i:=0) (show List.Nodup (["name","kind","names"]:List Str) by decide+kernel) rfl (by walk_at "l")) (cH (F9 (i:=1) (show List.Nodup (["name","kind","names"]:List Str) by decide+kernel) rfl (by walk_at "l")) oS)))) (λ_ _ _ _=>af) (λ_ _ _ _=>(P5 (j3 (k9 (l0 K hu) (qV 2) (qV 0) (λ_ _=>rfl)) (j3 (qV 1) j6))))) j6)))
   (x6 (j8 (i:=3) hN rfl (by walk_at "l") (gD (X9 K rfl) T.b_dict Boot.«dict» (j3 (E4 (own:=["name","tie"]) (js:=[1]) (by kernel_rfl) rfl (Q6 (k9 (l0 K hu) (qV 0) d8 (λ_ _=>rfl))) (λ_ _ _ _=>(oX K rfl (cH (F9 (i:=0) (show List.Nodup (["name","tie","names"]:List Str) by decide+kernel) rfl (by walk_at "l")) (cH (F9 (i:=1) (show List.Nodup (["name","tie","names"]:List Str) by decide+kernel) rfl (by walk_at "l")) oS)))) (λ_ _ _ _=>af) (λ_ _ _ _=>(P5 (j3 (k9 (l0 K hu) (qV 2) (qV 0) (λ_ _=>rfl)) (j3 (qC B4 (hr.mono (by decide)) j7 (j3 (qV 1) (j3 (qV 2) j6))) j6))))) j6)))
   (A7 (A1 (qC K5 (hr.mono (by decide)) j7 (j3 (P5 (j3 (qV 2) (j3 (qV 3) j6))) j6)))))),?_⟩
  walk_at "r";refine b0 hW.tup (b5 (j:=0) rfl) ?_;refine C7 hp (λO' o1=>?_);refine u4 (n:=(i9 W.pts).length) (λi out H'=>Same (D0 p o1 (i9 W.pts) H) H'/\Paired (PrV K H') out (i9 ((W.pts.take i).map λx=>(i6 nm x.1,x.2)))) ⟨Same.refl _,.nil⟩ (λi out H' hi hp=>⟨hp.1 _ _ b7,hi⟩) ?_ ?_
  .rintro N i v out H1 H2 hi ⟨s1,pr⟩ ⟨t,kv,f_,nt,rfl,rfl⟩ hN';obtain⟨x,hx,rfl⟩:=bE f_;obtain⟨H3,e3,f3,m3,_⟩:=b4 (o:= .tup _) nt;rw[e3];have d3:=((F8 (o:=o1) hp).trans (s1.trans m3).le).dic hd;have e7:W.pts.take (i+1)=W.pts.take i++[x]:=by rw[Ho,hx];rfl
   refine J3 (SqT.of f3) rfl ?_;walk_at "r";refine⟨rfl,?_⟩;walk_at "r";refine B6 (v:= .str (i6 nm x.1)) (by have z':=G3 (k:=Sum.inr x.1) d3;rw[YQ x (GJ hx)] at z';exact z') ?_;walk_at "r";refine⟨h9 (by simp),λt4 n4=>?_⟩;obtain⟨H4,e4,f4,m4,_⟩:=b4 (o:= .tup _) n4;rw[e4];have C_:=Hn pr;rw[k8,Gs,GC] at C_;refine⟨h9 (by lia),hN' _ _ ⟨s1.trans (m3.trans m4),?_⟩⟩;rw[e7,Gy];unfold i9 at pr⊢;rw[Gy];exact q8 (Paired.imp' (λ_ _ z=>PrV.mono (m3.trans m4).le z) pr) ⟨t4,rfl,SqT.of f4⟩
  .rintro out H1 ⟨s1,pr⟩;have C_:=Hn pr;rw[k8,Gs,GC] at C_;refine⟨⟨s1 _ _ b7,Gv _⟩,λD hD=>⟨h9 (by lia),?_⟩⟩;have sM:=K3 hp s1 hD (u:= .lst out);have fM:=Z0 s1 hD (u:= .lst out);have Pk:=Paired.imp' (λ_ _ z=>PrV.mono (lI (d:=p) (u:= .lst out) hD) z) pr;generalize thaw p (p0 H1 D (.lst out))=HM at sM fM Pk⊢;rw[GD (by lia)] at Pk;walk_at "r";refine N9 (SqL.of fM) Pk (h9 (by rw[k8,Gs];lia)) (λpp npp=>?_);have eP:X3 (i9 (W.pts.map λx=>(i6 nm x.1,x.2)))=i9 (J0 (i6 nm) W).pts:=T6 (Z8 nd1);rw[eP];obtain⟨H2,e2,f2,m2,_⟩:=b4 (o:= .dK (i9 (J0 (i6 nm) W).pts)) npp;show Q3 _ _ _ (p0 HM pp (.dK (i9 (J0 (i6 nm) W).pts))) _;rw[e2];have s2:=sM.trans m2;have W2:=hW.mono s2.le;have Pl:=s2 _ _ hq;walk_at "r";refine b0 W2.tup (b5 (j:=1) rfl) ?_;refine C7 Pl (λOE o2=>?_);refine u4 (n:=kvs.length) (λi out H'=>Same (D0 q o2 kvs H2) H'/\∃ks2,Paired (PrV K H') out ks2/\TiesIs K H' ks2 ((W.ts.take i).map λx=>(i6 nm x.1,(x.2.1,i6 nm x.2.2.1,i6 nm x.2.2.2)))) ⟨Same.refl _,[],.nil,.nil⟩ (λi out H' hi hp=>⟨hp.1 _ _ b7,hi⟩) ?_ ?_
   .rintro N i v out H3 H3' hi ⟨s3,ks2,pr3,ti3⟩ ⟨t,kv,f_,nt,rfl,rfl⟩ hN';obtain⟨H4,e4,f4,m4,_⟩:=b4 (o:= .tup _) nt;rw[e4];have Og:=(F8 (o:=o2) Pl).trans (s3.trans m4).le;have d4:=Og.dic (s2.rd hd);obtain⟨x,hx,ex,b,eb,sb⟩:=(W2.ts.mono Og).get f_;have LB:x∈W.ts:=GJ hx;have e7:W.ts.take (i+1)=W.ts.take i++[x]:=by rw[Ho,hx];rfl
    refine J3 (SqT.of f4) rfl ?_;rw[ex,eb];walk_at "r";refine⟨rfl,?_⟩;walk_at "r";refine B6 (v:= .str (i6 nm x.1)) (by have z':=G3 (k:=Sum.inr x.1) d4;rw[YR x LB] at z';exact z') ?_;walk_at "r";refine⟨b,d,x.2,nm,rfl,sb,d4,hT _ (GA _ (hE x LB).1),hT _ (GA _ (hE x LB).2),λt5 H5 n5 m5 f5=>?_⟩;walk_at "r";refine⟨h9 (by simp),λt6 n6=>?_⟩;obtain⟨H6,e6,f6,m6,_⟩:=b4 (o:= .tup _) n6;rw[e6];have C_:=Hn pr3;have Pp:=ti3.length;rw[Gs,GC] at Pp;have mA:=m4.trans (m5.trans m6);refine⟨h9 (by lia),hN' _ _ ⟨s3.trans mA,ks2++[((Sum.inr (i6 nm x.1):j0),V.ref t5)],q8 (Paired.imp' (λ_ _ z=>PrV.mono mA.le z) pr3) (show PrV K H6 (.ref t6) ((Sum.inr (i6 nm x.1):j0),V.ref t5) from⟨t6,rfl,SqT.of f6⟩),?_⟩⟩;rw[e7,Gy];exact q8 (ti3.mono mA.le) ⟨rfl,t5,rfl,SqT.of (m6 _ _ f5)⟩
   .rintro out H3 ⟨s3,ks2,pr3,ti3⟩;have C_:=Hn pr3;have Pp:=ti3.length;rw[Gs,GC] at Pp;refine⟨⟨s3 _ _ b7,Gv _⟩,λD' hD'=>⟨h9 (by lia),?_⟩⟩;have sN:=K3 Pl s3 hD' (u:= .lst out);have fN:=Z0 s3 hD' (u:= .lst out);have WO:=lI (d:=q) (u:= .lst out) hD';have WQ:=Paired.imp' (λ_ _ z=>PrV.mono WO z) pr3;have Sv:=ti3.mono WO;generalize thaw q (p0 H3 D' (.lst out))=HN at sN fN WQ Sv⊢;rw[GD (by lia)] at Sv;have ndk:(ks2.map (·.1)).Nodup:=by
     rw[Sv.keys,←r6];refine Ja _ ?_ Nn;exact λa b h z=>h (Ij z)
    walk_at "r";refine N9 (SqL.of fN) WQ (h9 (by lia)) (λqq nqq=>?_);rw[T6 ndk];obtain⟨H5,e5,f5,m5,_⟩:=b4 (o:= .dK ks2) nqq;show Q3 _ _ _ (p0 HN qq (.dK ks2)) _;rw[e5];walk_at "r";refine⟨h9 (by simp),λt9 n9=>?_⟩;obtain⟨H9,e9,f9,m9,_⟩:=b4 (o:= .tup _) n9;rw[e9];walk_at "r";have sA:=s2.trans (sN.trans (m5.trans m9));have gp:=m9 _ _ (m5 _ _ (sN _ _ f2));have gq:=m9 _ _ f5;refine⟨t9,pp,qq,ks2,J0 (i6 nm) W,rfl,⟨SqT.of f9,.inl gp,.inl gq,Sv.mono (m5.trans m9).le⟩,nd1,Nn,by unfold J0;rw[Gs];lia,by unfold J0;rw[Gs];lia,λa' p' q' c_ W' H' sH hW' h1 h2 h3 h4 h5 h6 h7=>k a' p' q' c_ W' H' (sA.trans sH) hW' h1 h2 h3 (sA.free h4) (sA.free h5) h6 h7⟩
def Cd (W M:A6):A6:=⟨(W.pts.filter λx=>!decide (x.1∈M.pts.map (·.1)))++M.pts,(W.ts.filter λx=>!decide (x.1∈M.ts.map (·.1)))++M.ts⟩
theorem rK {k:j0}{v:V}:∀{ka:List (j0×V)},(ka.map (·.1)).Nodup->(B9 ka k v).Perm ((ka.filter λx=>!decide (x.1=k))++[(k,v)]):=by
 have rep:∀{ka:List (j0×V)},(ka.map (·.1)).Nodup->(∃x∈ka,x.1=k)->(ka.map λx=>if x.1=k then(x.1,v) else x).Perm ((ka.filter λx=>!decide (x.1=k))++[(k,v)]):=by
  intro ka;induction ka with
  |nil=>rintro _ ⟨x,h,_⟩;cases h
  |cons p r ih=>
   intro nd hx
   have nd':=Hs.mp (show(p.1::r.map (·.1)).Nodup from nd)
   by_cases e:p.1=k
   .have hr:∀x∈r,¬x.1=k:=λx hx z=>nd'.1 (by rw[e,←z];exact Gw.mpr ⟨x,hx,rfl⟩)
    have e1:(r.map λx=>if x.1=k then(x.1,v) else x)=r:=(Iq λx hx=>by rw[if_neg (hr x hx)]).trans (KJ r)
    have e2:(r.filter λx=>!decide (x.1=k))=r:=Jk.mpr λx hx=>by rw[Hc (hr x hx)];rfl
    rw[Hu,if_pos e,e1,HG (by simp [e]),e2,e]
    exact Jz (l₁:=[(k,v)]) (l₂:=r)
   .rw[Hu,if_neg e,Hz (by simp [e]),Lm]
    refine List.Perm.cons _ (ih nd'.2 ?_)
    obtain⟨x,hx,ex⟩:=hx
    rcases Hh.mp hx with z|z
    .exact absurd (z▸ex) e
    .exact⟨x,z,ex⟩
 intro ka nd;cases hv:p8 ka k with
 |none=>
  rw[E8 v hv,Jk.mpr λx hx=>?_]
  have:x.1≠k:=λz=>by
   have q:=cM nd hx;rw[z,hv] at q;cases q
  simp [this]
 |some y=>
  have hx:∃x∈ka,x.1=k:=⟨_,dR hv,rfl⟩
  unfold B9
  rw[if_pos (by rw[G9,hv];rfl)]
  exact rep nd hx
open Classical in
theorem bf:∀{kb ka:List (j0×V)},(ka.map (·.1)).Nodup->(kb.map (·.1)).Nodup->(K0 ka kb).Perm ((ka.filter λx=>!decide (x.1∈kb.map (·.1)))++kb)
 |[],ka,_,_=>by
  show ka.Perm _;rw[HX,Jk.mpr λx _=>by simp]
 |p::r,ka,nd,nb=>by
  have WR:=Hs.mp (show(p.1::r.map (·.1)).Nodup from nb);have ih:=bf (kb:=r) (ka:=B9 ka p.1 p.2) (zR nd) WR.2;refine(show(K0 (B9 ka p.1 p.2) r).Perm _ from ih).trans ?_;have h1:=(rK (k:=p.1) (v:=p.2) nd).filter λx=>!decide (x.1∈r.map (·.1));refine(h1.append_right r).trans ?_;rw[Hw,Iz,Hz (by rw[Hc WR.1];rfl),Iv,Hl];have e:(ka.filter λx=>(!decide (x.1∈r.map (·.1))&& !decide (x.1=p.1)))=ka.filter λx=>!decide (x.1∈(p::r).map (·.1)):=Kh λx _=>by
   rw[Hq];simp only[GP,Hm,GV,Hu,Hh,not_or];exact And.comm
  rw[e];exact List.Perm.refl _
theorem jQ {A:List (Str×Str)}{B:List Str}{n:Str}:((Sum.inr n:j0)∈B.map (Sum.inr:Str->j0))↔n∈B:=⟨K6,λh=>Gw.mpr ⟨n,h,rfl⟩⟩
open Classical in
theorem yo {A B:List (Str×Str)}(na:(A.map (·.1)).Nodup)(nb:(B.map (·.1)).Nodup):∃U,K0 (i9 A) (i9 B)=i9 U/\U.Perm ((A.filter λx=>!decide (x.1∈B.map (·.1)))++B):=by
 have h:=bf (Z8 na) (Z8 nb);have pr:Paired (fun(kv:j0×V) (x:Str×Str)=>kv=(Sum.inr x.1,.str x.2)) (((i9 A).filter λx=>!decide (x.1∈(i9 B).map (·.1)))++i9 B) ((A.filter λx=>!decide (x.1∈B.map (·.1)))++B):=by
  refine cE (O8 (λkv x e=>?_) (Y9 A)) (Y9 B);rw[e,B7,←r6];congr 1;rw[Hq,GS,GS];exact jQ (A:=A)
 obtain⟨U,h1,h2⟩:=U0 h pr;exact⟨U,cc h1,h2⟩
open Classical in
theorem AW {H:Hp}{ka kb:List (j0×V)}{A B:List (Str×F2)}(wa:TiesIs K H ka A)(wb:TiesIs K H kb B)(na:(A.map (·.1)).Nodup)(nb:(B.map (·.1)).Nodup):∃U,TiesIs K H (K0 ka kb) U/\U.Perm ((A.filter λx=>!decide (x.1∈B.map (·.1)))++B):=by
 have h:=bf (pY wa na) (pY wb nb);have pr:Paired (TieAt K H) ((ka.filter λx=>!decide (x.1∈kb.map (·.1)))++kb) ((A.filter λx=>!decide (x.1∈B.map (·.1)))++B):=by
  refine cE (O8 (λkv x e=>?_) wa) wb;rw[e.1,wb.keys,←r6];congr 1;rw[Hq,GS,GS];exact jQ (A:=[])
 exact U0 h pr
theorem qG {α:Type}{A B:List (Str×α)}(na:(A.map (·.1)).Nodup)(nb:(B.map (·.1)).Nodup):(((A.filter λx=>!decide (x.1∈B.map (·.1)))++B).map (·.1)).Nodup:=
 Ak (N4 na) nb λn hn hm=>by
  obtain⟨x,hx,rfl⟩:=Gw.mp hm;have z:=(GR.mp hx).2;rw[Hf hn] at z;cases z
def jE (K:Qc):Sp:=λvs H Q _=>∃(a p q b p2 q2:Addr) (kvs E_:List (j0×V)) (W M:A6),vs=[.ref a,.ref b]/\WebAt K H a p q kvs W/\WebAt K H b p2 q2 E_ M/\(W.pts.map (·.1)).Nodup/\(W.ts.map (·.1)).Nodup/\(M.pts.map (·.1)).Nodup/\(M.ts.map (·.1)).Nodup/\W.pts.length+M.pts.length<=60/\W.ts.length+M.ts.length<=60/\NewP K H Q (Cd W M)
theorem NewP.permM {H H1:Hp}{Q:VK}{W W1:A6}(s:Same H H1)(p1:W1.pts.Perm W.pts)(p2:W1.ts.Perm W.ts)(k:NewP K H Q W):NewP K H1 Q W1:=λa p q kvs W' H' s' h1 h2 h3 h4 h5 h6 h7 h8=>k a p q kvs W' H' (s.trans s') h1 h2 h3 h4 (s.free h5) (s.free h6) (h7.trans p1) (h8.trans p2)
abbrev mW (P:Program)(w:World)(K:Qc)(mg:Str->Option Value)(base:Heap):Prop:=O4 P w K mg base C2 3 "united" ["web","more"] [] (jE K)
theorem qW {f:Addr}{fd:FuncData}(T:Txt K mg)(K5:de P w K mg base)(F:Fun K "united" "united" iL f fd):A3 P w K mg base C2 3 f fd ["web","more"] (jE K):=by
 refine F.ok sc_united (λvs H Q E h=>?_) (λd_ A outer s H vs Q E hr h=>?_)
 .obtain⟨a,p,q,b,p2,q2,kvs,E_,W,M,rfl,_⟩:=h;rfl
 .obtain⟨a,p,q,b,p2,q2,kvs,E_,W,M,rfl,hW,hM,Sw,Sy,nm1,nm2,lw1,lw2,k⟩:=h;have MD:=hW.ts.length;have YS:=hM.ts.length;have hN:=sc_united.nd;have hu:=u9 hr;refine⟨_,QSs.r (x6 (j8 (i:=2) hN rfl (by walk_at "l") (gD (X9 K rfl) T.b_dict Boot.«dict» (j3 (k9 (l0 K hu) (qV 0) d8 (λ_ _=>rfl)) j6)))
   (x6 (uC (qM HL IZ JO P6 K (qV 2) (j3 (k9 (l0 K hu) (qV 1) d8 (λ_ _=>rfl)) j6)))
   (x6 (j8 (i:=3) hN rfl (by walk_at "l") (gD (X9 K rfl) T.b_dict Boot.«dict» (j3 (k9 (l0 K hu) (qV 0) d8 (λ_ _=>rfl)) j6)))
   (x6 (uC (qM HL IZ JO P6 K (qV 3) (j3 (k9 (l0 K hu) (qV 1) d8 (λ_ _=>rfl)) j6)))
   (A7 (A1 (qC K5 (hr.mono (by decide)) j7 (j3 (P5 (j3 (qV 2) (j3 (qV 3) j6))) j6)))))))),?_⟩
  walk_at "r";refine b0 hW.tup (b5 (j:=0) rfl) ?_;walk_at "r";refine J6 hW.pts (λpp npp=>?_);obtain⟨H1,e1,f1,m1,_⟩:=b4 (o:= .dK _) npp;rw[e1];have M1:=hM.mono m1.le;walk_at "r";refine⟨.inr (.inr (.inl ⟨rfl,.inl ⟨_,f1⟩⟩)),?_⟩;walk_at "r";refine b0 M1.tup (b5 (j:=0) rfl) ?_;walk_at "r";have YT:pp≠p2:=λz=>by
   have z2:=hM.pts;rw[←z] at z2;rcases z2 with z2|⟨_,z2⟩<;>(rw[npp] at z2;cases z2)
  refine⟨pp,p2,i9 W.pts,i9 M.pts,rfl,rfl,f1,M1.pts,YT,by rw[k8,k8];lia,?_⟩;obtain⟨UP,YU,UE⟩:=yo Sw nm1;rw[YU];have s2:Same H (p0 H1 pp (.dK (i9 UP))):=B5 m1 npp;have f2:(p0 H1 pp (.dK (i9 UP))) pp=some (.dK (i9 UP)):=b7;generalize p0 H1 pp (.dK (i9 UP))=H2 at s2 f2⊢;have W2:=hW.mono s2.le;walk_at "r";refine b0 W2.tup (b5 (j:=1) rfl) ?_;walk_at "r";refine J6 W2.ties (λqq nqq=>?_);obtain⟨H3,e3,f3,m3,_⟩:=b4 (o:= .dK _) nqq;rw[e3];have s3:=s2.trans m3;have M3:=hM.mono s3.le;have M2:=hM.mono s2.le;walk_at "r";refine⟨.inr (.inr (.inl ⟨rfl,.inl ⟨_,f3⟩⟩)),?_⟩;walk_at "r";refine b0 M3.tup (b5 (j:=1) rfl) ?_;walk_at "r";have YV:qq≠q2:=λz=>by
   have z2:=M2.ties;rw[←z] at z2;rcases z2 with z2|⟨_,z2⟩<;>(rw[nqq] at z2;cases z2)
  obtain⟨UT,YW,UG⟩:=AW (hW.mono s3.le).ts M3.ts Sy nm2;refine⟨qq,q2,kvs,E_,rfl,rfl,f3,M3.ties,YV,by lia,?_⟩;have s4:Same H2 (p0 H3 qq (.dK (K0 kvs E_))):=B5 m3 nqq;have f4:(p0 H3 qq (.dK (K0 kvs E_))) qq=some (.dK (K0 kvs E_)):=b7;have WS:TiesIs K (p0 H3 qq (.dK (K0 kvs E_))) (K0 kvs E_) UT:=P1 f3 YW;generalize p0 H3 qq (.dK (K0 kvs E_))=H4 at s4 f4 WS⊢;walk_at "r";refine⟨h9 (by simp),λt9 n9=>?_⟩;obtain⟨H9,e9,f9,m9,_⟩:=b4 (o:= .tup _) n9;rw[e9];walk_at "r";have Ru:=GI (λx:Str×Str=>!decide (x.1∈M.pts.map (·.1))) W.pts;have YX:=GI (λx:Str×F2=>!decide (x.1∈M.ts.map (·.1))) W.ts;refine⟨t9,pp,qq,_,⟨UP,UT⟩,rfl,⟨SqT.of f9,.inl (m9 _ _ (s4 _ _ f2)),.inl (m9 _ _ f4),WS.mono m9.le⟩,(UE.map _).nodup_iff.mpr (qG Sw nm1),(UG.map _).nodup_iff.mpr (qG Sy nm2),?_,?_,NewP.permM (s2.trans (s4.trans m9)) UE UG k⟩
  .show UP.length<=60;rw[UE.length_eq,GF];lia
  .show UT.length<=60;rw[UG.length_eq,GF];lia
theorem U3 {fr:List (Str×Str)}(nd:(fr.map (·.1)).Nodup){n s:Str}(h:(n,s)∈fr):TxtAt (i9 fr) n/\i6 (i9 fr) n=s:=⟨⟨s,aU nd h⟩,bB (aU nd h)⟩
theorem iR {ss:List Str}{f:Str->Str}(nd:ss.Nodup){n:Str}(h:n∈ss):TxtAt (i9 (ss.map λn=>(n,f n))) n/\i6 (i9 (ss.map λn=>(n,f n))) n=f n:=
 U3 (by rw[GQ];exact(KJ ss).symm▸nd) (Gw.mpr ⟨n,h,rfl⟩)
def jC (K:Qc):Sp:=λvs H Q _=>∃(d l:Addr) (kvs:List (j0×V)) (ss:List Str),vs=[.ref d,.ref l]/\Rd H d (.dK kvs)/\SqL K H l (ss.map V.str)/\ss.Nodup/\ss.length<=60/\(∀n∈ss,TxtAt kvs n)/\∀(d':Addr) (H':Hp),H d'=none->Same H H'->H' d'=some (.dK (i9 (ss.map λn=>(n,i6 kvs n))))->Q (.ref d') H'
abbrev mR (P:Program)(w:World)(K:Qc)(mg:Str->Option Value)(base:Heap):Prop:=O4 P w K mg base C2 1 "picked" ["put","names"] [] (jC K)
theorem sJ {f:Addr}{fd:FuncData}(T:Txt K mg)(F:Fun K "picked" "picked" iK f fd):A3 P w K mg base C2 1 f fd ["put","names"] (jC K):=by
 refine F.ok sc_picked (λvs H Q E h=>?_) (λd_ A outer s H vs Q E hr h=>?_)
 .obtain⟨d,l,kvs,ss,rfl,_⟩:=h;rfl
 .obtain⟨d,l,kvs,ss,rfl,hD,hL,nd,hl,hT,k⟩:=h;have hN:=sc_picked.nd;have hu:=u9 hr;refine⟨_,QSs.r (A7 (A1 (gD (X9 K rfl) T.b_dict Boot.«dict» (j3 (E4 (own:=["name"]) (js:=[0]) (by kernel_rfl) rfl (Q4 K (qV 1)) (λ_ _ _ _=>(F9 (i:=0) (show List.Nodup (["name","put"]:List Str) by decide+kernel) rfl (by walk_at "l"))) (λ_ _ _ _=>af) (λ_ _ _ _=>(P5 (j3 (qV 0) (j3 (k9 (l0 K hu) (qV 1) (qV 0) (λ_ _=>rfl)) j6))))) j6)))),?_⟩;walk_at "r";refine A0 hL ?_;refine u4 (n:=ss.length) (λi out H'=>Same H H'/\Paired (PrV K H') out (i9 ((ss.take i).map λn=>(n,i6 kvs n)))) ⟨Same.refl _,.nil⟩ (λi out H' hi hp=>⟨_,.str (ss[i]),hp.1.seq hL,by rw[Gx,Gu hi];rfl⟩) ?_ ?_
  .rintro N i v out H2' H2 hi ⟨s2,pr⟩ y hN';obtain⟨rfl,hx⟩:=Itl.get y (s2.seq hL);rw[Gx,Gu hi] at hx;cases hx;have C_:=Hn pr;rw[k8,Gs,GC] at C_;walk_at "r";refine⟨rfl,?_⟩;walk_at "r";refine Ar (s2.rd hD) (hT _ (Hv hi)) ?_;walk_at "r";refine⟨h9 (by simp),λt4 n4=>?_⟩;obtain⟨H4,e4,f4,m4,_⟩:=b4 (o:= .tup _) n4;rw[e4];refine⟨h9 (by lia),hN' _ _ ⟨s2.trans m4,?_⟩⟩;rw[Ho,Gu hi,Gy];unfold i9 at pr⊢;rw[Gy];exact q8 (Paired.imp' (λ_ _ z=>PrV.mono m4.le z) pr) ⟨t4,rfl,SqT.of f4⟩
  .rintro out H2 ⟨s2,pr⟩;have C_:=Hn pr;rw[k8,Gs,GC] at C_;refine⟨⟨_,s2.seq hL,by rw[Gs];exact Gv _⟩,λD hD'=>⟨h9 (by lia),?_⟩⟩;rw[GD (Gv _)] at pr;obtain⟨H3,e3,f3,m3,_⟩:=b4 (H:=H2) (o:= .lst out) hD';walk_at "r";change ky K _ (p0 H2 D _) _;rw[e3];refine N9 (SqL.of f3) (Paired.imp' (λ_ _ z=>PrV.mono m3.le z) pr) (h9 (by rw[k8,Gs];lia)) (λpp npp=>?_);rw[T6 (Z8 (by rw[GQ];exact(KJ ss).symm▸nd))];obtain⟨H4,e4,f4,m4,_⟩:=b4 (o:= .dK _) npp;rw[e4];exact k pp H4 (s2.free (m3.free npp)) (s2.trans (m3.trans m4)) f4
def dq (K:Qc):Sp:=λvs H Q _=>∃(st r m bl:Addr) (x:V) (L R:Sd) (bs:List Sd) (km:List (j0×V)),vs=[.ref st]/\SqT K H st [.ref r,.ref m,x]/\RuleIs K H r bl L R bs/\Rd H m (.dK km)/\(∀n∈d9 L.W,TxtAt km n)/\∀(l:Addr) (H':Hp) (s1 s2:List Str),H l=none->Same H H'->Ordr L.W s1 s2->H' l=some (.lst ((((s1++s2).filter λn=>!decide (n∈d9 R.W)).map (i6 km)).map V.str))->Q (.ref l) H'
abbrev fL (P:Program)(w:World)(K:Qc)(mg:Str->Option Value)(base:Heap):Prop:=O4 P w K mg base C2 4 "taken_out" ["step"] [] (dq K)
theorem kn {f:Addr}{fd:FuncData}(T:Txt K mg)(lE:qv P w K mg base)(F:Fun K "taken_out" "taken_out" bu f fd):A3 P w K mg base C2 4 f fd ["step"] (dq K):=by
 refine F.ok sc_taken_out (λvs H Q E h=>?_) (λd_ A outer s H vs Q E hr h=>?_)
 .obtain⟨st,r,m,bl,x,L,R,bs,km,rfl,_⟩:=h;rfl
 .obtain⟨st,r,m,bl,x,L,R,bs,km,rfl,hS,hR,hM,hT,k⟩:=h;have UH:=hR.l.len;have hN:=sc_taken_out.nd;have hu:=u9 hr;refine⟨_,QSs.r (A7 (A1 (E4 (own:=["name"]) (js:=[0]) (by kernel_rfl) rfl (Q4 K (qC lE (hr.mono (by decide)) j7 (j3 (k9 (l0 K hu) (qV 0) d8 (λ_ _=>rfl)) j6))) (λ_ _ _ _=>(F9 (i:=0) (show List.Nodup (["name","step"]:List Str) by decide+kernel) rfl (by walk_at "l"))) (λ_ _ _ _=>af) (λ_ _ _ _=>(k9 (l0 K hu) (k9 (l0 K hu) (qV 1) d8 (λ_ _=>rfl)) (qV 0) (λ_ _=>rfl)))))),?_⟩;walk_at "r";refine b0 hS (b5 (j:=0) rfl) ?_;walk_at "r";refine⟨r,bl,L,R,bs,rfl,hR,λl1 H1 s1 s2 n1 m1 or f1=>?_⟩;have hlen:=or.len;have A_:=GI (λn=>!decide (n∈d9 R.W)) (s1++s2);have k_:∀n∈(s1++s2).filter λn=>!decide (n∈d9 R.W),TxtAt km n:=λn hn=>hT n (or.mem.mp (GR.mp hn).1);have k':=λl H' h1 h2=>k l H' s1 s2 h1 h2 or;clear k;generalize (s1++s2).filter (λn=>!decide (n∈d9 R.W))=ss at f1 A_ k_ k';refine A0 (SqL.of f1) ?_;refine u4 (n:=ss.length) (λi out H'=>Same H1 H'/\out=(ss.take i).map λn=>V.str (i6 km n)) ⟨Same.refl _,rfl⟩ (λi out H' hi hp=>⟨_,.str (ss[i]),SqL.of (hp.1 _ _ f1),by rw[Gx,Gu hi];rfl⟩) ?_ ?_
  .rintro N i v out H2' H2 hi ⟨s3,rfl⟩ y hN';obtain⟨rfl,hx⟩:=Itl.get y (SqL.of (s3 _ _ f1));rw[Gx,Gu hi] at hx;cases hx;walk_at "r";refine⟨rfl,?_⟩;walk_at "r";refine b0 ((m1.trans s3).tup hS) (b5 (j:=1) rfl) ?_;walk_at "r";refine Ar ((m1.trans s3).rd hM) (k_ _ (Hv hi)) ?_;refine⟨h9 (by rw[Gs,GC];lia),hN' _ _ ⟨s3,?_⟩⟩;exact C4 (λn:Str=>V.str (i6 km n)) (Gu hi)
  .rintro out H2 ⟨s3,rfl⟩;refine⟨⟨_,SqL.of (s3 _ _ f1),by rw[Gs];exact Gv _⟩,λD hD'=>⟨h9 (by rw[Gs,GC];lia),?_⟩⟩;rw[GD (Gv _)];obtain⟨H3,e3,f3,m3,_⟩:=b4 (H:=H2) (o:= .lst (ss.map λn=>V.str (i6 km n))) hD';refine k' D _ ((m1.trans s3).free hD') ?_ ?_
   .show Same _ (p0 H2 D _);rw[e3];exact m1.trans (s3.trans m3)
   .show p0 H2 D _ D=_;rw[b7,GQ];rfl
def bh (L:A6)(km kf:List (j0×V))(n:Str):Str:=if n∈d9 L then i6 km n else i6 kf n
structure FrOk (W L R:A6) (fr:List (Str×Str)):Prop where
 ks:(fr.map (·.1)).Perm ((d9 R).filter λn=>!decide (n∈d9 L))
 nm:∀x∈fr,R4 x.2=true
 nd:(fr.map (·.2)).Nodup
 no:∀x∈fr,x.2∉d9 W
 len:fr.length<=8
theorem FrOk.nd1 {W L R:A6}{fr:List (Str×Str)}(h:FrOk W L R fr)(ndR:(d9 R).Nodup):(fr.map (·.1)).Nodup:=h.ks.nodup_iff.mpr (ndR.sublist HK)
theorem FrOk.mem {W L R:A6}{fr:List (Str×Str)}(h:FrOk W L R fr){n:Str}:n∈fr.map (·.1)↔n∈d9 R/\n∉d9 L:=by
 rw[h.ks.mem_iff,GR,Hm,GV]
theorem FrOk.txt {W L R:A6}{fr:List (Str×Str)}(h:FrOk W L R fr)(ndR:(d9 R).Nodup){n:Str}(hn:n∈fr.map (·.1)):TxtAt (i9 fr) n/\(n,i6 (i9 fr) n)∈fr:=by
 obtain⟨⟨n',s⟩,hx,e⟩:=Gw.mp hn;have e':n'=n:=e;subst e';have z:=U3 (h.nd1 ndR) hx;exact⟨z.1,by rw[z.2];exact hx⟩
theorem vW {fr:List (Str×Str)}:(i9 fr).map (·.2)=(fr.map (·.2)).map V.str:=by unfold i9;rw[GQ,GQ];rfl
def aY (K:Qc):Sp:=λvs H Q _=>∃(S L R:Sd) (r bl f:Addr) (bs:List Sd) (fr:List (Str×Str)),vs=[.ref S.a,.ref r,.ref f]/\SdIs K H S/\RuleIs K H r bl L R bs/\H f=some (.dK (i9 fr))/\FrOk S.W L.W R.W fr/\∀H',Same H H'->Q (.bl true) H'
abbrev bQ (P:Program)(w:World)(K:Qc)(mg:Str->Option Value)(base:Heap):Prop:=O4 P w K mg base C2 4 "names_serve" ["web","rule","fresh"] [] (aY K)
theorem iF {f:Addr}{fd:FuncData}(T:Txt K mg)(N2:cm P w K mg base)(fc:jN P w K mg base)(F:Fun K "names_serve" "names_serve" U8 f fd):A3 P w K mg base C2 4 f fd ["web","rule","fresh"] (aY K):=by
 refine F.ok sc_names_serve (λvs H Q E h=>?_) (λd_ A outer s H vs Q E hr h=>?_)
 .obtain⟨S,L,R,r,bl,f,bs,fr,rfl,_⟩:=h;rfl
 .obtain⟨S,L,R,r,bl,f,bs,fr,rfl,hS,hR,hF,ok,k⟩:=h;have A_:=ok.len;have hN:=sc_names_serve.nd;have hu:=u9 hr;refine⟨_,QSs.r (x6 (j8 (i:=3) hN rfl (by walk_at "l") (qC N2 (hr.mono (by decide)) j7 (j3 (qV 1) j6)))
   (x6 (bC (sL (oT (cK (U4 K (qB (nT K P w) T.b_isinstance Boot.«isinstance» (j3 (qV 2) (j3 (DD "dict" T.b_dict Boot.«dict») j6))))) (kh (x5 (ir K hr) (qB (C6 K P w) T.b_len Boot.«len» (j3 (qV 2) j6)) (qB (C6 K P w) T.b_len Boot.«len» (j3 (qV 3) j6)) (p7 _))))) (A7 (A1 wW)) cF)
   (x6 (bC (cK (U4 K (qB (tE K rfl) T.b_all Boot.«all» (j3 (E4 (own:=["name"]) (js:=[2]) (by kernel_rfl) rfl (Q4 K (qV 3)) (λ_ _ _ _=>(F9 (i:=0) (show List.Nodup (["name","fresh"]:List Str) by decide+kernel) rfl (by walk_at "l"))) (λ_ _ _ _=>af) (λ_ _ _ _=>(qC fc (hr.mono (by decide)) j7 (j3 (qo hu (qV 1) (qV 0)) j6)))) j6)))) (A7 (A1 wW)) cF)
   (x6 (bC (x5 (ir K hr) (qB (C6 K P w) T.b_len Boot.«len» (j3 (gD (Dk K rfl) T.b_set Boot.«set» (j3 (gD (eO K rfl) T.b_list Boot.«list» (j3 (DE HL Iy Jc J2 K (qV 2)) j6)) j6)) j6)) (qB (C6 K P w) T.b_len Boot.«len» (j3 (qV 3) j6)) (p7 _)) (A7 (A1 wW)) cF)
   (A7 (A1 (EM (qB (Fd K rfl) T.b_any Boot.«any» (j3 (E4 (own:=["name"]) (js:=[0]) (by kernel_rfl) rfl (dG (qV 2)) (λ_ _ _ _=>(F9 (i:=0) (show List.Nodup (["name","web"]:List Str) by decide+kernel) rfl (by walk_at "l"))) (λ_ _ _ _=>af) (λ_ _ _ _=>(FW (dQ (kIn K hu) (qV 0) (k9 (l0 K hu) (qV 1) d8 (λ_ _=>rfl)) (by rfl)) (Bm (dQ (kIn K hu) (qV 0) (k9 (l0 K hu) (qV 1) d8 (λ_ _=>rfl)) (by rfl)))))) j6))))))))),?_⟩
  walk_at "r";refine⟨r,bl,L,R,bs,rfl,hR,λl1 H1 s1 s2 n1 m1 or f1=>?_⟩;have pg:((s1++s2).filter λn=>!decide (n∈d9 L.W)).Perm (fr.map (·.1)):=(or.perm.filter _).trans ok.ks.symm;generalize (s1++s2).filter (λn=>!decide (n∈d9 L.W))=gs at f1 pg;have UI:=pg.length_eq;rw[Gs] at UI;have F1:=m1 _ _ hF;walk_at "r";refine gR (gF (t:="dict") (.inr (.inr ⟨rfl,_,.inl F1⟩)) (by simp) ?_);walk_at "r";rw[if_neg (by decide)];walk_at "r";refine C3 (G5 (.inl F1) ?_);walk_at "r";refine C3 (x9 (SqL.of f1) ?_);rw[k8,Gs,UI];walk_at "r";rw[if_neg (by simp)];walk_at "r";refine A0 (SqL.of f1) ?_;refine u4 (n:=fr.length) (λi out H'=>Same H1 H'/\out=List.replicate i (V.bl true)) ⟨Same.refl _,rfl⟩ (λi out H' hi hp=>⟨_,.str (gs[i]'(by lia)),SqL.of (hp.1 _ _ f1),by rw[Gx,Gu (show i<gs.length by lia)];rfl⟩) ?_ ?_
  .rintro N i v out H2' H2 hi ⟨s2',rfl⟩ y hN';obtain⟨rfl,hx⟩:=Itl.get y (SqL.of (s2' _ _ f1));rw[Gx,Gu (show i<gs.length by lia)] at hx;cases hx;obtain⟨x,hm,ex⟩:=Gw.mp (pg.mem_iff.mp (Hv (show i<gs.length by lia)));rw[←ex];walk_at "r";refine⟨rfl,?_⟩;walk_at "r";refine⟨f,rfl,.inl ⟨_,.inl (s2' _ _ F1)⟩,?_⟩;walk_at "r";refine⟨_,G3 (k:=Sum.inr x.1) (show Rd H2 f _ from .inl (s2' _ _ F1)),?_⟩;rw[aU (k:=x.2) (ok.nd1 hR.r.nd) hm];walk_at "r";refine⟨_,rfl,.inl ⟨x.2,rfl,ue (ok.nm x hm),λH3 m3=>?_⟩⟩;rw[ok.nm x hm];refine⟨h9 (by rw[Ir];lia),hN' _ _ ⟨s2'.trans m3,?_⟩⟩;rw[Mf]
  .rintro out H2 ⟨s2',rfl⟩;refine⟨⟨_,SqL.of (s2' _ _ f1),by rw[Gs];lia⟩,λD hD=>⟨h9 (by rw[Ir];lia),?_⟩⟩;obtain⟨H3,e3,f3,m3,_⟩:=b4 (H:=H2) (o:= .lst (List.replicate fr.length (V.bl true))) hD;walk_at "r";change rp K _ (p0 H2 D _) _;rw[e3];refine jx (bs:=List.replicate fr.length true) (SqL.of (by rw[f3,MH])) ?_;rw[xJ];have NG:=s2'.trans m3;have F3:=NG _ _ F1;walk_at "r";refine⟨.inr (.inr (.inl ⟨rfl,.inl ⟨_,F3⟩⟩)),?_⟩;walk_at "r";refine⟨f,_,rfl,rfl,.inl F3,λv4 n4=>?_⟩;obtain⟨H4,e4,f4,m4,_⟩:=b4 (o:= .ext (jg v4 f)) n4;rw[e4];walk_at "r";refine T9 f4 (.inl (m4 _ _ F3)) (λl5 n5=>?_);rw[vW];obtain⟨H5,e5,f5,m5,_⟩:=b4 (o:= .lst _) n5;rw[e5];walk_at "r";refine⟨l5,_,rfl,SqL.of f5,by rw[Gs];lia,λl6 n6=>?_⟩;obtain⟨H6,e6,f6,m6,_⟩:=b4 (o:= .ext (cv l6 (eT (fr.map (·.2))).length)) n6;rw[e6];have Pq:=NG.trans (m4.trans (m5.trans m6));have Pn:(eT (fr.map (·.2))).length=fr.length:=by
    have z:=(mF (fr.map (·.2))).mpr ok.nd;rw[Gs] at z;exact z
   walk_at "r";refine jw f6 (by lia) ?_;rw[Pn];walk_at "r";refine C3 (x9 (SqL.of (Pq _ _ f1)) ?_);rw[Gs,UI];walk_at "r";rw[if_neg (by simp)];have F6:=Pq _ _ F1;have S6:=hS.same (m1.trans Pq);walk_at "r";refine⟨f,_,rfl,.inl ⟨F6,λndf o=>?_⟩⟩;refine u4 (n:=(i9 fr).length) (λi out H'=>Same (D0 f o (i9 fr) H6) H'/\out=List.replicate i (V.bl false)) ⟨Same.refl _,rfl⟩ (λi out H' hi hp=>⟨hp.1 _ _ b7,hi⟩) ?_ ?_
   .rintro N i v out H7' H7 hi ⟨s7,rfl⟩ ⟨rfl,kv,f_,rfl⟩ hN';have YY:=(F8 (o:=o) F6).trans s7.le;have S7:=S6.at_.mono YY;obtain⟨x,hx,rfl⟩:=bE f_;have m_:=ok.no x (GJ hx);rw[k8] at hi;walk_at "r";refine⟨rfl,?_⟩;walk_at "r";refine b0 S7.tup (b5 (j:=0) rfl) ?_;refine P0 (G3 (k:=Sum.inr x.2) S7.pts) ?_;rw[G0,Hc (λz=>m_ (GA _ z))];walk_at "r";refine b0 S7.tup (b5 (j:=1) rfl) ?_;refine P0 (G3 (k:=Sum.inr x.2) S7.ties) ?_;rw[X7 S7.ts,Hc (λz=>m_ (GG _ z))];refine⟨h9 (by rw[Ir];lia),hN' _ _ ⟨s7,?_⟩⟩;rw[Mf]
   .rintro out H7 ⟨s7,rfl⟩;refine⟨⟨s7 _ _ b7,Gv _⟩,λD8 n8=>⟨h9 (by rw[Ir,k8];lia),?_⟩⟩;have s8:=K3 F6 s7 n8 (u:= .lst (List.replicate (i9 fr).length (V.bl false)));have f8:=Z0 s7 n8 (u:= .lst (List.replicate (i9 fr).length (V.bl false)));generalize thaw f (p0 H7 D8 (.lst (List.replicate (i9 fr).length (V.bl false))))=H8 at s8 f8⊢;walk_at "r";refine⟨D8,List.replicate (i9 fr).length false,rfl,SqL.of (by rw[f8,MH]),?_⟩;rw[show(List.replicate (i9 fr).length false).any id=false by rw[MT];intro x hx;rw[List.eq_of_mem_replicate hx];simp];walk_at "r";exact k _ (m1.trans (Pq.trans s8))
structure StI (K:Qc) (H:Hp) (st r m f bl:Addr) (L R:Sd) (km kf:List (j0×V)) (bs:List Sd):Prop where
 tup:SqT K H st [.ref r,.ref m,.ref f]
 r:RuleIs K H r bl L R bs
 m:H m=some (.dK km)
 f:H f=some (.dK kf)
 b:H bl=some (.lst (bs.map λs=>V.ref s.a))
theorem StI.same {H H':Hp}{st r m f bl:Addr}{L R:Sd}{km kf:List (j0×V)}{bs:List Sd}(h:StI K H st r m f bl L R km kf bs)(s:Same H H'):StI K H' st r m f bl L R km kf bs:=⟨s.tup h.tup,h.r.same s,s _ _ h.m,s _ _ h.f,s _ _ h.b⟩
theorem gc {α:Type}{l:List α}{p:α->Bool}(h:l.Nodup):(l.filter p).Nodup:=h.sublist HK
theorem sx {A B:List (Str×Str)}{n:Str}(nd:((A++B).map (·.1)).Nodup)(h:n∈A.map (·.1)):TxtAt (i9 A++i9 B) n/\i6 (i9 A++i9 B) n=i6 (i9 A) n:=by
 obtain⟨⟨n',s⟩,hx,e⟩:=Gw.mp h;have e':n'=n:=e;subst e';have e2:i9 A++i9 B=i9 (A++B):=by unfold i9;rw[Gy]
 have z:=U3 nd (GA B hx);rw[Gy] at nd;rw[e2,(U3 (GX.mp nd).1 hx).2];exact z
theorem qZ {A B:List (Str×Str)}{n:Str}(nd:((A++B).map (·.1)).Nodup)(h:n∈B.map (·.1)):TxtAt (i9 A++i9 B) n/\i6 (i9 A++i9 B) n=i6 (i9 B) n:=by
 obtain⟨⟨n',s⟩,hx,e⟩:=Gw.mp h;have e':n'=n:=e;subst e';have e2:i9 A++i9 B=i9 (A++B):=by unfold i9;rw[Gy]
 have z:=U3 nd (GG A hx);rw[Gy] at nd;rw[e2,(U3 (GX.mp nd).2.1 hx).2];exact z
theorem Z7 (ss:List Str)(f:Str->Str):(ss.map λn=>(n,f n)).map (·.1)=ss:=by rw[GQ];exact KJ ss
def jr (K:Qc):Sp:=λvs H Q _=>∃(st r m f bl:Addr) (L R:Sd) (km kf:List (j0×V)) (bs:List Sd),vs=[.ref st]/\StI K H st r m f bl L R km kf bs/\(∀n∈d9 L.W,TxtAt km n)/\(∀n∈d9 R.W,n∉d9 L.W->TxtAt kf n)/\∀(d:Addr) (H':Hp) (t1 t2:List Str),H d=none->Same H H'->Ordr R.W t1 t2->H' d=some (.dK (i9 ((t1++t2).map λn=>(n,bh L.W km kf n))))->Q (.ref d) H'
abbrev nP (P:Program)(w:World)(K:Qc)(mg:Str->Option Value)(base:Heap):Prop:=O4 P w K mg base C2 4 "behind" ["step"] [] (jr K)
theorem rF {f:Addr}{fd:FuncData}(T:Txt K mg)(aO:mR P w K mg base)(oz:tM P w K mg base)(N2:cm P w K mg base)(x8:K2 P w K mg base)(F:Fun K "behind" "behind" gY f fd):A3 P w K mg base C2 4 f fd ["step"] (jr K):=by
 refine F.ok sc_behind (λvs H Q E h=>?_) (λd_ A outer s H vs Q E hr h=>?_)
 .obtain⟨st,r,m,f,bl,L,R,km,kf,bs,rfl,_⟩:=h;rfl
 .obtain⟨st,r,m,f,bl,L,R,km,kf,bs,rfl,hS,hM,hF,k⟩:=h;have UH:=hS.r.l.len;have Rv:=hS.r.r.len;have hN:=sc_behind.nd;have hu:=u9 hr;refine⟨_,QSs.r (x6 (j8 (i:=1) hN rfl (by walk_at "l") (k9 (l0 K hu) (qV 0) d8 (λ_ _=>rfl)))
   (x6 (j8 (i:=2) hN rfl (by walk_at "l") (qC aO (hr.mono (by decide)) j7 (j3 (k9 (l0 K hu) (qV 0) d8 (λ_ _=>rfl)) (j3 (qC oz (hr.mono (by decide)) j7 (j3 (qV 1) j6)) j6))))
   (x6 (uC (qM HL IZ JO P6 K (qV 2) (j3 (qC aO (hr.mono (by decide)) j7 (j3 (k9 (l0 K hu) (qV 0) d8 (λ_ _=>rfl)) (j3 (qC N2 (hr.mono (by decide)) j7 (j3 (qV 1) j6)) j6))) j6)))
   (A7 (A1 (qC aO (hr.mono (by decide)) j7 (j3 (qV 2) (j3 (qC x8 (hr.mono (by decide)) j7 (j3 (k9 (l0 K hu) (qV 1) d8 (λ_ _=>rfl)) j6)) j6)))))))),?_⟩
  walk_at "r";refine b0 hS.tup (b5 (j:=0) rfl) ?_;walk_at "r";refine b0 hS.tup (b5 (j:=1) rfl) ?_;walk_at "r";refine⟨r,bl,L,R,bs,rfl,hS.r,λl1 H1 s1 s2 n1 m1 o1 f1=>?_⟩;have S1:=hS.same m1;have Mc:=o1.len;have Ru:=GI (λn=>decide (n∈d9 R.W)) (s1++s2);walk_at "r";refine⟨m,l1,km,_,rfl,.inl S1.m,SqL.of f1,gc (o1.perm.nodup_iff.mpr hS.r.l.nd),by lia,λn hn=>hM n (o1.mem.mp (GR.mp hn).1),λd2 H2 n2 m2 f2=>?_⟩;have S2:=S1.same m2;walk_at "r";refine⟨.inr (.inr (.inl ⟨rfl,.inl ⟨_,f2⟩⟩)),?_⟩;walk_at "r";refine b0 S2.tup (b5 (j:=2) rfl) ?_;walk_at "r";refine⟨r,bl,L,R,bs,rfl,S2.r,λl3 H3 u1 u2 n3 m3 o3 f3=>?_⟩;have S3:=S2.same m3;have hl3:=o3.len;have NI:=GI (λn=>!decide (n∈d9 L.W)) (u1++u2);walk_at "r";refine⟨f,l3,kf,_,rfl,.inl S3.f,SqL.of f3,gc (o3.perm.nodup_iff.mpr hS.r.r.nd),by lia,λn hn=>hF n (o3.mem.mp (GR.mp hn).1) (by have z:=(GR.mp hn).2;rw[Hm,GV] at z;exact z),λd4 H4 n4 m4 f4=>?_⟩;have S4:=S3.same m4;have Sk:=m4 _ _ (m3 _ _ f2);have UJ:d2≠d4:=j4 (m3 _ _ f2) n4;have Ly:∀n∈(s1++s2).filter (λn=>decide (n∈d9 R.W)),n∈d9 L.W:=λn hn=>o1.mem.mp (GR.mp hn).1;have m_:∀n∈(u1++u2).filter (λn=>!decide (n∈d9 L.W)),n∉d9 L.W:=λn hn=>by have z:=(GR.mp hn).2;rw[Hm,GV] at z;exact z
  have Rw:(((s1++s2).filter λn=>decide (n∈d9 R.W))++((u1++u2).filter λn=>!decide (n∈d9 L.W))).Nodup:=GX.mpr ⟨gc (o1.perm.nodup_iff.mpr hS.r.l.nd),gc (o3.perm.nodup_iff.mpr hS.r.r.nd),λa ha b hb e=>m_ b hb (e▸Ly a ha)⟩;have Rx:∀n∈d9 R.W,n∈d9 L.W->n∈(s1++s2).filter λn=>decide (n∈d9 R.W):=λn h1 h2=>GR.mpr ⟨o1.mem.mpr h2,Hf h1⟩;have Ry:∀n∈d9 R.W,n∉d9 L.W->n∈(u1++u2).filter λn=>!decide (n∈d9 L.W):=λn h1 h2=>GR.mpr ⟨o3.mem.mpr h1,by rw[Hc h2];rfl⟩;generalize (s1++s2).filter (λn=>decide (n∈d9 R.W))=A at Sk Rw Rx Ru;generalize (u1++u2).filter (λn=>!decide (n∈d9 L.W))=B at f4 Rw Ry NI;have So:(((A.map λn=>(n,i6 km n))++(B.map λn=>(n,i6 kf n))).map (·.1)).Nodup:=by rw[Gy,Z7,Z7];exact Rw
  walk_at "r";refine⟨d2,d4,_,_,rfl,rfl,Sk,.inl f4,UJ,by rw[k8,k8,Gs,Gs];lia,?_⟩;rw[rL (by have z:=Z8 So;unfold i9 at z⊢;rw[Gy] at z;exact z)];have YZ:H1 d2=none:=n2;have s5:Same H1 (p0 H4 d2 (.dK (i9 (A.map λn=>(n,i6 km n))++i9 (B.map λn=>(n,i6 kf n))))):=B5 (m2.trans (m3.trans m4)) YZ;have f5:p0 H4 d2 (.dK (i9 (A.map λn=>(n,i6 km n))++i9 (B.map λn=>(n,i6 kf n)))) d2=some (.dK (i9 (A.map λn=>(n,i6 km n))++i9 (B.map λn=>(n,i6 kf n)))):=b7;generalize p0 H4 d2 (.dK (i9 (A.map λn=>(n,i6 km n))++i9 (B.map λn=>(n,i6 kf n))))=H5 at s5 f5⊢;have S5:=S1.same s5;walk_at "r";refine b0 S5.r.tup (b5 (j:=1) rfl) ?_;walk_at "r";refine⟨R.a,R.p,R.q,R.kvs,R.W,rfl,S5.r.r.at_,by lia,λl6 H6 t1 t2 n6 m6 f6 o6=>?_⟩;have O_:=o6.len;walk_at "r";have gA:∀n∈d9 R.W,TxtAt (i9 (A.map λn=>(n,i6 km n))++i9 (B.map λn=>(n,i6 kf n))) n/\i6 (i9 (A.map λn=>(n,i6 km n))++i9 (B.map λn=>(n,i6 kf n))) n=bh L.W km kf n:=λn hn=>by
   unfold bh;by_cases hL:n∈d9 L.W
   .rw[if_pos hL];have hA:=Rx n hn hL;have z:=sx So (by rw[Z7];exact hA);exact⟨z.1,z.2.trans (iR (GX.mp Rw).1 hA).2⟩
   .rw[if_neg hL];have hB:=Ry n hn hL;have z:=qZ So (by rw[Z7];exact hB);exact⟨z.1,z.2.trans (iR (GX.mp Rw).2.1 hB).2⟩
  refine⟨d2,l6,_,_,rfl,.inl (m6 _ _ f5),SqL.of f6,o6.perm.nodup_iff.mpr hS.r.r.nd,by lia,λn hn=>(gA n (o6.mem.mp hn)).1,λd7 H7 n7 m7 f7=>?_⟩;refine k d7 H7 t1 t2 (m1.free (s5.free (m6.free n7))) (m1.trans (s5.trans (m6.trans m7))) o6 ?_;rw[f7];congr 3;exact Iq λn hn=>by rw[(gA n (o6.mem.mp hn)).2]
def iT (L R:A6)(km:List (j0×V)):List Str:=((d9 L).filter λn=>!decide (n∈d9 R)).map (i6 km)
def mr (W L R:A6)(km kf:List (j0×V)):A6:=Cd (bq (iT L R km) W) (J0 (bh L km kf) R)
structure Bs (W L R:A6) (km:List (j0×V)) (fr:List (Str×Str)):Prop where
 fit:cg L W km
 lo:∀x∈W.ts,x.1∉iT L R km->x.2.2.1∉iT L R km/\x.2.2.2∉iT L R km
 fo:FrOk W L R fr
 nd:((d9 R).map (bh L km (i9 fr))).Nodup
theorem An {gs WT:List Str}(W:A6)(h:∀n,n∈gs↔n∈WT):bq gs W=bq WT W:=by
 unfold bq;congr 1
 .exact Kh λx _=>by rw[Hq];simp only[Hm,GV];rw[h]
 .exact Kh λx _=>by rw[Hq];simp only[Hm,GV];rw[h]
theorem zZ {f g:Str->Str}{W:A6}(h:∀n∈d9 W,f n=g n)(he:∀x∈W.ts,x.2.2.1∈W.pts.map (·.1)/\x.2.2.2∈W.pts.map (·.1)):J0 f W=J0 g W:=by
 unfold J0;congr 1
 .exact Iq λx hx=>by rw[h x.1 (GA _ (Gw.mpr ⟨x,hx,rfl⟩))]
 .exact Iq λx hx=>by rw[h x.1 (GG _ (Gw.mpr ⟨x,hx,rfl⟩)),h _ (GA _ (he x hx).1),h _ (GA _ (he x hx).2)]
theorem jS {α:Type}{A A' B B':List (Str×α)}(pa:A'.Perm A)(pb:B'.Perm B):((A'.filter λx=>!decide (x.1∈B'.map (·.1)))++B').Perm ((A.filter λx=>!decide (x.1∈B.map (·.1)))++B):=by
 refine List.Perm.append ?_ pb;have e:(A'.filter λx=>!decide (x.1∈B'.map (·.1)))=A'.filter λx=>!decide (x.1∈B.map (·.1)):=Kh λx _=>by
  rw[Hq];simp only[Hm,GV];rw[(pb.map _).mem_iff]
 rw[e];exact pa.filter _
theorem zo {L R:A6}{km:List (j0×V)}{s1 s2:List Str}(o:Ordr L s1 s2)(n:Str):n∈((s1++s2).filter λn=>!decide (n∈d9 R)).map (i6 km)↔n∈iT L R km:=((o.perm.filter _).map _).mem_iff
theorem yA {f:Str->Str}{W:A6}(h:((d9 W).map f).Nodup):((J0 f W).pts.map (·.1)).Nodup/\((J0 f W).ts.map (·.1)).Nodup:=by
 unfold d9 at h;rw[Gy] at h;have z:=GX.mp h;unfold J0;have z1:=z.1;have z2:=z.2.1;rw[GQ] at z1 z2;exact⟨by show((W.pts.map λx=>(f x.1,x.2)).map (·.1)).Nodup;rw[GQ];exact z1,by show((W.ts.map λx=>(f x.1,(x.2.1,f x.2.2.1,f x.2.2.2))).map (·.1)).Nodup;rw[GQ];exact z2⟩
structure zb (m:Addr) (bs:List Sd) (W:A6) (fx:List (Str×Str)):Prop where
 len:bs.length<=10
 b:∀b∈bs,m≠b.p/\m≠b.q/\yv b.W W fx
def gH (K:Qc):Sp:=λvs H Q E=>∃(S L R:Sd) (st r m f bl:Addr) (km kf:List (j0×V)) (bs:List Sd) (fx:List (Str×Str)),vs=[.ref S.a,.ref st]/\SdIs K H S/\StI K H st r m f bl L R km kf bs/\km=i9 fx/\zb m bs S.W fx/\(km.map (·.1)).Nodup/\km.length<=100/\(∀kv∈km,∃n s,kv=(Sum.inr n,V.str s))/\cg L.W S.W km/\(∀x∈S.W.ts,x.1∉iT L.W R.W km->x.2.2.1∉iT L.W R.W km/\x.2.2.2∉iT L.W R.W km)/\S.W.pts.length+S.W.ts.length<=24/\NewP K H Q (bq (iT L.W R.W km) S.W)/\(∀H' e,Same H H'->H' e=none->E (.ref (cA K "Barred")) (some e) H')
def qg (K:Qc):Sp:=λvs H Q E=>∃(S L R:Sd) (st r m f bl:Addr) (km:List (j0×V)) (fr:List (Str×Str)) (bs:List Sd) (fx:List (Str×Str)),vs=[.ref S.a,.ref st]/\SdIs K H S/\StI K H st r m f bl L R km (i9 fr) bs/\km=i9 fx/\zb m bs S.W fx/\(km.map (·.1)).Nodup/\km.length<=100/\(∀kv∈km,∃n s,kv=(Sum.inr n,V.str s))/\Bs S.W L.W R.W km fr/\S.W.pts.length+S.W.ts.length<=24/\NewP K H Q (mr S.W L.W R.W km (i9 fr))/\(∀H' e,Same H H'->H' e=none->E (.ref (cA K "Barred")) (some e) H')
abbrev jm (P:Program)(w:World)(K:Qc)(mg:Str->Option Value)(base:Heap):Prop:=O4 P w K mg base (ou P w) 10 "rest_of" ["web","step"] [] (gH K)
theorem pI {f:Addr}{fd:FuncData}(T:Txt K mg)(cy:ie P w K mg base)(ee:jO P w K mg base)(br:fL P w K mg base)(ij:nF P w K mg base)(F:Fun K "rest_of" "rest_of" dX f fd):A3 P w K mg base (ou P w) 10 f fd ["web","step"] (gH K):=by
 refine F.okE sc_rest_of (λvs H Q E h=>?_) (λd_ A outer s H vs Q E hr h=>?_)
 .obtain⟨S,L,R,st,r,m,f,bl,km,kf,bs,fx,rfl,_⟩:=h;rfl
 .obtain⟨S,L,R,st,r,m,f,bl,km,kf,bs,fx,rfl,hS,hT,QY,nb,knd,kln,ktx,fit,lo,hsz,k,kE⟩:=h;have UH:=hT.r.l.len;have Rv:=hT.r.r.len;have hN:=sc_rest_of.nd;have hu:=u9 hr;refine⟨_,QSs.r (x6 (j8 (i:=2) hN rfl (by walk_at "l") (k9 (l0 K hu) (qV 1) d8 (λ_ _=>rfl)))
   (x6 (bC (cK (U4 K (qC cy (hr.mono (by decide)) j7 (j3 (k9 (l0 K hu) (qV 2) d8 (λ_ _=>rfl)) (j3 (qV 0) (j3 (k9 (l0 K hu) (qV 1) d8 (λ_ _=>rfl)) j6)))))) (A7 (kK gi T.r_NoMatch rfl (j3 fV j6))) cF)
   (x6 (j8 (i:=3) hN rfl (by walk_at "l") (qC ee (hr.mono (by decide)) yT (j3 (qV 0) (j3 (qC br (hr.mono (by decide)) j7 (j3 (qV 1) j6)) j6))))
   (x6 (bC (x5 nN (qC ij (hr.mono (by decide)) j7 (j3 (qV 0) (j3 (qV 2) (j3 (k9 (l0 K hu) (qV 1) d8 (λ_ _=>rfl)) j6)))) mT (p7 _)) (A7 (kK gi T.r_Barred rfl (j3 fV j6))) cF)
   (A7 (A1 (qV 3))))))),?_⟩
  walk_at "r";refine b0 hT.tup (b5 (j:=0) rfl) ?_;walk_at "r";refine b0 hT.r.tup (b5 (j:=0) rfl) ?_;walk_at "r";refine b0 hT.tup (b5 (j:=1) rfl) ?_;walk_at "r";refine⟨L.a,L.p,L.q,S.a,S.p,S.q,L.kvs,S.kvs,L.W,S.W,.ref m,true,rfl,hT.r.l,hS,.inr (.inr ⟨m,km,rfl,hT.m,knd,kln,λkv hk=>?_,(qf fit).symm⟩),λH1 m1=>?_⟩
  .obtain⟨n,s,rfl⟩:=ktx kv hk;exact⟨"str",rfl⟩
  have T1:=hT.same m1;have S1:=hS.same m1;walk_at "r";refine⟨st,r,m,bl,.ref f,L,R,bs,km,rfl,T1.tup,T1.r,.inl T1.m,fit.txt,λl2 H2 s1 s2 n2 m2 o2 f2=>?_⟩;have T2:=T1.same m2;have S2:=S1.same m2;walk_at "r";have Rz:=zo (R:=R.W) (km:=km) o2;generalize ((s1++s2).filter λn=>!decide (n∈d9 R.W)).map (i6 km)=gs at f2 Rz;have UK:=S2.len;rw[A4] at UK;refine⟨S.a,l2,S.p,S.q,S.kvs,S.W,gs,rfl,S2.at_,S2.hp,S2.hq,SqL.of f2,E6 hS.nd,K4 hS.nd,by lia,by lia,λx hx=>hS.nl _ (GG _ (Gw.mpr ⟨x,hx,rfl⟩)),?_⟩;have VU:¬kM gs S.W=true:=λz=>by
   obtain⟨x,hx,hz⟩:=Ih.mp z;have p_:=GR.mp (show x∈S.W.ts.filter λx=>!decide (x.1∈gs) from hx);have hn:x.1∉iT L.W R.W km:=λq=>by
    have q2:=p_.2;rw[Hf ((Rz _).mpr q)] at q2;cases q2
   have he:=lo x p_.1 hn;rw[Bool.or_eq_true,GS,GS,Rz,Rz] at hz;exact hz.elim he.1 he.2
  rw[if_neg VU,An S.W Rz];intro a3 p3 q3 k3 W3 H3 m3 w3 hp3 hq3 ne3 np3 nq3 e31 e32;have T3:=T2.same m3;have S3:=S2.same m3;walk_at "r";refine b0 T3.tup (b5 (j:=1) rfl) ?_;walk_at "r";refine⟨S,L,R,r,bl,m,bs,fx,rfl,S3,T3.r,nb.len,by rw[←QY];exact T3.m,nb.b,λv H4 m4 Y'=>?_⟩;have RA:=m1.trans (m2.trans (m3.trans m4));have Y_:∀x,x=v->x= .non\/∃t,x= .ref t:=λx e=>by
   subst e;rcases Y' with⟨_,e⟩|⟨i,b,row,rr,t,d,hb,_,hr,e,_⟩
   .exact .inl e
   .exact .inr ⟨t,e⟩
  rcases Y_ v rfl with hv|⟨t,rfl⟩
  rotate_left
  .walk_at "r";rw[if_pos (by simp)];walk_at "r";exact⟨h9 (by simp),λe he=>kE H4 e RA he⟩
  subst hv;walk_at "r";rw[if_neg (by simp)];walk_at "r";exact k a3 p3 q3 k3 W3 H4 RA (w3.mono m4.le) (m4 _ _ hp3) (m4 _ _ hq3) ne3 ((m1.trans m2).free np3) ((m1.trans m2).free nq3) e31 e32
abbrev we (P:Program)(w:World)(K:Qc)(mg:Str->Option Value)(base:Heap):Prop:=O4 P w K mg base (ou P w) 11 "done" ["web","step"] [] (qg K)
theorem xT {f:Addr}{fd:FuncData}(T:Txt K mg)(eU:jm P w K mg base)(V2:bQ P w K mg base)(gz:mW P w K mg base)(eK:jq P w K mg base)(iI:nP P w K mg base)(F:Fun K "done" "done" oM f fd):A3 P w K mg base (ou P w) 11 f fd ["web","step"] (qg K):=by
 refine F.okE sc_done (λvs H Q E h=>?_) (λd_ A outer s H vs Q E hr h=>?_)
 .obtain⟨S,L,R,st,r,m,f,bl,km,fr,bs,fx,rfl,_⟩:=h;rfl
 .obtain⟨S,L,R,st,r,m,f,bl,km,fr,bs,fx,rfl,hS,hT,QY,nb,knd,kln,ktx,ok,hsz,k,kE⟩:=h;have UH:=hT.r.l.len;have Rv:=hT.r.r.len;have hN:=sc_done.nd;have hu:=u9 hr;refine⟨_,QSs.r (x6 (j8 (i:=2) hN rfl (by walk_at "l") (k9 (l0 K hu) (qV 1) d8 (λ_ _=>rfl)))
   (x6 (j8 (i:=3) hN rfl (by walk_at "l") (qC eU (hr.mono (by decide)) yT (j3 (qV 0) (j3 (qV 1) j6))))
   (x6 (bC (cK (U4 K (qC V2 (hr.mono (by decide)) j7 (j3 (qV 0) (j3 (qV 2) (j3 (k9 (l0 K hu) (qV 1) d8 (λ_ _=>rfl)) j6)))))) (A7 (kK gi T.r_NoNames rfl (j3 fV j6))) cF)
   (A7 (A1 (qC gz (hr.mono (by decide)) j7 (j3 (qV 3) (j3 (qC eK (hr.mono (by decide)) j7 (j3 (k9 (l0 K hu) (qV 2) d8 (λ_ _=>rfl)) (j3 (qC iI (hr.mono (by decide)) j7 (j3 (qV 1) j6)) j6))) j6)))))))),?_⟩
  walk_at "r";refine b0 hT.tup (b5 (j:=0) rfl) ?_;walk_at "r";refine⟨S,L,R,st,r,m,f,bl,km,i9 fr,bs,fx,rfl,hS,hT,QY,nb,knd,kln,ktx,ok.fit,ok.lo,hsz,?_,λH' e s' he=>kE H' e s' he⟩;intro a3 p3 q3 k3 W3 H3 m3 w3 hp3 hq3 ne3 np3 nq3 e31 e32;have T3:=hT.same m3;have S3:=hS.same m3;walk_at "r";refine b0 T3.tup (b5 (j:=2) rfl) ?_;walk_at "r";refine⟨S,L,R,r,bl,f,bs,fr,rfl,S3,T3.r,T3.f,ok.fo,λH4 m4=>?_⟩;have T4:=T3.same m4;walk_at "r";refine b0 T4.r.tup (b5 (j:=1) rfl) ?_;walk_at "r";refine⟨st,r,m,f,bl,L,R,km,i9 fr,bs,rfl,T4,ok.fit.txt,λn h1 h2=>(ok.fo.txt hT.r.r.nd (ok.fo.mem.mpr ⟨h1,h2⟩)).1,λd5 H5 t1 t2 n5 m5 o5 f5=>?_⟩;have T5:=T4.same m5;have Za:=o5.perm.nodup_iff.mpr hT.r.r.nd;have gb:∀n∈d9 R.W,TxtAt (i9 ((t1++t2).map λn=>(n,bh L.W km (i9 fr) n))) n/\i6 (i9 ((t1++t2).map λn=>(n,bh L.W km (i9 fr) n))) n=bh L.W km (i9 fr) n:=λn hn=>iR Za (o5.mem.mpr hn);generalize i9 ((t1++t2).map λn=>(n,bh L.W km (i9 fr) n))=nm at f5 gb;have ndb:((d9 R.W).map (i6 nm)).Nodup:=by
   rw[Iq λn hn=>(gb n hn).2];exact ok.nd
  walk_at "r";refine⟨R.a,d5,R.p,R.q,R.kvs,nm,R.W,i6 nm,rfl,T5.r.r.at_,T5.r.r.hp,T5.r.r.hq,.inl f5,rfl,λn hn=>(gb n hn).1,ndb,by lia,T5.r.r.ends,?_⟩;rw[zZ (λn hn=>(gb n hn).2) T5.r.r.ends];intro a6 p6 q6 k6 W6 H6 m6 w6 hp6 hq6 ne6 np6 nq6 e61 e62;have WU:=m4.trans (m5.trans m6);walk_at "r";have nr:=yA ok.nd;have Sw:(W3.pts.map (·.1)).Nodup:=(e31.map _).nodup_iff.mpr (N4 (E6 hS.nd));have Sy:(W3.ts.map (·.1)).Nodup:=(e32.map _).nodup_iff.mpr (N4 (K4 hS.nd));have lf1:=GI (λx:Str×Str=>!decide (x.1∈iT L.W R.W km)) S.W.pts;have lf2:=GI (λx:Str×F2=>!decide (x.1∈iT L.W R.W km)) S.W.ts;have le1:=e31.length_eq;have Zb:=e32.length_eq;have Oe:=e61.length_eq;have Og:=e62.length_eq;rw[show(J0 (bh L.W km (i9 fr)) R.W).pts.length=R.W.pts.length from Gs _] at Oe;rw[show(J0 (bh L.W km (i9 fr)) R.W).ts.length=R.W.ts.length from Gs _] at Og;rw[show(bq (iT L.W R.W km) S.W).pts.length=(S.W.pts.filter λx=>!decide (x.1∈iT L.W R.W km)).length from rfl] at le1;rw[show(bq (iT L.W R.W km) S.W).ts.length=(S.W.ts.filter λx=>!decide (x.1∈iT L.W R.W km)).length from rfl] at Zb;rw[A4] at Rv;refine⟨a3,p3,q3,a6,p6,q6,k3,k6,W3,W6,rfl,w3.mono WU.le,w6,Sw,Sy,(e61.map _).nodup_iff.mpr nr.1,(e62.map _).nodup_iff.mpr nr.2,by lia,by lia,NewP.permM (W:=mr S.W L.W R.W km (i9 fr)) (m3.trans WU) (jS e31 e61) (jS e32 e62) k⟩
def bO (K:Qc):Sp:=λvs H Q _=>∃(a:Addr) (ns:List Int),vs=[.ref a,.int 5,.int 7]/\SqL K H a (ns.map V.int)/\ns.length<=63/\∀(p:Addr) (H':Hp) (cs:List Int),H p=none->Same H H'->H' p=some (.lst (cs.map V.int))->cs.length<=7->(∀c∈cs,0<=c)->Q (.ref p) H'
def ay (K:Qc):Sp:=λvs H Q _=>∃(a:Addr) (ns:List Int) (k:Int),vs=[.ref a,.int k]/\SqL K H a (ns.map V.int)/\ns.length<=63/\0<=k/\∀m:Int,0<=m->m<10 ^ 60->Q (.int m) H
def bK (K:Qc):Sp:=λvs H Q _=>∃c:Int,vs=[.int c]/\0<=c/\xy H Q λss=>ss.length=2
structure zf (n:Nat) (ss:List Str):Prop where
 len:ss.length=n
 nd:ss.Nodup
 z:∃z:Nat,z<=15/\∀s∈ss,s.length=z
 nm:∀s∈ss,R4 s=true
structure jD (ss:List Str):Prop where
 len:ss.length=10
 nd:ss.Nodup
 kd:∀s∈ss,X1 s=true
def bT (K:Qc):Sp:=λvs H Q _=>∃c:Int,vs=[.int c,.int 16]/\0<=c/\xy H Q (zf 16)
def bJ (K:Qc):Sp:=λvs H Q _=>∃c:Int,vs=[.int c,.int 10]/\0<=c/\xy H Q jD
theorem zK (ns:List Int):∃cs:List Int,cD (ns.map V.int) (some 5) (some 12)=cs.map V.int/\cs.length<=7:=by
 unfold cD;have e1:HT.sIx (ns.map V.int).length 0 (some ((5:Nat):Int))=min 5 (ns.map V.int).length:=HT.sIx_nat _ _ _;have e2:HT.sIx (ns.map V.int).length (ns.map V.int).length (some ((12:Nat):Int))=min 12 (ns.map V.int).length:=HT.sIx_nat _ _ _;rw[show(some (5:Int))=some ((5:Nat):Int) from rfl,show(some (12:Int))=some ((12:Nat):Int) from rfl,e1,e2,←List.map_drop,←MI];exact⟨_,rfl,by rw[GC,Jm];lia⟩
abbrev dv (P:Program)(w:World)(K:Qc)(mg:Str->Option Value)(base:Heap):Prop:=O4 P w K mg base C2 1 "_law_cells" ["_law_script","_law_start","_law_many"] [] (bO K)
theorem ji {f:Addr}{fd:FuncData}(T:Txt K mg)(F:Fun K "_law_cells" "_law_cells" Y5 f fd):A3 P w K mg base C2 1 f fd ["_law_script","_law_start","_law_many"] (bO K):=by
 refine F.ok sc__law_cells (λvs H Q E h=>?_) (λd_ A outer s H vs Q E hr h=>?_)
 .obtain⟨a,ns,rfl,_⟩:=h;rfl
 .obtain⟨a,ns,rfl,hA,hl,k⟩:=h;have hN:=sc__law_cells.nd;have hu:=u9 hr;refine⟨_,QSs.r (A7 (A1 (E4 (own:=["_law_cell"]) (js:=[]) (by kernel_rfl) rfl (Q4 K (Cb (DP K) (qV 0) (BP (qV 1)) (BP (B1 (F4 K) (qV 1) (qV 2))))) (λ_ _ _ _=>(F9 (i:=0) (show List.Nodup (["_law_cell"]:List Str) by decide+kernel) rfl (by walk_at "l"))) (λ_ _ _ _=>af) (λ_ _ _ _=>(B1 p9 (qV 0) (B1 ez d8 d8)))))),?_⟩;walk_at "r";refine nJ hA (λp1 n1=>?_);obtain⟨H1,e1,f1,m1,_⟩:=b4 (o:= .lst _) n1;rw[e1];obtain⟨cs,Qw,x_⟩:=zK ns;rw[show(5:Int)+7=12 from rfl,Qw] at f1;refine A0 (SqL.of f1) ?_;refine u4 (n:=cs.length) (λi out H'=>Same H1 H'/\out=(cs.take i).map λx=>V.int (x % 10 ^ 60)) ⟨Same.refl _,rfl⟩ (λi out H' hi hp=>⟨_,.int (cs[i]),SqL.of (hp.1 _ _ f1),by rw[Gx,Gu hi];rfl⟩) ?_ ?_
  .rintro N i v out H2 H3 hi ⟨s1,rfl⟩ y hN';obtain⟨rfl,hx⟩:=Itl.get y (SqL.of (s1 _ _ f1));rw[Gx,Gu hi] at hx;cases hx;walk_at "r";refine⟨rfl,?_⟩;walk_at "r";refine⟨h9 (by rw[Gs,GC];lia),hN' _ _ ⟨s1,?_⟩⟩;exact C4 (λx:Int=>V.int (x % 10 ^ 60)) (Gu hi)
  .rintro out H2 ⟨s1,rfl⟩;refine⟨⟨_,SqL.of (s1 _ _ f1),by rw[Gs];exact Gv _⟩,λD hD=>⟨h9 (by rw[Gs,GC];lia),?_⟩⟩;rw[GD (Gv _)];obtain⟨H3,e3,f3,m3,_⟩:=b4 (o:= .lst (cs.map λx=>V.int (x % 10 ^ 60))) hD;refine k D _ (cs.map λx=>x % 10 ^ 60) ((m1.trans s1).free hD) ?_ ?_ (by rw[Gs];exact x_) (λc hc=>?_)
   .show Same _ (p0 _ D _);rw[e3];exact m1.trans (s1.trans m3)
   .show p0 _ D _ D=_;rw[b7,GQ];rfl
   .obtain⟨x,_,rfl⟩:=Gw.mp hc;exact HR _ (by decide)
abbrev bx (P:Program)(w:World)(K:Qc)(mg:Str->Option Value)(base:Heap):Prop:=O4 P w K mg base C2 1 "_law_cell_at" ["_law_script","_law_k"] [] (ay K)
theorem fP {f:Addr}{fd:FuncData}(T:Txt K mg)(F:Fun K "_law_cell_at" "_law_cell_at" R0 f fd):A3 P w K mg base C2 1 f fd ["_law_script","_law_k"] (ay K):=by
 refine F.ok sc__law_cell_at (λvs H Q E h=>?_) (λd_ A outer s H vs Q E hr h=>?_)
 .obtain⟨a,ns,k',rfl,_⟩:=h;rfl
 .obtain⟨a,ns,k',rfl,hA,hl,h0,k⟩:=h;have hN:=sc__law_cell_at.nd;have hu:=u9 hr;refine⟨_,QSs.r (x6 (bC (x5 aC (qV 1) (qB (C6 K P w) T.b_len Boot.«len» (j3 (qV 0) j6)) (p7 _)) (A7 (A1 (B1 p9 (k9 (l0 K hu) (qV 0) (qV 1) (λ_ _=>rfl)) (B1 ez d8 d8)))) cF)
   (A7 (A1 d8))),?_⟩
  walk_at "r";refine C3 (x9 hA ?_);rw[Gs];walk_at "r";refine C5 (λh1=>?_) (λh1=>?_)
  .walk_at "r";obtain⟨v,hv,Lz⟩:=fe (xs:=ns.map V.int) h0 (by rw[Gs];exact h1);rw[Gx] at Lz;obtain⟨x,hx,rfl⟩:=Hr.mp Lz;refine i8 hA hv ?_;walk_at "r";exact k _ (HR _ (by decide)) (HJ _ (by decide))
  .walk_at "r";exact k 0 (by lia) (by decide)
abbrev dz (P:Program)(w:World)(K:Qc)(mg:Str->Option Value)(base:Heap):Prop:=O4 P w K mg base C2 1 "_law_kinds" ["_law_cell"] [] (bK K)
theorem jb {f:Addr}{fd:FuncData}(T:Txt K mg)(F:Fun K "_law_kinds" "_law_kinds" Y8 f fd):A3 P w K mg base C2 1 f fd ["_law_cell"] (bK K):=by
 refine F.ok sc__law_kinds (λvs H Q E h=>?_) (λd_ A outer s H vs Q E hr h=>?_)
 .obtain⟨c,rfl,_⟩:=h;rfl
 .obtain⟨c,rfl,h0,k⟩:=h;have hN:=sc__law_kinds.nd;have hu:=u9 hr;refine⟨_,QSs.r (x6 (j8 (i:=1) hN rfl (by walk_at "l") fV)
   (x6 (j8 (i:=2) hN rfl (by walk_at "l") (B1 (F4 K) d8 (B1 p9 (qV 0) d8)))
   (x6 (j8 (i:=3) hN rfl (by walk_at "l") (B1 p9 (B1 E2 (qV 0) d8) (qV 2)))
   (x6 (j8 (i:=4) hN rfl (by walk_at "l") (dn j6))
   (x6 (Q1 Ht rfl (fQ T.b_range (j3 d8 j6)) (F9 (i:=5) hN rfl (by walk_at "l"))
    (x6 (j8 (i:=6) hN rfl (by walk_at "l") fV)
   (x6 (Q1 Ht rfl (fQ T.b_range (j3 (qV 2) j6)) (F9 (i:=7) hN rfl (by walk_at "l"))
    (A7 (j8 (i:=6) hN rfl (by walk_at "l") (B1 (F4 K) (qV 6) (k9 (l0 K hu) (qV 1) (B1 p9 (B1 (F4 K) (B1 (F4 K) (B1 E2 (qV 0) d8) (qV 7)) (B1 op_mulY (B1 op_mulY d8 (qV 5)) (gD jA T.b_int Boot.«int» (j3 (dQ (M9 K hr) (qV 7) (qV 3) (p7 _)) j6)))) d8) (λ_ _=>rfl))))))
   (A7 (uC (qM HP HY HZ B0 K (qV 4) (j3 (qV 6) j6)))))))
   (A7 (A1 (qV 4)))))))),?_⟩
  walk_at "r";have LC:0<=c/8 % (1+c % 8):=HR _ (by lia);have NJ:c/8 % (1+c % 8)<1+c % 8:=HJ _ (by lia);generalize Rj:c/8 % (1+c % 8)=at_ at LC NJ⊢;refine⟨h9 (by simp),λlo no=>?_⟩;obtain⟨H1,e1,f1,m1,_⟩:=b4 (o:= .lst _) no;rw[e1];walk_at "r";refine J1 (by lia) (by lia) ?_;refine J5 (n:=2) (λi σ H'=>(∃v1 v2 v3,σ=[some (.int c),some (.str kSL),some (.int (1+c % 8)),some (.int at_),some (.ref lo),v1,v2,v3])/\Same H H'/\∃ss:List Str,H' lo=some (.lst (ss.map V.str))/\ss.length=i)
   ⟨⟨_,_,_,rfl⟩,m1,[],f1,rfl⟩ (λi σ H' hi _=>by exact hi) ?_ ?_
  .rintro i v σ H2' H2 hi ⟨⟨v1,v2,v3,rfl⟩,s2,ss,g2,hl⟩ ⟨rfl,rfl⟩;walk_at "r";refine J1 (by lia) (by lia) ?_;refine J5 (n:=(1+c % 8).toNat) (λj σ H'=>(∃(b:Str) (v3:Option V),σ=[some (.int c),some (.str kSL),some (.int (1+c % 8)),some (.int at_),some (.ref lo),some (.int (0+(i:Int))),some (.str b),v3]/\b.length=j)/\H'=H2)
    ⟨⟨_,_,rfl,rfl⟩,rfl⟩ (λi σ H' hi _=>by exact hi) ?_ ?_
   .rintro j v σ H3 H4 hj ⟨⟨b,v3,rfl,hb⟩,rfl⟩ ⟨rfl,rfl⟩;walk_at "r";refine .inr ⟨_,rfl,?_⟩;generalize hm:(if decide (0+(j:Int)=at_)=true then(1:Int) else 0)=m;have Zc:0<=m/\m<=1:=by subst hm;split<;>lia
    walk_at "r";refine aJ eG (oH ((c/64+(0+(j:Int))+9*(0+(i:Int))*m) % 26) (by lia) (by lia)) ?_;refine N7 (j:=⟨#[aB ((c/64+(0+(j:Int))+9*(0+(i:Int))*m) % 26)]⟩) (h9 (by rw[dB];lia)) ?_;walk_at "r";exact⟨⟨_,_,rfl,by rw[bF,dB];lia⟩,rfl⟩
   .rintro σ H3 ⟨⟨b,v3,rfl,hb⟩,rfl⟩;refine⟨Gv _,?_⟩;walk_at "r";refine⟨.inl ⟨rfl,_,SqL.of g2⟩,?_⟩;walk_at "r";refine⟨lo,_,_,rfl,rfl,g2,bD (by rw[Gs];lia),?_⟩;refine⟨⟨_,_,_,rfl⟩,B5 s2 no,ss++[b],?_,by rw[GF,hl];rfl⟩;rw[b7,Gy];rfl
  .rintro σ H2 ⟨⟨v1,v2,v3,rfl⟩,s2,ss,g2,hl⟩;refine⟨Gv _,?_⟩;walk_at "r";exact k lo H2 ss no s2 g2 hl
def dy (l:List Nat):Str:=⟨l.toArray⟩
theorem eY (l:List Nat)(c:Nat):dy l++(⟨#[c]⟩:Str)=dy (l++[c]):=by
 unfold dy;show(⟨l.toArray++ #[c]⟩:Str)=_;congr 1;simp
theorem lR {l m:List Nat}(h:dy l=dy m):l=m:=by
 have:=Ia (λs:Str=>s.cps.toList) h;simpa [dy] using this
theorem cT (l:List Nat):(dy l).length=l.length:=by
 show l.toArray.size=_;simp
def Z9 (s:Str)(i:Int):Nat:=s.cps.toList.getD i.toNat 0
theorem AF (s:Str)(i:Int)(h0:0<=i)(h1:i<s.cps.toList.length):gM s.cps.toList i=some (Z9 s i):=by
 obtain⟨v,hv,Lz⟩:=fe (xs:=s.cps.toList) h0 h1;rw[hv];unfold Z9;rw[Hj,Lz];rfl
abbrev kSM:Str:=kSL++("0123456789.":Str)
theorem sf:∀i j:Nat,i<26->j<26->Z9 kSL i=Z9 kSL j->i=j:=by
 have h:∀i,i<26->∀j,j<26->Z9 kSL (i:Nat)=Z9 kSL (j:Nat)->i=j:=by decide+kernel
 exact λi j hi hj=>h i hi j hj
theorem tD:∀i j:Nat,i<37->j<37->Z9 kSM i=Z9 kSM j->i=j:=by
 have h:∀i,i<37->∀j,j<37->Z9 kSM (i:Nat)=Z9 kSM (j:Nat)->i=j:=by decide+kernel
 exact λi j hi hj=>h i hi j hj
def bN (S:Str)(c at_:Int)(k i:Nat):List Nat:=(List.range i).map λj:Nat=>if(j:Int)=at_ then Z9 S ((c/240+5*(k:Int)) % (S.length:Int)) else aB ((c/240+3*(j:Int)) % 26)
theorem iB (S:Str)(c at_:Int)(k i:Nat):bN S c at_ k (i+1)=bN S c at_ k i++[if((i:Int))=at_ then Z9 S ((c/240+5*(k:Int)) % (S.length:Int)) else aB ((c/240+3*(i:Int)) % 26)]:=by
 unfold bN;rw[IY,Gy];rfl
theorem bz (S:Str)(c at_:Int)(k i:Nat):(bN S c at_ k i).length=i:=by
 unfold bN;rw[Gs,Je]
def nM (S:Str)(c at_:Int)(n k:Nat):Str:=dy (bN S c at_ k n)
theorem xF {S:Str}{c at_:Int}{n m:Nat}(hS:S=kSL\/S=kSM)(h0:0<=at_)(h1:at_<n)(hm:m<=26):((List.range m).map (nM S c at_ n)).Nodup:=iJ λi j hi hj e=>by
 have z:=lR e;have z2:=Ia (λl=>l[at_.toNat]?) z;unfold bN at z2;simp only[Gx,Mt (show at_.toNat<n by lia),IX,KW] at z2;rw[if_pos (by lia),if_pos (by lia)] at z2;rcases hS with rfl|rfl
 .have hl:(kSL.length:Int)=26:=by decide+kernel
  rw[hl] at z2;have e1:(c/240+5*(i:Int)) % 26=(((c/240+5*(i:Int)) % 26).toNat:Int):=by lia
  have e2:(c/240+5*(j:Int)) % 26=(((c/240+5*(j:Int)) % 26).toNat:Int):=by lia
  rw[e1,e2] at z2;have z3:=sf _ _ (by lia) (by lia) z2;lia
 .have hl:(kSM.length:Int)=37:=by decide+kernel
  rw[hl] at z2;have e1:(c/240+5*(i:Int)) % 37=(((c/240+5*(i:Int)) % 37).toNat:Int):=by lia
  have e2:(c/240+5*(j:Int)) % 37=(((c/240+5*(j:Int)) % 37).toNat:Int):=by lia
  rw[e1,e2] at z2;have z3:=tD _ _ (by lia) (by lia) z2;lia
theorem vg (i:Int)(h0:0<=i)(h1:i<26):aB i∈kSL.cps.toList:=by
 have h:∀j:Nat,j<26->aB (j:Int)∈kSL.cps.toList:=by decide+kernel
 obtain⟨j,rfl⟩:=Ld h0;exact h j (by lia)
theorem CU:∀x∈kSM.cps.toList,x∈kNS.cps.toList:=by decide+kernel
theorem vG (s:Str)(i:Int)(h0:0<=i)(h1:i<s.cps.toList.length):Z9 s i∈s.cps.toList:=by
 obtain⟨v,hv,Lz⟩:=fe (xs:=s.cps.toList) h0 h1;unfold Z9;rw[Hj,Lz];exact GJ Lz
theorem nu (l:List Nat):(dy l).cps.toList=l:=by simp [dy]
theorem qp {l:List Nat}{S:Str}{m:Int}(h1:1<=l.length)(h2:(l.length:Int)<=m)(h3:∀c∈l,c∈S.cps.toList):K8 (dy l) S m=true:=by
 unfold K8 cV;rw[cT,nu,Hf (by lia),Hf h2,MF,MF,Hk];exact λc hc=>Hf (h3 c hc)
theorem xA {S:Str}{c at_:Int}{n k:Nat}(hS:S=kSL\/(S=kSM/\0<at_))(h0:0<=at_)(hn:1<=n)(h15:n<=24):R4 (nM S c at_ n k)=true:=by
 have key:∀j:Nat,(if(j:Int)=at_ then Z9 S ((c/240+5*(k:Int)) % (S.length:Int)) else aB ((c/240+3*(j:Int)) % 26))∈kNS.cps.toList/\(j=0->(if(j:Int)=at_ then Z9 S ((c/240+5*(k:Int)) % (S.length:Int)) else aB ((c/240+3*(j:Int)) % 26))∈kSL.cps.toList):=λj=>by
  have hl:aB ((c/240+3*(j:Int)) % 26)∈kSL.cps.toList:=vg _ (by lia) (by lia);by_cases e:(j:Int)=at_
  .rw[if_pos e];rcases hS with rfl|⟨rfl,hp⟩
   .have z:Z9 kSL ((c/240+5*(k:Int)) % (kSL.length:Int))∈kSL.cps.toList:=vG _ _ (HR _ (by decide+kernel)) (by
     have:=HJ (c/240+5*(k:Int)) (show(0:Int)<(kSL.length:Int) by decide+kernel);rw[show(kSL.cps.toList.length:Int)=(kSL.length:Int) by decide+kernel];exact this)
    exact⟨vH _ z,λ_=>z⟩
   .have z:Z9 kSM ((c/240+5*(k:Int)) % (kSM.length:Int))∈kSM.cps.toList:=vG _ _ (HR _ (by decide+kernel)) (by
     have:=HJ (c/240+5*(k:Int)) (show(0:Int)<(kSM.length:Int) by decide+kernel);rw[show(kSM.cps.toList.length:Int)=(kSM.length:Int) by decide+kernel];exact this)
    exact⟨CU _ z,λh=>by lia⟩
  .rw[if_neg e];exact⟨vH _ hl,λ_=>hl⟩
 unfold R4;rw[GP];refine⟨qp (by rw[bz];exact hn) (by rw[bz];lia) λx hx=>?_,?_⟩
 .obtain⟨j,_,rfl⟩:=Gw.mp hx;exact(key j).1
 .unfold Eh nM;rw[nu,GS];obtain⟨m,rfl⟩:∃m,n=m+1:=⟨n -1,by lia⟩
  unfold bN;rw[Kd,Hu];exact(key 0).2 rfl
abbrev dI (P:Program)(w:World)(K:Qc)(mg:Str->Option Value)(base:Heap):Prop:=O4 P w K mg base C2 1 "_law_names" ["_law_cell","_law_many"] [] (bT K)
theorem iZ {f:Addr}{fd:FuncData}(T:Txt K mg)(F:Fun K "_law_names" "_law_names" Z3 f fd):A3 P w K mg base C2 1 f fd ["_law_cell","_law_many"] (bT K):=by
 refine F.ok sc__law_names (λvs H Q E h=>?_) (λd_ A outer s H vs Q E hr h=>?_)
 .obtain⟨c,rfl,_⟩:=h;rfl
 .obtain⟨c,rfl,h0,k⟩:=h;have hN:=sc__law_names.nd;have hu:=u9 hr;refine⟨_,QSs.r (x6 (j8 (i:=2) hN rfl (by walk_at "l") fV)
   (x6 (j8 (i:=3) hN rfl (by walk_at "l") (B1 (F4 K) d8 (B1 p9 (qV 0) d8)))
   (x6 (j8 (i:=4) hN rfl (by walk_at "l") (B1 p9 (B1 E2 (qV 0) d8) (qV 3)))
   (x6 (j8 (i:=5) hN rfl (by walk_at "l") (qV 2))
   (x6 (bC (x5 jL (qV 4) d8 (p7 _)) (A7 (j8 (i:=5) hN rfl (by walk_at "l") (B1 (F4 K) (qV 2) fV))) cF)
   (x6 (j8 (i:=6) hN rfl (by walk_at "l") (dn j6))
   (x6 (Q1 Ht rfl (fQ T.b_range (j3 (qV 1) j6)) (F9 (i:=7) hN rfl (by walk_at "l"))
    (x6 (j8 (i:=8) hN rfl (by walk_at "l") fV)
   (x6 (Q1 Ht rfl (fQ T.b_range (j3 (qV 3) j6)) (F9 (i:=9) hN rfl (by walk_at "l"))
    (A7 (bC (x5 (M9 K hr) (qV 9) (qV 4) (p7 _)) (A7 (j8 (i:=8) hN rfl (by walk_at "l") (B1 (F4 K) (qV 8) (k9 (l0 K hu) (qV 5) (B1 p9 (B1 (F4 K) (B1 E2 (qV 0) d8) (B1 op_mulY d8 (qV 7))) (qB (C6 K P w) T.b_len Boot.«len» (j3 (qV 5) j6))) (λ_ _=>rfl))))) (A7 (j8 (i:=8) hN rfl (by walk_at "l") (B1 (F4 K) (qV 8) (k9 (l0 K hu) (qV 2) (B1 p9 (B1 (F4 K) (B1 E2 (qV 0) d8) (B1 op_mulY d8 (qV 9))) d8) (λ_ _=>rfl))))))))
   (A7 (uC (qM HP HY HZ B0 K (qV 6) (j3 (qV 8) j6)))))))
   (A7 (A1 (qV 6)))))))))),?_⟩
  refine N0 ?_;walk_at "e";refine N0 ?_;walk_at "e";refine N0 ?_;walk_at "e";refine N0 ?_;walk_at "e";have LC:0<=c/15 % (1+c % 15):=HR _ (by lia);have NJ:c/15 % (1+c % 15)<1+c % 15:=HJ _ (by lia);generalize Rj:c/15 % (1+c % 15)=at_ at LC NJ⊢;refine yL (λσ H'=>H'=H/\∃S,(S=kSL\/(S=kSM/\0<at_))/\σ=[some (.int c),some (.int 16),some (.str kSL),some (.int (1+c % 15)),some (.int at_),some (.str S),none,none,none,none]) ?_ ?_
  .rintro σ H0 ⟨rfl,S,hS',rfl⟩;have hS:S=kSL\/S=kSM:=hS'.imp_right (·.1);have Zd:S.cps.toList.length=S.length:=by show _=S.cps.size;simp
   have hSz:0<S.length/\S.length<=37:=by rcases hS with rfl|rfl<;>decide+kernel
   refine N0 ?_;walk_at "e";refine⟨h9 (by simp),λlo no=>?_⟩;obtain⟨H1,e1,f1,m1,_⟩:=b4 (o:= .lst _) no;rw[e1];walk_at "e";refine N0 ?_;walk_at "e";refine J1 (by lia) (by lia) ?_;refine J5 (n:=16) (λi σ H'=>(∃v1 v2 v3,σ=[some (.int c),some (.int 16),some (.str kSL),some (.int (1+c % 15)),some (.int at_),some (.str S),some (.ref lo),v1,v2,v3])/\Same H0 H'/\H' lo=some (.lst (((List.range i).map (nM S c at_ (1+c % 15).toNat)).map V.str)))
    ⟨⟨_,_,_,rfl⟩,m1,f1⟩ (λi σ H' hi _=>by exact hi) ?_ ?_
   .rintro i v σ H2' H2 hi ⟨⟨v1,v2,v3,rfl⟩,s2,g2⟩ ⟨rfl,rfl⟩;refine N0 ?_;walk_at "e";refine N0 ?_;walk_at "e";refine J1 (by lia) (by lia) ?_;refine J5 (n:=(1+c % 15).toNat) (λj σ H'=>(∃v3,σ=[some (.int c),some (.int 16),some (.str kSL),some (.int (1+c % 15)),some (.int at_),some (.str S),some (.ref lo),some (.int (0+(i:Int))),some (.str (dy (bN S c at_ i j))),v3])/\H'=H2)
     ⟨⟨_,rfl⟩,rfl⟩ (λi σ H' hi _=>by exact hi) ?_ ?_
    .rintro j v σ H3 H4 hj ⟨⟨v3,rfl⟩,rfl⟩ ⟨rfl,rfl⟩;have NV:=cT (bN S c at_ i j);rw[bz] at NV;walk_at "e";refine C5 (λhb=>?_) (λhb=>?_)
     .walk_at "e";refine C3 (ff (h9 (by lia)) ?_);walk_at "e";have q0:0<=(c/240+5*(0+(i:Int))) % (S.length:Int):=HR _ (by lia);have q1:(c/240+5*(0+(i:Int))) % (S.length:Int)<(S.length:Int):=HJ _ (by lia);refine aJ (h9 (by lia)) (AF S _ q0 (by rw[Zd];exact q1)) ?_;refine N7 (j:=⟨#[Z9 S ((c/240+5*(0+(i:Int))) % (S.length:Int))]⟩) (h9 (by rw[dB];lia)) ?_;walk_at "e";refine⟨⟨some (.int (0+(j:Int))),?_⟩,rfl⟩;rw[iB,if_pos (by lia),←eY,IP];rfl
     .walk_at "e";refine aJ eG (oH ((c/240+3*(0+(j:Int))) % 26) (by lia) (by lia)) ?_;refine N7 (j:=⟨#[aB ((c/240+3*(0+(j:Int))) % 26)]⟩) (h9 (by rw[dB];lia)) ?_;walk_at "e";refine⟨⟨some (.int (0+(j:Int))),?_⟩,rfl⟩;rw[iB,if_neg (by lia),←eY,IP (j:Int)];rfl
    .rintro σ H3 ⟨⟨v3,rfl⟩,rfl⟩;refine⟨Gv _,?_⟩;walk_at "e";refine⟨.inl ⟨rfl,_,SqL.of g2⟩,?_⟩;walk_at "e";refine⟨lo,_,_,rfl,rfl,g2,bD (by rw[Gs,Gs,Je];lia),?_⟩;refine⟨⟨_,_,_,rfl⟩,B5 s2 no,?_⟩;rw[b7,IY,Gy,Gy];rfl
   .rintro σ H2 ⟨⟨v1,v2,v3,rfl⟩,s2,g2⟩;refine⟨Gv _,?_⟩;walk_at "e";refine k lo H2 _ no s2 g2 ⟨by rw[Gs,Je],xF hS LC (by lia) (by lia),⟨(1+c % 15).toNat,by lia,λs hs=>?_⟩,λs hs=>?_⟩
    .obtain⟨i,_,rfl⟩:=Gw.mp hs;unfold nM;rw[cT,bz]
    .obtain⟨i,_,rfl⟩:=Gw.mp hs;exact xA hS' LC (by lia) (by lia)
  .intro nx hn;walk_at "e";refine C5 (λh=>?_) (λh=>?_)
   .walk_at "e";refine N7 (by decide+kernel) ?_;walk_at "e";exact hn _ _ ⟨rfl,kSM,.inr ⟨rfl,h⟩,rfl⟩
   .walk_at "e";exact hn _ _ ⟨rfl,kSL,.inl rfl,rfl⟩
def df (c at_:Int)(k i:Nat):List Nat:=(List.range i).map λj:Nat=>aB ((c/64+3*(j:Int)+5*(k:Int)*(if(j:Int)=at_ then 1 else 0)) % 26)
theorem oi (c at_:Int)(k i:Nat):df c at_ k (i+1)=df c at_ k i++[aB ((c/64+3*(i:Int)+5*(k:Int)*(if(i:Int)=at_ then 1 else 0)) % 26)]:=by
 unfold df;rw[IY,Gy];rfl
theorem dZ (c at_:Int)(k i:Nat):(df c at_ k i).length=i:=by
 unfold df;rw[Gs,Je]
def vL (c at_:Int)(n k:Nat):Str:=dy (df c at_ k n)
theorem xu {c at_:Int}{n:Nat}(h0:0<=at_)(h1:at_<n):((List.range 10).map (vL c at_ n)).Nodup:=iJ λi j hi hj e=>by
 have z:=lR e;have z2:=Ia (λl=>l[at_.toNat]?) z;unfold df at z2;simp only[Gx,Mt (show at_.toNat<n by lia),IX,KW] at z2;rw[if_pos (by lia)] at z2;generalize c/64+3*((at_.toNat:Nat):Int)=y at z2;have e1:(y+5*(i:Int)*1) % 26=(((y+5*(i:Int)*1) % 26).toNat:Int):=by lia
 have e2:(y+5*(j:Int)*1) % 26=(((y+5*(j:Int)*1) % 26).toNat:Int):=by lia
 rw[e1,e2] at z2;have z3:=vd _ _ (by lia) (by lia) z2;lia
theorem yG {c at_:Int}{n k:Nat}(hn:1<=n)(h8:n<=8):X1 (vL c at_ n k)=true:=qp (by rw[dZ];exact hn) (by rw[dZ];lia) λx hx=>by
 obtain⟨j,_,rfl⟩:=Gw.mp hx;exact vg _ (by lia) (by lia)
abbrev du (P:Program)(w:World)(K:Qc)(mg:Str->Option Value)(base:Heap):Prop:=O4 P w K mg base C2 1 "_law_words" ["_law_cell","_law_many"] [] (bJ K)
theorem iY {f:Addr}{fd:FuncData}(T:Txt K mg)(F:Fun K "_law_words" "_law_words" Y1 f fd):A3 P w K mg base C2 1 f fd ["_law_cell","_law_many"] (bJ K):=by
 refine F.ok sc__law_words (λvs H Q E h=>?_) (λd_ A outer s H vs Q E hr h=>?_)
 .obtain⟨c,rfl,_⟩:=h;rfl
 .obtain⟨c,rfl,h0,k⟩:=h;have hN:=sc__law_words.nd;have hu:=u9 hr;refine⟨_,QSs.r (x6 (j8 (i:=2) hN rfl (by walk_at "l") fV)
   (x6 (j8 (i:=3) hN rfl (by walk_at "l") (B1 (F4 K) d8 (B1 p9 (qV 0) d8)))
   (x6 (j8 (i:=4) hN rfl (by walk_at "l") (B1 p9 (B1 E2 (qV 0) d8) (qV 3)))
   (x6 (j8 (i:=5) hN rfl (by walk_at "l") (dn j6))
   (x6 (Q1 Ht rfl (fQ T.b_range (j3 (qV 1) j6)) (F9 (i:=6) hN rfl (by walk_at "l"))
    (x6 (j8 (i:=7) hN rfl (by walk_at "l") fV)
   (x6 (Q1 Ht rfl (fQ T.b_range (j3 (qV 3) j6)) (F9 (i:=8) hN rfl (by walk_at "l"))
    (x6 (j8 (i:=9) hN rfl (by walk_at "l") (B1 (F4 K) (B1 (F4 K) (B1 E2 (qV 0) d8) (B1 op_mulY d8 (qV 8))) (B1 op_mulY (B1 op_mulY d8 (qV 6)) (gD jA T.b_int Boot.«int» (j3 (dQ (M9 K hr) (qV 8) (qV 4) (p7 _)) j6)))))
   (A7 (j8 (i:=7) hN rfl (by walk_at "l") (B1 (F4 K) (qV 7) (k9 (l0 K hu) (qV 2) (B1 p9 (qV 9) d8) (λ_ _=>rfl)))))))
   (A7 (uC (qM HP HY HZ B0 K (qV 5) (j3 (qV 7) j6)))))))
   (A7 (A1 (qV 5)))))))),?_⟩
  walk_at "r";have LC:0<=c/8 % (1+c % 8):=HR _ (by lia);have NJ:c/8 % (1+c % 8)<1+c % 8:=HJ _ (by lia);generalize Rj:c/8 % (1+c % 8)=at_ at LC NJ⊢;refine⟨h9 (by simp),λlo no=>?_⟩;obtain⟨H1,e1,f1,m1,_⟩:=b4 (o:= .lst _) no;rw[e1];walk_at "r";refine J1 (by lia) (by lia) ?_;refine J5 (n:=10) (λi σ H'=>(∃v1 v2 v3 v4,σ=[some (.int c),some (.int 10),some (.str kSL),some (.int (1+c % 8)),some (.int at_),some (.ref lo),v1,v2,v3,v4])/\Same H H'/\H' lo=some (.lst (((List.range i).map (vL c at_ (1+c % 8).toNat)).map V.str)))
   ⟨⟨_,_,_,_,rfl⟩,m1,f1⟩ (λi σ H' hi _=>by exact hi) ?_ ?_
  .rintro i v σ H2' H2 hi ⟨⟨v1,v2,v3,v4,rfl⟩,s2,g2⟩ ⟨rfl,rfl⟩;walk_at "r";refine J1 (by lia) (by lia) ?_;refine J5 (n:=(1+c % 8).toNat) (λj σ H'=>(∃v3 v4,σ=[some (.int c),some (.int 10),some (.str kSL),some (.int (1+c % 8)),some (.int at_),some (.ref lo),some (.int (0+(i:Int))),some (.str (dy (df c at_ i j))),v3,v4])/\H'=H2)
    ⟨⟨_,_,rfl⟩,rfl⟩ (λi σ H' hi _=>by exact hi) ?_ ?_
   .rintro j v σ H3 H4 hj ⟨⟨v3,v4,rfl⟩,rfl⟩ ⟨rfl,rfl⟩;have NV:=cT (df c at_ i j);rw[dZ] at NV;walk_at "r";refine .inr ⟨_,rfl,?_⟩;generalize hm:(if decide (0+(j:Int)=at_)=true then(1:Int) else 0)=m;have Zc:0<=m/\m<=1:=by subst hm;split<;>lia
    have RB:(if(j:Int)=at_ then(1:Int) else 0)=m:=by rw[←hm,IP];simp
    walk_at "r";refine aJ eG (oH ((c/64+3*(0+(j:Int))+5*(0+(i:Int))*m) % 26) (by lia) (by lia)) ?_;refine N7 (j:=⟨#[aB ((c/64+3*(0+(j:Int))+5*(0+(i:Int))*m) % 26)]⟩) (h9 (by rw[dB];lia)) ?_;walk_at "r";refine⟨⟨some (.int (0+(j:Int))),some (.int (c/64+3*(0+(j:Int))+5*(0+(i:Int))*m)),?_⟩,rfl⟩;rw[oi,RB,←eY,IP (j:Int),IP (i:Int)];rfl
   .rintro σ H3 ⟨⟨v3,v4,rfl⟩,rfl⟩;refine⟨Gv _,?_⟩;walk_at "r";refine⟨.inl ⟨rfl,_,SqL.of g2⟩,?_⟩;walk_at "r";refine⟨lo,_,_,rfl,rfl,g2,bD (by rw[Gs,Gs,Je];lia),?_⟩;refine⟨⟨_,_,_,_,rfl⟩,B5 s2 no,?_⟩;rw[b7,IY,Gy,Gy];rfl
  .rintro σ H2 ⟨⟨v1,v2,v3,v4,rfl⟩,s2,g2⟩;refine⟨Gv _,?_⟩;walk_at "r";refine k lo H2 _ no s2 g2 ⟨by rw[Gs,Je],xu LC (by lia),λs hs=>?_⟩;obtain⟨i,_,rfl⟩:=Gw.mp hs;exact yG (by lia) (by lia)
structure xB (ds:List Int):Prop where
 len:ds.length=26
 d:∀x∈ds,0<=x/\x<7
def aL (K:Qc):Sp:=λvs H Q _=>∃c:Int,vs=[.int c,.int 26]/\0<=c/\c<10 ^ 60/\∀(p:Addr) (H':Hp) (ds:List Int),H p=none->Same H H'->H' p=some (.lst (ds.map V.int))->xB ds->Q (.ref p) H'
abbrev bL (P:Program)(w:World)(K:Qc)(mg:Str->Option Value)(base:Heap):Prop:=O4 P w K mg base C2 1 "_law_digits" ["_law_cell","_law_many"] [] (aL K)
theorem iS {f:Addr}{fd:FuncData}(T:Txt K mg)(F:Fun K "_law_digits" "_law_digits" V6 f fd):A3 P w K mg base C2 1 f fd ["_law_cell","_law_many"] (aL K):=by
 refine F.ok sc__law_digits (λvs H Q E h=>?_) (λd_ A outer s H vs Q E hr h=>?_)
 .obtain⟨c,rfl,_⟩:=h;rfl
 .obtain⟨c,rfl,h0,h1,k⟩:=h;have hN:=sc__law_digits.nd;have hu:=u9 hr;refine⟨_,QSs.r (x6 (j8 (i:=2) hN rfl (by walk_at "l") (B1 p9 (B1 xk (B1 (F4 K) (qV 0) d8) (B1 ez d8 d8)) (B1 (F4 K) (B1 ez d8 d8) d8)))
   (x6 (j8 (i:=3) hN rfl (by walk_at "l") (dn j6))
   (x6 (Q1 Ht rfl (fQ T.b_range (j3 (qV 1) j6)) (F9 (i:=4) hN rfl (by walk_at "l"))
    (x6 (uC (qM HP HY HZ B0 K (qV 3) (j3 (B1 p9 (qV 2) d8) j6)))
   (A7 (j8 (i:=2) hN rfl (by walk_at "l") (B1 E2 (qV 2) d8)))))
   (A7 (A1 (qV 3)))))),?_⟩
  walk_at "r";refine Ae (xC ?_ (by decide+kernel)) ?_
  .have h2:(10:Int) ^ 60+3<2 ^ 1000:=by decide+kernel
   have h3:((c+3).natAbs:Int)<((2 ^ 1000:Nat):Int):=by
    rw[Int.natAbs_of_nonneg (by lia)];exact Int.lt_trans (Int.add_lt_add_right h1 3) h2
   exact Int.ofNat_lt.mp h3
  walk_at "r";try refine EW (by decide+kernel) ?_
  have q0:0<=(c+3)*982451653 ^ Int.toNat 3 % (10 ^ Int.toNat 40+121):=HR _ (by decide+kernel);generalize (c+3)*982451653 ^ Int.toNat 3 % (10 ^ Int.toNat 40+121)=m0 at q0⊢;walk_at "r";refine⟨h9 (by simp),λlo no=>?_⟩;obtain⟨H1,e1,f1,m1,_⟩:=b4 (o:= .lst _) no;rw[e1];walk_at "r";refine J1 (by lia) (by lia) ?_;refine J5 (n:=26) (λi σ H'=>(∃(m:Int) (v:Option V),σ=[some (.int c),some (.int 26),some (.int m),some (.ref lo),v]/\0<=m)/\Same H H'/\∃ds:List Int,H' lo=some (.lst (ds.map V.int))/\ds.length=i/\∀x∈ds,0<=x/\x<7)
   ⟨⟨_,_,rfl,q0⟩,m1,[],f1,rfl,λ_ h=>nomatch h⟩ (λi σ H' hi _=>by exact hi) ?_ ?_
  .rintro i v σ H2' H2 hi ⟨⟨m,v',rfl,hm⟩,s2,ds,g2,hl,hx⟩ ⟨rfl,rfl⟩;walk_at "r";refine⟨.inl ⟨rfl,_,SqL.of g2⟩,?_⟩;walk_at "r";refine⟨lo,_,_,rfl,rfl,g2,bD (by rw[Gs];lia),?_⟩;walk_at "r";refine⟨⟨m/7,_,rfl,by lia⟩,B5 s2 no,ds++[m % 7],?_,by rw[GF,hl];rfl,λx p_=>?_⟩
   .rw[b7,Gy];rfl
   .rcases GO.mp p_ with z|z
    .exact hx x z
    .rw[GZ.mp z];lia
  .rintro σ H2 ⟨⟨m,v',rfl,hm⟩,s2,ds,g2,hl,hx⟩;refine⟨Gv _,?_⟩;walk_at "r";exact k lo H2 ds no s2 g2 ⟨hl,hx⟩
def fJ (K:Qc):Sp:=λvs H Q _=>∃(a b c:Addr) (cs:List Int) (ss ks:List Str),vs=[.ref a,.ref b,.ref c]/\SqL K H a (cs.map V.int)/\SqL K H b (ss.map V.str)/\SqL K H c (ks.map V.str)/\cs.length<=7/\ss.length=16/\ks.length=2/\ss.Nodup/\(∀s∈ss,s.length<=100)/\∀(a p q:Addr) (kvs:List (j0×V)) (W:A6) (H':Hp),Same H H'->WebIs 7 K H' a p q kvs W->(∀n∈d9 W,n∈ss.take 7)->Q (.ref a) H'
theorem sC {α:Type}{l:List α}{i j:Nat}{x:α}(h:i<=j)(hx:x∈l.take i):x∈l.take j:=by
 rw[show l.take i=(l.take j).take i by rw[List.take_take,LP h]] at hx;exact JD hx
abbrev iE (P:Program)(w:World)(K:Qc)(mg:Str->Option Value)(base:Heap):Prop:=O4 P w K mg base C2 1 "_law_web" ["_law_cells_here","_law_names_here","_law_kinds_here"] [] (fJ K)
theorem mX {f:Addr}{fd:FuncData}(T:Txt K mg)(F:Fun K "_law_web" "_law_web" cz f fd):A3 P w K mg base C2 1 f fd ["_law_cells_here","_law_names_here","_law_kinds_here"] (fJ K):=by
 refine F.ok sc__law_web (λvs H Q E h=>?_) (λd_ A outer s H vs Q E hr h=>?_)
 .obtain⟨a,b,c,cs,ss,ks,rfl,_⟩:=h;rfl
 .obtain⟨a,b,c,cs,ss,ks,rfl,hA,hB,hC,hn,hl,hk,MD,QL,k⟩:=h;have hN:=sc__law_web.nd;have hu:=u9 hr;refine⟨_,QSs.r (x6 (j8 (i:=3) hN rfl (by walk_at "l") tH)
   (x6 (j8 (i:=4) hN rfl (by walk_at "l") tH)
   (x6 (Q1 Ht rfl (fQ T.b_range (j3 (qB (C6 K P w) T.b_len Boot.«len» (j3 (qV 0) j6)) j6)) (F9 (i:=5) hN rfl (by walk_at "l"))
    (x6 (j8 (i:=6) hN rfl (by walk_at "l") (k9 (l0 K hu) (qV 0) (qV 5) (λ_ _=>rfl)))
   (x6 (j8 (i:=7) hN rfl (by walk_at "l") (qB (G4 K rfl) T.b_sorted Boot.«sorted» (j3 (qV 3) j6)))
   (A7 (bC (sL (oT (x5 (M9 K hr) (qB (C6 K P w) T.b_len Boot.«len» (j3 (qV 7) j6)) d8 (p7 _)) (kh (sL (dM (x5 aC (B1 p9 (qV 6) d8) d8 (p7 _)) (cn (x5 aC (qB (C6 K P w) T.b_len Boot.«len» (j3 (qV 7) j6)) d8 (p7 _)))))))) (A7 (W8 (k9 (l0 K hu) (qV 2) (B1 E2 (B1 p9 (B1 E2 (qV 6) d8) d8) d8) (λ_ _=>rfl)) (kC (qV 3) (k9 (l0 K hu) (qV 1) (qV 5) (λ_ _=>rfl)) (z6 P w hu)))) (A7 (bC (x5 aC (qB (C6 K P w) T.b_len Boot.«len» (j3 (qV 4) j6)) d8 (p7 _)) (x6 (j8 (i:=8) hN rfl (by walk_at "l") (k9 (l0 K hu) (qV 7) (B1 p9 (B1 E2 (qV 6) d8) (qB (C6 K P w) T.b_len Boot.«len» (j3 (qV 7) j6))) (λ_ _=>rfl)))
   (A7 (W8 (P5 (j3 (k9 (l0 K hu) (qV 2) (B1 E2 (B1 p9 (B1 E2 (qV 6) d8) d8) d8) (λ_ _=>rfl)) (j3 (qV 8) (j3 (k9 (l0 K hu) (qV 7) (B1 p9 (B1 E2 (qV 6) d8) (qB (C6 K P w) T.b_len Boot.«len» (j3 (qV 7) j6))) (λ_ _=>rfl)) j6)))) (kC (qV 4) (k9 (l0 K hu) (qV 1) (qV 5) (λ_ _=>rfl)) (z6 P w hu))))) cF)))))))
   (A7 (A1 (P5 (j3 (qV 3) (j3 (qV 4) j6)))))))),?_⟩
  walk_at "r";intro p np;obtain⟨H1,e1,f1,m1,o1⟩:=b4 (o:= .dK []) np;rw[e1];walk_at "r";intro q nq;obtain⟨H2,e2,f2,m2,o2⟩:=b4 (o:= .dK []) nq;rw[e2];have F':p≠q:=λz=>by rw[←z,f1] at nq;cases nq
  have OG:H q=none:=m1.free nq;walk_at "r";refine C3 (x9 ((m1.trans m2).seq hA) ?_);rw[Gs];refine J1 (by lia) (by lia) ?_;refine J5 (n:=cs.length) (λi σ H'=>∃(pts:List (Str×Str)) (kvs:List (j0×V)) (ts:List (Str×F2)) (v1 v2 v3 v4:Option V),σ=[some (.ref a),some (.ref b),some (.ref c),some (.ref p),some (.ref q),v1,v2,v3,v4]/\Same H H'/\H' p=some (.dK (i9 pts))/\H' q=some (.dK kvs)/\TiesIs K H' kvs ts/\(pts.map (·.1)++ts.map (·.1)).Nodup/\(∀x∈pts.map (·.1)++ts.map (·.1),x∈ss.take i)/\(pts.length+ts.length<=i)/\∀x∈ts,x.2.2.1∈pts.map (·.1)/\x.2.2.2∈pts.map (·.1))
   ⟨[],[],[],_,_,_,_,rfl,m1.trans m2,m2 _ _ f1,f2,.nil,IS,(λ_ h=>nomatch h),Gv _,λ_ h=>nomatch h⟩ (λi σ H' hi _=>by show i<_;lia) ?_ ?_
  .rintro i v σ H3' H3 hi ⟨pts,kvs,ts,v1,v2,v3,v4,rfl,s3,g3,t3,w3,d1,d2,l1,l2⟩ ⟨rfl,rfl⟩;obtain⟨nm,Sz,UL⟩:∃nm,(ss.map V.str)[i]?=some (.str nm)/\ss[i]?=some nm:=⟨ss[i],by rw[Gx,Gu (by lia)];rfl,Gu (by lia)⟩
   have Ze:(cs.map V.int)[i]?=some (.int cs[i]):=by rw[Gx,Gu hi];rfl
   have e7:ss.take (i+1)=ss.take i++[nm]:=by rw[Ho,UL];rfl
   have Zf:nm∉ss.take i:=λm=>by
    have z:(ss.take (i+1)).Nodup:=MD.sublist (ID _ _);rw[e7] at z;exact(GX.mp z).2.2 nm m nm (by simp) rfl
   have fresh:nm∉pts.map (·.1)++ts.map (·.1):=λm=>Zf (d2 nm m);have Nh:∀x∈pts.map (·.1)++ts.map (·.1),x∈ss.take (i+1):=λx hx=>by rw[e7];exact GA _ (d2 x hx)
   walk_at "r";refine i8 (xs:=cs.map V.int) (s3.seq hA) (i:=0+(i:Int)) (by rw[IP];exact b5 (j:=i) Ze) ?_;walk_at "r";refine z7 (ss:=pts.map (·.1)) (.inl g3) (by rw[B7,r6]) (by rw[Gs];lia) (λs1 a1 a2 l1' n1=>?_);obtain⟨H6,e6,f6,m6,_⟩:=b4 (o:= .lst _) n1;rw[e6];have s6:=s3.trans m6;have g6:=m6 _ _ g3;have t6:=m6 _ _ t3;have w6:=w3.mono m6.le;have t_:=a1.length_eq;rw[Gs] at t_;walk_at "r";refine C3 (x9 (SqL.of f6) ?_);rw[Gs,t_];walk_at "r";refine C5 (λhz=>?_) (λhz=>?_)
   .walk_at "r";obtain⟨kd,F_,_⟩:=A5 (ss:=ks) (i:=cs[i]/5 % 3/2) (by lia) (by lia);refine i8 (s6.seq hC) F_ ?_;walk_at "r";refine i8 (xs:=ss.map V.str) (s6.seq hB) (i:=0+(i:Int)) (by rw[IP];exact b5 (j:=i) Sz) ?_;refine G7 (u7 (k:=Sum.inr nm) g6 (h9 (by unfold i9;rw[Gs];lia)) ?_);have ep:B9 (i9 pts) (Sum.inr nm:j0) (.str kd)=i9 (pts++[(nm,kd)]):=by
     rw[E8 _ (C9 (by rw[B7,←r6];exact λm=>fresh (GA _ (K6 m))))];unfold i9;rw[Gy];rfl
    refine⟨pts++[(nm,kd)],kvs,ts,_,_,_,_,rfl,B5 s6 np,by rw[b7,ep],by rw[b9 (Io F')];exact t6,Paired.imp' (λ_ _ z=>Y7 g6 z) w6,wF d1 fresh,qt Nh (by rw[e7];simp),by rw[GF,Hb];lia,λx hx=>?_⟩;rw[Gy];exact⟨GA _ (l2 x hx).1,GA _ (l2 x hx).2⟩
   .walk_at "r";refine C5 (λh3=>?_) (λh3=>?_)
    .walk_at "r";refine C3 (x9 (SqL.of f6) ?_);rw[Gs,t_];walk_at "r";refine C5 (λh4=>?_) (λh4=>?_)
     .walk_at "r";obtain⟨kd,F_,_⟩:=A5 (ss:=ks) (i:=cs[i]/5 % 3/2) (by lia) (by lia);refine i8 (s6.seq hC) F_ ?_;walk_at "r";refine i8 (xs:=ss.map V.str) (s6.seq hB) (i:=0+(i:Int)) (by rw[IP];exact b5 (j:=i) Sz) ?_;refine G7 (u7 (k:=Sum.inr nm) g6 (h9 (by unfold i9;rw[Gs];lia)) ?_);have ep:B9 (i9 pts) (Sum.inr nm:j0) (.str kd)=i9 (pts++[(nm,kd)]):=by
       rw[E8 _ (C9 (by rw[B7,←r6];exact λm=>fresh (GA _ (K6 m))))];unfold i9;rw[Gy];rfl
      refine⟨pts++[(nm,kd)],kvs,ts,_,_,_,_,rfl,B5 s6 np,by rw[b7,ep],by rw[b9 (Io F')];exact t6,Paired.imp' (λ_ _ z=>Y7 g6 z) w6,wF d1 fresh,qt Nh (by rw[e7];simp),by rw[GF,Hb];lia,λx hx=>?_⟩;rw[Gy];exact⟨GA _ (l2 x hx).1,GA _ (l2 x hx).2⟩
     .have NC:0<pts.length:=by lia
      walk_at "r";refine C3 (G5 (.inl t6) ?_);walk_at "r";refine C5 (λh5=>?_) (λh5=>?_)
      .walk_at "r";refine C3 (x9 (SqL.of f6) ?_);rw[Gs,t_];walk_at "r";obtain⟨o1,NB,RB⟩:=A5 (ss:=s1) (i:=cs[i]/15 % (pts.length:Int)) (HR _ (by lia)) (by rw[t_];exact HJ _ (by lia));refine i8 (SqL.of f6) NB ?_;walk_at "r";obtain⟨kd,F_,_⟩:=A5 (ss:=ks) (i:=cs[i]/5 % 3/2) (by lia) (by lia);refine i8 (s6.seq hC) F_ ?_;walk_at "r";refine C3 (x9 (SqL.of f6) ?_);rw[Gs,t_];walk_at "r";obtain⟨o2,Nk,UM⟩:=A5 (ss:=s1) (i:=cs[i]/150 % (pts.length:Int)) (HR _ (by lia)) (by rw[t_];exact HJ _ (by lia));refine i8 (SqL.of f6) Nk ?_;walk_at "r";refine⟨h9 (by simp),λl9 n9=>?_⟩;obtain⟨H9,e9,f9,m9,_⟩:=b4 (o:= .tup _) n9;rw[e9];have s9:=s6.trans m9;have g9:=m9 _ _ g6;have t9:=m9 _ _ t6;have w9:=w6.mono m9.le;walk_at "r";refine i8 (xs:=ss.map V.str) (s9.seq hB) (i:=0+(i:Int)) (by rw[IP];exact b5 (j:=i) Sz) ?_;refine G7 (u7 (k:=Sum.inr nm) t9 (h9 (by have z:=w9.length;lia)) ?_);have ek:B9 kvs (Sum.inr nm:j0) (.ref l9)=kvs++[(Sum.inr nm,.ref l9)]:=E8 _ (C9 (by rw[w9.keys,←r6];exact λm=>fresh (GG _ (K6 m))));refine⟨pts,_,ts++[(nm,(kd,o1,o2))],_,_,_,_,rfl,B5 s9 OG,by rw[b9 F'];exact g9,b7,?_,vw d1 fresh,qL Nh (by rw[e7];simp),by rw[GF,Hb];lia,λx hx=>?_⟩
       .rw[ek];exact q8 (Paired.imp' (λ_ _ z=>Y7 t9 z) w9) (Y7 t9 ⟨rfl,l9,rfl,SqT.of f9⟩)
       .rcases GO.mp hx with h'|h'
        .exact l2 x h'
        .rw[GZ.mp h'];exact⟨a1.mem_iff.mp RB,a1.mem_iff.mp UM⟩
      .walk_at "r";exact⟨pts,kvs,ts,_,_,_,_,rfl,s6,g6,t6,w6,d1,Nh,by lia,l2⟩
    .have NC:0<pts.length:=by lia
     walk_at "r";refine C3 (G5 (.inl t6) ?_);walk_at "r";refine C5 (λh5=>?_) (λh5=>?_)
     .walk_at "r";refine C3 (x9 (SqL.of f6) ?_);rw[Gs,t_];walk_at "r";obtain⟨o1,NB,RB⟩:=A5 (ss:=s1) (i:=cs[i]/15 % (pts.length:Int)) (HR _ (by lia)) (by rw[t_];exact HJ _ (by lia));refine i8 (SqL.of f6) NB ?_;walk_at "r";obtain⟨kd,F_,_⟩:=A5 (ss:=ks) (i:=cs[i]/5 % 3/2) (by lia) (by lia);refine i8 (s6.seq hC) F_ ?_;walk_at "r";refine C3 (x9 (SqL.of f6) ?_);rw[Gs,t_];walk_at "r";obtain⟨o2,Nk,UM⟩:=A5 (ss:=s1) (i:=cs[i]/150 % (pts.length:Int)) (HR _ (by lia)) (by rw[t_];exact HJ _ (by lia));refine i8 (SqL.of f6) Nk ?_;walk_at "r";refine⟨h9 (by simp),λl9 n9=>?_⟩;obtain⟨H9,e9,f9,m9,_⟩:=b4 (o:= .tup _) n9;rw[e9];have s9:=s6.trans m9;have g9:=m9 _ _ g6;have t9:=m9 _ _ t6;have w9:=w6.mono m9.le;walk_at "r";refine i8 (xs:=ss.map V.str) (s9.seq hB) (i:=0+(i:Int)) (by rw[IP];exact b5 (j:=i) Sz) ?_;refine G7 (u7 (k:=Sum.inr nm) t9 (h9 (by have z:=w9.length;lia)) ?_);have ek:B9 kvs (Sum.inr nm:j0) (.ref l9)=kvs++[(Sum.inr nm,.ref l9)]:=E8 _ (C9 (by rw[w9.keys,←r6];exact λm=>fresh (GG _ (K6 m))));refine⟨pts,_,ts++[(nm,(kd,o1,o2))],_,_,_,_,rfl,B5 s9 OG,by rw[b9 F'];exact g9,b7,?_,vw d1 fresh,qL Nh (by rw[e7];simp),by rw[GF,Hb];lia,λx hx=>?_⟩
      .rw[ek];exact q8 (Paired.imp' (λ_ _ z=>Y7 t9 z) w9) (Y7 t9 ⟨rfl,l9,rfl,SqT.of f9⟩)
      .rcases GO.mp hx with h'|h'
       .exact l2 x h'
       .rw[GZ.mp h'];exact⟨a1.mem_iff.mp RB,a1.mem_iff.mp UM⟩
     .walk_at "r";exact⟨pts,kvs,ts,_,_,_,_,rfl,s6,g6,t6,w6,d1,Nh,by lia,l2⟩
  .rintro σ H3 ⟨pts,kvs,ts,v1,v2,v3,v4,rfl,s3,g3,t3,w3,d1,d2,l1,l2⟩;refine⟨by show cs.length<=_;lia,?_⟩;walk_at "r";refine⟨h9 (by simp),λl9 n9=>?_⟩;obtain⟨H9,e9,f9,m9,_⟩:=b4 (o:= .tup _) n9;rw[e9];have hlen:=w3.length;have Qq:cs.length<=7:=hn;exact k l9 p q kvs ⟨pts,ts⟩ H9 (s3.trans m9) ⟨⟨SqT.of f9,.inl (m9 _ _ g3),.inl (m9 _ _ t3),w3.mono m9.le⟩,m9 _ _ g3,m9 _ _ t3,F',d1,by show(pts.map (·.1)++ts.map (·.1)).length<=7;rw[GF,Gs,Gs];lia,l2,λx hx=>QL x (JD (d2 x hx))⟩ (λn hn=>sC Qq (d2 n hn))
structure LfOk (ws:List Str) (L:A6):Prop where
 p:∃m,m<=3/\L.pts.map (·.1)=ws.take m
 t:∃j,j<=2/\L.ts.map (·.1)=(ws.drop 4).take j
def dS (K:Qc):Sp:=λvs H Q _=>∃(a b c:Addr) (ds:List Int) (ws ks:List Str),vs=[.ref a,.ref b,.ref c]/\H a=some (.lst (ds.map V.int))/\H b=some (.lst (ws.map V.str))/\H c=some (.lst (ks.map V.str))/\xB ds/\jD ws/\ks.length=2/\∀(S:Sd) (H':Hp),Same H H'->SdIs K H' S->LfOk ws S.W->Q (.ref S.a) H'
theorem M8 {ds:List Int}(h:xB ds)(i:Int)(h0:0<=i)(h1:i<26):∃d:Int,gM (ds.map V.int) i=some (.int d)/\0<=d/\d<7:=by
 obtain⟨v,hv,Lz⟩:=fe (xs:=ds.map V.int) h0 (by rw[Gs,h.len];exact h1);rw[Gx] at Lz;obtain⟨x,hx,rfl⟩:=Hr.mp Lz;exact⟨x,hv,h.d x (GJ hx)⟩
theorem di {ws:List Str}(h:jD ws)(i:Nat)(hi:i<10):∃w,ws[i]?=some w/\∀j:Int,j=(i:Int)->gM (ws.map V.str) j=some (.str w):=
 ⟨ws[i]'(by rw[h.len];exact hi),Gu (by rw[h.len];exact hi),λj e=>by
  subst e;exact b5 (by rw[Gx,Gu (by rw[h.len];exact hi)];rfl)⟩
theorem N5 {l:List Str}{i:Nat}{x:Str}(h:l[i]?=some x):l.take (i+1)=l.take i++[x]:=by rw[Ho,h];rfl
theorem N3 {l:List Str}{i:Nat}{x:Str}(nd:l.Nodup)(h:l[i]?=some x):x∉l.take i:=λm=>by
 have z:(l.take (i+1)).Nodup:=nd.sublist (ID _ _);rw[N5 h] at z;exact(GX.mp z).2.2 x m x (by simp) rfl
theorem yc {l:List Str}{m i:Nat}{x:Str}(hi:i<m)(h:l[i]?=some x):x∈l.take m:=GJ (i:=i) (by rw[IU hi];exact h)
theorem cu {pts:List (Str×Str)}{n s:Str}(h:n∉pts.map (·.1)):B9 (i9 pts) (Sum.inr n:j0) (.str s)=i9 (pts++[(n,s)]):=by
 rw[E8 _ (C9 (by rw[B7,←r6];exact λm=>h (K6 m)))];unfold i9;rw[Gy];rfl
theorem gr {H:Hp}{kL:List (j0×V)}{TL:List (Str×F2)}{n:Str}{t:F2}{l:Addr}(w:TiesIs K H kL TL)(h:n∉TL.map (·.1))(hl:SqT K H l (cq t)):TiesIs K H (B9 kL (Sum.inr n:j0) (.ref l)) (TL++[(n,t)]):=by
 rw[E8 _ (C9 (by rw[w.keys,←r6];exact λm=>h (K6 m)))];exact q8 w ⟨rfl,l,rfl,hl⟩
theorem Al {ws:List Str}{m j:Nat}(hm:m<=4):(ws.take m++(ws.drop 4).take j).Sublist ws:=by
 have h1:(ws.take m).Sublist (ws.take 4):=by
  rw[show ws.take m=(ws.take 4).take m by rw[List.take_take,LP hm]];exact ID _ _
 have z:=h1.append (ID j (ws.drop 4));rw[IQ] at z;exact z
abbrev fH (P:Program)(w:World)(K:Qc)(mg:Str->Option Value)(base:Heap):Prop:=O4 P w K mg base C2 1 "_law_left" ["_law_digits_here","_law_words_here","_law_kinds_here"] [] (dS K)
theorem kD {f:Addr}{fd:FuncData}(T:Txt K mg)(F:Fun K "_law_left" "_law_left" aH f fd):A3 P w K mg base C2 1 f fd ["_law_digits_here","_law_words_here","_law_kinds_here"] (dS K):=by
 refine F.ok sc__law_left (λvs H Q E h=>?_) (λd_ A outer s H vs Q E hr h=>?_)
 .obtain⟨a,b,c,ds,ws,ks,rfl,_⟩:=h;rfl
 .obtain⟨a,b,c,ds,ws,ks,rfl,hA,hB,hC,hD,hW,hk,k⟩:=h;have hN:=sc__law_left.nd;have hu:=u9 hr;refine⟨_,QSs.r (x6 (j8 (i:=3) hN rfl (by walk_at "l") tH)
   (x6 (j8 (i:=4) hN rfl (by walk_at "l") tH)
   (x6 (j8 (i:=5) hN rfl (by walk_at "l") (B1 p9 (k9 (l0 K hu) (qV 0) d8 (λ_ _=>rfl)) d8))
   (x6 (Q1 Ht rfl (fQ T.b_range (j3 (qV 5) j6)) (F9 (i:=6) hN rfl (by walk_at "l"))
    (A7 (W8 (k9 (l0 K hu) (qV 2) (B1 p9 (k9 (l0 K hu) (qV 0) (B1 (F4 K) d8 (qV 6)) (λ_ _=>rfl)) d8) (λ_ _=>rfl)) (kC (qV 3) (k9 (l0 K hu) (qV 1) (qV 6) (λ_ _=>rfl)) (z6 P w hu)))))
   (x6 (bC (x5 jL (qV 5) d8 (p7 _)) (A7 (Q1 Ht rfl (fQ T.b_range (j3 (qB (se rfl) T.b_min Boot.«min» (j3 (B1 p9 (k9 (l0 K hu) (qV 0) d8 (λ_ _=>rfl)) d8) (j3 (B1 pC d8 (qV 5)) j6))) j6)) (F9 (i:=6) hN rfl (by walk_at "l"))
    (x6 (j8 (i:=7) hN rfl (by walk_at "l") (k9 (l0 K hu) (qV 1) (B1 p9 (k9 (l0 K hu) (qV 0) (B1 (F4 K) d8 (B1 op_mulY d8 (qV 6))) (λ_ _=>rfl)) (qV 5)) (λ_ _=>rfl)))
   (x6 (j8 (i:=8) hN rfl (by walk_at "l") (k9 (l0 K hu) (qV 1) (B1 p9 (k9 (l0 K hu) (qV 0) (B1 (F4 K) d8 (B1 op_mulY d8 (qV 6))) (λ_ _=>rfl)) (qV 5)) (λ_ _=>rfl)))
   (A7 (W8 (P5 (j3 (k9 (l0 K hu) (qV 2) (B1 p9 (k9 (l0 K hu) (qV 0) (B1 (F4 K) d8 (B1 op_mulY d8 (qV 6))) (λ_ _=>rfl)) d8) (λ_ _=>rfl)) (j3 (qV 7) (j3 (qV 8) j6)))) (kC (qV 4) (k9 (l0 K hu) (qV 1) (B1 (F4 K) d8 (qV 6)) (λ_ _=>rfl)) (z6 P w hu)))))))) cF)
   (A7 (A1 (P5 (j3 (qV 3) (j3 (qV 4) j6)))))))))),?_⟩
  walk_at "r";intro p np;obtain⟨H1,e1,f1,m1,o1⟩:=b4 (o:= .dK []) np;rw[e1];walk_at "r";intro q nq;obtain⟨H2,e2,f2,m2,o2⟩:=b4 (o:= .dK []) nq;rw[e2];have F':p≠q:=λz=>by rw[←z,f1] at nq;cases nq
  have OG:H q=none:=m1.free nq;have Np:=m1.trans m2;walk_at "r";obtain⟨d0,Zg,Zh,Zi⟩:=M8 hD 0 (by lia) (by lia);refine i8 (SqL.of (Np _ _ hA)) Zg ?_;walk_at "e";obtain⟨mn,Zj⟩:∃mn:Nat,d0 % 4=(mn:Int):=⟨(d0 % 4).toNat,by lia⟩
  rw[Zj];have Zk:mn<4:=by lia
  refine B2 λRp hx=>?_;walk_at "e";refine J1 (by lia) (by lia) ?_;refine J5 (n:=mn) (λi σ H'=>∃(pts:List (Str×Str)) (v6:Option V),σ=[some (.ref a),some (.ref b),some (.ref c),some (.ref p),some (.ref q),some (.int (mn:Int)),v6,none,none]/\Same H H'/\H' p=some (.dK (i9 pts))/\H' q=some (.dK [])/\pts.map (·.1)=ws.take i)
   ⟨[],_,rfl,Np,m2 _ _ f1,f2,rfl⟩ (λi σ H' hi _=>by exact hi) ?_ ?_
  .rintro i v σ H3' H3 hi ⟨pts,v6,rfl,s3,g3,t3,ep⟩ ⟨rfl,rfl⟩;have Lw:=Ia List.length ep;rw[Gs,GC,hW.len] at Lw;obtain⟨w,hw,UN⟩:=di hW i (by lia);walk_at "e";obtain⟨d,hd,_,_⟩:=M8 hD (1+(0+(i:Int))) (by lia) (by lia);refine i8 (SqL.of (s3 _ _ hA)) hd ?_;walk_at "e";obtain⟨kd,F_,_⟩:=A5 (ss:=ks) (i:=d % 2) (by lia) (by lia);refine i8 (SqL.of (s3 _ _ hC)) F_ ?_;walk_at "e";refine i8 (SqL.of (s3 _ _ hB)) (UN _ (by lia)) ?_;have fr:w∉pts.map (·.1):=by rw[ep];exact N3 hW.nd hw
   refine G7 (u7 (k:=Sum.inr w) g3 (h9 (by rw[k8];lia)) ?_);rw[cu fr];refine⟨pts++[(w,kd)],_,rfl,B5 s3 np,b7,by rw[b9 F'.symm];exact t3,?_⟩;rw[Gy,ep,N5 hw];rfl
  rintro σ H3 ⟨pts,v6,rfl,s3,g3,t3,ep⟩;refine⟨by show mn<=_;lia,?_⟩;refine hx [some (.ref a),some (.ref b),some (.ref c),some (.ref p),some (.ref q),some (.int (mn:Int)),v6,none,none] H3 ?_;clear hx;have Lw:=Ia List.length ep;rw[Gs,GC,hW.len] at Lw;have fin:∀(H4:Hp) (v6 v7 v8:Option V) (kvs:List (j0×V)) (ts:List (Str×F2)) (i:Nat) (l:Addr),Same H H4->H4 p=some (.dK (i9 pts))->H4 q=some (.dK kvs)->TiesIs K H4 kvs ts->ts.map (·.1)=(ws.drop 4).take i->i<=2->(∀x∈ts,x.2.2.1∈pts.map (·.1)/\x.2.2.2∈pts.map (·.1))->H4 l=none->Q (.ref l) (p0 H4 l (.tup [.ref p,.ref q])):=by
   intro H4 v6 v7 v8 kvs ts i l s4 g4 t4 w4 et hi en nl;obtain⟨H5,e5,f5,m5,_⟩:=b4 (o:= .tup [.ref p,.ref q]) nl;rw[e5];have sb:(d9 ⟨pts,ts⟩).Sublist ws:=by
    show(pts.map (·.1)++ts.map (·.1)).Sublist ws;rw[ep,et];exact Al (by lia)
   have le:=sb.length_le;rw[hW.len] at le;exact k ⟨l,p,q,kvs,⟨pts,ts⟩⟩ H5 (s4.trans m5) ⟨⟨SqT.of f5,.inl (m5 _ _ g4),.inl (m5 _ _ t4),w4.mono m5.le⟩,m5 _ _ g4,m5 _ _ t4,F',hW.nd.sublist sb,He le (by decide),en,λx hx=>He (eo (hW.kd x (sb.subset hx))) (by decide)⟩ ⟨⟨mn,by lia,ep⟩,⟨i,hi,et⟩⟩
  refine B2 λP_ hx=>?_;walk_at "e";suffices go:∀(H4:Hp) (v6 v7 v8:Option V) (kvs:List (j0×V)) (ts:List (Str×F2)) (i:Nat),Same H H4->H4 p=some (.dK (i9 pts))->H4 q=some (.dK kvs)->TiesIs K H4 kvs ts->ts.map (·.1)=(ws.drop 4).take i->i<=2->(∀x∈ts,x.2.2.1∈pts.map (·.1)/\x.2.2.2∈pts.map (·.1))->P_ [some (.ref a),some (.ref b),some (.ref c),some (.ref p),some (.ref q),some (.int (mn:Int)),v6,v7,v8] H4 by
   refine C5 (λhb=>?_) (λhb=>?_)
   .walk_at "e";obtain⟨d4,UO,Zl,Zm⟩:=M8 hD 4 (by lia) (by lia);refine i8 (SqL.of (s3 _ _ hA)) UO ?_;walk_at "e";refine⟨_,_,rfl,?_⟩;obtain⟨mj,Zn,UQ⟩:∃mj:Nat,(if 4 -(mn:Int)<d4 % 3 then 4 -(mn:Int) else d4 % 3)=(mj:Int)/\mj<=2:=⟨(if 4 -(mn:Int)<d4 % 3 then 4 -(mn:Int) else d4 % 3).toNat,by split<;>lia,by split<;>lia⟩
    rw[Zn];refine J1 (by lia) (by lia) ?_;refine J5 (n:=mj) (λi σ H'=>∃(kvs:List (j0×V)) (ts:List (Str×F2)) (v6 v7 v8:Option V),σ=[some (.ref a),some (.ref b),some (.ref c),some (.ref p),some (.ref q),some (.int (mn:Int)),v6,v7,v8]/\Same H H'/\H' p=some (.dK (i9 pts))/\H' q=some (.dK kvs)/\TiesIs K H' kvs ts/\ts.map (·.1)=(ws.drop 4).take i/\∀x∈ts,x.2.2.1∈pts.map (·.1)/\x.2.2.2∈pts.map (·.1))
     ⟨[],[],_,_,_,rfl,s3,g3,t3,.nil,rfl,λ_ h=>nomatch h⟩ (λi σ H' hi _=>by exact hi) ?_ ?_
    .rintro i v σ H4' H4 hi ⟨kvs,ts,v6,v7,v8,rfl,s4,g4,t4,w4,et,en⟩ ⟨rfl,rfl⟩;have OD:=Ia List.length et;rw[Gs,GC,Jm,hW.len] at OD;have MD:=w4.length;obtain⟨w,hw,UN⟩:=di hW (4+i) (by lia);have QU:(ws.drop 4)[i]?=some w:=by rw[Jr];exact hw
     have fr:w∉ts.map (·.1):=by rw[et];exact N3 (hW.nd.sublist (Nf _ _)) QU
     have at_:∀d:Int,0<=d->∃o,gM (ws.map V.str) (d % (mn:Int))=some (.str o)/\o∈pts.map (·.1):=λd hd=>by
      have z0:0<=d % (mn:Int):=HR _ (by lia);have z1:d % (mn:Int)<mn:=HJ _ (by lia);obtain⟨o,ho,Pr⟩:=di hW (d % (mn:Int)).toNat (by lia);exact⟨o,Pr _ (by lia),by rw[ep];exact yc (by lia) ho⟩
     walk_at "r";obtain⟨d6,Zo,UR,_⟩:=M8 hD (6+3*(0+(i:Int))) (by lia) (by lia);refine i8 (SqL.of (s4 _ _ hA)) Zo ?_;walk_at "r";obtain⟨oa,Pr,RC⟩:=at_ d6 UR;refine i8 (SqL.of (s4 _ _ hB)) Pr ?_;walk_at "r";obtain⟨d7,Zp,US,_⟩:=M8 hD (7+3*(0+(i:Int))) (by lia) (by lia);refine i8 (SqL.of (s4 _ _ hA)) Zp ?_;walk_at "r";obtain⟨ob,y_,Pf⟩:=at_ d7 US;refine i8 (SqL.of (s4 _ _ hB)) y_ ?_;walk_at "r";obtain⟨d5,UU,Zq,_⟩:=M8 hD (5+3*(0+(i:Int))) (by lia) (by lia);refine i8 (SqL.of (s4 _ _ hA)) UU ?_;walk_at "r";obtain⟨kd,F_,_⟩:=A5 (ss:=ks) (i:=d5 % 2) (by lia) (by lia);refine i8 (SqL.of (s4 _ _ hC)) F_ ?_;walk_at "r";refine⟨h9 (by simp),λl9 n9=>?_⟩;obtain⟨H9,e9,f9,m9,_⟩:=b4 (o:= .tup _) n9;rw[e9];have s9:=s4.trans m9;have t9:=m9 _ _ t4;walk_at "r";refine i8 (SqL.of (s9 _ _ hB)) (UN _ (by lia)) ?_;refine G7 (u7 (k:=Sum.inr w) t9 (h9 (by lia)) ?_);refine⟨_,ts++[(w,(kd,oa,ob))],_,_,_,rfl,B5 s9 OG,by rw[b9 F'];exact m9 _ _ g4,b7,P1 t9 (gr (w4.mono m9.le) fr (SqT.of f9)),?_,λx hx=>?_⟩
     .rw[Gy,et,N5 QU];rfl
     .rcases GO.mp hx with z|z
      .exact en x z
      .rw[GZ.mp z];exact⟨RC,Pf⟩
    .rintro σ H4 ⟨kvs,ts,v6,v7,v8,rfl,s4,g4,t4,w4,et,en⟩;refine⟨by show mj<=_;lia,?_⟩;exact go _ _ _ _ kvs ts mj s4 g4 t4 w4 et UQ en
   .walk_at "e";exact go _ _ _ _ [] [] 0 s3 g3 t3 .nil rfl (by lia) (λ_ h=>nomatch h)
  intro H4 RD v7 v8 kvs ts i s4 g4 t4 w4 et hi en;refine hx _ _ ?_;clear hx;walk_at "r";exact⟨h9 (by simp),λl nl=>fin H4 RD v7 v8 kvs ts i l s4 g4 t4 w4 et hi en nl⟩
structure RgOk (ws:List Str) (L R:A6):Prop where
 p:∀x∈R.pts,x∈L.pts\/ws[7]?=some x.1
 t:∀x∈R.ts,x∈L.ts\/ws[8]?=some x.1
 l1:R.pts.length<=4
 l2:R.ts.length<=3
theorem LfOk.pi {ws:List Str}{L:A6}(h:LfOk ws L){n:Str}(hn:n∈L.pts.map (·.1)):∃i,i<3/\ws[i]?=some n:=by
 obtain⟨m,hm,e⟩:=h.p;rw[e] at hn;obtain⟨i,hi⟩:=JC hn;have hl:i<m:=by
  rcases Il i m with z|z
  .exact z
  .rw[HH (by rw[GC];lia)] at hi;cases hi
 rw[IU hl] at hi;exact⟨i,by lia,hi⟩
theorem LfOk.ti {ws:List Str}{L:A6}(h:LfOk ws L){n:Str}(hn:n∈L.ts.map (·.1)):∃i,4<=i/\i<6/\ws[i]?=some n:=by
 obtain⟨m,hm,e⟩:=h.t;rw[e] at hn;obtain⟨i,hi⟩:=JC hn;have hl:i<m:=by
  rcases Il i m with z|z
  .exact z
  .rw[HH (by rw[GC];lia)] at hi;cases hi
 rw[IU hl,Jr] at hi;exact⟨4+i,by lia,by lia,hi⟩
theorem LfOk.l1 {ws:List Str}{L:A6}(h:LfOk ws L):L.pts.length<=3:=by
 obtain⟨m,hm,e⟩:=h.p;have z:=Ia List.length e;rw[Gs,GC] at z;lia
theorem LfOk.l2 {ws:List Str}{L:A6}(h:LfOk ws L):L.ts.length<=2:=by
 obtain⟨m,hm,e⟩:=h.t;have z:=Ia List.length e;rw[Gs,GC] at z;lia
theorem BS {ws:List Str}{L:A6}{pts:List (Str×Str)}{ts:List (Str×F2)}(nd:ws.Nodup)(h:LfOk ws L)(n1:(pts.map (·.1)).Nodup)(n2:(ts.map (·.1)).Nodup)(hp:∀x∈pts,x∈L.pts\/ws[7]?=some x.1)(ht:∀x∈ts,x∈L.ts\/ws[8]?=some x.1):(pts.map (·.1)++ts.map (·.1)).Nodup:=by
 refine GX.mpr ⟨n1,n2,λa ha b hb e=>?_⟩;subst e;obtain⟨x,hx,ex⟩:=Gw.mp ha;obtain⟨y,hy,ey⟩:=Gw.mp hb;have i1:∃i,(i<3\/i=7)/\ws[i]?=some a:=by
  rcases hp x hx with z|z
  .obtain⟨i,hi,e⟩:=h.pi (Gw.mpr ⟨x,z,ex⟩);exact⟨i,.inl hi,e⟩
  .exact⟨7,.inr rfl,by rw[←ex];exact z⟩
 have i2:∃i,(4<=i/\i<6\/i=8)/\ws[i]?=some a:=by
  rcases ht y hy with z|z
  .obtain⟨i,h1,h2,e⟩:=h.ti (Gw.mpr ⟨y,z,ey⟩);exact⟨i,.inl ⟨h1,h2⟩,e⟩
  .exact⟨8,.inr rfl,by rw[←ey];exact z⟩
 obtain⟨i,hi,ei⟩:=i1;obtain⟨j,hj,ej⟩:=i2;have:=N8 nd ei ej;lia
def bR (K:Qc):Sp:=λvs H Q _=>∃(L:Sd) (a b c:Addr) (ds:List Int) (ws ks:List Str),vs=[.ref L.a,.ref a,.ref b,.ref c]/\SdIs K H L/\LfOk ws L.W/\H a=some (.lst (ds.map V.int))/\H b=some (.lst (ws.map V.str))/\H c=some (.lst (ks.map V.str))/\xB ds/\jD ws/\ks.length=2/\∀(S:Sd) (H':Hp),Same H H'->SdIs K H' S->RgOk ws L.W S.W->Q (.ref S.a) H'
abbrev dN (P:Program)(w:World)(K:Qc)(mg:Str->Option Value)(base:Heap):Prop:=O4 P w K mg base C2 1 "_law_right" ["_law_left_here","_law_digits_here","_law_words_here","_law_kinds_here"] [] (bR K)
theorem ja {f:Addr}{fd:FuncData}(T:Txt K mg)(F:Fun K "_law_right" "_law_right" Y2 f fd):A3 P w K mg base C2 1 f fd ["_law_left_here","_law_digits_here","_law_words_here","_law_kinds_here"] (bR K):=by
 refine F.ok sc__law_right (λvs H Q E h=>?_) (λd_ A outer s H vs Q E hr h=>?_)
 .obtain⟨L,a,b,c,ds,ws,ks,rfl,_⟩:=h;rfl
 .obtain⟨L,a,b,c,ds,ws,ks,rfl,hL,lf,hA,hB,hC,hD,hW,hk,k⟩:=h;have Mc:=lf.l1;have Nm:=lf.l2;have Lw:=k8 L.W.pts;have MD:=hL.at_.ts.length;have hN:=sc__law_right.nd;have hu:=u9 hr;refine⟨_,QSs.r (x6 (j8 (i:=4) hN rfl (by walk_at "l") tH)
   (x6 (j8 (i:=5) hN rfl (by walk_at "l") tH)
   (x6 (Q1 Ht rfl (cN K T.b_enumerate (j3 (qB (G4 K rfl) T.b_sorted Boot.«sorted» (j3 (k9 (l0 K hu) (qV 0) d8 (λ_ _=>rfl)) j6)) j6)) (oX K rfl (cH (F9 (i:=6) hN rfl (by walk_at "l")) (cH (F9 (i:=7) hN rfl (by walk_at "l")) oS)))
    (A7 (bC (x5 (ir K hr) (B1 p9 (k9 (l0 K hu) (qV 1) (B1 (F4 K) d8 (qV 6)) (λ_ _=>rfl)) d8) d8 (p7 _)) (A7 (W8 (k9 (l0 K hu) (k9 (l0 K hu) (qV 0) d8 (λ_ _=>rfl)) (qV 7) (λ_ _=>rfl)) (kC (qV 4) (qV 7) (z6 P w hu)))) cF)))
   (x6 (Q1 Ht rfl (cN K T.b_enumerate (j3 (qB (G4 K rfl) T.b_sorted Boot.«sorted» (j3 (k9 (l0 K hu) (qV 0) d8 (λ_ _=>rfl)) j6)) j6)) (oX K rfl (cH (F9 (i:=6) hN rfl (by walk_at "l")) (cH (F9 (i:=7) hN rfl (by walk_at "l")) oS)))
    (x6 (j8 (i:=8) hN rfl (by walk_at "l") (k9 (l0 K hu) (k9 (l0 K hu) (qV 0) d8 (λ_ _=>rfl)) (qV 7) (λ_ _=>rfl)))
   (A7 (bC (sL (dM (x5 (M9 K hr) (B1 p9 (k9 (l0 K hu) (qV 1) (B1 (F4 K) d8 (qV 6)) (λ_ _=>rfl)) d8) d8 (p7 _)) (dM (x5 (kIn K hu) (k9 (l0 K hu) (qV 8) d8 (λ_ _=>rfl)) (qV 4) (by rfl)) (cn (x5 (kIn K hu) (k9 (l0 K hu) (qV 8) d8 (λ_ _=>rfl)) (qV 4) (by rfl)))))) (A7 (W8 (qV 8) (kC (qV 5) (qV 7) (z6 P w hu)))) cF))))
   (x6 (bC (sL (dM (x5 (M9 K hr) (B1 p9 (k9 (l0 K hu) (qV 1) d8 (λ_ _=>rfl)) d8) d8 (p7 _)) (cn (x5 aC (qB (C6 K P w) T.b_len Boot.«len» (j3 (qV 4) j6)) (qB (C6 K P w) T.b_len Boot.«len» (j3 (k9 (l0 K hu) (qV 0) d8 (λ_ _=>rfl)) j6)) (p7 _))))) (A7 (W8 (k9 (l0 K hu) (qV 3) (B1 p9 (k9 (l0 K hu) (qV 1) d8 (λ_ _=>rfl)) d8) (λ_ _=>rfl)) (kC (qV 4) (k9 (l0 K hu) (qV 2) d8 (λ_ _=>rfl)) (z6 P w hu)))) cF)
   (x6 (bC (sL (dM (x5 (M9 K hr) (B1 p9 (k9 (l0 K hu) (qV 1) d8 (λ_ _=>rfl)) d8) d8 (p7 _)) (dM (x5 jL (qB (C6 K P w) T.b_len Boot.«len» (j3 (qV 4) j6)) d8 (p7 _)) (cn (x5 aC (qB (C6 K P w) T.b_len Boot.«len» (j3 (qV 5) j6)) (qB (C6 K P w) T.b_len Boot.«len» (j3 (k9 (l0 K hu) (qV 0) d8 (λ_ _=>rfl)) j6)) (p7 _)))))) (x6 (j8 (i:=9) hN rfl (by walk_at "l") (qB (G4 K rfl) T.b_sorted Boot.«sorted» (j3 (qV 4) j6)))
   (x6 (j8 (i:=10) hN rfl (by walk_at "l") (k9 (l0 K hu) (qV 9) (B1 p9 (k9 (l0 K hu) (qV 1) d8 (λ_ _=>rfl)) (qB (C6 K P w) T.b_len Boot.«len» (j3 (qV 9) j6))) (λ_ _=>rfl)))
   (A7 (W8 (P5 (j3 (k9 (l0 K hu) (qV 3) (B1 p9 (k9 (l0 K hu) (qV 1) d8 (λ_ _=>rfl)) d8) (λ_ _=>rfl)) (j3 (qV 10) (j3 (k9 (l0 K hu) (qV 9) (B1 p9 (k9 (l0 K hu) (qV 1) d8 (λ_ _=>rfl)) (qB (C6 K P w) T.b_len Boot.«len» (j3 (qV 9) j6))) (λ_ _=>rfl)) j6)))) (kC (qV 5) (k9 (l0 K hu) (qV 2) d8 (λ_ _=>rfl)) (z6 P w hu)))))) cF)
   (A7 (A1 (P5 (j3 (qV 4) (j3 (qV 5) j6))))))))))),?_⟩
  walk_at "r";intro p np;obtain⟨H1,e1,f1,m1,o1⟩:=b4 (o:= .dK []) np;rw[e1];walk_at "e";refine N0 ?_;walk_at "e";intro q nq;obtain⟨H2,e2,f2,m2,o2⟩:=b4 (o:= .dK []) nq;rw[e2];have F':p≠q:=λz=>by rw[←z,f1] at nq;cases nq
  have OG:H q=none:=m1.free nq;have Np:=m1.trans m2;walk_at "e";refine B2 λRp hx=>?_;walk_at "e";have L2:=hL.same Np;refine b0 L2.at_.tup (b5 (j:=0) rfl) ?_;walk_at "e";refine z7 (ss:=L.W.pts.map (·.1)) (.inl L2.hp) (by rw[B7,r6]) (by rw[Gs];lia) (λs1 a1 a2 l3 n3=>?_);obtain⟨H3,e3,f3,m3,_⟩:=b4 (o:= .lst (s1.map V.str)) n3;rw[e3];have Zr:=Np.trans m3;have t_:=a1.length_eq;rw[Gs] at t_;have Zs:l3≠p:=λz=>by rw[z,m2 _ _ f1] at n3;cases n3
  walk_at "e";refine⟨_,rfl,.inl ⟨l3,_,rfl,SqL.of f3,?_⟩⟩;refine S8 (n:=s1.length) (λi σ H'=>Same H H'/\(∃v6 v7,σ=[some (.ref L.a),some (.ref a),some (.ref b),some (.ref c),some (.ref p),some (.ref q),v6,v7,none,none,none])/\H' l3=some (.lst (s1.map V.str))/\H' q=some (.dK [])/\∃pts:List (Str×Str),H' p=some (.dK (i9 pts))/\(∀x∈pts,x∈L.W.pts/\x.1∈s1.take i)/\(pts.map (·.1)).Nodup/\pts.length<=i) ⟨Zr,⟨_,_,rfl⟩,f3,m3 _ _ f2,[],m3 _ _ (m2 _ _ f1),(λ_ h=>nomatch h),IS,Gv _⟩ (λi σ H' hi hp=>⟨_,.str (s1[i]),SqL.of hp.2.2.1,by rw[Gx,Gu hi];rfl⟩) ?_ ?_
  .rintro bk i v σ H4' H4 hi ⟨s4,⟨v6,v7,rfl⟩,RE,t4,pts,g4,LZ,D_,Rt⟩ ⟨t,x,hx9,nt,rfl,rfl⟩;have p_:=hx9 _ (SqL.of RE);rw[Gx,Gu hi] at p_;cases p_;obtain⟨H5,e5,f5,m5,_⟩:=b4 (o:= .tup _) nt;rw[e5];have s5:=s4.trans m5;have L5:=hL.same s5;have g5:=m5 _ _ g4;obtain⟨y,hy,ey⟩:=Gw.mp (a1.mem_iff.mp (Hv hi));have Od:s1.Nodup:=a1.nodup_iff.mpr (E6 hL.nd);have NX:s1.take (i+1)=s1.take i++[s1[i]]:=N5 (Gu hi);refine J3 (SqT.of f5) rfl ?_;walk_at "e";obtain⟨d,hd,_,_⟩:=M8 hD (11+(i:Int)) (by lia) (by lia);refine i8 (SqL.of (s5 _ _ hA)) hd ?_;walk_at "e";refine aD (λhb=>?_) (λhb=>?_)
   .walk_at "e";refine b0 L5.at_.tup (b5 (j:=0) rfl) ?_;walk_at "e";refine B6 (v:= .str y.2) (by have z:=G3 (k:=Sum.inr y.1) L5.at_.pts;rw[aU (E6 hL.nd) hy] at z;rw[←ey];exact z) ?_;walk_at "e";have fr:s1[i]∉pts.map (·.1):=λm=>by
     obtain⟨x,hx,ex⟩:=Gw.mp m;have z:=(LZ x hx).2;rw[ex] at z;exact N3 Od (Gu hi) z
    refine G7 (u7 (k:=Sum.inr s1[i]) g5 (h9 (by rw[k8];lia)) ?_);rw[cu fr];refine⟨B5 s5 np,⟨_,_,rfl⟩,by rw[b9 Zs];exact m5 _ _ RE,by rw[b9 F'.symm];exact m5 _ _ t4,_,b7,λx hx=>?_,?_,by rw[GF,Hb];lia⟩
    .rcases GO.mp hx with z|z
     .exact⟨(LZ x z).1,by rw[NX];exact GA _ (LZ x z).2⟩
     .rw[GZ.mp z];exact⟨by rw[←ey];exact hy,by rw[NX];exact GG _ (GZ.mpr rfl)⟩
    .rw[Gy];exact Q5 D_ fr
   .walk_at "e";exact⟨s5,⟨_,_,rfl⟩,m5 _ _ RE,m5 _ _ t4,pts,g5,λx hx=>⟨(LZ x hx).1,by rw[NX];exact GA _ (LZ x hx).2⟩,D_,by lia⟩
  rintro σ H4 ⟨s4,⟨v6,v7,rfl⟩,RE,t4,pts,g4,LZ,D_,Rt⟩;refine⟨⟨_,SqL.of RE,by rw[Gs];exact Gv _⟩,?_⟩;refine hx [some (.ref L.a),some (.ref a),some (.ref b),some (.ref c),some (.ref p),some (.ref q),v6,v7,none,none,none] H4 ?_;clear hx;replace LZ:∀x∈pts,x∈L.W.pts:=λx hx=>(LZ x hx).1;have L4:=hL.same s4;refine B2 λP_ hx=>?_;walk_at "e";refine b0 L4.at_.tup (b5 (j:=1) rfl) ?_;walk_at "e";refine z7 (ss:=L.W.ts.map (·.1)) (.inl L4.hq) (by rw[L4.at_.ts.keys,r6]) (by rw[Gs];lia) (λs2 b1 b2 l6 n6=>?_);obtain⟨H6,e6,f6,m6,_⟩:=b4 (o:= .lst (s2.map V.str)) n6;rw[e6];have UW:=s4.trans m6;have UX:=b1.length_eq;rw[Gs] at UX;have Pb:l6≠q:=λz=>by rw[z,t4] at n6;cases n6
  walk_at "e";refine⟨_,rfl,.inl ⟨l6,_,rfl,SqL.of f6,?_⟩⟩;refine S8 (n:=s2.length) (λi σ H'=>Same H H'/\(∃v6 v7 v8,σ=[some (.ref L.a),some (.ref a),some (.ref b),some (.ref c),some (.ref p),some (.ref q),v6,v7,v8,none,none])/\H' l6=some (.lst (s2.map V.str))/\H' p=some (.dK (i9 pts))/\∃(kvs:List (j0×V)) (ts:List (Str×F2)),H' q=some (.dK kvs)/\TiesIs K H' kvs ts/\(∀x∈ts,(x∈L.W.ts/\x.1∈s2.take i)/\x.2.2.1∈pts.map (·.1)/\x.2.2.2∈pts.map (·.1))/\(ts.map (·.1)).Nodup/\ts.length<=i) ⟨UW,⟨_,_,_,rfl⟩,f6,m6 _ _ g4,[],[],m6 _ _ t4,.nil,(λ_ h=>nomatch h),IS,Gv _⟩ (λi σ H' hi hp=>⟨_,.str (s2[i]),SqL.of hp.2.2.1,by rw[Gx,Gu hi];rfl⟩) ?_ ?_
  .rintro bk i v σ H7' H7 hi ⟨s7,⟨v6,v7,v8,rfl⟩,Qi,g7,kvs,ts,t7,w7,K_,OH,j'⟩ ⟨t,x,hx9,nt,rfl,rfl⟩;have p_:=hx9 _ (SqL.of Qi);rw[Gx,Gu hi] at p_;cases p_;obtain⟨H8,e8,f8,m8,_⟩:=b4 (o:= .tup _) nt;rw[e8];have s8:=s7.trans m8;have L8:=hL.same s8;have g8:=m8 _ _ g7;have t8:=m8 _ _ t7;have w8:=w7.mono m8.le;have Ox:=w7.length;obtain⟨⟨y0,y1,y2,y3⟩,hy,ey⟩:=Gw.mp (b1.mem_iff.mp (Hv hi));have WV:y0=s2[i]:=ey;obtain⟨bb,SY,sb⟩:=dg L8.at_.ts (K4 hL.nd) hy;have LK:s2.Nodup:=b1.nodup_iff.mpr (K4 hL.nd);have NX:s2.take (i+1)=s2.take i++[s2[i]]:=N5 (Gu hi);refine J3 (SqT.of f8) rfl ?_;walk_at "e";refine N0 ?_;walk_at "e";refine b0 L8.at_.tup (b5 (j:=1) rfl) ?_;walk_at "e";refine B6 (v:= .ref bb) (by have z:=G3 (k:=Sum.inr y0) L8.at_.ties;rw[SY] at z;rw[←WV];exact z) ?_;walk_at "e";obtain⟨d,hd,_,_⟩:=M8 hD (14+(i:Int)) (by lia) (by lia);refine i8 (SqL.of (s8 _ _ hA)) hd ?_;have k3:H8 l6=some (.lst (s2.map V.str))/\H8 p=some (.dK (i9 pts))/\∃(kvs:List (j0×V)) (ts:List (Str×F2)),H8 q=some (.dK kvs)/\TiesIs K H8 kvs ts/\(∀x∈ts,(x∈L.W.ts/\x.1∈s2.take (i+1))/\x.2.2.1∈pts.map (·.1)/\x.2.2.2∈pts.map (·.1))/\(ts.map (·.1)).Nodup/\ts.length<=i+1:=⟨m8 _ _ Qi,g8,kvs,ts,t8,w8,λx hx=>⟨⟨(K_ x hx).1.1,by rw[NX];exact GA _ (K_ x hx).1.2⟩,(K_ x hx).2⟩,OH,by lia⟩
   walk_at "e";refine C5 (λhb=>?_) (λhb=>?_);rotate_left
   .walk_at "e";exact⟨s8,⟨_,_,_,rfl⟩,k3⟩
   walk_at "e";refine b0 sb (b5 (j:=1) rfl) ?_;walk_at "e";refine P0 (G3 (k:=Sum.inr y2) (show Rd H8 p _ from .inl g8)) ?_;rw[G0];walk_at "e";refine C5 (λhc=>?_) (λhc=>?_);rotate_left
   .walk_at "e";exact⟨s8,⟨_,_,_,rfl⟩,k3⟩
   walk_at "e";refine b0 sb (b5 (j:=2) rfl) ?_;walk_at "e";refine P0 (G3 (k:=Sum.inr y3) (show Rd H8 p _ from .inl g8)) ?_;rw[G0];walk_at "e";refine C5 (λhd=>?_) (λhd=>?_);rotate_left
   .walk_at "e";exact⟨s8,⟨_,_,_,rfl⟩,k3⟩
   walk_at "e";have fr:s2[i]∉ts.map (·.1):=λm=>by
    obtain⟨x,hx,ex⟩:=Gw.mp m;have z:=(K_ x hx).1.2;rw[ex] at z;exact N3 LK (Gu hi) z
   refine G7 (u7 (k:=Sum.inr s2[i]) t8 (h9 (by lia)) ?_);refine⟨B5 s8 OG,⟨_,_,_,rfl⟩,by rw[b9 Pb];exact m8 _ _ Qi,by rw[b9 F'];exact g8,_,ts++[(s2[i],(y1,y2,y3))],b7,P1 t8 (gr w8 fr sb),λx hx=>?_,?_,by rw[GF,Hb];lia⟩
   .rcases GO.mp hx with z|z
    .exact⟨⟨(K_ x z).1.1,by rw[NX];exact GA _ (K_ x z).1.2⟩,(K_ x z).2⟩
    .rw[GZ.mp z];exact⟨⟨by rw[←WV];exact hy,by rw[NX];exact GG _ (GZ.mpr rfl)⟩,hc,hd⟩
   .rw[Gy];exact Q5 OH fr
  rintro σ H7 ⟨s7,⟨RD,UY,UZ,rfl⟩,Qi,g7,kvs,ts,t7,w7,Pt,OH,j'⟩;refine⟨⟨_,SqL.of Qi,by rw[Gs];exact Gv _⟩,?_⟩;refine hx [some (.ref L.a),some (.ref a),some (.ref b),some (.ref c),some (.ref p),some (.ref q),RD,UY,UZ,none,none] H7 ?_;clear hx;have K_:∀x∈ts,x∈L.W.ts:=λx hx=>(Pt x hx).1.1;have NT:∀x∈ts,x.2.2.1∈pts.map (·.1)/\x.2.2.2∈pts.map (·.1):=λx hx=>(Pt x hx).2;have Ox:=w7.length;clear Pt L4 L2;have L7:=hL.same s7;obtain⟨U',SA,U_⟩:=di hW 7 (by lia);obtain⟨Va,Ol,Pu⟩:=di hW 8 (by lia);have Vb:U'∉pts.map (·.1):=λm=>by
   obtain⟨x,hx,ex⟩:=Gw.mp m;obtain⟨i,hi,e⟩:=lf.pi (Gw.mpr ⟨x,LZ x hx,ex⟩);have:=N8 hW.nd e SA;lia
  have Qj:Va∉ts.map (·.1):=λm=>by
   obtain⟨x,hx,ex⟩:=Gw.mp m;obtain⟨i,hi,_,e⟩:=lf.ti (Gw.mpr ⟨x,K_ x hx,ex⟩);have:=N8 hW.nd e Ol;lia
  refine B2 λSD hx=>?_;suffices go:∀(H':Hp) (i_:List (Str×Str)),Same H H'->H' p=some (.dK (i9 i_))->H' q=some (.dK kvs)->TiesIs K H' kvs ts->(∀x∈i_,x∈L.W.pts\/ws[7]?=some x.1)->(∀n∈pts.map (·.1),n∈i_.map (·.1))->(i_.map (·.1)).Nodup->i_.length<=4->SD [some (.ref L.a),some (.ref a),some (.ref b),some (.ref c),some (.ref p),some (.ref q),RD,UY,UZ,none,none] H' by
   have Ni:=go H7 pts s7 g7 t7 w7 (λx hx=> .inl (LZ x hx)) (λ_ h=>h) D_ (by lia);walk_at "e";obtain⟨d,hd,_,_⟩:=M8 hD 16 (by lia) (by lia);refine i8 (SqL.of (s7 _ _ hA)) hd ?_;walk_at "e";refine C5 (λhb=>?_) (λhb=>?_);rotate_left
   .walk_at "e";exact Ni
   walk_at "e";refine C3 (G5 (.inl g7) ?_);walk_at "e";refine b0 L7.at_.tup (b5 (j:=0) rfl) ?_;walk_at "e";refine C3 (G5 L7.at_.pts ?_);walk_at "e";refine C5 (λhc=>?_) (λhc=>?_);rotate_left
   .walk_at "e";exact Ni
   walk_at "e";obtain⟨d2,hd2,_,_⟩:=M8 hD 17 (by lia) (by lia);refine i8 (SqL.of (s7 _ _ hA)) hd2 ?_;walk_at "e";obtain⟨kd,F_,_⟩:=A5 (ss:=ks) (i:=d2 % 2) (by lia) (by lia);refine i8 (SqL.of (s7 _ _ hC)) F_ ?_;walk_at "e";refine i8 (SqL.of (s7 _ _ hB)) (U_ 7 rfl) ?_;refine G7 (u7 (k:=Sum.inr U') g7 (h9 (by rw[k8];lia)) ?_);rw[cu Vb];refine go _ (pts++[(U',kd)]) (B5 s7 np) b7 (by rw[b9 F'.symm];exact t7) (P1 g7 w7) (λx hx=>?_) (λn hn=>by rw[Gy];exact GA _ hn) (by rw[Gy];exact Q5 D_ Vb) (by rw[GF,Hb];lia);rcases GO.mp hx with z|z
   .exact .inl (LZ x z)
   .rw[GZ.mp z];exact .inr SA
  clear s7 g7 t7 w7 Qi LZ D_ Rt L7 Vb;intro H7 i_ s7 g7 t7 w7 LZ Ly D_ Rt;refine hx _ _ ?_;clear hx;have L7:=hL.same s7;refine B2 λRF hx=>?_;suffices go:∀(H':Hp) (v9 v10:Option V) (c_:List (j0×V)) (ND:List (Str×F2)),Same H H'->H' p=some (.dK (i9 i_))->H' q=some (.dK c_)->TiesIs K H' c_ ND->(∀x∈ND,x∈L.W.ts\/ws[8]?=some x.1)->(∀x∈ND,x.2.2.1∈i_.map (·.1)/\x.2.2.2∈i_.map (·.1))->(ND.map (·.1)).Nodup->ND.length<=3->RF [some (.ref L.a),some (.ref a),some (.ref b),some (.ref c),some (.ref p),some (.ref q),RD,UY,UZ,v9,v10] H' by
   have Ni:=go H7 none none kvs ts s7 g7 t7 w7 (λx hx=> .inl (K_ x hx)) (λx hx=>⟨Ly _ (NT x hx).1,Ly _ (NT x hx).2⟩) OH (by lia);walk_at "e";obtain⟨d,hd,_,_⟩:=M8 hD 18 (by lia) (by lia);refine i8 (SqL.of (s7 _ _ hA)) hd ?_;walk_at "e";refine C5 (λhb=>?_) (λhb=>?_);rotate_left
   .walk_at "e";exact Ni
   walk_at "e";refine C3 (G5 (.inl g7) ?_);rw[k8];walk_at "e";refine C5 (λhc=>?_) (λhc=>?_);rotate_left
   .walk_at "e";exact Ni
   walk_at "e";refine C3 (G5 (.inl t7) ?_);walk_at "e";refine b0 L7.at_.tup (b5 (j:=1) rfl) ?_;walk_at "e";refine C3 (G5 L7.at_.ties ?_);walk_at "e";refine C5 (λhe=>?_) (λhe=>?_);rotate_left
   .walk_at "e";exact Ni
   walk_at "r";refine z7 (ss:=i_.map (·.1)) (.inl g7) (by rw[B7,r6]) (by rw[Gs];lia) (λs9 c1 c2 l9 n9=>?_);obtain⟨H9,e9,f9,m9,_⟩:=b4 (o:= .lst (s9.map V.str)) n9;rw[e9];have RG:=s7.trans m9;have Mm:=c1.length_eq;rw[Gs] at Mm;walk_at "r";obtain⟨Zt,Vc,WW,_⟩:=M8 hD 20 (by lia) (by lia);refine i8 (SqL.of (RG _ _ hA)) Vc ?_;walk_at "r";refine C3 (x9 (SqL.of f9) ?_);rw[Gs,Mm];walk_at "r";obtain⟨oa,Pr,RC⟩:=A5 (ss:=s9) (i:=Zt % (i_.length:Int)) (HR _ (by lia)) (by rw[Mm];exact HJ _ (by lia));refine i8 (SqL.of f9) Pr ?_;walk_at "r";obtain⟨Zu,Vd,WX,_⟩:=M8 hD 19 (by lia) (by lia);refine i8 (SqL.of (RG _ _ hA)) Vd ?_;walk_at "r";obtain⟨kd,F_,_⟩:=A5 (ss:=ks) (i:=Zu % 2) (by lia) (by lia);refine i8 (SqL.of (RG _ _ hC)) F_ ?_;walk_at "r";obtain⟨Zv,Ve,WY,_⟩:=M8 hD 21 (by lia) (by lia);refine i8 (SqL.of (RG _ _ hA)) Ve ?_;walk_at "r";refine C3 (x9 (SqL.of f9) ?_);rw[Gs,Mm];walk_at "r";obtain⟨ob,y_,Pf⟩:=A5 (ss:=s9) (i:=Zv % (i_.length:Int)) (HR _ (by lia)) (by rw[Mm];exact HJ _ (by lia));refine i8 (SqL.of f9) y_ ?_;walk_at "r";refine⟨h9 (by simp),λla na=>?_⟩;obtain⟨Ha,ea,fa,ma,_⟩:=b4 (o:= .tup _) na;rw[ea];have WZ:=RG.trans ma;have ta:=(m9.trans ma) _ _ t7;walk_at "r";refine i8 (SqL.of (WZ _ _ hB)) (Pu 8 rfl) ?_;refine G7 (u7 (k:=Sum.inr Va) ta (h9 (by lia)) ?_);refine go _ _ _ _ (ts++[(Va,(kd,oa,ob))]) (B5 WZ OG) (by rw[b9 F'];exact(m9.trans ma) _ _ g7) b7 (P1 ta (gr (w7.mono (m9.trans ma).le) Qj (SqT.of fa))) (λx hx=>?_) (λx hx=>?_) (by rw[Gy];exact Q5 OH Qj) (by rw[GF,Hb];lia)
   .rcases GO.mp hx with z|z
    .exact .inl (K_ x z)
    .rw[GZ.mp z];exact .inr Ol
   .rcases GO.mp hx with z|z
    .exact⟨Ly _ (NT x z).1,Ly _ (NT x z).2⟩
    .rw[GZ.mp z];exact⟨c1.mem_iff.mp RC,c1.mem_iff.mp Pf⟩
  clear s7 g7 t7 w7 K_ NT OH j' L7 Ox Qj;intro H7 v9 v10 c_ ND s7 g7 t7 w7 K_ NT OH j';refine hx _ _ ?_;clear hx;walk_at "r";refine⟨h9 (by simp),λl nl=>?_⟩;obtain⟨H8,e8,f8,m8,_⟩:=b4 (o:= .tup [.ref p,.ref q]) nl;rw[e8];have nms:∀x∈i_.map (·.1)++ND.map (·.1),x∈ws:=λx hx=>by
   rcases GO.mp hx with z|z
   .obtain⟨y,hy,ey⟩:=Gw.mp z;rcases LZ y hy with z|z
    .obtain⟨i,_,e⟩:=lf.pi (Gw.mpr ⟨y,z,ey⟩);exact GJ e
    .rw[←ey];exact GJ z
   .obtain⟨y,hy,ey⟩:=Gw.mp z;rcases K_ y hy with z|z
    .obtain⟨i,_,_,e⟩:=lf.ti (Gw.mpr ⟨y,z,ey⟩);exact GJ e
    .rw[←ey];exact GJ z
  exact k ⟨l,p,q,c_,⟨i_,ND⟩⟩ H8 (s7.trans m8) ⟨⟨SqT.of f8,.inl (m8 _ _ g7),.inl (m8 _ _ t7),w7.mono m8.le⟩,m8 _ _ g7,m8 _ _ t7,F',BS hW.nd lf D_ OH LZ K_,by show(i_.map (·.1)++ND.map (·.1)).length<=24;rw[GF,Gs,Gs];lia,NT,λx hx=>He (eo (hW.kd x (nms x hx))) (by decide)⟩ ⟨LZ,K_,Rt,j'⟩
def Eo (L B:A6):Prop:=∃A:List Str,(d9 B).Perm (d9 L++A)/\A.length<=2
def dm (K:Qc):Sp:=λvs H Q _=>∃(c:Int) (lw lk:Addr) (ws ks:List Str),vs=[.int c,.ref lw,.ref lk]/\0<=c/\c<10 ^ 60/\H lw=some (.lst (ws.map V.str))/\H lk=some (.lst (ks.map V.str))/\jD ws/\ks.length=2/\
 ∀(r bl:Addr) (L R:Sd) (bs:List Sd) (H':Hp),Same H H'->RuleIs K H' r bl L R bs->H' bl=some (.lst (bs.map λs=>V.ref s.a))->LfOk ws L.W->RgOk ws L.W R.W->bs.length<=1->(∀b∈bs,Eo L.W b.W)->Q (.ref r) H'
theorem ye {ss:List Str}(h:0<ss.length):∃x,gM (ss.map V.str) (-1)=some (.str x)/\x∈ss:=by
 obtain⟨v,hv,hm⟩:=tY (xs:=ss.map V.str) (by rw[Gs];exact h);obtain⟨x,hx,rfl⟩:=Gw.mp hm;exact⟨x,hv,hx⟩
theorem By {H:Hp}{d:Addr}{xs:List V}{u:HO}{B:Sd}(h:H d=some (.lst xs))(hB:SdIs K H B):SdIs K (p0 H d u) B:=by
 have ne:∀a kv,H a=some (.dK kv)->a≠d:=λa kv e z=>by rw[z,h] at e;cases e
 have tp:∀a ys,SqT K H a ys->SqT K (p0 H d u) a ys:=λa ys s=>by
  rcases s with s|s
  .refine .inl ?_;by_cases z:a=d
   .subst z;rcases s with s|⟨_,s⟩<;>(rw[h] at s;cases s)
   .unfold Rd;rw[b9 z];exact s
  .exact .inr s
 have hp:(p0 H d u) B.p=some (.dK (i9 B.W.pts)):=by rw[b9 (ne _ _ hB.hp)];exact hB.hp
 have hq:(p0 H d u) B.q=some (.dK B.kvs):=by rw[b9 (ne _ _ hB.hq)];exact hB.hq
 exact⟨⟨tp _ _ hB.at_.tup,.inl hp,.inl hq,Paired.imp' (λ_ _ z=>⟨z.1,z.2.imp λa y=>⟨y.1,tp _ _ y.2⟩⟩) hB.at_.ts⟩,hp,hq,hB.ne,hB.nd,hB.len,hB.ends,hB.nl⟩
abbrev fB (P:Program)(w:World)(K:Qc)(mg:Str->Option Value)(base:Heap):Prop:=O4 P w K mg base C2 2 "_law_rule" ["_law_cell","_law_words_here","_law_kinds_here"] [] (dm K)
theorem lJ {f:Addr}{fd:FuncData}(T:Txt K mg)(V4:bL P w K mg base)(aF:fH P w K mg base)(aq:dN P w K mg base)(F:Fun K "_law_rule" "_law_rule" aE f fd):A3 P w K mg base C2 2 f fd ["_law_cell","_law_words_here","_law_kinds_here"] (dm K):=by
 refine F.ok sc__law_rule (λvs H Q E h=>?_) (λd_ A outer s H vs Q E hr h=>?_)
 .obtain⟨c,lw,lk,ws,ks,rfl,_⟩:=h;rfl
 .obtain⟨c,lw,lk,ws,ks,rfl,Vf,Vg,hB,hC,hW,hk,k⟩:=h;have hN:=sc__law_rule.nd;have hu:=u9 hr;refine⟨_,QSs.r (x6 (j8 (i:=3) hN rfl (by walk_at "l") (qC V4 (hr.mono (by decide)) j7 (j3 (qV 0) (j3 d8 j6))))
   (x6 (j8 (i:=4) hN rfl (by walk_at "l") (qC aF (hr.mono (by decide)) j7 (j3 (qV 3) (j3 (qV 1) (j3 (qV 2) j6)))))
   (x6 (j8 (i:=5) hN rfl (by walk_at "l") (dn j6))
   (x6 (bC (x5 (M9 K hr) (B1 p9 (k9 (l0 K hu) (qV 3) d8 (λ_ _=>rfl)) d8) d8 (p7 _)) (x6 (j8 (i:=6) hN rfl (by walk_at "l") (gD (X9 K rfl) T.b_dict Boot.«dict» (j3 (k9 (l0 K hu) (qV 4) d8 (λ_ _=>rfl)) j6)))
   (x6 (j8 (i:=7) hN rfl (by walk_at "l") (gD (X9 K rfl) T.b_dict Boot.«dict» (j3 (k9 (l0 K hu) (qV 4) d8 (λ_ _=>rfl)) j6)))
   (x6 (W8 (k9 (l0 K hu) (qV 2) (B1 p9 (k9 (l0 K hu) (qV 3) d8 (λ_ _=>rfl)) d8) (λ_ _=>rfl)) (kC (qV 6) (k9 (l0 K hu) (qV 1) d8 (λ_ _=>rfl)) (z6 P w hu)))
   (x6 (bC (x5 (M9 K hr) (B1 p9 (k9 (l0 K hu) (qV 3) d8 (λ_ _=>rfl)) d8) d8 (p7 _)) (x6 (j8 (i:=8) hN rfl (by walk_at "l") (qB (G4 K rfl) T.b_sorted Boot.«sorted» (j3 (qV 6) j6)))
   (A7 (W8 (P5 (j3 (k9 (l0 K hu) (qV 2) (B1 p9 (k9 (l0 K hu) (qV 3) d8 (λ_ _=>rfl)) d8) (λ_ _=>rfl)) (j3 (k9 (l0 K hu) (qV 8) d8 (λ_ _=>rfl)) (j3 (k9 (l0 K hu) (qV 8) (Gp zE d8) (λ_ _=>rfl)) j6)))) (kC (qV 7) (k9 (l0 K hu) (qV 1) d8 (λ_ _=>rfl)) (z6 P w hu))))) cF)
   (A7 (uC (qM HP HY HZ B0 K (qV 5) (j3 (P5 (j3 (qV 6) (j3 (qV 7) j6))) j6)))))))) cF)
   (A7 (A1 (P5 (j3 (qV 4) (j3 (qC aq (hr.mono (by decide)) j7 (j3 (qV 4) (j3 (qV 3) (j3 (qV 1) (j3 (qV 2) j6))))) (j3 (qV 5) j6)))))))))),?_⟩
  refine B2 λRp hx=>?_;walk_at "e";refine⟨c,rfl,Vf,Vg,λld H1 ds n1 m1 hA1 hD=>?_⟩;walk_at "e";refine hx [some (.int c),some (.ref lw),some (.ref lk),some (.ref ld),none,none,none,none,none] _ ?_;clear hx;refine B2 λP_ hx=>?_;walk_at "e";refine⟨ld,lw,lk,ds,ws,ks,rfl,hA1,m1 _ _ hB,m1 _ _ hC,hD,hW,hk,λL H2 m2 hL lf=>?_⟩;walk_at "e";refine hx [some (.int c),some (.ref lw),some (.ref lk),some (.ref ld),some (.ref L.a),none,none,none,none] _ ?_;clear hx;have Mc:=lf.l1;have Nm:=lf.l2;have Np:=m1.trans m2;have RH:=m2 _ _ hA1;have Vh:=Np _ _ hB;have Vi:=Np _ _ hC;refine B2 λSD hx=>?_;walk_at "e";refine⟨h9 (by simp),λlb nb=>?_⟩;obtain⟨H3,e3,f3,m3,_⟩:=b4 (o:= .lst []) nb;rw[e3];walk_at "e";refine hx [some (.int c),some (.ref lw),some (.ref lk),some (.ref ld),some (.ref L.a),some (.ref lb),none,none,none] _ ?_;clear hx;have nb0:=Np.free nb;refine B2 λRF hx=>?_;suffices go:∀(H':Hp) (v6 v7 v8:Option V) (bs:List Sd),Same H2 H'->H' lb=some (.lst (bs.map λs=>V.ref s.a))->(∀b∈bs,SdIs K H' b)->bs.length<=1->(∀b∈bs,Eo L.W b.W)->RF [some (.int c),some (.ref lw),some (.ref lk),some (.ref ld),some (.ref L.a),some (.ref lb),v6,v7,v8] H' by
   walk_at "e";obtain⟨d,hd,_,_⟩:=M8 hD 22 (by lia) (by lia);refine i8 (SqL.of (m3 _ _ RH)) hd ?_;walk_at "e";refine C5 (λhb=>?_) (λhb=>?_);rotate_left
   .walk_at "e";exact go H3 none none none [] m3 f3 (λ_ h=>nomatch h) (by decide) (λ_ h=>nomatch h)
   have L3:=hL.same m3;walk_at "r";refine b0 L3.at_.tup (b5 (j:=0) rfl) ?_;walk_at "r";refine J6 L3.at_.pts (λp np=>?_);obtain⟨H4,e4,f4,m4,_⟩:=b4 (o:= .dK (i9 L.W.pts)) np;rw[e4];walk_at "r";refine b0 (L3.same m4).at_.tup (b5 (j:=1) rfl) ?_;walk_at "r";refine J6 (L3.same m4).at_.ties (λq nq=>?_);obtain⟨H5,e5,f5,m5,_⟩:=b4 (o:= .dK L.kvs) nq;rw[e5];have F':p≠q:=j4 f4 nq;have Mj:=m3.trans (m4.trans m5);have Zw:H2 p=none:=m3.free np;have Zx:H2 q=none:=m3.free (m4.free nq);have Zy:lb≠p:=λz=>by rw[z] at f3;rw[f3] at np;cases np
   have Zz:lb≠q:=λz=>by rw[z] at f3;rw[m4 _ _ f3] at nq;cases nq
   have ZA:=(m4.trans m5) _ _ f3;have g5:=m5 _ _ f4;have w5:=L3.at_.ts.mono (m4.trans m5).le;have MD:=w5.length;obtain⟨w9,SE,Vj⟩:=di hW 9 (by lia);obtain⟨w8,Ol,Pu⟩:=di hW 8 (by lia);have W_:w9∉d9 L.W:=λm=>by
    rcases GO.mp m with z|z
    .obtain⟨i,hi,e⟩:=lf.pi z;have:=N8 hW.nd e SE;lia
    .obtain⟨i,_,hi,e⟩:=lf.ti z;have:=N8 hW.nd e SE;lia
   have Qj:w8∉d9 L.W:=λm=>by
    rcases GO.mp m with z|z
    .obtain⟨i,hi,e⟩:=lf.pi z;have:=N8 hW.nd e Ol;lia
    .obtain⟨i,_,hi,e⟩:=lf.ti z;have:=N8 hW.nd e Ol;lia
   have ZC:w9≠w8:=λz=>by
    have:=N8 hW.nd SE (by rw[z];exact Ol);lia
   walk_at "r";obtain⟨d3,QZ,_,_⟩:=M8 hD 23 (by lia) (by lia);refine i8 (SqL.of (Mj _ _ RH)) QZ ?_;walk_at "r";obtain⟨kd,F_,_⟩:=A5 (ss:=ks) (i:=d3 % 2) (by lia) (by lia);refine i8 (SqL.of (Mj _ _ Vi)) F_ ?_;walk_at "r";refine i8 (SqL.of (Mj _ _ Vh)) (Vj 9 rfl) ?_;refine G7 (u7 (k:=Sum.inr w9) g5 (h9 (by rw[k8];lia)) ?_);rw[cu (λz=>W_ (GA _ z))];have PZ:Same H2 (p0 H5 p (.dK (i9 (L.W.pts++[(w9,kd)])))):=B5 Mj Zw;have g6:(p0 H5 p (.dK (i9 (L.W.pts++[(w9,kd)])))) p=some (.dK (i9 (L.W.pts++[(w9,kd)]))):=b7;have t6:(p0 H5 p (.dK (i9 (L.W.pts++[(w9,kd)])))) q=some (.dK L.kvs):=by rw[b9 F'.symm];exact f5
   have Vk:(p0 H5 p (.dK (i9 (L.W.pts++[(w9,kd)])))) lb=some (.lst []):=by rw[b9 Zy];exact ZA
   have w6:TiesIs K (p0 H5 p (.dK (i9 (L.W.pts++[(w9,kd)])))) L.kvs L.W.ts:=P1 g5 w5;generalize p0 H5 p (.dK (i9 (L.W.pts++[(w9,kd)])))=H6 at PZ g6 t6 Vk w6⊢;have fin:∀(H7:Hp) (kvs:List (j0×V)) (ts:List (Str×F2)) (A:List Str),Same H2 H7->H7 p=some (.dK (i9 (L.W.pts++[(w9,kd)])))->H7 q=some (.dK kvs)->H7 lb=some (.lst [])->TiesIs K H7 kvs ts->ts.map (·.1)=L.W.ts.map (·.1)++A->(A=[]\/A=[w8])->(∀x∈ts,x.2.2.1∈(L.W.pts++[(w9,kd)]).map (·.1)/\x.2.2.2∈(L.W.pts++[(w9,kd)]).map (·.1))->∀t,H7 t=none->∃B:Sd,B.a=t/\SdIs K (p0 H7 t (.tup [.ref p,.ref q])) B/\Eo L.W B.W:=by
    intro H7 kvs ts A s7 g7 t7 l7 w7 et hA' en t nt;obtain⟨H8,e8,f8,m8,_⟩:=b4 (o:= .tup [.ref p,.ref q]) nt;rw[e8];have pm:(d9 ⟨L.W.pts++[(w9,kd)],ts⟩).Perm (d9 L.W++(w9::A)):=by
     show((L.W.pts++[(w9,kd)]).map (·.1)++ts.map (·.1)).Perm _;rw[et,Gy];unfold d9;show(L.W.pts.map (·.1)++[w9]++(L.W.ts.map (·.1)++A)).Perm (L.W.pts.map (·.1)++L.W.ts.map (·.1)++([w9]++A));rw[Hl,Hl,←Hl [w9],←Hl (L.W.ts.map (·.1))];exact Kn _ ((Jz).append_right A)
    have Nn:(d9 L.W++(w9::A)).Nodup:=by
     refine GX.mpr ⟨hL.nd,?_,λx hx y hy e=>?_⟩
     .rcases hA' with rfl|rfl
      .exact Ka _ _
      .exact Hs.mpr ⟨by simpa using ZC,Ka _ _⟩
     .subst e;rcases Hh.mp hy with rfl|hy
      .exact W_ hx
      .rcases hA' with rfl|rfl
       .cases hy
       .rw[GZ.mp hy] at hx;exact Qj hx
    have hAl:A.length<=1:=by rcases hA' with rfl|rfl<;>simp
    have nl:∀x∈d9 L.W++(w9::A),x.length<=100:=λx hx=>by
     rcases GO.mp hx with z|z
     .exact hL.nl x z
     .have k_:x∈ws:=by
       rcases Hh.mp z with rfl|z
       .exact GJ SE
       .rcases hA' with rfl|rfl
        .cases z
        .rw[GZ.mp z];exact GJ Ol
      exact He (eo (hW.kd x k_)) (by decide)
    refine⟨⟨t,p,q,kvs,⟨L.W.pts++[(w9,kd)],ts⟩⟩,rfl,⟨⟨SqT.of f8,.inl (m8 _ _ g7),.inl (m8 _ _ t7),w7.mono m8.le⟩,m8 _ _ g7,m8 _ _ t7,F',pm.nodup_iff.mpr Nn,?_,en,λx hx=>nl x (pm.mem_iff.mp hx)⟩,w9::A,pm,by rw[HF];lia⟩;show(d9 ⟨L.W.pts++[(w9,kd)],ts⟩).length<=24;rw[pm.length_eq,GF,A4,HF];lia
   walk_at "e";refine B2 λVl Se=>?_;have OI:∀x∈L.W.ts,x.2.2.1∈(L.W.pts++[(w9,kd)]).map (·.1)/\x.2.2.2∈(L.W.pts++[(w9,kd)]).map (·.1):=λx hx=>by
    rw[Gy];exact⟨GA _ (hL.ends x hx).1,GA _ (hL.ends x hx).2⟩
   have ZD:=PZ _ _ RH;suffices go5:∀(H7:Hp) (v8:Option V) (kvs:List (j0×V)) (ts:List (Str×F2)) (A:List Str),Same H2 H7->H7 p=some (.dK (i9 (L.W.pts++[(w9,kd)])))->H7 q=some (.dK kvs)->H7 lb=some (.lst [])->TiesIs K H7 kvs ts->ts.map (·.1)=L.W.ts.map (·.1)++A->(A=[]\/A=[w8])->(∀x∈ts,x.2.2.1∈(L.W.pts++[(w9,kd)]).map (·.1)/\x.2.2.2∈(L.W.pts++[(w9,kd)]).map (·.1))->Vl [some (.int c),some (.ref lw),some (.ref lk),some (.ref ld),some (.ref L.a),some (.ref lb),some (.ref p),some (.ref q),v8] H7 by
    walk_at "e";obtain⟨d4,UO,_,_⟩:=M8 hD 24 (by lia) (by lia);refine i8 (SqL.of ZD) UO ?_;walk_at "e";refine C5 (λZE=>?_) (λZE=>?_);rotate_left
    .walk_at "e";exact go5 H6 none L.kvs L.W.ts [] PZ g6 t6 Vk w6 (by rw[HX]) (.inl rfl) OI
    walk_at "r";refine z7 (ss:=(L.W.pts++[(w9,kd)]).map (·.1)) (.inl g6) (by rw[B7,r6]) (by rw[Gs,GF,Hb];lia) (λs7 c1 c2 l7 n7=>?_);obtain⟨H7,e7,f7,m7,_⟩:=b4 (o:= .lst (s7.map V.str)) n7;rw[e7];have Oi:=PZ.trans m7;have Mm:=c1.length_eq;rw[Gs,GF,Hb] at Mm;walk_at "r";obtain⟨d5,UU,_,_⟩:=M8 hD 25 (by lia) (by lia);refine i8 (SqL.of (Oi _ _ RH)) UU ?_;walk_at "r";obtain⟨ke,ZF,_⟩:=A5 (ss:=ks) (i:=d5 % 2) (by lia) (by lia);refine i8 (SqL.of (Oi _ _ Vi)) ZF ?_;walk_at "r";obtain⟨oa,Pr,RC⟩:=A5 (ss:=s7) (i:=0) (by lia) (by lia);refine i8 (SqL.of f7) Pr ?_;walk_at "r";obtain⟨ob,y_,Pf⟩:=ye (ss:=s7) (by lia);refine i8 (SqL.of f7) y_ ?_;walk_at "r";refine⟨h9 (by simp),λla na=>?_⟩;obtain⟨Ha,ea,fa,ma,_⟩:=b4 (o:= .tup _) na;rw[ea];have Xa:=Oi.trans ma;have SF:=m7.trans ma;have ta:=SF _ _ t6;walk_at "r";refine i8 (SqL.of (Xa _ _ Vh)) (Pu 8 rfl) ?_;refine G7 (u7 (k:=Sum.inr w8) ta (h9 (by lia)) ?_);refine go5 _ _ _ (L.W.ts++[(w8,(ke,oa,ob))]) [w8] (B5 Xa Zx) (by rw[b9 F'];exact SF _ _ g6) b7 (by rw[b9 Zz];exact SF _ _ Vk) (P1 ta (gr (w6.mono SF.le) (λz=>Qj (GG _ z)) (SqT.of fa))) (by rw[Gy];rfl) (.inr rfl) (λx hx=>?_);rcases GO.mp hx with z|z
    .exact OI x z
    .rw[GZ.mp z];exact⟨c1.mem_iff.mp RC,c1.mem_iff.mp Pf⟩
   intro H7 v8 kvs ts A s7 g7 t7 l7 w7 et hA' en;refine Se _ _ ?_;clear Se;walk_at "e";refine⟨.inl ⟨rfl,_,SqL.of l7⟩,?_⟩;walk_at "e";refine⟨h9 (by simp),λt nt=>?_⟩;obtain⟨B,ha,Xb,ZG⟩:=fin H7 kvs ts A s7 g7 t7 l7 w7 et hA' en t nt;obtain⟨H8,e8,f8,m8,_⟩:=b4 (o:= .tup [.ref p,.ref q]) nt;rw[e8] at Xb⊢;have l8:=m8 _ _ l7;walk_at "e";refine⟨lb,_,.ref t,rfl,rfl,l8,h9 (by simp),?_⟩;have ZH:H2 lb=none:=nb;refine go _ _ _ _ [B] (B5 (s7.trans m8) ZH) (by rw[b7,←ha];rfl) (λb hb=>?_) (by simp) (λb hb=>by rw[GZ.mp hb];exact ZG);rw[GZ.mp hb];exact By l8 Xb
  intro H4 v6 v7 v8 bs s4 f4 UD Ri hbr;refine hx _ _ ?_;clear hx;have L4:=hL.same s4;walk_at "r";refine⟨L,ld,lw,lk,ds,ws,ks,rfl,L4,lf,s4 _ _ RH,s4 _ _ Vh,s4 _ _ Vi,hD,hW,hk,λR H5 m5 hR rg=>?_⟩;walk_at "r";refine⟨h9 (by simp),λt nt=>?_⟩;obtain⟨H6,e6,f6,m6,_⟩:=b4 (o:= .tup [.ref L.a,.ref R.a,.ref lb]) nt;rw[e6];have SG:=m5.trans m6;have SH:=SG _ _ f4;exact k t lb L R bs H6 (Np.trans (s4.trans SG)) ⟨SqT.of f6,L4.same SG,hR.same m6,SqL.of SH,λb hb=>(UD b hb).same SG⟩ SH lf rg Ri hbr
def je (g:Str->Str)(x:Str×F2):Str×F2:=(g x.1,(x.2.1,g x.2.2.1,g x.2.2.2))
def cI (g:Str->Str)(W L:A6):A6:=⟨W.pts++L.pts.map (λx=>(g x.1,x.2)),W.ts++L.ts.map (je g)⟩
structure PlOk (ns:List Str) (L:A6) (fx:List (Str×Str)):Prop where
 ks:(fx.map (·.1)).Perm (d9 L)
 vs:∀x∈fx,x.2∈ns
 nd:(fx.map (·.2)).Nodup
def az (K:Qc):Sp:=λvs H Q _=>∃(W L:Sd) (c:Addr) (ns:List Str),vs=[.ref W.a,.ref L.a,.ref c]/\WebIs 7 K H W.a W.p W.q W.kvs W.W/\SdIs K H L/\(d9 L.W).length<=9/\H c=some (.lst (ns.map V.str))/\ns.length=9/\ns.Nodup/\(∀n∈ns,n.length<=100/\n∉d9 W.W)/\
 ∀(t m:Addr) (S:Sd) (fx:List (Str×Str)) (H':Hp),Same H H'->H' t=some (.tup [.ref S.a,.ref m])->H m=none->SdIs K H' S->H' m=some (.dK (i9 fx))->PlOk ns L.W fx->S.W=cI (i6 (i9 fx)) W.W L.W->Q (.ref t) H'
section
variable {ns:List Str} {W L:A6} {fx:List (Str×Str)}
theorem PlOk.ndk (h:PlOk ns L fx)(nd:(d9 L).Nodup):(fx.map (·.1)).Nodup:=h.ks.nodup_iff.mpr nd
theorem PlOk.at_ (h:PlOk ns L fx)(nd:(d9 L).Nodup){n:Str}(hn:n∈d9 L):TxtAt (i9 fx) n/\i6 (i9 fx) n∈ns/\(n,i6 (i9 fx) n)∈fx:=by
 obtain⟨⟨n',s⟩,hx,e⟩:=Gw.mp (h.ks.mem_iff.mpr hn);have e':n'=n:=e;subst e';have z:=U3 (h.ndk nd) hx;rw[z.2];exact⟨z.1,h.vs _ hx,hx⟩
theorem PlOk.inj (h:PlOk ns L fx)(nd:(d9 L).Nodup){m n:Str}(hm:m∈d9 L)(hn:n∈d9 L)(e:i6 (i9 fx) m=i6 (i9 fx) n):m=n:=by
 have z1:=(h.at_ nd hm).2.2;have z2:=(h.at_ nd hn).2.2;rw[e] at z1;have key:∀{l:List (Str×Str)} {a b c:Str},(l.map (·.2)).Nodup->(a,c)∈l->(b,c)∈l->a=b:=fun{l}=>by
  induction l with
  |nil=>intro a b c _ h;cases h
  |cons x r ih=>
   intro a b c nd h1 h2
   have nd':=Hs.mp (show(x.2::r.map (·.2)).Nodup from nd)
   rcases Hh.mp h1 with e1|h1
   .rcases Hh.mp h2 with e2|h2
    .rw[←e1] at e2;exact(IH e2).1.symm
    .exact absurd (Gw.mpr ⟨_,h2,by rw[←e1]⟩) nd'.1
   .rcases Hh.mp h2 with e2|h2
    .exact absurd (Gw.mpr ⟨_,h1,by rw[←e2]⟩) nd'.1
    .exact ih nd'.2 h1 h2
 exact key h.nd z1 z2
theorem PlOk.ndg (h:PlOk ns L fx)(nd:(d9 L).Nodup):((d9 L).map (i6 (i9 fx))).Nodup:=by
 have key:∀{l:List Str},l.Nodup->(∀m∈l,m∈d9 L)->(l.map (i6 (i9 fx))).Nodup:=fun{l}=>by
  induction l with
  |nil=>intro _ _;exact IS
  |cons x r ih=>
   intro nd' hs
   have n2:=Hs.mp nd'
   refine Hs.mpr ⟨λz=>?_,ih n2.2 λm hm=>hs m (GY _ hm)⟩
   obtain⟨y,hy,e⟩:=Gw.mp z
   rw[h.inj nd (hs y (GY _ hy)) (hs x Hg) e] at hy
   exact n2.1 hy
 exact key nd λ_ h=>h
theorem ib (g:Str->Str):(d9 (cI g W L)).Perm (d9 W++(d9 L).map g):=by
 unfold d9 cI;show((W.pts++L.pts.map (λx=>(g x.1,x.2))).map (·.1)++(W.ts++L.ts.map (je g)).map (·.1)).Perm (W.pts.map (·.1)++W.ts.map (·.1)++(L.pts.map (·.1)++L.ts.map (·.1)).map g);rw[Gy,Gy,Gy,GQ,GQ,GQ,GQ];generalize W.pts.map (·.1)=A;generalize W.ts.map (·.1)=B;show(A++L.pts.map (λx=>g x.1)++(B++L.ts.map (λx=>g x.1))).Perm (A++B++(L.pts.map (λx=>g x.1)++L.ts.map (λx=>g x.1)));generalize L.pts.map (λx=>g x.1)=C;generalize L.ts.map (λx=>g x.1)=D;rw[Hl,Hl,←Hl C,←Hl B];exact Kn _ (Jz.append_right D)
end
theorem qJ:∀(a b:List Str),((a.zip b).map (·.2)).Sublist b
 |[],_=>List.nil_sublist _
 |_::_,[]=> .slnil
 |n::a,x::b=>(qJ a b).cons_cons x
theorem vX {H:Hp}{kvs:List (j0×V)}{ts:List (Str×F2)}(w:TiesIs K H kvs ts):kvs.map (λkv=>kV kv.1)=(ts.map (·.1)).map V.str:=by
 have h:kvs.map (λkv=>kV kv.1)=(kvs.map (·.1)).map kV:=by rw[GQ];rfl
 rw[h,w.keys,GQ,GQ];rfl
theorem yb {H:Hp}{d:Addr}{kvs:List (j0×V)}{n:Str}{Q:VK}(h:H d=some (.dK kvs))(t:TxtAt kvs n)(q:Q (.str (i6 kvs n)) H):mQ K (.ref d) (.str n) H Q:=by
 obtain⟨s,hs⟩:=t;refine B6 (v:= .str (i6 kvs n)) ?_ q;have z:=G3 (H:=H) (k:=Sum.inr n) (.inl h);rw[hs] at z;rw[bB hs];exact z
abbrev aN (P:Program)(w:World)(K:Qc)(mg:Str->Option Value)(base:Heap):Prop:=O4 P w K mg base C2 1 "_law_planted" ["_law_web_here","_law_piece","_law_names_here"] [] (az K)
theorem fS {f:Addr}{fd:FuncData}(T:Txt K mg)(F:Fun K "_law_planted" "_law_planted" S9 f fd):A3 P w K mg base C2 1 f fd ["_law_web_here","_law_piece","_law_names_here"] (az K):=by
 refine F.ok sc__law_planted (λvs H Q E h=>?_) (λd_ A outer s H vs Q E hr h=>?_)
 .obtain⟨W,L,c,ns,rfl,_⟩:=h;rfl
 .obtain⟨W,L,c,ns,rfl,hW,hL,Pd,hC,NV,D_,Qy,k⟩:=h;have lW:=hW.len;rw[A4] at lW;have lL:=Pd;rw[A4] at lL;have eW1:=k8 W.W.pts;have eW2:=hW.at_.ts.length;have eL1:=k8 L.W.pts;have eL2:=hL.at_.ts.length;have hN:=sc__law_planted.nd;have hu:=u9 hr;refine⟨_,QSs.r (x6 (j8 (i:=3) hN rfl (by walk_at "l") tH)
   (x6 (Q1 Ht rfl (Bd K T.b_zip (j3 (B1 (F4 K) (qB (G4 K rfl) T.b_sorted Boot.«sorted» (j3 (k9 (l0 K hu) (qV 1) d8 (λ_ _=>rfl)) j6)) (qB (G4 K rfl) T.b_sorted Boot.«sorted» (j3 (k9 (l0 K hu) (qV 1) d8 (λ_ _=>rfl)) j6))) (j3 (qV 2) j6))) (oX K rfl (cH (F9 (i:=4) hN rfl (by walk_at "l")) (cH (F9 (i:=5) hN rfl (by walk_at "l")) oS)))
    (A7 (W8 (qV 5) (kC (qV 3) (qV 4) (z6 P w hu)))))
   (x6 (j8 (i:=6) hN rfl (by walk_at "l") (gD (X9 K rfl) T.b_dict Boot.«dict» (j3 (k9 (l0 K hu) (qV 0) d8 (λ_ _=>rfl)) j6)))
   (x6 (Q1 Ht rfl (Q4 K (k9 (l0 K hu) (qV 1) d8 (λ_ _=>rfl))) (F9 (i:=4) hN rfl (by walk_at "l"))
    (A7 (W8 (k9 (l0 K hu) (k9 (l0 K hu) (qV 1) d8 (λ_ _=>rfl)) (qV 4) (λ_ _=>rfl)) (kC (qV 6) (k9 (l0 K hu) (qV 3) (qV 4) (λ_ _=>rfl)) (z6 P w hu)))))
   (x6 (j8 (i:=7) hN rfl (by walk_at "l") (gD (X9 K rfl) T.b_dict Boot.«dict» (j3 (k9 (l0 K hu) (qV 0) d8 (λ_ _=>rfl)) j6)))
   (x6 (Q1 Ht rfl (Q4 K (k9 (l0 K hu) (qV 1) d8 (λ_ _=>rfl))) (F9 (i:=4) hN rfl (by walk_at "l"))
    (x6 (j8 (i:=8) hN rfl (by walk_at "l") (k9 (l0 K hu) (k9 (l0 K hu) (qV 1) d8 (λ_ _=>rfl)) (qV 4) (λ_ _=>rfl)))
   (A7 (W8 (P5 (j3 (k9 (l0 K hu) (qV 8) d8 (λ_ _=>rfl)) (j3 (k9 (l0 K hu) (qV 3) (k9 (l0 K hu) (qV 8) d8 (λ_ _=>rfl)) (λ_ _=>rfl)) (j3 (k9 (l0 K hu) (qV 3) (k9 (l0 K hu) (qV 8) d8 (λ_ _=>rfl)) (λ_ _=>rfl)) j6)))) (kC (qV 7) (k9 (l0 K hu) (qV 3) (qV 4) (λ_ _=>rfl)) (z6 P w hu))))))
   (A7 (A1 (P5 (j3 (P5 (j3 (qV 6) (j3 (qV 7) j6))) (j3 (qV 3) j6))))))))))),?_⟩
  walk_at "e";refine N0 ?_;walk_at "e";intro d nd;obtain⟨H1,e1,f1,m1,_⟩:=b4 (o:= .dK []) nd;rw[e1];have L1:=hL.same m1;walk_at "e";refine B2 λRp hx=>?_;walk_at "e";refine b0 L1.at_.tup (b5 (j:=0) rfl) ?_;walk_at "e";refine z7 (ss:=L.W.pts.map (·.1)) (.inl L1.hp) (by rw[B7,r6]) (by rw[Gs];lia) (λs1 a1 a2 l2 n2=>?_);obtain⟨H2,e2,f2,m2,_⟩:=b4 (o:= .lst (s1.map V.str)) n2;rw[e2];have L2:=L1.same m2;walk_at "e";refine b0 L2.at_.tup (b5 (j:=1) rfl) ?_;walk_at "e";refine z7 (ss:=L.W.ts.map (·.1)) (.inl L2.hq) (by rw[L2.at_.ts.keys,r6]) (by rw[Gs];lia) (λs2 b1 b2 l3 n3=>?_);obtain⟨H3,e3,f3,m3,_⟩:=b4 (o:= .lst (s2.map V.str)) n3;rw[e3];have Mc:=a1.length_eq;have Nm:=b1.length_eq;rw[Gs] at Mc Nm;refine nQ (m3 _ _ f2) f3 (h9 (by rw[Gs,Gs];lia)) (λl4 n4=>?_);rw[←Gy];obtain⟨H4,e4,f4,m4,_⟩:=b4 (o:= .lst ((s1++s2).map V.str)) n4;rw[e4];have ps:(s1++s2).Perm (d9 L.W):=a1.append b1;have QL:(s1++s2).length=(d9 L.W).length:=ps.length_eq;generalize s1++s2=s at f4 ps QL;have PU:=m2.trans (m3.trans m4);have RA:=m1.trans PU;have ZI:s.Nodup:=ps.nodup_iff.mpr hL.nd;obtain⟨fx,RI⟩:∃fx,fx=s.zip ns:=⟨_,rfl⟩
  have Xc:fx.map (·.1)=s:=by rw[RI];exact List.map_fst_zip (by lia)
  have A_:fx.length=s.length:=by rw[RI,JZ];lia
  have pl:PlOk ns L.W fx:=⟨by rw[Xc];exact ps,λx hx=>by rw[RI] at hx;exact(Ks hx).2,by rw[RI];exact D_.sublist (qJ s ns)⟩
  walk_at "e";refine⟨l4,c,_,_,rfl,SqL.of f4,SqL.of (RA _ _ hC),?_⟩;refine S8 (n:=s.length) (λi σ H'=>∃v4 v5:Option V,σ=[some (.ref W.a),some (.ref L.a),some (.ref c),some (.ref d),v4,v5,none,none,none]/\Same H H'/\H' l4=some (.lst (s.map V.str))/\H' d=some (.dK (i9 (fx.take i)))) ⟨none,none,rfl,RA,f4,PU _ _ f1⟩ (λi σ H' hi hp=>?_) ?_ ?_
  .obtain⟨_,_,_,s6,f6,_⟩:=hp;exact⟨_,_,.str (s[i]),.str (ns[i]'(by lia)),SqL.of f6,SqL.of (s6 _ _ hC),by rw[Gx,Gu hi];rfl,by rw[Gx,Gu (show i<ns.length by lia)];rfl⟩
  .rintro bk i v σ H6 H6' hi ⟨v4,v5,rfl,s6,f6,OJ⟩ ⟨t,x,y,hx,hy,nt,rfl,rfl⟩;have p_:=hx _ (SqL.of f6);have RW:=hy _ (SqL.of (s6 _ _ hC));rw[Gx,Gu hi] at p_;rw[Gx,Gu (show i<ns.length by lia)] at RW;cases p_;cases RW;obtain⟨H7,e7,f7,m7,_⟩:=b4 (o:= .tup _) nt;rw[e7];have PF:fx[i]?=some (s[i],ns[i]'(by lia)):=by
    have z:(s.zip ns)[i]?=some (s[i],ns[i]'(by lia)):=JG.mpr ⟨Gu hi,Gu (by lia)⟩;rw[←RI] at z;exact z
   have ZJ:s[i]∉(fx.take i).map (·.1):=by
    rw[MI,Xc];exact N3 ZI (Gu hi)
   refine J3 (SqT.of f7) rfl ?_;walk_at "e";refine G7 (u7 (k:=Sum.inr s[i]) (m7 _ _ OJ) (h9 (by rw[k8,GC];lia)) ?_);rw[cu ZJ];refine⟨_,_,rfl,B5 (s6.trans m7) nd,by rw[b9 (λe=>by rw[e,OJ] at f6;cases f6)];exact m7 _ _ f6,?_⟩;rw[b7,Ho,PF];rfl
  rintro σ H6 ⟨v4,v5,rfl,s6,f6,OJ⟩;refine⟨⟨_,_,SqL.of f6,SqL.of (s6 _ _ hC),.inl (by rw[Gs];exact Gv _)⟩,?_⟩;rw[GD (by lia)] at OJ;refine hx [some (.ref W.a),some (.ref L.a),some (.ref c),some (.ref d),v4,v5,none,none,none] H6 ?_;clear hx;have W6:=hW.same s6;refine B2 λP_ hx=>?_;walk_at "e";refine b0 W6.at_.tup (b5 (j:=0) rfl) ?_;walk_at "e";refine J6 W6.at_.pts (λp np=>?_);obtain⟨H7,e7,f7,m7,_⟩:=b4 (o:= .dK (i9 W.W.pts)) np;rw[e7];walk_at "e";refine hx [some (.ref W.a),some (.ref L.a),some (.ref c),some (.ref d),v4,v5,some (.ref p),none,none] H7 ?_;clear hx;have s7:=s6.trans m7;have L7:=hL.same s7;have fd7:=m7 _ _ OJ;have npd:p≠d:=(j4 OJ np).symm;have np0:H p=none:=s6.free np;have ZK:L.p≠p:=j4 (hL.same s6).hp np;have npq:L.q≠p:=j4 (hL.same s6).hq np;obtain⟨g,hg⟩:∃g,g=i6 (i9 fx):=⟨_,rfl⟩
  have Vm:(d9 (cI g W.W L.W)).Nodup:=by
   refine(ib g).nodup_iff.mpr (GX.mpr ⟨hW.nd,by rw[hg];exact pl.ndg hL.nd,λa ha b hb e=>?_⟩);subst e;obtain⟨n,hn,rfl⟩:=Gw.mp hb;rw[hg] at ha;exact(Qy _ (pl.at_ hL.nd hn).2.1).2 ha
  have nd1:((cI g W.W L.W).pts.map (·.1)).Nodup:=E6 Vm;have Nn:((cI g W.W L.W).ts.map (·.1)).Nodup:=K4 Vm;have ZL:∀x∈L.W.pts,x.1∈d9 L.W:=λx hx=>GA _ (Gw.mpr ⟨x,hx,rfl⟩);have ZM:∀x∈L.W.ts,x.1∈d9 L.W:=λx hx=>GG _ (Gw.mpr ⟨x,hx,rfl⟩);refine B2 λSD hx=>?_;walk_at "e";refine b0 L7.at_.tup (b5 (j:=0) rfl) ?_;refine nL L7.hp (λO' o1=>?_);have L6:=hL.same s6;have Pw:p≠L.p:=ZK.symm;have ndL:d≠L.p:=λe=>by rw[e] at nd;rw[hL.hp] at nd;cases nd
  have ZN:d≠L.q:=λe=>by rw[e] at nd;rw[hL.hq] at nd;cases nd
  refine S8 (n:=(i9 L.W.pts).length) (λi σ H'=>Same (D0 L.p o1 (i9 L.W.pts) H6) H'/\(∃v4 v5,σ=[some (.ref W.a),some (.ref L.a),some (.ref c),some (.ref d),v4,v5,some (.ref p),none,none])/\H' p=some (.dK (i9 (W.W.pts++(L.W.pts.take i).map (λx=>(g x.1,x.2)))))) ⟨dA m7,⟨_,_,rfl⟩,by rw[O0 Pw,f7];show _=some (HO.dK (i9 (W.W.pts++[])));rw[HX]⟩ (λi σ H' hi hp=>⟨hp.1 _ _ b7,hi⟩) ?_ ?_
  .rintro bk i v σ H8' H8 hi ⟨s8,⟨v4,v5,rfl⟩,g8⟩ ⟨rfl,kv,f_,rfl⟩;obtain⟨x,hx,rfl⟩:=bE f_;have LB:=GJ hx;have ZO:=(F8 (o:=o1) L6.hp).trans s8.le;have A8:=L6.at_.mono ZO;have ZP:H8 d=some (.dK (i9 fx)):=s8 _ _ (by rw[O0 ndL];exact OJ);have fr:g x.1∉(W.W.pts++(L.W.pts.take i).map (λx=>(g x.1,x.2))).map (·.1):=by
    have z:(cI g W.W L.W).pts=(W.W.pts++(L.W.pts.take i).map (λx=>(g x.1,x.2)))++(L.W.pts.drop i).map (λx=>(g x.1,x.2)):=by
     show W.W.pts++L.W.pts.map _=_;rw[Hl,←Gy,IQ]
    rw[z,Gy] at nd1;intro m;refine(GX.mp nd1).2.2 _ m _ ?_ rfl;rw[GQ];refine Gw.mpr ⟨x,?_,rfl⟩;exact GJ (i:=0) (by rw[Jr];exact hx)
   walk_at "e";refine b0 A8.tup (b5 (j:=0) rfl) ?_;walk_at "e";refine B6 (v:= .str x.2) (by have z:=G3 (k:=Sum.inr x.1) A8.pts;rw[aU (E6 hL.nd) LB] at z;exact z) ?_;walk_at "e";refine yb ZP (pl.at_ hL.nd (ZL x LB)).1 ?_;rw[←hg];refine G7 (u7 (k:=Sum.inr (g x.1)) g8 (h9 (by rw[k8,GF,Gs,GC];lia)) ?_);rw[cu fr];refine⟨B5 s8 (by rw[O0 Pw];exact np),⟨_,_,rfl⟩,?_⟩;rw[b7,Hl,Ho,hx,Gy];rfl
  rintro σ H8 ⟨s8,⟨v4,v5,rfl⟩,g8⟩;refine⟨⟨s8 _ _ b7,Gv _⟩,?_⟩;rw[GD (by lia)] at g8;have sT:=s8.thaw L6.hp;have gT:thaw L.p H8 p=some (.dK (i9 (cI g W.W L.W).pts)):=by rw[O2 Pw];exact g8
  generalize thaw L.p H8=H9 at sT gT⊢;refine hx [some (.ref W.a),some (.ref L.a),some (.ref c),some (.ref d),v4,v5,some (.ref p),none,none] H9 ?_;clear hx g8 s8;have s9:=s6.trans sT;have W9:=hW.same s9;refine B2 λRF hx=>?_;walk_at "e";refine b0 W9.at_.tup (b5 (j:=1) rfl) ?_;walk_at "e";refine J6 W9.at_.ties (λq nq=>?_);obtain⟨HA,eA,fA,mA,_⟩:=b4 (o:= .dK W.kvs) nq;rw[eA];walk_at "e";refine hx [some (.ref W.a),some (.ref L.a),some (.ref c),some (.ref d),v4,v5,some (.ref p),some (.ref q),none] HA ?_;clear hx;have sA:=s9.trans mA;have LA:=hL.same sA;have L9:=hL.same s9;have F':p≠q:=j4 gT nq;have OG:H q=none:=s9.free nq;have Vn:q≠L.q:=(j4 L9.hq nq).symm;have Xd:=sT _ _ OJ;refine B2 λVl hx=>?_;walk_at "e";refine b0 LA.at_.tup (b5 (j:=1) rfl) ?_;refine nL LA.hq (λOE o2=>?_);refine S8 (n:=L.kvs.length) (λi σ H'=>Same (D0 L.q o2 L.kvs H9) H'/\(∃v4 v5 v8,σ=[some (.ref W.a),some (.ref L.a),some (.ref c),some (.ref d),v4,v5,some (.ref p),some (.ref q),v8])/\∃Px,H' q=some (.dK Px)/\TiesIs K H' Px (W.W.ts++(L.W.ts.take i).map (je g))) ⟨dA mA,⟨_,_,_,rfl⟩,W.kvs,by rw[O0 Vn,fA],?_⟩ (λi σ H' hi hp=>⟨hp.1 _ _ b7,hi⟩) ?_ ?_
  .show TiesIs K _ W.kvs (W.W.ts++[]);rw[HX];exact(W9.at_.ts.mono mA.le).mono (F8 (o:=o2) LA.hq)
  .rintro bk i v σ HB' HB hi ⟨sB,⟨v4,v5,v8,rfl⟩,Px,gB,tB⟩ ⟨rfl,kv,f_,rfl⟩;have leB:=(F8 (o:=o2) L9.hq).trans sB.le;have AB:=L9.at_.mono leB;obtain⟨x,hx,ex,bb,eb,sb⟩:=AB.ts.get f_;have LB:=GJ hx;obtain⟨kk,M'⟩:=kv;have Nj:kk=Sum.inr x.1:=ex;have M_:M'= .ref bb:=eb;subst Nj M_;have Oh:=hL.ends x LB;have Vo:HB d=some (.dK (i9 fx)):=sB _ _ (by rw[O0 ZN];exact Xd);have OD:=tB.length;rw[GF,Gs,GC] at OD;have fr:g x.1∉(W.W.ts++(L.W.ts.take i).map (je g)).map (·.1):=by
    have z:(cI g W.W L.W).ts=(W.W.ts++(L.W.ts.take i).map (je g))++(L.W.ts.drop i).map (je g):=by
     show W.W.ts++L.W.ts.map _=_;rw[Hl,←Gy,IQ]
    rw[z,Gy] at Nn;intro m;refine(GX.mp Nn).2.2 _ m _ ?_ rfl;rw[GQ];refine Gw.mpr ⟨x,?_,rfl⟩;exact GJ (i:=0) (by rw[Jr];exact hx)
   obtain⟨b2,LY,Vp⟩:=dg AB.ts (K4 hL.nd) (show(x.1,x.2)∈L.W.ts from LB);obtain⟨x0,x1,x2,x3⟩:=x;walk_at "e";refine N0 ?_;walk_at "e";refine b0 AB.tup (b5 (j:=1) rfl) ?_;walk_at "e";refine B6 (v:= .ref b2) (by have z:=G3 (k:=Sum.inr x0) AB.ties;rw[LY] at z;exact z) ?_;walk_at "e";refine b0 Vp (b5 (j:=0) rfl) ?_;walk_at "e";refine b0 Vp (b5 (j:=1) rfl) ?_;refine yb Vo (pl.at_ hL.nd (GA _ Oh.1)).1 ?_;walk_at "e";refine b0 Vp (b5 (j:=2) rfl) ?_;refine yb Vo (pl.at_ hL.nd (GA _ Oh.2)).1 ?_;rw[←hg];walk_at "e";refine⟨h9 (by simp),λlC nC=>?_⟩;obtain⟨HC,eC,fC,mC,_⟩:=b4 (o:= .tup (cq (x1,g x2,g x3))) nC;change xD _ _ _ _ _ (p0 HB lC (.tup (cq (x1,g x2,g x3)))) _;rw[eC];walk_at "e";refine yb (mC _ _ Vo) (pl.at_ hL.nd (ZM _ LB)).1 ?_;rw[←hg];have gC:=mC _ _ gB;refine G7 (u7 (k:=Sum.inr (g x0)) gC (h9 (by lia)) ?_);refine⟨B5 (sB.trans mC) (by rw[O0 Vn];exact nq),⟨_,_,_,rfl⟩,_,b7,?_⟩;rw[Ho,hx,Gy,←Hl];exact P1 gC (gr (tB.mono mC.le) fr (SqT.of fC))
  rintro σ HB ⟨sB,⟨v4,v5,v8,rfl⟩,Px,gB,tB⟩;refine⟨⟨sB _ _ b7,Gv _⟩,?_⟩;rw[GD (by lia)] at tB;have sU:=sB.thaw L9.hq;have gU:thaw L.q HB q=some (.dK Px):=by rw[O2 Vn];exact gB
  have tU:TiesIs K (thaw L.q HB) Px (cI g W.W L.W).ts:=tB.mono pV;generalize thaw L.q HB=HC at sU gU tU⊢;refine hx [some (.ref W.a),some (.ref L.a),some (.ref c),some (.ref d),v4,v5,some (.ref p),some (.ref q),v8] HC ?_;clear hx gB tB sB;walk_at "r";refine⟨h9 (by simp),λl1 nl1=>?_⟩;obtain⟨HD,eD,fD,mD,_⟩:=b4 (o:= .tup [.ref p,.ref q]) nl1;rw[eD];walk_at "r";refine⟨h9 (by simp),λl2 nl2=>?_⟩;obtain⟨HE,eE,fE,mE,_⟩:=b4 (o:= .tup [.ref l1,.ref d]) nl2;rw[eE];have RJ:=mD.trans mE;have gE:=(sU.trans RJ) _ _ gT;have hE:=RJ _ _ gU;have k_:∀n∈d9 (cI g W.W L.W),n∈d9 W.W\/n∈ns:=λn hn=>by
   rcases GO.mp ((ib g).mem_iff.mp hn) with z|z
   .exact .inl z
   .obtain⟨m,hm,rfl⟩:=Gw.mp z;rw[hg];exact .inr (pl.at_ hL.nd hm).2.1
  refine k l2 d ⟨l1,p,q,Px,cI g W.W L.W⟩ fx HE (s9.trans (sU.trans RJ)) fE nd ⟨⟨mE.tup (SqT.of fD),.inl gE,.inl hE,tU.mono RJ.le⟩,gE,hE,F',Vm,?_,?_,λn hn=>(k_ n hn).elim (hW.nl n) λz=>(Qy n z).1⟩ ((sU.trans RJ) _ _ Xd) pl (by rw[←hg])
  .show(d9 (cI g W.W L.W)).length<=24;rw[(ib g).length_eq,GF,Gs,A4,A4];lia
  .intro x hx;show x.2.2.1∈(W.W.pts++L.W.pts.map (λx=>(g x.1,x.2))).map (·.1)/\x.2.2.2∈(W.W.pts++L.W.pts.map (λx=>(g x.1,x.2))).map (·.1);rw[Gy];rcases GO.mp (show x∈W.W.ts++L.W.ts.map (je g) from hx) with z|z
   .exact⟨GA _ (hW.ends x z).1,GA _ (hW.ends x z).2⟩
   .obtain⟨y,hy,rfl⟩:=Gw.mp z;have he:=hL.ends y hy;have key:∀e:Str,e∈L.W.pts.map (·.1)->g e∈(L.W.pts.map (λx=>(g x.1,x.2))).map (·.1):=λe h=>by
     obtain⟨u,hu,rfl⟩:=Gw.mp h;rw[GQ];exact Gw.mpr ⟨u,hu,rfl⟩
    exact⟨GG _ (key _ he.1),GG _ (key _ he.2)⟩
def wt (ws:List (j0×V))(s:Str):Int:=match p8 ws (Sum.inr s:j0) with
 |some (.int i)=>i
 |_=>0
def aI (ws:List (j0×V))(pts:List (Str×Str)):Int:=(pts.map λx=>wt ws x.2).sum
def aW (ws:List (j0×V))(ts:List (Str×F2)):Int:=(ts.map λx=>wt ws x.2.1).sum
def V7 (ws:List (j0×V))(W:A6):Int:=aI ws W.pts+aW ws W.ts
structure WbI (K:Qc) (H:Hp) (a p q:Addr) (kvs:List (j0×V)) (W:A6):Prop where
 tup:SqT K H a [.ref p,.ref q]
 hp:H p=some (.dK (i9 W.pts))
 hq:H q=some (.dK kvs)
 ts:TiesIs K H kvs W.ts
 lp:W.pts.length<=60
 lq:W.ts.length<=60
structure WtI (H:Hp) (d:Addr) (ws:List (j0×V)):Prop where
 hd:H d=some (.dK ws)
 ok:∀kv∈ws,∃(n:Str) (i:Int),kv=(Sum.inr n,.int i)
theorem WbI.same {K:Qc}{H H':Hp}{a p q:Addr}{kvs:List (j0×V)}{W:A6}(h:WbI K H a p q kvs W)(s:Same H H'):WbI K H' a p q kvs W:=⟨s.tup h.tup,s _ _ h.hp,s _ _ h.hq,h.ts.mono s.le,h.lp,h.lq⟩
theorem WtI.same {H H':Hp}{d:Addr}{ws:List (j0×V)}(h:WtI H d ws)(s:Same H H'):WtI H' d ws:=⟨s _ _ h.hd,h.ok⟩
theorem SdIs.wb {H:Hp}{S:Sd}(h:SdIs K H S):WbI K H S.a S.p S.q S.kvs S.W:=by
 have l:=h.len;rw[A4] at l;exact⟨h.at_.tup,h.hp,h.hq,h.at_.ts,by lia,by lia⟩
def hZ (K:Qc):Sp:=λvs H Q _=>∃(a p q d:Addr) (kvs ws:List (j0×V)) (W:A6),vs=[.ref a,.ref d]/\WbI K H a p q kvs W/\WtI H d ws/\∀H',Same H H'->Q (.int (V7 ws W)) H'
def bp (K:Qc):Sp:=λvs H Q _=>∃(a p q d:Addr) (kvs ws:List (j0×V)) (W:A6),vs=[.ref a,.ref d]/\WbI K H a p q kvs W/\WtI H d ws/\∀H',Same H H'->Q (.int (V7 ws W)) H'
def nK (K:Qc):Sp:=λvs H Q _=>∃(r a p q a' p' q' d:Addr) (x:V) (kvs c_ ws:List (j0×V)) (W W':A6),vs=[.ref r,.ref d]/\SqT K H r [.ref a,.ref a',x]/\WbI K H a p q kvs W/\WbI K H a' p' q' c_ W'/\WtI H d ws/\∀H',Same H H'->Q (.bl (decide (V7 ws W'<V7 ws W))) H'
def ax (K:Qc):Sp:=λvs H Q _=>∃(c:Int) (b:Addr) (ks:List Str),vs=[.int c,.ref b]/\0<=c/\H b=some (.lst (ks.map V.str))/\ks.length=2/\∀(d:Addr) (ws:List (j0×V)) (H':Hp),Same H H'->H d=none->WtI H' d ws->Q (.ref d) H'
theorem pJ {ws:List (j0×V)}(h:∀kv∈ws,∃(n:Str) (i:Int),kv=(Sum.inr n,.int i))(s:Str):(p8 ws (Sum.inr s:j0)).getD (.int 0)= .int (wt ws s):=by
 unfold wt;cases e:p8 ws (Sum.inr s:j0) with
 |none=>rfl
 |some v=>
  obtain⟨n,i,z⟩:=h _ (dR e)
  have:=(IH z).2
  rw[this];rfl
theorem nR {α:Type}{l:List α}{f:α->Int}{i:Nat}{x:α}(h:l[i]?=some x):((l.take (i+1)).map f).sum=((l.take i).map f).sum+f x:=by
 rw[Ho,h];simp
theorem tq {pts:List (Str×Str)}:(i9 pts).map (·.2)=(pts.map (·.2)).map V.str:=by unfold i9;rw[GQ,GQ];rfl
abbrev eN (P:Program)(w:World)(K:Qc)(mg:Str->Option Value)(base:Heap):Prop:=O4 P w K mg base C2 1 "weighed" ["web","weights"] [] (hZ K)
theorem pv {f:Addr}{fd:FuncData}(T:Txt K mg)(F:Fun K "weighed" "weighed" eu f fd):A3 P w K mg base C2 1 f fd ["web","weights"] (hZ K):=by
 refine F.ok sc_weighed (λvs H Q E h=>?_) (λd_ A outer s H vs Q E hr h=>?_)
 .obtain⟨a,p,q,d,kvs,ws,W,rfl,_⟩:=h;rfl
 .obtain⟨a,p,q,d,kvs,ws,W,rfl,hW,hD,k⟩:=h;have ZQ:=hW.lp;have ZR:=hW.lq;have MD:=hW.ts.length;have hN:=sc_weighed.nd;have hu:=u9 hr;refine⟨_,QSs.r (x6 (j8 (i:=2) hN rfl (by walk_at "l") (B1 (F4 K) (gD (eO K rfl) T.b_list Boot.«list» (j3 (DE HL Iy Jc J2 K (k9 (l0 K hu) (qV 0) d8 (λ_ _=>rfl))) j6)) (E4 (own:=["tie"]) (js:=[]) (by kernel_rfl) rfl (dG (k9 (l0 K hu) (qV 0) d8 (λ_ _=>rfl))) (λ_ _ _ _=>(F9 (i:=0) (show List.Nodup (["tie"]:List Str) by decide+kernel) rfl (by walk_at "l"))) (λ_ _ _ _=>af) (λ_ _ _ _=>(k9 (l0 K hu) (qV 0) d8 (λ_ _=>rfl))))))
   (A7 (A1 (qB (EN K rfl) T.b_sum Boot.«sum» (j3 (E4 (own:=["kind"]) (js:=[1]) (by kernel_rfl) rfl (Q4 K (qV 2)) (λ_ _ _ _=>(F9 (i:=0) (show List.Nodup (["kind","weights"]:List Str) by decide+kernel) rfl (by walk_at "l"))) (λ_ _ _ _=>af) (λ_ _ _ _=>(qT hu (qV 1) (qV 0) d8))) j6))))),?_⟩
  walk_at "r";refine b0 hW.tup (b5 (j:=0) rfl) ?_;refine⟨.inr (.inr (.inl ⟨rfl,.inl ⟨_,hW.hp⟩⟩)),?_⟩;walk_at "r";refine⟨p,_,rfl,rfl,.inl hW.hp,λv nv=>?_⟩;obtain⟨H1,e1,f1,m1,_⟩:=b4 (o:= .ext (jg v p)) nv;rw[e1];walk_at "r";refine T9 f1 (.inl (m1 _ _ hW.hp)) (λl nl=>?_);rw[tq];obtain⟨H2,e2,f2,m2,_⟩:=b4 (o:= .lst _) nl;rw[e2];have s2:=m1.trans m2;have W2:=hW.same s2;walk_at "r";refine b0 W2.tup (b5 (j:=1) rfl) ?_;refine⟨q,kvs,rfl,.inl ⟨W2.hq,λOE o=>?_⟩⟩;refine u4 (n:=kvs.length) (λi out H'=>Same (D0 q o kvs H2) H'/\out=((W.ts.take i).map (·.2.1)).map V.str) ⟨Same.refl _,rfl⟩ (λi out H' hi hp=>⟨hp.1 _ _ b7,hi⟩) ?_ ?_
  .rintro N i v out H3' H3 hi ⟨s3,rfl⟩ ⟨rfl,kv,f_,rfl⟩ hN';have Oe:=(F8 (o:=o) W2.hq).trans s3.le;obtain⟨x,hx,ex,bb,eb,sb⟩:=(W2.ts.mono Oe).get f_;obtain⟨kk,M'⟩:=kv;have M_:M'= .ref bb:=eb;subst M_;walk_at "r";refine⟨rfl,?_⟩;walk_at "r";refine b0 sb (b5 (j:=0) rfl) ?_;refine⟨h9 (by rw[Gs,Gs,GC];lia),hN' _ _ ⟨s3,?_⟩⟩;rw[Ho,hx,Gy,Gy];rfl
  .rintro out H3 ⟨s3,rfl⟩;refine⟨⟨s3 _ _ b7,Gv _⟩,λD hD'=>⟨h9 (by rw[Gs,Gs,GC];lia),?_⟩⟩;rw[GD (by lia)];have s4:=K3 (u:= .lst ((W.ts.map (·.2.1)).map V.str)) W2.hq s3 hD';have f4:=Z0 (u:= .lst ((W.ts.map (·.2.1)).map V.str)) s3 hD';generalize thaw q (p0 H3 D (.lst ((W.ts.map (·.2.1)).map V.str)))=H4 at s4 f4⊢;refine nQ (s4 _ _ f2) f4 (h9 (by simp only[Gs];lia)) (λl5 n5=>?_);rw[←Gy];obtain⟨H5,e5,f5,m5,_⟩:=b4 (o:= .lst _) n5;rw[e5];have D5:=hD.same (s2.trans (s4.trans m5));walk_at "r";refine A0 (SqL.of f5) ?_;generalize Xe:W.pts.map (·.2)++W.ts.map (·.2.1)=ks at f5;have ZS:ks.length=W.pts.length+W.ts.length:=by rw[←Xe];simp
   refine u4 (n:=ks.length) (λi out H'=>Same H5 H'/\out=((ks.take i).map (wt ws)).map V.int) ⟨Same.refl _,rfl⟩ (λi out H' hi hp=>⟨_,.str (ks[i]),SqL.of (hp.1 _ _ f5),by rw[Gx,Gu hi];rfl⟩) ?_ ?_
   .rintro N i v out H6' H6 hi ⟨s6,rfl⟩ y hN';obtain⟨rfl,hx⟩:=Itl.get y (SqL.of (s6 _ _ f5));rw[Gx,Gu hi] at hx;cases hx;have D6:=D5.same s6;walk_at "r";refine⟨rfl,?_⟩;walk_at "r";refine kW ?_;walk_at "r";refine⟨d,rfl,.inl ⟨_,.inl D6.hd⟩,?_⟩;walk_at "r";refine⟨_,G3 (k:=Sum.inr ks[i]) (show Rd H6 d (.dK ws) from .inl D6.hd),?_⟩;rw[pJ D6.ok];refine⟨h9 (by rw[Gs,Gs,GC];lia),hN' _ _ ⟨s6,?_⟩⟩;rw[Ho,Gu hi,Gy,Gy];rfl
   .rintro out H6 ⟨s6,rfl⟩;refine⟨⟨_,SqL.of (s6 _ _ f5),by rw[Gs];exact Gv _⟩,λD7 n7=>⟨h9 (by rw[Gs,Gs,GC];lia),?_⟩⟩;rw[GD (Gv _)];obtain⟨H7,e7,f7,m7,_⟩:=b4 (H:=H6) (o:= .lst ((ks.map (wt ws)).map V.int)) n7;walk_at "r";change xZ K _ (p0 H6 D7 _) _;rw[e7];refine CD (SqL.of f7) ?_;have e8:(ks.map (wt ws)).sum=V7 ws W:=by
     rw[←Xe,Gy,Jd,GQ,GQ];rfl
    rw[e8];exact k _ (s2.trans (s4.trans (m5.trans (s6.trans m7))))
abbrev qe (P:Program)(w:World)(K:Qc)(mg:Str->Option Value)(base:Heap):Prop:=O4 P w K mg base C2 2 "falls" ["rule","weights"] [] (nK K)
theorem vU {f:Addr}{fd:FuncData}(T:Txt K mg)(K1:eN P w K mg base)(F:Fun K "falls" "falls" lB f fd):A3 P w K mg base C2 2 f fd ["rule","weights"] (nK K):=by
 refine F.ok sc_falls (λvs H Q E h=>?_) (λd_ A outer s H vs Q E hr h=>?_)
 .obtain⟨r,a,p,q,a',p',q',d,x,kvs,c_,ws,W,W',rfl,_⟩:=h;rfl
 .obtain⟨r,a,p,q,a',p',q',d,x,kvs,c_,ws,W,W',rfl,hR,hW,hW',hD,k⟩:=h;have hN:=sc_falls.nd;have hu:=u9 hr;refine⟨_,QSs.r (A7 (A1 (dQ aC (qC K1 (hr.mono (by decide)) j7 (j3 (k9 (l0 K hu) (qV 0) d8 (λ_ _=>rfl)) (j3 (qV 1) j6))) (qC K1 (hr.mono (by decide)) j7 (j3 (k9 (l0 K hu) (qV 0) d8 (λ_ _=>rfl)) (j3 (qV 1) j6))) (p7 _)))),?_⟩;walk_at "r";refine b0 hR (b5 (j:=1) rfl) ?_;walk_at "r";refine⟨a',p',q',d,c_,ws,W',rfl,hW',hD,λH1 s1=>?_⟩;walk_at "r";refine b0 (s1.tup hR) (b5 (j:=0) rfl) ?_;walk_at "r";refine⟨a,p,q,d,kvs,ws,W,rfl,hW.same s1,hD.same s1,λH2 s2=>?_⟩;walk_at "r";exact k H2 (s1.trans s2)
abbrev bS (P:Program)(w:World)(K:Qc)(mg:Str->Option Value)(base:Heap):Prop:=O4 P w K mg base C2 1 "_law_weight" ["_law_web_here","_law_weights_here"] [] (bp K)
theorem iq {f:Addr}{fd:FuncData}(T:Txt K mg)(F:Fun K "_law_weight" "_law_weight" U7 f fd):A3 P w K mg base C2 1 f fd ["_law_web_here","_law_weights_here"] (bp K):=by
 refine F.ok sc__law_weight (λvs H Q E h=>?_) (λd_ A outer s H vs Q E hr h=>?_)
 .obtain⟨a,p,q,d,kvs,ws,W,rfl,_⟩:=h;rfl
 .obtain⟨a,p,q,d,kvs,ws,W,rfl,hW,hD,k⟩:=h;have ZQ:=hW.lp;have ZR:=hW.lq;have MD:=hW.ts.length;have Lw:(i9 W.pts).length=W.pts.length:=k8 _;have hN:=sc__law_weight.nd;have hu:=u9 hr;refine⟨_,QSs.r (x6 (j8 (i:=2) hN rfl (by walk_at "l") d8)
   (x6 (Q1 Ht rfl (dG (k9 (l0 K hu) (qV 0) d8 (λ_ _=>rfl))) (F9 (i:=3) hN rfl (by walk_at "l"))
    (A7 (j8 (i:=2) hN rfl (by walk_at "l") (B1 (F4 K) (qV 2) (qT hu (qV 1) (qV 3) d8)))))
   (x6 (Q1 Ht rfl (dG (k9 (l0 K hu) (qV 0) d8 (λ_ _=>rfl))) (F9 (i:=4) hN rfl (by walk_at "l"))
    (A7 (j8 (i:=2) hN rfl (by walk_at "l") (B1 (F4 K) (qV 2) (qT hu (qV 1) (k9 (l0 K hu) (qV 4) d8 (λ_ _=>rfl)) d8)))))
   (A7 (A1 (qV 2)))))),?_⟩
  walk_at "r";refine b0 hW.tup (b5 (j:=0) rfl) ?_;refine⟨p,_,rfl,.inl ⟨hW.hp,λO' o=>?_⟩⟩;refine J5 (n:=(i9 W.pts).length) (λi σ H'=>Same (D0 p o (i9 W.pts) H) H'/\∃v1 v2,σ=[some (.ref a),some (.ref d),some (.int (aI ws (W.pts.take i))),v1,v2]) ⟨Same.refl _,_,_,rfl⟩ (λi σ H' hi hp=>⟨hp.1 _ _ b7,hi⟩) ?_ ?_
  .rintro i v σ H3' H3 hi ⟨s3,v1,v2,rfl⟩ ⟨rfl,kv,f_,rfl⟩;have Oe:=(F8 (o:=o) hW.hp).trans s3.le;obtain⟨x,hx,rfl⟩:=bE f_;walk_at "r";refine kW ?_;walk_at "r";refine⟨d,rfl,.inl ⟨_,Oe.dic (.inl hD.hd)⟩,?_⟩;walk_at "r";refine⟨_,G3 (k:=Sum.inr x.2) (Oe.dic (.inl hD.hd)),?_⟩;rw[pJ hD.ok];walk_at "r";refine⟨s3,some (.str x.2),v2,?_⟩;rw[show aI ws (W.pts.take (i+1))=aI ws (W.pts.take i)+wt ws x.2 from nR hx];rfl
  .rintro σ H3 ⟨s3,v1,v2,rfl⟩;refine⟨⟨s3 _ _ b7,Gv _⟩,?_⟩;rw[Lw,GD (Gv _)];have s4:=s3.thaw hW.hp;change(sY _ _ _ _ (thaw p H3));generalize thaw p H3=H4 at s4⊢;have W4:=hW.same s4;have D4:=hD.same s4;walk_at "r";refine b0 W4.tup (b5 (j:=1) rfl) ?_;refine⟨q,_,rfl,.inl ⟨W4.hq,λOE o5=>?_⟩⟩;refine J5 (n:=kvs.length) (λi σ H'=>Same (D0 q o5 kvs H4) H'/\∃v1 v2,σ=[some (.ref a),some (.ref d),some (.int (aI ws W.pts+aW ws (W.ts.take i))),v1,v2]) ⟨Same.refl _,_,_,by rw[show aW ws (W.ts.take 0)=0 from rfl,Int.add_zero]⟩ (λi σ H' hi hp=>⟨hp.1 _ _ b7,hi⟩) ?_ ?_
   .rintro i v σ H5' H5 hi ⟨s5,v1,v2,rfl⟩ ⟨rfl,kv,f_,rfl⟩;have Vq:=(F8 (o:=o5) W4.hq).trans s5.le;obtain⟨x,hx,ex,bb,eb,sb⟩:=(W4.ts.mono Vq).get f_;obtain⟨kk,M'⟩:=kv;have M_:M'= .ref bb:=eb;subst M_;walk_at "r";refine kW ?_;walk_at "r";refine⟨d,rfl,.inl ⟨_,Vq.dic (.inl D4.hd)⟩,?_⟩;walk_at "r";refine b0 sb (b5 (j:=0) rfl) ?_;walk_at "r";refine⟨_,G3 (k:=Sum.inr x.2.1) (Vq.dic (.inl D4.hd)),?_⟩;rw[pJ D4.ok];walk_at "r";refine⟨s5,v1,some (.ref bb),?_⟩;rw[show aW ws (W.ts.take (i+1))=aW ws (W.ts.take i)+wt ws x.2.1 from nR hx,←Int.add_assoc];rfl
   .rintro σ H5 ⟨s5,v1,v2,rfl⟩;refine⟨⟨s5 _ _ b7,Gv _⟩,?_⟩;rw[MD,GD (Gv _)];walk_at "r";exact k _ (s4.trans (s5.thaw W4.hq))
abbrev aM (P:Program)(w:World)(K:Qc)(mg:Str->Option Value)(base:Heap):Prop:=O4 P w K mg base C2 1 "_law_weights" ["_law_cell","_law_kinds_here"] [] (ax K)
theorem fO {f:Addr}{fd:FuncData}(T:Txt K mg)(F:Fun K "_law_weights" "_law_weights" R3 f fd):A3 P w K mg base C2 1 f fd ["_law_cell","_law_kinds_here"] (ax K):=by
 refine F.ok sc__law_weights (λvs H Q E h=>?_) (λd_ A outer s H vs Q E hr h=>?_)
 .obtain⟨c,b,ks,rfl,_⟩:=h;rfl
 .obtain⟨c,b,ks,rfl,h0,hB,hk,k⟩:=h;have hN:=sc__law_weights.nd;have hu:=u9 hr;refine⟨_,QSs.r (x6 (j8 (i:=2) hN rfl (by walk_at "l") tH)
   (x6 (Q1 Ht rfl (fQ T.b_range (j3 d8 j6)) (F9 (i:=3) hN rfl (by walk_at "l"))
    (x6 (j8 (i:=4) hN rfl (by walk_at "l") (B1 p9 (B1 E2 (qV 0) (k9 (l0 K hu) (dn (j3 d8 (j3 d8 j6))) (qV 3) (λ_ _=>rfl))) d8))
   (A7 (bC (x5 (M9 K hr) (B1 p9 (qV 4) d8) d8 (p7 _)) (A7 (W8 (B1 p9 (B1 op_mulY (qV 0) d8) (k9 (l0 K hu) (dn (j3 (B1 (F4 K) (B1 ez d8 d8) d8) (j3 (B1 (F4 K) (B1 ez d8 d8) d8) j6))) (qV 3) (λ_ _=>rfl))) (kC (qV 2) (k9 (l0 K hu) (qV 1) (qV 3) (λ_ _=>rfl)) (z6 P w hu)))) (A7 (bC (x5 jL (B1 p9 (qV 4) d8) d8 (p7 _)) (A7 (W8 (B1 p9 (B1 E2 (qV 4) d8) d8) (kC (qV 2) (k9 (l0 K hu) (qV 1) (qV 3) (λ_ _=>rfl)) (z6 P w hu)))) cF))))))
   (A7 (A1 (qV 2))))),?_⟩
  walk_at "r";intro d nd0;obtain⟨H1,e1,f1,m1,o1⟩:=b4 (o:= .dK []) nd0;rw[e1];walk_at "r";refine J1 (by lia) (by lia) ?_;refine J5 (n:=2) (λi σ H'=>∃(ws:List (j0×V)) (v1 v2:Option V),σ=[some (.int c),some (.ref b),some (.ref d),v1,v2]/\Same H H'/\H' d=some (.dK ws)/\(∀kv∈ws,∃(n:Str) (i:Int),kv=(Sum.inr n,.int i))/\ws.length<=i)
   ⟨[],_,_,rfl,m1,f1,(λ_ h=>nomatch h),Gv _⟩ (λi σ H' hi _=>by exact hi) ?_ ?_
  .rintro i v σ H2' H2 hi ⟨ws,v1,v2,rfl,s2,g2,hw,hl⟩ ⟨rfl,rfl⟩;have Xf:i=0\/i=1:=by lia
   obtain⟨y,hy,hy0,hy1⟩:∃y:Int,gM [V.int 1,V.int 97] (0+(i:Int))=some (.int y)/\0<y/\y<1073741824:=by
    rcases Xf with rfl|rfl
    .exact⟨1,rfl,by decide,by decide⟩
    .exact⟨97,rfl,by decide,by decide⟩
   obtain⟨z,hz,ZT⟩:∃z:Int,gM [V.int (10 ^ Int.toNat 40+121),V.int (10 ^ Int.toNat 50+151)] (0+(i:Int))=some (.int z)/\0<z:=by
    rcases Xf with rfl|rfl
    .exact⟨10 ^ Int.toNat 40+121,rfl,by decide+kernel⟩
    .exact⟨10 ^ Int.toNat 50+151,rfl,by decide+kernel⟩
   obtain⟨kd,F_,_⟩:=A5 (ss:=ks) (i:=0+(i:Int)) (by lia) (by lia);have fin:∀(H3:Hp) (m:Int) (v1 v2:Option V),Same H2 H3->∃(Vr:List (j0×V)) (ZU Ur:Option V),[some (V.int c),some (.ref b),some (.ref d),v1,v2]=[some (.int c),some (.ref b),some (.ref d),ZU,Ur]/\Same H (p0 H3 d (.dK (B9 ws (Sum.inr kd) (.int m))))/\p0 H3 d (.dK (B9 ws (Sum.inr kd) (.int m))) d=some (.dK Vr)/\(∀kv∈Vr,∃(n:Str) (i:Int),kv=(Sum.inr n,.int i))/\Vr.length<=i+1:=λH3 m v1 v2 s3=>
    ⟨_,_,_,rfl,B5 (s2.trans s3) nd0,b7,vc hw ⟨_,_,rfl⟩,Bv hl⟩
   walk_at "r";refine⟨h9 (by simp),λl3 n3=>?_⟩;obtain⟨H3,e3,f3,m3,_⟩:=b4 (o:= .lst [.int 1,.int 97]) n3;rw[e3];walk_at "r";refine i8 (SqL.of f3) hy ?_;walk_at "r";have VY:0<=c/y % 97:=by lia
   generalize c/y % 97=num at VY⊢;refine C5 (λhb=>?_) (λhb=>?_)
   .walk_at "r";refine⟨h9 (by simp),λl4 n4=>?_⟩;obtain⟨H4,e4,f4,m4,_⟩:=b4 (o:= .lst [V.int (10 ^ Int.toNat 40+121),V.int (10 ^ Int.toNat 50+151)]) n4;rw[e4];walk_at "r";refine i8 (SqL.of f4) hz ?_;refine EW ZT ?_;walk_at "r";refine i8 (SqL.of ((s2.trans (m3.trans m4)) _ _ hB)) F_ ?_;refine G7 (u7 (k:=Sum.inr kd) ((m3.trans m4) _ _ g2) (h9 (by lia)) ?_);exact fin _ _ _ _ (m3.trans m4)
   .walk_at "r";refine C5 (λLY=>?_) (λLY=>?_)
    .walk_at "r";refine i8 (SqL.of ((s2.trans m3) _ _ hB)) F_ ?_;refine G7 (u7 (k:=Sum.inr kd) (m3 _ _ g2) (h9 (by lia)) ?_);exact fin _ _ _ _ m3
    .walk_at "r";exact⟨ws,_,_,rfl,s2.trans m3,m3 _ _ g2,hw,by lia⟩
  .rintro σ H2 ⟨ws,v1,v2,rfl,s2,g2,hw,hl⟩;refine⟨Gv _,?_⟩;walk_at "r";exact k d ws H2 s2 nd0 ⟨g2,hw⟩
theorem eQ {α β:Type}{f:α->β}:∀{l:List α},l.Nodup->(∀a∈l,∀b∈l,f a=f b->a=b)->(l.map f).Nodup:=by
 intro l;induction l with
 |nil=>intro _ _;exact IS
 |cons x r ih=>
  intro nd inj
  have n2:=Hs.mp nd
  refine Hs.mpr ⟨λz=>?_,ih n2.2 λa ha b hb=>inj a (GY _ ha) b (GY _ hb)⟩
  obtain⟨y,hy,e⟩:=Gw.mp z
  rw[inj y (GY _ hy) x Hg e] at hy
  exact n2.1 hy
theorem lQ {α:Type}{f:α->Int}{l m:List α}(h:l.Perm m):(l.map f).sum=(m.map f).sum:=by
 induction h with
 |nil=>rfl
 |cons x _ ih=>simp [ih]
 |swap x y l=>simp;lia
 |trans _ _ a b=>exact a.trans b
theorem sk {ws:List (j0×V)}{A B:A6}(h1:A.pts.Perm B.pts)(h2:A.ts.Perm B.ts):V7 ws A=V7 ws B:=by
 unfold V7 aI aW;rw[lQ h1,lQ h2]
theorem qh {l:List Str}{a b:Str}(nd:l.Nodup)(h:∀x∈l,x=a\/x=b):l.length<=2:=by
 match l,nd,h with
 |[],_,_=>simp
 |[_],_,_=>simp
 |[_,_],_,_=>simp
 |x::y::z::r,nd,h=>
  exfalso
  have n1:=Hs.mp nd
  have n2:=Hs.mp n1.2
  have Sf:x≠y:=λe=>n1.1 (by rw[e];simp)
  have ZV:x≠z:=λe=>n1.1 (by rw[e];simp)
  have ZW:y≠z:=λe=>n2.1 (by rw[e];simp)
  rcases h x (by simp) with rfl|rfl<;>rcases h y (by simp) with e|e<;>rcases h z (by simp) with e'|e'<;>first|exact Sf e.symm|exact ZV e'.symm|exact ZW (e.trans e'.symm)
section
variable {ws:List Str} {L R:A6} {n:Str}
theorem RgOk.ip (h:RgOk ws L R)(lf:LfOk ws L)(hn:n∈R.pts.map (·.1)):n∈L.pts.map (·.1)\/ws[7]?=some n:=by
 obtain⟨x,hx,rfl⟩:=Gw.mp hn;exact(h.p x hx).imp_left λz=>Gw.mpr ⟨x,z,rfl⟩
theorem RgOk.it (h:RgOk ws L R)(lf:LfOk ws L)(hn:n∈R.ts.map (·.1)):n∈L.ts.map (·.1)\/ws[8]?=some n:=by
 obtain⟨x,hx,rfl⟩:=Gw.mp hn;exact(h.t x hx).imp_left λz=>Gw.mpr ⟨x,z,rfl⟩
theorem RgOk.pP (h:RgOk ws L R)(nd:ws.Nodup)(lf:LfOk ws L)(h1:n∈L.pts.map (·.1))(h2:n∈d9 R):n∈R.pts.map (·.1):=by
 rcases GO.mp h2 with z|z
 .exact z
 .exfalso;obtain⟨i,hi,ei⟩:=lf.pi h1;rcases h.it lf z with y|y
  .obtain⟨j,hj,hj',ej⟩:=lf.ti y;have:=N8 nd ei ej;lia
  .have:=N8 nd ei y;lia
theorem RgOk.tT (h:RgOk ws L R)(nd:ws.Nodup)(lf:LfOk ws L)(ndL:(L.ts.map (·.1)).Nodup){t:F2}(h1:(n,t)∈L.ts)(h2:n∈d9 R):(n,t)∈R.ts:=by
 have hn:n∈L.ts.map (·.1):=Gw.mpr ⟨_,h1,rfl⟩;obtain⟨i,hi,OT,ei⟩:=lf.ti hn;rcases GO.mp h2 with z|z
 .exfalso;rcases h.ip lf z with y|y
  .obtain⟨j,hj,ej⟩:=lf.pi y;have:=N8 nd ei ej;lia
  .have:=N8 nd ei y;lia
 .obtain⟨x,hx,ex⟩:=Gw.mp z;rcases h.t x hx with y|y
  .have key:∀{l:List (Str×F2)} {a b:Str×F2},(l.map (·.1)).Nodup->a∈l->b∈l->a.1=b.1->a=b:=fun{l}=>by
    induction l with
    |nil=>intro a b _ h;cases h
    |cons x r ih=>
     intro a b nd h1 h2 e
     have nd':=Hs.mp (show(x.1::r.map (·.1)).Nodup from nd)
     rcases Hh.mp h1 with e1|h1
     .rcases Hh.mp h2 with e2|h2
      .rw[e1,e2]
      .exact absurd (Gw.mpr ⟨_,h2,by rw[←e,e1]⟩) nd'.1
     .rcases Hh.mp h2 with e2|h2
      .exact absurd (Gw.mpr ⟨_,h1,by rw[e,e2]⟩) nd'.1
      .exact ih nd'.2 h1 h2 e
   rw[←key ndL y h1 ex];exact hx
  .exfalso;rw[ex] at y;have:=N8 nd ei y;lia
theorem RgOk.new (h:RgOk ws L R)(lf:LfOk ws L)(h1:n∈d9 R)(h2:n∉d9 L):ws[7]?=some n\/ws[8]?=some n:=by
 rcases GO.mp h1 with z|z
 .exact(h.ip lf z).elim (λy=>absurd (GA _ y) h2) .inl
 .exact(h.it lf z).elim (λy=>absurd (GG _ y) h2) .inr
end
structure Gq (ss:List Str) (fr:List (Str×Str)):Prop where
 nm:∀x∈fr,∃s,s∈ss/\x.2=s++(".":Str)++x.1
theorem jK (a b S:Str):cV (a++b) S=(cV a S&&cV b S):=by
 unfold cV;rw[show(a++b).cps.toList=a.cps.toList++b.cps.toList from Jl,List.all_append]
theorem yI {s n:Str}(h1:R4 s=true)(h2:X1 n=true)(h3:s.length<=15):R4 (s++(".":Str)++n)=true:=by
 unfold R4 K8 at h1⊢;unfold X1 K8 at h2;rw[GP,GP,GP,GS,GS] at h1;rw[GP,GP,GS,GS] at h2;have hl:(s++(".":Str)++n).length=s.length+1+n.length:=by rw[bF,bF];rfl
 have hs:cV n kNS=true:=by
  have z:=h2.2;unfold cV at z⊢;rw[Hk] at z⊢;exact λc hc=>Hf (vH _ (HI (z c hc)))
 rw[GP,GP,GP,GS,GS,hl,jK,jK,h1.1.2,hs];refine⟨⟨⟨by lia,by lia⟩,by decide+kernel⟩,?_⟩;have z:=h1.2;unfold Eh at z⊢;rw[GS] at z⊢;rw[show(s++(".":Str)++n).cps.toList=s.cps.toList++(".":Str).cps.toList++n.cps.toList by rw[show(s++(".":Str)++n).cps.toList=(s++(".":Str)).cps.toList++n.cps.toList from Jl,show(s++(".":Str)).cps.toList=s.cps.toList++(".":Str).cps.toList from Jl]];have hp:0<s.cps.toList.length:=by
  have y:=h1.1.1.1;have e:s.cps.toList.length=s.length:=by show _=s.cps.size;simp
  lia
 cases e:s.cps.toList with
 |nil=>rw[e] at hp;exact absurd hp (Ib 0)
 |cons c r=>rw[e] at z;exact z
theorem Bc {s s' n n':Str}(h:s.length=s'.length)(e:s++(".":Str)++n=s'++(".":Str)++n'):n=n':=by
 have z:=Ia (λx:Str=>x.cps.toList) e;have l:∀a b:Str,(a++(".":Str)++b).cps.toList=a.cps.toList++(".":Str).cps.toList++b.cps.toList:=λa b=>by rw[show(a++(".":Str)++b).cps.toList=(a++(".":Str)).cps.toList++b.cps.toList from Jl,show(a++(".":Str)).cps.toList=a.cps.toList++(".":Str).cps.toList from Jl]
 simp only[l] at z;have hl:∀a:Str,a.cps.toList.length=a.length:=λa=>by show _=a.cps.size;simp
 have z2:=(List.append_inj z (by rw[GF,GF,hl s,hl s',h])).2;exact xh z2
structure Hy (ss ws:List Str) (W0 L R:A6) (fx fr:List (Str×Str)):Prop where
 nms:zf 16 ss
 wds:jD ws
 lf:LfOk ws L
 rg:RgOk ws L R
 pl:PlOk (ss.drop 7) L fx
 w0:∀n∈d9 W0,n∈ss.take 7
 ndL:(d9 L).Nodup
 ndR:(d9 R).Nodup
 eW:∀x∈W0.ts,x.2.2.1∈W0.pts.map (·.1)/\x.2.2.2∈W0.pts.map (·.1)
 eL:∀x∈L.ts,x.2.2.1∈L.pts.map (·.1)/\x.2.2.2∈L.pts.map (·.1)
 eR:∀x∈R.ts,x.2.2.1∈R.pts.map (·.1)/\x.2.2.2∈R.pts.map (·.1)
 fk:(fr.map (·.1)).Perm ((d9 R).filter λn=>!decide (n∈d9 L))
 fi:∀x∈fr,∃s,s∈ss/\x.2=s++(".":Str)++x.1
section
variable {ss ws:List Str} {W0 L R:A6} {fx fr:List (Str×Str)}
theorem Hy.dis (h:Hy ss ws W0 L R fx fr){n:Str}(h1:n∈ss.take 7)(h2:n∈ss.drop 7):False:=by
 have z:=h.nms.nd;rw[←IQ 7 ss] at z;exact(GX.mp z).2.2 n h1 n h2 rfl
theorem Hy.gIn (h:Hy ss ws W0 L R fx fr){n:Str}(hn:n∈d9 L):i6 (i9 fx) n∈ss.drop 7:=(h.pl.at_ h.ndL hn).2.1
theorem Hy.sIn (h:Hy ss ws W0 L R fx fr){n:Str}(hn:n∈d9 (cI (i6 (i9 fx)) W0 L)):n∈ss:=by
 rcases GO.mp ((ib _).mem_iff.mp hn) with z|z
 .exact JD (h.w0 n z)
 .obtain⟨m,hm,rfl⟩:=Gw.mp z;exact JE (h.gIn hm)
theorem Hy.frNo (h:Hy ss ws W0 L R fx fr){x:Str×Str}(hx:x∈fr):x.2∉ss:=λm=>by
 obtain⟨s,hs,e⟩:=h.fi x hx;obtain⟨z,_,hz⟩:=h.nms.z;have l1:=hz _ m;have l2:=hz _ hs;rw[e,bF,bF,show(".":Str).length=1 from rfl] at l1;lia
theorem Hy.ndk (h:Hy ss ws W0 L R fx fr):(fr.map (·.1)).Nodup:=h.fk.nodup_iff.mpr (h.ndR.sublist HK)
theorem Hy.new (h:Hy ss ws W0 L R fx fr){n:Str}(hn:n∈fr.map (·.1)):n∈d9 R/\n∉d9 L:=by
 have z:=GR.mp (h.fk.mem_iff.mp hn);exact⟨z.1,by have y:=z.2;rw[Hm,GV] at y;exact y⟩
theorem Hy.fit (h:Hy ss ws W0 L R fx fr):cg L (cI (i6 (i9 fx)) W0 L) (i9 fx):=
 ⟨by rw[k8,←Gs (f:=(·.1)),h.pl.ks.length_eq],λn hn=>(h.pl.at_ h.ndL hn).1,h.pl.ndg h.ndL,λx hx=>GG _ (Gw.mpr ⟨x,hx,rfl⟩),λx hx=>GG _ (Gw.mpr ⟨x,hx,rfl⟩)⟩
theorem Hy.frok (h:Hy ss ws W0 L R fx fr):FrOk (cI (i6 (i9 fx)) W0 L) L R fr:=by
 refine⟨h.fk,λx hx=>?_,?_,λx hx m=>h.frNo hx (h.sIn m),?_⟩
 .obtain⟨s,hs,e⟩:=h.fi x hx;obtain⟨z,RK,hz⟩:=h.nms.z;have hn:=h.new (Gw.mpr ⟨x,hx,rfl⟩);have hk:X1 x.1=true:=by
   rcases h.rg.new h.lf hn.1 hn.2 with y|y<;>exact h.wds.kd _ (GJ y)
  rw[e];exact yI (h.nms.nm s hs) hk (by rw[hz s hs];exact RK)
 .have nd:fr.Nodup:=by
   have z:=h.ndk;rw[List.Nodup,List.pairwise_map] at z;exact z.imp λZX e=>ZX (by rw[e])
  refine eQ nd λa ha b hb e=>?_;obtain⟨s,hs,ea⟩:=h.fi a ha;obtain⟨s',J',eb⟩:=h.fi b hb;obtain⟨z,_,hz⟩:=h.nms.z;have e1:a.1=b.1:=Bc (s:=s) (s':=s') ((hz s hs).trans (hz s' J').symm) (ea.symm.trans ((show a.2=b.2 from e).trans eb));exact Prod.ext e1 e
 .have z:(fr.map (·.1)).length<=2:=by
   cases e7:ws[7]? with
   |none=>exact absurd e7 (by rw[Gu (by rw[h.wds.len];decide)];simp)
   |some a=>
    cases e8:ws[8]? with
    |none=>exact absurd e8 (by rw[Gu (by rw[h.wds.len];decide)];simp)
    |some b=>
     refine qh (a:=a) (b:=b) h.ndk λx hx=>?_
     have hn:=h.new hx
     rcases h.rg.new h.lf hn.1 hn.2 with y|y
     .rw[e7] at y;exact .inl (GL y).symm
     .rw[e8] at y;exact .inr (GL y).symm
  rw[Gs] at z;lia
theorem Hy.gs (h:Hy ss ws W0 L R fx fr){n:Str}(hn:n∈iT L R (i9 fx)):∃m,m∈d9 L/\m∉d9 R/\n=i6 (i9 fx) m:=by
 obtain⟨m,hm,e⟩:=Gw.mp hn;have z:=GR.mp hm;exact⟨m,z.1,by have y:=z.2;rw[Hm,GV] at y;exact y,e.symm⟩
theorem Hy.gsI (h:Hy ss ws W0 L R fx fr){m:Str}(hm:m∈d9 L)(hr:m∉d9 R):i6 (i9 fx) m∈iT L R (i9 fx):=Gw.mpr ⟨m,GR.mpr ⟨hm,by rw[Hm,GV];exact hr⟩,rfl⟩
theorem Hy.gsN (h:Hy ss ws W0 L R fx fr){m:Str}(hm:m∈d9 L)(hr:m∈d9 R):i6 (i9 fx) m∉iT L R (i9 fx):=λz=>by
 obtain⟨k,hk,ZY,e⟩:=h.gs z;rw[h.pl.inj h.ndL hm hk e] at hr;exact ZY hr
theorem Hy.gsW0 (h:Hy ss ws W0 L R fx fr){n:Str}(hn:n∈d9 W0):n∉iT L R (i9 fx):=λz=>by
 obtain⟨k,hk,_,e⟩:=h.gs z;have y:=h.gIn hk;rw[←e] at y;exact h.dis (h.w0 n hn) y
theorem Hy.bhL (h:Hy ss ws W0 L R fx fr){n:Str}(hn:n∈d9 L):bh L (i9 fx) (i9 fr) n=i6 (i9 fx) n:=by unfold bh;rw[if_pos hn]
theorem Hy.bhN (h:Hy ss ws W0 L R fx fr){n:Str}(hn:n∉d9 L)(hr:n∈d9 R):(n,bh L (i9 fx) (i9 fr) n)∈fr:=by
 unfold bh;rw[if_neg hn];obtain⟨x,hx,e⟩:=Gw.mp (h.fk.mem_iff.mpr (GR.mpr ⟨hr,by rw[Hm,GV];exact hn⟩));have e':x.1=n:=e;rw[←e',(U3 h.ndk hx).2];exact hx
theorem Hy.ndb (h:Hy ss ws W0 L R fx fr):((d9 R).map (bh L (i9 fx) (i9 fr))).Nodup:=eQ h.ndR λa ha b hb e=>by
 by_cases la:a∈d9 L
 .by_cases lb:b∈d9 L
  .rw[h.bhL la,h.bhL lb] at e;exact h.pl.inj h.ndL la lb e
  .exfalso;have z:=h.frNo (h.bhN lb hb);rw[←e,h.bhL la] at z;exact z (JE (h.gIn la))
 .by_cases lb:b∈d9 L
  .exfalso;have z:=h.frNo (h.bhN la ha);rw[e,h.bhL lb] at z;exact z (JE (h.gIn lb))
  .have z1:=h.bhN la ha;have z2:=h.bhN lb hb;rw[e] at z1;have key:∀{l:List (Str×Str)} {x y:Str×Str},(l.map (·.2)).Nodup->x∈l->y∈l->x.2=y.2->x=y:=fun{l}=>by
    induction l with
    |nil=>intro a b _ h;cases h
    |cons x r ih=>
     intro a b nd h1 h2 e
     have nd':=Hs.mp (show(x.2::r.map (·.2)).Nodup from nd)
     rcases Hh.mp h1 with e1|h1
     .rcases Hh.mp h2 with e2|h2
      .rw[e1,e2]
      .exact absurd (Gw.mpr ⟨_,h2,by rw[←e,e1]⟩) nd'.1
     .rcases Hh.mp h2 with e2|h2
      .exact absurd (Gw.mpr ⟨_,h1,by rw[e,e2]⟩) nd'.1
      .exact ih nd'.2 h1 h2 e
   exact(IH (key h.frok.nd z1 z2 rfl)).1
theorem Hy.do (h:Hy ss ws W0 L R fx fr):Bs (cI (i6 (i9 fx)) W0 L) L R (i9 fx) fr:=by
 refine⟨h.fit,λx hx hn=>?_,h.frok,h.ndb⟩;rcases GO.mp (show x∈W0.ts++L.ts.map (je (i6 (i9 fx))) from hx) with z|z
 .exact⟨h.gsW0 (GA _ (h.eW x z).1),h.gsW0 (GA _ (h.eW x z).2)⟩
 .obtain⟨y,hy,rfl⟩:=Gw.mp z;have Qk:y.1∈d9 L:=GG _ (Gw.mpr ⟨y,hy,rfl⟩);by_cases hr:y.1∈d9 R
  .have yR:=h.rg.tT h.wds.nd h.lf (K4 h.ndL) (show(y.1,y.2)∈L.ts from hy) hr;have eR:=h.eR _ yR;have eL:=h.eL y hy;exact⟨h.gsN (GA _ eL.1) (GA _ eR.1),h.gsN (GA _ eL.2) (GA _ eR.2)⟩
  .exact absurd (h.gsI Qk hr) hn
theorem Hy.mNo (h:Hy ss ws W0 L R fx fr){n:Str}(hn:n∈d9 W0)(hr:n∈(d9 R).map (bh L (i9 fx) (i9 fr))):False:=by
 obtain⟨m,hm,e⟩:=Gw.mp hr;by_cases l:m∈d9 L
 .rw[h.bhL l] at e;have y:=h.gIn l;rw[e] at y;exact h.dis (h.w0 n hn) y
 .have z:=h.frNo (h.bhN l hm);rw[e] at z;exact z (JD (h.w0 n hn))
theorem Hy.ptsE (h:Hy ss ws W0 L R fx fr):(mr (cI (i6 (i9 fx)) W0 L) L R (i9 fx) (i9 fr)).pts=W0.pts++(J0 (bh L (i9 fx) (i9 fr)) R).pts:=by
 show(((W0.pts++L.pts.map λx=>(i6 (i9 fx) x.1,x.2)).filter λx=>!decide (x.1∈iT L R (i9 fx))).filter λx=>!decide (x.1∈(J0 (bh L (i9 fx) (i9 fr)) R).pts.map (·.1)))++_=_;have e:(J0 (bh L (i9 fx) (i9 fr)) R).pts.map (·.1)=(R.pts.map (·.1)).map (bh L (i9 fx) (i9 fr)):=by
  show(R.pts.map λx=>(bh L (i9 fx) (i9 fr) x.1,x.2)).map (·.1)=_;rw[GQ,GQ];rfl
 congr 1;rw[e,Iz,Hw,Jk.mpr,II.mpr,HX]
 .intro x hx;obtain⟨y,hy,rfl⟩:=Gw.mp hx;have Qk:y.1∈L.pts.map (·.1):=Gw.mpr ⟨y,hy,rfl⟩;have RL:y.1∈d9 L:=GA _ Qk;rw[GP,Hm,Hm,GV,GV];rintro⟨h1,h2⟩;by_cases hr:y.1∈d9 R
  .exact h1 (Gw.mpr ⟨y.1,h.rg.pP h.wds.nd h.lf Qk hr,h.bhL RL⟩)
  .exact h2 (h.gsI RL hr)
 .intro x hx;have RM:x.1∈d9 W0:=GA _ (Gw.mpr ⟨x,hx,rfl⟩);rw[GP,Hm,Hm,GV,GV];refine⟨λz=>?_,h.gsW0 RM⟩;obtain⟨m,hm,e⟩:=Gw.mp z;exact h.mNo RM (Gw.mpr ⟨m,GA _ hm,e⟩)
theorem Hy.tsE (h:Hy ss ws W0 L R fx fr):(mr (cI (i6 (i9 fx)) W0 L) L R (i9 fx) (i9 fr)).ts=W0.ts++(J0 (bh L (i9 fx) (i9 fr)) R).ts:=by
 show(((W0.ts++L.ts.map (je (i6 (i9 fx)))).filter λx=>!decide (x.1∈iT L R (i9 fx))).filter λx=>!decide (x.1∈(J0 (bh L (i9 fx) (i9 fr)) R).ts.map (·.1)))++_=_;have e:(J0 (bh L (i9 fx) (i9 fr)) R).ts.map (·.1)=(R.ts.map (·.1)).map (bh L (i9 fx) (i9 fr)):=by
  show(R.ts.map λx=>(bh L (i9 fx) (i9 fr) x.1,(x.2.1,bh L (i9 fx) (i9 fr) x.2.2.1,bh L (i9 fx) (i9 fr) x.2.2.2))).map (·.1)=_;rw[GQ,GQ];rfl
 congr 1;rw[e,Iz,Hw,Jk.mpr,II.mpr,HX]
 .intro x hx;obtain⟨y,hy,rfl⟩:=Gw.mp hx;have Qk:y.1∈L.ts.map (·.1):=Gw.mpr ⟨y,hy,rfl⟩;have RL:y.1∈d9 L:=GG _ Qk;rw[GP,Hm,Hm,GV,GV];rintro⟨h1,h2⟩;by_cases hr:y.1∈d9 R
  .exact h1 (Gw.mpr ⟨y.1,Gw.mpr ⟨_,h.rg.tT h.wds.nd h.lf (K4 h.ndL) (show(y.1,y.2)∈L.ts from hy) hr,rfl⟩,h.bhL RL⟩)
  .exact h2 (h.gsI RL hr)
 .intro x hx;have RM:x.1∈d9 W0:=GG _ (Gw.mpr ⟨x,hx,rfl⟩);rw[GP,Hm,Hm,GV,GV];refine⟨λz=>?_,h.gsW0 RM⟩;obtain⟨m,hm,e⟩:=Gw.mp z;exact h.mNo RM (Gw.mpr ⟨m,GG _ hm,e⟩)
theorem Hy.sum (h:Hy ss ws W0 L R fx fr)(wk:List (j0×V)):V7 wk (mr (cI (i6 (i9 fx)) W0 L) L R (i9 fx) (i9 fr))=V7 wk (cI (i6 (i9 fx)) W0 L) -(V7 wk L -V7 wk R):=by
 have a1:aI wk (J0 (bh L (i9 fx) (i9 fr)) R).pts=aI wk R.pts:=by
  unfold aI;show((R.pts.map λx=>(bh L (i9 fx) (i9 fr) x.1,x.2)).map _).sum=_;rw[GQ];rfl
 have a2:aW wk (J0 (bh L (i9 fx) (i9 fr)) R).ts=aW wk R.ts:=by
  unfold aW;show((R.ts.map λx=>(bh L (i9 fx) (i9 fr) x.1,(x.2.1,bh L (i9 fx) (i9 fr) x.2.2.1,bh L (i9 fx) (i9 fr) x.2.2.2))).map _).sum=_;rw[GQ];rfl
 have a3:aI wk (cI (i6 (i9 fx)) W0 L).pts=aI wk W0.pts+aI wk L.pts:=by
  unfold aI;show((W0.pts++L.pts.map λx=>(i6 (i9 fx) x.1,x.2)).map _).sum=_;rw[Gy,Jd,GQ];rfl
 have a4:aW wk (cI (i6 (i9 fx)) W0 L).ts=aW wk W0.ts+aW wk L.ts:=by
  unfold aW;show((W0.ts++L.ts.map (je (i6 (i9 fx)))).map _).sum=_;rw[Gy,Jd,GQ];rfl
 have a5:aI wk (W0.pts++(J0 (bh L (i9 fx) (i9 fr)) R).pts)=aI wk W0.pts+aI wk R.pts:=by
  rw[←a1];unfold aI;rw[Gy,Jd]
 have a6:aW wk (W0.ts++(J0 (bh L (i9 fx) (i9 fr)) R).ts)=aW wk W0.ts+aW wk R.ts:=by
  rw[←a2];unfold aW;rw[Gy,Jd]
 unfold V7;rw[h.ptsE,h.tsE,a3,a4,a5,a6];lia
theorem Hy.bar (h:Hy ss ws W0 L R fx fr){B:A6}(hb:Eo L B)(hl:(d9 (cI (i6 (i9 fx)) W0 L)).length<=16):yv B (cI (i6 (i9 fx)) W0 L) fx:=by
 obtain⟨A,pm,hA⟩:=hb;refine⟨?_,h.pl.ndk h.ndL,λx hx=>pm.mem_iff.mpr (GA _ (h.pl.ks.mem_iff.mp (Gw.mpr ⟨x,hx,rfl⟩)))⟩;have f1:((d9 B).filter (fg fx)).length<=2:=by
  rw[(pm.filter _).length_eq,Hw,GF,II.mpr]
  .rw[JT,Nat.zero_add];exact He (GI _ _) hA
  .intro n hn;unfold fg;simp only[Hm,GV,Decidable.not_not,Bool.not_eq_true];first|exact h.pl.ks.mem_iff.mpr hn|simpa using h.pl.ks.mem_iff.mpr hn
 have f2:(d9 B).length<=7:=by
  rw[pm.length_eq,GF,A4];have l1:=h.lf.l1;have l2:=h.lf.l2;lia
 rw[A4] at hl;have f3:max (cI (i6 (i9 fx)) W0 L).pts.length (cI (i6 (i9 fx)) W0 L).ts.length+1<=17:=by lia
 calc ((d9 B).length+1)*(max (cI (i6 (i9 fx)) W0 L).pts.length (cI (i6 (i9 fx)) W0 L).ts.length+1) ^ ((d9 B).filter (fg fx)).length<=8*17 ^ 2:=Nat.mul_le_mul (by lia) (He (Nat.pow_le_pow_left f3 _) (Nat.pow_le_pow_right (by decide) f1))
  _<=1000000:=by decide
end
def lH (K:Qc):Sp:=λvs H Q _=>∃(a:Addr) (ns:List Int),vs=[.ref a]/\SqL K H a (ns.map V.int)/\ns.length<=63/\∀H',Q (.bl true) H'
theorem gS {cs:List Int}{j:Nat}{P:Int->Prop}(h:j<cs.length)(hp:∀c∈cs,P c):∃c:Int,(cs.map V.int)[j]?=some (.int c)/\P c:=⟨cs[j],by rw[Gx,Gu h];rfl,hp _ (Hv h)⟩
theorem uz (ss:List Str):cD (ss.map V.str) (some 7) none=(ss.drop 7).map V.str:=by
 unfold cD;rw[show(some (7:Int))=some ((7:Nat):Int) from rfl,HT.sIx_nat,HT.sIx_none,Gs,←List.map_drop,←MI];congr 1;rcases Nat.le_total 7 ss.length with h|h
 .rw[LP h,GD (by rw[Jm];exact Gv _)]
 .rw[Nat.min_eq_right h,List.drop_length,List.take_nil,List.drop_eq_nil_of_le h]
set_option maxHeartbeats 8000000 in
theorem BH {f:Addr}{fd:FuncData}(T:Txt K mg)(S0:bx P w K mg base)(Z4:dz P w K mg base)(ak:du P w K mg base)(bc:fB P w K mg base)(aj:dI P w K mg base)(R7:aN P w K mg base)(cw:iE P w K mg base)(ah:dv P w K mg base)(R5:aM P w K mg base)(om:we P w K mg base)(O5:bS P w K mg base)(K1:eN P w K mg base)(lg:qe P w K mg base)(F:Fun K "law" "law" uA f fd):A3 P w K mg base C2 12 f fd ["_law_script"] (lH K):=by
 refine F.ok sc_law (λvs H Q E h=>?_) (λd_ A outer s H vs Q E hr h=>?_)
 .obtain⟨a,ns,rfl,_⟩:=h;rfl
 .obtain⟨a,ns,rfl,hA,hl,k⟩:=h;have hN:=sc_law.nd;have hu:=u9 hr;refine⟨_,QSs.r (x6 (cR (i:=1) hN rfl (by walk_at "l") (own:=["_law_k"]) (js:=[0]) (by kernel_rfl) rfl (fQ T.b_range (j3 d8 j6)) (λ_ _ _ _=>(F9 (i:=0) (show List.Nodup (["_law_k","_law_script"]:List Str) by decide+kernel) rfl (by walk_at "l"))) (λ_ _ _ _=>af) (λ_ _ _ _=>(qC S0 (hr.mono (by decide)) j7 (j3 (qV 1) (j3 (qV 0) j6)))))
   (x6 (j8 (i:=2) hN rfl (by walk_at "l") (qC Z4 (hr.mono (by decide)) j7 (j3 (k9 (l0 K hu) (qV 1) d8 (λ_ _=>rfl)) j6)))
   (x6 (j8 (i:=3) hN rfl (by walk_at "l") (qC ak (hr.mono (by decide)) j7 (j3 (k9 (l0 K hu) (qV 1) d8 (λ_ _=>rfl)) (j3 d8 j6))))
   (x6 (j8 (i:=4) hN rfl (by walk_at "l") (qC bc (hr.mono (by decide)) j7 (j3 (k9 (l0 K hu) (qV 1) d8 (λ_ _=>rfl)) (j3 (qV 3) (j3 (qV 2) j6)))))
   (x6 (j8 (i:=5) hN rfl (by walk_at "l") (qC aj (hr.mono (by decide)) j7 (j3 (k9 (l0 K hu) (qV 1) d8 (λ_ _=>rfl)) (j3 d8 j6))))
   (x6 (W8 (qC R7 (hr.mono (by decide)) j7 (j3 (qC cw (hr.mono (by decide)) j7 (j3 (qC ah (hr.mono (by decide)) j7 (j3 (qV 0) (j3 d8 (j3 d8 j6)))) (j3 (qV 5) (j3 (qV 2) j6)))) (j3 (k9 (l0 K hu) (qV 4) d8 (λ_ _=>rfl)) (j3 (Cb (DP K) (qV 5) (BP d8) Ej) j6)))) (oX K rfl (cH (F9 (i:=6) hN rfl (by walk_at "l")) (cH (F9 (i:=7) hN rfl (by walk_at "l")) oS))))
   (x6 (j8 (i:=8) hN rfl (by walk_at "l") tH)
   (x6 (Q1 Ht rfl (cN K T.b_enumerate (j3 (E4 (own:=["_law_name"]) (js:=[7]) (by kernel_rfl) rfl (Q4 K (B1 (F4 K) (gD (eO K rfl) T.b_list Boot.«list» (j3 (k9 (l0 K hu) (k9 (l0 K hu) (qV 4) d8 (λ_ _=>rfl)) d8 (λ_ _=>rfl)) j6)) (gD (eO K rfl) T.b_list Boot.«list» (j3 (k9 (l0 K hu) (k9 (l0 K hu) (qV 4) d8 (λ_ _=>rfl)) d8 (λ_ _=>rfl)) j6)))) (λ_ _ _ _=>(F9 (i:=0) (show List.Nodup (["_law_name","_law_match"]:List Str) by decide+kernel) rfl (by walk_at "l"))) (λ_ _ _ _=>(gP (x5 (bg K hu) (qV 0) (qV 1) (by rfl)))) (λ_ _ _ _=>(qV 0))) j6)) (oX K rfl (cH (F9 (i:=9) hN rfl (by walk_at "l")) (cH (F9 (i:=10) hN rfl (by walk_at "l")) oS)))
    (A7 (W8 (B1 (F4 K) (B1 (F4 K) (k9 (l0 K hu) (qV 5) (B1 (F4 K) d8 (qV 9)) (λ_ _=>rfl)) fV) (qV 10)) (kC (qV 8) (qV 10) (z6 P w hu)))))
   (x6 (j8 (i:=11) hN rfl (by walk_at "l") (qC R5 (hr.mono (by decide)) j7 (j3 (k9 (l0 K hu) (qV 1) d8 (λ_ _=>rfl)) (j3 (qV 2) j6))))
   (x6 (j8 (i:=12) hN rfl (by walk_at "l") mT)
   (x6 (DA T.t_GlueError (λpins Es=>(A7 (j8 (i:=12) hN rfl (by walk_at "l") (FU om (hr.mono (by decide)) (j3 (qV 6) (j3 (P5 (j3 (qV 4) (j3 (qV 7) (j3 (qV 8) j6)))) j6)))))) (λex=>(A7 (j8 (i:=12) hN rfl (by walk_at "l") mT))))
   (x6 (bC (x5 yW (qV 12) mT (p7 _)) (A7 (A1 wW)) cF)
   (x6 (j8 (i:=13) hN rfl (by walk_at "l") (B1 pC (qC O5 (hr.mono (by decide)) j7 (j3 (k9 (l0 K hu) (qV 4) d8 (λ_ _=>rfl)) (j3 (qV 11) j6))) (qC O5 (hr.mono (by decide)) j7 (j3 (k9 (l0 K hu) (qV 4) d8 (λ_ _=>rfl)) (j3 (qV 11) j6)))))
   (x6 (bC (x5 (ir K hr) (qC K1 (hr.mono (by decide)) j7 (j3 (qV 12) (j3 (qV 11) j6))) (B1 pC (qC K1 (hr.mono (by decide)) j7 (j3 (qV 6) (j3 (qV 11) j6))) (qV 13)) (p7 _)) (A7 (A1 wW)) cF)
   (x6 (j8 (i:=14) hN rfl (by walk_at "l") (qC lg (hr.mono (by decide)) j7 (j3 (qV 4) (j3 (qV 11) j6))))
   (A7 (A1 (DI (qB (nT K P w) T.b_isinstance Boot.«isinstance» (j3 (qV 14) (j3 (DD "bool" T.b_bool Boot.«bool») j6))) (Bm (dQ (M9 K hr) (qV 14) (dQ jL (qV 13) d8 (p7 _)) (p7 _))))))))))))))))))))),?_⟩
  refine N0 ?_;walk_at "e";refine J1 (by lia) (by lia) ?_;refine u4 (n:=5) (λi out H'=>Same H H'/\∃cs:List Int,out=cs.map V.int/\cs.length=i/\∀c∈cs,0<=c/\c<10 ^ 60) ⟨Same.refl _,[],rfl,rfl,λ_ h=>nomatch h⟩ (λi out H' hi _=>by exact hi) ?_ ?_
  .rintro N i v out H1' H1 hi ⟨s1,cs,rfl,x_,QX⟩ ⟨rfl,rfl⟩ hN';walk_at "e";refine⟨rfl,?_⟩;walk_at "e";refine⟨a,ns,_,rfl,s1.seq hA,hl,by lia,λc hc L'=>?_⟩;refine⟨h9 (by rw[Gs];lia),hN' _ _ ⟨s1,cs++[c],by rw[Gy];rfl,by rw[GF,x_];rfl,λx hx=>?_⟩⟩;rcases GO.mp hx with z|z
   .exact QX x z
   .rw[GZ.mp z];exact⟨hc,L'⟩
  rintro out H1 ⟨s1,Py,rfl,ZZ,NK⟩;refine⟨Gv _,λlcs hlcs=>⟨h9 (by rw[Gs];lia),?_⟩⟩;obtain⟨H2,e2,f2,m2,_⟩:=b4 (H:=H1) (o:= .lst (Py.map V.int)) hlcs;change Q3 _ _ _ (p0 H1 lcs (.lst (Py.map V.int))) _;rw[e2];have Np:=s1.trans m2;obtain⟨c0,g0,Vf,_⟩:=gS (cs:=Py) (j:=0) (by lia) NK;obtain⟨c1,g1,Vg,_⟩:=gS (cs:=Py) (j:=1) (by lia) NK;obtain⟨c2,g2,Nl,Vs⟩:=gS (cs:=Py) (j:=2) (by lia) NK;obtain⟨c3,g3,Z_,_⟩:=gS (cs:=Py) (j:=3) (by lia) NK;obtain⟨c4,g4,hc4,_⟩:=gS (cs:=Py) (j:=4) (by lia) NK;walk_at "e";refine B2 λRp hx=>?_;walk_at "e";refine i8 (SqL.of f2) (b5 (j:=0) g0) ?_;walk_at "e";refine⟨c0,rfl,Vf,λlk H3 ks n3 m3 f3 hk=>?_⟩;walk_at "e";refine hx [some (.ref a),some (.ref lcs),some (.ref lk),none,none,none,none,none,none,none,none,none,none,none,none] _ ?_;clear hx;have RN:=m3 _ _ f2;refine B2 λP_ hx=>?_;walk_at "e";refine i8 (SqL.of RN) (b5 (j:=1) g1) ?_;walk_at "e";refine⟨c1,rfl,Vg,λlw H4 ws n4 m4 f4 wok=>?_⟩;walk_at "e";refine hx [some (.ref a),some (.ref lcs),some (.ref lk),some (.ref lw),none,none,none,none,none,none,none,none,none,none,none] _ ?_;clear hx;have RO:=m4 _ _ RN;refine B2 λSD hx=>?_;walk_at "e";refine i8 (SqL.of RO) (b5 (j:=2) g2) ?_;walk_at "e";refine⟨c2,lw,lk,ws,ks,rfl,Nl,Vs,f4,m4 _ _ f3,wok,hk,λr bl L R bs H5 m5 hR fb lf rg Ri hbr=>?_⟩;walk_at "e";refine hx [some (.ref a),some (.ref lcs),some (.ref lk),some (.ref lw),some (.ref r),none,none,none,none,none,none,none,none,none,none] _ ?_;clear hx;have RP:=m5 _ _ RO;have Xg:=(m4.trans m5) _ _ f3;refine B2 λRF hx=>?_;walk_at "e";refine i8 (SqL.of RP) (b5 (j:=3) g3) ?_;walk_at "e";refine⟨c3,rfl,Z_,λln H6 ss n6 m6 f6 nok=>?_⟩;walk_at "e";refine hx [some (.ref a),some (.ref lcs),some (.ref lk),some (.ref lw),some (.ref r),some (.ref ln),none,none,none,none,none,none,none,none,none] _ ?_;clear hx;have UW:=Np.trans (m3.trans (m4.trans (m5.trans m6)));have SI:=m6 _ _ RP;have Vt:=m6 _ _ Xg;have R6:=hR.same m6;have Xh:=m6 _ _ fb;have Pz:∀s∈ss,s.length<=100:=λs hs=>by
   obtain⟨z,RK,hz⟩:=nok.z;rw[hz s hs];lia
  refine B2 λVl hx=>?_;walk_at "e";refine⟨a,ns,rfl,UW.seq hA,hl,λlc H7 cs n7 m7 f7 x_ Qw=>?_⟩;walk_at "e";refine⟨lc,ln,lk,cs,ss,ks,rfl,SqL.of f7,SqL.of (m7 _ _ f6),SqL.of (m7 _ _ Vt),x_,nok.len,hk,nok.nd,Pz,λb p q kvs W0 H8 m8 hW0 w0=>?_⟩;have SJ:=m7.trans m8;have R8:=R6.same SJ;have Xi:=SJ _ _ f6;walk_at "e";refine b0 R8.tup (b5 (j:=0) rfl) ?_;walk_at "e";refine nJ (SqL.of Xi) (λl9 n9=>?_);rw[uz];obtain⟨H9,e9,f9,m9,_⟩:=b4 (o:= .lst ((ss.drop 7).map V.str)) n9;rw[e9];have R9:=R8.same m9;have W9:=hW0.same m9;have Sh:∀n∈ss.drop 7,n∉d9 W0:=λn h1 h2=>by
   have z:=nok.nd;rw[←IQ 7 ss] at z;exact(GX.mp z).2.2 n (w0 n h2) n h1 rfl
  have ll1:=lf.l1;have ll2:=lf.l2;walk_at "e";refine⟨⟨b,p,q,kvs,W0⟩,L,l9,ss.drop 7,rfl,W9,R9.l,by rw[A4];lia,f9,by rw[Jm,nok.len],nok.nd.sublist (Nf _ _),λn hn=>⟨Pz n (JE hn),Sh n hn⟩,λt m S fx Rl NW ft nm hS hm pl eS=>?_⟩;refine J3 (SqT.of ft) rfl ?_;walk_at "e";refine hx [some (.ref a),some (.ref lcs),some (.ref lk),some (.ref lw),some (.ref r),some (.ref ln),some (.ref S.a),some (.ref m),none,none,none,none,none,none,none] _ ?_;clear hx;have Om:=SJ.trans (m9.trans NW);have Xj:=R9.same NW;have Vu:=Om _ _ Xh;have Vv:=Om _ _ f6;have Vw:=Om _ _ Vt;have Vx:=Om _ _ SI;have wl:W0.pts.length+W0.ts.length<=7:=by
   have z:=hW0.len;rw[A4] at z;exact z
  have Ll:L.W.pts.length+L.W.ts.length<=5:=by lia
  have PB:S.W=cI (i6 (i9 fx)) W0 L.W:=eS;have Sl:(d9 S.W).length<=16:=by
   have z:=(ib (W:=W0) (L:=L.W) (i6 (i9 fx))).length_eq;rw[GF,Gs,A4 W0,A4 L.W,←PB] at z;lia
  clear f7 f9 ft Xi e9 Vt SI Xh Xg RP RO RN W9 R9 R8;refine B2 λnx6 hx=>?_;walk_at "e";intro f nf;obtain⟨UC,e11,SK,Vy,_⟩:=b4 (o:= .dK []) nf;rw[e11];walk_at "e";refine hx [some (.ref a),some (.ref lcs),some (.ref lk),some (.ref lw),some (.ref r),some (.ref ln),some (.ref S.a),some (.ref m),some (.ref f),none,none,none,none,none,none] _ ?_;clear hx;have Ql:=Xj.same Vy;have Vz:=Vy _ _ hm;have Rv:=hR.r.len;rw[A4] at Rv;have eR1:=k8 R.W.pts;have eR2:=hR.r.at_.ts.length;refine B2 λnx7 hx=>?_;walk_at "e";refine b0 Ql.tup (b5 (j:=1) rfl) ?_;walk_at "e";refine b0 Ql.r.at_.tup (b5 (j:=0) rfl) ?_;walk_at "e";refine uK (gx (.inl Ql.r.hp) (λl12 n12=>?_));obtain⟨YL,Sr,Qf,MJ,_⟩:=b4 (o:= .lst _) n12;rw[Sr];walk_at "e";refine b0 (Ql.same MJ).tup (b5 (j:=1) rfl) ?_;walk_at "e";refine b0 (Ql.same MJ).r.at_.tup (b5 (j:=1) rfl) ?_;walk_at "e";refine uK (gx (.inl (MJ _ _ Ql.r.hq)) (λYM n13=>?_));obtain⟨YN,Su,Qg,NG,_⟩:=b4 (o:= .lst _) n13;rw[Su];refine nQ (NG _ _ Qf) Qg (h9 (by rw[Gs,Gs];lia)) (λl14 n14=>?_);obtain⟨Xk,Xl,SM,PU,_⟩:=b4 (o:= .lst _) n14;rw[Xl];have Oo:Xk l14=some (.lst ((d9 R.W).map V.str)):=by rw[SM,tJ,vX hR.r.at_.ts];unfold d9;rw[Gy]
  have MM:=MJ.trans (NG.trans PU);have VA:=MM _ _ Vz;clear Qf Qg SM Sr Su Xl;obtain⟨ul,OF⟩:∃ul,ul=(d9 R.W).filter λn=>!decide (n∈d9 L.W):=⟨_,rfl⟩
  have ndk:=pl.ndk hR.l.nd;have eRl:(d9 R.W).length<=24:=hR.r.len;refine A0 (SqL.of Oo) ?_;refine u4 (n:=(d9 R.W).length) (λi out H'=>Same Xk H'/\out=(((d9 R.W).take i).filter λn=>!decide (n∈d9 L.W)).map V.str) ⟨Same.refl _,rfl⟩ (λi out H' hi hp=>⟨_,.str ((d9 R.W)[i]),SqL.of (hp.1 _ _ Oo),by rw[Gx,Gu hi];rfl⟩) ?_ ?_
  .rintro N i v out H15' SN hi ⟨Oq,rfl⟩ y hN';obtain⟨rfl,Xm⟩:=Itl.get y (SqL.of (Oq _ _ Oo));rw[Gx,Gu hi] at Xm;cases Xm;have A_:(((d9 R.W).take i).filter λn=>!decide (n∈d9 L.W)).length<=24:=He (GI _ _) (by rw[GC];lia);have NX:(d9 R.W).take (i+1)=(d9 R.W).take i++[(d9 R.W)[i]]:=N5 (Gu hi);walk_at "e";refine⟨rfl,?_⟩;walk_at "e";refine aP (G3 (k:=Sum.inr (d9 R.W)[i]) (show Rd SN m _ from .inl (Oq _ _ VA))) ?_;rw[G0];walk_at "e";refine aD (λhb=>?_) (λhb=>?_)
   .walk_at "e";refine⟨h9 (by rw[Gs];lia),hN' _ _ ⟨Oq,?_⟩⟩;rw[NX,Hw,Gy,Hz (by rw[Hm,GV];exact λz=>hb (pl.ks.mem_iff.mpr z))];rfl
   .refine hN' _ _ ⟨Oq,?_⟩;rw[NX,Hw,Gy,HG (by rw[Hm,GV];exact λz=>z (pl.ks.mem_iff.mp hb))];simp
  rintro out SN ⟨Oq,rfl⟩;rw[GD (Gv _),←OF];have ndu:ul.Nodup:=by rw[OF];exact hR.r.nd.sublist HK
  have hu:∀n∈ul,n∈d9 R.W/\n∉d9 L.W:=λn hn=>by
   rw[OF] at hn;have z:=GR.mp hn;exact⟨z.1,by have y:=z.2;rw[Hm,GV] at y;exact y⟩
  obtain⟨w7,SA,_⟩:=di wok 7 (by lia);obtain⟨w8,Ol,_⟩:=di wok 8 (by lia);have hul2:ul.length<=2:=qh (a:=w7) (b:=w8) ndu λx hx=>by
   rcases rg.new lf (hu x hx).1 (hu x hx).2 with y|y
   .rw[SA] at y;exact .inl (GL y).symm
   .rw[Ol] at y;exact .inr (GL y).symm
  refine⟨⟨_,SqL.of (Oq _ _ Oo),by rw[Gs];exact Gv _⟩,λD hD=>⟨h9 (by rw[Gs];lia),?_⟩⟩;obtain⟨H16,e16,SO,Pq,_⟩:=b4 (H:=SN) (o:= .lst (ul.map V.str)) hD;change rW _ (p0 SN D (.lst (ul.map V.str))) _;rw[e16];have RQ:=Vy.trans (MM.trans (Oq.trans Pq));have VB:=(MM.trans (Oq.trans Pq)) _ _ SK;have nDf:D≠f:=λz=>by rw[z] at hD;rw[(MM.trans Oq) _ _ SK] at hD;cases hD
  walk_at "e";refine⟨_,rfl,.inl ⟨D,_,rfl,SqL.of SO,?_⟩⟩;refine S8 (n:=ul.length) (λi σ H'=>Same Rl H'/\(∃v9 v10,σ=[some (.ref a),some (.ref lcs),some (.ref lk),some (.ref lw),some (.ref r),some (.ref ln),some (.ref S.a),some (.ref m),some (.ref f),v9,v10,none,none,none,none])/\H' D=some (.lst (ul.map V.str))/\∃fr:List (Str×Str),H' f=some (.dK (i9 fr))/\fr.map (·.1)=ul.take i/\∀x∈fr,∃s,s∈ss/\x.2=s++(".":Str)++x.1) ⟨RQ,⟨_,_,rfl⟩,SO,[],VB,rfl,λ_ h=>nomatch h⟩ (λi σ H' hi hp=>⟨_,.str (ul[i]),SqL.of hp.2.2.1,by rw[Gx,Gu hi];rfl⟩) ?_ ?_
  .rintro bk i v σ H17' Xn hi ⟨OK,⟨v9,v10,rfl⟩,Ot,fr,VC,ek,MY⟩ ⟨tt,x,hx9,nt,rfl,rfl⟩;have p_:=hx9 _ (SqL.of Ot);rw[Gx,Gu hi] at p_;cases p_;obtain⟨VD,e18,VE,Ou,_⟩:=b4 (o:= .tup _) nt;rw[e18];have Xo:=OK.trans Ou;have A_:=Ia List.length ek;rw[Gs,GC] at A_;have k_:=hu _ (Hv hi);have NV:ul[i].length<=100:=hR.r.nl _ k_.1;refine J3 (SqT.of VE) rfl ?_;walk_at "e";obtain⟨s,hs,Xp⟩:=A5 (ss:=ss) (i:=12+(i:Int)) (by lia) (by rw[nok.len];lia);have QL:=Pz s Xp;refine i8 (SqL.of (Xo _ _ Vv)) hs ?_;walk_at "e";refine N7 (h9 (by rw[show(Str.ofString ".").length=1 from rfl];lia)) ?_;walk_at "e";refine N7 (h9 (by rw[bF,show(Str.ofString ".").length=1 from rfl];lia)) ?_;walk_at "e";have fr':ul[i]∉fr.map (·.1):=by rw[ek];exact N3 ndu (Gu hi)
   refine G7 (u7 (k:=Sum.inr ul[i]) (Ou _ _ VC) (h9 (by rw[k8];lia)) ?_);rw[cu fr'];refine⟨B5 Xo nf,⟨_,_,rfl⟩,by rw[b9 nDf];exact Ou _ _ Ot,_,b7,?_,λx hx=>?_⟩
   .rw[Gy,ek,N5 (Gu hi)];rfl
   .rcases GO.mp hx with z|z
    .exact MY x z
    .rw[GZ.mp z];exact⟨s,Xp,rfl⟩
  rintro σ Xn ⟨OK,⟨v9,v10,rfl⟩,Ot,fr,VC,ek,MY⟩;refine⟨⟨_,SqL.of Ot,by rw[Gs];exact Gv _⟩,?_⟩;rw[GD (Gv _)] at ek;refine hx [some (.ref a),some (.ref lcs),some (.ref lk),some (.ref lw),some (.ref r),some (.ref ln),some (.ref S.a),some (.ref m),some (.ref f),v9,v10,none,none,none,none] Xn ?_;clear hx;have hy:Hy ss ws W0 L.W R.W fx fr:=⟨nok,wok,lf,rg,pl,w0,hR.l.nd,hR.r.nd,hW0.ends,hR.l.ends,hR.r.ends,by rw[ek,OF],MY⟩
  have R17:=Xj.same OK;have S17:=hS.same OK;have VF:=OK _ _ hm;have VG:=OK _ _ Vu;refine B2 λnx8 hx=>?_;walk_at "e";refine i8 (SqL.of (OK _ _ Vx)) (b5 (j:=4) g4) ?_;walk_at "e";refine⟨c4,lk,ks,rfl,hc4,OK _ _ Vw,hk,λd wk VD Ou nd18 hwt=>?_⟩;walk_at "e";refine hx [some (.ref a),some (.ref lcs),some (.ref lk),some (.ref lw),some (.ref r),some (.ref ln),some (.ref S.a),some (.ref m),some (.ref f),v9,v10,some (.ref d),none,none,none] VD ?_;clear hx;have Xq:=R17.same Ou;have Xr:=S17.same Ou;have VH:=Ou _ _ VF;have VI:=Ou _ _ VG;have VJ:=Ou _ _ VC;refine N0 ?_;walk_at "e";refine B2 λnx9 hx=>?_;suffices go:∀(v:V) (H':Hp),Same VD H'->(v= .non\/∃(a3 p3 q3:Addr) (k3:List (j0×V)) (W3:A6),v= .ref a3/\WbI K H' a3 p3 q3 k3 W3/\V7 wk W3=V7 wk S.W -(V7 wk L.W -V7 wk R.W))->nx9 [some (.ref a),some (.ref lcs),some (.ref lk),some (.ref lw),some (.ref r),some (.ref ln),some (.ref S.a),some (.ref m),some (.ref f),v9,v10,some (.ref d),some v,none,none] H' by
   refine Ai ?_;walk_at "e";refine⟨h9 (by simp),λst nst=>?_⟩;obtain⟨VL,e19,VM,NL,_⟩:=b4 (o:= .tup [.ref r,.ref m,.ref f]) nst;rw[e19];walk_at "e";have T19:StI K VL st r m f bl L R (i9 fx) (i9 fr) bs:=⟨SqT.of VM,Xq.same NL,NL _ _ VH,NL _ _ VJ,NL _ _ VI⟩
   have Xs:=hR.same (m6.trans (SJ.trans m9));have A_:fx.length<=5:=by
    have z:=pl.ks.length_eq;rw[Gs,A4] at z;lia
   have hdo:Bs S.W L.W R.W (i9 fx) fr:=by rw[PB];exact hy.do
   have VN:∀b∈bs,yv b.W S.W fx:=λb hb=>by
    rw[PB];exact hy.bar (hbr b hb) (by rw[←PB];exact Sl)
   refine⟨S,L,R,st,r,m,f,bl,i9 fx,fr,bs,fx,rfl,Xr.same NL,T19,rfl,⟨by lia,λb hb=>⟨(j4 (Xs.bars b hb).hp nm).symm,(j4 (Xs.bars b hb).hq nm).symm,VN b hb⟩⟩,by rw[B7,←r6];exact eQ ndk (λ_ _ _ _ e=>Ij e),by rw[k8];lia,λkv f_=>?_,hdo,by rw[A4] at Sl;lia,?_,λH2 e s2 he=>?_⟩
   .obtain⟨x,_,rfl⟩:=Gw.mp f_;exact⟨x.1,x.2,rfl⟩
   .intro a3 p3 q3 k3 W3 Xt m20 w3 hp3 hq3 ne3 np3 nq3 e31 e32;walk_at "e";have l1:=e31.length_eq;have l2:=e32.length_eq;rw[PB,hy.ptsE,GF,show(J0 (bh L.W (i9 fx) (i9 fr)) R.W).pts.length=R.W.pts.length from Gs _] at l1;rw[PB,hy.tsE,GF,show(J0 (bh L.W (i9 fx) (i9 fr)) R.W).ts.length=R.W.ts.length from Gs _] at l2;refine go (.ref a3) Xt (NL.trans m20) (.inr ⟨a3,p3,q3,k3,W3,rfl,⟨w3.tup,hp3,hq3,w3.ts,by lia,by lia⟩,?_⟩);rw[sk e31 e32,PB];exact hy.sum wk
   .refine⟨_,e,rfl,rfl,T.s_Barred_GlueError,?_⟩;have s3:Same VL (p0 H2 e (.ext (aV e (cA K "Barred")))):=B5 s2 (s2.free he);generalize p0 H2 e (.ext (aV e (cA K "Barred")))=H3' at s3⊢;walk_at "e";exact go .non H3' (NL.trans s3) (.inl rfl)
  intro v VL NL hv;refine hx _ _ ?_;clear hx;rcases hv with rfl|⟨a3,p3,q3,k3,W3,rfl,w3,es⟩
  .walk_at "r";refine V5 (λ_=>?_) (λz=>absurd z (by simp));walk_at "r";exact k _
  have SQ:=Xq.same NL;have S19:=Xr.same NL;have RR:=hwt.same NL;refine N0 ?_;walk_at "e";refine V5 (λz=>absurd z (by simp)) (λ_=>?_);walk_at "e";refine N0 ?_;walk_at "e";refine b0 SQ.tup (b5 (j:=0) rfl) ?_;walk_at "e";refine⟨L.a,L.p,L.q,d,L.kvs,wk,L.W,rfl,SQ.l.wb,RR,λXt m20=>?_⟩;have Xu:=SQ.same m20;walk_at "e";refine b0 Xu.tup (b5 (j:=1) rfl) ?_;walk_at "e";refine⟨R.a,R.p,R.q,d,R.kvs,wk,R.W,rfl,Xu.r.wb,RR.same m20,λH21 m21=>?_⟩;have NM:=m20.trans m21;walk_at "e";refine N0 ?_;walk_at "e";refine⟨a3,p3,q3,d,k3,wk,W3,rfl,w3.same NM,RR.same NM,λH22 m22=>?_⟩;have NN:=NM.trans m22;walk_at "e";refine⟨S.a,S.p,S.q,d,S.kvs,wk,S.W,rfl,(S19.same NN).wb,RR.same NN,λH23 m23=>?_⟩;have OL:=NN.trans m23;have VO:=SQ.same OL;walk_at "e";refine aD (λz=>absurd es z) (λ_=>?_);walk_at "r";refine⟨r,L.a,L.p,L.q,R.a,R.p,R.q,d,.ref bl,L.kvs,R.kvs,wk,L.W,R.W,rfl,VO.tup,VO.l.wb,VO.r.wb,RR.same OL,λH24 Uu=>?_⟩;walk_at "r";refine gR (gF (t:="bool") rfl (by simp) ?_);rw[show fm "bool" "bool"=true from rfl];walk_at "r";have e:decide (decide (V7 wk R.W<V7 wk L.W)=decide (0<V7 wk L.W -V7 wk R.W))=true:=by
   rw[GS,Hq,GS,GS];lia
  rw[e];exact k _
end
theorem all_mk {l:PySem.W.OpenLaw}{w:World}{K:Qc}{h:Heap}{mg:Str->Option Value}{fa f0 f1 f2 f3 f4 f5 f6 f7 f8 f9 Pj SK Qf Qg SM f15 SO f17 VE VM f20 f21 f22 RN RO RP SI f27 f28 f29 f30 f31 f32 f33 f34 f35 f36 f37 f38 f39 f40 f41 f42 f43 f44 f45 SH f47 f48 f49:Addr}{t_MOST_NAME_SIGNS t_NAME_SIGNS t_SMALL_LETTERS:Tok}{C_Barred C_GlueError C_Loose C_NoMatch C_NoNames:Addr}{cd_GlueError:ClassData}(X:K.In h)(G:h.Ns mainGlobals mg)(TJ:mg "law"=some (.ref fa))
  (a0:FnIn K "weighed" eu f0)
  (a1:FnIn K "falls" lB f1)
  (a2:FnIn K "is_text_of" Y6 f2)
  (a3:FnIn K "is_name" eV f3)
  (a4:FnIn K "in_order" cb f4)
  (a5:FnIn K "copied" gK f5)
  (a6:FnIn K "things" hJ f6)
  (a7:FnIn K "without" dY f7)
  (a8:FnIn K "united" iL f8)
  (a9:FnIn K "tie_renamed" V8 f9)
  (a10:FnIn K "renamed" eh Pj)
  (a11:FnIn K "is_match" ck SK)
  (a12:FnIn K "line" pd Qf)
  (a13:FnIn K "first_match" V0 Qg)
  (a14:FnIn K "first_found" V1 SM)
  (a15:FnIn K "found" ki f15)
  (a16:FnIn K "may_be" ia SO)
  (a17:FnIn K "point_choices" P9 f17)
  (a18:FnIn K "tie_places" Z1 VE)
  (a19:FnIn K "enough" gL VM)
  (a20:FnIn K "lines" kJ f20)
  (a21:FnIn K "images" iH f21)
  (a22:FnIn K "tie_choices" V3 f22)
  (a23:FnIn K "has_room" cx RN)
  (a24:FnIn K "both" oh RO)
  (a25:FnIn K "alone" kF RP)
  (a26:FnIn K "kept" pA SI)
  (a27:FnIn K "taken" kj f27)
  (a28:FnIn K "fresh_of" cf f28)
  (a29:FnIn K "picked" iK f29)
  (a30:FnIn K "barred" ic f30)
  (a31:FnIn K "taken_out" bu f31)
  (a32:FnIn K "names_serve" U8 f32)
  (a33:FnIn K "rest_of" dX f33)
  (a34:FnIn K "done" oM f34)
  (a35:FnIn K "behind" gY f35)
  (a36:FnIn K "_law_cells" Y5 f36)
  (a37:FnIn K "_law_cell_at" R0 f37)
  (a38:FnIn K "_law_kinds" Y8 f38)
  (a39:FnIn K "_law_names" Z3 f39)
  (a40:FnIn K "_law_words" Y1 f40)
  (a41:FnIn K "_law_digits" V6 f41)
  (a42:FnIn K "_law_web" cz f42)
  (a43:FnIn K "_law_planted" S9 f43)
  (a44:FnIn K "_law_left" aH f44)
  (a45:FnIn K "_law_right" Y2 f45)
  (a46:FnIn K "_law_rule" aE SH)
  (a47:FnIn K "_law_weights" R3 f47)
  (a48:FnIn K "_law_weight" U7 f48)
  (a49:FnIn K "law" uA f49)
  (z_all:PySem.W.nsIn K mainGlobals "all"=some none)
  (z_any:PySem.W.nsIn K mainGlobals "any"=some none)
  (z_bool:PySem.W.nsIn K mainGlobals "bool"=some none)
  (z_dict:PySem.W.nsIn K mainGlobals "dict"=some none)
  (z_enumerate:PySem.W.nsIn K mainGlobals "enumerate"=some none)
  (z_int:PySem.W.nsIn K mainGlobals "int"=some none)
  (z_isinstance:PySem.W.nsIn K mainGlobals "isinstance"=some none)
  (z_len:PySem.W.nsIn K mainGlobals "len"=some none)
  (z_list:PySem.W.nsIn K mainGlobals "list"=some none)
  (z_max:PySem.W.nsIn K mainGlobals "max"=some none)
  (z_min:PySem.W.nsIn K mainGlobals "min"=some none)
  (z_range:PySem.W.nsIn K mainGlobals "range"=some none)
  (z_reversed:PySem.W.nsIn K mainGlobals "reversed"=some none)
  (z_set:PySem.W.nsIn K mainGlobals "set"=some none)
  (z_sorted:PySem.W.nsIn K mainGlobals "sorted"=some none)
  (z_str:PySem.W.nsIn K mainGlobals "str"=some none)
  (z_sum:PySem.W.nsIn K mainGlobals "sum"=some none)
  (z_zip:PySem.W.nsIn K mainGlobals "zip"=some none)
  (v_MOST_NAME_SIGNS:PySem.W.nsIn K mainGlobals "MOST_NAME_SIGNS"=some (some (.int 24 t_MOST_NAME_SIGNS)))
  (v_NAME_SIGNS:PySem.W.nsIn K mainGlobals "NAME_SIGNS"=some (some (.str cW t_NAME_SIGNS)))
  (v_SMALL_LETTERS:PySem.W.nsIn K mainGlobals "SMALL_LETTERS"=some (some (.str av t_SMALL_LETTERS)))
  (n_Barred:PySem.W.nsIn K mainGlobals "Barred"=some (some (.ref C_Barred)))
  (n_GlueError:PySem.W.nsIn K mainGlobals "GlueError"=some (some (.ref C_GlueError)))
  (n_Loose:PySem.W.nsIn K mainGlobals "Loose"=some (some (.ref C_Loose)))
  (n_NoMatch:PySem.W.nsIn K mainGlobals "NoMatch"=some (some (.ref C_NoMatch)))
  (n_NoNames:PySem.W.nsIn K mainGlobals "NoNames"=some (some (.ref C_NoNames)))
  (xr_Barred:PySem.W.excIn K C_Barred BO "ValueError.__new__"=true)
  (xr_Loose:PySem.W.excIn K C_Loose BO "ValueError.__new__"=true)
  (xr_NoMatch:PySem.W.excIn K C_NoMatch BO "ValueError.__new__"=true)
  (xr_NoNames:PySem.W.excIn K C_NoNames BO "ValueError.__new__"=true)
  (xt_GlueError:PySem.W.typeIn K (.ref C_GlueError)=some (.type "type"))
  (xe_GlueError:PySem.W.subIn K (.ref C_GlueError) (.type "BaseException")=some true)
  (xc_GlueError:PySem.W.clsIn K C_GlueError=some cd_GlueError)
  (xs_Barred_GlueError:PySem.W.subIn K (.ref C_Barred) (.ref C_GlueError)=some true)
  (xs_Loose_GlueError:PySem.W.subIn K (.ref C_Loose) (.ref C_GlueError)=some true)
  (xs_NoMatch_GlueError:PySem.W.subIn K (.ref C_NoMatch) (.ref C_GlueError)=some true)
  (xs_NoNames_GlueError:PySem.W.subIn K (.ref C_NoNames) (.ref C_GlueError)=some true)
  :
  ∃fd:FuncData,(∀(s:Shared) (v:Value),BindsTo s fd ⟨[v],[]⟩ [("_law_script",v)])/\∀base:Heap,K.In base->base.Ns mainGlobals mg->A3 l.prog w K mg base C2 12 fa fd ["_law_script"] (lH K):=by
 have ec_Barred:cA K "Barred"=C_Barred:=by unfold cA;rw[n_Barred]
 have ec_GlueError:cA K "GlueError"=C_GlueError:=by unfold cA;rw[n_GlueError]
 have ec_Loose:cA K "Loose"=C_Loose:=by unfold cA;rw[n_Loose]
 have ec_NoMatch:cA K "NoMatch"=C_NoMatch:=by unfold cA;rw[n_NoMatch]
 have ec_NoNames:cA K "NoNames"=C_NoNames:=by unfold cA;rw[n_NoNames]
 have T:Txt K mg:=⟨by rw[ec_Barred];exact⟨IB X G n_Barred,xr_Barred⟩,by rw[ec_Loose];exact⟨IB X G n_Loose,xr_Loose⟩,by rw[ec_NoMatch];exact⟨IB X G n_NoMatch,xr_NoMatch⟩,by rw[ec_NoNames];exact⟨IB X G n_NoNames,xr_NoNames⟩,by rw[ec_GlueError];exact⟨IB X G n_GlueError,xt_GlueError,xe_GlueError,by rw[xc_GlueError];rfl⟩,by rw[ec_Barred,ec_GlueError];exact xs_Barred_GlueError,by rw[ec_Loose,ec_GlueError];exact xs_Loose_GlueError,by rw[ec_NoMatch,ec_GlueError];exact xs_NoMatch_GlueError,by rw[ec_NoNames,ec_GlueError];exact xs_NoNames_GlueError,Hx X G z_all,Hx X G z_any,Hx X G z_bool,Hx X G z_dict,Hx X G z_enumerate,Hx X G z_int,Hx X G z_isinstance,Hx X G z_len,Hx X G z_list,Hx X G z_max,Hx X G z_min,Hx X G z_range,Hx X G z_reversed,Hx X G z_set,Hx X G z_sorted,Hx X G z_str,Hx X G z_sum,Hx X G z_zip,⟨_,IB X G v_MOST_NAME_SIGNS,_,rfl⟩,⟨_,IB X G v_NAME_SIGNS,_,rfl⟩,⟨_,IB X G v_SMALL_LETTERS,_,rfl⟩⟩
 refine Ac X G TJ a49 (fun{base f fd} F=>?_) λ_ _ _ _ _ _ s v=> .of_eq rfl
 have K1:eN l.prog w K mg base:=j9 X G a0 (λF=>pv T F) (by walk_at "b")
 have Y3:cZ l.prog w K mg base:=j9 X G a2 (λF=>iU T F) (by walk_at "b")
 have Z5:iy l.prog w K mg base:=j9 X G a4 (λF=>mY T F) (by walk_at "b")
 have x8:K2 l.prog w K mg base:=j9 X G a6 (λF=>sE T F) (by walk_at "b")
 have B4:O1 l.prog w K mg base:=j9 X G a9 (λF=>iG T F) (by walk_at "b")
 have X8:iM l.prog w K mg base:=j9 X G a16 (λF=>sg T F) (by walk_at "b")
 have X6:iz l.prog w K mg base:=j9 X G a19 (λF=>si T F) (by walk_at "b")
 have aO:mR l.prog w K mg base:=j9 X G a29 (λF=>sJ T F) (by walk_at "b")
 have ah:dv l.prog w K mg base:=j9 X G a36 (λF=>ji T F) (by walk_at "b")
 have S0:bx l.prog w K mg base:=j9 X G a37 (λF=>fP T F) (by walk_at "b")
 have Z4:dz l.prog w K mg base:=j9 X G a38 (λF=>jb T F) (by walk_at "b")
 have aj:dI l.prog w K mg base:=j9 X G a39 (λF=>iZ T F) (by walk_at "b")
 have ak:du l.prog w K mg base:=j9 X G a40 (λF=>iY T F) (by walk_at "b")
 have V4:bL l.prog w K mg base:=j9 X G a41 (λF=>iS T F) (by walk_at "b")
 have cw:iE l.prog w K mg base:=j9 X G a42 (λF=>mX T F) (by walk_at "b")
 have R7:aN l.prog w K mg base:=j9 X G a43 (λF=>fS T F) (by walk_at "b")
 have aF:fH l.prog w K mg base:=j9 X G a44 (λF=>kD T F) (by walk_at "b")
 have aq:dN l.prog w K mg base:=j9 X G a45 (λF=>ja T F) (by walk_at "b")
 have R5:aM l.prog w K mg base:=j9 X G a47 (λF=>fO T F) (by walk_at "b")
 have O5:bS l.prog w K mg base:=j9 X G a48 (λF=>iq T F) (by walk_at "b")
 have lg:qe l.prog w K mg base:=j9 X G a1 (λF=>vU T K1 F) (by walk_at "b")
 have fc:jN l.prog w K mg base:=j9 X G a3 (λF=>oK T Y3 F) (by walk_at "b")
 have K5:de l.prog w K mg base:=j9 X G a5 (λF=>qY T Z5 F) (by walk_at "b")
 have oy:wR l.prog w K mg base:=j9 X G a12 (λF=>xV T x8 F) (by walk_at "b")
 have Q0:aw l.prog w K mg base:=j9 X G a17 (λF=>eZ T X8 F) (by walk_at "b")
 have Y4:cU l.prog w K mg base:=j9 X G a18 (λF=>jf T X8 F) (by walk_at "b")
 have F0:W5 l.prog w K mg base:=j9 X G a22 (λF=>gW T B4 F) (by walk_at "b")
 have pq:vk l.prog w K mg base:=j9 X G a24 (λF=>yf T x8 F) (by walk_at "b")
 have bG:kP l.prog w K mg base:=j9 X G a25 (λF=>uu T x8 F) (by walk_at "b")
 have bc:fB l.prog w K mg base:=j9 X G a46 (λF=>lJ T V4 aF aq F) (by walk_at "b")
 have ee:jO l.prog w K mg base:=j9 X G a7 (λF=>pj T K5 F) (by walk_at "b")
 have gz:mW l.prog w K mg base:=j9 X G a8 (λF=>qW T K5 F) (by walk_at "b")
 have eK:jq l.prog w K mg base:=j9 X G a10 (λF=>oq T B4 K5 F) (by walk_at "b")
 have cy:ie l.prog w K mg base:=j9 X G a11 (λF=>mS T x8 oy B4 F) (by walk_at "b")
 have bY:gu l.prog w K mg base:=j9 X G a23 (λF=>nG T X6 F0 F) (by walk_at "b")
 have oz:tM l.prog w K mg base:=j9 X G a26 (λF=>xP T pq F) (by walk_at "b")
 have lE:qv l.prog w K mg base:=j9 X G a27 (λF=>tV T bG F) (by walk_at "b")
 have N2:cm l.prog w K mg base:=j9 X G a28 (λF=>mO T bG F) (by walk_at "b")
 have iu:nS l.prog w K mg base:=j9 X G a21 (λF=>sO T x8 F0 bY F) (by walk_at "b")
 have br:fL l.prog w K mg base:=j9 X G a31 (λF=>kn T lE F) (by walk_at "b")
 have V2:bQ l.prog w K mg base:=j9 X G a32 (λF=>iF T N2 fc F) (by walk_at "b")
 have iI:nP l.prog w K mg base:=j9 X G a35 (λF=>rF T aO oz N2 x8 F) (by walk_at "b")
 have kR:qR l.prog w K mg base:=j9 X G a20 (λF=>vJ T x8 iu F) (by walk_at "b")
 have kG:qk l.prog w K mg base:=j9 X G a15 (λF=>uH T Q0 X6 Y4 x8 kR F) (by walk_at "b")
 have U9:bU l.prog w K mg base:=j9 X G a14 (λF=>iw T kG F) (by walk_at "b")
 have V9:bM l.prog w K mg base:=j9 X G a13 (λF=>hU T U9 F) (by walk_at "b")
 have ij:nF l.prog w K mg base:=j9 X G a30 (λF=>rh T V9 F) (by walk_at "b")
 have eU:jm l.prog w K mg base:=j9 X G a33 (λF=>pI T cy ee br ij F) (by walk_at "b")
 have om:we l.prog w K mg base:=j9 X G a34 (λF=>xT T eU V2 gz eK iI F) (by walk_at "b")
 exact BH T S0 Z4 ak bc aj R7 cw ah R5 om O5 K1 lg F
theorem walk {l:PySem.W.OpenLaw}{q:Program}{loose:List Str}{XP:(Str->Option Value)->Heap->Prop}{YP:World->Heap->Prop}{d:DefRec}{K:Params->Qc}(hn:l.most=some 63)(Qx:d.params.defaults=[])
  (hY:∀(w:World) (h:Heap),YP w h->(K w.params).In h)
  (F:∀(w:World) (mg:Str->Option Value) (fa:Addr) (h:Heap),(K w.params).In h->h.Ns mainGlobals mg->mg d.name=some (.ref fa)->
   ∃fd:FuncData,(∀(s:Shared) (u:Value),BindsTo s fd ⟨[u],[]⟩ [("_law_script",u)])/\∀base:Heap,(K w.params).In base->base.Ns mainGlobals mg->A3 l.prog w (K w.params) mg base C2 12 fa fd ["_law_script"] (lH (K w.params))):
  PySem.W.WalkO q loose XP YP l.row.toRowW d [] (λf vs=>PySem.call f vs):=
 L2.walk_of (n:=63) (k:=12) (x:="_law_script") (CX:=λ_=>C2) (sp:=λw=>lH (K w.params)) hn (by decide) Qx ⟨rfl,by decide,by decide⟩ hY F (λ_ _ a ns hl _ hS=>⟨a,ns,rfl,hS,hl,λ_=>rfl⟩) λ_ _ _ _ _ z=>z
end K62
namespace PySem.W.Fast
def tw12382450134049104407:=True
def tw15313126620859201579:=True
def tw356570888340824486:=True
def tw15087650756642741678:=True
def tw6029277454594338254:=True
def tw2421573690562465191:=True
def tw12064489791960534434:=True
def tw17284342215842709967:=True
def tw13818349983409187095:=True
def tw3095001125067286149:=True
def tw5649637045179085757:=True
def tw15853738276124058815:=True
def tw14753063712565998905:=True
def tw4504799869396383075:=True
def tw2034628857296467276:=True
def tw10452769512999766037:=True
def tw10700788272154149332:=True
def tw3543359532185714255:=True
def tw4879931264258431152:=True
def tw7303398157753122274:=True
def tw1158023567857388723:=True
def tw5523208191355342427:=True
def tw2424524106857410846:=True
def tw13438823131374459388:=True
def tw8210175144842179520:=True
def tw6875994127846100369:=True
def tw12748618543266311576:=True
def tw15009554320131611001:=True
def tw18073616720332203848:=True
def tw17359437719047377926:=True
def tw17399213772395722126:=True
def tw10005085208870899874:=True
def tw7704386407070482184:=True
def tw7389887457798796871:=True
def tw3207820692290664094:=True
def tw9924390720040696311:=True
def tw1979792482517649151:=True
def tw5414266417623423776:=True
def tw8146095592834479768:=True
def tw4362051058257654321:=True
def tw7303825742449668598:=True
def tw8864217574121111674:=True
def tw9028765975928166954:=True
def tw1340334910733595403:=True
def tw2178781425547591395:=True
def tw3046336440934928073:=True
def tw9982700003398495198:=True
def tw13190020023791721375:=True
def tw9592534205943987601:=True
def tw15008390098520983913:=True
def tw9421058419654140085:=True
def tw15970556643301341464:=True
def tw14396492502051442343:=True
def tw1627350139187128642:=True
def tw12620451428353780589:=True
def tw5350839689518976476:=True
def tw12149165460479909910:=True
def tw4497628548859379875:=True
def tw11930373271643865964:=True
def tw17889235270220162637:=True
def tw2774287376799660279:=True
def tw7330898628538705807:=True
def tw11579036776782322818:=True
def tw5015220855886038086:=True
def tw13124219352643493315:=True
def tw8349715341363757299:=True
def tw8151978758037854222:=True
def tw15744702635091222635:=True
def tw11405798100994133591:=True
def tw16413569307151381737:=True
def tw11798505013514428932:=True
def tw5357123336659394050:=True
def tw2856792865256598490:=True
def tw8867954235275566427:=True
def tw15471325888345042742:=True
def tw3092357307968659498:=True
def tw1226757873664544239:=True
def tw8714734859267412015:=True
def tw17453249885626972457:=True
def tw9912314071323295218:=True
def tw804204565546694806:=True
def tw2600464360931829668:=True
def tw17423426573638894017:=True
def tw10455730574202616416:=True
def tw6224281076717778086:=True
def tw7834928997160453189:=True
def tw3556755443510503175:=True
def tw1897172316595913957:=True
def tw10476683567363630111:=True
def tw12172814738216375296:=True
def tw7676199534074251355:=True
def tw11069329557650197092:=True
def tw830723295827131121:=True
def tw13127128298039722424:=True
def tw1275781661832727743:=True
def tw1090068001323035635:=True
def tw227152552741983156:=True
def tw219199584289954116:=True
def tw14929677812394444136:=True
def tw3495849343432436322:=True
def tw8511035991762040628:=True
def tw15438305433607391239:=True
def tw17957868171492809491:=True
def tw17253442030502218303:=True
def tw2000145367856126774:=True
def tw8698381798394408221:=True
def tw1259962113600656391:=True
def tw15787154936692163714:=True
def tw17841153697823092066:=True
def tw3155744858963310837:=True
def tw12074754280405444027:=True
def tw1694182306360960249:=True
def tw11117141866463105771:=True
def tw2622137092577643257:=True
def tw14082391481491019405:=True
def tw3972567295034694818:=True
def tw2301290276066752446:=True
def tw10945185332679069826:=True
def tw1661625292231596911:=True
def tw12979104595477740611:=True
def tw7191458649479651042:=True
def tw12449773115052427912:=True
def tw11085645703387946184:=True
def tw1211947765445935550:=True
def tw17378714767103048024:=True
def tw1720974811015800166:=True
def tw5983126928782308117:=True
def tw9430192265630731437:=True
def tw4453777681016537083:=True
def tw6332843404179659872:=True
def tw3463389624013272535:=True
def tw9172574132791758316:=True
def tw5787901938990430102:=True
def tw7406959076008499466:=True
def tw7119491704928899722:=True
def tw8742298361028763533:=True
def tw5570764345706454280:=True
def tw15341278165041159450:=True
def tw1130452620227512127:=True
def tw7334129329215346842:=True
def tw15893336311757248602:=True
def tw977162084790749199:=True
def tw6270075797149290110:=True
def tw15163639730685560613:=True
def tw12250694909042651611:=True
def tw14315834773396689:=True
def tw15291102698260344504:=True
def tw6901542713291759556:=True
def tw5998685751641868150:=True
def tw8519967000173242159:=True
def tw12199886497863955063:=True
def tw5995101175387870123:=True
def tw12514501231941250774:=True
def tw13074437466666326277:=True
def tw14159313133795651812:=True
def tw6609205278949780419:=True
def tw858276372446745888:=True
def tw13380912655141102538:=True
def tw12100196991582752579:=True
def tw3175697028433636950:=True
def tw18202628393305043094:=True
def tw12236903658011194265:=True
def tw393748760778175061:=True
def tw105808547529717641:=True
def tw20954289551624363:=True
def tw4167562040771447647:=True
def tw12360670661420097724:=True
def tw10696088043411816405:=True
def tw6344136808488176662:=True
def tw2463421927440194322:=True
def tw12483704117666782962:=True
def tw15093157210958509249:=True
def tw17964437044581832127:=True
def tw12000581159500451414:=True
def tw8854902151586651076:=True
def tw14153089398369551211:=True
def tw719995729936704374:=True
def tw13813502145798003600:=True
def tw7471293599511931335:=True
def tw8536933539013497095:=True
def tw3464114700769199331:=True
def tw7252089623957144150:=True
def tw4865656445789965134:=True
def tw11093833035168230247:=True
def tw7972242326515869453:=True
def tw11627091009995267494:=True
def tw9303780867489094609:=True
def tw3164784667298368249:=True
def tw15773452778203711798:=True
def tw12136320284575132433:=True
def tw9240249542758089131:=True
def tw4795917883762075298:=True
def tw13017665615997952695:=True
def tw7113536797321835373:=True
def tw12300245031993967414:=True
def tw12005148278629483997:=True
def tw10245573375929332384:=True
def tw3348638078109682871:=True
def tw7928073661299559403:=True
def tw2595269326970098925:=True
def tw10650320918057906140:=True
def tw10556768913944703298:=True
def tw6202848488038061448:=True
def tw17728722920701764532:=True
def tw2108410521778983685:=True
def tw17711781647540190358:=True
def tw12072065128339552179:=True
def tw411970855441037743:=True
def tw2017380261899034760:=True
def tw7691354198959346808:=True
def tw4290239696816738575:=True
def tw7518294046222672773:=True
def tw547360928175527730:=True
def tw3762931390486914206:=True
def tw13148374561959855188:=True
def tw17401754970565476717:=True
def tw16682185940072518467:=True
def tw10304025060136730443:=True
def tw3854399410228828135:=True
def tw3457349607416575204:=True
def tw10106954911332375349:=True
def tw15588918675043655291:=True
def tw7070665350536099831:=True
def tw2300205914066034765:=True
def tw15869448584362712154:=True
def tw5790618905534303645:=True
def tw18054652802958014835:=True
def tw18171344342390557767:=True
def tw3576903903115580319:=True
def tw1428383199368761070:=True
def tw7613809043154798251:=True
def tw5851495912462720866:=True
def tw572220337365405938:=True
def tw17808426703231238838:=True
def tw14938074583154775483:=True
def tw10215615364330264309:=True
def tw11576412259090516633:=True
def tw13036274263994875474:=True
def tw12816870480404280282:=True
def tw9870155077330229803:=True
def tw4038131921063924001:=True
def tw8217123026912428604:=True
def tw5105385963534613569:=True
def tw1277657434974372106:=True
def tw12075574395066216135:=True
def tw8384253057826552184:=True
def tw6132295214262669613:=True
def tw17269870546266524261:=True
def tw5810561982080699119:=True
def tw4796236480398032927:=True
def tw1429862241134840776:=True
def tw13120862413234055699:=True
def tw12934530058875868040:=True
end PySem.W.Fast
open PySem PySem.W PyProof.Rows
local macro_rules| `(tactic|walk_at "F")=> `(tactic|(refine' L2.FnIn.mk' ?a ?l ?c ?k;(case a=>k_is);(case l=>k_is);(case c=>k_is);(case k=>k_is)))
set_option maxRecDepth 100000 in
set_option maxHeartbeats 0 in
theorem PySem.Challenge.cw_gluework_k62_steps_are_lighter_holds : PySem.Challenge.rw_gluework_k62_steps_are_lighter.Holds := by
 w_on;o_law;k_head;(case hw=>w_witness2);k_fill;refine K62.walk (l:=PySem.Challenge.rw_gluework_k62_steps_are_lighter) rfl rfl (λw h Y=>PySem.W.kIn_of Y) ?F;case F=>
  intro w mg fa h KX G hmg
  refine' K62.all_mk KX G hmg ?a0 ?a1 ?a2 ?a3 ?a4 ?a5 ?a6 ?a7 ?a8 ?a9 ?a10 ?a11 ?a12 ?a13 ?a14 ?a15 ?a16 ?a17 ?a18 ?a19 ?a20 ?a21 ?a22 ?a23 ?a24 ?a25 ?a26 ?a27 ?a28 ?a29 ?a30 ?a31 ?a32 ?a33 ?a34 ?a35 ?a36 ?a37 ?a38 ?a39 ?a40 ?a41 ?a42 ?a43 ?a44 ?a45 ?a46 ?a47 ?a48 ?a49 ?z_all ?z_any ?z_bool ?z_dict ?z_enumerate ?z_int ?z_isinstance ?z_len ?z_list ?z_max ?z_min ?z_range ?z_reversed ?z_set ?z_sorted ?z_str ?z_sum ?z_zip ?v_MOST_NAME_SIGNS ?v_NAME_SIGNS ?v_SMALL_LETTERS ?n_Barred ?n_GlueError ?n_Loose ?n_NoMatch ?n_NoNames ?xr_Barred ?xr_Loose ?xr_NoMatch ?xr_NoNames ?xt_GlueError ?xe_GlueError ?xc_GlueError ?xs_Barred_GlueError ?xs_Loose_GlueError ?xs_NoMatch_GlueError ?xs_NoNames_GlueError
  (case a0=>walk_at "F")
  (case a1=>walk_at "F")
  (case a2=>walk_at "F")
  (case a3=>walk_at "F")
  (case a4=>walk_at "F")
  (case a5=>walk_at "F")
  (case a6=>walk_at "F")
  (case a7=>walk_at "F")
  (case a8=>walk_at "F")
  (case a9=>walk_at "F")
  (case a10=>walk_at "F")
  (case a11=>walk_at "F")
  (case a12=>walk_at "F")
  (case a13=>walk_at "F")
  (case a14=>walk_at "F")
  (case a15=>walk_at "F")
  (case a16=>walk_at "F")
  (case a17=>walk_at "F")
  (case a18=>walk_at "F")
  (case a19=>walk_at "F")
  (case a20=>walk_at "F")
  (case a21=>walk_at "F")
  (case a22=>walk_at "F")
  (case a23=>walk_at "F")
  (case a24=>walk_at "F")
  (case a25=>walk_at "F")
  (case a26=>walk_at "F")
  (case a27=>walk_at "F")
  (case a28=>walk_at "F")
  (case a29=>walk_at "F")
  (case a30=>walk_at "F")
  (case a31=>walk_at "F")
  (case a32=>walk_at "F")
  (case a33=>walk_at "F")
  (case a34=>walk_at "F")
  (case a35=>walk_at "F")
  (case a36=>walk_at "F")
  (case a37=>walk_at "F")
  (case a38=>walk_at "F")
  (case a39=>walk_at "F")
  (case a40=>walk_at "F")
  (case a41=>walk_at "F")
  (case a42=>walk_at "F")
  (case a43=>walk_at "F")
  (case a44=>walk_at "F")
  (case a45=>walk_at "F")
  (case a46=>walk_at "F")
  (case a47=>walk_at "F")
  (case a48=>walk_at "F")
  (case a49=>walk_at "F")
  (case z_all|z_any|z_bool|z_dict|z_enumerate|z_int|z_isinstance|z_len|z_list|z_max|z_min|z_range|z_reversed|z_set|z_sorted|z_str|z_sum|z_zip|v_MOST_NAME_SIGNS|v_NAME_SIGNS|v_SMALL_LETTERS|n_Barred|n_GlueError|n_Loose|n_NoMatch|n_NoNames=>k_is)
  (case xr_Barred=>k_exc)
  (case xr_Loose=>k_exc)
  (case xr_NoMatch=>k_exc)
  (case xr_NoNames=>k_exc)
  (case xt_GlueError|xe_GlueError|xc_GlueError|xs_Barred_GlueError|xs_Loose_GlueError|xs_NoMatch_GlueError|xs_NoNames_GlueError=>k_is)
