import PyProof.Rows.All
import Wide.All
import OpenK.AllK
import Wide.FinOn
import PyProof.EqAt
import PyProof.EqKinds
import PyProof.TupleCall
import PyProof.NeKinds
import PyProof.AttrMissHeap
import PyProof.ExcClass3
import PyProof.RulesAs
import PyProof.Rows.FStr
import OpenK.KOwn
import PyProof.NsDelKeeps
import PyProof.Rows.Catch
import PyProof.Rows.SetFrom
import PyProof.SetRoads
import PyProof.FactsAll.NoneType
import KE.KRevIter
import PyProof.ZipIter
import KE.KItemsList
import PyProof.MinMaxWalk
import PyProof.WalksMore
import PyProof.FString5
import PyProof.Rows.SortShellK
import PySem.Challenge.RW_gluework_k26_whole_back
abbrev Qe:=PySem.W.Frag
abbrev Jx:=@List.length_map
abbrev Jy:=@List.getElem?_eq_getElem
abbrev Jz:=@List.mem_map
abbrev JA:=@Nat.le_refl
abbrev JB:=@List.mem_append_left
abbrev JC:=@List.getElem?_map
abbrev JD:=@List.mem_append
abbrev JE:=@List.mem_append_right
abbrev JF:=@List.map_append
abbrev JG:=@List.length_append
abbrev JH:=@List.mem_filter
abbrev JI:=@PySem.Heap.get?_push_of_some
abbrev JJ:=@List.length_filter_le
abbrev JK:=@List.take_of_length_le
abbrev JL:=@PySem.wpAny_bind
abbrev JM:=@List.mem_of_getElem?
abbrev JN:=@List.mem_singleton
abbrev JO:=@List.length_singleton
abbrev JP:=@List.length_take
abbrev JQ:=@List.nodup_append
abbrev JR:=@PySem.Heap.lt_size
abbrev JS:=@Nat.lt_of_lt_of_le
abbrev JT:=@List.mem_cons_self
abbrev JU:=@Option.some.inj
abbrev JV:=@Nat.ne_of_lt
abbrev JW:=@PySem.wpAny_pure
abbrev JX:=@decide_eq_true
abbrev JY:=@PySem.Heap.get?_push_size
abbrev JZ:=@List.mem_cons_of_mem
abbrev Ka:=@List.filter_append
abbrev Kb:=@List.take_succ
abbrev Kc:=@List.size_toArray
abbrev Kd:=@Option.map_eq_some_iff
abbrev Ke:=@List.filter_sublist
abbrev Kf:=@decide_eq_false
abbrev Kg:=@Nat.le_trans
abbrev Kh:=@List.getD_eq_getElem?_getD
abbrev Ki:=@List.filter_cons_of_pos
abbrev Kj:=@Bool.and_eq_true
abbrev Kk:=@List.all_eq_true
abbrev Kl:=@List.mem_cons
abbrev Km:=@List.map_map
abbrev Kn:=@List.getElem_mem
abbrev Ko:=@decide_eq_true_eq
abbrev Kp:=@List.filter_cons_of_neg
abbrev Kq:=@PySem.PassesOwn.never
abbrev Kr:=@PySem.Paired.length
abbrev Ks:=@Bool.false_ne_true
abbrev Kt:=@decide_eq_false_iff_not
abbrev Ku:=@List.append_nil
abbrev Kv:=@Int.emod_lt_of_pos
abbrev Kw:=@Bool.eq_iff_iff
abbrev Kx:=@List.map_cons
abbrev Ky:=@List.length_cons
abbrev Kz:=@PySem.F.plainAttrs_dict
abbrev KA:=@List.map_congr_left
abbrev KC:=@PySem.W.mg_none_of
abbrev KD:=@List.filter_nil
abbrev KG:=@Int.emod_nonneg
abbrev KH:=@List.append_assoc
abbrev KI:=@Bool.not_eq_true'
abbrev KJ:=@List.getElem?_append_left
abbrev KL:=@PySem.F.plainAttrs_list
abbrev KN:=@List.nodup_cons
abbrev KO:=@List.take_sublist
abbrev KP:=@Nat.lt_succ_self
abbrev KQ:=@congrArg
abbrev KR:=@PySem.F.slot_list_append
abbrev KS:=@PySem.F.type_list_append
abbrev KU:=@Nat.zero_le
abbrev KW:=@of_decide_eq_true
abbrev KY:=@List.drop_eq_getElem_cons
abbrev KZ:=@Classical.byContradiction
abbrev La:=@PySem.wpAny_holding
abbrev Lb:=@PySem.Around.under_plainId
abbrev Lc:=@List.nodup_nil
abbrev Ld:=@List.getElem?_eq_none
abbrev Lf:=@List.getElem?_append_right
abbrev Lg:=@List.getElem?_eq_some_iff
abbrev Lh:=@PyProof.Rows.callWith_type1
abbrev Li:=@Nat.lt_irrefl
abbrev Lj:=@List.getElem?_of_mem
abbrev Ll:=@PySem.call_meetsIn
abbrev Lm:=@PySem.codeAny_builtin
abbrev Ln:=@List.Perm.refl
abbrev Lo:=@List.lookup_cons
abbrev Lp:=@List.length_replicate
abbrev Lq:=@PySem.F.slot_dict_update
abbrev Ls:=@List.length_range
abbrev Lu:=@PySem.wpAny_richCompare_same_room
abbrev Lv:=@PySem.Calls.callWith_builtin
abbrev Lw:=@Ne.symm
abbrev Lx:=@PySem.wpAny_truthy_bool
abbrev Ly:=@PySem.F.slot_dict_get
abbrev Lz:=@PySem.tupleKind_room_in1
abbrev LA:=@PySem.F.slot_dict_values
abbrev LB:=@PySem.F.type_dict_update
abbrev LC:=@List.any_eq_true
abbrev LD:=@Sum.inr.inj
abbrev LF:=@List.eq_nil_of_length_eq_zero
abbrev LG:=@Prod.mk.inj
abbrev LH:=@List.mem_range
abbrev LJ:=@List.all_map
abbrev LK:=@PySem.W.kia_one
abbrev LL:=@List.range_succ
abbrev LM:=@PySem.F.slot_NoneType_hash
abbrev LN:=@List.perm_ext_iff_of_nodup
abbrev LO:=@PySem.plainId_quiet
abbrev LQ:=@PySem.W.mg_of
abbrev LS:=@List.pairwise_cons
abbrev LU:=@PySem.wpAny_passesOwn
abbrev LV:=@PyProof.Rows.slot_tuple_getitem
abbrev LW:=@PySem.wpAny_newObj_type
abbrev LX:=@List.flatMap_cons
abbrev LY:=@PySem.F.type_dict_values
abbrev LZ:=@Nat.lt_or_ge
abbrev Ma:=@PySem.mem_of_lookup
abbrev Mb:=@List.all_cons
abbrev Mc:=@beq_eq_false_iff_ne
abbrev Md:=@PySem.wpAny_getItem_str_slice
abbrev Me:=@Nat.le_succ
abbrev Mf:=@List.cons.inj
abbrev Mg:=@List.cons_append
abbrev Mh:=@List.filter_cons
abbrev Mi:=@PySem.F.entry_dict_get
abbrev Mj:=@List.drop_of_length_le
abbrev Ml:=@PySem.Calls.spliced_cons
abbrev Mm:=@PySem.wpAny_Call_Name_kw
abbrev Mn:=@List.filter_filter
abbrev Mo:=@PySem.wpAny_field
abbrev Mp:=@PySem.SeqAt.EqAt.same
abbrev Mq:=@Array.getElem?_toList
abbrev Mr:=@List.find?_cons
abbrev Ms:=@List.map_nil
abbrev Mt:=@PySem.Txt.slice_le
abbrev Mu:=@List.foldl_cons
abbrev Mv:=@PySem.F.called_set
abbrev Mw:=@PySem.wpAny_pyIter_list
abbrev My:=@List.Pairwise.map
abbrev Mz:=@Bool.true_and
abbrev MA:=@PySem.Calls.evalArgs_plain
abbrev MB:=@PySem.F.slot_list_ne
abbrev MC:=@List.pairwise_iff_getElem
abbrev MD:=@PySem.wpAny_call_entry
abbrev ME:=@Option.getD_some
abbrev MF:=@PySem.W.hideAll_get
abbrev MG:=@List.filterMap_cons
abbrev MH:=@Array.length_toList
abbrev MI:=@List.filter_eq_self
abbrev MJ:=@PySem.SeqAt.RcAt.lists_lengths
abbrev MK:=@PySem.F.slot_list_getattribute
abbrev ML:=@List.mem_filterMap
abbrev MM:=@List.getElem?_replicate
abbrev MN:=@PySem.wpAny_callSpecial?_slot
abbrev MO:=@PySem.wpAny_Call_method0_late
abbrev MQ:=@Option.map_some
abbrev MR:=@Bool.and_true
abbrev MS:=@PyProof.Rows.F.plain_set_update_loop
abbrev MT:=@PySem.F.slot_zip_getattribute
abbrev MU:=@PySem.wpAny_pyNext_list_item
abbrev MV:=@List.range_succ_eq_map
abbrev MW:=@PySem.AutoSeq1.sub_list_list
abbrev MX:=@PySem.wpAny_nextOf_list_item
abbrev MY:=@List.filter_eq_nil_iff
abbrev MZ:=@PySem.Calls.spliced_nil
abbrev Na:=@PySem.atKey_none_of_get
abbrev Nb:=@List.lt_irrefl
abbrev Nc:=@Nat.le_of_lt
abbrev Nd:=@PySem.wpAny_pyNext_list_end
abbrev Nf:=@Bool.beq_eq_decide_eq
abbrev Ng:=@PySem.builtinLookup_eq_fast
abbrev Nh:=@PySem.wpAny_notOrdered_dict
abbrev Ni:=@List.length_drop
abbrev Nj:=@List.drop_eq_nil_iff
abbrev Nk:=@List.lt_asymm
abbrev Nl:=@PySem.wpAny_execs_nil
abbrev Nm:=@PySem.evalArgs_none
abbrev Nn:=@List.length_nil
abbrev Np:=@PySem.post_val_or_str
abbrev Nq:=@PySem.F.slot_zip_next
abbrev Nr:=@List.length_zip
abbrev Nt:=@PySem.Heap.SameBut.update
abbrev Nu:=@PySem.Calls.Name_function_global
abbrev Nv:=@Int.fdiv_eq_ediv_of_nonneg
abbrev Nw:=@PySem.SeqAt.EqAt.int_str
abbrev Nx:=@PySem.SeqAt.EqAt.str_int
abbrev Ny:=@PySem.W.of_hideAll
abbrev Nz:=@PySem.codeAny_mono
abbrev NA:=@PySem.wpAny_typeOf
abbrev NB:=@List.map_id'
abbrev NC:=@List.getElem?_take
abbrev ND:=@PySem.wpAny_seqItems
abbrev NF:=@List.drop_zero
abbrev NG:=@List.getElem?_zip_eq_some
abbrev NH:=@Option.isSome_iff_exists
abbrev NI:=@PySem.F.args_tuple_add_2
abbrev NJ:=@Option.isSome_map
abbrev NK:=@PySem.wpAny_comprehension_free
abbrev NL:=@PySem.AutoSeq1.sub_tuple_tuple
abbrev NM:=@List.filter_congr
abbrev NN:=@PySem.F.entry_tuple_add
abbrev NO:=@PySem.F.slot_dict_clear
abbrev NP:=@PySem.F.args_dict_get_2
abbrev NQ:=@PySem.F.args_dict_get_3
abbrev NS:=@PySem.MeetsSeq3.entry_eq_loop
abbrev NT:=@List.sum_cons
abbrev NU:=@Nat.min_le_right
abbrev NV:=@beq_self_eq_true
abbrev NW:=@List.mem_reverse
abbrev NX:=@List.countP_cons
abbrev NY:=@Nat.le_add_right
abbrev NZ:=@decide_eq_decide
abbrev Oa:=@List.getElem?_set_self
abbrev Ob:=@PySem.W.cellsFrom_some
abbrev Oc:=@PySem.F.slot_tuple_add
abbrev Og:=@PySem.F.args_list_ne_2
abbrev Oi:=@Nat.ne_of_gt
abbrev Oj:=@List.of_mem_zip
abbrev Ol:=@if_true
abbrev Oo:=@Nat.lt_trans
abbrev Oq:=@PySem.Heap.DictOf.new
abbrev Ot:=@PySem.F.type_dict_get
abbrev Ou:=@List.forIn_cons
abbrev Ov:=@List.nil_append
abbrev Ow:=@PySem.F.slot_tuple_eq
abbrev Ox:=@PySem.F.slot_tuple_ne
abbrev Oy:=@PySem.typeLookup_type
abbrev Oz:=@PySem.F.entry_list_ne
abbrev OB:=@Int.zero_add
abbrev OC:=@Nat.not_lt_zero
abbrev OD:=@PySem.wpAny_mono
abbrev OE:=@PySem.typeIs_str
abbrev OF:=@PySem.call_meets
abbrev OG:=@List.getElem?_set_ne
abbrev OJ:=@PySem.F.slot_list_eq
abbrev OM:=@Bool.and_eq_true_iff
abbrev ON:=@Nat.mul_le_mul_right
abbrev OO:=@List.replicate_succ'
abbrev OP:=@PySem.Heap.size_push
abbrev OQ:=@List.tail_drop
abbrev OR:=@PySem.sizeLine_eq
abbrev OX:=@List.getElem_of_mem
abbrev OZ:=@List.reverse_append
abbrev Pa:=@Array.toList_append
abbrev Pb:=@List.map_id
abbrev Pd:=@Array.append_assoc
abbrev Pe:=@PySem.wpAny_standAt
abbrev Pf:=@List.any_cons
abbrev Pg:=@Nat.lt_of_le_of_lt
abbrev Ph:=@List.getElem?_drop
abbrev Pm:=@PySem.strLen_append
abbrev Po:=@Array.forIn_toList
abbrev Pp:=@List.mem_replicate
abbrev Pq:=@Int.ofNat_inj
abbrev Pr:=@List.map_replicate
abbrev Pu:=@Int.toNat_natCast
abbrev Pz:=@PySem.W.kitx_dict
abbrev PH:=@List.any_eq_false
abbrev PN:=@Nat.lt_trichotomy
abbrev PX:=@PySem.wpAny_rule
abbrev Qc:=@List.ext_getElem?
abbrev Qd:=@List.getElem?_inj
abbrev Rb:=@Nat.add_mul
abbrev Sr:=@beq_iff_eq
abbrev SI:=@if_false
abbrev Te:=@or_false
abbrev VL:=@Iff.rfl
set_option Elab.async false
set_option linter.all false
set_option maxRecDepth 100000
namespace L2
open PySem PySem.Spec PyProof.Rows
abbrev j0:=Sum Int Str
def eK:j0->Value->Bool
 | .inl k,v=>Value.isInt k v
 | .inr x,v=>Value.isStrOf x v
def GS (w:World):j0->Int
 | .inl k=>hashInt k
 | .inr x=>hashStr w x
theorem D6:∀{k:j0} {v:Value},eK k v=true->(∃i t,k=Sum.inl i/\v=Value.int i t)\/(∃x t,k=Sum.inr x/\v=Value.str x t)
 | .inl i,v,h=>by
  obtain⟨t,e⟩:=Value.isInt_shape (k:=i) (v:=v) h;exact .inl ⟨i,t,rfl,e⟩
 | .inr x,v,h=>by
  obtain⟨t,e⟩:=Value.isStrOf_shape (x:=x) (v:=v) h;exact .inr ⟨x,t,rfl,e⟩
theorem xb (i:Int)(t:Tok):eK (.inl i) (.int i t)=true:=by simp [eK,Value.isInt]
theorem vI (x:Str)(t:Tok):eK (.inr x) (.str x t)=true:=by simp [eK,Value.isStrOf]
theorem xY (a b:Int):decide ((Sum.inl a:j0)=Sum.inl b)=(a==b):=by grind
theorem zg (a b:Str):decide ((Sum.inr a:j0)=Sum.inr b)=decide (a=b):=by grind
theorem zB (a:Int)(b:Str):decide ((Sum.inl a:j0)=Sum.inr b)=false:=Kf (λq=>nomatch q)
theorem yJ (a:Str)(b:Int):decide ((Sum.inr a:j0)=Sum.inl b)=false:=Kf (λq=>nomatch q)
def p4 (prog:Program)(w:World):PySem.KeyKind prog w j0 where
 is:=eK
 hash:=GS w
 inj:=λv a b ha hb=>by
  rcases D6 ha with⟨i,t,rfl,rfl⟩|⟨x,t,rfl,rfl⟩
  .rcases D6 hb with⟨j,u,rfl,e⟩|⟨y,u,rfl,e⟩
   .injection e with e1 _;rw[e1]
   .exact nomatch e
  .rcases D6 hb with⟨j,u,rfl,e⟩|⟨y,u,rfl,e⟩
   .exact nomatch e
   .injection e with e1 _;rw[e1]
 byValue:=λk v h=>by
  rcases D6 h with⟨i,t,rfl,rfl⟩|⟨x,t,rfl,rfl⟩<;>rfl
 pyHash:=λhv h=>by
  rcases D6 hv with⟨i,t,rfl,rfl⟩|⟨x,t,rfl,rfl⟩
  .exact wpAny_pyHash_int h
  .exact wpAny_pyHash_str h
 eqBool:=λhu hv h=>by
  rcases D6 hu with⟨i,t,rfl,rfl⟩|⟨x,t,rfl,rfl⟩
  .rcases D6 hv with⟨j,u,rfl,rfl⟩|⟨y,u,rfl,rfl⟩
   .rw[xY] at h;exact wpAny_eqBool_int h
   .rw[zB] at h;exact Nw i t y u _ _ _ _ h
  .rcases D6 hv with⟨j,u,rfl,rfl⟩|⟨y,u,rfl,rfl⟩
   .rw[yJ] at h;exact Nx x t j u _ _ _ _ h
   .rw[zg] at h;exact wpAny_eqBool_str h
 «strs»:=λk x t v h=>by
  rcases D6 h with⟨i,u,rfl,e⟩|⟨y,u,rfl,e⟩
  .exact nomatch e
  .injection e with e1 _
   subst e1;cases v<;>rfl
theorem qZ (prog:Program)(w:World)(i:Int)(t:Tok):(p4 prog w).is (.inl i) (.int i t)=true:=xb i t
theorem rA (prog:Program)(w:World)(x:Str)(t:Tok):(p4 prog w).is (.inr x) (.str x t)=true:=vI x t
inductive V where
 |non|bl (b:Bool)|int (i:Int)|str (x:Str)|byt (b:Array UInt8)|flt (b:UInt64)|ref (a:Addr)|ty (n:String)
 deriving DecidableEq
def RelV:V->Value->Prop
 | .non,u=>u=Value.none
 | .bl b,u=>u=Value.bool b
 | .int i,u=>∃t,u=Value.int i t
 | .str x,u=>∃t,u=Value.str x t
 | .byt b,u=>∃t,u=Value.bytes b t
 | .flt b,u=>∃t,u=Value.float b t
 | .ref a,u=>u=Value.ref a
 | .ty n,u=>u=Value.type n
abbrev Vals:List V->List Value->Prop:=Paired RelV
theorem Vals.length {xs:List V}{us:List Value}(r:Vals xs us):xs.length=us.length:=Kr r
theorem Vals.get:∀{xs:List V} {us:List Value} {i:Nat} {x:V},Vals xs us->xs[i]?=some x->∃u,us[i]?=some u/\RelV x u
 |_,_,_,_,.nil,e=>by simp at e
 |_,_,0,_,.cons r _,e=>by simp at e;subst e;exact⟨_,rfl,r⟩
 |_,_,i+1,x,.cons _ t,e=>by
  obtain⟨u,h1,h2⟩:=Vals.get (i:=i) (x:=x) t (by simpa using e);exact⟨u,by simpa using h1,h2⟩
theorem Vals.set {x:V}{u:Value}(r:RelV x u):∀{xs:List V} {us:List Value} (i:Nat),Vals xs us->Vals (xs.set i x) (us.set i u)
 |_,_,_,.nil=> .nil
 |_,_,0,.cons _ t=> .cons r t
 |_,_,i+1,.cons q t=> .cons q (Vals.set r i t)
theorem Vals.append:∀{xs ys:List V} {us ws:List Value},Vals xs us->Vals ys ws->Vals (xs++ys) (us++ws)
 |_,_,_,_,.nil,s=>s
 |_,_,_,_,.cons r t,s=> .cons r (Vals.append t s)
theorem Vals.take:∀{xs:List V} {us:List Value} (n:Nat),Vals xs us->Vals (xs.take n) (us.take n)
 |_,_,0,_=> .nil
 |_,_,_+1,.nil=> .nil
 |_,_,n+1,.cons r t=> .cons r (Vals.take n t)
theorem Vals.drop:∀{xs:List V} {us:List Value} (n:Nat),Vals xs us->Vals (xs.drop n) (us.drop n)
 |_,_,0,r=>r
 |_,_,_+1,.nil=> .nil
 |_,_,n+1,.cons _ t=>Vals.drop n t
def RelO:Option V->Option Value->Prop
 |some v,some u=>RelV v u
 |none,none=>True
 |_,_=>False
def KV {κ:Type}:List (κ×V)->List (κ×Value)->Prop:=Paired fun(p:κ×V) (q:κ×Value)=>p.1=q.1/\RelV p.2 q.2
def kV:j0->V
 | .inl i=> .int i
 | .inr x=> .str x
inductive HO where
 |lst (xs:List V)
 |tup (xs:List V)
 |dK (kvs:List (j0×V))|dT (kvs:List (List j0×V))
 |set (S:Int->Bool) (n:Nat)
 |ins (C dx:Addr) (fs:List (Str×V))
 |own (x:Addr)
 |xd (fs:List (Str×V))
 |met (f x:Addr)
 |rng (lo hi:Int)
 |frz (o:Obj) (u:HO)
 |tbl (ps:Array Value)
 |ext (φ:Heap->Prop)
abbrev Hp:=Addr->Option HO
def p5 (H:Hp)(a:Addr)(o:HO):Hp:=λb=>if b=a then some o else H b
theorem d0 {H:Hp}{a:Addr}{o:HO}:p5 H a o a=some o:=by unfold p5;rw[if_pos rfl]
theorem d6 {H:Hp}{a b:Addr}{o:HO}(h:b≠a):p5 H a o b=H b:=by unfold p5;rw[if_neg h]
theorem BM {H:Hp}{a b:Addr}{o u:HO}(h:H a=some o)(h':H b=some u)(d:o≠u):a≠b:=by
 intro e;subst e;rw[h] at h';exact d (JU h')
theorem b5 {H:Hp}{a b:Addr}{o:HO}(h:H a=some o)(h':H b=none):a≠b:=by
 intro e;subst e;rw[h] at h';cases h'
section
variable (P:Program) (w:World)
def ObjOk (H:Hp)(h:Heap)(a:Addr):HO->Prop
 | .lst xs=>xs.length<=sizeLine/\∃(a_:List Value) (n:Nat),Vals xs a_/\h.get? a=some {cls:= .type "list",data:= .seq a_.toArray n}
 | .tup xs=>xs.length<=sizeLine/\∃a_:List Value,Vals xs a_/\IsTup h a a_.toArray
 | .dK kvs=>kvs.length<=sizeLine/\(a==sysModules)=false/\∃vs,KV kvs vs/\h.DictOf (p4 P w) a vs
 | .dT kvs=>kvs.length<=sizeLine/\(a==sysModules)=false/\∃xs:List (List j0×Addr×Value),
   Paired (fun(p:List j0×V) (q:List j0×Addr×Value)=>p.1=q.1/\H q.2.1=some (.tup (p.1.map kV))/\RelV p.2 q.2.2) kvs xs/\
   ∃o es ep,h.get? a=some o/\o.ExactDict/\o.data= .dict es ep/\es.toList=xs.map (entryOfKey (tupleKind (p4 P w)))/\(xs.map (·.1)).Nodup
 | .set S n=>h.SetOf (intKind P w) a S n
 | .ins C dx fs=>H dx=some (.own a)/\fs.length<=1000/\dx≠a/\h.get? a=some (PySem.W.instObj C dx)/\
   ∃mA,h.Ns1 dx mA/\(∀f,RelO (fs.lookup f) (mA f))/\PySem.Within mA (fs.map (·.1))
 | .own _=>∃o,h.get? a=some o
 | .xd fs=>∃mA,h.Ns1 a mA/\∀f,RelO (fs.lookup f) (mA f)
 | .rng lo hi=>∃t u v,h.get? a=some {cls:= .type "range",data:= .fields #[.int lo t,.int hi u,.int 1 v]}
 | .frz o u=>h.get? a=some o/\ObjOk H h a u
 | .tbl ps=>h.get? a=some {cls:= .none,data:= .fields ps}
 | .met f x=>h.get? a=some (PySem.W.methodObj (.ref f) (.ref x))
 | .ext φ=>φ h/\(∃o,h.get? a=some o)/\∀h1 h2:Heap,φ h1->(∀o,h1.get? a=some o->h2.get? a=some o)->φ h2
def HOk (H:Hp)(h:Heap):Prop:=∀a o,H a=some o->ObjOk P w H h a o
end
section
variable {P:Program} {w:World} {H H':Hp} {h h':Heap} {a:Addr} {o:HO}
theorem ObjOk.lt (x:ObjOk P w H h a o):a<h.objs.size:=by
 cases o with
 |lst xs=>obtain⟨_,_,_,_,e⟩:=x;exact JR e
 |tup xs=>obtain⟨_,_,_,p⟩:=x;exact p.lt
 |dK kvs=>obtain⟨_,_,_,_,o,_,_,e,_⟩:=x;exact JR e
 |dT kvs=>obtain⟨_,_,_,_,o,_,_,e,_⟩:=x;exact JR e
 |set S n=>obtain⟨o,_,_,_,e,_⟩:=x;exact JR e
 |ins C dx fs=>obtain⟨_,_,_,e,_⟩:=x;exact JR e
 |own y=>obtain⟨_,e⟩:=x;exact JR e
 |xd fs=>obtain⟨_,⟨_,_,_,e,_⟩,_⟩:=x;exact JR e
 |rng lo hi=>obtain⟨_,_,_,e⟩:=x;exact JR e
 |frz ob u=>obtain⟨e,_⟩:=x;exact JR e
 |tbl ps=>exact JR (show h.get? a=some _ from x)
 |met f y=>exact JR (show h.get? a=some _ from x)
 |ext φ=>obtain⟨_,⟨_,e⟩,_⟩:=x;exact JR e
theorem Paired.mapP {α β:Type}{F G:α->β->Prop}:∀{l₁:List α} {l₂:List β},Paired F l₁ l₂->(∀a b,F a b->G a b)->Paired G l₁ l₂
 |_,_,.nil,_=> .nil
 |_,_,.cons r t,f=> .cons (f _ _ r) (Paired.mapP t f)
theorem Paired.imp' {α β:Type}{F G:α->β->Prop}(f:∀a b,F a b->G a b){l₁:List α}{l₂:List β}(r:Paired F l₁ l₂):Paired G l₁ l₂:=Paired.mapP r f
theorem ObjOk.stay (x:ObjOk P w H h a o)(k:∀b u,(b=a\/H b=some (.own a))->h.get? b=some u->h'.get? b=some u)
  (ho:∀b,H b=some (.own a)->H' b=some (.own a)) (ht:∀b xs,H b=some (.tup xs)->H' b=some (.tup xs)):ObjOk P w H' h' a o:=by
 induction o with
 |lst xs=>obtain⟨z,a_,n,r,e⟩:=x;exact⟨z,a_,n,r,k _ _ (.inl rfl) e⟩
 |tup xs=>obtain⟨z,a_,r,ob,e,c⟩:=x;exact⟨z,a_,r,ob,k _ _ (.inl rfl) e,c⟩
 |dK kvs=>obtain⟨z,y,vs,r,ob,es,ep,e,c⟩:=x;exact⟨z,y,vs,r,ob,es,ep,k _ _ (.inl rfl) e,c⟩
 |dT kvs=>
  obtain⟨z,y,xs,r,ob,es,ep,e,c⟩:=x
  exact⟨z,y,xs,Paired.mapP r λp q z=>⟨z.1,ht _ _ z.2.1,z.2.2⟩,ob,es,ep,k _ _ (.inl rfl) e,c⟩
 |set S n=>obtain⟨ob,es,ep,t,e,c⟩:=x;exact⟨ob,es,ep,t,k _ _ (.inl rfl) e,c⟩
 |ins C dx fs=>
  obtain⟨d,z,ne,e,mA,⟨od,es,ep,e2,c⟩,r⟩:=x
  exact⟨ho _ d,z,ne,k _ _ (.inl rfl) e,mA,⟨od,es,ep,k _ _ (.inr d) e2,c⟩,r⟩
 |own y=>obtain⟨ob,e⟩:=x;exact⟨ob,k _ _ (.inl rfl) e⟩
 |xd fs=>obtain⟨mA,⟨od,es,ep,e,c⟩,r⟩:=x;exact⟨mA,⟨od,es,ep,k _ _ (.inl rfl) e,c⟩,r⟩
 |rng lo hi=>obtain⟨t,u,v,e⟩:=x;exact⟨t,u,v,k _ _ (.inl rfl) e⟩
 |frz ob u ih=>obtain⟨e,q⟩:=x;exact⟨k _ _ (.inl rfl) e,ih q⟩
 |tbl ps=>
  have e:h.get? a=some {cls:= .none,data:= .fields ps}:=x
  show h'.get? a=some {cls:= .none,data:= .fields ps}
  exact k a _ (.inl rfl) e
 |met f y=>
  have e:h.get? a=some (PySem.W.methodObj (.ref f) (.ref y)):=x
  show h'.get? a=some (PySem.W.methodObj (.ref f) (.ref y))
  exact k a _ (.inl rfl) e
 |ext φ=>obtain⟨p,⟨o,e⟩,st⟩:=x;exact⟨st _ _ p λo q=>k _ _ (.inl rfl) q,⟨o,k _ _ (.inl rfl) e⟩,st⟩
theorem HOk.lt (x:HOk P w H h)(e:H a=some o):a<h.objs.size:=(x a o e).lt
theorem HOk.fresh (x:HOk P w H h)(e:h.objs.size<=a):H a=none:=by
 cases q:H a with
 |none=>rfl
 |some u=>exact absurd (JS (x.lt q) e) (Li _)
theorem HOk.kept (x:HOk P w H h)(k:∀b u,h.get? b=some u->h'.get? b=some u):HOk P w H h':=λa o e=>
 (x a o e).stay (λb u _ q=>k b u q) (λ_ q=>q) λ_ _ q=>q
theorem HOk.laid (x:HOk P w H h)(k:∀b u,h.get? b=some u->h'.get? b=some u)(hp:h.objs.size<=a)(new:ObjOk P w (p5 H a o) h' a o):HOk P w (p5 H a o) h':=λb u e=>by
 have hn:=x.fresh hp;by_cases hb:b=a
 .subst hb;rw[d0] at e;cases e;exact new
 .rw[d6 hb] at e;exact(x b u e).stay (λc v _ q=>k c v q) (λc q=>by rw[d6 (b5 q hn)];exact q) λc xs q=>by rw[d6 (b5 q hn)];exact q
end
def Rd (H:Hp)(a:Addr)(u:HO):Prop:=H a=some u\/∃o,H a=some (.frz o u)
theorem Rd.ok {P:Program}{w:World}{H:Hp}{h:Heap}{a:Addr}{u:HO}(r:Rd H a u)(x:HOk P w H h):ObjOk P w H h a u:=by
 rcases r with r|⟨o,r⟩
 .exact x a u r
 .obtain⟨_,q⟩:=x a _ r;exact q
def Fu:Option HO->Prop
 |some (.lst _)=>True
 |some (.dK _)=>True
 |some (.dT _)=>True
 |some (.set _ _)=>True
 |some (.ins _ _ _)=>True
 |some (.ext _)=>True
 |_=>False
section
variable {P:Program} {w:World} {H:Hp} {h h':Heap} {x e:Addr} {o':HO}
theorem HOk.write (ok:HOk P w H h)(mu:Fu (H x))(he:e=x\/H e=some (.own x))(k:∀b u,b≠e->h.get? b=some u->h'.get? b=some u)(SH:∃u,h'.get? e=some u)
  (new:ObjOk P w (p5 H x o') h' x o'):HOk P w (p5 H x o') h':=λb u q=>by
 have UY:∀c y,H c=some (.own y)->c≠x:=λc y r z=>by subst z;rw[r] at mu;exact mu
 have XA:∀c xs,H c=some (.tup xs)->c≠x:=λc xs r z=>by subst z;rw[r] at mu;exact mu
 by_cases hb:b=x
 .subst hb;rw[d0] at q;cases q;exact new
 .rw[d6 hb] at q
  by_cases hbe:b=e
  .have q':H b=some (.own x):=by
    rcases he with z|z
    .exact absurd (hbe.trans z) hb
    .rw[hbe];exact z
   rw[q] at q';cases q'
   obtain⟨v,hv⟩:=SH
   exact⟨v,by rw[hbe];exact hv⟩
  .refine(ok b u q).stay (λc v hc r=>k c v ?_ r) (λc r=>by rw[d6 (UY c b r)];exact r) λc xs r=>by rw[d6 (XA c xs r)];exact r
   rcases hc with rfl|hc
   .exact hbe
   .rintro rfl
    rcases he with z|z
    .exact UY c b hc z
    .rw[hc] at z;cases z;exact hb rfl
end
structure Un (fs ex:List Addr) (H H':Hp) (h h':Heap):Prop where
 keep:∀b o,h.get? b=some o->H b=none->b∉fs->b∉ex->h'.get? b=some o
 slot:∀b o,h.get? b=some o->H b=none->b∈fs->b∉ex->∃sl,h'.get? b=some {o with slots:=sl}
 free:∀b o,h.get? b=some o->H b=none->b∉ex->H' b=none
 there:∀b o,h.get? b=some o->b∉ex->∃o',h'.get? b=some o'
 tups:∀b xs,H b=some (.tup xs)->H' b=some (.tup xs)
 frzs:∀b o u,H b=some (.frz o u)->H' b=some (.frz o u)
 tbls:∀b ps,H b=some (.tbl ps)->∃more,H' b=some (.tbl (ps++more))
section
variable {fs fs' ex N':List Addr} {H H1 H2:Hp} {h h1 h2 h':Heap} {a x e:Addr} {o:HO}
theorem Un.any (u:Un fs ex H H1 h h1){b:Addr}{ob:Obj}(q:h.get? b=some ob)(n:H b=none)(hx:b∉ex):∃sl,h1.get? b=some {ob with slots:=sl}:=by
 by_cases hb:b∈fs
 .exact u.slot b ob q n hb hx
 .exact⟨ob.slots,u.keep b ob q n hb hx⟩
theorem Un.kept (k:∀b u,h.get? b=some u->h'.get? b=some u):Un fs ex H H h h':=
 ⟨λb ob q _ _ _=>k b ob q,λb ob q _ _ _=>⟨ob.slots,k b ob q⟩,λ_ _ _ n _=>n,λb ob q _=>⟨ob,k b ob q⟩,λ_ _ q=>q,λ_ _ _ q=>q,λ_ ps q=>⟨#[],by rw[q];simp⟩⟩
theorem Un.refl:Un fs ex H H h h:=Un.kept λ_ _ q=>q
theorem Un.laid (k:∀b u,h.get? b=some u->h'.get? b=some u)(hp:h.objs.size<=a)(hn:H a=none):Un fs ex H (p5 H a o) h h' where
 keep:=λb u q _ _ _=>k b u q
 slot:=λb u q _ _ _=>⟨u.slots,k b u q⟩
 free:=λb u q n _=>by rw[d6 (JV (JS (JR q) hp))];exact n
 there:=λb u q _=>⟨u,k b u q⟩
 tups:=λb xs q=>by rw[d6 (b5 q hn)];exact q
 frzs:=λb u xs q=>by rw[d6 (b5 q hn)];exact q
 tbls:=λb ps q=>⟨#[],by rw[d6 (b5 q hn),q];simp⟩
theorem Un.write (mu:Fu (H x))(he:e=x\/H e=some (.own x))(k:∀b u,b≠e->h.get? b=some u->h'.get? b=some u)(SH:∃u,h'.get? e=some u):Un fs ex H (p5 H x o) h h':=by
 have hx:∀b,H b=none->b≠x:=λb n z=>by subst z;rw[n] at mu;exact mu
 have hb:∀b,H b=none->b≠e:=λb n z=>by
  subst z;rcases he with r|r
  .exact hx b n r
  .rw[n] at r;cases r
 have hm:∀b u,H b=some u->¬Fu (some u)->b≠x:=λb u q nm z=>by subst z;rw[q] at mu;exact nm mu
 refine⟨λb u q n _ _=>k b u (hb b n) q,λb u q n _ _=>⟨u.slots,k b u (hb b n) q⟩,λb u q n _=>by rw[d6 (hx b n)];exact n,λb u q _=>?_,
  λb xs q=>by rw[d6 (hm b _ q λz=>z)];exact q,λb u xs q=>by rw[d6 (hm b _ q λz=>z)];exact q,λb ps q=>⟨#[],by rw[d6 (hm b _ q λz=>z),q];simp⟩⟩
 by_cases hbe:b=e
 .subst hbe;exact SH
 .exact⟨u,k b u hbe q⟩
end
def HC (h:Heap)(H:Hp):List Addr:=(List.range h.objs.size).filter λa=>(H a).isSome
def oH (h:Heap)(H:Hp):Heap:=PySem.W.hideAll h (HC h H)
theorem xc (h:Heap)(H:Hp):(oH h H).objs.size=h.objs.size:=PySem.W.hideAll_size _ _
theorem zA {h:Heap}{H:Hp}{b:Addr}{o:Obj}(e:h.get? b=some o)(n:H b=none):(oH h H).get? b=some o:=
 MF _ e λhm=>by
  have q:(H b).isSome=true:=(JH.mp hm).2;rw[n] at q;simp at q
theorem Bz {h:Heap}{H:Hp}{b:Addr}{o:Obj}(e:(oH h H).get? b=some o):h.get? b=some o/\H b=none:=by
 have e':h.get? b=some o:=Ny (HC h H) e;refine⟨e',?_⟩;cases q:H b with
 |none=>rfl
 |some x=>
  have hm:b∈HC h H:=JH.mpr ⟨LH.mpr (JR e'),by simp [q]⟩
  have z:(oH h H).get? b=none:=PySem.W.hideAll_none (HC h H) hm
  rw[z] at e;cases e
def AY (g h:Heap)(L:Addr):List (Addr×Obj):=(List.range h.objs.size).filterMap λa=>if a=L\/(g.get? a).isSome=true then none else(h.get? a).map λo=>(a,o)
def aw (g h:Heap)(L d:Addr):List (Addr×Obj):=(AY g h L).filter λp=>decide (p.1≠d)
structure Mod (K:Qe) (mg:Str->Option Value) (base:Heap):Prop where
 kin:K.In base
 glob:base.Ns mainGlobals mg
 blt:∃mb,base.Ns builtinsNs mb/\∀x:Str,x≠"__name__"->mb x=bootBuiltins x
 nolimit:base.NoLimit
structure Cx where
 prog:Program
 w:World
 K:Qe
 mg:Str->Option Value
 base:Heap
 A:Around
 N:List Str
 s₀:Shared
 H₀:Hp
 env:Env
 outer:List Env
 stack:List Env
 ex:List Addr
 fn:Str->Bool
 calm:Bool
 pn:List (Addr×Obj)
 xe:Value->Shared->Prop
def ck (l:List Env):List Addr:=l.filterMap (·.frame)
abbrev Cx.fs (X:Cx):List Addr:=ck X.outer
def Ih (sc:Scope)(x:Str):Prop:=sc.names.lookup x=some .local\/sc.names.lookup x=some .cell\/sc.names.lookup x=some .free
def Cm (sc:Scope)(x:Str):Prop:=sc.names.lookup x=some .local\/sc.names.lookup x=some .cell
def Ie (env:Env)(h:Heap)(m:Str->Option Value)(x:Str)(u:Value):Prop:=
 (env.kindOf x=some .local/\m x=some u)\/((env.kindOf x=some .cell\/env.kindOf x=some .free)/\∃c,env.cells.lookup x=some c/\h.IsCell c (some u))
structure Cx.Ok (X:Cx):Prop where
 mod:Mod X.K X.mg X.base
 kind:X.env.scope.kind= .function
 glob:X.env.globals=mainGlobals
 blt:X.env.builtins=builtinsNs
 above:X.s₀.heap.objs.size<=X.env.locals
 inj:∀x y c,X.env.cells.lookup x=some c->X.env.cells.lookup y=some c->x=y
 has:∀x,(X.env.kindOf x=some .cell\/X.env.kindOf x=some .free)->∃c,X.env.cells.lookup x=some c
 cab:∀x c,X.fn x=true->X.env.cells.lookup x=some c->X.s₀.heap.objs.size<=c
 hd:X.calm=true->X.A.handled=none
 frames:X.A.frames=some X.stack
 stk:X.stack=X.outer\/(X.stack=X.env::X.outer/\X.env.frame=some X.env.locals)
 exf:∀b∈X.ex,b≠X.env.locals/\∀x c,X.env.cells.lookup x=some c->c≠b
 bs:∀b o,X.base.get? b=some o->X.s₀.heap.get? b=some o/\X.H₀ b=none
 bsz:X.base.objs.size<=X.s₀.heap.objs.size
 noex:∀b o,X.base.get? b=some o->b∉X.ex
 exfs:∀b∈X.ex,b∉X.fs
 funs:X.s₀.heap.FunFrames X.base X.outer
 frf:∀b∈X.fs,X.H₀ b=none
structure Inv (X:Cx) (pins:List (Addr×Obj)) (σ:List (Option V)) (H:Hp) (s:Shared):Prop where
 ok:X.Ok
 os:s.os=X.s₀.os
 bare:AllBare s.gens
 base:Un X.fs X.ex X.H₀ H X.s₀.heap s.heap
 loc:∃m,s.heap.Ns X.env.locals m/\∀(i:Nat) (x:Str) (v:V),X.N[i]?=some x->σ[i]?=some (some v)->Ih X.env.scope x->∃u,RelV v u/\Ie X.env s.heap m x u
 cell:∀x c,X.env.cells.lookup x=some c->∃v,s.heap.IsCell c v
 free:H X.env.locals=none
 freeC:∀x c,X.env.cells.lookup x=some c->H c=none
 pin:∀p∈X.pn++pins,s.heap.get? p.1=some p.2/\H p.1=none/\p.1≠X.env.locals/\p.1∉X.fs/\∀v,p.2.data≠ .cell v
 hok:HOk X.prog X.w H s.heap
 len:σ.length=X.N.length
section
variable {X:Cx} {pins:List (Addr×Obj)} {σ:List (Option V)} {H H':Hp} {s:Shared} {h':Heap}
theorem Cx.Ok.nofr (ok:X.Ok){b:Addr}{o:Obj}(e:X.base.get? b=some o):b∉X.fs:=λhb=>by
 have:=(ok.funs.mem hb).1;rw[e] at this;cases this
theorem Inv.bs (I:Inv X pins σ H s):∀b o,X.base.get? b=some o->s.heap.get? b=some o/\H b=none:=λb o e=>
 ⟨I.base.keep b o (I.ok.bs b o e).1 (I.ok.bs b o e).2 (I.ok.nofr e) (I.ok.noex b o e),I.base.free b o (I.ok.bs b o e).1 (I.ok.bs b o e).2 (I.ok.noex b o e)⟩
theorem Inv.bk (I:Inv X pins σ H s):∀b o,X.base.get? b=some o->s.heap.get? b=some o:=λb o e=>(I.bs b o e).1
theorem Inv.mod (I:Inv X pins σ H s):Mod X.K X.mg X.base:=I.ok.mod
theorem Inv.kIn (I:Inv X pins σ H s):X.K.In s.heap:=I.ok.mod.kin.keeps I.bk
theorem Inv.lt (I:Inv X pins σ H s):X.env.locals<s.heap.objs.size:=let ⟨_,hn,_⟩:=I.loc;hn.lt
theorem Inv.sz (I:Inv X pins σ H s):X.s₀.heap.objs.size<=s.heap.objs.size:=Kg I.ok.above (Nc I.lt)
theorem Inv.nofs (I:Inv X pins σ H s){a:Addr}(h:s.heap.objs.size<=a):a∉X.fs:=λhb=>by
 obtain⟨_,o,ho,_⟩:=I.ok.funs.mem hb;exact absurd (JS (JR ho) (Kg I.sz h)) (Li _)
theorem Inv.cne (I:Inv X pins σ H s):∀x c,X.env.cells.lookup x=some c->c≠X.env.locals:=λx c e z=>by
 obtain⟨v,o,ho,hd⟩:=I.cell x c e;obtain⟨m,⟨o',es,ep,Sf,Tb,_⟩,_⟩:=I.loc;rw[z,Sf] at ho;cases ho;rw[Tb] at hd;cases hd
theorem Inv.funs (I:Inv X pins σ H s):s.heap.FunFrames X.base X.outer:=by
 have all:∀(l:List Env),(∀b∈ck l,b∈X.fs)->X.s₀.heap.FunFrames X.base l->s.heap.FunFrames X.base l:=by
  intro l;induction l with
  |nil=>intro _ _;trivial
  |cons env r ih=>
   intro hs hl
   obtain⟨hk,⟨L,o,hf,hn,ho,hd⟩,hr⟩:=hl
   have hL:L∈X.fs:=hs L (by unfold ck;rw[MG,hf];exact JT)
   obtain⟨sl,e⟩:=I.base.slot L o ho (I.ok.frf L hL) hL λz=>I.ok.exfs L z hL
   exact⟨hk,⟨L,_,hf,hn,e,hd⟩,ih (λb hb=>hs b (by unfold ck;rw[MG,hf];exact JZ _ hb)) hr⟩
 exact all X.outer (λ_ hb=>hb) I.ok.funs
theorem Inv.stack (I:Inv X pins σ H s):s.heap.FunFrames X.base X.stack:=by
 rcases I.ok.stk with e|⟨e,hf⟩
 .rw[e];exact I.funs
 .rw[e];obtain⟨m,hn,_⟩:=I.loc;refine .cons (by rw[I.ok.kind];decide) hf hn ?_ I.funs;exact Heap.get?_none_of_le (Kg I.ok.bsz I.ok.above)
theorem Inv.stkSub (I:Inv X pins σ H s):∀b∈ck X.stack,b∈X.env.locals::X.fs:=λb hb=>by
 rcases I.ok.stk with e|⟨e,hf⟩
 .rw[e] at hb;exact JZ _ hb
 .rw[e] at hb;unfold ck at hb;rw[MG,hf] at hb;exact hb
theorem Inv.stkFree (I:Inv X pins σ H s):∀b∈ck X.stack,H b=none:=λb hb=>by
 rcases Kl.mp (I.stkSub b hb) with e|hb
 .rw[e];exact I.free
 .obtain⟨_,o,ho,_⟩:=I.ok.funs.mem hb;exact I.base.free b o ho (I.ok.frf b hb) λz=>I.ok.exfs b z hb
theorem Inv.step {g':Array GenState}{t':Nat}{d':Drawn}{ch:List Addr}(I:Inv X pins σ H s)
  (RO:∀b∈ch,(b∈X.ex\/X.s₀.heap.objs.size<=b)/\b≠X.env.locals/\(∀x c,X.env.cells.lookup x=some c->c≠b)/\∀p∈X.pn++pins,p.1≠b)
  (keep:∀b o,b≠X.env.locals->b∉X.fs->b∉ch->s.heap.get? b=some o->H b=none->h'.get? b=some o)
  (slot:∀b o,b≠X.env.locals->b∈X.fs->b∉ch->s.heap.get? b=some o->H b=none->∃sl,h'.get? b=some {o with slots:=sl}) (free:∀b o,b∉ch->s.heap.get? b=some o->H b=none->H' b=none)
  (there:∀b o,b∉ch->s.heap.get? b=some o->∃o',h'.get? b=some o')
  (tups:∀b xs,H b=some (.tup xs)->H' b=some (.tup xs)) (frzs:∀b o u,H b=some (.frz o u)->H' b=some (.frz o u)) (tbls:∀b ps,H b=some (.tbl ps)->∃more,H' b=some (.tbl (ps++more)))
  (ns:∀m,s.heap.Ns X.env.locals m->h'.Ns X.env.locals m) (hok:HOk X.prog X.w H' h') (hg:AllBare g'):
  Inv X pins σ H' {s with heap:=h',gens:=g',drawn:=d',toks:=t'}:=by
 have neL:∀b o,X.s₀.heap.get? b=some o->b≠X.env.locals:=λb o e=>JV (JS (JR e) I.ok.above)
 have WK:∀b o,X.s₀.heap.get? b=some o->b∉X.ex->b∉ch:=λb o e hx hb=>by
  rcases(RO b hb).1 with z|z
  .exact hx z
  .exact absurd (JS (JR e) z) (Li _)
 have cellK:∀x c,X.env.cells.lookup x=some c->∀v,s.heap.IsCell c v->h'.IsCell c v:=λx c e v ⟨o,ho,hd⟩=>by
  have UZ:c∉ch:=λz=>(RO c z).2.2.1 x c e rfl;by_cases hc:c∈X.fs
  .obtain⟨sl,q⟩:=slot c o (I.cne x c e) hc UZ ho (I.freeC x c e);exact⟨_,q,hd⟩
  .exact⟨o,keep c o (I.cne x c e) hc UZ ho (I.freeC x c e),hd⟩
 refine⟨I.ok,I.os,hg,⟨λb o e n hb hx=>?_,λb o e n hb hx=>?_,λb o e n hx=>?_,λb o e hx=>?_,λb xs e=>tups b xs (I.base.tups b xs e),λb o xs e=>frzs b o xs (I.base.frzs b o xs e),λb ps e=>?_⟩,?_,λx c e=>?_,?_,λx c e=>?_,λp hp=>?_,hok,I.len⟩
 .exact keep b o (neL b o e) hb (WK b o e hx) (I.base.keep b o e n hb hx) (I.base.free b o e n hx)
 .obtain⟨sl,e1⟩:=I.base.slot b o e n hb hx
  obtain⟨sl',e2⟩:=slot b _ (neL b o e) hb (WK b o e hx) e1 (I.base.free b o e n hx)
  exact⟨sl',e2⟩
 .obtain⟨o',e1⟩:=I.base.there b o e hx
  exact free b o' (WK b o e hx) e1 (I.base.free b o e n hx)
 .obtain⟨o',e1⟩:=I.base.there b o e hx
  exact there b o' (WK b o e hx) e1
 .obtain⟨m1,e1⟩:=I.base.tbls b ps e
  obtain⟨m2,e2⟩:=tbls b _ e1
  exact⟨m1++m2,by rw[e2,Pd]⟩
 .obtain⟨m,hn,hl⟩:=I.loc
  refine⟨m,ns m hn,λi x v e1 e2 e3=>?_⟩
  obtain⟨u,r,l⟩:=hl i x v e1 e2 e3
  refine⟨u,r,?_⟩
  rcases l with l|⟨k,c,e,z⟩
  .exact .inl l
  .exact .inr ⟨k,c,e,cellK x c e _ z⟩
 .obtain⟨v,z⟩:=I.cell x c e
  exact⟨v,cellK x c e v z⟩
 .obtain⟨m,⟨o,_,_,ho,_⟩,_⟩:=I.loc
  exact free _ o (λz=>(RO _ z).2.1 rfl) ho I.free
 .obtain⟨v,o,ho,hd⟩:=I.cell x c e
  exact free c o (λz=>(RO c z).2.2.1 x c e rfl) ho (I.freeC x c e)
 .obtain⟨e,n,ne,nf,d⟩:=I.pin p hp
  have UZ:p.1∉ch:=λz=>(RO p.1 z).2.2.2 p hp rfl
  exact⟨keep p.1 p.2 ne nf UZ e n,free p.1 p.2 UZ e n,ne,nf,d⟩
theorem Inv.un {t':Nat}(I:Inv X pins σ H s)(u:Un X.fs [] H H' s.heap h')(hok:HOk X.prog X.w H' h'):Inv X pins σ H' {s with heap:=h',toks:=t'}:=by
 obtain⟨m,⟨o,es,ep,ho,r⟩,_⟩:=id I.loc;obtain⟨sl,hL⟩:=u.any ho I.free (by simp);exact I.step (g':=s.gens) (d':=s.drawn) (ch:=[]) (λ_ z=>nomatch z) (λb o _ hb _ e n=>u.keep b o e n hb (by simp)) (λb o _ hb _ e n=>u.slot b o e n hb (by simp)) (λb o _ e n=>u.free b o e n (by simp)) (λb o _ e=>u.there b o e (by simp)) u.tups u.frzs u.tbls (λm' hm=>by
  obtain⟨o',Tc,U',Sf,r'⟩:=hm;rw[ho] at Sf;cases Sf;exact⟨_,Tc,U',hL,r'⟩) hok I.bare
theorem Inv.call {g':Array GenState}{t':Nat}{d':Drawn}{ch:List Addr}(I:Inv X pins σ H s)(u:Un (ck X.stack) ch H H' s.heap h')(hok:HOk X.prog X.w H' h')(hg:AllBare g')
  (RO:∀b∈ch,(b∈X.ex\/X.s₀.heap.objs.size<=b)/\b≠X.env.locals/\(∀x c,X.env.cells.lookup x=some c->c≠b)/\∀p∈X.pn++pins,p.1≠b):
  Inv X pins σ H' {s with heap:=h',gens:=g',drawn:=d',toks:=t'}:=by
 obtain⟨m,⟨o,es,ep,ho,r⟩,_⟩:=id I.loc
 obtain⟨sl,hL⟩:=u.any ho I.free λz=>(RO _ z).2.1 rfl
 exact I.step (ch:=ch) RO (λb o hL hb hc e n=>u.keep b o e n (λz=>(Kl.mp (I.stkSub b z)).elim hL hb) hc) (λb o _ _ hc e n=>u.any e n hc) (λb o hc e n=>u.free b o e n hc) (λb o hc e=>u.there b o e hc) u.tups u.frzs u.tbls (λm' hm=>by
  obtain⟨o',Tc,U',Sf,r'⟩:=hm;rw[ho] at Sf;cases Sf;exact⟨_,Tc,U',hL,r'⟩) hok hg
theorem Inv.turned {t':Nat}{it:Addr}(I:Inv X pins σ H s)(k:∀b o,b≠it->s.heap.get? b=some o->h'.get? b=some o)(hn:H it=none)(hL:it≠X.env.locals)
  (h1:it∈X.ex\/X.s₀.heap.objs.size<=it) (h2:∀x c,X.env.cells.lookup x=some c->c≠it) (h3:∀p∈X.pn++pins,p.1≠it):Inv X pins σ H {s with heap:=h',toks:=t'}:=by
 have nit:∀b u,H b=some u->b≠it:=λb u e z=>by rw[z,hn] at e;cases e
 refine I.step (g':=s.gens) (d':=s.drawn) (ch:=[it]) (λb hb=>?_) (λb o _ _ hc e _=>k b o (λz=>hc (by simp [z])) e) (λb o _ _ hc e _=>⟨o.slots,k b o (λz=>hc (by simp [z])) e⟩) (λ_ _ _ _ n=>n)
  (λb o hc e=>⟨o,k b o (λz=>hc (by simp [z])) e⟩) (λ_ _ e=>e) (λ_ _ _ e=>e) (λb ps e=>⟨#[],by rw[e];simp⟩) (λm hm=>?_) (λb u e=>?_) I.bare
 .have e:b=it:=by simpa using hb
  subst e
  exact⟨h1,hL,h2,h3⟩
 .obtain⟨o,es,ep,ho,r⟩:=hm
  exact⟨o,es,ep,k _ o (Lw hL) ho,r⟩
 .refine(I.hok b u e).stay (λc v hc q=>k c v ?_ q) (λ_ q=>q) λ_ _ q=>q
  rcases hc with z|z
  .rw[z];exact nit b u e
  .exact nit c _ z
theorem Inv.tok (I:Inv X pins σ H s)(t:Nat):Inv X pins σ H {s with toks:=t}:=I.un (h':=s.heap) (t':=t) Un.refl I.hok
theorem Inv.kept {t':Nat}(I:Inv X pins σ H s)(k:∀b u,s.heap.get? b=some u->h'.get? b=some u):Inv X pins σ H {s with heap:=h',toks:=t'}:=I.un (Un.kept k) (I.hok.kept k)
theorem Inv.laid {a:Addr}{o:HO}{t':Nat}(I:Inv X pins σ H s)(k:∀b u,s.heap.get? b=some u->h'.get? b=some u)(hp:s.heap.objs.size<=a)(new:ObjOk X.prog X.w (p5 H a o) h' a o):
  Inv X pins σ (p5 H a o) {s with heap:=h',toks:=t'}:=I.un (Un.laid k hp (I.hok.fresh hp)) (I.hok.laid k hp new)
theorem Inv.write {x e:Addr}{o:HO}{t':Nat}(I:Inv X pins σ H s)(mu:Fu (H x))(he:e=x\/H e=some (.own x))(k:∀b u,b≠e->s.heap.get? b=some u->h'.get? b=some u)(SH:∃u,h'.get? e=some u)
  (new:ObjOk X.prog X.w (p5 H x o) h' x o):Inv X pins σ (p5 H x o) {s with heap:=h',toks:=t'}:=I.un (Un.write mu he k SH) (I.hok.write mu he k SH new)
theorem Inv.weak {σ':List (Option V)}(I:Inv X pins σ H s)(hl:σ'.length=σ.length)(w:∀(i:Nat) v,σ'[i]?=some (some v)->σ[i]?=some (some v)):Inv X pins σ' H s:=
 ⟨I.ok,I.os,I.bare,I.base,let ⟨m,hn,Sg⟩:=I.loc;⟨m,hn,λi x v e1 e2 e3=>Sg i x v e1 (w i v e2) e3⟩,I.cell,I.free,I.freeC,I.pin,I.hok,hl.trans I.len⟩
theorem Inv.pins_of {Rh:List (Addr×Obj)}(I:Inv X pins σ H s)(h:∀p∈Rh,s.heap.get? p.1=some p.2/\H p.1=none/\p.1≠X.env.locals/\p.1∉X.fs/\∀v,p.2.data≠ .cell v):Inv X Rh σ H s:=
 ⟨I.ok,I.os,I.bare,I.base,I.loc,I.cell,I.free,I.freeC,λp hp=>(JD.mp hp).elim (λz=>I.pin p (JB _ z)) (h p),I.hok,I.len⟩
theorem qa {N:List Str}(hN:N.Nodup){i j:Nat}{x:Str}(a:N[i]?=some x)(b:N[j]?=some x):i=j:=by
 obtain⟨h1,e1⟩:=Lg.mp a;obtain⟨h2,e2⟩:=Lg.mp b;exact(List.getElem_inj hN).mp (e1.trans e2.symm)
theorem nM {M:Model}{A:Around}{E:Value->Shared->Prop}{i:Nat}{x:Str}{v:V}{u:Value}{Q:Unit->Shared->Prop}(I:Inv X pins σ H s)(hN:X.N.Nodup)(hi:X.N[i]?=some x)(hx:Cm X.env.scope x)(r:RelV v u)
  (h:∀s',Inv X pins (σ.set i (some v)) H s'->(∃a,Heap.SameBut a s.heap s'.heap/\(a=X.env.locals\/X.env.cells.lookup x=some a))->Q () s') (hf:X.fn x=true\/X.env.scope.names.lookup x=some .local:=by first|exact .inl rfl|exact .inr rfl|assumption):wpAny M A (storeName X.env x u) Q E s:=by
 obtain⟨m,hn,hl⟩:=id I.loc
 have XC:(X.env.scope.kind== .class||(X.env.scope.kind== .module&&X.env.locals !=X.env.globals))=false:=by rw[I.ok.kind];rfl
 have hiσ:i<σ.length:=by rw[I.len];exact(Lg.mp hi).1
 have cne:=I.cne
 have tracked:∀{a:Addr} {h':Heap},(∃o,s.heap.get? a=some o/\H a=none)->Heap.SameBut a s.heap h'->HOk X.prog X.w H h':=fun{a h'} ha hs b ob e=>by
  obtain⟨_,_,SJ⟩:=ha;refine(I.hok b ob e).stay (λc w' hc q=>(hs.2 c ?_).trans q) (λ_ q=>q) λ_ _ q=>q;rintro rfl;rcases hc with rfl|hc
  .rw[SJ] at e;cases e
  .rw[SJ] at hc;cases hc
 rcases hx with hk|hk
 .refine wpAny_storeName_local hk hn (λh' Sh hs=>?_) XC
  obtain⟨oL,_,_,hoL,_⟩:=id hn
  refine h _ ⟨I.ok,I.os,I.bare,⟨λb o e n hb hx=>?_,λb o e n hb hx=>?_,I.base.free,λb o e hx=>?_,I.base.tups,I.base.frzs,I.base.tbls⟩,⟨_,Sh,λj y v' e1 e2 e3=>?_⟩,λy c e=>?_,I.free,I.freeC,λp hp=>?_,tracked ⟨oL,hoL,I.free⟩ hs,by simpa using I.len⟩ ⟨_,hs,.inl rfl⟩
  .exact(hs.2 b (JV (JS (JR e) I.ok.above))).trans (I.base.keep b o e n hb hx)
  .obtain⟨sl,e1⟩:=I.base.slot b o e n hb hx
   exact⟨sl,(hs.2 b (JV (JS (JR e) I.ok.above))).trans e1⟩
  .obtain⟨o',e1⟩:=I.base.there b o e hx
   exact⟨o',(hs.2 b (JV (JS (JR e) I.ok.above))).trans e1⟩
  .by_cases hj:j=i
   .subst hj
    rw[hi] at e1;cases e1
    rw[Oa hiσ] at e2
    cases e2
    exact⟨u,r,.inl ⟨hk,by simp⟩⟩
   .rw[OG (Lw hj)] at e2
    obtain⟨u',r',q⟩:=hl j y v' e1 e2 e3
    refine⟨u',r',?_⟩
    rcases q with⟨k,e⟩|⟨k,c,e,z⟩
    .refine .inl ⟨k,?_⟩
     have:y≠x:=λe=>hj (qa hN e1 (e▸hi))
     simp [this,e]
    .exact .inr ⟨k,c,e,z.sameBut hs (cne y c e)⟩
  .obtain⟨w',z⟩:=I.cell y c e
   exact⟨w',z.sameBut hs (cne y c e)⟩
  .obtain⟨e,n,ne,nf,d⟩:=I.pin p hp
   exact⟨(hs.2 p.1 ne).trans e,n,ne,nf,d⟩
 .have XD:X.fn x=true:=by
   rcases hf with z|z
   .exact z
   .rw[z] at hk;cases hk
  obtain⟨c,hc⟩:=I.ok.has x (.inl hk)
  obtain⟨w',z⟩:=I.cell x c hc
  refine wpAny_storeName_cell I.ok.kind hk hc z (λh' Qt hs=>?_)
  obtain⟨oc,WL,Td⟩:=id z
  refine h {s with heap:=h'} ⟨I.ok,I.os,I.bare,⟨λb o e n hb hx=>?_,λb o e n hb hx=>?_,I.base.free,λb o e hx=>?_,I.base.tups,I.base.frzs,I.base.tbls⟩,⟨m,hn.sameBut hs (Lw (cne x c hc)),λj y v' e1 e2 e3=>?_⟩,λy c' e=>?_,I.free,I.freeC,λp hp=>?_,tracked ⟨oc,WL,I.freeC x c hc⟩ hs,by simpa using I.len⟩ ⟨c,hs,.inr hc⟩
  .exact(hs.2 b (JV (JS (JR e) (I.ok.cab x c XD hc)))).trans (I.base.keep b o e n hb hx)
  .obtain⟨sl,e1⟩:=I.base.slot b o e n hb hx
   exact⟨sl,(hs.2 b (JV (JS (JR e) (I.ok.cab x c XD hc)))).trans e1⟩
  .obtain⟨o',e1⟩:=I.base.there b o e hx
   exact⟨o',(hs.2 b (JV (JS (JR e) (I.ok.cab x c XD hc)))).trans e1⟩
  .by_cases hj:j=i
   .subst hj
    rw[hi] at e1;cases e1
    rw[Oa hiσ] at e2
    cases e2
    exact⟨u,r,.inr ⟨.inl hk,c,hc,Qt⟩⟩
   .rw[OG (Lw hj)] at e2
    obtain⟨u',r',q⟩:=hl j y v' e1 e2 e3
    refine⟨u',r',?_⟩
    rcases q with q|⟨k,c',e,z'⟩
    .exact .inl q
    .refine .inr ⟨k,c',e,z'.sameBut hs ?_⟩
     rintro rfl
     exact hj (qa hN e1 (I.ok.inj _ _ _ e hc▸hi))
  .by_cases hcc:c'=c
   .subst hcc;exact⟨_,Qt⟩
   .obtain⟨w2,z2⟩:=I.cell y c' e
    exact⟨w2,z2.sameBut hs hcc⟩
  .obtain⟨e,n,ne,nf,d⟩:=I.pin p hp
   refine⟨(hs.2 p.1 ?_).trans e,n,ne,nf,d⟩
   intro q
   rw[q,WL] at e
   have q':oc=p.2:=JU e
   exact d w' (by rw[←q'];exact Td)
theorem qz {M:Model}{A:Around}{E:Value->Shared->Prop}{i:Nat}{x:Str}{v:V}{u:Value}{Q:Unit->Shared->Prop}(I:Inv X pins σ H s)(hN:X.N.Nodup)(hi:X.N[i]?=some x)(hx:Cm X.env.scope x)(r:RelV v u)
  (h:∀s',Inv X pins (σ.set i (some v)) H s'->Q () s') (hf:X.fn x=true\/X.env.scope.names.lookup x=some .local:=by first|exact .inl rfl|exact .inr rfl|assumption):wpAny M A (storeName X.env x u) Q E s:=
 nM I hN hi hx r (λs' I' _=>h s' I') hf
theorem Inv.call' {s':Shared}{ch:List Addr}(I:Inv X pins σ H s)(ho:s'.os=s.os)(u:Un (ck X.stack) ch H H' s.heap s'.heap)(hok:HOk X.prog X.w H' s'.heap)(hg:AllBare s'.gens)
  (RO:∀b∈ch,(b∈X.ex\/X.s₀.heap.objs.size<=b)/\b≠X.env.locals/\(∀x c,X.env.cells.lookup x=some c->c≠b)/\∀p∈X.pn++pins,p.1≠b):Inv X pins σ H' s':=by
 obtain⟨h',g',d',t',o'⟩:=s'
 have e:o'=s.os:=ho
 subst e
 exact I.call (g':=g') (t':=t') (d':=d') u hok hg RO
end
abbrev XK:=Value->Option Addr->Hp->Prop
abbrev St:=List (Option V)
abbrev VK:=V->Hp->Prop
abbrev TE:=St->Hp->VK->Prop
abbrev TT:=St->Hp->(Bool->Hp->Prop)->Prop
abbrev TA:=St->Hp->(List V->Hp->Prop)->Prop
structure tX where
 nx:St->Hp->Prop
 rt:VK
 bk:St->Hp->Prop:=λ_ _=>False
 ct:St->Hp->Prop:=λ_ _=>False
abbrev TS:=tX->St->Hp->Prop
def EP (X:Cx)(pins:List (Addr×Obj))(σ:St)(Q:VK)(u:Value)(s':Shared):Prop:=∃v H',Inv X pins σ H' s'/\RelV v u/\Q v H'
def TP (X:Cx)(pins:List (Addr×Obj))(σ:St)(Q:Bool->Hp->Prop)(b:Bool)(s':Shared):Prop:=∃H',Inv X pins σ H' s'/\Q b H'
def AP (X:Cx)(pins:List (Addr×Obj))(σ:St)(Q:List V->Hp->Prop)(us:List Value)(s':Shared):Prop:=∃vs H',Inv X pins σ H' s'/\Vals vs us/\Q vs H'
def SP (X:Cx)(pins:List (Addr×Obj))(D:tX)(f:Flow)(s':Shared):Prop:=
 match f with
 | .next=>∃σ' H',Inv X pins σ' H' s'/\D.nx σ' H'
 | .brk=>∃σ' H',Inv X pins σ' H' s'/\D.bk σ' H'
 | .cont=>∃σ' H',Inv X pins σ' H' s'/\D.ct σ' H'
 | .ret u=>∃v σ' H',Inv X pins σ' H' s'/\RelV v u/\D.rt v H'
def PE (X:Cx)(e:Expr)(t:TE):Prop:=
 ∀(pins:List (Addr×Obj)) (s:Shared) (σ:St) (H:Hp) (Q:VK),Inv X pins σ H s->t σ H Q->wpAny (model X.prog X.w) X.A (eval e X.env) (EP X pins σ Q) X.xe s
def PT (X:Cx)(e:Expr)(t:TT):Prop:=
 ∀(pins:List (Addr×Obj)) (s:Shared) (σ:St) (H:Hp) (Q:Bool->Hp->Prop),Inv X pins σ H s->t σ H Q->wpAny (model X.prog X.w) X.A (isTrue e X.env (eval e X.env)) (TP X pins σ Q) X.xe s
def PW (X:Cx)(e:Expr)(t:TT):Prop:=
 ∀(whole:Sem Value) (pins:List (Addr×Obj)) (s:Shared) (σ:St) (H:Hp) (Q:Bool->Hp->Prop),Inv X pins σ H s->t σ H Q->wpAny (model X.prog X.w) X.A (isTrue e X.env whole) (TP X pins σ Q) X.xe s
theorem PW.pt {X:Cx}{e:Expr}{t:TT}(h:PW X e t):PT X e t:=h _
def PA (X:Cx)(es:List Expr)(t:TA):Prop:=
 ∀(pos:Pos) (pins:List (Addr×Obj)) (s:Shared) (σ:St) (H:Hp) (Q:List V->Hp->Prop),Inv X pins σ H s->t σ H Q->wpAny (model X.prog X.w) X.A (spliced (backTo pos (starEach es X.env))) (AP X pins σ Q) X.xe s
def PS (X:Cx)(st:Stmt)(t:TS):Prop:=
 ∀(pins:List (Addr×Obj)) (s:Shared) (σ:St) (H:Hp) (D:tX),Inv X pins σ H s->t D σ H->wpAny (model X.prog X.w) X.A (exec st X.env) (SP X pins D) X.xe s
def PSs (X:Cx)(st:List Stmt)(t:TS):Prop:=
 ∀(pins:List (Addr×Obj)) (s:Shared) (σ:St) (H:Hp) (D:tX),Inv X pins σ H s->t D σ H->wpAny (model X.prog X.w) X.A (execs st X.env) (SP X pins D) X.xe s
theorem P0 {α:Type}{t:Sem α}{Q Q':α->Shared->Prop}{M:Model}{A:Around}{E:Value->Shared->Prop}{s:Shared}(h:wpAny M A t Q E s)(hQ:∀a s,Q a s->Q' a s):wpAny M A t Q' E s:=OD h hQ λ_ _ x=>x
section
variable {X:Cx}
def BC (i:Nat):TE:=λσ H Q=>∃v,σ[i]?=some (some v)/\Q v H
def tC (v:V):TE:=λ_ H Q=>Q v H
theorem EG {i:Nat}{x:Str}{pos:Pos}(hN:X.N[i]?=some x)(hv:Ih X.env.scope x)(hd:(x==("__debug__":Str))=false:=by decide)(P_:(x==("__classdict__":Str))=false:=by decide):PE X (.Name x pos) (BC i):=by
 intro pins s σ H Q I h;obtain⟨v,e,h⟩:=h;obtain⟨m,hn,hl⟩:=I.loc;obtain⟨u,r,l⟩:=hl i x v hN e hv;have fin:EP X pins σ Q u s:=⟨v,H,I,r,h⟩
 rcases l with⟨hk,hm⟩|⟨hk,c,hc,Qf⟩
 .exact wpAny_Name (wpAny_loadName_local I.ok.kind hk hn hm fin) hd
 .rcases hk with hk|hk
  .exact wpAny_Name (wpAny_loadName_cell I.ok.kind hk hc Qf fin) hd
  .exact wpAny_Name (wpAny_loadName_free I.ok.kind hk hc Qf fin P_) hd
theorem EI {i j pos}:PE X (.Constant (.int i) j pos) (tC (.int i)):=λ_ _ _ H _ I h=>wpAny_Constant_int ⟨.int i,H,I.tok _,⟨_,rfl⟩,h⟩
theorem Fy {b j pos}:PE X (.Constant (.bool b) j pos) (tC (.bl b)):=λ_ _ _ H _ I h=>Constant_bool ⟨.bl b,H,I,rfl,h⟩
theorem El {j pos}:PE X (.Constant .none j pos) (tC .non):=λ_ _ _ H _ I h=>Constant_none ⟨.non,H,I,rfl,h⟩
theorem CU {x j pos}:PE X (.Constant (.str x) j pos) (tC (.str x)):=λ_ _ _ H _ I h=>Calls.Constant_str ⟨.str x,H,I.tok _,⟨_,rfl⟩,h⟩
def Gl (X:Cx)(x:Str):Prop:=X.env.kindOf x=some .globalImplicit
theorem nY {E:Value->Shared->Prop}{pins:List (Addr×Obj)}{s:Shared}{σ:St}{H:Hp}{x:Str}{u:Value}{pos:Pos}{Q:Value->Shared->Prop}(I:Inv X pins σ H s)(hg:Gl X x)(hm:X.mg x=some u)(h:Q u s)
  (hd:(x==("__debug__":Str))=false:=by decide):wpAny (model X.prog X.w) X.A (eval (.Name x pos) X.env) Q E s:=
 Nu I.ok.kind hg (Calls.loadGlobal_global (by rw[I.ok.glob];exact I.mod.glob.keeps I.bk) hm h) hd
theorem cy {E:Value->Shared->Prop}{pins:List (Addr×Obj)}{s:Shared}{σ:St}{H:Hp}{x:Str}{u:Value}{pos:Pos}{Q:Value->Shared->Prop}(I:Inv X pins σ H s)(hg:Gl X x)(hm:X.mg x=none)(hv:bootBuiltins x=some u)(h:Q u s)
  (hn:x≠"__name__":=by decide) (hd:(x==("__debug__":Str))=false:=by decide):wpAny (model X.prog X.w) X.A (eval (.Name x pos) X.env) Q E s:=by
 obtain⟨mb,h1,h2⟩:=I.mod.blt
 exact Nu I.ok.kind hg (Calls.loadGlobal_builtin (by rw[I.ok.glob];exact I.mod.glob.keeps I.bk) hm (by rw[I.ok.blt];exact h1.keeps I.bk) ((h2 x hn).trans hv) h) hd
theorem Bt {x:Str}{v:V}{u:Value}{pos:Pos}(hg:Gl X x)(hm:X.mg x=some u)(r:RelV v u)(hd:(x==("__debug__":Str))=false:=by decide):PE X (.Name x pos) (tC v):=
 λ_ _ _ H _ I h=>nY I hg hm ⟨v,H,I,r,h⟩ hd
theorem Br {x:Str}{v:V}{u:Value}{pos:Pos}(hg:Gl X x)(hm:X.mg x=none)(hv:bootBuiltins x=some u)(r:RelV v u)(hn:x≠"__name__":=by decide)(hd:(x==("__debug__":Str))=false:=by decide):PE X (.Name x pos) (tC v):=
 λ_ _ _ H _ I h=>cy I hg hm hv ⟨v,H,I,r,h⟩ hn hd
variable {a b:Expr} {ta tb:TE} {pos:Pos}
theorem RelV.none_iff {x:V}{v:Value}(r:RelV x v):(v==Value.none)=decide (x= .non):=by grind [cases V,RelV]
variable {tA Si:TT} {aw:List Expr}
def Ej (t u:TT):TT:=λσ H Q=>t σ H λc H1=>if c=true then u σ H1 Q else Q false H1
def Ip (t u:TT):TT:=λσ H Q=>t σ H λc H1=>if c=true then Q true H1 else u σ H1 Q
def Ds (t:TT):TT:=λσ H Q=>t σ H λc H1=>Q (!c) H1
theorem AA (ha:PT X a tA):PW X (.BoolOp .And [a] pos) tA:=by
 intro wh pins s σ H Q I h;refine isTrue_and (P0 (ha pins s σ H Q I h) λc s1 e=>?_);cases c with
 |true=>exact isTrue_and_nil e
 |false=>exact e
theorem DQ (ha:PT X a tA):PW X (.BoolOp .Or [a] pos) tA:=by
 intro wh pins s σ H Q I h;refine isTrue_or (P0 (ha pins s σ H Q I h) λc s1 e=>?_);cases c with
 |false=>exact isTrue_or_nil e
 |true=>exact e
theorem CN (ha:PT X a tA)(hb:PW X (.BoolOp .And (b::aw) pos) Si):PW X (.BoolOp .And (a::b::aw) pos) (Ej tA Si):=by
 intro wh pins s σ H Q I h;refine isTrue_and (P0 (ha pins s σ H _ I h) λc s1 ⟨H1,I1,q1⟩=>?_);cases c with
 |true=>exact hb wh pins s1 σ H1 Q I1 q1
 |false=>exact⟨H1,I1,q1⟩
theorem He (ha:PT X a tA)(hb:PW X (.BoolOp .Or (b::aw) pos) Si):PW X (.BoolOp .Or (a::b::aw) pos) (Ip tA Si):=by
 intro wh pins s σ H Q I h;refine isTrue_or (P0 (ha pins s σ H _ I h) λc s1 ⟨H1,I1,q1⟩=>?_);cases c with
 |true=>exact⟨H1,I1,q1⟩
 |false=>exact hb wh pins s1 σ H1 Q I1 q1
theorem Cy (ha:PT X a tA):PT X (.UnaryOp .Not a pos) (Ds tA):=by
 intro pins s σ H Q I h;exact isTrue_not (ha pins s σ H (λc H1=>Q (!c) H1) I h)
def yF (ta tb:TE):TE:=λσ H Q=>ta σ H λx H1=>∃c,x= .bl c/\if c=true then tb σ H1 Q else Q (.bl false) H1
def Ez (ta tb:TE):TE:=λσ H Q=>ta σ H λx H1=>∃c,x= .bl c/\if c=true then Q (.bl true) H1 else tb σ H1 Q
def yK (ta:TE):TE:=λσ H Q=>ta σ H λx H1=>∃c,x= .bl c/\Q (.bl (!c)) H1
theorem Cv {op}{t:TE}(h:PE X a t):PE X (.BoolOp op [a] pos) t:=λpins s σ H Q I hw=>BoolOp_one (h pins s σ H Q I hw)
theorem DR (ha:PE X a ta)(hb:PE X (.BoolOp .And (b::aw) pos) tb):PE X (.BoolOp .And (a::b::aw) pos) (yF ta tb):=by
 intro pins s σ H Q I h;refine BoolOp_and (P0 (ha pins s σ H _ I h) λv s1 ⟨x,H1,I1,r1,q1⟩=>?_);obtain⟨c,rfl,q1⟩:=q1;cases r1;refine Lx ?_;cases c with
 |true=>exact hb pins s1 σ H1 Q I1 q1
 |false=>exact⟨.bl false,H1,I1,rfl,q1⟩
theorem Ge (ha:PE X a ta)(hb:PE X (.BoolOp .Or (b::aw) pos) tb):PE X (.BoolOp .Or (a::b::aw) pos) (Ez ta tb):=by
 intro pins s σ H Q I h;refine BoolOp_or (P0 (ha pins s σ H _ I h) λv s1 ⟨x,H1,I1,r1,q1⟩=>?_);obtain⟨c,rfl,q1⟩:=q1;cases r1;refine Lx ?_;cases c with
 |false=>exact hb pins s1 σ H1 Q I1 q1
 |true=>exact⟨.bl true,H1,I1,rfl,q1⟩
theorem Cs (ha:PE X a ta):PE X (.UnaryOp .Not a pos) (yK ta):=by
 intro pins s σ H Q I h;refine UnaryOp_ (P0 (ha pins s σ H _ I h) λv s1 ⟨x,H1,I1,r1,q1⟩=>?_);obtain⟨c,rfl,q1⟩:=q1;cases r1;exact not_of (Lx ⟨.bl (!c),H1,I1,rfl,q1⟩)
def HI (t:TT)(ta tb:TE):TE:=λσ H Q=>t σ H λc H1=>if c=true then ta σ H1 Q else tb σ H1 Q
theorem zr {c:Expr}(hc:PT X c tA)(ha:PE X a ta)(hb:PE X b tb):PE X (.IfExp c a b pos) (HI tA ta tb):=by
 intro pins s σ H Q I h;refine wpAny_IfExp (P0 (hc pins s σ H _ I h) λd s1 ⟨H1,I1,q1⟩=>?_);cases d with
 |true=>exact ha pins s1 σ H1 Q I1 q1
 |false=>exact hb pins s1 σ H1 Q I1 q1
end
def SqL (K:Qe)(H:Hp)(a:Addr)(xs:List V):Prop:=
 Rd H a (.lst xs)\/
  ∃(o:Obj) (a_:Array Value) (n:Nat),K.lookup a=some o/\o.cls= .type "list"/\o.dict=none/\o.data= .seq a_ n/\a_.size<=sizeLine/\Vals xs a_.toList
def SqT (K:Qe)(H:Hp)(a:Addr)(xs:List V):Prop:=
 Rd H a (.tup xs)\/
  ∃(o:Obj) (a_:Array Value) (n:Nat),K.lookup a=some o/\o.cls= .type "tuple"/\o.data= .seq a_ n/\a_.size<=sizeLine/\Vals xs a_.toList
def FN:Value->Option V
 | .none=>some .non
 | .bool b=>some (.bl b)
 | .int i _=>some (.int i)
 | .str x _=>some (.str x)
 | .bytes b _=>some (.byt b)
 | .float b _=>some (.flt b)
 | .ref a=>some (.ref a)
 | .type n=>some (.ty n)
 |_=>none
theorem RelV.abs {x:V}{u:Value}(r:RelV x u):FN u=some x:=by grind [cases V,RelV,FN]
theorem RelV.inj {x y:V}{u:Value}(r:RelV x u)(q:RelV y u):x=y:=JU (r.abs.symm.trans q.abs)
theorem Vals.inj:∀{xs ys:List V} {us:List Value},Vals xs us->Vals ys us->xs=ys
 |_,_,_,.nil,.nil=>rfl
 |_,_,_,.cons r t,.cons r' t'=>by rw[r.inj r',Vals.inj t t']
section
variable {X:Cx} {pins:List (Addr×Obj)} {σ:St} {H:Hp} {s:Shared} {a:Addr} {xs ys:List V}
theorem SqL.of {K:Qe}(h:H a=some (.lst xs)):SqL K H a xs:= .inl (.inl h)
theorem SqT.of {K:Qe}(h:H a=some (.tup xs)):SqT K H a xs:= .inl (.inl h)
theorem Inv.list (I:Inv X pins σ H s)(h:SqL X.K H a xs):∃a_:List Value,Vals xs a_/\PlainL s.heap a a_.toArray/\xs.length<=sizeLine:=by
 rcases h with h|⟨o,a_,n,hk,hc,hd,hs,hz,r⟩
 .obtain⟨z,a_,n,r,e⟩:=h.ok I.hok;exact⟨a_,r,⟨_,n,e,rfl,rfl,rfl⟩,z⟩
 .refine⟨a_.toList,r,⟨o,n,I.kIn a o hk,hc,hd,by simpa using hs⟩,?_⟩;have e:=r.length;simp only[MH] at e;lia
theorem Inv.tuple (I:Inv X pins σ H s)(h:SqT X.K H a xs):∃a_:List Value,Vals xs a_/\IsTup s.heap a a_.toArray/\xs.length<=sizeLine:=by
 rcases h with h|⟨o,a_,n,hk,hc,hs,hz,r⟩
 .obtain⟨z,a_,r,p⟩:=h.ok I.hok;exact⟨a_,r,p,z⟩
 .refine⟨a_.toList,r,⟨o,I.kIn a o hk,hc,n,by simpa using hs⟩,?_⟩;have e:=r.length;simp only[MH] at e;lia
theorem Inv.list_inj (I:Inv X pins σ H s)(h:SqL X.K H a xs)(h':SqL X.K H a ys):xs=ys:=by
 obtain⟨a_,r,⟨o,n,e,_,_,d⟩,_⟩:=I.list h;obtain⟨its',r',⟨o',n',e',_,_,d'⟩,_⟩:=I.list h';rw[e] at e';cases e';rw[d] at d';injection d' with d1 _
 have:a_=its':=by simpa using KQ Array.toList d1
 subst this;exact r.inj r'
theorem Inv.tuple_inj (I:Inv X pins σ H s)(h:SqT X.K H a xs)(h':SqT X.K H a ys):xs=ys:=by
 obtain⟨a_,r,⟨o,e,_,n,d⟩,_⟩:=I.tuple h;obtain⟨its',r',⟨o',e',_,n',d'⟩,_⟩:=I.tuple h';rw[e] at e';cases e';rw[d] at d';injection d' with d1 _
 have:a_=its':=by simpa using KQ Array.toList d1
 subst this;exact r.inj r'
end
abbrev Cx.wish (X:Cx)(E:Value->Shared->Prop):Cx:={X with xe:=E}
abbrev Cx.nox (X:Cx):Cx:=X.wish λ_ _=>False
theorem Cx.Ok.wish {X:Cx}(ok:X.Ok)(E:Value->Shared->Prop):(X.wish E).Ok:=
 ⟨ok.mod,ok.kind,ok.glob,ok.blt,ok.above,ok.inj,ok.has,ok.cab,ok.hd,ok.frames,ok.stk,ok.exf,ok.bs,ok.bsz,ok.noex,ok.exfs,ok.funs,ok.frf⟩
theorem Cx.Ok.unwish {X:Cx}{E:Value->Shared->Prop}(ok:(X.wish E).Ok):X.Ok:=
 ⟨ok.mod,ok.kind,ok.glob,ok.blt,ok.above,ok.inj,ok.has,ok.cab,ok.hd,ok.frames,ok.stk,ok.exf,ok.bs,ok.bsz,ok.noex,ok.exfs,ok.funs,ok.frf⟩
section
variable {X:Cx} {pins:List (Addr×Obj)} {σ:St} {H:Hp} {s:Shared} {E:Value->Shared->Prop}
theorem Inv.wish (I:Inv X pins σ H s)(E:Value->Shared->Prop):Inv (X.wish E) pins σ H s:=⟨I.ok.wish E,I.os,I.bare,I.base,I.loc,I.cell,I.free,I.freeC,I.pin,I.hok,I.len⟩
theorem Inv.unwish (I:Inv (X.wish E) pins σ H s):Inv X pins σ H s:=⟨I.ok.unwish,I.os,I.bare,I.base,I.loc,I.cell,I.free,I.freeC,I.pin,I.hok,I.len⟩
theorem SP.unwish {D:tX}{f:Flow}{s':Shared}(h:SP (X.wish E) pins D f s'):SP X pins D f s':=by
 cases f with
 |next=>obtain⟨σ',H',I,q⟩:=h;exact⟨σ',H',I.unwish,q⟩
 |brk=>obtain⟨σ',H',I,q⟩:=h;exact⟨σ',H',I.unwish,q⟩
 |cont=>obtain⟨σ',H',I,q⟩:=h;exact⟨σ',H',I.unwish,q⟩
 |ret u=>obtain⟨v,σ',H',I,r,q⟩:=h;exact⟨v,σ',H',I.unwish,r,q⟩
theorem PSs.nox {st:List Stmt}{t:TS}(h:PSs X.nox st t):PSs X st t:=λpins s σ H D I hw=>
 OD (h pins s σ H D (I.wish _) hw) (λ_ _ q=>q.unwish) λ_ _ z=>False.elim z
end
section
variable {X:Cx} {st:Stmt} {aw:List Stmt} {t u:TS} {e:Expr} {te:TE} {pos:Pos}
def xM:TS:=λD σ H=>D.nx σ H
def jh (t u:TS):TS:=λD σ H=>t {D with nx:=u D} σ H
theorem AL:PSs X [] xM:=λ_ _ σ H _ I h=>Nl ⟨σ,H,I,h⟩
theorem zu (h1:PS X st t)(h2:PSs X aw u):PSs X (st::aw) (jh t u):=by
 intro pins s σ H D I h;refine wpAny_execs_cons (P0 (h1 pins s σ H {D with nx:=u D} I h) λf s1 q=>?_);cases f with
 |next=>
  obtain⟨σ',H',I',q⟩:=q
  exact h2 pins s1 σ' H' D I' q
 |ret v=>exact q
 |brk=>exact q
 |cont=>exact q
theorem AJ (h1:PS X st t):PSs X [st] t:=by
 intro pins s σ H D I h;refine wpAny_execs_cons (P0 (h1 pins s σ H D I h) λf s1 q=>?_);cases f with
 |next=>exact Nl q
 |ret v=>exact q
 |brk=>exact q
 |cont=>exact q
theorem Inv.quiet {pins:List (Addr×Obj)}{σ:St}{H:Hp}{s:Shared}(I:Inv X pins σ H s):interactive X.env=false:=by simp [interactive,I.ok.kind]
def xH (te:TE):TS:=λD σ H=>te σ H λ_ H1=>D.nx σ H1
theorem AX (he:PE X e te)(hs:swapsWith e none pos.line X.env=pure false:=by rfl):PS X (.Expr e pos) (xH te):=by
 intro pins s σ H D I h;exact wpAny_Expr_any (P0 (he pins s σ H _ I h) λv s1 ⟨x,H1,I1,r1,q1⟩=>⟨σ,H1,I1,q1⟩) I.quiet hs
def yz (te:TE):TS:=λD σ H=>te σ H D.rt
theorem Cu (he:PE X e te):PS X (.Return (some e) pos) (yz te):=by
 intro pins s σ H D I h;exact wpAny_Return_some (P0 (he pins s σ H _ I h) λv s1 ⟨x,H1,I1,r1,q1⟩=>⟨x,σ,H1,I1,r1,q1⟩)
def Ex (c:TT)(t u:TS):TS:=λD σ H=>c σ H λb H1=>if b=true then t D σ H1 else u D σ H1
theorem FX {c:Expr}{a b:List Stmt}{tc:TT}(hc:PT X c tc)(ha:PSs X a t)(hb:PSs X b u):PS X (.If c a b pos) (Ex tc t u):=by
 intro pins s σ H D I h;refine wpAny_If (P0 (hc pins s σ H _ I h) λd s1 ⟨H1,I1,q1⟩=>?_);cases d with
 |true=>exact ha pins s1 σ H1 D I1 q1
 |false=>exact hb pins s1 σ H1 D I1 q1
end
abbrev TG:=V->St->Hp->(St->Hp->Prop)->Prop
abbrev sZ:=List V->St->Hp->(St->Hp->Prop)->Prop
def PG (X:Cx)(target:Expr)(t:TG):Prop:=
 ∀(pins:List (Addr×Obj)) (s:Shared) (σ:St) (H:Hp) (v:V) (u:Value) (Q:St->Hp->Prop),Inv X pins σ H s->RelV v u->t v σ H Q->
  wpAny (model X.prog X.w) X.A (assign target X.env u) (λ_ s'=>∃σ' H',Inv X pins σ' H' s'/\Q σ' H') X.xe s
def Be (X:Cx)(ts:List Expr)(t:sZ):Prop:=
 ∀(pins:List (Addr×Obj)) (s:Shared) (σ:St) (H:Hp) (vs:List V) (us:List Value) (Q:St->Hp->Prop),Inv X pins σ H s->Vals vs us->t vs σ H Q->
  wpAny (model X.prog X.w) X.A (assignInOrder ((assignEach ts X.env).map (·.2)) us) (λ_ s'=>∃σ' H',Inv X pins σ' H' s'/\Q σ' H') X.xe s
abbrev ud:=V->V->V->Hp->(Hp->Prop)->Prop
def xg (X:Cx)(t:ud):Prop:=
 ∀(pins:List (Addr×Obj)) (s:Shared) (σ:St) (H:Hp) (o i v:V) (ov iv u:Value) (Q:Hp->Prop),Inv X pins σ H s->RelV o ov->RelV i iv->RelV v u->t o i v H Q->
  wpAny (model X.prog X.w) X.A (setItem ov iv u) (λ_ s'=>∃H',Inv X pins σ H' s'/\Q H') X.xe s
section
variable {X:Cx} {pos:Pos}
def O8 (i:Nat):TG:=λv σ H Q=>Q (σ.set i (some v)) H
theorem AD {i:Nat}{x:Str}(hN:X.N.Nodup)(hi:X.N[i]?=some x)(hx:Cm X.env.scope x)(hf:X.fn x=true\/X.env.scope.names.lookup x=some .local:=by first|exact .inl rfl|exact .inr rfl|assumption):PG X (.Name x pos) (O8 i):=by
 intro pins s σ H v u Q I r h;exact wpAny_assign_Name (qz I hN hi hx r (λs' I'=>⟨_,H,I',h⟩) hf)
def Az:sZ:=λvs σ H Q=>vs=[]/\Q σ H
def jV (t:TG)(u:sZ):sZ:=λvs σ H Q=>∃v r,vs=v::r/\t v σ H λσ' H'=>u r σ' H' Q
theorem Bk:Be X [] Az:=by
 intro pins s σ H vs us Q I r h;obtain⟨e,h⟩:=h;subst e;cases r;exact assignInOrder_nil ⟨σ,H,I,h⟩
theorem yq {e:Expr}{es:List Expr}{t:TG}{u:sZ}(h1:PG X e t)(h2:Be X es u)
  (hs:(assignEach (e::es) X.env).map (·.2)=assign e X.env::(assignEach es X.env).map (·.2):=by rfl):Be X (e::es) (jV t u):=by
 intro pins s σ H vs us Q I r h
 obtain⟨v,vr,e1,h⟩:=h
 subst e1
 cases r with
 |cons r rr=>
  rw[hs]
  refine assignInOrder_cons (P0 (h1 pins s σ H _ _ _ I r h) λ_ s1 ⟨σ1,H1,I1,q1⟩=>?_)
  exact h2 pins s1 σ1 H1 _ _ Q I1 rr q1
def yM (K:Qe)(n:Nat)(t:sZ):TG:=λv σ H Q=>∃a xs,v= .ref a/\SqT K H a xs/\xs.length=n/\t xs σ H Q
theorem DS {es:List Expr}{k:Nat}{t:sZ}{n:Nat}(hc:X.calm=true)(h:Be X es t)
  (hn:(assignEach es X.env).length=n:=by rfl) (U_:(assignEach es X.env).findIdx? (·.1)=none:=by rfl):PG X (.Tuple es k pos) (yM X.K n t):=by
 intro pins s σ H v u Q I r hw
 obtain⟨a,xs,e1,hq,hl,hw⟩:=hw
 subst e1
 cases r
 obtain⟨a_,rv,ht,hz⟩:=I.tuple hq
 refine assign_Tuple_tuple (I.ok.hd hc) ht (by simp [hn,←hl,rv.length]) U_ λh' hx=>?_
 have I1:Inv X pins σ H {s with heap:=h'}:=I.kept (t':=s.toks) λb o e=>hx b o (JV (JR e)) e
 exact h pins _ σ H xs _ Q I1 (by simpa using rv) hw
def Ek (to ti:TE)(t:ud):TG:=λv σ H Q=>to σ H λo H1=>ti σ H1 λi H2=>t o i v H2 λH3=>Q σ H3
theorem Cw {o i:Expr}{to ti:TE}{t:ud}(ho:PE X o to)(hi:PE X i ti)(hs:xg X t)
  (ha:∀v,assign (.Subscript o i pos) X.env v=(do
   let ov←holding [v] (eval o X.env)
   let iv←holding [v,ov] (eval i X.env)
   standAt pos
   holding [v,ov,iv] (setItem ov iv v)
   release [v,ov,iv] []):=by intro _;rfl):PG X (.Subscript o i pos) (Ek to ti t):=by
 intro pins s σ H v u Q I r h
 rw[ha]
 refine JL (La (P0 (ho pins s σ H _ I h) λov s1 ⟨x,H1,I1,r1,q1⟩=>?_))
 refine JL (La (P0 (hi pins s1 σ H1 _ I1 q1) λiv s2 ⟨y,H2,I2,r2,q2⟩=>?_))
 refine JL (Pe (JL (La (P0 (hs pins s2 σ H2 x y v ov iv u _ I2 r1 r2 r q2) λ_ s3 ⟨H3,I3,q3⟩=>?_))))
 exact wpAny_release ⟨σ,H3,I3,q3⟩
def sv (te:TE)(g:TG):TS:=λD σ H=>te σ H λx H1=>g x σ H1 D.nx
theorem Er {tg e:Expr}{te:TE}{g:TG}(he:PE X e te)(hg:PG X tg g)(hs:swapsWithSole [tg] e pos.line X.env=pure false:=by rfl)(hw:swappedStores [tg] e X.env=pure none:=by rfl)
  (h1:(assignEach [tg] X.env).map (·.2)=[assign tg X.env]:=by rfl):PS X (.Assign [tg] e pos) (sv te g):=by
 intro pins s σ H D I h
 refine wpAny_Assign_stores (P0 (he pins s σ H _ I h) λv s1 ⟨x,H1,I1,r1,q1⟩=>?_) hs hw
 rw[h1]
 exact P0 (hg pins s1 σ H1 x v _ I1 r1 q1) λ_ s2 q=>q
theorem CJ {i:Nat}{x:Str}{e:Expr}{te:TE}{pos':Pos}(hN:X.N.Nodup)(hi:X.N[i]?=some x)(hx:Cm X.env.scope x)(he:PE X e te)(hs:swapsWith e (some (.Name x pos')) pos.line X.env=pure false:=by rfl)(hf:X.fn x=true\/X.env.scope.names.lookup x=some .local:=by first|exact .inl rfl|exact .inr rfl|assumption):
  PS X (.Assign [.Name x pos'] e pos) (sv te (O8 i)):=by
 intro pins s σ H D I h
 refine wpAny_Assign_Name (P0 (he pins s σ H _ I h) λv s1 ⟨y,H1,I1,r1,q1⟩=>?_) hs
 exact qz I1 hN hi hx r1 (λs2 I2=>⟨_,H1,I2,q1⟩) hf
end
section
variable {X:Cx} {pos:Pos}
def yI (c:TT)(tb:TS):TS:=λD σ H=>∃W:Nat->St->Hp->Prop,(∃m,W m σ H)/\∀m σ H,W m σ H->
 c σ H λb H1=>if b=true then ∃N:St->Hp->Prop,(∀σ' H',N σ' H'->∃m',m'<m/\W m' σ' H')/\tb {D with nx:=N,ct:=N,bk:=D.nx} σ H1 else D.nx σ H1
theorem yn {c:Expr}{body:List Stmt}{tc:TT}{tb:TS}(hp:PassesOwn (model X.prog X.w) X.A X.env X.xe)(hc:PT X c tc)(hb:PSs X body tb):PS X (.While c body [] pos) (yI tc tb):=by
 intro pins s σ H D I h;obtain⟨W,⟨m0,w0⟩,turn⟩:=h;refine wpAny_While (codeAny_whileLoop (λn s'=>∃σ' H',Inv X pins σ' H' s'/\W n σ' H') ?_ m0 ⟨σ,H,I,w0⟩);rintro n s1 ⟨σ1,H1,I1,w1⟩;refine LU hp (P0 (hc pins s1 σ1 H1 _ I1 (turn n σ1 H1 w1)) λb s2 ⟨H2,I2,q2⟩=>?_);cases b with
 |true=>
  obtain⟨N,hN,q2⟩:=q2
  rw[if_pos rfl]
  refine LU hp (P0 (hb pins s2 σ1 H2 _ I2 q2) λf s3 q3=>?_)
  cases f with
  |next=>
   obtain⟨σ3,H3,I3,n3⟩:=q3
   obtain⟨m',hm,w3⟩:=hN σ3 H3 n3
   exact⟨m',hm,σ3,H3,I3,w3⟩
  |cont=>
   obtain⟨σ3,H3,I3,n3⟩:=q3
   obtain⟨m',hm,w3⟩:=hN σ3 H3 n3
   exact⟨m',hm,σ3,H3,I3,w3⟩
  |brk=>exact q3
  |ret v=>exact q3
 |false=>
  rw[if_neg Ks]
  exact Nl ⟨σ1,H2,I2,q2⟩
end
structure It where
 go:Nat->Hp->Prop
 yld:Nat->Hp->V->Hp->Prop
 stop:Nat->Hp->Prop
def gR (X:Cx)(pins:List (Addr×Obj))(H:Hp)(b:Addr):Prop:=
 H b=none/\b≠X.env.locals/\b∉X.fs/\(b∈X.ex\/X.s₀.heap.objs.size<=b)/\(∀x c,X.env.cells.lookup x=some c->c≠b)/\∀p∈X.pn++pins,p.1≠b
theorem Inv.fpOk {X:Cx}{pins:List (Addr×Obj)}{σ:St}{H H':Hp}{s:Shared}{b:Addr}(I:Inv X pins σ H s)(hb:s.heap.objs.size<=b)(hn:H' b=none):gR X pins H' b:=by
 refine⟨hn,Oi (JS I.lt hb),I.nofs hb,.inr (Kg I.sz hb),λx c e z=>?_,λp hp z=>?_⟩
 .obtain⟨v,q⟩:=I.cell x c e;exact absurd (JS q.lt (by rw[z];exact hb)) (Li _)
 .exact absurd (JS (JR (I.pin p hp).1) (by rw[z];exact hb)) (Li _)
structure ir (P:Program) (w:World) (K:Qe) (tg:Expr) (J:It) (fp:List Addr) (it:Addr) (tn:Nat->Heap->Prop):Prop where
 mem:it∈fp
 obj:∀i h,tn i h->∀b∈fp,∃o,h.get? b=some o/\∀v,o.data≠ .cell v
 keep:∀i h h',tn i h->(∀b∈fp,∀o,h.get? b=some o->h'.get? b=some o)->tn i h'
 item:∀(X:Cx),X.prog=P->X.w=w->X.K=K->X.calm=true->∀(i:Nat) (pins:List (Addr×Obj)) (s:Shared) (σ:St) (H:Hp) (E:Value->Shared->Prop),Inv X pins σ H s->(∀b∈fp,gR X pins H b)->tn i s.heap->J.go i H->
  wpAny (model P w) X.A (pyNext (.ref it)) (λr s1=>∃u,r=some u/\
   wpAny (model P w) X.A (letOwnedTupleGo tg (.ref it) u) (λ_ s2=>∃x H',Inv X pins σ H' s2/\RelV x u/\J.yld i H x H'/\tn (i+1) s2.heap/\∀b∈fp,H' b=none) E s1) E s
 done:∀(X:Cx),X.prog=P->X.w=w->X.K=K->X.calm=true->∀(i:Nat) (pins:List (Addr×Obj)) (s:Shared) (σ:St) (H:Hp) (E:Value->Shared->Prop),Inv X pins σ H s->(∀b∈fp,gR X pins H b)->tn i s.heap->J.stop i H->
  wpAny (model P w) X.A (pyNext (.ref it)) (λr s1=>r=none/\Inv X pins σ H s1) E s
 self:∀(A:Around) (i:Nat) (s:Shared) (Q:Value->Shared->Prop) (E:Value->Shared->Prop),tn i s.heap->Q (.ref it) s->wpAny (model P w) A (pyIter (.ref it)) Q E s
abbrev TI:=St->Hp->(It->Hp->Prop)->Prop
def Ht (X:Cx)(pins:List (Addr×Obj))(σ:St)(tg:Expr)(R:It->Hp->Prop)(Va:Value)(s2:Shared):Prop:=
 ∃(it:Addr) (fp:List Addr) (tn:Nat->Heap->Prop) (J:It) (H':Hp),Va= .ref it/\Inv X pins σ H' s2/\ir X.prog X.w X.K tg J fp it tn/\tn 0 s2.heap/\(∀b∈fp,gR X pins H' b)/\R J H'
def PI (X:Cx)(tg iter:Expr)(wi:TI):Prop:=
 ∀(pins:List (Addr×Obj)) (s:Shared) (σ:St) (H:Hp) (R:It->Hp->Prop),Inv X pins σ H s->wi σ H R->
  wpAny (model X.prog X.w) X.A (eval iter X.env) (λv s1=>wpAny (model X.prog X.w) X.A (pyIter v) (Ht X pins σ tg R) X.xe s1) X.xe s
theorem pW {M : Model} {A : Around} {E : Value -> Shared -> Prop} {s : Shared} {tg : Expr} {it : Addr} {u : Value} {o : Obj} {n : String} {vs : Array Value} {Q : Unit -> Shared -> Prop} (ho : s.heap.get? it = some o) (hc : o.cls = .type n) (hd : o.data = .fields vs)
    (hn : ["enumerate", "zip", "dict_itemiterator", "dict_reverseitemiterator", "odict_iterator", "itertools.zip_longest", "itertools.pairwise"].contains n = false) (hQ : Q () s) : wpAny M A (letOwnedTupleGo tg (.ref it) u) Q E s := by
  unfold letOwnedTupleGo
  cases tg <;> first
    | exact JW hQ
    | (cases u <;> first
        | exact JW hQ
        | (refine JL (wpAny_load ho ?_)
           rw [hc, hd]
           show wpAny M A (if (["enumerate", "zip", "dict_itemiterator", "dict_reverseitemiterator", "odict_iterator", "itertools.zip_longest", "itertools.pairwise"].contains n && vs[0]? == some (rawInt _)) = true then _ else _) Q E s
           rw [if_neg (by intro h; rw [hn, Bool.false_and] at h; cases h)]
           exact JW hQ))
def Itl (K:Qe)(a:Addr):It:=
 ⟨λi H=>∃xs x,SqL K H a xs/\xs[i]?=some x,λi H x H'=>H'=H/\∀xs,SqL K H a xs->xs[i]?=some x,λi H=>∃xs,SqL K H a xs/\xs.length<=i⟩
def IH (K:Qe)(a:Addr):It:=
 ⟨λi H=>∃xs x,SqT K H a xs/\xs[i]?=some x,λi H x H'=>H'=H/\∀xs,SqT K H a xs->xs[i]?=some x,λi H=>∃xs,SqT K H a xs/\xs.length<=i⟩
def Hx (lo:Int)(n:Nat):It:=⟨λi _=>i<n,λi H x H'=>H'=H/\x= .int (lo+i),λi _=>n<=i⟩
theorem vn {P:Program}{w:World}{K:Qe}{tg:Expr}(a it:Addr):ir P w K tg (Itl K a) [it] it (λi h=>h.IsListIter it a i) where
 mem:=by simp
 obj:=λi h st b hb=>by
  have e:b=it:=by simpa using hb
  subst e;obtain⟨o,e,c,d⟩:=st;exact⟨o,e,λv z=>by rw[d] at z;cases z⟩
 keep:=λi h h' st k=>st.at λo e=>k it (by simp) o e
 item:=by
  intro X hP hw hK hc i pins s σ H E I hf st hg;subst hP hw hK;obtain⟨xs,x,hq,hx⟩:=hg;obtain⟨a_,rv,p,hz⟩:=I.list hq;obtain⟨u,hu,ru⟩:=rv.get hx;obtain⟨f0,f1,f2,f3,f4,f5⟩:=hf it (by simp);refine MU st p.isList (x:=u) (by simpa using hu) λh' p_ sb=>?_;have I1:Inv X pins σ H {s with heap:=h'}:=I.turned (t':=s.toks) (λb o hb e=>(sb.2 b hb).trans e) f0 f1 f3 f4 f5;obtain⟨o,e,c,d⟩:=id p_;exact⟨u,rfl,pW (s:={s with heap:=h'}) e c d (by decide) ⟨x,H,I1,ru,⟨rfl,λys hy=>by rw[I.list_inj hy hq];exact hx⟩,p_,λb hb=>(hf b hb).1⟩⟩
 done:=by
  intro X hP hw hK hc i pins s σ H E I hf st hg;subst hP hw hK;obtain⟨xs,hq,hx⟩:=hg;obtain⟨a_,rv,p,hz⟩:=I.list hq;obtain⟨f0,f1,f2,f3,f4,f5⟩:=hf it (by simp);have hl:=rv.length;exact Nd (I.ok.hd hc) st p.isList (by simp;lia) λh' eb=>⟨rfl,I.turned (t':=s.toks) (λb o hb e=>eb b o hb e) f0 f1 f3 f4 f5⟩
 self:=λ_ _ _ _ _ st h=>wpAny_pyIter_listiter st h
theorem sJ {P:Program}{w:World}{K:Qe}{tg:Expr}(a it:Addr):ir P w K tg (IH K a) [it] it (λi h=>h.IsTupleIter it a i) where
 mem:=by simp
 obj:=λi h st b hb=>by
  have e:b=it:=by simpa using hb
  subst e;obtain⟨o,e,c,d⟩:=st;exact⟨o,e,λv z=>by rw[d] at z;cases z⟩
 keep:=λi h h' st k=>st.at λo e=>k it (by simp) o e
 item:=by
  intro X hP hw hK hc i pins s σ H E I hf st hg;subst hP hw hK;obtain⟨xs,x,hq,hx⟩:=hg;obtain⟨a_,rv,p,hz⟩:=I.tuple hq;obtain⟨u,hu,ru⟩:=rv.get hx;obtain⟨f0,f1,f2,f3,f4,f5⟩:=hf it (by simp);refine wpAny_pyNext_tuple_item st (show s.heap.IsTuple a a_.toArray from p) (x:=u) (by simpa using hu) λh' p_ sb=>?_;have I1:Inv X pins σ H {s with heap:=h'}:=I.turned (t':=s.toks) (λb o hb e=>(sb.2 b hb).trans e) f0 f1 f3 f4 f5;obtain⟨o,e,c,d⟩:=id p_;exact⟨u,rfl,pW (s:={s with heap:=h'}) e c d (by decide) ⟨x,H,I1,ru,⟨rfl,λys hy=>by rw[I.tuple_inj hy hq];exact hx⟩,p_,λb hb=>(hf b hb).1⟩⟩
 done:=by
  intro X hP hw hK hc i pins s σ H E I hf st hg;subst hP hw hK;obtain⟨xs,hq,hx⟩:=hg;obtain⟨a_,rv,p,hz⟩:=I.tuple hq;obtain⟨f0,f1,f2,f3,f4,f5⟩:=hf it (by simp);have hl:=rv.length;exact wpAny_pyNext_tuple_end (I.ok.hd hc) st (show s.heap.IsTuple a a_.toArray from p) (by simp;lia) λh' eb=>⟨rfl,I.turned (t':=s.toks) (λb o hb e=>eb b o hb e) f0 f1 f3 f4 f5⟩
 self:=λ_ _ _ _ _ st h=>wpAny_pyIter_tupleiter st h
theorem tW {P:Program}{w:World}{K:Qe}{tg:Expr}(it:Addr)(lo:Int)(n:Nat):ir P w K tg (Hx lo n) [it] it (λi h=>IsRangeIter h it (lo+(i:Nat)*1) ((n:Int) -(i:Nat)) 1) where
 mem:=by simp
 obj:=λi h st b hb=>by
  have e:b=it:=by simpa using hb
  subst e;exact⟨_,st,λv z=>by
   have z':Data.fields _=Data.cell v:=z;cases z'⟩
 keep:=λi h h' st k=>k it (by simp) _ st
 item:=by
  intro X hP hw hK hc i pins s σ H E I hf st hg;subst hP hw hK;obtain⟨f0,f1,f2,f3,f4,f5⟩:=hf it (by simp);have W:=Walks.range (prog:=X.prog) (w:=X.w) (I.ok.hd hc) it lo 1 n;refine W.item i s _ _ hg st λv h' tk hv p_ kk=>?_;obtain⟨t,rfl⟩:=hv;have I1:Inv X pins σ H {s with heap:=h',toks:=tk}:=I.turned (λb o hb e=>kk b o (by simpa using hb) e) f0 f1 f3 f4 f5;refine⟨_,rfl,pW (s:={s with heap:=h',toks:=tk}) (n:="range_iterator") p_ rfl rfl (by decide) ⟨.int (lo+i),H,I1,⟨t,?_⟩,⟨rfl,rfl⟩,p_,λb hb=>(hf b hb).1⟩⟩;rw[Int.mul_one]
 done:=by
  intro X hP hw hK hc i pins s σ H E I hf st hg;subst hP hw hK;obtain⟨f0,f1,f2,f3,f4,f5⟩:=hf it (by simp);exact wpAny_pyNext_range_end (I.ok.hd hc) st (by have:n<=i:=hg;lia) λh' eb=>⟨rfl,I.turned (t':=s.toks) (λb o hb e=>eb b o hb e) f0 f1 f3 f4 f5⟩
 self:=λ_ _ _ _ _ st h=>wpAny_pyIter_rangeiter st h
section
variable {X:Cx} {tg:Expr}
theorem ya {pins:List (Addr×Obj)}{σ:St}{H:Hp}{s:Shared}{R:It->Hp->Prop}{E:Value->Shared->Prop}{lo hi:Int}{t u v:Tok}{tk:Nat}(I:Inv X pins σ H s)(h1: -(2 ^ 62)<=lo)(h2:lo<2 ^ 62)(h3: -(2 ^ 62)<=hi)(h4:hi<2 ^ 62)
  (q:R (Hx lo (hi -lo).toNat) H):wpAny (model X.prog X.w) X.A (pyIter (.ref s.heap.objs.size)) (Ht X pins σ tg R) E {s with heap:=s.heap.push {cls:= .type "range",data:= .fields #[.int lo t,.int hi u,.int 1 v]},toks:=tk}:=by
 refine wpAny_pyIter_range (IsRange.new ..) (small_one h1 h2 h3 h4) ?_
 have I1:Inv X pins σ H {s with heap:=s.heap.push {cls:= .type "range",data:= .fields #[.int lo t,.int hi u,.int 1 v]},toks:=tk}:=I.kept λb o e=>JI _ e
 refine⟨(s.heap.push {cls:= .type "range",data:= .fields #[.int lo t,.int hi u,.int 1 v]}).objs.size,[(s.heap.push {cls:= .type "range",data:= .fields #[.int lo t,.int hi u,.int 1 v]}).objs.size],_,_,H,rfl,
  I1.kept (t':=tk) λb o e=>JI _ e,tW _ lo (hi -lo).toNat,?_,λb hb=>?_,q⟩
 .have e1:lo+((0:Nat):Int)*1=lo:=by simp
  have e2:(((hi -lo).toNat:Nat):Int) -((0:Nat):Int)=Builtin.Range.rangeSize lo hi 1:=by rw[rangeSize_one];split<;>lia
  show IsRangeIter _ _ (lo+((0:Nat):Int)*1) ((((hi -lo).toNat:Nat):Int) -((0:Nat):Int)) 1
  rw[e1,e2]
  exact JY _ rfl
 .have e:b=(s.heap.push {cls:= .type "range",data:= .fields #[.int lo t,.int hi u,.int 1 v]}).objs.size:=by simpa using hb
  subst e
  exact I1.fpOk (JA _) (I1.hok.fresh (JA _))
def zZ (ta:TA):TI:=λσ H R=>ta σ H λvs H1=>∃j:Int,vs=[.int j]/\-(2 ^ 62)<=j/\j<2 ^ 62/\R (Hx 0 j.toNat) H1
theorem vM {a:Expr}{ta:TA}{p pos:Pos}(hg:Gl X "range")(hm:X.mg "range"=none)(ha:PA X [a] ta)(hs:starEach [a] X.env=[(false,eval a X.env)]:=by rfl):PI X tg (.Call (.Name "range" p) [a] [] pos) (zZ ta):=by
 intro pins s σ H R I h;refine Call_ (cy I hg hm boot_range (Lh (P0 (ha pos pins s σ H _ I h) λus s1 ⟨vs,H1,I1,r1,q1⟩=>?_) hs rfl));obtain⟨j,e,q1,q2,q⟩:=q1;subst e;cases r1 with
 |cons r rr=>
  cases rr
  obtain⟨t,rfl⟩:=r
  exact call_range_1 (ya I1 (by lia) (by lia) q1 q2 (by simpa using q))
def jW (fp:List Addr)(h:Heap):List (Addr×Obj):=fp.filterMap λb=>(h.get? b).map λo=>(b,o)
theorem bG {fp:List Addr}{h:Heap}{b:Addr}{o:Obj}(hb:b∈fp)(e:h.get? b=some o):(b,o)∈jW fp h:=ML.mpr ⟨b,hb,by rw[e];rfl⟩
theorem wF {fp:List Addr}{h:Heap}{p:Addr×Obj}(hp:p∈jW fp h):p.1∈fp/\h.get? p.1=some p.2:=by
 obtain⟨b,hb,e⟩:=ML.mp hp;cases q:h.get? b with
 |none=>rw[q] at e;cases e
 |some o=>
  rw[q] at e
  have e':(b,o)=p:=JU e
  subst e'
  exact⟨hb,q⟩
theorem Inv.pinned {pins:List (Addr×Obj)}{σ:St}{H:Hp}{s:Shared}{fp:List Addr}(I:Inv X pins σ H s)(hf:∀b∈fp,gR X pins H b)(ho:∀b∈fp,∃o,s.heap.get? b=some o/\∀v,o.data≠ .cell v):Inv X (pins++jW fp s.heap) σ H s:=
 I.pins_of λp hp=>(JD.mp hp).elim (λz=>I.pin p (JE _ z)) λz=>by
  obtain⟨hb,e⟩:=wF z;obtain⟨f0,f1,f2,_⟩:=hf p.1 hb;obtain⟨o,e',d⟩:=ho p.1 hb;rw[e] at e';cases e';exact⟨e,f0,f1,f2,d⟩
theorem Inv.unpinned {pins pl:List (Addr×Obj)}{σ:St}{H:Hp}{s:Shared}(I:Inv X (pins++pl) σ H s):Inv X pins σ H s:=I.pins_of λp hp=>I.pin p (JE _ (JB _ hp))
end
abbrev R2:=V->V->Hp->VK->Prop
def OpR (X:Cx)(f:Value->Value->Sem Value)(r:R2):Prop:=
 ∀(pins:List (Addr×Obj)) (s:Shared) (σ:St) (H:Hp) (x y:V) (v u:Value) (Q:VK),Inv X pins σ H s->RelV x v->RelV y u->r x y H Q->
  wpAny (model X.prog X.w) X.A (f v u) (EP X pins σ Q) X.xe s
def CallR (X:Cx)(f:Value)(r:List V->Hp->VK->Prop):Prop:=
 ∀(pins:List (Addr×Obj)) (s:Shared) (σ:St) (H:Hp) (xs:List V) (us:List Value) (Q:VK),Inv X pins σ H s->Vals xs us->r xs H Q->
  wpAny (model X.prog X.w) X.A (call f us) (EP X pins σ Q) X.xe s
def HD (X:Cx)(r:V->Hp->(Bool->Hp->Prop)->Prop):Prop:=
 ∀(pins:List (Addr×Obj)) (s:Shared) (σ:St) (H:Hp) (x:V) (v:Value) (Q:Bool->Hp->Prop),Inv X pins σ H s->RelV x v->r x H Q->
  wpAny (model X.prog X.w) X.A (truthy v) (TP X pins σ Q) X.xe s
def Aj (r:R2)(ta tb:TE):TE:=λσ H Q=>ta σ H λx H1=>tb σ H1 λy H2=>r x y H2 Q
def rI (C:Int->Int->Prop)(g:Int->Int->V):R2:=λx y H Q=>∃i j,x= .int i/\y= .int j/\C i j/\Q (g i j) H
def zY (g:Int->Int->V):R2:=λx y H Q=>∃i j,x= .int i/\y= .int j/\Q (g i j) H
section
variable {X:Cx} {a b c:Expr} {ta tb tc:TE} {pos:Pos}
theorem DX (ha:PE X a ta)(hb:PE X b tb){pins:List (Addr×Obj)}{s:Shared}{σ:St}{H:Hp}{R:V->V->Hp->Prop}(I:Inv X pins σ H s)
  (h:ta σ H λx H1=>tb σ H1 λy H2=>R x y H2) {Q:Value->Shared->Prop} {f:Value->Value->Sem Value}
  (hf:∀v u s2 x y H2,Inv X pins σ H2 s2->RelV x v->RelV y u->R x y H2->wpAny (model X.prog X.w) X.A (f v u) Q X.xe s2):
  wpAny (model X.prog X.w) X.A (eval a X.env) (λv s₁=>wpAny (model X.prog X.w) X.A (eval b X.env) (λu s₂=>wpAny (model X.prog X.w) X.A (f v u) Q X.xe s₂) X.xe s₁) X.xe s:=by
 refine P0 (ha pins s σ H _ I h) λv s1 ⟨x,H1,I1,r1,q1⟩=>?_
 refine P0 (hb pins s1 σ H1 _ I1 q1) λu s2 ⟨y,H2,I2,r2,q2⟩=>?_
 exact hf v u s2 x y H2 I2 r1 r2 q2
theorem Fc {op:Operator}{r:R2}(ho:OpR X (binaryOp op) r)(ha:PE X a ta)(hb:PE X b tb):PE X (.BinOp a op b pos) (Aj r ta tb):=by
 intro pins s σ H Q I h;exact wpAny_BinOp (DX ha hb I h λv u s2 x y H2 I2 rx ry q=>ho pins s2 σ H2 x y v u Q I2 rx ry q)
theorem Hm {f:Value->Value->Sem Value}{C:Int->Int->Prop}{g:Int->Int->Int}
  (rule:∀(i j:Int) (t u:Tok) (s:Shared) (Q:Value->Shared->Prop) (E:Value->Shared->Prop),C i j->Q (.int (g i j) s.toks) {s with toks:=s.toks+1}->wpAny (model X.prog X.w) X.A (f (.int i t) (.int j u)) Q E s):
  OpR X f (rI C λi j=> .int (g i j)):=by
 intro pins s σ H x y v u Q I rx ry h
 obtain⟨i,j,rfl,rfl,hc,q⟩:=h
 obtain⟨t,rfl⟩:=rx
 obtain⟨t',rfl⟩:=ry
 exact rule i j t t' s _ _ hc ⟨.int (g i j),H,I.tok _,⟨_,rfl⟩,q⟩
theorem DE {f:Value->Value->Sem Value}{g:Int->Int->Int}
  (rule:∀(i j:Int) (t u:Tok) (s:Shared) (Q:Value->Shared->Prop) (E:Value->Shared->Prop),Q (.int (g i j) s.toks) {s with toks:=s.toks+1}->wpAny (model X.prog X.w) X.A (f (.int i t) (.int j u)) Q E s):
  OpR X f (zY λi j=> .int (g i j)):=by
 intro pins s σ H x y v u Q I rx ry h
 obtain⟨i,j,rfl,rfl,q⟩:=h
 obtain⟨t,rfl⟩:=rx
 obtain⟨t',rfl⟩:=ry
 exact rule i j t t' s _ _ ⟨.int (g i j),H,I.tok _,⟨_,rfl⟩,q⟩
theorem Ef {f:Value->Value->Sem Value}{g:Int->Int->Bool}
  (rule:∀(i j:Int) (t u:Tok) (s:Shared) (Q:Value->Shared->Prop) (E:Value->Shared->Prop),Q (.bool (g i j)) s->wpAny (model X.prog X.w) X.A (f (.int i t) (.int j u)) Q E s):
  OpR X f (zY λi j=> .bl (g i j)):=by
 intro pins s σ H x y v u Q I rx ry h
 obtain⟨i,j,rfl,rfl,q⟩:=h
 obtain⟨t,rfl⟩:=rx
 obtain⟨t',rfl⟩:=ry
 exact rule i j t t' s _ _ ⟨.bl (g i j),H,I,rfl,q⟩
def GG (i j:Int):Prop:=0<j/\j<1073741824
def HV (i j:Int):Prop:=0<=j/\j<=1000000/\i.natAbs<2 ^ 64
def CMul (i j:Int):Prop:=(-(2 ^ 64)<i/\i<2 ^ 64)\/(-(2 ^ 64)<j/\j<2 ^ 64)
theorem CMul.ok {i j:Int}(h:CMul i j):IntMulOk i j:=by
 rcases h with⟨h1,h2⟩|⟨h1,h2⟩
 .exact .of_left (intBits_le_64 h1 h2)
 .exact .of_right (intBits_le_64 h1 h2)
theorem tQ (k:Nat):(0:Int)<=2 ^ k:=by
 rw[two_pow_cast];exact Int.natCast_nonneg _
theorem op_add:OpR X (binaryOp .Add) (zY λi j=> .int (i+j)):=DE λ_ _ _ _ _ _ _ q=>add_int q
theorem zb:OpR X (binaryOp .Sub) (zY λi j=> .int (i -j)):=DE λ_ _ _ _ _ _ _ q=>sub_int q
theorem op_mul:OpR X (binaryOp .Mult) (rI CMul λi j=> .int (i*j)):=Hm λ_ _ _ _ _ _ _ hc q=>mul_int q hc.ok
theorem F2:OpR X (binaryOp .FloorDiv) (rI GG λi j=> .int (i/j)):=Hm λi j _ _ _ _ _ hc q=>by
 have h1:(0:Int)<j:=hc.1;have h2:j<1073741824:=hc.2;exact floordiv_int (by lia) (by rw[Nv i (by lia)];exact q) (.inl (PyProof.noPylong_small (by lia)))
theorem A1:OpR X (binaryOp .Mod) (rI (λ_ j=>0<j) λi j=> .int (i % j)):=Hm λi j _ _ _ _ _ hc q=>by
 have h1:(0:Int)<j:=hc;exact mod_int' (by lia) (by rw[Int.fmod_eq_emod_of_nonneg i (by lia)];exact q)
theorem zp:OpR X (binaryOp .RShift) (rI (λ_ j=>0<=j) λi j=> .int (i/2 ^ j.toNat)):=Hm λi j _ _ _ _ _ hc q=>
 rshift_int hc (by rw[Nv i (tQ _)];exact q)
theorem xZ:OpR X (binaryOp .BitAnd) (zY λi j=> .int (Builtin.bitAnd i j)):=DE λ_ _ _ _ _ _ _ q=>and_int q
end
def FD:V->V->Bool
 | .non,.non=>true| .non,.int _=>true| .int _,.non=>true| .non,.bl _=>true| .bl _,.non=>true| .non,.str _=>true| .str _,.non=>true
 | .int _,.int _=>true| .bl _,.bl _=>true| .str _,.str _=>true| .byt _,.byt _=>true
 | .int _,.str _=>true| .str _,.int _=>true| .bl _,.str _=>true| .str _,.bl _=>true
 |_,_=>false
def Hu:R2:=λx y H Q=>FD x y=true/\Q (.bl (decide (x=y))) H
def IC:R2:=λx y H Q=>FD x y=true/\Q (.bl (!decide (x=y))) H
theorem jm {i j:Int}:decide (V.int i=V.int j)=(i==j):=by
 rw[Kw];simp
theorem xV {i j:Bool}:decide (V.bl i=V.bl j)=(i==j):=by
 rw[Kw];simp
theorem pJ {i j:Str}:decide (V.str i=V.str j)=(i==j):=by
 rw[Kw];simp
theorem uB {i j:Array UInt8}:decide (V.byt i=V.byt j)=(i.toList==j.toList):=by
 rw[Kw];cases i;cases j;simp
section
variable {X:Cx} {a b c:Expr} {ta tb tc:TE} {pos:Pos}
theorem C4 {pins:List (Addr×Obj)}{σ:St}{H:Hp}{s:Shared}{Q:VK}{k k':Bool}(I:Inv X pins σ H s)(q:Q (.bl k) H)(e:k=k'):EP X pins σ Q (.bool k') s:=by
 subst e;exact⟨.bl k,H,I,rfl,q⟩
theorem op_eq:OpR X (compareOp .Eq) Hu:=by
 intro pins s σ H x y v u Q I rx ry h;obtain⟨hs,q⟩:=h;cases x with
 |non=>
  cases rx
  cases y with
  |non=>cases ry;exact PySem.EqNone.eq_none_none (C4 I q (by simp))
  |bl j=>cases ry;exact PySem.EqNone.eq_none_bool (C4 I q (by simp))
  |int j=>obtain⟨t',rfl⟩:=ry;exact PySem.EqNone.eq_none_int (C4 I q (by simp))
  |str j=>obtain⟨t',rfl⟩:=ry;exact PySem.EqNone.eq_none_str (C4 I q (by simp))
  |_=>exact absurd (show false=true from hs) Ks
 |bl i=>
  cases rx
  cases y with
  |non=>cases ry;exact PySem.EqNone.eq_bool_none (C4 I q (by simp))
  |bl j=>cases ry;exact eq_bool (C4 I q xV)
  |str j=>obtain⟨t',rfl⟩:=ry;exact PySem.EqMixed.eq_bool_str (C4 I q (by simp))
  |_=>exact absurd (show false=true from hs) Ks
 |int i=>
  obtain⟨t,rfl⟩:=rx
  cases y with
  |non=>cases ry;exact PySem.EqNone.eq_int_none (C4 I q (by simp))
  |int j=>obtain⟨t',rfl⟩:=ry;exact eq_int (C4 I q jm)
  |str j=>obtain⟨t',rfl⟩:=ry;exact PySem.EqMixed.eq_int_str (C4 I q (by simp))
  |_=>exact absurd (show false=true from hs) Ks
 |str i=>
  obtain⟨t,rfl⟩:=rx
  cases y with
  |non=>cases ry;exact PySem.EqNone.eq_str_none (C4 I q (by simp))
  |bl j=>cases ry;exact PySem.EqMixed.eq_str_bool (C4 I q (by simp))
  |int j=>obtain⟨t',rfl⟩:=ry;exact PySem.EqMixed.eq_str_int (C4 I q (by simp))
  |str j=>obtain⟨t',rfl⟩:=ry;exact eq_str (C4 I q pJ)
  |_=>exact absurd (show false=true from hs) Ks
 |byt i=>
  obtain⟨t,rfl⟩:=rx
  cases y with
  |byt j=>obtain⟨t',rfl⟩:=ry;exact PySem.W.eq_bytes (C4 I q uB)
  |_=>exact absurd (show false=true from hs) Ks
 |_=>cases y<;>exact absurd (show false=true from hs) Ks
theorem op_ne:OpR X (compareOp .NotEq) IC:=by
 intro pins s σ H x y v u Q I rx ry h;obtain⟨hs,q⟩:=h;cases x with
 |non=>
  cases rx
  cases y with
  |non=>cases ry;exact PySem.EqNone.ne_none_none (C4 I q (by simp))
  |bl j=>cases ry;exact PySem.EqNone.ne_none_bool (C4 I q (by simp))
  |int j=>obtain⟨t',rfl⟩:=ry;exact PySem.EqNone.ne_none_int (C4 I q (by simp))
  |str j=>obtain⟨t',rfl⟩:=ry;exact PySem.EqNone.ne_none_str (C4 I q (by simp))
  |_=>exact absurd (show false=true from hs) Ks
 |bl i=>
  cases rx
  cases y with
  |non=>cases ry;exact PySem.EqNone.ne_bool_none (C4 I q (by simp))
  |bl j=>cases ry;exact ne_bool (C4 I q (KQ not xV))
  |str j=>obtain⟨t',rfl⟩:=ry;exact PySem.EqMixed.ne_bool_str (C4 I q (by simp))
  |_=>exact absurd (show false=true from hs) Ks
 |int i=>
  obtain⟨t,rfl⟩:=rx
  cases y with
  |non=>cases ry;exact PySem.EqNone.ne_int_none (C4 I q (by simp))
  |int j=>obtain⟨t',rfl⟩:=ry;exact ne_int (C4 I q (KQ not jm))
  |str j=>obtain⟨t',rfl⟩:=ry;exact PySem.EqMixed.ne_int_str (C4 I q (by simp))
  |_=>exact absurd (show false=true from hs) Ks
 |str i=>
  obtain⟨t,rfl⟩:=rx
  cases y with
  |non=>cases ry;exact PySem.EqNone.ne_str_none (C4 I q (by simp))
  |bl j=>cases ry;exact PySem.EqMixed.ne_str_bool (C4 I q (by simp))
  |int j=>obtain⟨t',rfl⟩:=ry;exact PySem.EqMixed.ne_str_int (C4 I q (by simp))
  |str j=>obtain⟨t',rfl⟩:=ry;exact ne_str (C4 I q (KQ not pJ))
  |_=>exact absurd (show false=true from hs) Ks
 |byt i=>
  obtain⟨t,rfl⟩:=rx
  cases y with
  |byt j=>obtain⟨t',rfl⟩:=ry;exact PySem.W.ne_bytes (C4 I q (KQ not uB))
  |_=>exact absurd (show false=true from hs) Ks
 |_=>cases y<;>exact absurd (show false=true from hs) Ks
theorem op_lt:OpR X (compareOp .Lt) (zY λi j=> .bl (decide (i<j))):=Ef λ_ _ _ _ _ _ _ q=>lt_int q
theorem GI:OpR X (compareOp .LtE) (zY λi j=> .bl (decide (i<=j))):=Ef λ_ _ _ _ _ _ _ q=>le_int q
theorem yY:OpR X (compareOp .Gt) (zY λi j=> .bl (decide (j<i))):=Ef λ_ _ _ _ _ _ _ q=>gt_int q
theorem wG:OpR X (compareOp .Lt) (λx y H Q=>∃i j,x= .str i/\y= .str j/\Q (.bl (decide (i.cps.toList<j.cps.toList))) H):=by
 intro pins s σ H x y v u Q I rx ry h;obtain⟨i,j,rfl,rfl,q⟩:=h;obtain⟨t,rfl⟩:=rx;obtain⟨t',rfl⟩:=ry;exact lt_str (C4 I q rfl)
theorem vm:OpR X (compareOp .In) (λx y H Q=>∃i j,x= .str i/\y= .str j/\Q (.bl (!(Builtin.Str.occurrences j i 0 j.length 1).isEmpty)) H):=by
 intro pins s σ H x y v u Q I rx ry h;obtain⟨i,j,rfl,rfl,q⟩:=h;obtain⟨t,rfl⟩:=rx;obtain⟨t',rfl⟩:=ry;exact in_str (C4 I q rfl)
theorem OpR.or {f:Value->Value->Sem Value}{r r':R2}(h:OpR X f r)(h':OpR X f r'):OpR X f (λx y H Q=>r x y H Q\/r' x y H Q):=by
 intro pins s σ H x y v u Q I rx ry q;rcases q with q|q
 .exact h pins s σ H x y v u Q I rx ry q
 .exact h' pins s σ H x y v u Q I rx ry q
theorem u7 (b:Expr){op:CmpOp}(h:op≠ .In:=by decide)(h2:op≠ .NotIn:=by decide):behindInMarks op b=false:=by
 have e1:(op==CmpOp.In)=false:=by cases op<;>first|rfl|exact absurd rfl h
 have e2:(op==CmpOp.NotIn)=false:=by cases op<;>first|rfl|exact absurd rfl h2
 cases b<;>simp [behindInMarks,e1,e2]
theorem Ba {op:CmpOp}{r:R2}(ho:OpR X (compareOp op) r)(ha:PE X a ta)(hb:PE X b tb)(hm:behindInMarks op b=false):PE X (.Compare a [op] [b] pos) (Aj r ta tb):=by
 intro pins s σ H Q I h;exact wpAny_Compare1 (DX ha hb I h λv u s2 x y H2 I2 rx ry q=>ho pins s2 σ H2 x y v u Q I2 rx ry q) hm
def yH (t:TE):TT:=λσ H Q=>t σ H λx H'=>∃k,x= .bl k/\Q k H'
theorem Bx {op:CmpOp}{r:R2}(ho:OpR X (compareOp op) r)(ha:PE X a ta)(hb:PE X b tb)(hm:behindInMarks op b=false):PT X (.Compare a [op] [b] pos) (yH (Aj r ta tb)):=by
 intro pins s σ H Q I h;refine wpAny_isTrue_Compare1 (P0 (ha pins s σ H _ I h) λv s1 ⟨x,H1,I1,r1,q1⟩=>P0 (hb pins s1 σ H1 _ I1 q1) λu s2 ⟨y,H2,I2,r2,q2⟩=>
  P0 (ho pins s2 σ H2 x y v u _ I2 r1 r2 q2) λc s3 ⟨z,H3,I3,r3,k,e,q3⟩=>?_) hm
 subst e;cases r3;exact Lx ⟨H3,I3,q3⟩
def Af (K:Qe)(x:V)(H:Hp)(k:Bool):Prop:=
 match x with
 | .non=>k=false
 | .bl b=>k=b
 | .int i=>k=(i !=0)
 | .str y=>y.length<=sizeLine/\k=((y.length:Int) !=0)
 | .byt y=>y.size<=sizeLine/\k=((y.size:Int) !=0)
 | .ref p=>(∃xs,SqL K H p xs/\k=!xs.isEmpty)\/(∃xs,SqT K H p xs/\k=!xs.isEmpty)\/∃kvs,H p=some (.dK kvs)/\k=!kvs.isEmpty
 |_=>False
theorem sx {κ:Type}{kvs:List (κ×V)}{vs:List (κ×Value)}(r:KV kvs vs):(!vs.isEmpty)=!kvs.isEmpty:=by
 cases r<;>rfl
theorem jJ {xs:List V}{a_:List Value}(r:Vals xs a_):(!a_.toArray.isEmpty)=!xs.isEmpty:=by
 cases r<;>simp
theorem gU:(sizeLine:Nat)<2 ^ 63:=by rw[OR];decide
theorem DP:HD X (λx H Q=>∃k,Af X.K x H k/\Q k H):=by
 intro pins s σ H x v Q I rx h;obtain⟨k,e,q⟩:=h;have hl:=gU;have hs:sizeLine=16777216:=OR;cases x with
 |non=>
  cases rx
  have e':k=false:=e
  subst e'
  exact truthy_none ⟨H,I,q⟩
 |bl b=>
  cases rx
  have e':k=b:=e
  subst e'
  exact Lx ⟨H,I,q⟩
 |int i=>
  obtain⟨t,rfl⟩:=rx
  have e':k=(i !=0):=e
  subst e'
  exact PySem.P.truthy_int ⟨H,I,q⟩
 |str y=>
  obtain⟨t,rfl⟩:=rx
  obtain⟨hy,e'⟩:y.length<=sizeLine/\k=((y.length:Int) !=0):=e
  subst e'
  exact PySem.P.truthy_str (by lia) ⟨H,I.tok _,q⟩
 |byt y=>
  obtain⟨t,rfl⟩:=rx
  obtain⟨hy,e'⟩:y.size<=sizeLine/\k=((y.size:Int) !=0):=e
  subst e'
  exact PySem.W.truthy_bytes (by lia) ⟨H,I.tok _,q⟩
 |ref p=>
  cases rx
  have e':(∃xs,SqL X.K H p xs/\k=!xs.isEmpty)\/(∃xs,SqT X.K H p xs/\k=!xs.isEmpty)\/∃kvs,H p=some (.dK kvs)/\k=!kvs.isEmpty:=e
  rcases e' with⟨xs,hx,e'⟩|⟨xs,hx,e'⟩|⟨kvs,hx,e'⟩
  .subst e'
   obtain⟨a_,r,pl,hz⟩:=I.list hx
   have hlen:=r.length
   exact wpAny_truthy_list pl.isList (by simp only[Kc];lia) ⟨H,I.tok _,by rw[jJ r];exact q⟩
  .subst e'
   obtain⟨a_,r,pl,hz⟩:=I.tuple hx
   have hlen:=r.length
   exact truthy_tuple pl (by simp only[Kc];lia) ⟨H,I.tok _,by rw[jJ r];exact q⟩
  .subst e'
   obtain⟨hz,hS,vs,r,m⟩:kvs.length<=sizeLine/\(p==sysModules)=false/\∃vs,KV kvs vs/\s.heap.DictOf (p4 X.prog X.w) p vs:=I.hok p _ hx
   have hlen:kvs.length=vs.length:=Kr r
   exact wpAny_truthy_dict hS m (by lia) ⟨H,I.tok _,by rw[sx r];exact q⟩
 |_=>exact(show False from e).elim
theorem xT (ha:PE X a ta)(he:∀whole,isTrue a X.env whole=(do let v←whole;standAt a.pos;holding [v] (truthy v))):
  PT X a (λσ H Q=>ta σ H λx H'=>∃k,Af X.K x H' k/\Q k H'):=by
 intro pins s σ H Q I h
 exact isTrue_plain (P0 (ha pins s σ H _ I h) λv s1 ⟨x,H1,I1,r1,q1⟩=>DP pins s1 σ H1 x v Q I1 r1 q1) (he _)
theorem op_add_str:OpR X (binaryOp .Add) (λx y H Q=>∃i j,x= .str i/\y= .str j/\i.length+j.length<=sizeLine/\Q (.str (i++j)) H):=by
 intro pins s σ H x y v u Q I rx ry h;obtain⟨i,j,rfl,rfl,hz,q⟩:=h;obtain⟨t,rfl⟩:=rx;obtain⟨t',rfl⟩:=ry;exact add_str (λt' tk=>⟨.str (i++j),H,I.tok _,⟨_,rfl⟩,q⟩) hz
theorem R5 {x:V}{us:List Value}(r:Vals [x] us):∃u,us=[u]/\RelV x u:=by
 cases r with
 |cons r1 r2=>cases r2;exact⟨_,rfl,r1⟩
theorem bu {x y:V}{us:List Value}(r:Vals [x,y] us):∃u w',us=[u,w']/\RelV x u/\RelV y w':=by
 cases r with
 |cons r1 r2=>
  cases r2 with
  |cons r3 r4=>cases r4;exact⟨_,_,rfl,r1,r3⟩
theorem mE (hc:X.calm=true):CallR X (.builtin "min") (λxs H Q=>∃i j,xs=[.int i,.int j]/\Q (.int (if j<i then j else i)) H):=by
 intro pins s σ H xs us Q I r h;obtain⟨i,j,rfl,q⟩:=h;obtain⟨u,w',rfl,⟨t,rfl⟩,⟨t',rfl⟩⟩:=bu r;refine min_two_ints (I.ok.hd hc) λh' tk k=>⟨_,H,I.kept k,?_,q⟩
 by_cases hj:j<i
 .rw[if_pos hj,if_pos hj];exact⟨_,rfl⟩
 .rw[if_neg hj,if_neg hj];exact⟨_,rfl⟩
theorem hU:CallR X (.type "int") (λxs H Q=>(∃i,xs=[.int i]/\Q (.int i) H)\/∃k,xs=[.bl k]/\Q (.int (if k then 1 else 0)) H):=by
 intro pins s σ H xs us Q I r h;rcases h with⟨i,rfl,q⟩|⟨k,rfl,q⟩
 .obtain⟨u,rfl,t,rfl⟩:=R5 r;exact call_int_int ⟨.int i,H,I,⟨_,rfl⟩,q⟩
 .obtain⟨u,rfl,r1⟩:=R5 r;cases r1;exact call_int_bool ⟨.int (if k then 1 else 0),H,I.tok _,⟨_,rfl⟩,q⟩
def EW (K:Qe)(x:V)(H:Hp)(n:Nat):Prop:=
 match x with
 | .str y=>y.length<=sizeLine/\n=y.length
 | .byt y=>y.size<=sizeLine/\n=y.size
 | .ref p=>(∃xs,SqL K H p xs/\n=xs.length)\/∃xs,SqT K H p xs/\n=xs.length
 |_=>False
theorem call_len:CallR X (.builtin "len") (λxs H Q=>∃x n,xs=[x]/\EW X.K x H n/\Q (.int n) H):=by
 intro pins s σ H xs us Q I r h;obtain⟨x,n,rfl,e,q⟩:=h;obtain⟨u,rfl,rx⟩:=R5 r;have hl:=gU;have hs:sizeLine=16777216:=OR;cases x with
 |str y=>
  obtain⟨t,rfl⟩:=rx
  obtain⟨hy,e'⟩:y.length<=sizeLine/\n=y.length:=e
  subst e'
  exact len_str (by lia) ⟨.int _,H,I.tok _,⟨_,rfl⟩,q⟩
 |byt y=>
  obtain⟨t,rfl⟩:=rx
  obtain⟨hy,e'⟩:y.size<=sizeLine/\n=y.size:=e
  subst e'
  exact PySem.W.len_bytes (by lia) ⟨.int _,H,I.tok _,⟨_,rfl⟩,q⟩
 |ref p=>
  cases rx
  have e':(∃xs,SqL X.K H p xs/\n=xs.length)\/∃xs,SqT X.K H p xs/\n=xs.length:=e
  rcases e' with⟨xs,hx,e'⟩|⟨xs,hx,e'⟩
  .subst e'
   obtain⟨a_,r',pl,hz⟩:=I.list hx
   have hlen:=r'.length
   exact Calls.call_len_list pl.isList (by simp only[Kc];lia) ⟨.int xs.length,H,I.tok _,⟨_,by simp only[Kc];rw[hlen]⟩,q⟩
  .subst e'
   obtain⟨a_,r',pl,hz⟩:=I.tuple hx
   have hlen:=r'.length
   exact len_tuple pl (by simp only[Kc];lia) ⟨.int xs.length,H,I.tok _,⟨_,by simp only[Kc];rw[hlen]⟩,q⟩
 |_=>exact(show False from e).elim
end
structure IZ (h:Heap) (x dx C:Addr) (mA:Str->Option Value):Prop where
 obj:h.get? x=some (PySem.W.instObj C dx)
 ns:h.Ns1 dx mA
 ne:dx≠x
section
variable {prog:Program} {w:World} {A:Around} {E:Value->Shared->Prop} {s:Shared} {K:Qe} {x dx C f:Addr} {mA:Str->Option Value} {name:Str} {v:Value}
end
theorem RelO.some_of {v:V}{o:Option Value}(r:RelO (some v) o):∃u,o=some u/\RelV v u:=by
 cases o with
 |none=>exact(show False from r).elim
 |some u=>exact⟨u,rfl,r⟩
section
variable {P:Program} {w:World} {H H':Hp} {h h':Heap} {a C dx:Addr} {fs fs':List (Str×V)}
end
structure Jf (K:Qe) (C:Addr):Prop where
 pg:PySem.W.plainGet K C Str.empty=true
 hd:PySem.W.hasDictIn K C=true
 po:PySem.W.plainOver K C=true
 sa:PySem.W.findIn K (.ref C) "__setattr__"=some (some (.builtin "object.__setattr__"))
structure Jv (K:Qe) (C:Addr) (f:Str) (v:V) (u:Value):Prop where
 at_:PySem.W.findIn K (.ref C) f=some (some u)
 rel:RelV v u
 get:PySem.W.specialIn K u "__get__"=some none
 cp:PySem.W.copiedNames.contains f=false
structure Jn (K:Qe) (C:Addr) (m:Str) (f:Addr):Prop where
 at_:PySem.W.findIn K (.ref C) m=some (some (.ref f))
 fn:PySem.W.isFn K (.ref f)=true
 kp:PySem.W.keepIn K (.ref f)=true
section
variable {X:Cx} {pins:List (Addr×Obj)} {σ:St} {H:Hp} {s:Shared} {a C dx:Addr} {fs:List (Str×V)} {f:Str} {v:V} {A:Around} {E:Value->Shared->Prop}
end
section
variable {X:Cx} {o e value:Expr} {f:Str} {pos pos' u_:Pos} {ta tv:TE}
end
section
variable {X:Cx} {pins:List (Addr×Obj)} {σ:St} {H:Hp} {s:Shared} {A:Around} {E:Value->Shared->Prop} {Q:Value->Shared->Prop} {c:Value} {b:Bool}
inductive jy (K:Qe) (H:Hp):V->Value->Prop where
 |non:jy K H .non (.type "NoneType")
 |bl (x:Bool):jy K H (.bl x) (.type "bool")
 |int (i:Int):jy K H (.int i) (.type "int")
 |str (x:Str):jy K H (.str x) (.type "str")
 |flt (x:UInt64):jy K H (.flt x) (.type "float")
 |lst {a:Addr} {xs:List V} (e:H a=some (.lst xs)):jy K H (.ref a) (.type "list")
 |frz {a:Addr} {o:Obj} {xs:List V} (e:H a=some (.frz o (.lst xs))):jy K H (.ref a) (.type "list")
 |tup {a:Addr} {xs:List V} (e:H a=some (.tup xs)):jy K H (.ref a) (.type "tuple")
 |dK {a:Addr} {kvs:List (j0×V)} (e:H a=some (.dK kvs)):jy K H (.ref a) (.type "dict")
 |dT {a:Addr} {kvs:List (List j0×V)} (e:H a=some (.dT kvs)):jy K H (.ref a) (.type "dict")
 |ins {a C dx:Addr} {fs:List (Str×V)} (e:H a=some (.ins C dx fs)) (cl:Jf K C) (ha:PySem.W.findIn K (.ref C) "__class__"=some (some (.builtin "object.__class__")))
   (hn:PySem.W.specialIn K (.builtin "object.__class__") "__get__"=some (some (.builtin "getset_descriptor.__get__"))) (Tf:PySem.W.takesIn K (.builtin "object.__class__")=some true)
   (hm:PySem.W.mroIn K C (.type "object")=some true):jy K H (.ref a) (.ref C)
end
structure Room (k:Nat) (A:Around):Prop where
 hd:A.handled=none
 dp:A.depth+3*k+5<recursionLimit
 un:A.units+16*k+200<cLine
theorem Room.mono {j k:Nat}{A:Around}(r:Room k A)(h:j<=k):Room j A:=⟨r.hd,by have:=r.dp;lia,by have:=r.un;lia⟩
theorem Room.deeper {k:Nat}{A:Around}(r:Room (k+1) A)(env:Env):Room k (A.deeper env):=
 ⟨r.hd,by have:=r.dp;show A.depth+1+3*k+5<_;lia,by have:=r.un;show A.units+3+16*k+200<_;lia⟩
theorem Room.depth {k:Nat}{A:Around}(r:Room k A):A.depth<recursionLimit:=by have:=r.dp;lia
theorem Room.units {k:Nat}{A:Around}(r:Room k A):A.units+64<cLine:=by have:=r.un;lia
def ym:TA:=λ_ H Q=>Q [] H
def pT (ta:TE)(tr:TA):TA:=λσ H Q=>ta σ H λx H1=>tr σ H1 λxs H2=>Q (x::xs) H2
section
variable {X:Cx} {e:Expr} {es:List Expr} {te:TE} {t:TA} {pos:Pos}
theorem DF:PA X [] ym:=λ_ _ _ _ H Q I h=>MZ ⟨[],H,I,.nil,h⟩
theorem Ao (ha:PE X e te)(hr:PA X es t)(hs:starEach (e::es) X.env=(false,eval e X.env)::starEach es X.env:=by rfl):PA X (e::es) (pT te t):=by
 intro pos pins s σ H Q I h;rw[hs];show wpAny _ _ (spliced ((false,eval e X.env)::backTo pos (starEach es X.env))) _ _ s;refine Ml (P0 (ha pins s σ H _ I h) λu s1 ⟨x,H1,I1,r1,q1⟩=>?_);exact P0 (hr pos pins s1 σ H1 _ I1 q1) λus s2 ⟨xs,H2,I2,r2,q2⟩=>⟨x::xs,H2,I2,.cons r1 r2,q2⟩
def CM (t:TA):TE:=λσ H Q=>t σ H λxs H1=>xs.length<=sizeLine/\∀p,H1 p=none->Q (.ref p) (p5 H1 p (.tup xs))
def DL (t:TA):TE:=λσ H Q=>t σ H λxs H1=>xs.length<=sizeLine/\∀p,H1 p=none->Q (.ref p) (p5 H1 p (.lst xs))
theorem Dz {x1}(h:PA X es t):PE X (.Tuple es x1 pos) (CM t):=by
 intro pins s σ H Q I hq;refine wpAny_Tuple_spliced (P0 (h pos pins s σ H _ I hq) λus s1 ⟨xs,H1,I1,r,z,q⟩=>⟨by rw[←r.length];exact z,?_⟩);have hf:H1 s1.heap.objs.size=none:=I1.hok.fresh (JA _);refine⟨.ref s1.heap.objs.size,p5 H1 s1.heap.objs.size (.tup xs),I1.laid (t':=s1.toks) (λb u e=>JI _ e) (JA _) ?_,rfl,q _ hf⟩;exact⟨z,us,r,⟨_,JY _ rfl,rfl,_,rfl⟩⟩
theorem Eb (h:PA X es t):PE X (.List es pos) (DL t):=by
 intro pins s σ H Q I hq;refine wpAny_List_spliced (P0 (h pos pins s σ H _ I hq) λus s1 ⟨xs,H1,I1,r,z,q⟩=>⟨by rw[←r.length];exact z,?_⟩);have hf:H1 s1.heap.objs.size=none:=I1.hok.fresh (JA _);refine⟨.ref s1.heap.objs.size,p5 H1 s1.heap.objs.size (.lst xs),I1.laid (t':=s1.toks) (λb u e=>JI _ e) (JA _) ?_,rfl,q _ hf⟩;exact⟨z,us,0,r,JY _ rfl⟩
end
abbrev Sp:=List V->Hp->VK->XK->Prop
abbrev pQ:=List Env->Hp->Shared->XK->Value->Shared->Prop
structure BF (P:Program) (w:World) (K:Qe) (mg:Str->Option Value) (base:Heap) (A:Around) (outer:List Env) (s:Shared) (H:Hp):Prop where
 frames:A.frames=some outer
 mod:Mod K mg base
 bs:∀b o,base.get? b=some o->s.heap.get? b=some o/\H b=none
 bsz:base.objs.size<=s.heap.objs.size
 funs:s.heap.FunFrames base outer
 frf:∀b∈ck outer,H b=none
 hok:HOk P w H s.heap
 bare:AllBare s.gens
def CE (outer:List Env)(P:Program)(w:World)(H:Hp)(s:Shared)(Q:VK)(u:Value)(s':Shared):Prop:=
 ∃v H',s'.os=s.os/\AllBare s'.gens/\Un (ck outer) [] H H' s.heap s'.heap/\HOk P w H' s'.heap/\RelV v u/\Q v H'
def CR (CX:pQ)(outer:List Env)(P:Program)(w:World)(H:Hp)(s:Shared)(Q:VK)(E:XK)(r:Result)(s':Shared):Prop:=
 match r with
 | .ok (.ret u)=>CE outer P w H s Q u s'
 | .ok _=>False
 | .error e=>CX outer H s E e s'
structure C0 (P:Program) (w:World) (K:Qe) (mg:Str->Option Value) (base:Heap) (CX:pQ) (k:Nat) (f:Addr) (fd:FuncData) (ps:List Str) (sp:Sp):Prop where
 len:∀vs H Q E,sp vs H Q E->vs.length=ps.length
 run:∀(A:Around) (outer:List Env) (s:Shared) (H:Hp) (args:Args) (us:List Value) (vs:List V) (Q:VK) (E:XK),Room k A->BF P w K mg base A outer s H->BindsTo s fd args (ps.zip us)->Vals vs us->sp vs H Q E->
  codeAny (model P w) A (.call (.ref f) args) (CR CX outer P w H s Q E) s
section
variable {X:Cx} {pins:List (Addr×Obj)} {σ:St} {H:Hp} {s s':Shared}
theorem Inv.env0 (I:Inv X pins σ H s):BF X.prog X.w X.K X.mg X.base X.A X.stack s H:=
 ⟨I.ok.frames,I.ok.mod,I.bs,Kg I.ok.bsz I.sz,I.stack,I.stkFree,I.hok,I.bare⟩
theorem Inv.after {Q:VK}{u:Value}(I:Inv X pins σ H s)(h:CE X.stack X.prog X.w H s Q u s'):EP X pins σ Q u s':=by
 obtain⟨v,H',os,bare,un,hok,r,q⟩:=h;obtain⟨hh,g,d,t,Sj⟩:=s';obtain rfl:Sj=s.os:=os;exact⟨v,H',I.call (h':=hh) (g':=g) (d':=d) (t':=t) (ch:=[]) un hok bare (λb z=>absurd z (by simp)),r,q⟩
end
def qy (sp:Sp)(E_:List V)(E:XK)(t:TA):TE:=λσ H Q=>t σ H λvs H1=>sp (vs++E_) H1 Q E
def Binds (K:Qe)(fd:FuncData)(ps:List Str)(ds:List Value):Prop:=
 ∀(s:Shared) (us:List Value),K.In s.heap->(us++ds).length=ps.length->BindsTo s fd ⟨us,[]⟩ (ps.zip (us++ds))
theorem Binds.all {K:Qe}{fd:FuncData}{ps:List Str}(h:∀us:List Value,us.length=ps.length->bindArgs fd ⟨us,[]⟩=pure (ps.zip us)):Binds K fd ps []:=λs us _ hl=>by
 rw[Ku] at hl⊢;exact .of_eq (h us hl)
def cD (CX:pQ)(X:Cx)(E:XK):Prop:=∀(pins:List (Addr×Obj)) (σ:St) (H:Hp) (s:Shared) (e:Value) (s':Shared),Inv X pins σ H s->CX X.stack H s E e s'->X.xe e s'
section
variable {X:Cx} {CX:pQ} {k:Nat} {f C:Addr} {fd:FuncData} {ps:List Str} {sp:Sp} {E_:List V} {ds:List Value} {E:XK} {x m:Str} {p pos apos:Pos} {e o:Expr} {es:List Expr} {ta:TE} {t:TA}
theorem Ep {pins:List (Addr×Obj)}{σ:St}{H:Hp}{s:Shared}{Q:VK}{us:List Value}{vs:List V}(F:C0 X.prog X.w X.K X.mg X.base CX k f fd ps sp)(hr:Room k X.A)(hb:Binds X.K fd ps ds)(hd:Vals E_ ds)(hx:cD CX X E)
  (I:Inv X pins σ H s) (r:Vals vs us) (h:sp (vs++E_) H Q E):wpAny (model X.prog X.w) X.A (call (.ref f) us) (EP X pins σ Q) X.xe s:=by
 have r2:Vals (vs++E_) (us++ds):=r.append hd
 have hl:(us++ds).length=ps.length:=by rw[←r2.length];exact F.len _ _ _ _ h
 refine wpAny_call (Nz (F.run X.A X.stack s H ⟨us,[]⟩ (us++ds) (vs++E_) Q E hr I.env0 (hb s us I.kIn hl) r2 h) λr s' hq=>?_)
 cases r with
 |error e=>exact hx pins σ H s e s' I hq
 |ok fl=>
  cases fl with
  |ret u=>exact I.after hq
  |next=>exact False.elim hq
  |brk=>exact False.elim hq
  |cont=>exact False.elim hq
theorem Bs (F:C0 X.prog X.w X.K X.mg X.base CX k f fd ps sp)(hr:Room k X.A)(hg:Gl X x)(hm:X.mg x=some (.ref f))(hk:PySem.W.keepIn X.K (.ref f)=true)(hb:Binds X.K fd ps ds)(hd:Vals E_ ds)(hx:cD CX X E)
  (ha:PA X (e::es) t) (F':(x==("__debug__":Str))=false:=by decide) (he:starEach (e::es) X.env=(false,eval e X.env)::starEach es X.env:=by rfl) (Qu:(backTo pos (starEach es X.env)).any (·.1)=false:=by rfl):
  PE X (.Call (.Name x p) (e::es) [] pos) (qy sp E_ E t):=by
 intro pins s σ H Q I h
 refine Mm (nY I hg hm ?_ F')
 refine PySem.W.callWith_K (h₀:=X.base) I.ok.mod.kin hk (P0 (ha pos pins s σ H _ I h) λus s1 ⟨vs,H1,I1,r,q⟩=>⟨I1.kIn,?_⟩) he Qu
 exact Ep F hr hb hd hx I1 r q
structure Mk (K:Qe) (C f:Addr):Prop where
 makes:PySem.W.makesIn K C=true
 init:PySem.W.findIn K (.ref C) "__init__"=some (some (.ref f))
 fn:PySem.W.isFn K (.ref f)=true
 kp:PySem.W.keepIn K (.ref C)=true
end
section
variable {X:Cx} {CX:pQ} {k:Nat} {f C:Addr} {fd:FuncData} {ps ks:List Str} {sp:Sp} {E:XK} {x m:Str} {p pos apos kpos:Pos} {e o:Expr} {es:List Expr} {kws:List Keyword} {te ta:TE} {t tk:TA} {nm:Option Str}
structure Ij (K:Qe) (fd:FuncData) (ps ks:List Str) (g:List Value->List Value->List Value) (gV:List V->List V->List V):Prop where
 to:∀(s:Shared) (us ws:List Value),K.In s.heap->(g us ws).length=ps.length->BindsTo s fd ⟨us,ks.zip ws⟩ (ps.zip (g us ws))
 rel:∀{vs:List V} {us:List Value} {zs:List V} {ws:List Value},Vals vs us->Vals zs ws->Vals (gV vs zs) (g us ws)
variable {g:List Value->List Value->List Value} {gV:List V->List V->List V}
end
structure j6 (N P:List Str) (sc:Scope):Prop where
 kind:sc.kind= .function
 co:sc.isCoroutine=false
 gen:sc.isGenerator=false
 nd:N.Nodup
 pre:N.take P.length=P
 par:∀x∈P,sc.names.lookup x=some .local\/sc.names.lookup x=some .cell
 nofree:∀y∈sc.names,y.2≠ .free
theorem nE {kindOf:Str->Option NameKind}{x:Str}:∀{binds:List (Str×Value)} {m:Str->Option Value},(∀v,(x,v)∉binds)->bindL kindOf binds m x=m x
 |[],_,_=>rfl
 |(n,v)::r,m,h=>by
  unfold bindL;rw[nE λw hw=>h w (JZ _ hw)];split
  .have:x≠n:=by rintro rfl;exact h v JT
   simp [this]
  .rfl
theorem mG {kindOf:Str->Option NameKind}{x:Str}:∀{binds:List (Str×Value)} {m:Str->Option Value},(∀v,(x,v)∉binds)->bindC kindOf binds m x=m x
 |[],_,_=>rfl
 |(n,v)::r,m,h=>by
  unfold bindC;rw[mG λw hw=>h w (JZ _ hw)];split
  .rfl
  .have:x≠n:=by rintro rfl;exact h v JT
   simp [this]
theorem mf {kindOf:Str->Option NameKind}{x:Str}{v:Value}:∀{P:List Str} {vs:List Value} {i:Nat} {m:Str->Option Value},P.Nodup->P[i]?=some x->vs[i]?=some v->kindOf x=some .local->
  bindL kindOf (P.zip vs) m x=some v
 |[],_,_,_,_,h,_,_=>by simp at h
 |_::_,[],_,_,_,_,h,_=>by simp at h
 |p::P,w::vs,0,m,nd,h1,h2,hk=>by
  simp at h1 h2;subst h1;subst h2;show bindL kindOf ((p,w)::P.zip vs) m p=_;unfold bindL;rw[nE λv hv=>(KN.mp nd).1 (Oj hv).1,if_pos hk];simp
 |p::P,w::vs,i+1,m,nd,h1,h2,hk=>by
  show bindL kindOf ((p,w)::P.zip vs) m x=_;unfold bindL;exact mf (i:=i) (KN.mp nd).2 (by simpa using h1) (by simpa using h2) hk
theorem mq {kindOf:Str->Option NameKind}{x:Str}{v:Value}:∀{P:List Str} {vs:List Value} {i:Nat} {m:Str->Option Value},P.Nodup->P[i]?=some x->vs[i]?=some v->kindOf x≠some .local->
  bindC kindOf (P.zip vs) m x=some v
 |[],_,_,_,_,h,_,_=>by simp at h
 |_::_,[],_,_,_,_,h,_=>by simp at h
 |p::P,w::vs,0,m,nd,h1,h2,hk=>by
  simp at h1 h2;subst h1;subst h2;show bindC kindOf ((p,w)::P.zip vs) m p=_;unfold bindC;rw[mG λv hv=>(KN.mp nd).1 (Oj hv).1,if_neg hk];simp
 |p::P,w::vs,i+1,m,nd,h1,h2,hk=>by
  show bindC kindOf ((p,w)::P.zip vs) m x=_;unfold bindC;exact mq (i:=i) (KN.mp nd).2 (by simpa using h1) (by simpa using h2) hk
def gL (N:List Str)(vs:List V):St:=vs.map some++List.replicate (N.length -vs.length) none
def lE (CX:pQ)(P:Program)(w:World)(K:Qe)(mg:Str->Option Value)(base:Heap)(N:List Str)(qual:Str)(scope:Scope)(f:Addr)(cd:Value)(A:Around)(outer:List Env)(s:Shared)(H:Hp)(E:XK):Cx where
 prog:=P
 w:=w
 K:=K
 mg:=mg
 base:=base
 A:=A.deeper (envOfC qual scope s.heap.objs.size f cd)
 N:=N
 s₀:=s
 H₀:=H
 env:=envOfC qual scope s.heap.objs.size f cd
 outer:=outer
 stack:=envOfC qual scope s.heap.objs.size f cd::outer
 ex:=[]
 calm:=true
 fn:=λ_=>true
 pn:=[]
 xe:=λe s'=>wpAny (model P w) (A.deeper (envOfC qual scope s.heap.objs.size f cd)) («leaving» (envOfC qual scope s.heap.objs.size f cd) e) (λ_ Vb=>CX outer H s E e Vb) (λe' Vb=>CX outer H s E e' Vb) s'
theorem qS {sc:Scope}{n:Nat}{x:Str}(h:sc.names.lookup x=some .cell):∃c,(cellsFrom n sc.names []).lookup x=some c:=by
 have q:=Ob sc.names n [] (.inl h);exact NH.mp q
theorem vD {CX:pQ}{P:Program}{w:World}{K:Qe}{mg:Str->Option Value}{base:Heap}{N ps:List Str}{qual:Str}{scope:Scope}{f:Addr}{cd:Value}{A:Around}{outer:List Env}{s s1:Shared}{H:Hp}{E:XK}{us:List Value}{vs:List V}
  (S:j6 N ps scope) (hd:A.handled=none) (e0:BF P w K mg base A outer s H) (hl:vs.length=ps.length) (r:Vals vs us)
  (x:InCallC s s.heap.objs.size (bindL (envOfC qual scope s.heap.objs.size f cd).kindOf (ps.zip us) λ_=>none) (cellsFrom (s.heap.objs.size+1) scope.names []) (bindC (envOfC qual scope s.heap.objs.size f cd).kindOf (ps.zip us) λ_=>none) s1):
  Inv (lE CX P w K mg base N qual scope f cd A outer s H E) [] (gL N vs) H s1:=by
 have Qu:ps.length<=N.length:=by have:=KQ List.length S.pre;rw[JP] at this;lia
 obtain⟨h1,tk,rfl,hk⟩:=x.done
 have Vc:∀b:Addr,b∉(lE CX P w K mg base N qual scope f cd A outer s H E).ex:=λb z=>absurd (show b∈([]:List Addr) from z) (by simp)
 refine⟨⟨e0.mod,S.kind,rfl,rfl,JA _,λy z c h1 h2=>?_,λy hy=>?_,λy c _ h=>?_,λ_=>hd,Around.frames_deeper e0.frames,.inr ⟨rfl,rfl⟩,λb z=>absurd z (Vc b),e0.bs,e0.bsz,λb _ _=>Vc b,λb z=>absurd z (Vc b),e0.funs,e0.frf⟩,
  rfl,e0.bare,Un.kept hk,⟨_,x.toInCall.ns,λi y v h1 h2 h3=>?_⟩,λy c h=>⟨_,x.cell y c h⟩,e0.hok.fresh (JA _),λy c h=>?_,λp hp=>absurd (show p∈([]:List (Addr×Obj)) from hp) (by simp),e0.hok.kept hk,?_⟩
 .exact name_of_addr x.apart (Ma h1) (Ma h2)
 .have hy:scope.names.lookup y=some .cell\/scope.names.lookup y=some .free:=hy
  rcases hy with hy|hy
  .exact qS hy
  .exact absurd rfl (S.nofree _ (Ma hy))
 .exact Nc (x.above y c (Ma h))
 .have hi:i<vs.length:=by
   unfold gL at h2;by_cases hi:i<vs.length
   .exact hi
   .rw[Lf (by simpa using hi)] at h2;rw[MM] at h2;split at h2<;>cases h2
  have ha:vs[i]?=some v:=by
   unfold gL at h2;rw[KJ (by simpa using hi),JC] at h2;cases e:vs[i]? with
   |none=>rw[e] at h2;cases h2
   |some a=>rw[e] at h2;cases h2;rfl
  obtain⟨u,hu,rv⟩:=r.get ha
  have hp:ps[i]?=some y:=by
   rw[←S.pre,List.getElem?_take_of_lt (by lia)];exact h1
  have Sk:ps.Nodup:=by rw[←S.pre];exact S.nd.sublist (KO _ _)
  refine⟨u,rv,?_⟩
  rcases S.par y (JM hp) with k|k
  .exact .inl ⟨k,mf Sk hp hu k⟩
  .obtain⟨c,e⟩:=qS (n:=s.heap.objs.size+1) k
   refine .inr ⟨.inl k,c,e,?_⟩
   have q:=x.cell y c e
   rw[mq Sk hp hu (by show scope.names.lookup y≠_;rw[k];decide)] at q
   exact q
 .exact e0.hok.fresh (Nc (x.above y c (Ma h)))
 .unfold gL
  show _=N.length
  rw[JG,Jx,Lp]
  lia
theorem Cn {CX:pQ}{P:Program}{w:World}{K:Qe}{mg:Str->Option Value}{base:Heap}{k:Nat}{f:Addr}{name qual:Str}{params:Arguments}{body:List Stmt}{scope:Scope}{dV kV doc pm c_ ct oc:Value}{an od:Option Addr}
  {Qg:Array (Option Value)} {N ps:List Str} {sp:Sp} (lk:K.lookup f=some ⟨oc,od,.func (PySem.W.fnOf name qual params body scope dV kV doc pm an c_ ct),Qg⟩) (P_:PySem.W.codeIn K c_ qual=true) (S:j6 N ps scope)
  (len:∀vs H Q E,sp vs H Q E->vs.length=ps.length)
  (Oe:∀(A:Around) (outer:List Env) (s:Shared) (H:Hp) (vs:List V) (Q:VK) (E:XK),Room k (A.deeper (envOfC qual scope s.heap.objs.size f c_))->sp vs H Q E->
   ∃t,PSs (lE CX P w K mg base N qual scope f c_ A outer s H E) body t/\t {nx:=λ_ H'=>Q .non H',rt:=Q} (gL N vs) H):
  C0 P w K mg base CX (k+1) f (PySem.W.fnOf name qual params body scope dV kV doc pm an c_ ct) ps sp:=by
 refine⟨len,λA outer s H args us vs Q E hr e0 hb r RQ=>?_⟩
 have hl:=len _ _ _ _ RQ
 have KX:K.In s.heap:=e0.mod.kin.keeps λb o e=>(e0.bs b o e).1
 have lim:s.heap.NoLimit:=e0.mod.nolimit.keeps λb o e=>(e0.bs b o e).1
 have Vd:∀y∈ps.zip us,scope.names.lookup y.1=some .local\/(scope.names.lookup y.1=some .cell/\((cellsFrom (s.heap.objs.size+1) scope.names []).lookup y.1).isSome=true):=fun⟨n,v⟩ hy=>by
  rcases S.par n (Oj hy).1 with q|q
  .exact .inl q
  .exact .inr ⟨q,Ob _ _ _ (.inl q)⟩
 refine codeAny_call_function hr.depth (KX _ _ lk) rfl S.co S.gen rfl (PySem.W.codeRec_of KX P_) (hb _ _ _ _ ?_)
 refine wpAny_newFunctionEnv_cells S.kind Vd λenv he s1 x=>?_
 subst he
 refine⟨lim.keeps x.toInCall.keep,codeAny_func ?_⟩
 obtain⟨t,ht,hq⟩:=Oe A outer s H vs Q E (hr.deeper _) RQ
 have I:Inv (lE CX P w K mg base N qual scope f c_ A outer s H E) [] (gL N vs) H s1:=vD S hr.hd e0 hl r x
 refine OD (ht [] s1 (gL N vs) H _ I hq) (λfl s' hs=>?_) λe s' hs=>hs
 have fin:∀{σ':St} {H':Hp} {v:V} {u:Value},Inv (lE CX P w K mg base N qual scope f c_ A outer s H E) [] σ' H' s'->RelV v u->Q v H'->CE outer P w H s Q u s':=
  fun{σ' H' v u} J rv q=>⟨v,H',J.os,J.bare,J.base,J.hok,rv,q⟩
 cases fl with
 |ret u=>
  obtain⟨v,σ',H',J,rv,q⟩:=hs
  exact fin J rv q
 |next=>
  obtain⟨σ',H',J,q⟩:=hs
  exact fin (v:=V.non) (u:=Value.none) J rfl q
 |brk=>
  obtain⟨_,_,_,q⟩:=hs
  exact False.elim q
 |cont=>
  obtain⟨_,_,_,q⟩:=hs
  exact False.elim q
section
variable {X:Cx} {x:Str} {p pos:Pos} {e:Expr} {es:List Expr} {t:TA} {id T:String} {r:List V->Hp->VK->Prop}
def Ct (r:List V->Hp->VK->Prop)(t:TA):TE:=λσ H Q=>t σ H λvs H1=>r vs H1 Q
theorem xW (hc:CallR X (.builtin id) r)(hg:Gl X x)(hm:X.mg x=none)(hv:bootBuiltins x=some (.builtin id))(ha:PA X (e::es) t)(hn:x≠"__name__":=by decide)(F':(x==("__debug__":Str))=false:=by decide)
  (he:starEach (e::es) X.env=(false,eval e X.env)::starEach es X.env:=by rfl) (Qu:(backTo pos (starEach es X.env)).any (·.1)=false:=by rfl):PE X (.Call (.Name x p) (e::es) [] pos) (Ct r t):=by
 intro pins s σ H Q I h
 refine Mm (cy I hg hm hv ?_ hn F')
 exact PyProof.Rows.callWith_builtin1 (P0 (ha pos pins s σ H _ I h) λus s1 ⟨vs,H1,I1,r1,q1⟩=>hc pins s1 σ H1 vs us Q I1 r1 q1) he Qu
theorem vV (hc:CallR X (.type T) r)(hg:Gl X x)(hm:X.mg x=none)(hv:bootBuiltins x=some (.type T))(ha:PA X (e::es) t)(hn:x≠"__name__":=by decide)(F':(x==("__debug__":Str))=false:=by decide)
  (he:starEach (e::es) X.env=(false,eval e X.env)::starEach es X.env:=by rfl) (Qu:(backTo pos (starEach es X.env)).any (·.1)=false:=by rfl):PE X (.Call (.Name x p) (e::es) [] pos) (Ct r t):=by
 intro pins s σ H Q I h
 refine Mm (cy I hg hm hv ?_ hn F')
 exact Lh (P0 (ha pos pins s σ H _ I h) λus s1 ⟨vs,H1,I1,r1,q1⟩=>hc pins s1 σ H1 vs us Q I1 r1 q1) he Qu
end
end L2
namespace HT
open PySem PyProof.Rows
section
open PySem.SeqAt
open PySem.AutoSeq1 (wpAny_loadPart')
open PySem.MeetsSeq PySem.MeetsSeq2 PySem.MeetsSeq3
end
section
variable {prog:Program} {w:World} {A:Around} {E:Value->Shared->Prop} {s:Shared}
theorem cat_tup {t b:Addr}{vs ws:List Value}{Q:Value->Shared->Prop}(ht:IsTup s.heap t vs.toArray)(hb:IsTup s.heap b ws.toArray)(hv:vs≠[])
  (h1:ws=[]->Q (.ref t) s) (h2:ws≠[]->Q (.ref s.heap.objs.size) {s with heap:=s.heap.push {cls:= .type "tuple",data:= .seq (vs++ws).toArray}})
  (hsz:vs.length+ws.length<=sizeLine):wpAny (model prog w) A (binaryOp .Add (.ref t) (.ref b)) Q E s:=by
 obtain⟨⟨cls,dd,data,sl⟩,ho,hc,n,hd⟩:=id ht
 obtain⟨⟨cls2,dd2,data2,sl2⟩,Qi,QZ,n2,hd2⟩:=id hb
 simp only at hc hd QZ hd2
 subst hc hd QZ hd2
 have e:vs.toArray++ws.toArray=(vs++ws).toArray:=by simp
 by_cases hw:ws=[]
 .exact concat_meets ⟨_,ho,rfl⟩ ⟨_,Qi,rfl⟩ noFill_tuple_add seq_tuple_add Oc NN (NI _ _)
   (tuple_addW1 t b vs.toArray ws.toArray n n2 dd dd2 sl sl2 (by simpa using hv) (by simp [hw])) ⟨ho,Qi,h1 hw⟩
 .refine concat_meets ⟨_,ho,rfl⟩ ⟨_,Qi,rfl⟩ noFill_tuple_add seq_tuple_add Oc NN (NI _ _)
   (tuple_addW2 t b vs.toArray ws.toArray n n2 dd dd2 sl sl2 (by simpa using hv) (by simpa using hw) (by rw[Kc,Kc];exact hsz)) ⟨ho,Qi,?_⟩
  rw[e]
  exact h2 hw
def sIx (n d:Nat):Option Int->Nat
 |none=>d
 |some v=>if v<0 then(v+(n:Int)).toNat else min v.toNat n
theorem sIx_nat (n d k:Nat):sIx n d (some (k:Int))=min k n:=by
 show(if(k:Int)<0 then((k:Int)+(n:Int)).toNat else min (k:Int).toNat n)=min k n;rw[if_neg (by lia),Pu]
theorem EF (n d:Nat)(hd:d<=n)(o:Option Int):sIx n d o<=n:=by
 cases o with
 |none=>exact hd
 |some v=>
  show(if v<0 then(v+(n:Int)).toNat else min v.toNat n)<=n
  by_cases hv:v<0
  .rw[if_pos hv];lia
  .rw[if_neg hv];exact NU _ _
theorem uA (v:Int)(n d:Nat):(if v<0 then max (v+(n:Int)) 0 else min v (n:Int))=((sIx n d (some v):Nat):Int):=by
 show(if v<0 then max (v+(n:Int)) 0 else min v (n:Int))=(((if v<0 then(v+(n:Int)).toNat else min v.toNat n):Nat):Int);by_cases hv:v<0
 .simp only[if_pos hv];lia
 .simp only[if_neg hv];lia
theorem tT (lo hi:Option Int)(n:Nat):Builtin.Slice.sliceAdjust lo hi 1 (n:Int)=(((sIx n 0 lo:Nat):Int),((sIx n n hi:Nat):Int)):=by
 have h1:¬((1:Int)<0):=by lia
 unfold Builtin.Slice.sliceAdjust;simp only[h1,SI];refine Prod.ext ?_ ?_
 .cases lo with
  |none=>rfl
  |some v=>exact uA v n 0
 .cases hi with
  |none=>rfl
  |some v=>exact uA v n n
theorem sE (i j:Nat):Builtin.Slice.slicePlaces (i:Int) (j:Int) 1=j -i:=by
 unfold Builtin.Slice.slicePlaces;have h1:(1:Int)>0:=by lia
 simp only[h1,Ol,Int.ediv_one];split<;>lia
theorem jR {v:Value}{o:Option Int}{Q:Option Int->Shared->Prop}(p:IsPart v o)(h:Q o s):wpAny (model prog w) A (Builtin.Slice.slicePartIndex v) Q E s:=by
 cases p with
 |none=>exact slicePart_none h
 |int i t=>exact slicePart_int h
theorem il {sl:Addr}{vl vu:Value}{lo hi:Option Int}{n:Nat}{Q:Int×Int×Nat->Shared->Prop}(hs:s.heap.IsSliceOf sl vl vu .none)(pl:IsPart vl lo)(pu:IsPart vu hi)
  (h:Q (((sIx n 0 lo:Nat):Int),1,sIx n n hi -sIx n 0 lo) s):wpAny (model prog w) A (Builtin.Slice.sliceApplied (.ref sl) (pure (n:Int))) Q E s:=by
 obtain⟨os,Ve,RT,RU⟩:=id hs
 unfold Builtin.Slice.sliceApplied Builtin.Slice.sliceFields
 refine JL (JL (Mo Ve RU (x:=vl) rfl (JL (Mo Ve RU (x:=vu) rfl (JL (Mo Ve RU (x:= .none) rfl (JW ?_)))))))
 refine JL (slicePart_none ?_)
 show wpAny _ _ (if((1:Int)==0)=true then _ else _) _ _ s
 rw[if_neg (by decide)]
 refine JL (jR pl (JL (jR pu (JL (JW ?_)))))
 show wpAny _ _ (match Builtin.Slice.sliceAdjust lo hi 1 (n:Int) with|(lo,hi)=>pure (lo,(1:Int),Builtin.Slice.slicePlaces lo hi 1)) _ _ s
 rw[tT lo hi n]
 show wpAny _ _ (pure (((sIx n 0 lo:Nat):Int),(1:Int),Builtin.Slice.slicePlaces ((sIx n 0 lo:Nat):Int) ((sIx n n hi:Nat):Int) 1)) _ _ s
 rw[sE]
 exact JW h
theorem yw (xs:Array Value)(i k:Nat):((List.range k).filterMap fun(m:Nat)=>xs[((i:Int)+(m:Int)*1).toNat]?).toArray=((xs.toList.drop i).take k).toArray:=by
 have e:(fun(m:Nat)=>xs[((i:Int)+(m:Int)*1).toNat]?)=λm=>xs[i+m]?:=by
  funext m;have:((i:Int)+(m:Int)*1).toNat=i+m:=by lia
  rw[this]
 rw[e];have:=pick_run xs i k;rw[List.filterMap_map] at this;have e2:((λx=>xs[x]?)∘λx=>i+x)=λm=>xs[i+m]?:=rfl;rw[e2] at this;rw[this]
theorem getItem_tuple_cut {t sl:Addr}{items:Array Value}{vl vu:Value}{lo hi:Option Int}{Q:Value->Shared->Prop}(ht:IsTup s.heap t items)(hs:s.heap.IsSliceOf sl vl vu .none)(pl:IsPart vl lo)(pu:IsPart vu hi)
  (hw:¬(sIx items.size 0 lo=0/\sIx items.size items.size hi=items.size))
  (h:Q (.ref s.heap.objs.size) {s with heap:=s.heap.push {cls:= .type "tuple",data:= .seq ((items.toList.drop (sIx items.size 0 lo)).take (sIx items.size items.size hi -sIx items.size 0 lo)).toArray}})
  (hsz:items.size<=sizeLine):wpAny (model prog w) A (getItem (.ref t) (.ref sl)) Q E s:=by
 have Qj:sizeOk (.seq ((items.toList.drop (sIx items.size 0 lo)).take (sIx items.size items.size hi -sIx items.size 0 lo)).toArray):=by
  show((items.toList.drop (sIx items.size 0 lo)).take (sIx items.size items.size hi -sIx items.size 0 lo)).toArray.size<=sizeLine;rw[Kc,JP,Ni,MH];lia
 have hj:sIx items.size items.size hi<=items.size:=EF _ _ (JA _) hi
 obtain⟨os,Ve,RT,RU⟩:=id hs
 have hTs:s.TypeIs (.ref sl) "slice":=⟨os,Ve,RT⟩
 unfold getItem
 try with_reducible refine La ?_
 first|refine JL (JW ?_)|skip
 refine JL (wpAny_sequenceKey ht.typeIs (by decide) ?_)
 refine JL (MN (name:=Str.ofString "__getitem__") ht.typeIs LV
  (MD LV ht.typeIs entry_tuple_getitem ?_ (args_tuple_getitem _ _)))
 show wpAny _ _ (Builtin.Tuple.tupleItemsOf (.ref t)>>=_) _ _ s
 refine JL (tupleItemsOf_ ht ?_)
 refine JL (NA hTs ?_)
 rw[if_pos (by decide)]
 refine JL (il hs pl pu ?_)
 have g_:¬((((sIx items.size 0 lo:Nat):Int)==0&&(1:Int)==1&&(sIx items.size items.size hi -sIx items.size 0 lo)==items.size)=true):=by
  intro q;rw[Kj,Kj] at q;have q1:((sIx items.size 0 lo:Nat):Int)=0:=eq_of_beq q.1.1;have q2:sIx items.size items.size hi -sIx items.size 0 lo=items.size:=eq_of_beq q.2;exact hw ⟨by lia,by lia⟩
 show wpAny _ _ (if(((sIx items.size 0 lo:Nat):Int)==0&&(1:Int)==1&&(sIx items.size items.size hi -sIx items.size 0 lo)==items.size)=true then _ else _) _ _ s
 rw[if_neg g_,yw]
 first
  |exact JL (m:=Builtin.Tuple.tupleExact _) (LW (JW ⟨_,rfl,JW h⟩) Qj)
  |exact JL (m:=Builtin.Tuple.tupleExact _) (LW (JL (JW (JW ⟨_,rfl,JW h⟩))) Qj)
  |exact JL (JL (m:=Builtin.Tuple.tupleExact _) (LW (JW (JW ⟨_,rfl,JW h⟩)) Qj))
  |exact JL (JL (m:=Builtin.Tuple.tupleExact _) (LW (JW ⟨_,rfl,JW h⟩) Qj))
end
end HT
namespace L2
open PySem PySem.Spec PyProof.Rows
abbrev TO:=St->Hp->(Option Int->Hp->Prop)->Prop
def PO (X:Cx)(e:Option Expr)(t:TO):Prop:=
 ∀(pins:List (Addr×Obj)) (s:Shared) (σ:St) (H:Hp) (Q:Option Int->Hp->Prop),Inv X pins σ H s->t σ H Q->
  wpAny (model X.prog X.w) X.A (evalPart e X.env) (λu s'=>∃o H',Inv X pins σ H' s'/\IsPart u o/\Q o H') X.xe s
def oT:TO:=λ_ H Q=>Q none H
def yD (t:TE):TO:=λσ H Q=>t σ H λx H1=>∃i,x= .int i/\Q (some i) H1
section
variable {X:Cx} {e:Expr} {te:TE} {lo hi:Option Expr} {tl th:TO} {pos p2:Pos}
theorem Bu:PO X none oT:=by
 intro pins s σ H Q I h;rw[evalPart_none];exact JW ⟨none,H,I,.none,h⟩
theorem AV (h:PE X e te):PO X (some e) (yD te):=by
 intro pins s σ H Q I hw;rw[evalPart_some];refine P0 (h pins s σ H _ I hw) λu s1 ⟨x,H1,I1,r1,q1⟩=>?_;obtain⟨i,rfl,q⟩:=q1;obtain⟨t,rfl⟩:=r1;exact⟨some i,H1,I1,.int i t,q⟩
def SlR (X:Cx)(r:V->Option Int->Option Int->Hp->VK->Prop):Prop:=
 ∀(pins:List (Addr×Obj)) (s:Shared) (σ:St) (H:Hp) (x:V) (v vl vu:Value) (lo hi:Option Int) (sl:Addr) (Q:VK),Inv X pins σ H s->RelV x v->s.heap.IsSliceOf sl vl vu .none->IsPart vl lo->IsPart vu hi->r x lo hi H Q->
  ∃T id,typeLookup (.type T) "__getitem__"=pure (some (.builtin id))/\s.TypeIs v T/\wpAny (model X.prog X.w) X.A (getItem v (.ref sl)) (EP X pins σ Q) X.xe s
theorem SlR.or {r r':V->Option Int->Option Int->Hp->VK->Prop}(h:SlR X r)(h':SlR X r'):SlR X (λx lo hi H Q=>r x lo hi H Q\/r' x lo hi H Q):=by grind [SlR]
def HF (r:V->Option Int->Option Int->Hp->VK->Prop)(te:TE)(tl th:TO):TE:=λσ H Q=>te σ H λx H1=>tl σ H1 λl H2=>th σ H2 λu H3=>r x l u H3 Q
theorem zM {r:V->Option Int->Option Int->Hp->VK->Prop}(hr:SlR X r)(he:PE X e te)(hl:PO X lo tl)(hu:PO X hi th):PE X (.Subscript e (.Slice lo hi none p2) pos) (HF r te tl th):=by
 intro pins s σ H Q I h;refine Subscript_ (P0 (he pins s σ H _ I h) λv s1 ⟨x,H1,I1,r1,q1⟩=>?_);refine wpAny_Slice (P0 (hl pins s1 σ H1 _ I1 q1) λvl s2 ⟨l,H2,I2,pl,q2⟩=>P0 (hu pins s2 σ H2 _ I2 q2) λvu s3 ⟨u,H3,I3,pu,q3⟩=>?_);rw[evalPart_none];refine JW ?_;have I4:Inv X pins σ H3 {s3 with heap:=s3.heap.push {cls:= .type "slice",data:= .fields #[vl,vu,.none]}}:=I3.kept (t':=s3.toks) λb ob q=>JI _ q;obtain⟨T,id,hT,ht,hg⟩:=hr pins {s3 with heap:=s3.heap.push {cls:= .type "slice",data:= .fields #[vl,vu,.none]}} σ H3 x v vl vu l u s3.heap.objs.size Q I4 r1 (Heap.IsSliceOf.new ..) pl pu q3;show wpAny (model X.prog X.w) X.A (subscriptTail e (.Slice lo hi none p2) v (.ref s3.heap.objs.size)) (EP X pins σ Q) X.xe {s3 with heap:=s3.heap.push {cls:= .type "slice",data:= .fields #[vl,vu,.none]}};exact tail_any (ops:=[.ref s3.heap.objs.size,v]) ht hT hg (by with_unfolding_all rfl)
def cO (xs:List V)(lo hi:Option Int):List V:=(xs.drop (HT.sIx xs.length 0 lo)).take (HT.sIx xs.length xs.length hi -HT.sIx xs.length 0 lo)
theorem iH (xs:List V)(lo hi:Option Int):(cO xs lo hi).length<=xs.length:=by
 unfold cO;rw[JP,Ni];lia
def EZ (K:Qe):V->Option Int->Option Int->Hp->VK->Prop:=λx lo hi H Q=>∃a xs,x= .ref a/\SqT K H a xs/\
 ¬(HT.sIx xs.length 0 lo=0/\HT.sIx xs.length xs.length hi=xs.length)/\∀p,H p=none->Q (.ref p) (p5 H p (.tup (cO xs lo hi)))
theorem sl_tup:SlR X (EZ X.K):=by
 intro pins s σ H x v vl vu lo hi sl Q I rx hs pl pu h;obtain⟨a,xs,rfl,hx,hw,q⟩:=h;cases rx;obtain⟨a_,r,ht,hz⟩:=I.tuple hx;have hlen:a_.toArray.size=xs.length:=by rw[Kc];exact r.length.symm
 refine⟨"tuple",_,LV.lookup,ht.typeIs,?_⟩;refine HT.getItem_tuple_cut ht hs pl pu (by rw[hlen];exact hw) ?_ (by rw[hlen];exact hz);rw[hlen];refine⟨.ref s.heap.objs.size,_,I.laid (t':=s.toks) (o:= .tup (cO xs lo hi)) (λb ob q=>JI _ q) (JA _) ?_,rfl,q _ (I.hok.fresh (JA _))⟩;exact⟨Kg (iH xs lo hi) hz,_,(r.drop (HT.sIx xs.length 0 lo)).take (HT.sIx xs.length xs.length hi -HT.sIx xs.length 0 lo),IsTup.new _ _⟩
def BU (K:Qe):R2:=λx y H Q=>∃a b xs ys,x= .ref a/\y= .ref b/\SqT K H a xs/\SqT K H b ys/\xs≠[]/\xs.length+ys.length<=sizeLine/\
 (ys=[]->Q (.ref a) H)/\(ys≠[]->∀p,H p=none->Q (.ref p) (p5 H p (.tup (xs++ys))))
theorem Vals.nil_iff {xs:List V}{us:List Value}(r:Vals xs us):us=[]↔xs=[]:=by
 cases r with
 |nil=>simp
 |cons _ _=>simp
theorem AO:OpR X (binaryOp .Add) (BU X.K):=by
 intro pins s σ H x y v u Q I rx ry h;obtain⟨a,b,xs,ys,rfl,rfl,ha,hb,hx,hz,q1,q2⟩:=h;cases rx;cases ry;obtain⟨a_,r1,p1,_⟩:=I.tuple ha;obtain⟨Tg,r2,p2,_⟩:=I.tuple hb;refine HT.cat_tup p1 p2 (λz=>hx (r1.nil_iff.mp z)) (λz=>⟨.ref a,H,I,rfl,q1 (r2.nil_iff.mp z)⟩) (λz=>?_) (by rw[←r1.length,←r2.length];exact hz);refine⟨.ref s.heap.objs.size,_,I.laid (t':=s.toks) (o:= .tup (xs++ys)) (λb ob q=>JI _ q) (JA _) ?_,rfl,q2 (λw=>z (r2.nil_iff.mpr w)) _ (I.hok.fresh (JA _))⟩;exact⟨by rw[JG];exact hz,_,r1.append r2,IsTup.new _ _⟩
end
def Eo (n:Nat)(i:Int):Option Nat:=if 0<=i then(if i<n then some i.toNat else none) else if -(n:Int)<=i then some (i+n).toNat else none
def oj {α:Type}(xs:List α)(i:Int):Option α:=(Eo xs.length i).bind λj=>xs[j]?
theorem uO {n:Nat}{i:Int}{j:Nat}(h:Eo n i=some j):seqIndex? i n=some j/\j<n/\-(n:Int)<=i/\i<n:=by
 unfold Eo at h;by_cases h0:0<=i
 .rw[if_pos h0] at h;by_cases h1:i<n
  .rw[if_pos h1] at h;have e:i.toNat=j:=JU h;exact⟨by rw[seqIndex_of h0 h1,e],by lia,by lia,h1⟩
  .rw[if_neg h1] at h;cases h
 .rw[if_neg h0] at h;by_cases h1: -(n:Int)<=i
  .rw[if_pos h1] at h;have e:(i+n).toNat=j:=JU h;exact⟨by rw[seqIndex_neg (by lia) h1,e],by lia,h1,by lia⟩
  .rw[if_neg h1] at h;cases h
theorem oF {α:Type}{xs:List α}{i:Int}{v:α}(h:oj xs i=some v):∃j,seqIndex? i xs.length=some j/\xs[j]?=some v/\j<xs.length/\-(xs.length:Int)<=i/\i<xs.length:=by grind [oj,Eo,uO]
theorem F0 {α:Type}{xs:List α}{j:Nat}{v:α}(h:xs[j]?=some v):oj xs (j:Int)=some v:=by
 have hj:j<xs.length:=(Lg.mp h).1;have e:Eo xs.length (j:Int)=some j:=by
  unfold Eo;rw[if_pos (by lia),if_pos (by lia)];simp
 unfold oj;rw[e];exact h
def uG (b:Expr):Prop:=∀o i,subscripted b false o i=operate [o,i] (getItem o i)
def IxR (X:Cx)(r:R2):Prop:=
 ∀(value slice:Expr) (pins:List (Addr×Obj)) (s:Shared) (σ:St) (H:Hp) (x y:V) (v u:Value) (Q:VK),Inv X pins σ H s->RelV x v->RelV y u->r x y H Q->
  subscripted slice false v u=operate [v,u] (getItem v u)->wpAny (model X.prog X.w) X.A (subscriptTail value slice v u) (EP X pins σ Q) X.xe s
def xl (X:Cx)(id:String)(r:V->List V->Hp->VK->Prop):Prop:=
 ∀(pins:List (Addr×Obj)) (s:Shared) (σ:St) (H:Hp) (x:V) (xs:List V) (v:Value) (us:List Value) (Q:VK),Inv X pins σ H s->RelV x v->Vals xs us->r x xs H Q->
  wpAny (model X.prog X.w) X.A (call (.builtin id) (v::us)) (EP X pins σ Q) X.xe s
section
variable {X:Cx} {a b:Expr} {ta tb:TE} {pos:Pos}
theorem IxR.or {r r':R2}(h:IxR X r)(h':IxR X r'):IxR X (λx y H Q=>r x y H Q\/r' x y H Q):=by
 intro value slice pins s σ H x y v u Q I rx ry q hs;rcases q with q|q
 .exact h value slice pins s σ H x y v u Q I rx ry q hs
 .exact h' value slice pins s σ H x y v u Q I rx ry q hs
theorem FY {r:R2}(hr:IxR X r)(ha:PE X a ta)(hb:PE X b tb)(hs:uG b):PE X (.Subscript a b pos) (Aj r ta tb):=by
 intro pins s σ H Q I h;exact Subscript_ (DX ha hb I h λv u s2 x y H2 I2 rx ry q=>hr a b pins s2 σ H2 x y v u Q I2 rx ry q (hs _ _))
def GO (K:Qe):R2:=λx y H Q=>∃p xs i v,x= .ref p/\y= .int i/\SqL K H p xs/\oj xs i=some v/\Q v H
def GF (K:Qe):R2:=λx y H Q=>∃p xs i v,x= .ref p/\y= .int i/\SqT K H p xs/\oj xs i=some v/\Q v H
def EV:R2:=λx y H Q=>∃z i c,x= .str z/\y= .int i/\z.length<=sizeLine/\oj z.cps.toList i=some c/\Q (.str ⟨#[c]⟩) H
theorem ix_list:IxR X (GO X.K):=by
 intro value slice pins s σ H x y v u Q I rx ry h hs;obtain⟨p,xs,i,z,rfl,rfl,hq,he,q⟩:=h;cases rx;obtain⟨t,rfl⟩:=ry;obtain⟨a_,r,pl,hz⟩:=I.list hq;obtain⟨j,h1,h2,h3,h4,h5⟩:=oF he;obtain⟨w,ew,Ri⟩:=r.get h2;have hl:=r.length;have hn:=gU;have fin:EP X pins σ Q w s:=⟨z,H,I,Ri,q⟩
 by_cases h0:0<=i
 .have hj:i.toNat=j:=by
   rw[seqIndex_of h0 h5] at h1;exact JU h1
  exact item_listR pl.isList h0 (by lia) (by rw[hj];simpa using ew) fin hs
 .have hj:(i+(a_.toArray.size:Int)).toNat=j:=by
   rw[seqIndex_neg (by lia) h4] at h1;rw[Kc,←hl];exact JU h1
  exact subscriptTail_builtinR (x:=w) pl.isList.typeIs slot_list_getitem.lookup
   (wpAny_getItem_list_neg (Q:=λr s'=>r=w/\EP X pins σ Q r s') pl.isList (by lia) (by rw[Kc]<;>lia) (by lia) (by rw[hj];simpa using ew) ⟨rfl,fin⟩) hs
theorem ix_tup:IxR X (GF X.K):=by
 intro value slice pins s σ H x y v u Q I rx ry h hs;obtain⟨p,xs,i,z,rfl,rfl,hq,he,q⟩:=h;cases rx;obtain⟨t,rfl⟩:=ry;obtain⟨a_,r,pl,hz⟩:=I.tuple hq;obtain⟨j,h1,h2,h3,h4,h5⟩:=oF he;obtain⟨w,ew,Ri⟩:=r.get h2;have hl:=r.length;have hn:=gU;have fin:EP X pins σ Q w s:=⟨z,H,I,Ri,q⟩
 exact subscriptTail_builtinR (x:=w) pl.typeIs slot_tuple_getitem.lookup
  (getItem_tuple (j:=j) (Q:=λr s'=>r=w/\EP X pins σ Q r s') pl (by lia) (by lia) (by rw[Kc,←hl];exact h1) (by simpa using ew) ⟨rfl,fin⟩) hs
theorem Dc:IxR X EV:=by
 intro value slice pins s σ H x y v u Q I rx ry h hs;obtain⟨z,i,c,rfl,rfl,hz,he,q⟩:=h;obtain⟨t,rfl⟩:=rx;obtain⟨t',rfl⟩:=ry;obtain⟨j,h1,h2,h3,h4,h5⟩:=oF he;have hl:z.cps.toList.length=z.length:=by simp [Str.length]
 rw[hl] at h1 h4 h5;have hn:=gU;exact tail_any (OE s z t) slot_str_getitem.lookup (getItem_str (c:=c) (by
  have e1:decide (i< -(2 ^ 63:Int))=false:=Kf (by lia);have e2:decide (i≥2 ^ 63)=false:=Kf (by lia);rw[e1,e2,Bool.or_false]) (by rw[h1];simpa using h2) ⟨.str ⟨#[c]⟩,H,I.tok _,⟨_,rfl⟩,q⟩) hs
def IQ (K:Qe):R2:=λx y H Q=>GO K x y H Q\/GF K x y H Q\/EV x y H Q
theorem ix_seq:IxR X (IQ X.K):=ix_list.or (ix_tup.or Dc)
theorem tI (a_:List Value)(n j:Nat)(u:Value):Obj.mapSeq (·.setIfInBounds j u) {cls:= .type "list",data:= .seq a_.toArray n}={cls:= .type "list",data:= .seq (a_.set j u).toArray n}:=by
 simp [Obj.mapSeq]
theorem Inv.lst {pins:List (Addr×Obj)}{σ:St}{H:Hp}{s:Shared}{p:Addr}{xs:List V}(I:Inv X pins σ H s)(h:H p=some (.lst xs)):
  ∃(a_:List Value) (n:Nat),Vals xs a_/\s.heap.get? p=some {cls:= .type "list",data:= .seq a_.toArray n}/\xs.length<=sizeLine:=by
 obtain⟨z,a_,n,r,e⟩:=I.hok p _ h
 exact⟨a_,n,r,e,z⟩
theorem Inv.lstUpd {pins:List (Addr×Obj)}{σ:St}{H:Hp}{s:Shared}{p:Addr}{xs ys:List V}{a_ its':List Value}{n n':Nat}{f:Obj->Obj}(I:Inv X pins σ H s)(h:H p=some (.lst xs))
  (ho:s.heap.get? p=some {cls:= .type "list",data:= .seq a_.toArray n}) (hf:f {cls:= .type "list",data:= .seq a_.toArray n}={cls:= .type "list",data:= .seq its'.toArray n'}) (r:Vals ys its') (hz:ys.length<=sizeLine) (t:Nat):
  Inv X pins σ (p5 H p (.lst ys)) {s with heap:=s.heap.update p f,toks:=t}:=by
 have e:(s.heap.update p f).get? p=some {cls:= .type "list",data:= .seq its'.toArray n'}:=by
  rw[Heap.get?_update_self f ho (by rw[hf]<;>rfl),hf]
 refine I.write (x:=p) (e:=p) (by rw[h];trivial) (.inl rfl) (λb u hb q=>(Heap.get?_update_other _ _ (Lw hb)).trans q) ⟨_,e⟩ ?_
 exact⟨hz,its',n',r,e⟩
def Ce:V->V->V->Hp->(Hp->Prop)->Prop:=λo i v H Q=>∃p xs k j,o= .ref p/\i= .int k/\H p=some (.lst xs)/\Eo xs.length k=some j/\Q (p5 H p (.lst (xs.set j v)))
theorem zU:xg X Ce:=by
 intro pins s σ H o i v ov iv u Q I ro ri rv h;obtain⟨p,xs,k,j,rfl,rfl,hp,hj,q⟩:=h;cases ro;obtain⟨t,rfl⟩:=ri;obtain⟨a_,n,r,ho,hz⟩:=I.lst hp;obtain⟨h1,h2,h3,h4⟩:=uO hj;have hl:=r.length;have hn:=gU;have I':Inv X pins σ (p5 H p (.lst (xs.set j v))) {s with heap:=s.heap.update p (Obj.mapSeq (·.setIfInBounds j u))}:=
  I.lstUpd hp ho (tI a_ n j u) (r.set rv j) (by rw[List.length_set];exact hz) s.toks
 by_cases h0:0<=k
 .have hk:k.toNat=j:=by
   rw[seqIndex_of h0 h4] at h1;exact JU h1
  exact PySem.W.ki_setAt ho h0 (by lia) (by rw[Kc,←hl];exact h4) (by rw[hk];exact⟨_,I',q⟩)
 .have hk:(k+(a_.toArray.size:Int)).toNat=j:=by
   rw[seqIndex_neg (by lia) h3] at h1;rw[Kc,←hl];exact JU h1
  exact PySem.W.ki_setBack ho (by lia) (by rw[Kc,←hl];exact h3) (by lia) (by rw[hk];exact⟨_,I',q⟩)
theorem pD (lo hi:Option Int)(n:Nat):(sliceBounds lo hi none n).1=((HT.sIx n 0 lo:Nat):Int)/\(sliceBounds lo hi none n).2.1=((HT.sIx n n hi:Nat):Int)/\(sliceBounds lo hi none n).2.2=1:=by
 refine⟨?_,?_,rfl⟩
 .cases lo with
  |none=>simp [sliceBounds,HT.sIx]
  |some i=>
   simp only[sliceBounds,HT.sIx,Option.getD_none,show(1:Int)>0 by decide,Ol]
   by_cases h:i<0
   .simp only[h,Ol]<;>lia
   .simp only[h,SI]<;>lia
 .cases hi with
  |none=>simp [sliceBounds,HT.sIx]
  |some i=>
   simp only[sliceBounds,HT.sIx,Option.getD_none,show(1:Int)>0 by decide,Ol]
   by_cases h:i<0
   .simp only[h,Ol]<;>lia
   .simp only[h,SI]<;>lia
theorem lV (a_:List Value)(lo hi:Option Int):slicePick a_.toArray lo hi none=((a_.drop (HT.sIx a_.length 0 lo)).take (HT.sIx a_.length a_.length hi -HT.sIx a_.length 0 lo)).toArray:=by
 obtain⟨h1,h2,h3⟩:=pD lo hi a_.toArray.size;unfold slicePick;rw[h1,h2,h3];simp only[sliceRange_one,pick_run,Kc]<;>rfl
def Hf (K:Qe):V->Option Int->Option Int->Hp->VK->Prop:=λx lo hi H Q=>∃a xs,x= .ref a/\SqL K H a xs/\∀p,H p=none->Q (.ref p) (p5 H p (.lst (cO xs lo hi)))
theorem sl_list:SlR X (Hf X.K):=by
 intro pins s σ H x v vl vu lo hi sl Q I rx hs pl pu h;obtain⟨a,xs,rfl,hx,q⟩:=h;cases rx;obtain⟨a_,r,ht,hz⟩:=I.list hx;have hlen:=r.length;refine⟨"list",_,slot_list_getitem.lookup,ht.isList.typeIs,?_⟩;refine wpAny_getItem_list_slice ht.isList hs pl pu .none (by simp) ?_ (by rw[Kc]<;>lia);rw[lV,←hlen];refine⟨.ref s.heap.objs.size,_,I.laid (t':=s.toks) (o:= .lst (cO xs lo hi)) (λb ob q=>JI _ q) (JA _) ?_,rfl,q _ (I.hok.fresh (JA _))⟩;exact⟨Kg (iH xs lo hi) hz,_,0,(r.drop (HT.sIx xs.length 0 lo)).take (HT.sIx xs.length xs.length hi -HT.sIx xs.length 0 lo),JY _ rfl⟩
def J0:V->Bool
 | .non=>true
 | .bl _=>true
 | .int _=>true
 | .str _=>true
 |_=>false
def dH:V->V->Bool
 | .non,.non=>true
 | .bl a,.bl b=>a==b
 | .bl a,.int b=>(if a then 1 else 0)==b
 | .int a,.bl b=>a==(if b then 1 else 0)
 | .int a,.int b=>a==b
 | .str a,.str b=>a==b
 |_,_=>false
theorem dh {A:Around}{s:Shared}{y x:V}{u v:Value}(ry:RelV y u)(rx:RelV x v)(fy:J0 y=true)(fx:J0 x=true):SeqAt.EqAt A s u v (dH y x):=by
 cases y with
 |non=>
  cases ry
  cases x with
  |non=>cases rx;exact Mp _
  |bl b=>cases rx;exact SeqAt.EqAt.none_bool b
  |int b=>obtain⟨t,rfl⟩:=rx;exact SeqAt.EqAt.none_int b t
  |str b=>obtain⟨t,rfl⟩:=rx;exact SeqAt.EqAt.none_str b t
  |_=>exact absurd (show false=true from fx) Ks
 |bl a=>
  cases ry
  cases x with
  |non=>cases rx;exact SeqAt.EqAt.bool_none a
  |bl b=>cases rx;exact SeqAt.EqAt.bool_bool a b
  |int b=>obtain⟨t,rfl⟩:=rx;exact SeqAt.EqAt.bool_int a b t
  |str b=>obtain⟨t,rfl⟩:=rx;exact SeqAt.EqAt.bool_str a b t
  |_=>exact absurd (show false=true from fx) Ks
 |int a=>
  obtain⟨t',rfl⟩:=ry
  cases x with
  |non=>cases rx;exact SeqAt.EqAt.int_none a t'
  |bl b=>cases rx;exact SeqAt.EqAt.int_bool a t' b
  |int b=>obtain⟨t,rfl⟩:=rx;exact SeqAt.EqAt.int_int a t' b t
  |str b=>obtain⟨t,rfl⟩:=rx;exact Nw a t' b t
  |_=>exact absurd (show false=true from fx) Ks
 |str a=>
  obtain⟨t',rfl⟩:=ry
  cases x with
  |non=>cases rx;exact SeqAt.EqAt.str_none a t'
  |bl b=>cases rx;exact SeqAt.EqAt.str_bool a t' b
  |int b=>obtain⟨t,rfl⟩:=rx;exact Nx a t' b t
  |str b=>obtain⟨t,rfl⟩:=rx;exact SeqAt.EqAt.str_str a t' b t
  |_=>exact absurd (show false=true from fx) Ks
 |_=>exact absurd (show false=true from fy) Ks
def rY (x:V)(u:Value):Bool:=match u with
 | .none=>dH .non x
 | .bool b=>dH (.bl b) x
 | .int i _=>dH (.int i) x
 | .str z _=>dH (.str z) x
 |_=>false
theorem yd {x y:V}{u:Value}(r:RelV y u)(f:J0 y=true):rY x u=dH y x:=by grind [cases V,RelV,J0,rY,dH]
theorem gf {x:V}:∀{xs:List V} {us:List Value},Vals xs us->xs.all J0=true->us.any (rY x)=xs.any λy=>dH y x
 |_,_,.nil,_=>rfl
 |y::xs,u::us,.cons r t,f=>by
  rw[Mb,Kj] at f;rw[Pf,Pf,yd r f.1,gf t f.2]
theorem cJ {A:Around}{s:Shared}{x:V}{v:Value}(rx:RelV x v)(fx:J0 x=true):∀{xs:List V} {us:List Value},Vals xs us->xs.all J0=true->∀u∈us,SeqAt.EqAt A s u v (rY x u)
 |_,_,.nil,_=>λu hu=>by cases hu
 |y::xs,u::us,.cons r t,f=>λu' hu=>by
  rw[Mb,Kj] at f;rcases Kl.mp hu with rfl|hu
  .rw[yd r f.1];exact dh r rx f.1 fx
  .exact cJ rx fx t f.2 u' hu
def Hg (x:V)(xs:List V):Bool:=xs.any λy=>dH y x
def Hy (K:Qe)(neg:Bool):R2:=λx y H Q=>∃p xs,y= .ref p/\(SqL K H p xs\/SqT K H p xs)/\J0 x=true/\xs.all J0=true/\Q (.bl (if neg then !Hg x xs else Hg x xs)) H
theorem op_in_seq:OpR X (compareOp .In) (Hy X.K false):=by
 intro pins s σ H x y v u Q I rx ry h;obtain⟨p,xs,rfl,hq,fx,fs,q⟩:=h;cases ry;rcases hq with hq|hq
 .obtain⟨a_,r,pl,hz⟩:=I.list hq;refine SeqAt.in_listAt (rY x) pl.isList (λw hw=>cJ rx fx r fs w (by simpa using hw)) ⟨.bl _,H,I,rfl,?_⟩;rw[show a_.toArray.any (rY x)=a_.any (rY x) by simp,gf r fs];exact q
 .obtain⟨a_,r,pl,hz⟩:=I.tuple hq;refine SeqAt.in_tupleAt (rY x) pl (λw hw=>cJ rx fx r fs w (by simpa using hw)) ⟨.bl _,H,I,rfl,?_⟩;rw[show a_.toArray.any (rY x)=a_.any (rY x) by simp,gf r fs];exact q
theorem op_notIn_seq:OpR X (compareOp .NotIn) (Hy X.K true):=by
 intro pins s σ H x y v u Q I rx ry h;obtain⟨p,xs,rfl,hq,fx,fs,q⟩:=h;cases ry;rcases hq with hq|hq
 .obtain⟨a_,r,pl,hz⟩:=I.list hq;refine SeqAt.notIn_listAt (rY x) pl.isList (λw hw=>cJ rx fx r fs w (by simpa using hw)) ⟨.bl _,H,I,rfl,?_⟩;rw[show a_.toArray.any (rY x)=a_.any (rY x) by simp,gf r fs];exact q
 .obtain⟨a_,r,pl,hz⟩:=I.tuple hq;refine SeqAt.notIn_tupleAt (rY x) pl (λw hw=>cJ rx fx r fs w (by simpa using hw)) ⟨.bl _,H,I,rfl,?_⟩;rw[show a_.toArray.any (rY x)=a_.any (rY x) by simp,gf r fs];exact q
theorem oJ:OpR X (compareOp .NotIn) (λx y H Q=>∃i j,x= .str i/\y= .str j/\Q (.bl (!(!(Builtin.Str.occurrences j i 0 j.length 1).isEmpty))) H):=by
 intro pins s σ H x y v u Q I rx ry h;obtain⟨i,j,rfl,rfl,q⟩:=h;obtain⟨t,rfl⟩:=rx;obtain⟨t',rfl⟩:=ry;exact notIn_str ⟨.bl _,H,I,rfl,q⟩
theorem CallR.or {f:Value}{r r':List V->Hp->VK->Prop}(h:CallR X f r)(h':CallR X f r'):CallR X f (λxs H Q=>r xs H Q\/r' xs H Q):=by grind [CallR]
theorem call_list_of:CallR X (.type "list") (λxs H Q=>∃p ys,xs=[.ref p]/\(SqL X.K H p ys\/SqT X.K H p ys)/\∀l,H l=none->Q (.ref l) (p5 H l (.lst ys))):=by
 intro pins s σ H xs us Q I r h;obtain⟨p,ys,rfl,hq,q⟩:=h;obtain⟨u,rfl,rx⟩:=R5 r;cases rx;have fin:∀(a_:List Value),Vals ys a_->ys.length<=sizeLine->∀(h':Heap) (c':Nat),(∀b o',s.heap.get? b=some o'->h'.get? b=some o')->
   h'.get? s.heap.objs.size=some {cls:= .type "list",dict:=none,data:= .seq a_.toArray c',slots:= #[]}->EP X pins σ Q (.ref s.heap.objs.size) {s with heap:=h'}:=λa_ r' hz h' c' kp e=>
  ⟨.ref s.heap.objs.size,_,I.laid (t':=s.toks) kp (JA _) (show ObjOk X.prog X.w _ h' _ (.lst ys) from⟨hz,a_,c',r',e⟩),rfl,q _ (I.hok.fresh (JA _))⟩
 rcases hq with hq|hq
 .obtain⟨a_,r',pl,hz⟩:=I.list hq;have hlen:=r'.length;obtain⟨o,ho,hc,n,hd⟩:=pl.isList;exact call_list_seq p (.inl rfl) ho hc hd (λh' c' kp e=>fin a_ r' hz h' c' kp e) (by simp only[Kc]<;>lia)
 .obtain⟨a_,r',pl,hz⟩:=I.tuple hq;have hlen:=r'.length;obtain⟨o,ho,hc,n,hd⟩:=pl;exact call_list_seq p (.inr rfl) ho hc hd (λh' c' kp e=>fin a_ r' hz h' c' kp e) (by simp only[Kc]<;>lia)
def Gq (K:Qe)(T:String)(x:V)(H:Hp):Prop:=match x with
 | .str _=>T="str"
 | .int _=>T="int"
 | .ref p=>(T="list"/\∃xs,SqL K H p xs)\/(T="tuple"/\∃o,K.lookup p=some o/\o.cls= .type "tuple"/\o.dict=none)\/
   (T="dict"/\((∃kvs,H p=some (.dK kvs))\/∃kvs,H p=some (.dT kvs)))\/(T="set"/\∃S n,H p=some (.set S n))
 |_=>False
theorem zC {pins:List (Addr×Obj)}{σ:St}{H:Hp}{s:Shared}{T:String}{x:V}{v:Value}(I:Inv X pins σ H s)(r:RelV x v)(ty:Gq X.K T x H):
  s.TypeIs v T/\∀a,v= .ref a->∃ob,s.heap.get? a=some ob/\ob.dict=none:=by
 cases x with
 |str z=>
  obtain⟨t,rfl⟩:=r
  cases (show T="str" from ty)
  exact⟨OE s z t,λ_ e=>nomatch e⟩
 |int i=>
  obtain⟨t,rfl⟩:=r
  cases (show T="int" from ty)
  exact⟨typeIs_int s i t,λ_ e=>nomatch e⟩
 |ref p=>
  cases r
  rcases ty with⟨rfl,xs,hq⟩|⟨rfl,o,hk,hc,hd⟩|⟨rfl,hk⟩|⟨rfl,S,n,hk⟩
  .obtain⟨a_,_,pl,_⟩:=I.list hq
   refine⟨pl.isList.typeIs,λa e=>?_⟩
   cases e
   obtain⟨o,n,e,c,hd,_⟩:=pl
   exact⟨o,e,hd⟩
  .refine⟨⟨o,I.kIn p o hk,hc⟩,λa e=>?_⟩
   cases e
   exact⟨o,I.kIn _ o hk,hd⟩
  .have z:∃o,s.heap.get? p=some o/\o.ExactDict:=by
    rcases hk with⟨kvs,hk⟩|⟨kvs,hk⟩
    .obtain⟨_,_,_,_,o,_,_,e,ex,_⟩:=I.hok p _ hk;exact⟨o,e,ex⟩
    .obtain⟨_,_,_,_,o,_,_,e,ex,_⟩:=I.hok p _ hk;exact⟨o,e,ex⟩
   obtain⟨o,e,ex⟩:=z
   refine⟨⟨o,e,ex.1⟩,λa e2=>?_⟩
   cases e2
   exact⟨o,e,ex.2.1⟩
  .obtain⟨o,_,_,_,e,ex,_⟩:=I.hok p _ hk
   refine⟨⟨o,e,ex.1⟩,λa e2=>?_⟩
   cases e2
   exact⟨o,e,ex.2.1⟩
 |_=>exact False.elim ty
def CO (K:Qe)(T:String)(r:V->List V->Hp->VK->Prop)(to:TE):TE:=λσ H Q=>to σ H λx H1=>Gq K T x H1/\r x [] H1 Q
def HU (K:Qe)(T:String)(r:V->List V->Hp->VK->Prop)(to:TE)(t:TA):TE:=λσ H Q=>to σ H λx H1=>Gq K T x H1/\t σ H1 λxs H2=>r x xs H2 Q
variable {o e:Expr} {es:List Expr} {to:TE} {t:TA} {name:Str} {apos b_:Pos} {T id:String} {r:V->List V->Hp->VK->Prop}
theorem ED (pa:PlainAttrs T)(slot:Slot T name id)(Sl:typeOf (.builtin id)=pure (.type "method_descriptor"))(hm:xl X id r)(ho:PE X o to)
  (h_:attributeBase o name X.env (eval o X.env)=eval o X.env:=by rfl) (i_:(apos.endLine==b_.line)=true:=by rfl):PE X (.Call (.Attribute o name apos) [] [] b_) (CO X.K T r to):=by
 intro pins s σ H Q I h
 refine MO h_ i_ (P0 (ho pins s σ H _ I h) λv s1 ⟨x,H1,I1,r1,ty,q1⟩=>?_)
 obtain⟨h1,h2⟩:=zC I1 r1 ty
 exact⟨T,id,pa,slot,Sl,h1,h2,Lv rfl (Nm (hm pins s1 σ H1 x [] v [] Q I1 r1 .nil q1))⟩
theorem Gg (pa:PlainAttrs T)(slot:Slot T name id)(Sl:typeOf (.builtin id)=pure (.type "method_descriptor"))(hm:xl X id r)(ho:PE X o to)(ha:PA X (e::es) t)
  (h_:attributeBase o name X.env (eval o X.env)=eval o X.env:=by rfl)
  (XE:((backTo b_ (starEach (e::es) X.env)).all (λx=>!x.1)&&(backToKw b_ (keywordEach [] X.env)).all (λx=>x.1.isSome)
   &&decide ((e::es).length+([]:List Keyword).length+(if([]:List Keyword).isEmpty then 0 else 1)<30))=true:=by rfl)
  (i_:(apos.endLine==b_.line)=true:=by rfl) (hs:starEach (e::es) X.env=(false,eval e X.env)::starEach es X.env:=by rfl) (Th:(backTo b_ (starEach es X.env)).any (·.1)=false:=by rfl):
  PE X (.Call (.Attribute o name apos) (e::es) [] b_) (HU X.K T r to t):=by
 intro pins s σ H Q I h
 refine wpAny_Call_method_late h_ XE i_ rfl (P0 (ho pins s σ H _ I h) λv s1 ⟨x,H1,I1,r1,ty,q1⟩=>?_)
 obtain⟨h1,h2⟩:=zC I1 r1 ty
 refine⟨T,id,pa,slot,Sl,h1,h2,?_⟩
 have hA:=ha b_ pins s1 σ H1 _ I1 q1
 rw[hs] at hA⊢
 refine Lv (by show(false||(backTo b_ (starEach es X.env)).any (·.1))=false;rw[Th]<;>rfl) (MA ?_)
 exact P0 hA λus s2 ⟨vs,H2,I2,r2,q2⟩=>hm pins s2 σ H2 x vs v us Q I2 r1 r2 q2
end
def IP (X:Cx)(id:String)(r:V->List V->Hp->VK->Prop):Prop:=
 ∀(pins:List (Addr×Obj)) (s:Shared) (σ:St) (H:Hp) (x:V) (xs:List V) (v:Value) (us:List Value) (Q:VK),Inv X pins σ H s->RelV x v->Vals xs us->r x xs H Q->
  wpAny (model X.prog X.w) X.A (call (.builtin id) (v::us)) (EP X pins σ Q) X.xe s
theorem Vals.one:∀{x:V} {us:List Value},Vals [x] us->∃u,us=[u]/\RelV x u
 |_,_,.cons r .nil=>⟨_,rfl,r⟩
theorem Vals.zero:∀{us:List Value},Vals [] us->us=[]
 |_,.nil=>rfl
theorem Vals.dropLast {xs:List V}{us:List Value}(h:Vals xs us):Vals xs.dropLast us.dropLast:=by
 induction h with
 |nil=>exact .nil
 |cons r t ih=>
  cases t with
  |nil=>exact .nil
  |cons q t'=>exact .cons r ih
theorem tf {α:Type}(l:List α):l.eraseIdx (l.length -1)=l.dropLast:=by
 induction l with
 |nil=>rfl
 |cons a r ih=>
  cases r with
  |nil=>rfl
  |cons b r=>
   have e:(a::b::r).length -1=((b::r).length -1)+1:=by
    have h1:(a::b::r).length=r.length+2:=rfl;have h2:(b::r).length=r.length+1:=rfl;lia
   rw[e,List.eraseIdx_cons_succ,ih]
   all_goals rfl
section
variable {X:Cx} {pins:List (Addr×Obj)} {σ:St} {H:Hp} {s:Shared} {l b:Addr} {xs ys zs:List V}
theorem Inv.lset {a_ its':List Value}{n:Nat}{f:Array Value->Array Value}{t':Nat}(I:Inv X pins σ H s)(hH:H l=some (.lst xs))
  (e:s.heap.get? l=some {cls:= .type "list",data:= .seq a_.toArray n}) (hf:f a_.toArray=its'.toArray) (hv:Vals ys its') (hz:ys.length<=sizeLine):
  Inv X pins σ (p5 H l (.lst ys)) {s with heap:=s.heap.update l (Obj.mapSeq f),toks:=t'}:=by
 have q:=PySem.IsL.update e f
 rw[hf] at q
 refine I.write (x:=l) (e:=l) (by rw[hH];exact trivial) (.inl rfl) (λb' u hb hu=>(Heap.get?_update_other s.heap (Obj.mapSeq f) (Lw hb)).trans hu) ⟨_,q⟩ ?_
 exact⟨hz,its',_,hv,q⟩
theorem Inv.lnew {a_:List Value}{t':Nat}(I:Inv X pins σ H s)(hv:Vals ys a_)(hz:ys.length<=sizeLine):
  Inv X pins σ (p5 H s.heap.objs.size (.lst ys)) {s with heap:=s.heap.push {cls:= .type "list",data:= .seq a_.toArray},toks:=t'}:=
 I.laid (λ_ _ q=>JI _ q) (JA _) ⟨hz,a_,0,hv,JY _ rfl⟩
theorem Inv.fresh (I:Inv X pins σ H s):H s.heap.objs.size=none:=I.hok.fresh (JA _)
theorem Inv.lstM (I:Inv X pins σ H s)(hH:H l=some (.lst xs)):xs.length<=sizeLine/\∃(a_:List Value) (n:Nat),Vals xs a_/\xs.length=a_.length/\s.heap.get? l=some {cls:= .type "list",data:= .seq a_.toArray n}:=by
 obtain⟨z,a_,n,r,e⟩:=I.hok l _ hH;exact⟨z,a_,n,r,r.length,e⟩
end
section
variable {X:Cx}
def uI:V->List V->Hp->VK->Prop:=λx vs H Q=>∃l xs y,x= .ref l/\vs=[y]/\H l=some (.lst xs)/\xs.length<sizeLine/\Q .non (p5 H l (.lst (xs++[y])))
theorem wq:IP X "list.append" uI:=by
 intro pins s σ H x vs v us Q I rx rv h;obtain⟨l,xs,y,rfl,rfl,hH,hz,q⟩:=h;cases rx;obtain⟨u,rfl,ru⟩:=rv.one;obtain⟨z,a_,n,r,hl,e⟩:=I.lstM hH;refine OF F.slot_list_append ⟨_,e,rfl⟩ F.entry_list_append (F.args_list_append_2 _ _) (PySem.list_append l a_.toArray n u (by rw[Kc];lia)) ⟨e,?_⟩;refine⟨.non,_,I.lset (its':=a_++[u]) hH e (by simp) (r.append (.cons ru .nil)) ?_,rfl,q⟩;rw[JG,JO];lia
def Fm:V->List V->Hp->VK->Prop:=λx vs H Q=>∃l xs y,x= .ref l/\vs=[]/\H l=some (.lst xs)/\xs[xs.length -1]?=some y/\Q y (p5 H l (.lst xs.dropLast))
theorem DA:IP X "list.pop" Fm:=by
 intro pins s σ H x vs v us Q I rx rv h;obtain⟨l,xs,y,rfl,rfl,hH,hy,q⟩:=h;cases rx;have Ti:=rv.zero;subst Ti;obtain⟨z,a_,n,r,hl,e⟩:=I.lstM hH;obtain⟨u,hu,ru⟩:=r.get hy;have K_:a_.toArray[a_.toArray.size -1]?=some u:=by
  show a_.toArray[a_.length -1]?=some u;rw[←Mq,←hl];exact hu
 refine OF F.slot_list_pop ⟨_,e,rfl⟩ F.entry_list_pop (F.args_list_pop_1 _) (MeetsSeq.list_pop_last l a_.toArray n u K_ (by rw[Kc];lia)) ⟨e,?_⟩;refine⟨y,_,I.lset (its':=a_.dropLast) hH e ?_ r.dropLast ?_,ru,q⟩
 .show a_.toArray.eraseIdxIfInBounds (a_.toArray.size -1)=a_.dropLast.toArray;rw[Kc,List.eraseIdxIfInBounds_toArray,tf]
 .rw[List.length_dropLast];lia
def Fe:R2:=λx y H Q=>∃l b xs zs,x= .ref l/\y= .ref b/\H l=some (.lst xs)/\H b=some (.lst zs)/\xs.length+zs.length<=sizeLine/\∀p,H p=none->Q (.ref p) (p5 H p (.lst (xs++zs)))
theorem op_cat:OpR X (binaryOp .Add) Fe:=by
 intro pins s σ H x y v u Q I rx ry h;obtain⟨l,b,xs,zs,rfl,rfl,hH,hB,hz,q⟩:=h;cases rx;cases ry;obtain⟨z,a_,n,r,hl,e⟩:=I.lstM hH;obtain⟨z2,Tg,n2,r2,Rj,e2⟩:=I.lstM hB;refine PySem.P.add_list e e2 ?_ (by rw[Kc,Kc];lia);have ea:a_.toArray++Tg.toArray=(a_++Tg).toArray:=by simp
 rw[ea];exact⟨.ref _,_,I.lnew (t':=s.toks) (r.append r2) (by rw[JG];lia),rfl,q _ I.fresh⟩
end
section
variable {prog:Program} {w:World} {A:Around} {E:Value->Shared->Prop} {s:Shared}
end
section
variable {X:Cx}
end
section
variable {κ:Type} [DecidableEq κ]
def z0 (kvs:List (κ×V))(k:κ):Option V:=(kvs.find? λkv=>decide (kv.1=k)).map (·.2)
def E3 (kvs:List (κ×V))(k:κ)(v:V):List (κ×V):=
 if(kvs.any λkv=>decide (kv.1=k))=true then kvs.map (λkv=>if kv.1=k then(kv.1,v) else kv) else kvs++[(k,v)]
theorem J1 {p:κ×V}{r:List (κ×V)}{k:κ}(e:p.1=k):z0 (p::r) k=some p.2:=by simp [z0,Mr,e]
theorem I9 {p:κ×V}{r:List (κ×V)}{k:κ}(e:¬p.1=k):z0 (p::r) k=z0 r k:=by simp [z0,Mr,e]
theorem ah (k:κ):∀kvs:List (κ×V),(kvs.any λkv=>decide (kv.1=k))=(z0 kvs k).isSome
 |[]=>rfl
 |p::r=>by
  rw[Pf];by_cases e:p.1=k
  .simp only[J1 e,JX e,Bool.true_or,Option.isSome_some]
  .rw[I9 e,Kf e,Bool.false_or];exact ah k r
theorem pY (k j:κ)(y:V):∀kvs:List (κ×V),z0 (kvs.map λkv=>if kv.1=k then(kv.1,y) else kv) j=(z0 kvs j).map λx=>if j=k then y else x
 |[]=>rfl
 |p::r=>by
  have ih:=pY k j y r;rw[Kx];by_cases h:p.1=k
  .rw[if_pos h];by_cases e:p.1=j
   .rw[J1 (p:=(p.1,y)) e,J1 e,MQ,if_pos (e.symm.trans h)]
   .rw[I9 (p:=(p.1,y)) e,I9 e,ih]
  .rw[if_neg h];by_cases e:p.1=j
   .rw[J1 (p:=p) e,J1 e,MQ,if_neg (λz=>h (e.trans z))]
   .rw[I9 (p:=p) e,I9 e,ih]
theorem nI (k j:κ)(y:V):∀kvs:List (κ×V),z0 kvs k=none->z0 (kvs++[(k,y)]) j=if j=k then some y else z0 kvs j
 |[],_=>by
  by_cases e:k=j
  .rw[if_pos e.symm];exact J1 (p:=(k,y)) e
  .rw[if_neg (λz=>e z.symm)];exact I9 (p:=(k,y)) e
 |p::r,hn=>by
  rw[Mg];have hk:¬p.1=k:=λz=>by rw[J1 z] at hn;cases hn
  rw[I9 hk] at hn;have ih:=nI k j y r hn;by_cases e:p.1=j
  .rw[J1 e,J1 e,if_neg (λz=>hk (e.trans z))]
  .rw[I9 e,I9 e,ih]
theorem N3 (kvs:List (κ×V))(k j:κ)(y:V):z0 (E3 kvs k y) j=if j=k then some y else z0 kvs j:=by
 unfold E3;by_cases a:(kvs.any λkv=>decide (kv.1=k))=true
 .rw[if_pos a,pY];rw[ah] at a;by_cases e:j=k
  .obtain⟨x,hx⟩:=NH.mp a;rw[if_pos e,e,hx,MQ,if_pos rfl]
  .rw[if_neg e];cases z0 kvs j with
   |none=>rfl
   |some x=>rw[MQ,if_neg e]
 .rw[if_neg a];refine nI k j y kvs ?_;rw[ah] at a;cases q:z0 kvs k with
  |none=>rfl
  |some x=>rw[q] at a;exact(a rfl).elim
theorem Q9 (kvs:List (κ×V))(k:κ)(v:V):(E3 kvs k v).length<=kvs.length+1:=by
 unfold E3;split
 .rw[Jx];lia
 .rw[JG,Ky,Nn];lia
theorem Q4 {kvs:List (κ×V)}{k:κ}(v:V)(h:z0 kvs k=none):E3 kvs k v=kvs++[(k,v)]:=by
 unfold E3;rw[ah,h];exact if_neg (by decide)
theorem RelO.isSome_eq {o:Option V}{u:Option Value}(r:RelO o u):o.isSome=u.isSome:=by
 cases o with
 |none=>cases u with
  |none=>rfl
  |some _=>exact(show False from r).elim
 |some _=>cases u with
  |none=>exact(show False from r).elim
  |some _=>rfl
theorem RelO.getD {o:Option V}{u:Option Value}{d:V}{d':Value}(r:RelO o u)(rd:RelV d d'):RelV (o.getD d) (u.getD d'):=by
 cases o with
 |none=>cases u with
  |none=>exact rd
  |some _=>exact(show False from r).elim
 |some _=>cases u with
  |none=>exact(show False from r).elim
  |some _=>exact r
theorem KV.val {kvs:List (κ×V)}{vs:List (κ×Value)}(r:KV kvs vs)(k:κ):RelO (z0 kvs k) (valueAt vs k):=by
 unfold KV at r;induction r with
 |nil=>exact True.intro
 | @cons p q ps qs h t ih=>
  obtain⟨h1,h2⟩:=h
  by_cases e:p.1=k
  .have e':q.1=k:=h1.symm.trans e
   have b:valueAt (q::qs) k=some q.2:=by simp [valueAt,Mr,e']
   rw[J1 e,b];exact h2
  .have e':¬q.1=k:=λz=>e (h1.trans z)
   have b:valueAt (q::qs) k=valueAt qs k:=by simp [valueAt,Mr,e']
   rw[I9 e,b];exact ih
theorem KV.any {kvs:List (κ×V)}{vs:List (κ×Value)}(r:KV kvs vs)(k:κ):(kvs.any λkv=>decide (kv.1=k))=vs.any λkv=>decide (kv.1=k):=by induction r with grind
theorem KV.repl {kvs:List (κ×V)}{vs:List (κ×Value)}(r:KV kvs vs)(k:κ){y:V}{u:Value}(ry:RelV y u):
  KV (kvs.map λkv=>if kv.1=k then(kv.1,y) else kv) (vs.map λkv=>if kv.1=k then(kv.1,u) else kv):=by
 unfold KV at r⊢
 induction r with
 |nil=>exact .nil
 | @cons p q ps qs h t ih=>
  rw[Kx,Kx]
  refine .cons ?_ ih
  obtain⟨h1,h2⟩:=h
  by_cases e:p.1=k
  .rw[if_pos e,if_pos (h1.symm.trans e)];exact⟨h1,ry⟩
  .rw[if_neg e,if_neg (λz=>e (h1.trans z))];exact⟨h1,h2⟩
theorem KV.put {kvs:List (κ×V)}{vs:List (κ×Value)}(r:KV kvs vs)(k:κ){y:V}{u:Value}(ry:RelV y u):KV (E3 kvs k y) (stored vs k u):=by
 unfold E3 stored;rw[r.any k];by_cases e:(vs.any λkv=>decide (kv.1=k))=true
 .rw[if_pos e,if_pos e];exact r.repl k ry
 .rw[if_neg e,if_neg e];exact Paired.snoc r ⟨rfl,ry⟩
theorem KV.keys {kvs:List (κ×V)}{vs:List (κ×Value)}(r:KV kvs vs):kvs.map (·.1)=vs.map (·.1):=by induction r with grind
theorem KV.length {kvs:List (κ×V)}{vs:List (κ×Value)}(r:KV kvs vs):kvs.length=vs.length:=Kr r
end
theorem gu {P:Program}{w:World}{k:j0}{u:Value}(r:RelV (kV k) u):(p4 P w).is k u=true:=by
 cases k with
 |inl i=>obtain⟨t,e⟩:=(show ∃t,u=Value.int i t from r);subst e;exact qZ P w i t
 |inr x=>obtain⟨t,e⟩:=(show ∃t,u=Value.str x t from r);subst e;exact rA P w x t
theorem mn {P:Program}{w:World}:∀{ks:List j0} {us:List Value},Vals (ks.map kV) us->ItemsAre (p4 P w) ks us
 |[],_,r=>by rw[Ms] at r;cases r;exact .nil
 |k::ks,_,r=>by
  rw[Kx] at r;cases r with
  |cons h t=>exact .cons (gu h) (mn t)
abbrev KT (H:Hp):List (List j0×V)->List (List j0×Addr×Value)->Prop:=Paired λp q=>p.1=q.1/\H q.2.1=some (.tup (p.1.map kV))/\RelV p.2 q.2.2
theorem KT.val {H:Hp}{kvs:List (List j0×V)}{xs:List (List j0×Addr×Value)}(r:KT H kvs xs)(k:List j0):RelO (z0 kvs k) ((atKey xs k).map (·.2)):=by
 induction r with
 |nil=>exact True.intro
 | @cons p q ps qs h t ih=>
  obtain⟨h1,_,h2⟩:=h
  by_cases e:p.1=k
  .have e':q.1=k:=h1.symm.trans e
   have b:atKey (q::qs) k=some q.2:=by simp [atKey,Mr,e']
   rw[J1 e,b];exact h2
  .have e':¬q.1=k:=λz=>e (h1.trans z)
   have b:atKey (q::qs) k=atKey qs k:=by simp [atKey,Mr,e']
   rw[I9 e,b];exact ih
theorem KT.repl {H:Hp}{kvs:List (List j0×V)}{xs:List (List j0×Addr×Value)}(r:KT H kvs xs)(k:List j0){y:V}{u:Value}(ry:RelV y u):
  KT H (kvs.map λkv=>if kv.1=k then(kv.1,y) else kv) (xs.map (putAt k u)):=by
 induction r with
 |nil=>exact .nil
 | @cons p q ps qs h t ih=>
  rw[Kx,Kx]
  refine .cons ?_ ih
  obtain⟨h1,h2,h3⟩:=h
  unfold putAt
  by_cases e:p.1=k
  .rw[if_pos e,if_pos (h1.symm.trans e)];exact⟨h1,h2,ry⟩
  .rw[if_neg e,if_neg (λz=>e (h1.trans z))];exact⟨h1,h2,h3⟩
theorem KT.put {H:Hp}{kvs:List (List j0×V)}{xs:List (List j0×Addr×Value)}(r:KT H kvs xs)(k:List j0){b:Addr}{y:V}{u:Value}(hb:H b=some (.tup (k.map kV)))(ry:RelV y u):
  KT H (E3 kvs k y) (storedH xs k b u):=by
 have e:(kvs.any λkv=>decide (kv.1=k))=(atKey xs k).isSome:=by
  rw[ah,(r.val k).isSome_eq,NJ]
 unfold E3 storedH
 rw[e]
 by_cases q:(atKey xs k).isSome=true
 .rw[if_pos q,if_pos q];exact r.repl k ry
 .rw[if_neg q,if_neg q];exact Paired.snoc r ⟨rfl,hb,ry⟩
theorem KT.keeps {H H':Hp}{kvs:List (List j0×V)}{xs:List (List j0×Addr×Value)}(r:KT H kvs xs)(ht:∀b ys,H b=some (.tup ys)->H' b=some (.tup ys)):KT H' kvs xs:=
 Paired.mapP r λ_ _ z=>⟨z.1,ht _ _ z.2.1,z.2.2⟩
section
variable {P:Program} {w:World} {H:Hp} {h:Heap} {a:Addr}
theorem Cf {u:HO}(ok:HOk P w H h)(e:Rd H a u):ObjOk P w H h a u:=e.ok ok
theorem X1 {kvs:List (j0×V)}(ok:HOk P w H h)(e:Rd H a (.dK kvs)):kvs.length<=sizeLine/\(a==sysModules)=false/\∃vs,KV kvs vs/\h.DictOf (p4 P w) a vs:=
 show ObjOk P w H h a (.dK kvs) from Cf ok e
theorem uH {kvs:List (j0×V)}(ok:HOk P w H h)(e:H a=some (.dK kvs)):kvs.length<=sizeLine/\(a==sysModules)=false/\∃vs,KV kvs vs/\h.DictOf (p4 P w) a vs:=X1 ok (.inl e)
theorem cq {ks:List j0}(ok:HOk P w H h)(e:H a=some (.tup (ks.map kV))):(tupleKind (p4 P w)).is h ks a:=by
 obtain⟨_,a_,r,o,h1,h2,n,h3⟩:=(show ObjOk P w H h a (.tup (ks.map kV)) from ok a _ e)
 exact⟨o,a_.toArray,n,h1,h2,h3,by simpa using mn r⟩
theorem iT {kvs:List (List j0×V)}(ok:HOk P w H h)(e:Rd H a (.dT kvs)):kvs.length<=sizeLine/\(a==sysModules)=false/\
  ∃xs,KT H kvs xs/\h.DictOfH (tupleKind (p4 P w)) a xs:=by
 obtain⟨z,y,xs,r,o,es,ep,h1,h2,h3,h4,h5⟩:=(show ObjOk P w H h a (.dT kvs) from Cf ok e)
 refine⟨z,y,xs,r,o,es,ep,h1,h2,h3,h4,λx hx=>?_,h5⟩
 have all:∀{l:List (List j0×V)} {m:List (List j0×Addr×Value)},KT H l m->∀x∈m,(tupleKind (p4 P w)).is h x.1 x.2.1:=by
  intro l m q;induction q with
  |nil=>intro x hx;exact nomatch hx
  | @cons p q ps qs hq t ih=>
   intro x hx
   rcases Kl.mp hx with e|hx
   .subst e
    exact cq ok (by rw[←hq.1];exact hq.2.1)
   .exact ih x hx
 exact all r x hx
theorem Cg {kvs:List (List j0×V)}(ok:HOk P w H h)(e:H a=some (.dT kvs)):kvs.length<=sizeLine/\(a==sysModules)=false/\
  ∃xs,KT H kvs xs/\h.DictOfH (tupleKind (p4 P w)) a xs:=iT ok (.inl e)
end
def DGet (H:Hp)(a:Addr)(y:V)(r:Option V):Prop:=
 (∃kvs k,Rd H a (.dK kvs)/\y=kV k/\r=z0 kvs k)\/∃kvs k b,Rd H a (.dT kvs)/\y= .ref b/\H b=some (.tup (k.map kV))/\r=z0 kvs k
def DPut (H:Hp)(a:Addr)(y v:V)(H':Hp):Prop:=
 (∃kvs k,H a=some (.dK kvs)/\y=kV k/\kvs.length<sizeLine/\H'=p5 H a (.dK (E3 kvs k v)))\/
 ∃kvs k b,H a=some (.dT kvs)/\y= .ref b/\H b=some (.tup (k.map kV))/\kvs.length<sizeLine/\H'=p5 H a (.dT (E3 kvs k v))
theorem DGet.t {H:Hp}{a b:Addr}{kvs:List (List j0×V)}{k:List j0}(e:H a=some (.dT kvs))(eb:H b=some (.tup (k.map kV))):DGet H a (.ref b) (z0 kvs k):= .inr ⟨kvs,k,b,.inl e,rfl,eb,rfl⟩
theorem DPut.k {H:Hp}{a:Addr}{kvs:List (j0×V)}{k:j0}{v:V}(e:H a=some (.dK kvs))(hl:kvs.length<sizeLine):DPut H a (kV k) v (p5 H a (.dK (E3 kvs k v))):= .inl ⟨kvs,k,e,rfl,hl,rfl⟩
section
variable {X:Cx} {pins:List (Addr×Obj)} {σ:St} {H:Hp} {s:Shared} {a:Addr} {y v:V} {u r:Value} {o:Option V} {A:Around} {E:Value->Shared->Prop}
theorem Inv.big (I:Inv X pins σ H s):sysModules<s.heap.objs.size:=by
 have h:mainGlobals<s.heap.objs.size:=(I.mod.glob.keeps I.bk).lt;exact Oo (by decide) h
theorem vN {Q:Value->Shared->Prop}(hu:A.units+1<cLine)(I:Inv X pins σ H s)(g:DGet H a y (some v))(ry:RelV y u)(h:∀w' s',Inv X pins σ H s'->RelV v w'->Q w' s'):
  wpAny (model X.prog X.w) A (getItem (.ref a) u) Q E s:=by
 rcases g with⟨kvs,k,e,ey,l⟩|⟨kvs,k,b,e,ey,eb,l⟩
 .subst ey
  obtain⟨z,hd,vs,rel,dd⟩:=X1 I.hok e
  obtain⟨w',hw,Ri⟩:=RelO.some_of (v:=v) (o:=valueAt vs k) (by rw[l];exact rel.val k)
  exact wpAny_getItem_of (gu ry) dd.mapOf hw (h w' _ (I.tok _) Ri)
 .subst ey
  cases (show u=Value.ref b from ry)
  obtain⟨z,hd,xs,rel,dd⟩:=iT I.hok e
  obtain⟨w',hw,Ri⟩:=RelO.some_of (v:=v) (o:=(atKey xs k).map (·.2)) (by rw[l];exact rel.val k)
  obtain⟨p,hp,SK⟩:=Kd.mp hw
  refine wpAny_getItem_heap (Lz hu) (cq I.hok eb) dd hp ?_
  rw[SK]
  exact h w' _ (I.tok _) Ri
theorem Iv {Q:Value->Shared->Prop}(hu:A.units+1<cLine)(I:Inv X pins σ H s)(g:DGet H a y o)(ry:RelV y u)(h:∀s',Inv X pins σ H s'->Q (.bool o.isSome) s'):
  wpAny (model X.prog X.w) A (compareOp .In u (.ref a)) Q E s:=by
 rcases g with⟨kvs,k,e,ey,l⟩|⟨kvs,k,b,e,ey,eb,l⟩
 .subst ey
  obtain⟨z,hd,vs,rel,dd⟩:=X1 I.hok e
  refine wpAny_in_of (gu ry) hd dd.mapOf ?_
  rw[←(rel.val k).isSome_eq,←l]
  exact h _ (I.tok _)
 .subst ey
  cases (show u=Value.ref b from ry)
  obtain⟨z,hd,xs,rel,dd⟩:=iT I.hok e
  refine wpAny_in_heap (Lz hu) (cq I.hok eb) hd dd ?_
  have q:=(rel.val k).isSome_eq
  rw[NJ] at q
  rw[←q,←l]
  exact h _ (I.tok _)
theorem AW {Q:Value->Shared->Prop}(hu:A.units+1<cLine)(I:Inv X pins σ H s)(g:DGet H a y o)(ry:RelV y u)(h:∀s',Inv X pins σ H s'->Q (.bool (!o.isSome)) s'):
  wpAny (model X.prog X.w) A (compareOp .NotIn u (.ref a)) Q E s:=by
 rcases g with⟨kvs,k,e,ey,l⟩|⟨kvs,k,b,e,ey,eb,l⟩
 .subst ey
  obtain⟨z,hd,vs,rel,dd⟩:=X1 I.hok e
  refine wpAny_notIn_of (gu ry) hd dd.mapOf ?_
  rw[←(rel.val k).isSome_eq,←l]
  exact h _ (I.tok _)
 .subst ey
  cases (show u=Value.ref b from ry)
  obtain⟨z,hd,xs,rel,dd⟩:=iT I.hok e
  refine wpAny_notIn_heap (Lz hu) (cq I.hok eb) hd dd ?_
  have q:=(rel.val k).isSome_eq
  rw[NJ] at q
  rw[←q,←l]
  exact h _ (I.tok _)
theorem dS {h':Heap}{t':Nat}{ob:HO}(I:Inv X pins σ H s)(mu:Fu (H a))(hs:Heap.SameBut a s.heap h')(he:∃q,h'.get? a=some q)(new:ObjOk X.prog X.w (p5 H a ob) h' a ob):
  Inv X pins σ (p5 H a ob) {s with heap:=h',toks:=t'}:=
 I.write (x:=a) (e:=a) mu (.inl rfl) (λb q hb z=>(hs.2 b hb).trans z) he new
theorem hJ {P:Program}{w:World}{H':Hp}{h':Heap}{kvs:List (j0×V)}{vs:List (j0×Value)}(z:kvs.length<=sizeLine)(hd:(a==sysModules)=false)(rel:KV kvs vs)(dd:h'.DictOf (p4 P w) a vs):
  ObjOk P w H' h' a (.dK kvs):=⟨z,hd,vs,rel,dd⟩
theorem wW {H':Hp}{Q:Unit->Shared->Prop}(hu:A.units+1<cLine)(I:Inv X pins σ H s)(g:DPut H a y v H')(ry:RelV y u)(rv:RelV v r)(h:∀s',Inv X pins σ H' s'->Q () s'):
  wpAny (model X.prog X.w) A (setItem (.ref a) u r) Q E s:=by
 rcases g with⟨kvs,k,e,ey,l,eH⟩|⟨kvs,k,b,e,ey,eb,l,eH⟩
 .subst ey eH
  obtain⟨z,hd,vs,rel,dd⟩:=uH I.hok e
  have hz:vs.length<=sizeLine:=by rw[←rel.length];exact z
  have hl:(E3 kvs k v).length<=sizeLine:=by have:=Q9 kvs k v;lia
  refine wpAny_setItem_pairs (hsz:=hz) (gu ry) dd λh' dd' hs=>h _ ?_
  have he:∃q,h'.get? a=some q:=let ⟨q,_,_,hq,_⟩:=dd';⟨q,hq⟩
  exact dS I (by rw[e];exact True.intro) hs he (hJ hl hd (rel.put k rv) dd')
 .subst ey eH
  cases (show u=Value.ref b from ry)
  obtain⟨z,hd,xs,rel,dd⟩:=Cg I.hok e
  have hz:xs.length<=sizeLine:=by rw[←Kr rel];exact z
  have hl:(E3 kvs k v).length<=sizeLine:=by have:=Q9 kvs k v;lia
  refine wpAny_setItem_heap (hsz:=hz) (Lz hu) (cq I.hok eb) dd λh' dd' hs=>h _ ?_
  obtain⟨q,es,ep,hq,h2,h3,h4,_,h5⟩:=dd'
  refine dS I (by rw[e];exact True.intro) hs ⟨q,hq⟩ ⟨hl,hd,_,(rel.put k eb rv).keeps λc ys ec=>?_,q,es,ep,hq,h2,h3,h4,h5⟩
  rw[d6 (BM ec e (λz=>nomatch z))]
  exact ec
end
section
variable {X:Cx} {pins:List (Addr×Obj)} {σ:St} {H:Hp} {s:Shared} {a:Addr} {kvs:List (j0×V)} {k:j0} {u:Value} {A:Around} {E:Value->Shared->Prop}
theorem AQ {Q:Value->Shared->Prop}(I:Inv X pins σ H s)(e:H a=some (.dK kvs))(h:∀s',Inv X pins σ (p5 H a (.dK [])) s'->Q .none s'):wpAny (model X.prog X.w) A (call (.builtin "dict.clear") [.ref a]) Q E s:=by
 obtain⟨z,hd,vs,rel,dd⟩:=uH I.hok e;refine Ll NO dd.typeIs PySem.F.entry_dict_clear (PySem.F.args_dict_clear_1 _) (meets_dict_clear (p4 X.prog X.w) a) ⟨vs,dd,by rw[←rel.length];exact z,λh' dd' hs=>h _ ?_⟩;have he:∃q,h'.get? a=some q:=let ⟨q,_,_,hq,_⟩:=dd';⟨q,hq⟩
 exact dS (t':=s.toks) I (by rw[e];exact True.intro) hs he (hJ (KU _) hd .nil dd')
theorem Fj {Q:Value->Shared->Prop}(I:Inv X pins σ H s)(e:Rd H a (.dK kvs))(h:∀t s',Inv X pins σ H s'->Q (.int kvs.length t) s'):wpAny (model X.prog X.w) A (call (.builtin "len") [.ref a]) Q E s:=by
 obtain⟨z,hd,vs,rel,dd⟩:=X1 I.hok e;refine call_len_dict hd dd (by rw[←rel.length];rw[OR] at z;lia) ?_;rw[←rel.length];exact h _ _ (I.tok _)
end
theorem rQ {X:Cx}{pins:List (Addr×Obj)}{σ:St}{H:Hp}{s:Shared}{a:Addr}{y:V}{o:Option V}(I:Inv X pins σ H s)(g:DGet H a y o):s.TypeIs (.ref a) "dict":=by
 rcases g with⟨kvs,k,e,_,_⟩|⟨kvs,k,b,e,_,_,_⟩
 .obtain⟨_,_,vs,_,dd⟩:=X1 I.hok e;exact dd.typeIs
 .obtain⟨_,_,xs,_,dd⟩:=iT I.hok e;exact dd.typeIs
section
variable {X:Cx} {o i e value:Expr} {pos pos' u_:Pos} {td ty tv:TE}
end
theorem zi {P:Program}{w:World}{H:Hp}(h:Heap)(hb:sysModules<h.objs.size):ObjOk P w H (h.push {cls:= .type "dict",data:= .dict #[]}) h.objs.size (.dK []):=
 ⟨KU _,Mc.mpr (Lw (JV hb)),[],.nil,Oq h⟩
theorem yN {P:Program}{w:World}{H:Hp}(h:Heap)(hb:sysModules<h.objs.size):ObjOk P w H (h.push {cls:= .type "dict",data:= .dict #[]}) h.objs.size (.dT []):=
 ⟨KU _,Mc.mpr (Lw (JV hb)),[],.nil,_, #[],0,JY _ rfl,⟨rfl,rfl,rfl⟩,rfl,rfl,Lc⟩
def zG:TE:=λ_ H Q=>∀p,H p=none->Q (.ref p) (p5 H p (.dK []))
def yT:TE:=λ_ H Q=>∀p,H p=none->Q (.ref p) (p5 H p (.dT []))
section
variable {X:Cx} {pos:Pos}
theorem yO:PE X (.Dict [] [] pos) zG:=λpins s σ H Q I h=>
 wpAny_Dict_empty ⟨.ref s.heap.objs.size,_,I.laid (a:=s.heap.objs.size) (o:= .dK []) (t':=s.toks) (λ_ _ q=>JI _ q) (JA _) (zi s.heap I.big),rfl,h _ (I.hok.fresh (JA _))⟩
theorem xD:PE X (.Dict [] [] pos) yT:=λpins s σ H Q I h=>
 wpAny_Dict_empty ⟨.ref s.heap.objs.size,_,I.laid (a:=s.heap.objs.size) (o:= .dT []) (t':=s.toks) (λ_ _ q=>JI _ q) (JA _) (yN s.heap I.big),rfl,h _ (I.hok.fresh (JA _))⟩
end
def yp:List (TE×TE)->St->Hp->(List (V×V)->Hp->Prop)->Prop
 |[],_,H,Q=>Q [] H
 |(tk,tv)::r,σ,H,Q=>tk σ H λx H1=>tv σ H1 λy H2=>yp r σ H2 λps H3=>Q ((x,y)::ps) H3
abbrev VV:List (V×V)->List (Value×Value)->Prop:=Paired λp q=>RelV p.1 q.1/\RelV p.2 q.2
def Ju (X:Cx)(pos:Pos)(keys:List (Option Expr))(values:List Expr)(XF:List (TE×TE)):Prop:=
 ∀(pins:List (Addr×Obj)) (s:Shared) (σ:St) (H:Hp) (Q:List (V×V)->Hp->Prop),Inv X pins σ H s->yp XF σ H Q->
  wpAny (model X.prog X.w) X.A (evalPairs (pairTrees keys values X.env pos)) (λvs s'=>∃ps H',Inv X pins σ H' s'/\VV ps vs/\Q ps H') X.xe s
structure M1 (X:Cx) (o:Expr) (m:Str) (apos:Pos) (e:Expr) (b_:Pos):Prop where
 base:attributeBase o m X.env (eval o X.env)=eval o X.env
 few:((backTo b_ (starEach [e] X.env)).all (λx=>!x.1)&&(backToKw b_ (keywordEach [] X.env)).all (λx=>x.1.isSome)
  &&decide (([e]:List Expr).length+([]:List Keyword).length+(if([]:List Keyword).isEmpty then 0 else 1)<30))=true
 line:(apos.endLine==b_.line)=true
 trees:backTo b_ (starEach [e] X.env)=[(false,eval e X.env)]
structure M2 (X:Cx) (o:Expr) (m:Str) (apos:Pos) (e f:Expr) (b_:Pos):Prop where
 base:attributeBase o m X.env (eval o X.env)=eval o X.env
 few:((backTo b_ (starEach [e,f] X.env)).all (λx=>!x.1)&&(backToKw b_ (keywordEach [] X.env)).all (λx=>x.1.isSome)
  &&decide (([e,f]:List Expr).length+([]:List Keyword).length+(if([]:List Keyword).isEmpty then 0 else 1)<30))=true
 line:(apos.endLine==b_.line)=true
 trees:backTo b_ (starEach [e,f] X.env)=[(false,eval e X.env),(false,eval f X.env)]
def Gv (H:Hp)(a:Addr):Prop:=(∃kvs,Rd H a (.dK kvs))\/∃kvs,Rd H a (.dT kvs)
theorem xK {X:Cx}{pins:List (Addr×Obj)}{σ:St}{H:Hp}{s:Shared}{a:Addr}(I:Inv X pins σ H s)(d:Gv H a):
  s.TypeIs (.ref a) "dict"/\(∀b,Value.ref a= .ref b->∃ob,s.heap.get? b=some ob/\ob.dict=none)/\(a==sysModules)=false:=by
 rcases d with⟨kvs,e⟩|⟨kvs,e⟩
 .obtain⟨_,hd,vs,_,dd⟩:=X1 I.hok e
  refine⟨dd.typeIs,λb q=>?_,hd⟩
  cases q
  obtain⟨ob,_,_,h1,h2,_⟩:=dd
  exact⟨ob,h1,h2.2.1⟩
 .obtain⟨_,hd,xs,_,dd⟩:=iT I.hok e
  refine⟨dd.typeIs,λb q=>?_,hd⟩
  cases q
  obtain⟨ob,_,_,h1,h2,_⟩:=dd
  exact⟨ob,h1,h2.2.1⟩
section
variable {X:Cx} {pins:List (Addr×Obj)} {σ:St} {H:Hp} {s:Shared} {a:Addr} {y d:V} {u r:Value} {o:Option V} {A:Around} {E:Value->Shared->Prop}
theorem Dt {Q:Value->Shared->Prop}(hu:A.units+1<cLine)(I:Inv X pins σ H s)(g:DGet H a y o)(ry:RelV y u)(h:∀w' s',Inv X pins σ H s'->RelV (o.getD .non) w'->Q w' s'):
  wpAny (model X.prog X.w) A (call (.builtin "dict.get") [.ref a,u]) Q E s:=by
 rcases g with⟨kvs,k,e,ey,l⟩|⟨kvs,k,b,e,ey,eb,l⟩
 .subst ey
  obtain⟨z,hd,vs,rel,dd⟩:=X1 I.hok e
  refine Ll Ly dd.typeIs Mi (NP _ _) (meets_dict_get (p4 X.prog X.w) a (gu ry) hd) ⟨_,dd.mapOf,h _ _ (I.tok _) ?_⟩
  rw[l]
  exact(rel.val k).getD rfl
 .subst ey
  cases (show u=Value.ref b from ry)
  obtain⟨z,hd,xs,rel,dd⟩:=iT I.hok e
  refine Ll Ly dd.typeIs Mi (NP _ _) (meetsH_dict_get (tupleKind (p4 X.prog X.w)) a b hd) ⟨Lz hu,k,xs,cq I.hok eb,dd,h _ _ (I.tok _) ?_⟩
  rw[l]
  exact(rel.val k).getD rfl
theorem Dk {Q:Value->Shared->Prop}(hu:A.units+1<cLine)(I:Inv X pins σ H s)(g:DGet H a y o)(ry:RelV y u)(rd:RelV d r)(h:∀w' s',Inv X pins σ H s'->RelV (o.getD d) w'->Q w' s'):
  wpAny (model X.prog X.w) A (call (.builtin "dict.get") [.ref a,u,r]) Q E s:=by
 rcases g with⟨kvs,k,e,ey,l⟩|⟨kvs,k,b,e,ey,eb,l⟩
 .subst ey
  obtain⟨z,hd,vs,rel,dd⟩:=X1 I.hok e
  refine Ll Ly dd.typeIs Mi (NQ _ _ _) (meets_dict_get_default (p4 X.prog X.w) a (gu ry) hd r) ⟨_,dd.mapOf,h _ _ (I.tok _) ?_⟩
  rw[l]
  exact(rel.val k).getD rd
 .subst ey
  cases (show u=Value.ref b from ry)
  obtain⟨z,hd,xs,rel,dd⟩:=iT I.hok e
  refine Ll Ly dd.typeIs Mi (NQ _ _ _) (meetsH_dict_get_default (tupleKind (p4 X.prog X.w)) a b hd r) ⟨Lz hu,k,xs,cq I.hok eb,dd,h _ _ (I.tok _) ?_⟩
  rw[l]
  exact(rel.val k).getD rd
end
def sI (td ty:TE):TE:=λσ H Q=>td σ H λx H1=>∃a,x= .ref a/\Gv H1 a/\ty σ H1 λy H2=>∃o,DGet H2 a y o/\Q (o.getD .non) H2
def tO (td ty tx:TE):TE:=λσ H Q=>td σ H λx H1=>∃a,x= .ref a/\Gv H1 a/\ty σ H1 λy H2=>tx σ H2 λz H3=>∃o,DGet H3 a y o/\Q (o.getD z) H3
section
variable {X:Cx} {o e f:Expr} {apos b_:Pos} {td ty tx:TE}
theorem yh (hu:X.A.units+1<cLine)(ho:PE X o td)(he:PE X e ty)(m:M1 X o "get" apos e b_):PE X (.Call (.Attribute o "get" apos) [e] [] b_) (sI td ty):=by
 intro pins s σ H Q I h;refine wpAny_Call_method m.base m.few m.line Kz Ly Ot (P0 (ho pins s σ H _ I h) λu s1 ⟨x,H1,I1,rx,a,ex,d,q1⟩=>?_);subst ex;obtain rfl:u=Value.ref a:=rx;obtain⟨t1,t2,_⟩:=xK I1 d;refine⟨t1,t2,?_⟩;rw[m.trees];refine Lv rfl (MA (Ml (P0 (he pins s1 σ H1 _ I1 q1) λiv s2 ⟨y,H2,I2,ry,ov,g,q2⟩=>MZ ?_)));exact Dt hu I2 g ry λw' s3 I3 Ri=>⟨_,H2,I3,Ri,q2⟩
theorem yg (hu:X.A.units+1<cLine)(ho:PE X o td)(he:PE X e ty)(hf:PE X f tx)(m:M2 X o "get" apos e f b_):PE X (.Call (.Attribute o "get" apos) [e,f] [] b_) (tO td ty tx):=by
 intro pins s σ H Q I h;refine wpAny_Call_method m.base m.few m.line Kz Ly Ot (P0 (ho pins s σ H _ I h) λu s1 ⟨x,H1,I1,rx,a,ex,d,q1⟩=>?_);subst ex;obtain rfl:u=Value.ref a:=rx;obtain⟨t1,t2,_⟩:=xK I1 d;refine⟨t1,t2,?_⟩;rw[m.trees];refine Lv rfl (MA (Ml (P0 (he pins s1 σ H1 _ I1 q1) λiv s2 ⟨y,H2,I2,ry,q2⟩=>
  Ml (P0 (hf pins s2 σ H2 _ I2 q2) λfv s3 ⟨z,H3,I3,rz,ov,g,q3⟩=>MZ ?_))))
 exact Dk hu I3 g ry rz λw' s4 I4 Ri=>⟨_,H3,I4,Ri,q3⟩
end
section
variable {X:Cx} {pins:List (Addr×Obj)} {σ:St} {H:Hp} {s:Shared} {a:Addr} {kvs:List (j0×V)} {A:Around} {E:Value->Shared->Prop}
theorem ze {Q:Value->Shared->Prop}(I:Inv X pins σ H s)(e:Rd H a (.dK kvs))(h:∀p s',H p=none->Inv X pins σ (p5 H p (.dK kvs)) s'->Q (.ref p) s'):wpAny (model X.prog X.w) A (call (.type "dict") [.ref a]) Q E s:=by
 obtain⟨z,hd,vs,rel,dd⟩:=X1 I.hok e;refine kt_call_dict hd dd (by rw[←rel.length];exact z) λh' dd' hs=>?_;refine h _ _ (I.hok.fresh (JA _)) (I.laid (a:=s.heap.objs.size) (o:= .dK kvs) (t':=s.toks) (λb q hq=>?_) (JA _) (hJ z (Mc.mpr (Lw (JV I.big))) rel dd'));exact(hs.2 b (JV (JR hq))).trans (JI _ hq)
end
section
variable {X:Cx} {pins:List (Addr×Obj)} {σ:St} {H:Hp} {s:Shared} {a:Addr} {y:V} {u:Value} {A:Around} {E:Value->Shared->Prop}
end
end L2
namespace Att
open PySem PySem.W PySem.Calls PyProof.Rows
theorem jb {P:Params}{h:Heap}:∀(ns:List Int) (vs:List Value),WellAll P h vs (ns.map WData.int)->IntsAre vs ns:=by
 intro ns;induction ns with
 |nil=>
  intro vs w
  rw[Ms] at w
  cases w
  exact .nil
 |cons n ns ih=>
  intro vs w
  rw[Kx] at w
  cases w with
  |cons a b=>
   cases a
   exact .cons _ _ (ih _ b)
theorem vh {l:OpenLaw}{n:Nat}(hn:l.most=some n){P:Params}{h:Heap}{args:List WData}{vals:List Value}
  (Sm:l.row.toRowW.claim.pre args=true) (Vf:WellAll P h vals args):
  ∃a vs ns,vals=[Value.ref a]/\args=[WData.list (ns.map WData.int)]/\h.get? a=some {cls:= .type "list",data:= .seq vs.toArray}/\IntsAre vs ns/\ns.length<=n:=by
 have hsh:WShape.hasAll [] args [.list .int]=true:=(pre_splitW Sm).1
 have hc:l.pre.holds [] {args:=args}=true:=(pre_splitW Sm).2
 obtain⟨d,r,rfl,h1,h2⟩:=hasAllW_cons hsh
 obtain rfl:=hasAllW_nil h2
 obtain⟨xs,rfl,h3⟩:=hasW_list h1
 obtain⟨ns,rfl⟩:=items_int h3
 have hlen:ns.length<=n:=by
  unfold OpenLaw.pre at hc;have h4:(WTm.not (.lt (.lit (.int (n:Int))) (.len (.arg 0)))).holds [] {args:=[.list (ns.map .int)]}=true:=by
   have h4:=(holds_andW hc).1;rw[hn] at h4;exact h4
  have h5:=condW_of h4 (w_not (w_lt w_lit (w_len_list (w_arg rfl))));rw[Jx] at h5;refine Nat.le_of_not_lt λq=>?_;have q':(n:Int)<((ns.length:Nat):Int):=by lia
  first
   |(rw[JX q'] at h5;exact absurd h5 (by decide))
   |(simp at h5;lia)
 cases Vf with
 |cons w1 w2=>
  cases w2
  cases w1 with
  |list ho m_=>exact⟨_,_,ns,rfl,rfl,ho,jb ns _ m_,hlen⟩
theorem vp (l:OpenLaw)(args:List WData):l.row.toRowW.claim.post args (.bool true) args=true:=
 postW_of (r:=l.row.toRowW) (X:=(true==true))
  (show WShape.has [] (.bool true) .bool=true by first|rfl|decide|simp [WShape.has,WShape.arms,WShape.armsAll])
  (show(WTm.eq .res (.lit (.bool true))).value [] {args:=args,res:=some (.bool true),after:=args}=some (.bool (true==true)) from w_eq_bool (w_res rfl) w_lit) rfl
theorem attach_call {l:OpenLaw}{n:Nat}{q:Program}{loose:List Str}{XP:(Str->Option Value)->Heap->Prop}{YP:World->Heap->Prop}{d:DefRec}
  (hn:l.most=some n) (Vg:d.params.defaults=[])
  (call:∀(w:World) (s₀ s₁:Shared) (mg mb:Str->Option Value) (fa:Addr) (o:Obj) (pm cd doc:Value) (a:Addr) (vs:List Value) (ns:List Int),
   Ground q loose [] XP w s₀ mg mb s₁.heap->YP w s₁.heap->
   s₁.heap.get? fa=some o->o.data= .func (docDef d.name d.params d.body d.scope pm cd doc)->s₁.heap.CodeRec cd d.name->mg d.name=some (.ref fa)->
   s₁.heap.get? a=some {cls:= .type "list",data:= .seq vs.toArray}->IntsAre vs ns->ns.length<=n->s₁.gens= #[]->
   codeAny (model l.prog w) callerA (.call (.ref fa) ⟨[.ref a],[]⟩) (λr s'=>r= .ok (.ret (.bool true))/\OldK s₁.heap s'.heap/\s'.os=s₁.os/\AllBare s'.gens) s₁):
  WalkO q loose XP YP l.row.toRowW d [] (λf vs=>PySem.call f vs):=by
 intro w s₀ s₁ mg mb G Y fa o pm cd doc dV kV ho hd P_ hD hmg hg args vals as Sm hlay hrd Vf hlo
 obtain rfl:dV= .none:=Dflts.none hD Vg
 obtain rfl:kV= .none:=Dflts.noKw hD
 obtain⟨a,vs,ns,rfl,rfl,Tj,hints,hlen⟩:=vh hn Sm Vf
 refine enter_call (Nz (call w s₀ s₁ mg mb fa o pm cd doc a vs ns G Y ho (fd_plain hd) P_ hmg Tj hints hlen hg) λr s' hq=>?_)
 obtain⟨rfl,h2,h3,h4⟩:=hq
 exact⟨.inl ⟨.bool true,.bool true,[],rfl,λ_=>rfl,.bool true,vp l _,λ_=>⟨List.Pairwise.nil,λ_ hm=>(nomatch hm)⟩⟩,h2,h3,h4⟩
section
variable {prog:Program} {w:World} {A:Around} {E:Value->Shared->Prop} {s:Shared} {K:Frag}
end
end Att
namespace L2
open PySem PySem.Spec PyProof.Rows
theorem mr:∀{vs:List Value} {ns:List Int},IntsAre vs ns->Vals (ns.map V.int) vs
 |_,_,.nil=> .nil
 |_,_,.cons n t h=> .cons ⟨t,rfl⟩ (mr h)
def CW (H:Hp):Prop:=∀b,H b=none\/∃o xs,H b=some (.frz o (.lst xs))
theorem xX {P:Program}{w:World}{K:Qe}{mg mb:Str->Option Value}{CX:pQ}{k:Nat}{fa a:Addr}{fd:FuncData}{x:Str}{sp:Sp}{s₁:Shared}{vs:List Value}{ns:List Int}
  (KX:K.In s₁.heap) (hns:s₁.heap.Ns mainGlobals mg) (hb:s₁.heap.Ns builtinsNs mb) (XG:∀x:Str,x≠"__name__"->mb x=bootBuiltins x) (XH:s₁.heap.NoLimit) (hg:s₁.gens= #[])
  (ha:s₁.heap.get? a=some {cls:= .type "list",data:= .seq vs.toArray}) (hi:IntsAre vs ns) (hl:ns.length<=sizeLine) (hr:Room k callerA)
  (F:∀base:Heap,K.In base->base.Ns mainGlobals mg->C0 P w K mg base CX k fa fd [x] sp) (Vh:∀(s:Shared) (u:Value),BindsTo s fd ⟨[u],[]⟩ [(x,u)])
  (RQ:∀H:Hp,CW H->SqL K H a (ns.map V.int)->sp [.ref a] H (λv _=>v= .bl true) λ_ _ _=>False)
  (XI:∀H e s',CX [] H s₁ (λ_ _ _=>False) e s'->False):
  codeAny (model P w) callerA (.call (.ref fa) ⟨[.ref a],[]⟩) (λr s'=>r= .ok (.ret (.bool true))/\OldK s₁.heap s'.heap/\s'.os=s₁.os/\AllBare s'.gens) s₁:=by
 have rv:=mr hi
 have XJ:=hi.length
 have core:∀H:Hp,CW H->SqL K H a (ns.map V.int)->HOk P w H s₁.heap->(∀b,H b≠none->b=a)->(H a≠none->K.lookup a=none)->
   codeAny (model P w) callerA (.call (.ref fa) ⟨[.ref a],[]⟩) (λr s'=>r= .ok (.ret (.bool true))/\OldK s₁.heap s'.heap/\s'.os=s₁.os/\AllBare s'.gens) s₁:=by
  intro H hO hS hok hA hK
  have base_of:∀{b:Addr} {o:Obj},s₁.heap.get? b=some o->H b=none->(oH s₁.heap H).get? b=some o:=λe n=>zA e n
  have Vc:∀{b:Addr} {o:Obj} {es:Array DictEntry} {ep:Nat},s₁.heap.get? b=some o->o.data= .dict es ep->H b=none:=fun{b o es ep} e d=>by
   cases q:H b with
   |none=>rfl
   |some u=>
    have e':b=a:=hA b (by rw[q];simp)
    subst e'
    rw[ha] at e;cases e
    have d':Data.seq vs.toArray _=Data.dict es ep:=d
    cases d'
  have WN:∀{b:Addr} {m:Str->Option Value},s₁.heap.Ns b m->(oH s₁.heap H).Ns b m:=fun{b m} ⟨o,es,ep,e,d,r⟩=>⟨o,es,ep,base_of e (Vc e d),d,r⟩
  have hKb:K.In (oH s₁.heap H):=λb o e=>base_of (KX b o e) (by
   cases q:H b with
   |none=>rfl
   |some u=>
    have e':b=a:=hA b (by rw[q];simp)
    subst e'
    rw[hK (by rw[q];simp)] at e;cases e)
  have hM:Mod K mg (oH s₁.heap H):=⟨hKb,WN hns,⟨mb,WN hb,XG⟩,let ⟨mc,h1,h2⟩:=XH;⟨mc,WN h1,h2⟩⟩
  have e0:BF P w K mg (oH s₁.heap H) callerA [] s₁ H:=⟨rfl,hM,λb o e=>Bz e,Nat.le_of_eq (xc _ _),trivial,λb hb=>absurd (show b∈([]:List Addr) from hb) (by simp),hok,.of_eq hg⟩
  refine Nz ((F _ hKb (WN hns)).run callerA [] s₁ H ⟨[.ref a],[]⟩ [.ref a] [.ref a] _ _ hr e0 (Vh s₁ (.ref a)) (.cons rfl .nil) (RQ H hO hS)) λr s' h=>?_
  cases r with
  |error e=>exact(XI H e s' h).elim
  |ok fl=>
   cases fl with
   |next=>exact False.elim h
   |brk=>exact False.elim h
   |cont=>exact False.elim h
   |ret u=>
    obtain⟨v,H',os,bare,un,XN,r',q⟩:=h
    have q':v= .bl true:=q
    subst q'
    obtain rfl:u=Value.bool true:=r'
    refine⟨rfl,OldK.of_keep λb o e=>?_,os,bare⟩
    cases q:H b with
    |none=>exact un.keep b o e q (by intro z;exact absurd (show b∈([]:List Addr) from z) (by simp)) (by simp)
    |some u=>
     rcases hO b with z|⟨ob,xs,z⟩
     .rw[q] at z;cases z
     .have z2:=un.frzs b ob _ z
      obtain⟨e1,_⟩:=hok b _ z
      obtain⟨e2,_⟩:=XN b _ z2
      rw[e] at e1;cases e1
      exact e2
 cases hk:K.lookup a with
 |some o=>
  have e:=KX a o hk
  rw[ha] at e
  cases e
  refine core (λ_=>none) (λ_=> .inl rfl) (.inr ⟨_,vs.toArray,_,hk,rfl,rfl,rfl,by rw[Kc,XJ];exact hl,by simpa using rv⟩) (λb u z=>by have z':(none:Option HO)=some u:=z;cases z') (λb z=>absurd rfl z) λz=>absurd rfl z
 |none=>
  refine core (λb=>if b=a then some (.frz {cls:= .type "list",data:= .seq vs.toArray} (.lst (ns.map V.int))) else none) (λb=>?_) (.inl (.inr ⟨{cls:= .type "list",data:= .seq vs.toArray},if_pos rfl⟩)) (λb u z=>?_) (λb z=>?_) λ_=>hk
  .by_cases hb:b=a
   .exact .inr ⟨_,_,if_pos hb⟩
   .exact .inl (if_neg hb)
  .by_cases hb:b=a
   .have z':=(if_pos hb).symm.trans z
    cases z'
    subst hb
    exact⟨ha,by rw[Jx];exact hl,vs,_,rv,ha⟩
   .have z':=(if_neg hb).symm.trans z
    cases z'
  .by_cases hb:b=a
   .exact hb
   .exact absurd (if_neg hb) z
theorem walk_of {l:PySem.W.OpenLaw}{n k:Nat}{q:Program}{loose:List Str}{XP:(Str->Option Value)->Heap->Prop}{YP:World->Heap->Prop}{d:DefRec}{K:Params->Qe}{CX:World->pQ}{sp:World->Sp}{x:Str}
  (hn:l.most=some n) (hn2:n<=sizeLine) (Vg:d.params.defaults=[]) (hr:Room k callerA)
  (hY:∀(w:World) (h:Heap),YP w h->(K w.params).In h)
  (F:∀(w:World) (mg:Str->Option Value) (fa:Addr) (h:Heap),(K w.params).In h->h.Ns mainGlobals mg->mg d.name=some (.ref fa)->
   ∃fd:FuncData,(∀(s:Shared) (u:Value),BindsTo s fd ⟨[u],[]⟩ [(x,u)])/\
    ∀base:Heap,(K w.params).In base->base.Ns mainGlobals mg->C0 l.prog w (K w.params) mg base (CX w) k fa fd [x] (sp w))
  (RQ:∀(w:World) (H:Hp) (a:Addr) (ns:List Int),ns.length<=n->CW H->SqL (K w.params) H a (ns.map V.int)->sp w [.ref a] H (λv _=>v= .bl true) λ_ _ _=>False)
  (XI:∀(w:World) (H:Hp) (s:Shared) (e:Value) (s':Shared),CX w [] H s (λ_ _ _=>False) e s'->False):
  PySem.W.WalkO q loose XP YP l.row.toRowW d [] (λf vs=>PySem.call f vs):=by
 refine Att.attach_call hn Vg λw s₀ s₁ mg mb fa o pm cd doc a vs ns G Y ho hd P_ hmg Tj hints hlen hg=>?_
 have KX:=hY w _ Y
 obtain⟨fd,hb,hF⟩:=F w mg fa _ KX G.T.g hmg
 exact xX KX G.T.g G.T.b G.T.builtins G.T.nolimit hg Tj hints (Kg hlen hn2) hr hF hb (λH hO hS=>RQ w H a ns hlen hO hS) λH e s'=>XI w H s₁ e s'
def aJ (s:Stmt):Arguments:=match s with
 | .FunctionDef _ a _ _ _ _ _ _ _ _=>a
 |_=>{posonlyargs:=[],args:=[],vararg:=none,kwonlyargs:=[],kw_defaults:=[],kwarg:=none,defaults:=[]}
def Y5 (s:Stmt):List Stmt:=match s with
 | .FunctionDef _ _ b _ _ _ _ _ _ _=>b
 |_=>[]
def i8 (s:Stmt):Scope:=match s with
 | .FunctionDef _ _ _ _ _ _ sc _ _ _=>sc
 |_=>{kind:= .function,names:=[],isGenerator:=false,isCoroutine:=false}
abbrev E7:pQ:=λ_ _ _ _ _ _=>False
abbrev E0:XK:=λ_ _ _=>False
theorem k7 {X:Cx}:cD E7 X E0:=λ_ _ _ _ _ _ _ h=>h.elim
structure Fun (K:Qe) (x qual:Str) (st:Stmt) (f:Addr) (fd:FuncData):Prop where
 ex:∃(oc:Value) (od:Option Addr) (kV doc pm:Value) (an:Option Addr) (c_ ct:Value) (Qg:Array (Option Value)),
  fd=PySem.W.fnOf x qual (aJ st) (Y5 st) (i8 st) .none kV doc pm an c_ ct/\K.lookup f=some ⟨oc,od,.func fd,Qg⟩/\PySem.W.codeIn K c_ qual=true
 kp:PySem.W.keepIn K (.ref f)=true
section
variable {P:Program} {w:World} {K:Qe} {mg:Str->Option Value} {base:Heap}
theorem Fun.ok {x qual:Str}{st:Stmt}{f:Addr}{fd:FuncData}{N ps:List Str}{k:Nat}{sp:Sp}(F:Fun K x qual st f fd)(S:j6 N ps (i8 st))(len:∀vs H Q E,sp vs H Q E->vs.length=ps.length)
  (Oe:∀(c_:Value) (A:Around) (outer:List Env) (s:Shared) (H:Hp) (vs:List V) (Q:VK) (E:XK),Room k (A.deeper (envOfC qual (i8 st) s.heap.objs.size f c_))->sp vs H Q E->
   ∃t,PSs (lE E7 P w K mg base N qual (i8 st) f c_ A outer s H E).nox (Y5 st) t/\t {nx:=λ_ H'=>Q .non H',rt:=Q} (gL N vs) H):C0 P w K mg base E7 (k+1) f fd ps sp:=by
 obtain⟨oc,od,kV,doc,pm,an,c_,ct,Qg,rfl,lk,P_⟩:=F.ex
 refine Cn lk P_ S len λA outer s H vs Q E hr RQ=>?_
 obtain⟨t,h,q⟩:=Oe c_ A outer s H vs Q E hr RQ
 exact⟨t,h.nox,q⟩
theorem Fun.binds {x qual:Str}{st:Stmt}{f:Addr}{fd:FuncData}{ps:List Str}(F:Fun K x qual st f fd)
  (h:∀(kV doc pm:Value) (an:Option Addr) (c_ ct:Value) (us:List Value),us.length=ps.length->bindArgs (PySem.W.fnOf x qual (aJ st) (Y5 st) (i8 st) .none kV doc pm an c_ ct) ⟨us,[]⟩=pure (ps.zip us)):Binds K fd ps []:=by
 obtain⟨oc,od,kV,doc,pm,an,c_,ct,Qg,rfl,lk,P_⟩:=F.ex
 exact .all (h kV doc pm an c_ ct)
theorem Ec {x qual:Str}{st:Stmt}{f:Addr}{oc:Value}{od an:Option Addr}{Qg:Array (Option Value)}{kV doc pm c_ ct:Value}(l:K.lookup f=some ⟨oc,od,.func (PySem.W.fnOf x qual (aJ st) (Y5 st) (i8 st) .none kV doc pm an c_ ct),Qg⟩)
  (c:PySem.W.codeIn K c_ qual=true) (k:PySem.W.keepIn K (.ref f)=true):Fun K x qual st f (PySem.W.fnOf x qual (aJ st) (Y5 st) (i8 st) .none kV doc pm an c_ ct):=⟨⟨oc,od,kV,doc,pm,an,c_,ct,Qg,rfl,l,c⟩,k⟩
end
theorem U0 {n:Nat}(h:n<=1000):n<sizeLine:=Pg h (by decide)
section
variable {X:Cx}
end
theorem Ir {A B:Prop}(h:B):if false=true then A else B:=by
 rw[if_neg Ks];exact h
theorem IA {A B:Prop}(h:A):if true=true then A else B:=by
 rw[if_pos rfl];exact h
def Same (H H':Hp):Prop:=∀b o,H b=some o->H' b=some o
theorem Same.refl (H:Hp):Same H H:=λ_ _ h=>h
theorem Same.trans {H H1 H2:Hp}(a:Same H H1)(b:Same H1 H2):Same H H2:=λc o h=>b c o (a c o h)
theorem Same.free {H H':Hp}(e:Same H H'){l:Addr}(h:H' l=Option.none):H l=Option.none:=by
 cases q:H l with
 |none=>rfl
 |some o=>
  rw[e l o q] at h
  cases h
theorem Same.seq {K:Qe}{H H':Hp}{a:Addr}{xs:List V}(e:Same H H')(h:SqL K H a xs):SqL K H' a xs:=by
 rcases h with(h|⟨o,h⟩)|h
 .exact .inl (.inl (e _ _ h))
 .exact .inl (.inr ⟨o,e _ _ h⟩)
 .exact .inr h
section
variable {κ:Type} [DecidableEq κ]
theorem uq {kvs:List (κ×V)}{k:κ}{v:V}(h:z0 kvs k=some v):k∈kvs.map (·.1):=by
 have q:(kvs.any λkv=>decide (kv.1=k))=true:=by
  rw[ah,h];all_goals rfl
 obtain⟨p,hp,e⟩:=LC.mp q;exact Jz.mpr ⟨p,hp,KW e⟩
theorem F4:∀{l:List κ} {k:κ},l.Nodup->¬k∈l->(l++[k]).Nodup
 |[],k,_,_=>by simp
 |a::r,k,h,hk=>by
  obtain⟨h1,h2⟩:=KN.mp h;show(a::(r++[k])).Nodup;refine KN.mpr ⟨λm=>?_,F4 h2 λm=>hk (Kl.mpr (Or.inr m))⟩;rcases JD.mp m with q|q
  .exact h1 q
  .exact hk (Kl.mpr (Or.inl (JN.mp q).symm))
end
end L2
set_option maxHeartbeats 4000000
namespace L2
open PySem PySem.Spec PyProof.Rows
def jf (scope:Scope)(env:Env):List (Str×Addr):=(scope.names.filter λx=>x.2== .free).reverse.map λx=>(x.1,(env.cells.lookup x.1).getD 0)
theorem dn {env:Env}:∀(l:List (Str×NameKind)) (cs:List (Str×Addr)),(∀x∈l,x.2= .free->∃c,env.cells.lookup x.1=some c)->
  (forIn l cs fun(x:Str×NameKind) (r:List (Str×Addr))=>if(x.2==NameKind.free)=true then(do let a←cellOf env x.1;pure (ForInStep.yield ((x.1,a)::r))) else(pure (ForInStep.yield r):Sem (ForInStep (List (Str×Addr)))))=
   pure (((l.filter λx=>x.2== .free).reverse.map λx=>(x.1,(env.cells.lookup x.1).getD 0))++cs)
 |[],cs,_=>rfl
 |(n,k)::l,cs,h=>by
  rw[Ou];by_cases hk:k= .free
  .subst hk;obtain⟨c,hc⟩:=h (n,.free) JT rfl;simp only[NV,Ol];have Qt:env.cells.lookup n=some c:=hc;have e0:cellOf env n=pure c:=by unfold cellOf;rw[Qt]
   simp only[e0,pure_bind];rw[dn l _ λx hx=>h x (JZ _ hx)];rw[Mh,if_pos (by rfl),List.reverse_cons,JF,KH];simp only[Kx,Ms,Qt,ME,Mg,Ov]
  .have hb:(k==NameKind.free)=false:=by simpa using hk
   simp only[hb,Bool.false_eq_true,SI,pure_bind];rw[dn l cs λx hx=>h x (JZ _ hx)];rw[Mh,if_neg (by simp [hb])]
theorem kT {scope:Scope}{env:Env}(h:∀x∈scope.names,x.2= .free->∃c,env.cells.lookup x.1=some c):closureFor scope env=pure (jf scope env):=by
 have e:=dn (env:=env) scope.names [] h;rw[Ku] at e;unfold closureFor jf;simp only[];refine Eq.trans ?_ (KQ (λm=>m>>=λr=>(pure r:Sem (List (Str×Addr)))) e);rfl
theorem Z2 {env:Env}{x:Str}:∀(l:List (Str×NameKind)),(∀y∈l,∃c,env.cells.lookup y.1=some c)->(x∈l.map (·.1)->(l.map λy=>(y.1,(env.cells.lookup y.1).getD 0)).lookup x=env.cells.lookup x)/\(x∉l.map (·.1)->(l.map λy=>(y.1,(env.cells.lookup y.1).getD 0)).lookup x=none)
 |[],_=>⟨λh=>by simp at h,λ_=>rfl⟩
 |(n,k)::l,h=>by
  have ih:=Z2 (x:=x) l λy hy=>h y (JZ _ hy);obtain⟨c,hc⟩:=h (n,k) JT;have Qt:env.cells.lookup n=some c:=hc;by_cases e:x=n
  .subst e;refine⟨λ_=>?_,λz=>absurd (by simp) z⟩;simp [Lo,Qt]
  .have eb:(x==n)=false:=by simpa using e
   refine⟨λhm=>?_,λhm=>?_⟩
   .simp only[Kx,Lo,eb];exact ih.1 (by simpa [e] using hm)
   .simp only[Kx,Lo,eb];exact ih.2 (λz=>hm (by simp [z]))
theorem ak {scope:Scope}{env:Env}(h:∀x∈scope.names,x.2= .free->∃c,env.cells.lookup x.1=some c){x:Str}{c:Addr}(e:(jf scope env).lookup x=some c):env.cells.lookup x=some c:=by
 have hl:∀y∈(scope.names.filter λx=>x.2== .free).reverse,∃c,env.cells.lookup y.1=some c:=λy hy=>by
  obtain⟨h1,h2⟩:=JH.mp (NW.mp hy);exact h y h1 (by simpa using h2)
 have a:=Z2 (x:=x) _ hl;by_cases hm:x∈(scope.names.filter λx=>x.2== .free).reverse.map (·.1)
 .rw[←a.1 hm];exact e
 .have z:=a.2 hm;unfold jf at e;rw[z] at e;cases e
theorem pZ {scope:Scope}{env:Env}(h:∀x∈scope.names,x.2= .free->∃c,env.cells.lookup x.1=some c){x:Str}(hx:(x,NameKind.free)∈scope.names):(jf scope env).lookup x=env.cells.lookup x:=by
 have hl:∀y∈(scope.names.filter λx=>x.2== .free).reverse,∃c,env.cells.lookup y.1=some c:=λy hy=>by
  obtain⟨h1,h2⟩:=JH.mp (NW.mp hy);exact h y h1 (by simpa using h2)
 exact(Z2 (x:=x) _ hl).1 (Jz.mpr ⟨(x,.free),NW.mpr (JH.mpr ⟨hx,rfl⟩),rfl⟩)
theorem oq {scope:Scope}{env:Env}(hc:∀y∈scope.names,y.2≠ .cell){x:Str}(h:(relabel scope env).names.lookup x=some .cell\/(relabel scope env).names.lookup x=some .free):(x,NameKind.free)∈scope.names:=by
 have key:∀(l:List (Str×NameKind)),(∀y∈l,y.2≠ .cell)->∀k,(k=NameKind.cell\/k=NameKind.free)->(l.map fun(n,k)=>if(k==NameKind.free&&env.scope.kind== .function&&env.kindOf n==some .cell) then(n,NameKind.cell) else(n,k)).lookup x=some k->(x,NameKind.free)∈l:=by
  intro l;induction l with
  |nil=>intro _ k _ e;simp at e
  |cons y r ih=>
   obtain⟨n,k0⟩:=y
   intro hl k hk e
   have ih':=ih (λy hy=>hl y (JZ _ hy)) k hk
   rw[Kx] at e
   have hk0:k0≠ .cell:=hl (n,k0) JT
   dsimp only at e
   by_cases hcnd:(k0==NameKind.free&&env.scope.kind== .function&&env.kindOf n==some .cell)=true
   .rw[if_pos hcnd] at e
    cases hx:x==n with
    |true=>
     have:x=n:=by simpa using hx
     subst this
     have:k0= .free:=by
      simp only[Kj,Sr] at hcnd;exact hcnd.1.1
     subst this
     exact JT
    |false=>
     simp only[Lo,hx] at e
     exact JZ _ (ih' e)
   .rw[if_neg hcnd] at e
    cases hx:x==n with
    |true=>
     have:x=n:=by simpa using hx
     subst this
     simp only[Lo,hx] at e
     have e':k0=k:=JU e
     subst e'
     rcases hk with z|z
     .exact absurd z hk0
     .subst z;exact JT
    |false=>
     simp only[Lo,hx] at e
     exact JZ _ (ih' e)
 rcases h with h|h
 .exact key _ hc _ (.inl rfl) h
 .exact key _ hc _ (.inr rfl) h
def ej (X:Cx)(own:List Str)(js:List Nat)(scope:Scope)(C:Addr)(s:Shared)(H:Hp)(fp:List Addr):Cx:=
 {X with N:=own++js.map (λj=>X.N.getD j Str.empty),s₀:=s,H₀:=H,env:=compEnvC scope (jf scope X.env) C X.env,outer:=X.stack,stack:=X.stack,ex:=fp,fn:=λ_=>false,pn:=[],xe:=λ_ _=>False}
def Am (own:List Str)(js:List Nat)(σ:St):St:=own.map (λ_=>none)++js.map (λj=>(σ[j]?).join)
def ER (X:Cx)(own:List Str)(js:List Nat)(scope:Scope):Bool:=
 (scope.kind== .function)&&(scope.names.all λx=>x.2 != .cell)&&(scope.names.all λx=>x.2 != .local||scope.names.lookup x.1==some .local)&&
 (scope.names.all λx=>x.2 != .free||(X.env.kindOf x.1==some .cell||X.env.kindOf x.1==some .free))&&
 (js.all λj=>decide (j<X.N.length)&&scope.names.any (λy=>y.1==X.N.getD j Str.empty&&y.2== .free))&&
 (scope.names.all λx=>x.2 != .free||scope.names.lookup x.1 !=some .local)
theorem uo {own:List Str}{js:List Nat}{σ:St}{X:Cx}{scope:Scope}{C:Addr}{s:Shared}{H:Hp}{fp:List Addr}:(Am own js σ).length=(ej X own js scope C s H fp).N.length:=by grind [Am,ej]
section
variable {X:Cx} {pins:List (Addr×Obj)} {σ:St} {H:Hp} {s:Shared} {own:List Str} {js:List Nat} {scope:Scope} {fp:List Addr} {C D:Addr} {h1:Heap}
structure ScB (X:Cx) (own:List Str) (js:List Nat) (scope:Scope):Prop where
 kind:scope.kind= .function
 nocell:∀y∈scope.names,y.2≠ .cell
 names:∀x∈scope.names,x.2= .local->scope.names.lookup x.1=some .local
 free:∀x∈scope.names,x.2= .free->X.env.kindOf x.1=some .cell\/X.env.kindOf x.1=some .free
 js:∀j∈js,j<X.N.length/\(X.N.getD j Str.empty,NameKind.free)∈scope.names
 one:∀x,(x,NameKind.free)∈scope.names->scope.names.lookup x≠some .local
theorem yy (h:ER X own js scope=true):ScB X own js scope:=by
 unfold ER at h;simp only[Kj,Kk,Bool.or_eq_true,bne_iff_ne,Sr,Ko,LC] at h;obtain⟨⟨⟨⟨⟨h1,h2⟩,h3⟩,h4⟩,h5⟩,h6⟩:=h;refine⟨h1,h2,λx hx e=>?_,λx hx e=>?_,λj hj=>?_,λx hx=>?_⟩
 .rcases h3 x hx with z|z
  .exact absurd e z
  .exact z
 .rcases h4 x hx with z|z
  .exact absurd e z
  .exact z
 .obtain⟨a,y,hy,e1,e2⟩:=h5 j hj;refine⟨a,?_⟩;obtain⟨n,k⟩:=y;simp only at e1 e2;rw[←e1,←e2];exact hy
 .rcases h6 _ hx with z|z
  .exact absurd rfl z
  .exact z
theorem ScB.cells (S:ScB X own js scope)(I:Inv X pins σ H s):∀x∈scope.names,x.2= .free->∃c,X.env.cells.lookup x.1=some c:=λx hx e=>I.ok.has x.1 (S.free x hx e)
theorem Inv.block (S:ScB X own js scope)(I:Inv X pins σ H s)(hf:∀b∈fp,gR X pins H b)(O':∀b∈fp,∃o,s.heap.get? b=some o)(hC:s.heap.objs.size<=C){m:Str->Option Value}{t':Nat}(hn:h1.Ns C m)(k:∀b u,s.heap.get? b=some u->h1.get? b=some u):
  Inv (ej X own js scope C s H fp) (X.pn++pins) (Am own js σ) H {s with heap:=h1,toks:=t'}:=by
 have B_:=S.cells I
 have below:∀b o,s.heap.get? b=some o->b≠C:=λb o e=>JV (JS (JR e) hC)
 have stk:∀b,b≠X.env.locals->b∉X.fs->b∉ck X.stack:=λb h1 h2 z=>by
  rcases Kl.mp (I.stkSub b z) with e|e
  .exact h1 e
  .exact h2 e
 have noex:∀b o,X.base.get? b=some o->b∉fp:=λb o e z=>by
  rcases(hf b z).2.2.2.1 with q|q
  .exact I.ok.noex b o e q
  .exact absurd (JS (JR e) (Kg I.ok.bsz q)) (Li _)
 refine⟨⟨I.ok.mod,S.kind,I.ok.glob,I.ok.blt,hC,λx y c e1 e2=>?_,λx hx=>?_,λx c z _=>(Ks z).elim,I.ok.hd,I.ok.frames,.inl rfl,λb hb=>⟨?_,λx c e=>?_⟩,I.bs,Kg I.ok.bsz I.sz,noex,λb hb=>?_,I.stack,I.stkFree⟩,
  rfl,I.bare,Un.kept k,⟨m,hn,λi x v e1 e2 e3=>?_⟩,λx c e=>?_,?_,λx c e=>?_,λp hp=>?_,I.hok.kept k,uo⟩
 .exact I.ok.inj x y c (ak B_ e1) (ak B_ e2)
 .have hm:=oq S.nocell (x:=x) (env:=X.env) hx
  obtain⟨c,e⟩:=B_ (x,.free) hm rfl
  exact⟨c,(pZ B_ hm).trans e⟩
 .obtain⟨o,e⟩:=O' b hb;exact below b o e
 .exact(hf b hb).2.2.2.2.1 x c (ak B_ e)
 .exact stk b (hf b hb).2.1 (hf b hb).2.2.1
 .have Tn:(own++js.map (λj=>X.N.getD j Str.empty))[i]?=some x:=e1
  unfold Am at e2
  by_cases hi:i<own.length
  .rw[KJ (by simpa using hi),JC] at e2
   rw[Jy hi] at e2
   simp at e2
  .rw[Lf (by simpa using hi),JC] at e2
   rw[Lf (by simpa using hi),JC] at Tn
   have el:(own.map λ_=>(none:Option V)).length=own.length:=by simp
   rw[el] at e2
   cases hj:js[i -own.length]? with
   |none=>rw[hj] at Tn;simp at Tn
   |some j=>
    rw[hj] at Tn e2
    simp only[MQ,Option.some.injEq] at Tn e2
    have hjm:j∈js:=JM hj
    obtain⟨l_,Qv⟩:=S.js j hjm
    have hNj:X.N[j]?=some x:=by
     rw[←Tn,Kh,Jy l_];simp
    have hσ:σ[j]?=some (some v):=by
     cases q:σ[j]? with
     |none=>rw[q] at e2;simp at e2
     |some w=>rw[q] at e2;simp at e2;rw[e2]
    rw[Tn] at Qv
    obtain⟨m0,hn0,Vi⟩:=I.loc
    have hkx:X.env.kindOf x=some .cell\/X.env.kindOf x=some .free:=S.free (x,.free) Qv rfl
    obtain⟨u,r,l⟩:=Vi j x v hNj hσ (by rcases hkx with z|z;exact .inr (.inl z);exact .inr (.inr z))
    refine⟨u,r,?_⟩
    rcases l with⟨z,_⟩|⟨_,c,hc,Qf⟩
    .rcases hkx with q|q
     .rw[q] at z;cases z
     .rw[q] at z;cases z
    .have Qt:(jf scope X.env).lookup x=some c:=(pZ B_ Qv).trans hc
     obtain⟨oc,WL,Td⟩:=Qf
     refine .inr ⟨?_,c,Qt,⟨oc,k _ _ WL,Td⟩⟩
     rcases e3 with z|z|z
     .exfalso
      have hmm:(relabel scope X.env).names.lookup x=some .local:=z
      exact absurd hmm (by
       intro hh;have key:∀l:List (Str×NameKind),(∀y∈l,y.2= .local->scope.names.lookup y.1=some .local)->(l.map fun(n,k)=>if(k==NameKind.free&&X.env.scope.kind== .function&&X.env.kindOf n==some .cell) then(n,NameKind.cell) else(n,k)).lookup x=some .local->scope.names.lookup x=some .local:=by
        intro l;induction l with
        |nil=>intro _ e;simp at e
        |cons y r ih=>
         obtain⟨n,k0⟩:=y
         intro hl e
         rw[Kx] at e
         dsimp only at e
         by_cases hcnd:(k0==NameKind.free&&X.env.scope.kind== .function&&X.env.kindOf n==some .cell)=true
         .rw[if_pos hcnd] at e
          cases hx:x==n with
          |true=>simp only[Lo,hx] at e;cases e
          |false=>simp only[Lo,hx] at e;exact ih (λy hy=>hl y (JZ _ hy)) e
         .rw[if_neg hcnd] at e
          cases hx:x==n with
          |true=>
           simp only[Lo,hx] at e
           have e':k0= .local:=JU e
           have:x=n:=by simpa using hx
           subst this
           exact hl (x,k0) JT e'
          |false=>simp only[Lo,hx] at e;exact ih (λy hy=>hl y (JZ _ hy)) e
       have a:=key scope.names S.names hh;exact S.one x Qv a)
     .exact .inl z
     .exact .inr z
 .obtain⟨v,o,ho,hd⟩:=I.cell x c (ak B_ e)
  exact⟨v,o,k _ _ ho,hd⟩
 .exact I.hok.fresh hC
 .exact I.freeC x c (ak B_ e)
 .obtain⟨e,n,ne,nf,d⟩:=I.pin p hp
  exact⟨k _ _ e,n,below _ _ e,stk _ ne nf,d⟩
end
theorem HOk.track {P:Program}{w:World}{H:Hp}{h h':Heap}{a C:Addr}{o:HO}(x:HOk P w H h)(hC:H C=none)(k:∀b,b≠C->h'.get? b=h.get? b)(hn:H a=none)(new:ObjOk P w (p5 H a o) h' a o):HOk P w (p5 H a o) h':=λb u e=>by
 by_cases hb:b=a
 .subst hb;rw[d0] at e;cases e;exact new
 .rw[d6 hb] at e;refine(x b u e).stay (λc v hc q=>?_) (λc q=>by rw[d6 (b5 q hn)];exact q) λc xs q=>by rw[d6 (b5 q hn)];exact q
  have hcC:c≠C:=by
   rcases hc with z|z
   .subst z;exact b5 e hC
   .exact b5 z hC
  rw[k c hcC];exact q
abbrev xG (ifs:List Expr)(env:Env):Sem Bool:=forIn ifs true λc r=>if r=true then do let ok←isTrue c env (eval c env);pure (ForInStep.yield ok) else pure (ForInStep.yield r)
def tw (X:Cx)(ifs:List Expr)(t:TT):Prop:=
 ∀(pins:List (Addr×Obj)) (s:Shared) (σ:St) (H:Hp) (Q:Bool->Hp->Prop),Inv X pins σ H s->t σ H Q->wpAny (model X.prog X.w) X.A (xG ifs X.env) (TP X pins σ Q) X.xe s
theorem HQ {X:Cx}:tw X [] (λ_ H Q=>Q true H):=λpins s σ H Q I h=>wpAny_tests_nil ⟨H,I,h⟩
theorem Ik {X:Cx}{c:Expr}{t:TT}(h:PT X c t):tw X [c] t:=λpins s σ H Q I hq=>wpAny_tests_one (h pins s σ H Q I hq)
section
variable {X:Cx} {pins:List (Addr×Obj)} {σ:St} {H:Hp} {s:Shared} {own:List Str} {js:List Nat} {scope:Scope}
variable {tg iter elt:Expr} {ifs:List Expr} {pos:Pos} {g:TG} {ti:TT} {te:TE}
structure BlockEnd (X:Cx) (pins:List (Addr×Obj)) (own:List Str) (js:List Nat) (scope:Scope) (σ:St) (H:Hp) (s:Shared) (fp:List Addr) (C D:Addr) (out:List V) (H':Hp) (s':Shared):Prop where
 inv:Inv (ej X own js scope C s H fp) (X.pn++pins) (Am own js σ) H' s'
 free:H' D=none
 obj:∃(a_:List Value) (n:Nat),Vals out a_/\s'.heap.get? D=some {cls:= .type "list",data:= .seq a_.toArray n}
theorem BlockEnd.out {fp:List Addr}{C D:Addr}{out:List V}{H':Hp}{s':Shared}{h':Heap}(e:BlockEnd X pins own js scope σ H s fp C D out H' s')(I:Inv X pins σ H s)(hf:∀b∈fp,gR X pins H b)(hD:s.heap.objs.size<=D)(hC:s.heap.objs.size<=C)(Qw:D≠C)
  (hl:out.length<=sizeLine) (sb:Heap.SameBut C s'.heap h'):Inv X pins σ (p5 H' D (.lst out)) {s' with heap:=h'}:=by
 obtain⟨a_,n,rv,ob⟩:=e.obj
 have J:=e.inv
 have U:Un (ck X.stack) fp H H' s.heap s'.heap:=J.base
 have same:∀b,b≠C->h'.get? b=s'.heap.get? b:=λb hb=>sb.2 b hb
 have old:∀b o,s.heap.get? b=some o->b≠C/\b≠D:=λb o q=>⟨JV (JS (JR q) hC),JV (JS (JR q) hD)⟩
 have XO:H' C=none:=J.free
 refine I.call' (s':={s' with heap:=h'}) (ch:=fp) J.os ?_ ?_ J.bare λb hb=>?_
 .refine⟨λb o q n hb hx=>?_,λb o q n hb hx=>?_,λb o q n hx=>?_,λb o q hx=>?_,λb xs q=>?_,λb o u q=>?_,λb ps q=>?_⟩
  .show h'.get? b=_
   rw[same b (old b o q).1];exact U.keep b o q n hb hx
  .show ∃sl,h'.get? b=_
   rw[same b (old b o q).1];exact U.slot b o q n hb hx
  .rw[d6 (old b o q).2];exact U.free b o q n hx
  .show ∃o',h'.get? b=_
   rw[same b (old b o q).1];exact U.there b o q hx
  .rw[d6 (b5 (U.tups b xs q) e.free)];exact U.tups b xs q
  .rw[d6 (b5 (U.frzs b o u q) e.free)];exact U.frzs b o u q
  .obtain⟨mo,z⟩:=U.tbls b ps q
   exact⟨mo,by rw[d6 (b5 z e.free)];exact z⟩
 .refine HOk.track J.hok XO same e.free ?_
  exact⟨hl,a_,n,rv,by rw[same D Qw];exact ob⟩
 .exact⟨(hf b hb).2.2.2.1,(hf b hb).2.1,(hf b hb).2.2.2.2.1,(hf b hb).2.2.2.2.2⟩
theorem ng (S:ScB X own js scope)(hc:X.calm=true){fp:List Addr}{it C D:Addr}{tn:Nat->Heap->Prop}{J:It}(T:ir X.prog X.w X.K tg J fp it tn)(I:Inv X pins σ H s)(hf:∀b∈fp,gR X pins H b)
  (hD:s.heap.objs.size<=D) (hC:s.heap.objs.size<=C) (Qw:D≠C) (O':∀b∈fp,∃o,s.heap.get? b=some o)
  (hg:PG (ej X own js scope C s H fp) tg g) (hi:tw (ej X own js scope C s H fp) ifs ti) (he:PE (ej X own js scope C s H fp) elt te)
  (W:Nat->Nat->List V->Hp->Prop) {K:List V->Hp->Prop}
  (turn:∀i m out H,W i m out H->(J.stop i H/\(H D=none->out.length<=sizeLine/\K out H))\/
   (J.go i H/\∀x H',J.yld i H x H'->g x (Am own js σ) H' λσ2 H2=>σ2.drop own.length=js.map (λj=>(σ[j]?).join)/\ti σ2 H2 λb H3=>
    if b=true then te σ2 H3 λv H4=>out.length<=sizeLine/\∃m',m'<m/\W (i+1) m' (out++[v]) H4 else ∃m',m'<m/\W (i+1) m' out H3))
  {R:Result->Shared->Prop} (hR:∀out H' s',BlockEnd X pins own js scope σ H s fp C D out H' s'->out.length<=sizeLine->K out H'->R (.ok .next) s')
  {m0:Nat} {H1:Hp} {s1:Shared} (w0:W 0 m0 [] H1) (B:BlockEnd X pins own js scope σ H s fp C D [] H1 s1) (st:tn 0 s1.heap) (fr:∀b∈fp,H1 b=none):
  codeAny (model X.prog X.w) X.A (.compLoop (.ListComp elt [⟨tg,iter,ifs,0⟩] scope pos) 0 (.ref it) (.ref D) (compEnvC scope (jf scope X.env) C X.env)) R s1:=by
 have Rk:∀{H':Hp},(∀b∈fp,H' b=none)->∀b∈fp,gR (ej X own js scope C s H fp) (X.pn++pins) H' b:=λhn b hb=>by
  obtain⟨o,ho⟩:=O' b hb;refine⟨hn b hb,JV (JS (JR ho) hC),?_,.inl hb,λx c e=>(hf b hb).2.2.2.2.1 x c (ak (S.cells I) e),λp hp=>(hf b hb).2.2.2.2.2 p hp⟩;intro z;rcases Kl.mp (I.stkSub b z) with e|e
  .exact(hf b hb).2.1 e
  .exact(hf b hb).2.2.1 e
 have Dfp:D∉fp:=λz=>by
  obtain⟨o,ho⟩:=O' D z;exact absurd (JS (JR ho) hD) (Li _)
 have Vj:∀x c,(ej X own js scope C s H fp).env.cells.lookup x=some c->c≠D:=λx c e z=>by
  obtain⟨v,o,ho,_⟩:=I.cell x c (ak (S.cells I) e);rw[z] at ho;exact absurd (JS (JR ho) hD) (Li _)
 have XQ:∀p∈X.pn++pins,p.1≠D:=λp hp z=>by
  have ho:=(I.pin p hp).1;rw[z] at ho;exact absurd (JS (JR ho) hD) (Li _)
 have Dfs:D∉(ej X own js scope C s H fp).fs:=λz=>by
  obtain⟨_,o,ho,_⟩:=I.stack.mem z;exact absurd (JS (JR ho) hD) (Li _)
 refine codeAny_loop rfl (λn s'=>∃i out H',BlockEnd X pins own js scope σ H s fp C D out H' s'/\tn i s'.heap/\(∀b∈fp,H' b=none)/\W i n out H') (λn s3 hI=>?_) m0 ⟨0,[],H1,B,st,fr,w0⟩
 obtain⟨i,out,H3,B3,Vk,Vl,w3⟩:=hI
 obtain⟨a_,nD,rv,obD⟩:=B3.obj
 have Vm:∀{σ':St} {H':Hp} {s':Shared},Inv (ej X own js scope C s H fp) (X.pn++pins) σ' H' s'->H' D=none->s'.heap.get? D=some {cls:= .type "list",data:= .seq a_.toArray nD}->
   Inv (ej X own js scope C s H fp) (X.pn++pins++[(D,{cls:= .type "list",data:= .seq a_.toArray nD})]) σ' H' s':=fun{σ' H' s'} I' n' e'=>I'.pins_of λp hp=>by
  rcases JD.mp hp with z|z
  .exact I'.pin p (by show p∈([]:List (Addr×Obj))++_;exact JE _ z)
  .have z':p=(D,{cls:= .type "list",data:= .seq a_.toArray nD}):=by simpa using z
   subst z'
   exact⟨e',n',Qw,Dfs,λv q=>by cases q⟩
 have Rl:∀{H':Hp},(∀b∈fp,H' b=none)->∀b∈fp,gR (ej X own js scope C s H fp) (X.pn++pins++[(D,{cls:= .type "list",data:= .seq a_.toArray nD})]) H' b:=λhn b hb=>by
  obtain⟨a1,a2,a3,a4,a5,a6⟩:=Rk hn b hb;refine⟨a1,a2,a3,a4,a5,λp hp=>?_⟩;have v_:p∈X.pn++pins++[(D,{cls:= .type "list",data:= .seq a_.toArray nD})]:=hp;rcases JD.mp v_ with z|z
  .exact a6 p (by show p∈([]:List (Addr×Obj))++_;exact z)
  .have z':p=(D,{cls:= .type "list",data:= .seq a_.toArray nD}):=by simpa using z
   subst z';rintro rfl;exact Dfp hb
 have XR:∀{α:Type} {t:Sem α} {Q Q':α->Shared->Prop} {E:Value->Shared->Prop} {s:Shared},wpAny (model X.prog X.w) X.A t Q (λ_ _=>False) s->(∀a s,Q a s->Q' a s)->wpAny (model X.prog X.w) X.A t Q' E s:=
  λh hQ=>OD h hQ λ_ _ x=>x.elim
 have XS:∀{pl:List (Addr×Obj)} {σ':St} {H':Hp} {s':Shared},Inv (ej X own js scope C s H fp) (X.pn++pins++[(D,{cls:= .type "list",data:= .seq a_.toArray nD})]++pl) σ' H' s'->Inv (ej X own js scope C s H fp) (X.pn++pins) σ' H' s'/\H' D=none/\s'.heap.get? D=some {cls:= .type "list",data:= .seq a_.toArray nD}:=fun{pl σ' H' s'} I'=>by
  have q:=I'.pin (D,{cls:= .type "list",data:= .seq a_.toArray nD}) (JE _ (JB _ (JE _ (by simp))));exact⟨I'.unpinned.unpinned,q.2.1,q.1⟩
 show wpAny _ X.A ((compTurn (.ListComp elt [⟨tg,iter,ifs,0⟩] scope pos) 0 (.ref it) (.ref D) (compEnvC scope (jf scope X.env) C X.env)).onRaise (λx=>do noteFrame x (compEnvC scope (jf scope X.env) C X.env);theTreesLotGoes x)) _ _ s3
 refine wpAny_noted ?_
 rw[compTurn_list]
 refine JL (Pe (JL ?_))
 rcases turn i n out H3 w3 with⟨stop,fin⟩|⟨go,step⟩
 .refine P0 (T.done (ej X own js scope C s H fp) rfl rfl rfl hc i _ s3 _ H3 _ (Vm B3.inv B3.free obD) (Rl Vl) Vk stop) λr s4 ⟨hr,I4⟩=>?_
  subst hr
  obtain⟨J4,n4,o4⟩:=XS (pl:=[]) (by rw[Ku];exact I4)
  obtain⟨hl,k⟩:=fin B3.free
  exact JW (hR out H3 s4 ⟨J4,n4,a_,nD,rv,o4⟩ hl k)
 .refine P0 (T.item (ej X own js scope C s H fp) rfl rfl rfl hc i _ s3 _ H3 _ (Vm B3.inv B3.free obD) (Rl Vl) Vk go) λr s4 ⟨u,hr,h4⟩=>?_
  subst hr
  refine JL (P0 h4 λ_ s5 ⟨x,H5,I5,r5,y5,Of,fr5⟩=>?_)
  have XT:=I5.pinned (Rl fr5) (T.obj _ _ Of)
  refine JL (XR (hg _ s5 _ H5 x u _ XT r5 (step x H5 y5)) λ_ s6 ⟨σ6,H6,I6,q6⟩=>?_)
  obtain⟨ed,q6⟩:=q6
  refine JL (XR (hi _ s6 σ6 H6 _ I6 q6) λok s7 ⟨H7,I7,q7⟩=>?_)
  have stay:∀{H':Hp} {s':Shared},Inv (ej X own js scope C s H fp) (X.pn++pins++[(D,{cls:= .type "list",data:= .seq a_.toArray nD})]++jW fp s5.heap) σ6 H' s'->tn (i+1) s'.heap/\∀b∈fp,H' b=none:=fun{H' s'} I'=>by
   refine⟨T.keep _ _ _ Of λb hb o e=>(I'.pin (b,o) (JE _ (JE _ (bG hb e)))).1,λb hb=>?_⟩;obtain⟨o,e,d⟩:=T.obj _ _ Of b hb;exact(I'.pin (b,o) (JE _ (JE _ (bG hb e)))).2.1
  have wk:∀{H':Hp} {s':Shared},Inv (ej X own js scope C s H fp) (X.pn++pins) σ6 H' s'->Inv (ej X own js scope C s H fp) (X.pn++pins) (Am own js σ) H' s':=fun{H' s'} I'=>by
   refine I'.weak (by rw[I'.len];exact uo) λk v e=>?_;unfold Am at e;by_cases hk:k<own.length
   .rw[KJ (by simpa using hk),JC,Jy hk] at e;simp at e
   .rw[Lf (by simpa using hk)] at e;have el:(own.map λ_=>(none:Option V)).length=own.length:=by simp
    rw[el,←ed,Ph] at e;have ek:own.length+(k -own.length)=k:=by lia
    rw[ek] at e;exact e
  cases ok with
  |false=>
   rw[if_neg Ks] at q7
   obtain⟨m',hm,w7⟩:=q7
   obtain⟨J7,n7,o7⟩:=XS I7
   exact JW ⟨rfl,m',hm,i+1,out,H7,⟨wk J7,n7,a_,nD,rv,o7⟩,(stay I7).1,(stay I7).2,w7⟩
  |true=>
   rw[if_pos rfl] at q7
   refine JL (JL (XR (he _ s7 σ6 H7 _ I7 q7) λy s8 ⟨v,H8,I8,r8,hl8,m',hm,w8⟩=>?_))
   obtain⟨J8,n8,o8⟩:=XS I8
   have isl:s8.heap.IsList D a_.toArray:=⟨_,o8,rfl,nD,rfl⟩
   refine JL (wpAny_list_append_plain (hsz:=by have:=rv.length;simp;lia) ⟨nD,o8⟩ λh' v_ G_=>?_)
   obtain⟨nn,ob'⟩:=v_
   have XU:h'.get? D=some {cls:= .type "list",data:= .seq (a_++[y]).toArray nn}:=by
    rw[ob',List.push_toArray]
   have keep:∀b o,b≠D->s8.heap.get? b=some o->h'.get? b=some o:=λb o hb e=>(G_.2 b hb).trans e
   have J9:Inv (ej X own js scope C s H fp) (X.pn++pins) σ6 H8 {s8 with heap:=h'}:=J8.turned (t':=s8.toks) keep n8 Qw (.inr hD) Vj (λp hp=>XQ p (by
    have v_:p∈([]:List (Addr×Obj))++(X.pn++pins):=hp;rw[Ov] at v_;exact v_))
   refine JW (JW ⟨rfl,m',hm,i+1,out++[v],H8,⟨wk J9,n8,a_++[y],nn,rv.append (.cons r8 .nil),XU⟩,?_,(stay I8).2,w8⟩)
   exact T.keep _ _ _ (stay I8).1 λb hb o e=>keep b o (by rintro rfl;exact Dfp hb) e
end
def IS (n:Nat)(PV:Nat->V->Prop):It:=⟨λi _=>i<n,λi H x H'=>H'=H/\PV i x,λi _=>n<=i⟩
theorem ux {M:Model}{A:Around}{E:Value->Shared->Prop}{s:Shared}{tg:Expr}{it:Addr}{u:Value}{Q:Unit->Shared->Prop}(hu:∀a,u≠ .ref a)(hQ:Q () s):wpAny M A (letOwnedTupleGo tg (.ref it) u) Q E s:=by
 unfold letOwnedTupleGo;cases tg<;>first
  |exact JW hQ
  |(cases u<;>first
    |exact JW hQ
    |exact absurd rfl (hu _))
theorem jH {P:Program}{w:World}{K:Qe}{tg:Expr}{it:Addr}{n:Nat}{Pv:Nat->Value->Prop}{PV:Nat->V->Prop}{St:Nat->Heap->Prop}
  (W:∀A:Around,A.handled=none->Walks P w A it [it] [it] n Pv St) (hv:∀i u,Pv i u->(∀a,u≠ .ref a)/\∃x,RelV x u/\PV i x)
  (ho:∀i h,St i h->∃o,h.get? it=some o/\∀v,o.data≠ .cell v)
  (hk:∀i h h',St i h->(∀o,h.get? it=some o->h'.get? it=some o)->St i h')
  (Vn:∀(A:Around) (i:Nat) (s:Shared) (Q:Value->Shared->Prop) (E:Value->Shared->Prop),St i s.heap->Q (.ref it) s->wpAny (model P w) A (pyIter (.ref it)) Q E s):
  ir P w K tg (IS n PV) [it] it (λi h=>St i h/\i<=n) where
 mem:=by simp
 obj:=λi h st b hb=>by
  have e:b=it:=by simpa using hb
  subst e;exact ho i h st.1
 keep:=λi h h' st k=>⟨hk i h h' st.1 λo e=>k it (by simp) o e,st.2⟩
 item:=by
  intro X hP hw hK hc i pins s σ H E I hf st hg;subst hP hw hK;obtain⟨f0,f1,f2,f3,f4,f5⟩:=hf it (by simp);refine(W X.A (I.ok.hd hc)).item i s _ _ hg st.1 λv h' tk hv' p_ kk=>?_;obtain⟨q_,x,rx,px⟩:=hv i v hv';have I1:Inv X pins σ H {s with heap:=h',toks:=tk}:=I.turned (λb o hb e=>kk b o (by simpa using hb) e) f0 f1 f3 f4 f5;exact⟨v,rfl,ux q_ ⟨x,H,I1,rx,⟨rfl,px⟩,⟨p_,hg⟩,λb hb=>(hf b hb).1⟩⟩
 done:=by
  intro X hP hw hK hc i pins s σ H E I hf st hg;subst hP hw hK;obtain⟨f0,f1,f2,f3,f4,f5⟩:=hf it (by simp);have e:i=n:=Nat.le_antisymm st.2 hg;subst e;exact(W X.A (I.ok.hd hc)).done s _ _ st.1 λh' tk kk=>⟨rfl,I.turned (λb o hb e=>kk b o (by simpa using hb) e) f0 f1 f3 f4 f5⟩
 self:=λA i s Q E st h=>Vn A i s Q E st.1 h
def AK (c:Nat):V:= .str ⟨#[c]⟩
def Cb (x:Str)(i:Nat)(v:V):Prop:=∃c,x.cps[i]?=some c/\v=AK c
def Its (x:Str):It:=IS x.cps.size (Cb x)
theorem zh {x:Str}{i:Nat}{u:Value}(h:SignAt x i u):(∀a,u≠ .ref a)/\∃v,RelV v u/\Cb x i v:=by
 obtain⟨c,t,hc,rfl⟩:=h;exact⟨λa z=>(by cases z),AK c,⟨t,rfl⟩,c,hc,rfl⟩
theorem wY {P:Program}{w:World}{K:Qe}{tg:Expr}(it:Addr)(x:Str)(t:Tok):ir P w K tg (Its x) [it] it (λi h=>h.IsStrIter it "str_ascii_iterator" x t i/\i<=x.cps.size):=
 jH (λA hh=>Walks.strAscii hh it x t) (λi u h=>zh h)
  (λi h st=>by obtain⟨o,e,c,d⟩:=st;exact⟨o,e,λv z=>by rw[d] at z;cases z⟩)
  (λi h h' st k=>let ⟨o,e,r⟩:=st;⟨o,k o e,r⟩)
  (λA i s Q E st h=>wpAny_pyIter_striter_ascii st h)
theorem vw {P:Program}{w:World}{K:Qe}{tg:Expr}(it:Addr)(x:Str)(t:Tok):ir P w K tg (Its x) [it] it (λi h=>h.IsStrIter it "str_iterator" x t i/\i<=x.cps.size):=
 jH (λA hh=>Walks.strWide hh it x t) (λi u h=>zh h)
  (λi h st=>by obtain⟨o,e,c,d⟩:=st;exact⟨o,e,λv z=>by rw[d] at z;cases z⟩)
  (λi h h' st k=>let ⟨o,e,r⟩:=st;⟨o,k o e,r⟩)
  (λA i s Q E st h=>wpAny_pyIter_striter_wide st h)
section
variable {X:Cx} {tg:Expr}
def rIter (K:Qe)(v:V)(H:Hp)(R:It->Hp->Prop):Prop:=
 (∃a,v= .ref a/\(∃xs,SqL K H a xs)/\R (Itl K a) H)\/(∃a,v= .ref a/\(∃xs,SqT K H a xs)/\R (IH K a) H)\/(∃x,v= .str x/\R (Its x) H)
theorem zJ {pins:List (Addr×Obj)}{σ:St}{H1:Hp}{s1:Shared}{x:V}{v:Value}{R:It->Hp->Prop}(I1:Inv X pins σ H1 s1)(r1:RelV x v)(q1:rIter X.K x H1 R):
  wpAny (model X.prog X.w) X.A (pyIter v) (Ht X pins σ tg R) X.xe s1:=by
 have WQ:∀b∈[s1.heap.objs.size],gR X pins H1 b:=λb hb=>by
  have e:b=s1.heap.objs.size:=by simpa using hb
  subst e;exact I1.fpOk (JA _) (I1.hok.fresh (JA _))
 rcases q1 with⟨a,e,⟨xs,hq⟩,q⟩|⟨a,e,⟨xs,hq⟩,q⟩|⟨z,e,q⟩
 .subst e
  cases r1
  obtain⟨a_,rv,p,hz⟩:=I1.list hq
  refine Mw p.isList ?_
  exact⟨s1.heap.objs.size,[s1.heap.objs.size],_,_,H1,rfl,I1.kept (t':=s1.toks) λb o e=>JI _ e,vn a _,⟨_,JY _ rfl,rfl,rfl⟩,WQ,q⟩
 .subst e
  cases r1
  obtain⟨a_,rv,p,hz⟩:=I1.tuple hq
  refine wpAny_pyIter_tuple (show s1.heap.IsTuple a a_.toArray from p) ?_
  exact⟨s1.heap.objs.size,[s1.heap.objs.size],_,_,H1,rfl,I1.kept (t':=s1.toks) λb o e=>JI _ e,sJ a _,⟨_,JY _ rfl,rfl,rfl⟩,WQ,q⟩
 .subst e
  obtain⟨t,rfl⟩:=r1
  cases ha:z.cps.all (·<128) with
  |false=>exact wpAny_pyIter_wide ha ⟨s1.heap.objs.size,[s1.heap.objs.size],_,_,H1,rfl,I1.kept (t':=s1.toks) λb o e=>JI _ e,vw _ z t,⟨⟨_,JY _ rfl,rfl,rfl⟩,KU _⟩,WQ,q⟩
  |true=>exact wpAny_pyIter_ascii ha ⟨s1.heap.objs.size,[s1.heap.objs.size],_,_,H1,rfl,I1.kept (t':=s1.toks) λb o e=>JI _ e,wY _ z t,⟨⟨_,JY _ rfl,rfl,rfl⟩,KU _⟩,WQ,q⟩
end
section
variable {X:Cx}
theorem pO:∀{bs:List Bool} {us:List Value},Vals (bs.map V.bl) us->us=bs.map Value.bool
 |[],_,.nil=>rfl
 |b::bs,_,.cons r t=>by
  have e:_=Value.bool b:=r;rw[e,pO t];rfl
theorem tu (bs:List Bool):((List.range bs.length).all λi=>(bs[i]?).getD true)=bs.all id:=by
 rw[Kw,Kk,Kk];constructor
 .intro h b hb;obtain⟨i,hi,rfl⟩:=OX hb;have:=h i (LH.mpr hi);simpa [Jy hi] using this
 .intro h i hi;have RV:=LH.mp hi;simpa [Jy RV] using h _ (Kn RV)
theorem sU (bs:List Bool):((List.range bs.length).any λi=>(bs[i]?).getD true)=bs.any id:=by
 rw[Kw,LC,LC];constructor
 .rintro⟨i,hi,e⟩;have RV:=LH.mp hi;simp only[Jy RV,ME] at e;exact⟨_,Kn RV,e⟩
 .rintro⟨b,hb,e⟩;obtain⟨i,hi,rfl⟩:=OX hb;exact⟨i,LH.mpr hi,by simp only[Jy hi,ME];exact e⟩
theorem uX {s:Shared}{h':Heap}{o:Obj}(hk:∀b x,b∉[s.heap.objs.size]->(s.heap.push o).get? b=some x->h'.get? b=some x):∀b x,s.heap.get? b=some x->h'.get? b=some x:=
 λb x e=>hk b x (λhm=>by rw[JN.mp hm] at e;exact Li _ (JR e)) (JI _ e)
def wg (K:Qe):List V->Hp->VK->Prop:=λxs H Q=>∃(p:Addr) (bs:List Bool),xs=[.ref p]/\SqL K H p (bs.map V.bl)/\Q (.bl (bs.all id)) H
def FZ (K:Qe):List V->Hp->VK->Prop:=λxs H Q=>∃(p:Addr) (bs:List Bool),xs=[.ref p]/\SqL K H p (bs.map V.bl)/\Q (.bl (bs.any id)) H
theorem xi (hc:X.calm=true):CallR X (.builtin "all") (wg X.K):=by
 intro pins s σ H xs us Q I r h;obtain⟨l,bs,rfl,hx,q⟩:=h;obtain⟨u,rfl,ru⟩:=R5 r;cases ru;obtain⟨a_,rv,ht,hz⟩:=I.list hx;have e:=pO rv;subst e;have hl:=ht.isList;have l_:l<s.heap.objs.size:=ht.lt;refine call_all_walk (Mw hl ?_);refine⟨s.heap.objs.size,[s.heap.objs.size,l],[s.heap.objs.size],(bs.map Value.bool).toArray.size,_,_,λi=>(bs[i]?).getD true,rfl,Walks.list (A:=X.A.in1) (I.ok.hd hc) _ l (JV l_) (bs.map Value.bool).toArray,
  ⟨⟨_,JY _ rfl,rfl,rfl⟩,hl.push _⟩,λi v s' Q' E' hP hQ=>?_,λh' tk hk=>?_⟩
 .have Rm:(bs.map Value.bool)[i]?=some v:=by simpa using hP
  rw[JC] at Rm;cases e:bs[i]? with
  |none=>rw[e] at Rm;cases Rm
  |some b=>
   rw[e] at Rm
   cases Rm
   simp only[e,ME] at hQ
   exact Lx hQ
 .have e:((List.range (bs.map Value.bool).toArray.size).all λi=>(bs[i]?).getD true)=bs.all id:=by
   rw[Kc,Jx];exact tu bs
  rw[e];exact⟨.bl (bs.all id),H,I.kept (uX hk),rfl,q⟩
theorem xf (hc:X.calm=true):CallR X (.builtin "any") (FZ X.K):=by
 intro pins s σ H xs us Q I r h;obtain⟨l,bs,rfl,hx,q⟩:=h;obtain⟨u,rfl,ru⟩:=R5 r;cases ru;obtain⟨a_,rv,ht,hz⟩:=I.list hx;have e:=pO rv;subst e;have hl:=ht.isList;have l_:l<s.heap.objs.size:=ht.lt;refine call_any_walk (Mw hl ?_);refine⟨s.heap.objs.size,[s.heap.objs.size,l],[s.heap.objs.size],(bs.map Value.bool).toArray.size,_,_,λi=>(bs[i]?).getD true,rfl,Walks.list (A:=X.A.in1) (I.ok.hd hc) _ l (JV l_) (bs.map Value.bool).toArray,
  ⟨⟨_,JY _ rfl,rfl,rfl⟩,hl.push _⟩,λi v s' Q' E' hP hQ=>?_,λh' tk hk=>?_⟩
 .have Rm:(bs.map Value.bool)[i]?=some v:=by simpa using hP
  rw[JC] at Rm;cases e:bs[i]? with
  |none=>rw[e] at Rm;cases Rm
  |some b=>
   rw[e] at Rm
   cases Rm
   simp only[e,ME] at hQ
   exact Lx hQ
 .have e:((List.range (bs.map Value.bool).toArray.size).any λi=>(bs[i]?).getD true)=bs.any id:=by
   rw[Kc,Jx];exact sU bs
  rw[e];exact⟨.bl (bs.any id),H,I.kept (uX hk),rfl,q⟩
def Gi:V->Option Int->Option Int->Hp->VK->Prop:=λx lo hi H Q=>∃z,x= .str z/\z.length<=sizeLine/\Q (.str (Txt.slice z lo hi)) H
theorem Dm:SlR X Gi:=by
 intro pins s σ H x v vl vu lo hi sl Q I rx hs pl pu h;obtain⟨z,rfl,hz,q⟩:=h;obtain⟨t,rfl⟩:=rx;refine⟨"str",_,F.slot_str_getitem.lookup,OE _ _ _,?_⟩;have fin:∀t' k,EP X pins σ Q (.str (Txt.slice z lo hi) t') {s with toks:=k}:=λt' k=>⟨.str _,H,I.tok _,⟨t',rfl⟩,q⟩
 cases pl with
 |none=>
  cases pu with
  |none=>exact Md (l:=none) (u:=none) (st:=none) hs rfl (Np ⟨Kg (Mt z _ _) hz,fin⟩)
  |int j tj=>exact Md (l:=none) (u:=some (j,tj)) (st:=none) hs rfl (Np ⟨Kg (Mt z _ _) hz,fin⟩)
 |int i ti=>
  cases pu with
  |none=>exact Md (l:=some (i,ti)) (u:=none) (st:=none) hs rfl (Np ⟨Kg (Mt z _ _) hz,fin⟩)
  |int j tj=>exact Md (l:=some (i,ti)) (u:=some (j,tj)) (st:=none) hs rfl (Np ⟨Kg (Mt z _ _) hz,fin⟩)
def Fd (K:Qe):V->Option Int->Option Int->Hp->VK->Prop:=λx lo hi H Q=>Hf K x lo hi H Q\/EZ K x lo hi H Q\/Gi x lo hi H Q
theorem EN:SlR X (Fd X.K):=sl_list.or (sl_tup.or Dm)
theorem RelV.plainB {x:V}{v:Value}(r:RelV x v)(b:Bool):plainIs v (.bool b)=true/\(v==Value.bool b)=decide (x= .bl b):=by
 cases x with
 |non=>cases r;exact⟨rfl,rfl⟩
 |bl c=>cases r;exact⟨rfl,by cases b<;>cases c<;>rfl⟩
 |int _=>obtain⟨t,rfl⟩:=r;exact⟨rfl,rfl⟩
 |str _=>obtain⟨t,rfl⟩:=r;exact⟨rfl,rfl⟩
 |byt _=>obtain⟨t,rfl⟩:=r;exact⟨rfl,rfl⟩
 |flt _=>obtain⟨t,rfl⟩:=r;exact⟨rfl,rfl⟩
 |ref _=>cases r;exact⟨rfl,rfl⟩
 |ty _=>cases r;exact⟨rfl,rfl⟩
def HX (neg:Bool):R2:=λx y H Q=>(y= .non\/∃b,y= .bl b)/\Q (.bl (if neg then !decide (x=y) else decide (x=y))) H
theorem GV:OpR X (compareOp .Is) (HX false):=by
 intro pins s σ H x y v u Q I rx ry h;obtain⟨hy,q⟩:=h;rcases hy with rfl|⟨b,rfl⟩
 .cases ry;exact is_none_gen ⟨.bl _,H,I,by rw[rx.none_iff];rfl,q⟩
 .cases ry;exact wpAny_is_plain (rx.plainB b).1 ⟨.bl _,H,I,by rw[(rx.plainB b).2];rfl,q⟩
theorem rS:OpR X (compareOp .IsNot) (HX true):=by
 intro pins s σ H x y v u Q I rx ry h;obtain⟨hy,q⟩:=h;rcases hy with rfl|⟨b,rfl⟩
 .cases ry;exact isnot_none_gen ⟨.bl _,H,I,by rw[rx.none_iff];rfl,q⟩
 .cases ry;exact wpAny_isNot_plain (rx.plainB b).1 ⟨.bl _,H,I,by rw[(rx.plainB b).2];rfl,q⟩
def TyB (K:Qe)(H:Hp):V->String->Prop
 | .non,t=>t="NoneType"
 | .bl _,t=>t="bool"
 | .int _,t=>t="int"
 | .str _,t=>t="str"
 | .ref a,t=>(t="list"/\∃xs,SqL K H a xs)\/(t="tuple"/\∃xs,SqT K H a xs)\/(t="dict"/\∃kvs,Rd H a (.dK kvs))
 |_,_=>False
def ig (t T:String):Bool:=t==T||(t=="bool"&&T=="int")
def BL (K:Qe):List V->Hp->VK->Prop:=λxs H Q=>∃x T t,xs=[x,.ty T]/\TyB K H x t/\(T="str"\/T="int"\/T="bool"\/T="list"\/T="tuple"\/T="dict")/\Q (.bl (ig t T)) H
theorem aH {K:Qe}{t T:String}(ht:t="NoneType"\/t="bool"\/t="int"\/t="str"\/t="list"\/t="tuple"\/t="dict")(hT:T="str"\/T="int"\/T="bool"\/T="list"\/T="tuple"\/T="dict"):
  PySem.W.kitOne K (.type t) (.type T)=some (ig t T):=by
 rcases ht with rfl|rfl|rfl|rfl|rfl|rfl|rfl<;>rcases hT with rfl|rfl|rfl|rfl|rfl|rfl<;>rfl
theorem call_isi:CallR X (.builtin "isinstance") (BL X.K):=by
 intro pins s σ H xs us Q I r h;obtain⟨x,T,t,rfl,ty,hT,q⟩:=h;obtain⟨u,c,rfl,rx,rc⟩:=bu r;cases rc;have fin:∀tk,EP X pins σ Q (.bool (ig t T)) {s with toks:=tk}:=λtk=>⟨.bl _,H,I.tok tk,rfl,q⟩
 cases x with
 |non=>cases ty;cases (show u=Value.none from rx);exact LK PySem.W.kitx_none I.kIn True.intro (aH (by simp) hT) (λz=>nomatch z) fin
 |bl y=>cases ty;cases (show u=Value.bool y from rx);exact LK PySem.W.kitx_bool I.kIn True.intro (aH (by simp) hT) (λz=>nomatch z) fin
 |int i=>cases ty;obtain⟨t,q⟩:=(show ∃t,u=Value.int i t from rx);cases q;exact LK PySem.W.kitx_int I.kIn True.intro (aH (by simp) hT) (λz=>nomatch z) fin
 |str y=>cases ty;obtain⟨t,q⟩:=(show ∃t,u=Value.str y t from rx);cases q;exact LK PySem.W.kitx_str I.kIn True.intro (aH (by simp) hT) (λz=>nomatch z) fin
 |byt _=>exact False.elim ty
 |flt _=>exact False.elim ty
 |ty _=>exact False.elim ty
 |ref a=>
  cases (show u=Value.ref a from rx)
  rcases ty with⟨rfl,ys,hy⟩|⟨rfl,ys,hy⟩|⟨rfl,kvs,hy⟩
  .obtain⟨a_,_,⟨o,n,e,c,_,_⟩,_⟩:=I.list hy
   exact LK PySem.W.kitx_list I.kIn ⟨o,e,c⟩ (aH (by simp) hT) (λz=>nomatch z) fin
  .obtain⟨a_,_,⟨o,e,c,_⟩,_⟩:=I.tuple hy
   exact LK PySem.W.kitx_tuple I.kIn ⟨o,e,c⟩ (aH (by simp) hT) (λz=>nomatch z) fin
  .obtain⟨_,_,vs,_,o,es,ep,h1,h2,_⟩:=X1 I.hok hy
   exact LK Pz I.kIn ⟨o,h1,h2.1⟩ (aH (by simp) hT) (λz=>nomatch z) fin
end
section
variable {X:Cx}
def qw (K:Qe):R2:=λx y H Q=>zY (λi j=> .int (i+j)) x y H Q\/(∃i j,x= .str i/\y= .str j/\i.length+j.length<=sizeLine/\Q (.str (i++j)) H)\/Fe x y H Q\/BU K x y H Q
theorem Bg:OpR X (binaryOp .Add) (qw X.K):=op_add.or (op_add_str.or (op_cat.or AO))
theorem op_in_sgn:OpR X (compareOp .In) (λx y H Q=>∃c j,x=AK c/\y= .str j/\Q (.bl (decide (c∈j.cps.toList))) H):=by
 intro pins s σ H x y v u Q I rx ry h;obtain⟨c,j,rfl,rfl,q⟩:=h;refine vm pins s σ H _ _ v u Q I rx ry ⟨⟨#[c]⟩,j,rfl,rfl,?_⟩;rw[StrLaws.found_one];exact q
theorem op_notIn_sgn:OpR X (compareOp .NotIn) (λx y H Q=>∃c j,x=AK c/\y= .str j/\Q (.bl (!decide (c∈j.cps.toList))) H):=by
 intro pins s σ H x y v u Q I rx ry h;obtain⟨c,j,rfl,rfl,q⟩:=h;refine oJ pins s σ H _ _ v u Q I rx ry ⟨⟨#[c]⟩,j,rfl,rfl,?_⟩;rw[StrLaws.found_one];exact q
theorem tp (hu:X.A.units+1<cLine):OpR X (compareOp .In) (λy x H Q=>∃a o,x= .ref a/\DGet H a y o/\Q (.bl o.isSome) H):=by
 intro pins s σ H y x v u Q I ry rx h;obtain⟨a,o,rfl,g,q⟩:=h;cases rx;exact Iv hu I g ry λs' I'=>⟨.bl _,H,I',rfl,q⟩
theorem lX (hu:X.A.units+1<cLine):OpR X (compareOp .NotIn) (λy x H Q=>∃a o,x= .ref a/\DGet H a y o/\Q (.bl (!o.isSome)) H):=by
 intro pins s σ H y x v u Q I ry rx h;obtain⟨a,o,rfl,g,q⟩:=h;cases rx;exact AW hu I g ry λs' I'=>⟨.bl _,H,I',rfl,q⟩
def xh (K:Qe):R2:=λx y H Q=>(∃c j,x=AK c/\y= .str j/\Q (.bl (decide (c∈j.cps.toList))) H)\/Hy K false x y H Q\/(∃a o,y= .ref a/\DGet H a x o/\Q (.bl o.isSome) H)
def jw (K:Qe):R2:=λx y H Q=>(∃c j,x=AK c/\y= .str j/\Q (.bl (!decide (c∈j.cps.toList))) H)\/Hy K true x y H Q\/(∃a o,y= .ref a/\DGet H a x o/\Q (.bl (!o.isSome)) H)
theorem EH (hu:X.A.units+1<cLine):OpR X (compareOp .In) (xh X.K):=op_in_sgn.or (op_in_seq.or (tp hu))
theorem xa (hu:X.A.units+1<cLine):OpR X (compareOp .NotIn) (jw X.K):=op_notIn_sgn.or (op_notIn_seq.or (lX hu))
def GD:R2:=λx y H Q=>zY (λi j=> .bl (decide (i<j))) x y H Q\/(∃i j,x= .str i/\y= .str j/\Q (.bl (decide (i.cps.toList<j.cps.toList))) H)
theorem kG:OpR X (compareOp .Lt) GD:=op_lt.or wG
theorem Bw (hu:X.A.units+1<cLine):IxR X (λx y H Q=>∃a v,x= .ref a/\DGet H a y (some v)/\Q v H):=by
 intro value slice pins s σ H x y v u Q I rx ry h hs;obtain⟨a,z,rfl,g,q⟩:=h;cases rx;exact tail_any (rQ I g) PySem.F.slot_dict_getitem.lookup (vN hu I g ry λw2 s' I' r'=>⟨z,H,I',r',q⟩) hs
def kQ (K:Qe):R2:=λx y H Q=>IQ K x y H Q\/(∃a v,x= .ref a/\DGet H a y (some v)/\Q v H)
theorem Dn (hu:X.A.units+1<cLine):IxR X (kQ X.K):=ix_seq.or (Bw hu)
def tm (K:Qe):List V->Hp->VK->Prop:=λxs H Q=>(∃x n,xs=[x]/\EW K x H n/\Q (.int n) H)\/(∃a kvs,xs=[V.ref a]/\Rd H a (.dK kvs)/\Q (.int kvs.length) H)
theorem call_lenX:CallR X (.builtin "len") (tm X.K):=by
 refine call_len.or ?_;intro pins s σ H xs us Q I r h;obtain⟨a,kvs,rfl,ha,q⟩:=h;obtain⟨u,rfl,ru⟩:=R5 r;cases ru;exact Fj I ha λt s' I'=>⟨.int kvs.length,H,I',⟨t,rfl⟩,q⟩
end
def V9 (P:Program)(w:World)(K:Qe)(mg:Str->Option Value)(base:Heap)(CX:pQ)(k:Nat)(x:Str)(ps:List Str)(E_:List V)(sp:Sp):Prop:=
 ∃f fd ds,C0 P w K mg base CX k f fd ps sp/\mg x=some (.ref f)/\PySem.W.keepIn K (.ref f)=true/\Binds K fd ps ds/\Vals E_ ds
section
variable {X:Cx} {CX:pQ} {k:Nat} {x:Str} {ps:List Str} {E_:List V} {sp:Sp} {E:XK} {e:Expr} {es:List Expr} {t:TA} {p pos:Pos}
theorem yl (C:V9 X.prog X.w X.K X.mg X.base CX k x ps E_ sp)(hr:Room k X.A)(hx:cD CX X E)(ha:PA X (e::es) t)(hg:Gl X x:=by rfl)
  (F':(x==("__debug__":Str))=false:=by decide) (he:starEach (e::es) X.env=(false,eval e X.env)::starEach es X.env:=by rfl) (Qu:(backTo pos (starEach es X.env)).any (·.1)=false:=by rfl):
  PE X (.Call (.Name x p) (e::es) [] pos) (qy sp E_ E t):=by
 obtain⟨f,fd,ds,F,hm,hk,hb,hd⟩:=C
 exact Bs F hr hg hm hk hb hd hx ha F' he Qu
def Fl (mg:Str->Option Value)(x:Str)(v:V):Prop:=∃u,mg x=some u/\RelV v u
theorem Df {v:V}(h:Fl X.mg x v)(hg:Gl X x:=by rfl)(hd:(x==("__debug__":Str))=false:=by decide):PE X (.Name x pos) (tC v):=by
 obtain⟨u,hm,r⟩:=h;exact Bt hg hm r hd
theorem A0 {k:Nat}{A:Around}(r:Room k A):A.units+1<cLine:=by have:=r.un;lia
end
section
variable {K:Qe} {σ:St} {H:Hp} {Q:VK} {D:tX} {nx bk ct:St->Hp->Prop} {rt:VK}
theorem Fb {i:Nat}{v:V}(h:σ[i]?=some (some v))(q:Q v H):BC i σ H Q:=⟨v,h,q⟩
theorem IW {v:V}(q:Q v H):tC v σ H Q:=q
theorem Ig {r:R2}{ta tb:TE}(q:ta σ H λx H1=>tb σ H1 λy H2=>r x y H2 Q):Aj r ta tb σ H Q:=q
theorem DH {t:TE}{Qb:Bool->Hp->Prop}(q:t σ H λx H'=>∃k,x= .bl k/\Qb k H'):yH t σ H Qb:=q
theorem HE {b:Bool}{Qb:Bool->Prop}(q:Qb b):∃k,V.bl b= .bl k/\Qb k:=⟨b,rfl,q⟩
theorem FJ {b:Bool}{Qb:Bool->Prop}(q:Qb b):∃k,Af K (V.bl b) H k/\Qb k:=⟨b,rfl,q⟩
theorem Hd {t:TT}{Qb:Bool->Hp->Prop}(q:t σ H λc H1=>Qb (!c) H1):Ds t σ H Qb:=q
theorem Gn {t u:TT}{Qb:Bool->Hp->Prop}(q:t σ H λc H1=>if c=true then u σ H1 Qb else Qb false H1):Ej t u σ H Qb:=q
theorem HS {t u:TT}{Qb:Bool->Hp->Prop}(q:t σ H λc H1=>if c=true then Qb true H1 else u σ H1 Qb):Ip t u σ H Qb:=q
theorem CT {ta tb:TE}(q:ta σ H λx H1=>∃c,x= .bl c/\if c=true then tb σ H1 Q else Q (.bl false) H1):yF ta tb σ H Q:=q
theorem FV {ta tb:TE}(q:ta σ H λx H1=>∃c,x= .bl c/\if c=true then Q (.bl true) H1 else tb σ H1 Q):Ez ta tb σ H Q:=q
theorem Dj {ta:TE}(q:ta σ H λx H1=>∃c,x= .bl c/\Q (.bl (!c)) H1):yK ta σ H Q:=q
theorem IG {t:TT}{ta tb:TE}(q:t σ H λc H1=>if c=true then ta σ H1 Q else tb σ H1 Q):HI t ta tb σ H Q:=q
theorem Fw {Qa:List V->Hp->Prop}(q:Qa [] H):ym σ H Qa:=q
theorem EK {ta:TE}{tr:TA}{Qa:List V->Hp->Prop}(q:ta σ H λx H1=>tr σ H1 λxs H2=>Qa (x::xs) H2):pT ta tr σ H Qa:=q
theorem CB {sp:Sp}{E_:List V}{E:XK}{t:TA}(q:t σ H λvs H1=>sp (vs++E_) H1 Q E):qy sp E_ E t σ H Q:=q
theorem ID {r:List V->Hp->VK->Prop}{t:TA}(q:t σ H λvs H1=>r vs H1 Q):Ct r t σ H Q:=q
theorem Ic {r:V->Option Int->Option Int->Hp->VK->Prop}{te:TE}{tl th:TO}(q:te σ H λx H1=>tl σ H1 λl H2=>th σ H2 λu H3=>r x l u H3 Q):HF r te tl th σ H Q:=q
theorem zt {Qo:Option Int->Hp->Prop}(q:Qo none H):oT σ H Qo:=q
theorem EC {t:TE}{Qo:Option Int->Hp->Prop}(q:t σ H λx H1=>∃i,x= .int i/\Qo (some i) H1):yD t σ H Qo:=q
theorem FU {i:Int}{Qo:Int->Prop}(q:Qo i):∃j,V.int i= .int j/\Qo j:=⟨i,rfl,q⟩
theorem wj {i j:Int}(q:Q (.int (i+j)) H):qw K (.int i) (.int j) H Q:= .inl ⟨i,j,rfl,rfl,q⟩
theorem U3 {i j:Str}(h:i.length+j.length<=sizeLine)(q:Q (.str (i++j)) H):qw K (.str i) (.str j) H Q:= .inr (.inl ⟨i,j,rfl,rfl,h,q⟩)
theorem Ia {g:Int->Int->V}{i j:Int}(q:Q (g i j) H):zY g (.int i) (.int j) H Q:=⟨i,j,rfl,rfl,q⟩
theorem IL {C:Int->Int->Prop}{g:Int->Int->V}{i j:Int}(h:C i j)(q:Q (g i j) H):rI C g (.int i) (.int j) H Q:=⟨i,j,rfl,rfl,h,q⟩
theorem yS {i j:Int}(q:Q (.bl (decide (i<j))) H):GD (.int i) (.int j) H Q:= .inl ⟨i,j,rfl,rfl,q⟩
theorem qv {i j:Int}(q:Q (.bl (decide (i=j))) H):Hu (.int i) (.int j) H Q:=⟨rfl,by rw[jm];rw[show(i==j)=decide (i=j) from Nf i j];exact q⟩
theorem rO {i j:Str}(q:Q (.bl (decide (i=j))) H):Hu (.str i) (.str j) H Q:=⟨rfl,by rw[pJ];rw[show(i==j)=decide (i=j) from Nf i j];exact q⟩
theorem zS {c:Nat}{j:Str}(q:Q (.bl (decide (c∈j.cps.toList))) H):xh K (AK c) (.str j) H Q:= .inl ⟨c,j,rfl,rfl,q⟩
theorem dW {y:Str}(h:y.length<=sizeLine)(q:Q (.int y.length) H):tm K [.str y] H Q:= .inl ⟨.str y,y.length,rfl,⟨h,rfl⟩,q⟩
theorem r9 {p:Addr}{xs:List V}(h:SqL K H p xs)(q:Q (.int xs.length) H):tm K [.ref p] H Q:= .inl ⟨.ref p,xs.length,rfl,.inl ⟨xs,h,rfl⟩,q⟩
theorem wJ {p:Addr}{xs:List V}(h:SqT K H p xs)(q:Q (.int xs.length) H):tm K [.ref p] H Q:= .inl ⟨.ref p,xs.length,rfl,.inr ⟨xs,h,rfl⟩,q⟩
theorem aY {p:Addr}{kvs:List (j0×V)}(h:Rd H p (.dK kvs))(q:Q (.int kvs.length) H):tm K [.ref p] H Q:= .inr ⟨p,kvs,rfl,h,q⟩
theorem j4 {p:Addr}{xs:List V}{i:Int}{v:V}(h:SqL K H p xs)(e:oj xs i=some v)(q:Q v H):kQ K (.ref p) (.int i) H Q:= .inl (.inl ⟨p,xs,i,v,rfl,rfl,h,e,q⟩)
theorem bx {p:Addr}{xs:List V}{i:Int}{v:V}(h:SqT K H p xs)(e:oj xs i=some v)(q:Q v H):kQ K (.ref p) (.int i) H Q:= .inl (.inr (.inl ⟨p,xs,i,v,rfl,rfl,h,e,q⟩))
theorem bo {z:Str}{i:Int}{c:Nat}(hz:z.length<=sizeLine)(e:oj z.cps.toList i=some c)(q:Q (AK c) H):kQ K (.str z) (.int i) H Q:= .inl (.inr (.inr ⟨z,i,c,rfl,rfl,hz,e,q⟩))
theorem k8 {p:Addr}{y v:V}(g:DGet H p y (some v))(q:Q v H):kQ K (.ref p) y H Q:= .inr ⟨p,v,rfl,g,q⟩
theorem kY {p:Addr}{xs:List V}{lo hi:Option Int}(h:SqL K H p xs)(q:∀p,H p=none->Q (.ref p) (p5 H p (.lst (cO xs lo hi)))):Fd K (.ref p) lo hi H Q:= .inl ⟨p,xs,rfl,h,q⟩
theorem gE {z:Str}{lo hi:Option Int}(hz:z.length<=sizeLine)(q:Q (.str (Txt.slice z lo hi)) H):Fd K (.str z) lo hi H Q:= .inr (.inr ⟨z,rfl,hz,q⟩)
theorem mD {l b:Addr}{xs zs:List V}(h1:H l=some (.lst xs))(h2:H b=some (.lst zs))(hz:xs.length+zs.length<=sizeLine)(q:∀p,H p=none->Q (.ref p) (p5 H p (.lst (xs++zs)))):qw K (.ref l) (.ref b) H Q:= .inr (.inr (.inl ⟨l,b,xs,zs,rfl,rfl,h1,h2,hz,q⟩))
theorem EY {neg:Bool}{x:V}(q:Q (.bl (if neg then !decide (x= .non) else decide (x= .non))) H):HX neg x .non H Q:=⟨.inl rfl,q⟩
theorem eO {x:V}{t T:String}(ty:TyB K H x t)(hT:T="str"\/T="int"\/T="bool"\/T="list"\/T="tuple"\/T="dict")(q:Q (.bl (ig t T)) H):BL K [x,.ty T] H Q:=⟨x,T,t,rfl,ty,hT,q⟩
theorem mK {p:Addr}{bs:List Bool}(h:SqL K H p (bs.map V.bl))(q:Q (.bl (bs.all id)) H):wg K [.ref p] H Q:=⟨p,bs,rfl,h,q⟩
theorem GY {t:TA}(q:t σ H λxs H1=>xs.length<=sizeLine/\∀p,H1 p=none->Q (.ref p) (p5 H1 p (.tup xs))):CM t σ H Q:=q
theorem Gs {t:TA}(q:t σ H λxs H1=>xs.length<=sizeLine/\∀p,H1 p=none->Q (.ref p) (p5 H1 p (.lst xs))):DL t σ H Q:=q
theorem P5 {t u:TS}(q:t ⟨u ⟨nx,rt,bk,ct⟩,rt,bk,ct⟩ σ H):jh t u ⟨nx,rt,bk,ct⟩ σ H:=q
theorem Ea (q:nx σ H):xM ⟨nx,rt,bk,ct⟩ σ H:=q
theorem Gu {te:TE}(q:te σ H rt):yz te ⟨nx,rt,bk,ct⟩ σ H:=q
theorem DO {te:TE}(q:te σ H λ_ H1=>nx σ H1):xH te ⟨nx,rt,bk,ct⟩ σ H:=q
theorem GU {c:TT}{t u:TS}(q:c σ H λb H1=>if b=true then t ⟨nx,rt,bk,ct⟩ σ H1 else u ⟨nx,rt,bk,ct⟩ σ H1):Ex c t u ⟨nx,rt,bk,ct⟩ σ H:=q
theorem Gz {te:TE}{g:TG}(q:te σ H λx H1=>g x σ H1 nx):sv te g ⟨nx,rt,bk,ct⟩ σ H:=q
theorem En {i:Nat}{v:V}{Qs:St->Hp->Prop}(q:Qs (σ.set i (some v)) H):O8 i v σ H Qs:=q
end
section
variable {X:Cx} {pins:List (Addr×Obj)} {σ:St} {H:Hp} {s:Shared} {d:Addr} {kvs:List (j0×V)} {o:Obj}
abbrev z7 (d:Addr)(o:Obj)(kvs:List (j0×V))(H:Hp):Hp:=p5 H d (.frz o (.dK kvs))
theorem Inv.freeze (I:Inv X pins σ H s)(h:H d=some (.dK kvs))(ho:s.heap.get? d=some o):Inv X pins σ (z7 d o kvs H) s:=by
 have nd:∀b u,H b=some u->u≠ .dK kvs->b≠d:=λb u e n z=>by
  subst z;rw[h] at e;exact n (JU e).symm
 have hok:HOk X.prog X.w (z7 d o kvs H) s.heap:=λb u e=>by
  have st:∀{a:Addr} {u:HO},ObjOk X.prog X.w H s.heap a u->ObjOk X.prog X.w (z7 d o kvs H) s.heap a u:=fun{a u} x=>
   x.stay (λc v _ q=>q) (λc q=>by unfold z7;rw[d6 (nd c _ q (by intro z;cases z))];exact q) λc xs q=>by unfold z7;rw[d6 (nd c _ q (by intro z;cases z))];exact q
  by_cases hb:b=d
  .subst hb;unfold z7 at e;rw[d0] at e;cases e;exact⟨ho,st (I.hok _ _ h)⟩
  .unfold z7 at e;rw[d6 hb] at e;exact st (I.hok b u e)
 have q:=I.un (H':=z7 d o kvs H) (h':=s.heap) (t':=s.toks) ⟨λb o e n hb hx=>e,λb o e n hb hx=>⟨o.slots,e⟩,λb o e n hx=>by
  unfold z7;rw[d6 (λz=>by subst z;rw[h] at n;cases n)];exact n,λb o e _=>⟨o,e⟩,λb xs e=>by unfold z7;rw[d6 (nd b _ e (by intro z;cases z))];exact e,
  λb o u e=>by unfold z7;rw[d6 (nd b _ e (by intro z;cases z))];exact e,λb ps e=>⟨#[],by unfold z7;rw[d6 (nd b _ e (by intro z;cases z))];simpa using e⟩⟩ hok
 exact q
def Gh:Option HO->Option HO
 |some (.frz _ u)=>some u
 |o=>o
def thaw (d:Addr)(H:Hp):Hp:=λb=>if b=d then Gh (H d) else H b
theorem O0 {b:Addr}(h:b≠d):thaw d H b=H b:=by unfold thaw;rw[if_neg h]
theorem thaw_at {u:HO}(h:H d=some (.frz o u)):thaw d H d=some u:=by unfold thaw;rw[if_pos rfl,h];rfl
theorem yR {u:HO}(h:H d=some (.frz o u)):thaw d H=p5 H d u:=by grind [thaw_at,d0,O0,d6]
theorem uV (h:∀o u,H d≠some (.frz o u)):thaw d H=H:=by
 funext b;by_cases hb:b=d
 .subst hb;unfold thaw;rw[if_pos rfl];cases q:H b with
  |none=>rfl
  |some u=>cases u with
   |frz o u=>exact absurd q (h o u)
   |_=>rfl
 .exact O0 hb
def Bf (X:Cx)(th:Hp->Hp):Prop:=∀(pins:List (Addr×Obj)) (σ:St) (H:Hp) (s:Shared),Inv X pins σ H s->Inv X pins σ (th H) s
theorem gz:Bf X id:=λ_ _ _ _ I=>I
theorem wt (hn:∀o u,X.H₀ d≠some (.frz o u)):Bf X (thaw d):=λpins σ H s I=>by
 by_cases hf:∃o u,H d=some (.frz o u)
 .obtain⟨o,u,h⟩:=hf;rw[yR h];have nd:∀b v,H b=some v->v≠ .frz o u->b≠d:=λb v e n z=>by
   subst z;rw[h] at e;exact n (JU e).symm
  have nn:∀b,H b=none->b≠d:=λb e z=>by subst z;rw[h] at e;cases e
  have st:∀{a:Addr} {v:HO},ObjOk X.prog X.w H s.heap a v->ObjOk X.prog X.w (p5 H d u) s.heap a v:=fun{a v} x=>
   x.stay (λc v _ q=>q) (λc q=>by rw[d6 (nd c _ q (by intro z;cases z))];exact q) λc xs q=>by rw[d6 (nd c _ q (by intro z;cases z))];exact q
  refine⟨I.ok,I.os,I.bare,⟨I.base.keep,I.base.slot,λb ob e n hx=>?_,I.base.there,λb xs e=>?_,λb ob v e=>?_,λb ps e=>?_⟩,I.loc,I.cell,?_,λx c e=>?_,λp hp=>?_,λb v e=>?_,I.len⟩
  .have q:=I.base.free b ob e n hx;rw[d6 (nn b q)];exact q
  .have q:=I.base.tups b xs e;rw[d6 (nd b _ q (by intro z;cases z))];exact q
  .have q:=I.base.frzs b ob v e;rw[d6 (λz=>by subst z;exact hn ob v e)];exact q
  .obtain⟨m,q⟩:=I.base.tbls b ps e;exact⟨m,by rw[d6 (nd b _ q (by intro z;cases z))];exact q⟩
  .rw[d6 (nn _ I.free)];exact I.free
  .have q:=I.freeC x c e;rw[d6 (nn _ q)];exact q
  .obtain⟨a1,a2,a3⟩:=I.pin p hp;exact⟨a1,by rw[d6 (nn _ a2)];exact a2,a3⟩
  .by_cases hb:b=d
   .subst hb;rw[d0] at e;cases e;exact st (I.hok _ _ h).2
   .rw[d6 hb] at e;exact st (I.hok b v e)
 .rw[uV λo u e=>hf ⟨o,u,e⟩];exact I
theorem Same.thaw {H H':Hp}(h:H d=some (.dK kvs))(e:Same (z7 d o kvs H) H'):Same H (thaw d H'):=λb u q=>by
 by_cases hb:b=d
 .subst hb;rw[h] at q;cases q;have z:=e b _ (show z7 b o kvs H b=some _ from d0);exact thaw_at z
 .rw[O0 hb];exact e b u (by unfold z7;rw[d6 hb];exact q)
end
abbrev pR:=St->Hp->(It->(Hp->Hp)->Hp->Prop)->Prop
def xr (X:Cx)(tg iter:Expr)(wi:pR):Prop:=
 ∀(pins:List (Addr×Obj)) (s:Shared) (σ:St) (H:Hp) (R:It->(Hp->Hp)->Hp->Prop),Inv X pins σ H s->wi σ H R->
  wpAny (model X.prog X.w) X.A (eval iter X.env) (λv s1=>wpAny (model X.prog X.w) X.A (pyIter v) (Ht X pins σ tg λJ H'=>∃th,Bf X th/\R J th H') X.xe s1) X.xe s
theorem PI.two {X:Cx}{tg iter:Expr}{wi:TI}(h:PI X tg iter wi):xr X tg iter (λσ H R=>wi σ H λJ H'=>R J id H'):=by
 intro pins s σ H R I q;refine P0 (h pins s σ H _ I q) λv s1 h1=>P0 h1 λVa s2 h2=>?_;obtain⟨it,fp,tn,J,H',e,I',T,st,f,q⟩:=h2;exact⟨it,fp,tn,J,H',e,I',T,st,f,id,gz,q⟩
def vZ (J:It)(th:Hp->Hp)(g:TG)(tb:TS)(nx:St->Hp->Prop)(rt:VK)(σ:St)(H1:Hp):Prop:=∃W:Nat->Nat->St->Hp->Prop,(∃m,W 0 m σ H1)/\∀i m σ H,W i m σ H->
 (J.stop i H/\nx σ (th H))\/(J.go i H/\∃N:St->Hp->Prop,(∀σ' H',N σ' H'->∃m',m'<m/\W (i+1) m' σ' H')/\∀x H',J.yld i H x H'->g x σ H' λσ2 H2=>tb ⟨N,λv H=>rt v (th H),λσ H=>nx σ (th H),N⟩ σ2 H2)
def zd (wi:pR)(g:TG)(tb:TS):TS:=λD σ H=>wi σ H λJ th H1=>vZ J th g tb D.nx D.rt σ H1
theorem Bv {X:Cx}{tg iter:Expr}{body:List Stmt}{wi:pR}{g:TG}{tb:TS}{pos:Pos}(hp:PassesOwn (model X.prog X.w) X.A X.env X.xe)(hc:X.calm=true)(hi:xr X tg iter wi)(hg:PG X tg g)(hb:PSs X body tb)
  (hs:∀x,foldedSetIterable iter X.env x=pure x:=by intro _;rfl):PS X (.For tg iter body [] pos) (zd wi g tb):=by
 intro pins s σ H D I h
 refine wpAny_For (P0 (hi pins s σ H _ I h) λv s1 h1=>P0 h1 λVa s2 h2=>?_) hs
 obtain⟨it,fp,tn,J,H2,e,I2,T,C',f2,th,Qx,W,⟨m0,w0⟩,turn⟩:=h2
 subst e
 have Rk:∀{H':Hp},(∀b∈fp,H' b=none)->∀b∈fp,gR X pins H' b:=λhn b hb=>⟨hn b hb,(f2 b hb).2⟩
 refine codeAny_forLoop_any (λn s'=>∃i σ' H',Inv X pins σ' H' s'/\tn i s'.heap/\(∀b∈fp,H' b=none)/\W i n σ' H') ?_ m0 ⟨0,σ,H2,I2,C',λb hb=>(f2 b hb).1,w0⟩
 rintro n s3 ⟨i,σ3,H3,I3,Vk,Vl,w3⟩
 rcases turn i n σ3 H3 w3 with⟨stop,qn⟩|⟨go,N,hN,step⟩
 .refine LU hp (P0 (T.done X rfl rfl rfl hc i pins s3 σ3 H3 X.xe I3 (Rk Vl) Vk stop) λr s4 ⟨hr,I4⟩=>?_)
  subst hr
  exact Nl ⟨σ3,th H3,Qx _ _ _ _ I4,qn⟩
 .refine LU hp (P0 (T.item X rfl rfl rfl hc i pins s3 σ3 H3 X.xe I3 (Rk Vl) Vk go) λr s4 ⟨u,hr,h4⟩=>?_)
  subst hr
  refine LU hp (P0 h4 λ_ s5 ⟨x,H5,I5,r5,y5,Of,fr5⟩=>?_)
  have XT:=I5.pinned (Rk fr5) (T.obj _ _ Of)
  refine LU hp (P0 (hg _ s5 σ3 H5 x u _ XT r5 (step x H5 y5)) λ_ s6 ⟨σ6,H6,I6,q6⟩=>?_)
  refine LU hp (P0 (hb _ s6 σ6 H6 _ I6 q6) λf s7 q7=>?_)
  have again:∀{σ7:St} {H7:Hp},Inv X (pins++jW fp s5.heap) σ7 H7 s7->N σ7 H7->∃m,m<n/\∃i σ' H',Inv X pins σ' H' s7/\tn i s7.heap/\(∀b∈fp,H' b=none)/\W i m σ' H':=fun{σ7 H7} I7 n7=>by
   obtain⟨m',hm,w7⟩:=hN σ7 H7 n7;refine⟨m',hm,i+1,σ7,H7,I7.unpinned,T.keep _ _ _ Of λb hb o e=>(I7.pin (b,o) (JE _ (JE _ (bG hb e)))).1,λb hb=>?_,w7⟩;obtain⟨o,e,d⟩:=T.obj _ _ Of b hb;exact(I7.pin (b,o) (JE _ (JE _ (bG hb e)))).2.1
  cases f with
  |next=>obtain⟨σ7,H7,I7,n7⟩:=q7;exact again I7 n7
  |cont=>obtain⟨σ7,H7,I7,n7⟩:=q7;exact again I7 n7
  |brk=>obtain⟨σ7,H7,I7,q7⟩:=q7;exact⟨σ7,th H7,Qx _ _ _ _ I7.unpinned,q7⟩
  |ret v=>obtain⟨x7,σ7,H7,I7,r7,q7⟩:=q7;exact⟨x7,σ7,th H7,Qx _ _ _ _ I7.unpinned,r7,q7⟩
def yG (own:List Str)(js:List Nat)(J:It)(th:Hp->Hp)(g:TG)(ti:TT)(te:TE)(Q:VK)(σ:St)(H1:Hp):Prop:=∃W:Nat->Nat->List V->Hp->Prop,(∃m,W 0 m [] H1)/\∀i m out H,W i m out H->
 (J.stop i H/\∀D,H D=none->out.length<=sizeLine/\Q (.ref D) (th (p5 H D (.lst out))))\/
 (J.go i H/\∀x H',J.yld i H x H'->g x (Am own js σ) H' λσ2 H2=>σ2.drop own.length=js.map (λj=>(σ[j]?).join)/\ti σ2 H2 λb H3=>
  if b=true then te σ2 H3 λv H4=>out.length<=sizeLine/\∃m',m'<m/\W (i+1) m' (out++[v]) H4 else ∃m',m'<m/\W (i+1) m' out H3)
def jK (own:List Str)(js:List Nat)(wi:pR)(g:TG)(ti:TT)(te:TE):TE:=λσ H Q=>wi σ H λJ th H1=>yG own js J th g ti te Q σ H1
def DI:TT:=λ_ H Q=>Q true H
theorem FF {X:Cx}:tw X [] DI:=HQ
theorem vU {X:Cx}{own:List Str}{js:List Nat}{scope:Scope}{tg iter elt:Expr}{ifs:List Expr}{pos:Pos}{g:TG}{ti:TT}{te:TE}{wi:pR}(S:ER X own js scope=true)(hc:X.calm=true)(hit:xr X tg iter wi)
  (hg:∀C s H fp,PG (ej X own js scope C s H fp) tg g) (hi:∀C s H fp,tw (ej X own js scope C s H fp) ifs ti) (he:∀C s H fp,PE (ej X own js scope C s H fp) elt te)
  (hs:∀x,foldedSetIterable iter X.env x=pure x:=by intro _;rfl):
  PE X (.ListComp elt [⟨tg,iter,ifs,0⟩] scope pos) (jK own js wi g ti te):=by
 have SB:=yy S
 intro pins s σ H Q I h
 rw[eval_ListComp]
 refine NK (use:=none) rfl hs (kT (SB.cells I)) SB.kind SB.names (P0 (hit pins s σ H _ I h) λv s1 h1=>P0 h1 λVa s2 h2=>?_)
 obtain⟨it,fp,tn,J,H2,e,I2,T,C',f2,th,Qx,W,⟨m0,w0⟩,turn⟩:=h2
 subst e
 refine LW (wpAny_newFunctionEnv SB.nocell (by intro y hy;simp at hy) (λh₁ hns₁ hsb₁=>?_) SB.kind)
 dsimp only at hns₁ hsb₁⊢
 generalize To:s2.heap.push {cls:= .type "list",dict:=none,data:= .seq ([]:List Value).toArray}=G2 at hns₁ hsb₁⊢
 have Vo:G2.objs.size=s2.heap.objs.size+1:=by rw[←To,OP]
 have Qw:s2.heap.objs.size≠G2.objs.size:=by rw[Vo];exact JV (KP _)
 have hC:s2.heap.objs.size<=G2.objs.size:=by rw[Vo];exact Me _
 have old:∀b o,s2.heap.get? b=some o->h₁.get? b=some o:=λb o e=>
  hsb₁.extBut b o (JV (JS (JR e) hC)) (JI _ (To▸JI _ e))
 have O':∀b∈fp,∃o,s2.heap.get? b=some o:=λb hb=>let ⟨o,e,_⟩:=T.obj _ _ C' b hb;⟨o,e⟩
 have z_:h₁.get? s2.heap.objs.size=some {cls:= .type "list",data:= .seq ([]:List Value).toArray}:=
  hsb₁.extBut _ _ Qw (JI _ (To▸JY _ rfl))
 have loop:∀s3:Shared,s3={s2 with heap:=h₁,toks:=s2.toks+([]:List (Str×Value)).length}->
   codeAny (model X.prog X.w) X.A (.compLoop (.ListComp elt [⟨tg,iter,ifs,0⟩] scope pos) 0 (.ref it) (.ref s2.heap.objs.size) (compEnvC scope (jf scope X.env) G2.objs.size X.env))
    (compPost (model X.prog X.w) X.A X.xe none (EP X pins σ Q) (.ref s2.heap.objs.size) G2.objs.size) s3:=by
  rintro s3 rfl
  refine ng (K:=λout H'=>Q (.ref s2.heap.objs.size) (th (p5 H' s2.heap.objs.size (.lst out)))) SB hc T I2 f2 (JA _) hC Qw O' (hg _ _ _ _) (hi _ _ _ _) (he _ _ _ _) W (λi m out H' w=>?_) (λout H' s' B hl k=>?_) w0
   ⟨Inv.block SB I2 f2 O' hC hns₁ old,I2.hok.fresh (JA _),[],_,.nil,z_⟩ (T.keep _ _ _ C' λb _ o e=>old b o e) (λb hb=>(f2 b hb).1)
  .rcases turn i m out H' w with⟨a,b⟩|c
   .exact .inl ⟨a,λn=>b _ n⟩
   .exact .inr c
  .obtain⟨mm,hn,_⟩:=B.inv.loc
   exact⟨mm,hn,λh' sb=>⟨.ref s2.heap.objs.size,_,Qx _ _ _ _ (B.out I2 f2 (JA _) hC Qw hl sb),rfl,k⟩⟩
 exact codeAny_compStart_list (loop _ rfl) (T.self _ 0 _ _ _ (T.keep _ _ _ C' λb _ o e=>old b o e) (loop _ rfl))
theorem L8 {α β : Type} {F : α -> β -> Prop} : ∀ {l₁ : List α} {l₂ : List β} {i : Nat} {a : α}, Paired F l₁ l₂ -> l₁[i]? = some a -> ∃ b, l₂[i]? = some b /\ F a b
 := by
  intro l₁ l₂ i a hp e;induction hp generalizing i with
  | nil => cases e
  | cons r _ ih => cases i with
    | zero => cases e; exact ⟨_, rfl, r⟩
    | succ i => exact ih e
section
variable {P:Program} {w:World}
theorem jj {k:j0}{v:Value}(h:(p4 P w).is k v=true):RelV (kV k) v:=by
 rcases D6 (show eK k v=true from h) with⟨i,t,rfl,rfl⟩|⟨x,t,rfl,rfl⟩
 .exact⟨t,rfl⟩
 .exact⟨t,rfl⟩
theorem zm {k:j0}{v:Value}(h:(p4 P w).is k v=true):∀a,v≠ .ref a:=by
 rcases D6 (show eK k v=true from h) with⟨i,t,rfl,rfl⟩|⟨x,t,rfl,rfl⟩<;>exact λa z=>by cases z
structure zK (P:Program) (w:World) (d:Addr) (o:Obj) (kvs:List (j0×V)) (vs:List (j0×Value)) (ep:Nat):Prop where
 kv:KV kvs vs
 at_:∀h:Heap,h.get? d=some o->h.DictAt (p4 P w) d vs ep
 nd:(kvs.map (·.1)).Nodup
theorem fQ {H:Hp}{h:Heap}{d:Addr}{kvs:List (j0×V)}(ok:HOk P w H h)(e:Rd H d (.dK kvs)):(d==sysModules)=false/\∃o vs ep,h.get? d=some o/\zK P w d o kvs vs ep:=by
 obtain⟨z,hd,vs,rel,o,es,ep,h1,r⟩:=X1 ok e;refine⟨hd,o,vs,ep,h1,rel,λh' e'=>⟨o,es,e',r⟩,?_⟩;rw[KV.keys rel];exact r.2.2.2.2
def Hs (d:Addr)(o:Obj)(kvs:List (j0×V))(f:j0×V->V):It:=
 ⟨λi H=>H d=some (.frz o (.dK kvs))/\i<kvs.length,λi H x H'=>H'=H/\∃kv,kvs[i]?=some kv/\x=f kv,λi H=>H d=some (.frz o (.dK kvs))/\kvs.length<=i⟩
def Gj (d:Addr)(o:Obj)(kvs:List (j0×V)):It:=
 ⟨λi H=>H d=some (.frz o (.dK kvs))/\i<kvs.length,λi H x H'=>∃t kv,kvs[i]?=some kv/\H t=none/\x= .ref t/\H'=p5 H t (.tup [kV kv.1,kv.2]),λi H=>H d=some (.frz o (.dK kvs))/\kvs.length<=i⟩
theorem vC {K:Qe}{tg:Expr}{d:Addr}{o:Obj}{kvs:List (j0×V)}{vs:List (j0×Value)}{ep:Nat}(D:zK P w d o kvs vs ep)(it:Addr):
  ir P w K tg (Hs d o kvs λkv=>kV kv.1) [it] it (λi h=>h.IsKeyIter it d i vs.length ep) where
 mem:=by simp
 obj:=λi h st b hb=>by
  have e:b=it:=by simpa using hb
  subst e;obtain⟨o,e,c,dd⟩:=st;exact⟨o,e,λv z=>by rw[dd] at z;cases z⟩
 keep:=λi h h' st k=>st.at λo e=>k it (by simp) o e
 item:=by
  intro X hP hw hK hc i pins s σ H E I hf st hg;subst hP hw hK;obtain⟨Ro,hi⟩:=hg;obtain⟨f0,f1,f2,f3,f4,f5⟩:=hf it (by simp);have dat:=D.at_ s.heap (I.hok d _ Ro).1;have hl:=KV.length D.kv;obtain⟨kv,f_⟩:∃kv,kvs[i]?=some kv:=⟨kvs[i],by simp [hi]⟩
  obtain⟨⟨k,x⟩,hx⟩:∃p,vs[i]?=some p:=⟨vs[i]'(by lia),by simp [show i<vs.length by lia]⟩
  have RW:kv.1=k:=by
   have e1:(kvs.map (·.1))[i]?=some kv.1:=by rw[JC,f_];rfl
   rw[KV.keys D.kv,JC,hx] at e1;exact(JU e1).symm
  refine wpAny_pyNext_dict_item st dat hx λkey h' A_ hit' G_=>?_;have I1:Inv X pins σ H {s with heap:=h'}:=I.turned (t':=s.toks) (λb o hb e=>G_.extBut b o hb e) f0 f1 f3 f4 f5;exact⟨key,rfl,ux (zm A_) ⟨kV kv.1,H,I1,by rw[RW];exact jj A_,⟨rfl,kv,f_,rfl⟩,hit',λb hb=>(hf b hb).1⟩⟩
 done:=by
  intro X hP hw hK hc i pins s σ H E I hf st hg;subst hP hw hK;obtain⟨Ro,hi⟩:=hg;obtain⟨f0,f1,f2,f3,f4,f5⟩:=hf it (by simp);have dat:=D.at_ s.heap (I.hok d _ Ro).1;have hl:=KV.length D.kv;exact wpAny_pyNext_dict_end (I.ok.hd hc) st dat (by simp;lia) λh' eb=>⟨rfl,I.turned (t':=s.toks) (λb o hb e=>eb b o hb e) f0 f1 f3 f4 f5⟩
 self:=λ_ _ _ _ _ st h=>wpAny_pyIter_keyiter st h
theorem sk {K:Qe}{elts:List Expr}{x1}{u_:Pos}{d:Addr}{o:Obj}{kvs:List (j0×V)}{vs:List (j0×Value)}{ep:Nat}(D:zK P w d o kvs vs ep)(it:Addr):
  ir P w K (.Tuple elts x1 u_) (Gj d o kvs) [it] it (λi h=>∃ok ov,IsItemIter h it d i vs.length ep ok ov) where
 mem:=by simp
 obj:=λi h st b hb=>by
  have e:b=it:=by simpa using hb
  subst e;obtain⟨ok,ov,e⟩:=st;exact⟨_,e,λv z=>by
   have z':Data.fields _=Data.cell v:=z;cases z'⟩
 keep:=λi h h' st k=>let ⟨ok,ov,e⟩:=st;⟨ok,ov,k it (by simp) _ e⟩
 item:=by
  intro X hP hw hK hc i pins s σ H E I hf st hg;subst hP hw hK;obtain⟨Ro,hi⟩:=hg;obtain⟨ok,ov,st⟩:=st;obtain⟨f0,f1,f2,f3,f4,f5⟩:=hf it (by simp);have dat:=D.at_ s.heap (I.hok d _ Ro).1;have hl:=KV.length D.kv;obtain⟨kv,f_⟩:∃kv,kvs[i]?=some kv:=⟨kvs[i],by simp [hi]⟩
  obtain⟨⟨k,x⟩,hx⟩:∃p,vs[i]?=some p:=⟨vs[i]'(by lia),by simp [show i<vs.length by lia]⟩
  obtain⟨RW,rx⟩:kv.1=k/\RelV kv.2 x:=by
   have q:=L8 D.kv f_;obtain⟨p,hp,r⟩:=q;rw[hx] at hp;cases hp;exact r
  refine wpAny_pyNext_items_item st dat hx λkey h' A_ Rp htup hsz hk=>?_;have SM:it<s.heap.objs.size:=JR st;refine⟨.ref s.heap.objs.size,rfl,wpAny_letOwnedTupleGo_items (s:={s with heap:=h'}) Rp λOh hit'' r_=>?_⟩;have Sn:Heap.SameBut it h' Oh:=r_;have kp:∀b o,b≠it->s.heap.get? b=some o->Oh.get? b=some o:=λb o hb e=>Sn.extBut b o hb (hk b o hb e);have Rq:Oh.get? s.heap.objs.size=some {cls:= .type "tuple",data:= .seq #[key,x]}:=Sn.extBut _ _ (Oi SM) htup;have fresh:H s.heap.objs.size=none:=I.hok.fresh (JA _);have XW:∀b o,s.heap.get? b=some o->b≠s.heap.objs.size:=λb o e=>JV (JR e);have hH:∀b u,H b=some u->b≠s.heap.objs.size/\b≠it:=λb u e=>⟨b5 e fresh,b5 e f0⟩
  have hok:HOk X.prog X.w (p5 H s.heap.objs.size (.tup [kV kv.1,kv.2])) Oh:=λb u e=>by
   by_cases hb:b=s.heap.objs.size
   .subst hb;rw[d0] at e;cases e;refine⟨by show 2<=sizeLine;decide,[key,x],.cons (by rw[RW];exact jj A_) (.cons rx .nil),⟨_,Rq,rfl,_,rfl⟩⟩
   .rw[d6 hb] at e;refine(I.hok b u e).stay (λc v hc q=>kp c v ?_ q) (λc q=>by rw[d6 (hH c _ q).1];exact q) λc xs q=>by rw[d6 (hH c _ q).1];exact q
    rcases hc with z|z
    .rw[z];exact(hH b _ e).2
    .exact(hH c _ z).2
  have I1:Inv X pins σ (p5 H s.heap.objs.size (.tup [kV kv.1,kv.2])) {s with heap:=Oh}:=by
   refine I.call' (s':={s with heap:=Oh}) (ch:=[it]) rfl ⟨λb o e n hb hx=>kp b o (by simpa using hx) e,λb o e n hb hx=>⟨o.slots,kp b o (by simpa using hx) e⟩,λb o e n hx=>by rw[d6 (XW b o e)];exact n,
    λb o e hx=>⟨o,kp b o (by simpa using hx) e⟩,λb xs e=>by rw[d6 (hH b _ e).1];exact e,λb ob v e=>by rw[d6 (hH b _ e).1];exact e,λb ps e=>⟨#[],by rw[d6 (hH b _ e).1];simpa using e⟩⟩ hok I.bare λb hb=>?_
   have e:b=it:=by simpa using hb
   subst e;exact⟨f3,f1,f4,f5⟩
  refine⟨.ref s.heap.objs.size,_,I1,rfl,⟨_,kv,f_,fresh,rfl,rfl⟩,⟨_,_,hit''⟩,λb hb=>?_⟩;have e:b=it:=by simpa using hb
  subst e;rw[d6 (JV SM)];exact f0
 done:=by
  intro X hP hw hK hc i pins s σ H E I hf st hg;subst hP hw hK;obtain⟨Ro,hi⟩:=hg;obtain⟨ok,ov,st⟩:=st;obtain⟨f0,f1,f2,f3,f4,f5⟩:=hf it (by simp);have dat:=D.at_ s.heap (I.hok d _ Ro).1;have hl:=KV.length D.kv;exact wpAny_pyNext_items_end (I.ok.hd hc) st dat (by simp;lia) λh' eb=>⟨rfl,I.turned (t':=s.toks) (λb o hb e=>eb b o hb e) f0 f1 f3 f4 f5⟩
 self:=λ_ _ _ _ _ st h=>by
  obtain⟨ok,ov,st⟩:=st;exact PySem.W.kcp_self st h
end
section
variable {X:Cx} {tg:Expr}
def rIterD (mk:Addr->Obj->List (j0×V)->It)(v:V)(H:Hp)(R:It->(Hp->Hp)->Hp->Prop):Prop:=
 ∃d kvs,v= .ref d/\((H d=some (.dK kvs)/\((kvs.map (·.1)).Nodup->∀o,R (mk d o kvs) (thaw d) (z7 d o kvs H)))\/(∃o,H d=some (.frz o (.dK kvs))/\((kvs.map (·.1)).Nodup->R (mk d o kvs) id H)))
theorem rIterD.go {mk:Addr->Obj->List (j0×V)->It}{x:V}{u:Value}{pins:List (Addr×Obj)}{σ:St}{H:Hp}{s:Shared}{R:It->(Hp->Hp)->Hp->Prop}(I:Inv X pins σ H s)(r:RelV x u)(h:rIterD mk x H R):
  ∃d kvs o vs ep th H',u= .ref d/\(d==sysModules)=false/\s.heap.get? d=some o/\zK X.prog X.w d o kvs vs ep/\Inv X pins σ H' s/\Bf X th/\R (mk d o kvs) th H':=by
 obtain⟨d,kvs,e,h⟩:=h
 subst e
 cases r
 rcases h with⟨h,q⟩|⟨o,h,q⟩
 .obtain⟨hd,o,vs,ep,ho,D⟩:=fQ I.hok (.inl h)
  refine⟨d,kvs,o,vs,ep,thaw d,_,rfl,hd,ho,D,I.freeze h ho,wt λob v z=>?_,q D.nd o⟩
  have z':=I.base.frzs d ob v z
  rw[h] at z';cases z'
 .obtain⟨hd,o',vs,ep,ho,D⟩:=fQ I.hok (.inr ⟨o,h⟩)
  have e:=(I.hok d _ h).1
  rw[ho] at e;cases e
  exact⟨d,kvs,_,vs,ep,id,H,rfl,hd,ho,D,I,gz,q D.nd⟩
theorem rIter.mono {K:Qe}{v:V}{H:Hp}{R R':It->Hp->Prop}(h:rIter K v H R)(k:∀J H,R J H->R' J H):rIter K v H R':=by
 rcases h with⟨a,e,hq,q⟩|⟨a,e,hq,q⟩|⟨x,e,q⟩
 .exact .inl ⟨a,e,hq,k _ _ q⟩
 .exact .inr (.inl ⟨a,e,hq,k _ _ q⟩)
 .exact .inr (.inr ⟨x,e,k _ _ q⟩)
abbrev IK (d:Addr)(o:Obj)(kvs:List (j0×V)):It:=Hs d o kvs λkv=>kV kv.1
def yb (K:Qe)(v:V)(H:Hp)(R:It->(Hp->Hp)->Hp->Prop):Prop:=rIter K v H (λJ H'=>R J id H')\/rIterD IK v H R
def Hr (K:Qe)(tl:TE):pR:=λσ H R=>tl σ H λv H1=>yb K v H1 R
theorem Gk {l:Expr}{tl:TE}(hl:PE X l tl):xr X tg l (Hr X.K tl):=by
 intro pins s σ H R I h;refine P0 (hl pins s σ H _ I h) λv s1 ⟨x,H1,I1,r1,q1⟩=>?_;rcases q1 with q1|q1
 .exact zJ I1 r1 (q1.mono λJ H' q=>⟨id,gz,q⟩)
 .obtain⟨d,kvs,o,vs,ep,th,H',rfl,hd,ho,D,I2,Qx,q⟩:=rIterD.go I1 r1 q1;refine wpAny_pyIter_dict hd (D.at_ _ ho) ?_;refine⟨s1.heap.objs.size,[s1.heap.objs.size],_,_,H',rfl,I2.kept (t':=s1.toks) λb o e=>JI _ e,vC D _,⟨_,JY _ rfl,rfl,rfl⟩,λb hb=>?_,th,Qx,q⟩;have e:b=s1.heap.objs.size:=by simpa using hb
  subst e;exact I2.fpOk (JA _) (I2.hok.fresh (JA _))
def tV (tl:TE):pR:=λσ H R=>tl σ H λv H1=>rIterD Gj v H1 R
theorem zX {elts:List Expr}{x1}{u_:Pos}{o:Expr}{tl:TE}{apos b_:Pos}(ho:PE X o tl)
  (h_:attributeBase o "items" X.env (eval o X.env)=eval o X.env:=by rfl) (i_:(apos.endLine==b_.line)=true:=by rfl):
  xr X (.Tuple elts x1 u_) (.Call (.Attribute o "items" apos) [] [] b_) (tV tl):=by
 intro pins s σ H R I h
 refine MO h_ i_ (P0 (ho pins s σ H _ I h) λv s1 ⟨x,H1,I1,r1,q1⟩=>?_)
 obtain⟨d,kvs,ob,vs,ep,th,H',rfl,hd,O',D,I2,Qx,q⟩:=rIterD.go I1 r1 q1
 have So:=(D.at_ _ O').dictOf
 refine⟨"dict","dict.items",F.plainAttrs_dict,F.slot_dict_items,F.type_dict_items,So.typeIs,So.mapOf.noDict,Lv rfl (Nm ?_)⟩
 refine Ll F.slot_dict_items So.typeIs F.entry_dict_items (F.args_dict_items_1 _) (meets_dict_items (p4 X.prog X.w) d hd) ⟨⟨vs,So⟩,?_⟩
 have I3:Inv X pins σ H' {s1 with heap:=s1.heap.push {cls:= .type "dict_items",data:= .fields #[.ref d]}}:=I2.kept (t':=s1.toks) λb o e=>JI _ e
 refine wpAny_pyIter_items (s:={s1 with heap:=s1.heap.push {cls:= .type "dict_items",data:= .fields #[.ref d]}}) (knd:=p4 X.prog X.w) ⟨_,JY _ rfl,rfl,rfl⟩ (D.at_ _ (JI _ O')) ?_
 generalize hG:s1.heap.push {cls:= .type "dict_items",data:= .fields #[.ref d]}=G at I3⊢
 refine⟨G.objs.size,[G.objs.size],_,_,H',rfl,I3.kept (t':=s1.toks) λb o e=>JI _ e,sk D _,⟨.none,.none,JY _ rfl⟩,λb hb=>?_,th,Qx,q⟩
 have e:b=G.objs.size:=by simpa using hb
 subst e
 exact I3.fpOk (JA _) (I3.hok.fresh (JA _))
end
section
variable {J:It} {th:Hp->Hp} {n:Nat} {g:TG} {tb:TS} {nx bk ct:St->Hp->Prop} {rt:VK} {σ:St} {H:Hp} {own:List Str} {js:List Nat} {ti:TT} {te:TE} {Q:VK} {K:Qe}
theorem sf (Pv:Nat->St->Hp->Prop)(h0:Pv 0 σ H)(Qk:∀i σ H,i<n->Pv i σ H->J.go i H)
  (hs:∀i x σ H H',i<n->Pv i σ H->J.yld i H x H'->g x σ H' λσ2 H2=>tb ⟨Pv (i+1),λv H=>rt v (th H),λσ H=>nx σ (th H),Pv (i+1)⟩ σ2 H2)
  (hd:∀σ H,Pv n σ H->J.stop n H/\nx σ (th H)):
  vZ J th g tb nx rt σ H:=by
 refine⟨λi m σ H=>m=n -i/\i<=n/\Pv i σ H,⟨n,by simp,KU _,h0⟩,?_⟩
 rintro i m σ H ⟨rfl,hi,p⟩
 by_cases l_:i<n
 .exact .inr ⟨Qk i σ H l_ p,Pv (i+1),λσ' H' p'=>⟨n -(i+1),by lia,rfl,l_,p'⟩,λx H' y=>hs i x σ H H' l_ p y⟩
 .have e:i=n:=by lia
  subst e
  exact .inl (hd σ H p)
theorem z8 (Pv:Nat->List V->Hp->Prop)(h0:Pv 0 [] H)(Qk:∀i out H,i<n->Pv i out H->J.go i H)
  (hs:∀(N:List V->Hp->Prop) i x out H H',i<n->Pv i out H->J.yld i H x H'->(∀Rr H',Pv (i+1) Rr H'->N Rr H')->g x (Am own js σ) H' λσ2 H2=>σ2.drop own.length=js.map (λj=>(σ[j]?).join)/\ti σ2 H2 λb H3=>
   if b=true then te σ2 H3 λv H4=>out.length<=sizeLine/\N (out++[v]) H4 else N out H3)
  (hd:∀out H,Pv n out H->J.stop n H/\∀D,H D=none->out.length<=sizeLine/\Q (.ref D) (th (p5 H D (.lst out)))):
  yG own js J th g ti te Q σ H:=by
 refine⟨λi m out H=>m=n -i/\i<=n/\Pv i out H,⟨n,by simp,KU _,h0⟩,?_⟩
 rintro i m out H ⟨rfl,hi,p⟩
 by_cases l_:i<n
 .exact .inr ⟨Qk i out H l_ p,λx H' y=>hs (λRr H'=>∃m',m'<n -i/\m'=n -(i+1)/\i+1<=n/\Pv (i+1) Rr H') i x out H H' l_ p y λRr H' q=>⟨n -(i+1),by lia,rfl,l_,q⟩⟩
 .have e:i=n:=by lia
  subst e
  exact .inl (hd out H p)
theorem Gx {wi:pR}(q:wi σ H λJ th H1=>vZ J th g tb nx rt σ H1):zd wi g tb ⟨nx,rt,bk,ct⟩ σ H:=q
theorem DD {wi:pR}(q:wi σ H λJ th H1=>yG own js J th g ti te Q σ H1):jK own js wi g ti te σ H Q:=q
theorem GX {Qb:Bool->Hp->Prop}(q:Qb true H):DI σ H Qb:=q
theorem IB {tl:TE}{R:It->(Hp->Hp)->Hp->Prop}(q:tl σ H λv H1=>yb K v H1 R):Hr K tl σ H R:=q
theorem zF {x:Str}{R:It->(Hp->Hp)->Hp->Prop}(q:R (Its x) id H):yb K (.str x) H R:= .inl (.inr (.inr ⟨x,rfl,q⟩))
theorem A8 {a:Addr}{xs:List V}{R:It->(Hp->Hp)->Hp->Prop}(h:SqL K H a xs)(q:R (Itl K a) id H):yb K (.ref a) H R:= .inl (.inl ⟨a,rfl,⟨xs,h⟩,q⟩)
theorem Q3 {d:Addr}{kvs:List (j0×V)}{R:It->(Hp->Hp)->Hp->Prop}(h:H d=some (.dK kvs))(q:(kvs.map (·.1)).Nodup->∀o,R (IK d o kvs) (thaw d) (z7 d o kvs H)):yb K (.ref d) H R:=
 .inr ⟨d,kvs,rfl,.inl ⟨h,q⟩⟩
theorem AH {tl:TE}{R:It->(Hp->Hp)->Hp->Prop}(q:tl σ H λv H1=>rIterD Gj v H1 R):tV tl σ H R:=q
theorem J2 {d:Addr}{kvs:List (j0×V)}{R:It->(Hp->Hp)->Hp->Prop}(h:H d=some (.dK kvs))(q:(kvs.map (·.1)).Nodup->∀o,R (Gj d o kvs) (thaw d) (z7 d o kvs H)):rIterD Gj (.ref d) H R:=⟨d,kvs,rfl,.inl ⟨h,q⟩⟩
theorem Dr {ta:TA}{R:It->Hp->Prop}(q:ta σ H λvs H1=>∃j:Int,vs=[.int j]/\-(2 ^ 62)<=j/\j<2 ^ 62/\R (Hx 0 j.toNat) H1):zZ ta σ H R:=q
theorem Y3 {i:Int}{R:Int->Prop}(h0:0<=i)(h1:i<1000000)(q:R i):∃j:Int,[V.int i]=[.int j]/\-(2 ^ 62)<=j/\j<2 ^ 62/\R j:=⟨i,rfl,by lia,by lia,q⟩
theorem K4 {p:Prop}[Decidable p]{A B:Prop}(h1:p->A)(h2:¬p->B):if decide p=true then A else B:=by grind
theorem N2 {p:Prop}[Decidable p]{A B:Prop}(h1:¬p->A)(h2:p->B):if(!decide p)=true then A else B:=by grind
theorem aq {b:Bool}{A B:Prop}(h1:b=true->A)(h2:b=false->B):if b=true then A else B:=by grind
theorem fR {b:Bool}{A B:Prop}(h1:b=false->A)(h2:b=true->B):if(!b)=true then A else B:=by grind
theorem GC {A B:Prop}(h:A):if(!false)=true then A else B:=by rw[if_pos (by rfl)];exact h
theorem Ff {A B:Prop}(h:B):if(!true)=true then A else B:=by rw[if_neg (by decide)];exact h
theorem Cq {t u:TS}(P:St->Hp->Prop)(h1:∀σ H,P σ H->u ⟨nx,rt,bk,ct⟩ σ H)(h2:∀Sq:St->Hp->Prop,(∀σ H,P σ H->Sq σ H)->t ⟨Sq,rt,bk,ct⟩ σ H):jh t u ⟨nx,rt,bk,ct⟩ σ H:=h2 _ h1
theorem b9 {o:HO}{p:Addr}(hp:H p=none):∃H',p5 H p o=H'/\H' p=some o/\Same H H'/\∀b,b≠p->H' b=H b:=⟨_,rfl,d0,λb u e=>by rw[d6 (b5 e hp)];exact e,λb hb=>d6 hb⟩
theorem ib {α:Type}{xs:List α}{i:Int}(h0:0<=i)(h1:i<xs.length):∃v,oj xs i=some v/\xs[i.toNat]?=some v:=by
 obtain⟨j,rfl⟩:=Int.eq_ofNat_of_zero_le h0;have hj:j<xs.length:=by lia
 exact⟨xs[j],F0 (by simp [hj]),by simp [hj]⟩
theorem fX (x y:Str):(x++y).length=x.length+y.length:=by
 show(x.cps++y.cps).size=_;simp [Str.length]
theorem aD (c:Nat):(⟨#[c]⟩:Str).length=1:=rfl
theorem ff (x:Str):x.length=x.cps.toList.length:=by simp [Str.length]
theorem d8 {n:Nat}(h:n<=1000):n<=sizeLine:=Kg h (by decide)
theorem Same.rd {H H':Hp}{a:Addr}{u:HO}(s:Same H H')(h:Rd H a u):Rd H' a u:=by
 rcases h with h|⟨o,h⟩
 .exact .inl (s _ _ h)
 .exact .inr ⟨o,s _ _ h⟩
theorem Same.tup {H H':Hp}{a:Addr}{xs:List V}(s:Same H H')(h:SqT K H a xs):SqT K H' a xs:=by
 rcases h with h|h
 .exact .inl (s.rd h)
 .exact .inr h
theorem TyB.mono {H H':Hp}{v:V}{t:String}(h:TyB K H v t)(s:Same H H'):TyB K H' v t:=by
 cases v with
 |ref a=>
  rcases h with⟨e,xs,h⟩|⟨e,xs,h⟩|⟨e,kvs,h⟩
  .exact .inl ⟨e,xs,s.seq h⟩
  .exact .inr (.inl ⟨e,xs,s.tup h⟩)
  .exact .inr (.inr ⟨e,kvs,s.rd h⟩)
 |_=>exact h
theorem Its.lt {x:Str}{i:Nat}{H H':Hp}{v:V}(h:(Its x).yld i H v H'):H'=H/\∃c,x.cps.toList[i]?=some c/\v=AK c:=by
 obtain⟨e,c,hc,hv⟩:=h;exact⟨e,c,by simpa using hc,hv⟩
theorem Itl.get {a:Addr}{xs:List V}{i:Nat}{H H':Hp}{v:V}(h:(Itl K a).yld i H v H')(hx:SqL K H a xs):H'=H/\xs[i]?=some v:=⟨h.1,h.2 xs hx⟩
theorem K9 {α β:Type}{l:List α}{i:Nat}{a:α}(f:α->β)(h:l[i]?=some a):(l.take i).map f++[f a]=(l.take (i+1)).map f:=by
 rw[Kb,h];simp
end
section
variable {X:Cx} (K:Qe) {a e:Expr} {ta te:TE} {tg:Expr} {pos:Pos}
theorem K1 (h:X.K=K:=by rfl):OpR X (binaryOp .Add) (qw K):=h▸Bg
theorem kIn (hu:X.A.units+1<cLine)(h:X.K=K:=by rfl):OpR X (compareOp .In) (xh K):=h▸EH hu
theorem M4 (hu:X.A.units+1<cLine)(h:X.K=K:=by rfl):OpR X (compareOp .NotIn) (jw K):=h▸xa hu
theorem j8 (hu:X.A.units+1<cLine)(h:X.K=K:=by rfl):IxR X (kQ K):=h▸Dn hu
theorem xq (h:X.K=K:=by rfl):SlR X (Fd K):=h▸EN
theorem vQ (hc:X.calm=true)(h:X.K=K:=by rfl):CallR X (.builtin "all") (wg K):=h▸xi hc
theorem HH (hc:X.calm=true)(h:X.K=K:=by rfl):CallR X (.builtin "any") (FZ K):=h▸xf hc
def CH (ta:TE):TT:=λσ H Q=>ta σ H λx H'=>∃k,Af K x H' k/\Q k H'
theorem Io (ha:PE X a ta)(h:X.K=K:=by rfl)(he:∀whole,isTrue a X.env whole=(do let v←whole;standAt a.pos;holding [v] (truthy v)):=by intro _;rfl):PT X a (CH K ta):=h▸xT ha he
theorem CV {σ:St}{H:Hp}{Qb:Bool->Hp->Prop}(q:ta σ H λx H'=>∃k,Af K x H' k/\Qb k H'):CH K ta σ H Qb:=q
theorem Jp (hl:PE X a ta)(h:X.K=K:=by rfl):xr X tg a (Hr K ta):=h▸Gk hl
theorem Ii {es:List Expr}{k:Nat}{t:sZ}{n:Nat}(hc:X.calm=true)(hg:Be X es t)(h:X.K=K:=by rfl)
  (hn:(assignEach es X.env).length=n:=by rfl) (U_:(assignEach es X.env).findIdx? (·.1)=none:=by rfl):PG X (.Tuple es k pos) (yM K n t):=h▸DS hc hg hn U_
end
def B7:Expr->Bool
 | .Starred _ _=>false
 |_=>true
def D4 (es:List Expr):Bool:=es.all B7
theorem Y9 {e:Expr}{es:List Expr}{env:Env}(h:B7 e=true):starEach (e::es) env=(false,eval e env)::starEach es env:=by
 cases e<;>first|rfl|cases h
theorem fH {env:Env}{pos:Pos}:∀{es:List Expr},D4 es=true->(backTo pos (starEach es env)).any (·.1)=false
 |[],_=>rfl
 |e::es,h=>by
  have h':(B7 e&&D4 es)=true:=h;rw[Kj] at h';rw[Y9 h'.1];show(false||(backTo pos (starEach es env)).any (·.1))=false;rw[fH h'.2];rfl
theorem uk {e:Expr}{es:List Expr}{env:Env}(h:B7 e=true):assignEach (e::es) env=(false,assign e env)::assignEach es env:=by
 cases e<;>first|rfl|cases h
theorem xx {env:Env}:∀{es:List Expr},D4 es=true->(assignEach es env).length=es.length
 |[],_=>rfl
 |e::es,h=>by
  have h':(B7 e&&D4 es)=true:=h;rw[Kj] at h';rw[uk h'.1,Ky,xx h'.2,Ky]
theorem zV {env:Env}:∀{es:List Expr},D4 es=true->(assignEach es env).findIdx? (·.1)=none
 |[],_=>rfl
 |e::es,h=>by
  have h':(B7 e&&D4 es)=true:=h;rw[Kj] at h';rw[uk h'.1,List.findIdx?_cons];simp [zV h'.2]
section
variable {X:Cx} {K:Qe} {e:Expr} {es:List Expr} {te:TE} {t:TA} {x:Str} {p pos:Pos} {id T:String} {r:List V->Hp->VK->Prop}
theorem IX (ha:PE X e te)(hr:PA X es t)(h:B7 e=true:=by rfl):PA X (e::es) (pT te t):=Ao ha hr (Y9 h)
theorem cB (hc:CallR X (.builtin id) r)(hm:X.mg x=none)(hv:bootBuiltins x=some (.builtin id))(ha:PA X (e::es) t)(hg:Gl X x:=by rfl)(hn:x≠"__name__":=by decide)(F':(x==("__debug__":Str))=false:=by decide)
  (h:D4 (e::es)=true:=by rfl):PE X (.Call (.Name x p) (e::es) [] pos) (Ct r t):=by
 have h':(B7 e&&D4 es)=true:=h
 rw[Kj] at h'
 exact xW hc hg hm hv ha hn F' (Y9 h'.1) (fH h'.2)
theorem Jh (hc:CallR X (.type T) r)(hm:X.mg x=none)(hv:bootBuiltins x=some (.type T))(ha:PA X (e::es) t)(hg:Gl X x:=by rfl)(hn:x≠"__name__":=by decide)(F':(x==("__debug__":Str))=false:=by decide)
  (h:D4 (e::es)=true:=by rfl):PE X (.Call (.Name x p) (e::es) [] pos) (Ct r t):=by
 have h':(B7 e&&D4 es)=true:=h
 rw[Kj] at h'
 exact vV hc hg hm hv ha hn F' (Y9 h'.1) (fH h'.2)
theorem cC {CX:pQ}{k:Nat}{ps:List Str}{E_:List V}{sp:Sp}{E:XK}(C:V9 X.prog X.w X.K X.mg X.base CX k x ps E_ sp)(hr:Room k X.A)(hx:cD CX X E)(ha:PA X (e::es) t)(hg:Gl X x:=by rfl)
  (F':(x==("__debug__":Str))=false:=by decide) (h:D4 (e::es)=true:=by rfl):PE X (.Call (.Name x p) (e::es) [] pos) (qy sp E_ E t):=by
 have h':(B7 e&&D4 es)=true:=h
 rw[Kj] at h'
 exact yl C hr hx ha hg F' (Y9 h'.1) (fH h'.2)
theorem gT {tg:Expr}{k:Nat}{u:sZ}(hc:X.calm=true)(hg:Be X es u)(hK:X.K=K:=by rfl)(h:D4 es=true:=by rfl):PG X (.Tuple es k pos) (yM K es.length u):=Ii K hc hg hK (xx h) (zV h)
theorem gC {g:TG}{u:sZ}(h1:PG X e g)(h2:Be X es u)(h:B7 e=true:=by rfl):Be X (e::es) (jV g u):=yq h1 h2 (by rw[uk h];rfl)
end
structure QE (X:Cx) (e:Expr) (t:TE):Prop where
 r:PE X e t
structure QT (X:Cx) (e:Expr) (t:TT):Prop where
 r:PT X e t
structure QW (X:Cx) (e:Expr) (t:TT):Prop where
 r:PW X e t
structure QA (X:Cx) (es:List Expr) (t:TA):Prop where
 r:PA X es t
structure QS (X:Cx) (st:Stmt) (t:TS):Prop where
 r:PS X st t
structure QSs (X:Cx) (st:List Stmt) (t:TS):Prop where
 r:PSs X st t
structure QG (X:Cx) (tg:Expr) (t:TG):Prop where
 r:PG X tg t
structure Hv (X:Cx) (tg:List Expr) (t:sZ):Prop where
 r:Be X tg t
structure QI (X:Cx) (tg iter:Expr) (t:pR):Prop where
 r:xr X tg iter t
structure Hw (X:Cx) (ifs:List Expr) (t:TT):Prop where
 r:tw X ifs t
structure QO (X:Cx) (e:Option Expr) (t:TO):Prop where
 r:PO X e t
structure QP (X:Cx) (pos:Pos) (keys:List (Option Expr)) (values:List Expr) (XF:List (TE×TE)):Prop where
 r:Ju X pos keys values XF
section
variable {X:Cx} {a b c e o:Expr} {es:List Expr} {ta tb tc te to:TE} {tA Si:TT} {t:TA} {aw:List Expr} {pos apos b_ p2:Pos} {x:Str} {p:Pos} {SN T:String}
theorem xU {j}:QE X (.Constant .none j pos) (tC .non):=⟨El⟩
theorem uC {b:Bool}{j}:QE X (.Constant (.bool b) j pos) (tC (.bl b)):=⟨Fy⟩
theorem d9 {i:Int}{j}:QE X (.Constant (.int i) j pos) (tC (.int i)):=⟨EI⟩
theorem lY {x:Str}{j}:QE X (.Constant (.str x) j pos) (tC (.str x)):=⟨CU⟩
theorem qV (i:Nat)(hN:X.N[i]?=some x:=by rfl)(hv:Ih X.env.scope x:=by first|exact Or.inl rfl|exact Or.inr (Or.inl rfl)|exact Or.inr (Or.inr rfl))(hd:(x==("__debug__":Str))=false:=by decide)
  (P_:(x==("__classdict__":Str))=false:=by decide):QE X (.Name x pos) (BC i):=⟨EG hN hv hd P_⟩
theorem Il {v:V}(h:Fl X.mg x v)(hg:Gl X x:=by rfl)(hd:(x==("__debug__":Str))=false:=by decide):QE X (.Name x pos) (tC v):=⟨Df h hg hd⟩
theorem BP (n:String)(hm:X.mg x=none)(hv:bootBuiltins x=some (.type n))(hg:Gl X x:=by rfl)(hn:x≠"__name__":=by decide)(hd:(x==("__debug__":Str))=false:=by decide):QE X (.Name x pos) (tC (.ty n)):=⟨Br hg hm hv rfl hn hd⟩
theorem C7 {op:Operator}{r:R2}(ho:OpR X (binaryOp op) r)(ha:QE X a ta)(hb:QE X b tb):QE X (.BinOp a op b pos) (Aj r ta tb):=⟨Fc ho ha.r hb.r⟩
theorem HR (ha:QE X a ta):QE X (.UnaryOp .Not a pos) (yK ta):=⟨Cs ha.r⟩
theorem By {op}(h:QE X a ta):QE X (.BoolOp op [a] pos) ta:=⟨Cv h.r⟩
theorem zq (ha:QE X a ta)(hb:QE X (.BoolOp .And (b::aw) pos) tb):QE X (.BoolOp .And (a::b::aw) pos) (yF ta tb):=⟨DR ha.r hb.r⟩
theorem Jt (ha:QE X a ta)(hb:QE X (.BoolOp .Or (b::aw) pos) tb):QE X (.BoolOp .Or (a::b::aw) pos) (Ez ta tb):=⟨Ge ha.r hb.r⟩
theorem cg {op:CmpOp}{r:R2}(ho:OpR X (compareOp op) r)(ha:QE X a ta)(hb:QE X b tb)(hm:behindInMarks op b=false):QE X (.Compare a [op] [b] pos) (Aj r ta tb):=⟨Ba ho ha.r hb.r hm⟩
theorem p0 {op:CmpOp}{r:R2}(ho:OpR X (compareOp op) r)(ha:QE X a ta)(hb:QE X b tb)(hm:behindInMarks op b=false):QT X (.Compare a [op] [b] pos) (yH (Aj r ta tb)):=⟨Bx ho ha.r hb.r hm⟩
theorem Fn (hc:QT X c tA)(ha:QE X a ta)(hb:QE X b tb):QE X (.IfExp c a b pos) (HI tA ta tb):=⟨zr hc.r ha.r hb.r⟩
theorem Ai:QO X none oT:=⟨Bu⟩
theorem xp (h:QE X e te):QO X (some e) (yD te):=⟨AV h.r⟩
theorem zE {lo hi:Option Expr}{tl th:TO}{r:V->Option Int->Option Int->Hp->VK->Prop}(hr:SlR X r)(he:QE X e te)(hl:QO X lo tl)(hu:QO X hi th):QE X (.Subscript e (.Slice lo hi none p2) pos) (HF r te tl th):=⟨zM hr he.r hl.r hu.r⟩
theorem j9 {r:R2}(hr:IxR X r)(ha:QE X a ta)(hb:QE X b tb)(hs:uG b):QE X (.Subscript a b pos) (Aj r ta tb):=⟨FY hr ha.r hb.r hs⟩
theorem Q8 (h:QA X es t):QE X (.List es pos) (DL t):=⟨Eb h.r⟩
theorem L9 {x1}(h:QA X es t):QE X (.Tuple es x1 pos) (CM t):=⟨Dz h.r⟩
theorem rX:QE X (.Dict [] [] pos) zG:=⟨yO⟩
theorem j5:QA X [] ym:=⟨DF⟩
theorem i6 (ha:QE X e te)(hr:QA X es t)(h:B7 e=true:=by rfl):QA X (e::es) (pT te t):=⟨IX ha.r hr.r h⟩
theorem qB {r:List V->Hp->VK->Prop}(hc:CallR X (.builtin SN) r)(hm:X.mg x=none)(hv:bootBuiltins x=some (.builtin SN))(ha:QA X (e::es) t)(hg:Gl X x:=by rfl)(hn:x≠"__name__":=by decide)(F':(x==("__debug__":Str))=false:=by decide)
  (h:D4 (e::es)=true:=by rfl):QE X (.Call (.Name x p) (e::es) [] pos) (Ct r t):=⟨cB hc hm hv ha.r hg hn F' h⟩
theorem fU {r:List V->Hp->VK->Prop}(hc:CallR X (.type T) r)(hm:X.mg x=none)(hv:bootBuiltins x=some (.type T))(ha:QA X (e::es) t)(hg:Gl X x:=by rfl)(hn:x≠"__name__":=by decide)(F':(x==("__debug__":Str))=false:=by decide)
  (h:D4 (e::es)=true:=by rfl):QE X (.Call (.Name x p) (e::es) [] pos) (Ct r t):=⟨Jh hc hm hv ha.r hg hn F' h⟩
theorem qC {CX:pQ}{k:Nat}{ps:List Str}{E_:List V}{sp:Sp}{E:XK}(C:V9 X.prog X.w X.K X.mg X.base CX k x ps E_ sp)(hr:Room k X.A)(hx:cD CX X E)(ha:QA X (e::es) t)(hg:Gl X x:=by rfl)
  (F':(x==("__debug__":Str))=false:=by decide) (h:D4 (e::es)=true:=by rfl):QE X (.Call (.Name x p) (e::es) [] pos) (qy sp E_ E t):=⟨cC C hr hx ha.r hg F' h⟩
theorem qM {name:Str}{r:V->List V->Hp->VK->Prop}(pa:PlainAttrs T)(slot:Slot T name SN)(Sl:typeOf (.builtin SN)=pure (.type "method_descriptor"))(hm:xl X SN r)(K:Qe)(ho:QE X o to)(ha:QA X (e::es) t)(hK:X.K=K:=by rfl)
  (h_:attributeBase o name X.env (eval o X.env)=eval o X.env:=by rfl)
  (h:D4 (e::es)=true:=by rfl) (h2:decide ((e::es).length<30)=true:=by rfl) (i_:(apos.endLine==b_.line)=true:=by rfl):QE X (.Call (.Attribute o name apos) (e::es) [] b_) (HU K T r to t):=by
 have h':(B7 e&&D4 es)=true:=h
 rw[Kj] at h'
 have m_:∀{l:List Expr},D4 l=true->(backTo b_ (starEach l X.env)).all (λx=>!x.1)=true:=fun{l} hl=>by
  have q:=fH (env:=X.env) (pos:=b_) hl;rw[Kk];intro y hy;rw[PH] at q;simpa using q y hy
 subst hK
 refine⟨Gg pa slot Sl hm ho.r ha.r h_ ?_ i_ (Y9 h'.1) (fH h'.2)⟩
 rw[m_ h]
 show(true&&true&&decide ((e::es).length+0+0<30))=true
 simpa using h2
theorem EU {name:Str}{r:V->List V->Hp->VK->Prop}(pa:PlainAttrs T)(slot:Slot T name SN)(Sl:typeOf (.builtin SN)=pure (.type "method_descriptor"))(hm:xl X SN r)(K:Qe)(ho:QE X o to)(hK:X.K=K:=by rfl)
  (h_:attributeBase o name X.env (eval o X.env)=eval o X.env:=by rfl) (i_:(apos.endLine==b_.line)=true:=by rfl):QE X (.Call (.Attribute o name apos) [] [] b_) (CO K T r to):=⟨hK▸ED pa slot Sl hm ho.r h_ i_⟩
theorem O5 {own:List Str}{js:List Nat}{scope:Scope}{tg iter elt:Expr}{ifs:List Expr}{g:TG}{ti:TT}{wi:pR}(S:ER X own js scope=true)(hc:X.calm=true)(hit:QI X tg iter wi)
  (hg:∀C s H fp,QG (ej X own js scope C s H fp) tg g) (hi:∀C s H fp,Hw (ej X own js scope C s H fp) ifs ti) (he:∀C s H fp,QE (ej X own js scope C s H fp) elt te)
  (hs:∀x,foldedSetIterable iter X.env x=pure x:=by intro _;rfl):QE X (.ListComp elt [⟨tg,iter,ifs,0⟩] scope pos) (jK own js wi g ti te):=
 ⟨vU S hc hit.r (λC s H fp=>(hg C s H fp).r) (λC s H fp=>(hi C s H fp).r) (λC s H fp=>(he C s H fp).r) hs⟩
theorem cm:Hw X [] DI:=⟨FF⟩
theorem eZ (h:QT X c tA):Hw X [c] tA:=⟨Ik h.r⟩
theorem au (ha:QT X a tA):QT X (.UnaryOp .Not a pos) (Ds tA):=⟨Cy ha.r⟩
theorem S0 (K:Qe)(ha:QE X a ta)(h:X.K=K:=by rfl)(he:∀whole,isTrue a X.env whole=(do let v←whole;standAt a.pos;holding [v] (truthy v)):=by intro _;rfl):QT X a (CH K ta):=⟨Io K ha.r h he⟩
theorem jr (h:QW X a tA):QT X a tA:=⟨h.r.pt⟩
theorem ai (ha:QT X a tA):QW X (.BoolOp .And [a] pos) tA:=⟨AA ha.r⟩
theorem br (ha:QT X a tA):QW X (.BoolOp .Or [a] pos) tA:=⟨DQ ha.r⟩
theorem bA (ha:QT X a tA)(hb:QW X (.BoolOp .And (b::aw) pos) Si):QW X (.BoolOp .And (a::b::aw) pos) (Ej tA Si):=⟨CN ha.r hb.r⟩
theorem cF (ha:QT X a tA)(hb:QW X (.BoolOp .Or (b::aw) pos) Si):QW X (.BoolOp .Or (a::b::aw) pos) (Ip tA Si):=⟨He ha.r hb.r⟩
theorem F7 {i:Nat}(hN:X.N.Nodup)(hi:X.N[i]?=some x)(hx:Cm X.env.scope x)(hf:X.fn x=true\/X.env.scope.names.lookup x=some .local:=by first|exact .inl rfl|exact .inr rfl|assumption):QG X (.Name x pos) (O8 i):=⟨AD hN hi hx hf⟩
theorem ja:Hv X [] Az:=⟨Bk⟩
theorem W0 {g:TG}{u:sZ}(h1:QG X e g)(h2:Hv X es u)(h:B7 e=true:=by rfl):Hv X (e::es) (jV g u):=⟨gC h1.r h2.r h⟩
theorem iY (K:Qe){k:Nat}{u:sZ}(hc:X.calm=true)(hg:Hv X es u)(hK:X.K=K:=by rfl)(h:D4 es=true:=by rfl):QG X (.Tuple es k pos) (yM K es.length u):=⟨gT (tg:= .Name Str.empty pos) hc hg.r hK h⟩
theorem kJ {i:Expr}{ti:TE}{u:ud}(ho:QE X o to)(hi:QE X i ti)(hs:xg X u)
  (ha:∀v,assign (.Subscript o i pos) X.env v=(do
   let ov←holding [v] (eval o X.env)
   let iv←holding [v,ov] (eval i X.env)
   standAt pos
   holding [v,ov,iv] (setItem ov iv v)
   release [v,ov,iv] []):=by intro _;rfl):QG X (.Subscript o i pos) (Ek to ti u):=⟨Cw ho.r hi.r hs ha⟩
theorem P9 (K:Qe){tg:Expr}(hl:QE X a ta)(h:X.K=K:=by rfl):QI X tg a (Hr K ta):=⟨Jp K hl.r h⟩
def GB (wi:TI):pR:=λσ H R=>wi σ H λJ H'=>R J id H'
theorem FT {wi:TI}{σ:St}{H:Hp}{R:It->(Hp->Hp)->Hp->Prop}(q:wi σ H λJ H'=>R J id H'):GB wi σ H R:=q
theorem lK {tg:Expr}(hm:X.mg "range"=none)(ha:QA X [a] t)(hg:Gl X "range":=by rfl)(h:B7 a=true:=by rfl):QI X tg (.Call (.Name "range" p) [a] [] pos) (GB (zZ t)):=⟨(vM hg hm ha.r (Y9 h)).two⟩
theorem Y4 {elts:List Expr}{x1}{u_:Pos}(ho:QE X o to)
  (h_:attributeBase o "items" X.env (eval o X.env)=eval o X.env:=by rfl) (i_:(apos.endLine==b_.line)=true:=by rfl):QI X (.Tuple elts x1 u_) (.Call (.Attribute o "items" apos) [] [] b_) (tV to):=⟨zX ho.r h_ i_⟩
variable {st:Stmt} {sts body orelse:List Stmt} {u u':TS} {g:TG}
theorem dU:QSs X [] xM:=⟨AL⟩
theorem C6 (h:QS X st u):QSs X [st] u:=⟨AJ h.r⟩
theorem A2 (h1:QS X st u)(h2:QSs X sts u'):QSs X (st::sts) (jh u u'):=⟨zu h1.r h2.r⟩
theorem u9 {i:Nat}{pos':Pos}(hN:X.N.Nodup)(hi:X.N[i]?=some x)(hx:Cm X.env.scope x)(he:QE X e te)(hs:swapsWith e (some (.Name x pos')) pos.line X.env=pure false:=by rfl)(hf:X.fn x=true\/X.env.scope.names.lookup x=some .local:=by first|exact .inl rfl|exact .inr rfl):
  QS X (.Assign [.Name x pos'] e pos) (sv te (O8 i)):=⟨CJ hN hi hx he.r hs hf⟩
theorem Q2 {tg:Expr}(he:QE X e te)(hg:QG X tg g)(hs:swapsWithSole [tg] e pos.line X.env=pure false:=by rfl)(hw:swappedStores [tg] e X.env=pure none:=by rfl)(h:B7 tg=true:=by rfl):QS X (.Assign [tg] e pos) (sv te g):=
 ⟨Er he.r hg.r hs hw (by rw[uk h];rfl)⟩
theorem bQ (hc:QT X c tA)(ht:QSs X body u)(he:QSs X orelse u'):QS X (.If c body orelse pos) (Ex tA u u'):=⟨FX hc.r ht.r he.r⟩
theorem A3 (he:QE X e te):QS X (.Return (some e) pos) (yz te):=⟨Cu he.r⟩
theorem sC (he:QE X e te)(hs:swapsWith e none pos.line X.env=pure false:=by rfl):QS X (.Expr e pos) (xH te):=⟨AX he.r hs⟩
theorem V7 {tg iter:Expr}{wi:pR}(hp:PassesOwn (model X.prog X.w) X.A X.env X.xe)(hc:X.calm=true)(hi:QI X tg iter wi)(hg:QG X tg g)(hb:QSs X body u)(hs:∀x,foldedSetIterable iter X.env x=pure x:=by intro _;rfl):QS X (.For tg iter body [] pos) (zd wi g u):=
 ⟨Bv hp hc hi.r hg.r hb.r hs⟩
theorem Ee (hp:PassesOwn (model X.prog X.w) X.A X.env X.xe)(hc:QT X c tA)(hb:QSs X body u):QS X (.While c body [] pos) (yI tA u):=⟨yn hp hc.r hb.r⟩
end
theorem bC:∀{ss:List Str} {us:List Value},Vals (ss.map V.str) us->StrsAre us ss
 |[],_,.nil=> .nil
 |x::ss,_,.cons r t=>by
  obtain⟨k,rfl⟩:=r;exact .cons x k (bC t)
theorem bH:∀{us:List Value} {ss:List Str},StrsAre us ss->Vals (ss.map V.str) us
 |_,_,.nil=> .nil
 |_,_,.cons y t r=> .cons ⟨t,rfl⟩ (bH r)
theorem aI:∀{xs:List V} {us:List Value},xs.length=us.length->(∀(i:Nat) x u,xs[i]?=some x->us[i]?=some u->RelV x u)->Vals xs us
 |[],[],_,_=> .nil
 |[],_::_,h,_=>by simp at h
 |_::_,[],h,_=>by simp at h
 |x::xs,u::us,h,k=> .cons (k 0 x u rfl rfl) (aI (by simpa using h) λi y v e1 e2=>k (i+1) y v (by simpa using e1) (by simpa using e2))
section
variable {X:Cx}
theorem Inv.newL {pins:List (Addr×Obj)}{σ:St}{H:Hp}{s:Shared}{h':Heap}{tk:Nat}{a:Addr}{xs:List V}{out:Array Value}{e:Nat}(I:Inv X pins σ H s)(k:∀b u,s.heap.get? b=some u->h'.get? b=some u)(ha:s.heap.objs.size<=a)
  (ho:h'.get? a=some {cls:= .type "list",data:= .seq out e}) (rv:Vals xs out.toList) (hz:xs.length<=sizeLine):Inv X pins σ (p5 H a (.lst xs)) {s with heap:=h',toks:=tk}:=
 I.laid k ha ⟨hz,out.toList,e,rv,by rw[ho]⟩
theorem ObjOk.live {P:Program}{w:World}{H:Hp}{h:Heap}{a:Addr}{o:HO}(x:ObjOk P w H h a o):∃ob,h.get? a=some ob:=by
 cases o with
 |lst xs=>obtain⟨_,_,_,_,e⟩:=x;exact⟨_,e⟩
 |tup xs=>obtain⟨_,_,_,o,e,_⟩:=x;exact⟨_,e⟩
 |dK kvs=>obtain⟨_,_,_,_,o,_,_,e,_⟩:=x;exact⟨_,e⟩
 |dT kvs=>obtain⟨_,_,_,_,o,_,_,e,_⟩:=x;exact⟨_,e⟩
 |set S n=>obtain⟨o,_,_,_,e,_⟩:=x;exact⟨_,e⟩
 |ins C dx fs=>obtain⟨_,_,_,e,_⟩:=x;exact⟨_,e⟩
 |own y=>exact x
 |xd fs=>obtain⟨_,⟨_,_,_,e,_⟩,_⟩:=x;exact⟨_,e⟩
 |rng lo hi=>obtain⟨_,_,_,e⟩:=x;exact⟨_,e⟩
 |frz ob u=>obtain⟨e,_⟩:=x;exact⟨_,e⟩
 |tbl ps=>exact⟨_,(show h.get? a=some _ from x)⟩
 |met f y=>exact⟨_,(show h.get? a=some _ from x)⟩
 |ext φ=>obtain⟨_,e,_⟩:=x;exact e
theorem Inv.newN {pins:List (Addr×Obj)}{σ:St}{H:Hp}{s:Shared}{h':Heap}{tk:Nat}{a:Addr}{xs:List V}{out:Array Value}{e:Nat}(I:Inv X pins σ H s)(k:∀b u,s.heap.get? b=some u->h'.get? b=some u)(hn:s.heap.get? a=none)
  (ho:h'.get? a=some {cls:= .type "list",data:= .seq out e}) (rv:Vals xs out.toList) (hz:xs.length<=sizeLine):H a=none/\Inv X pins σ (p5 H a (.lst xs)) {s with heap:=h',toks:=tk}:=by
 have hH:H a=none:=by
  cases q:H a with
  |none=>rfl
  |some u=>
   obtain⟨ob,z⟩:=(I.hok a u q).live
   rw[hn] at z;cases z
 have na:∀b o,s.heap.get? b=some o->b≠a:=λb o z w=>by rw[w,hn] at z;cases z
 have nh:∀b u,H b=some u->b≠a:=λb u z=>b5 z hH
 refine⟨hH,I.un ⟨λb o z n _ _=>k b o z,λb o z n _ _=>⟨o.slots,k b o z⟩,λb o z n _=>by rw[d6 (na b o z)];exact n,λb o z _=>⟨o,k b o z⟩,λb ys z=>by rw[d6 (nh b _ z)];exact z,
  λb ob u z=>by rw[d6 (nh b _ z)];exact z,λb ps z=>⟨#[],by rw[d6 (nh b _ z)];simpa using z⟩⟩ λb u z=>?_⟩
 by_cases hb:b=a
 .subst hb
  rw[d0] at z;cases z
  exact⟨hz,out.toList,e,rv,by rw[ho]⟩
 .rw[d6 hb] at z
  exact(I.hok b u z).stay (λc v _ y=>k c v y) (λc y=>by rw[d6 (nh c _ y)];exact y) λc ys y=>by rw[d6 (nh c _ y)];exact y
def oi (K:Qe):List V->Hp->VK->Prop:=λxs H Q=>∃(p:Addr) (ss:List Str),xs=[.ref p]/\(SqL K H p (ss.map V.str)\/∃kvs:List (j0×V),Rd H p (.dK kvs)/\kvs.map (·.1)=ss.map Sum.inr)/\ss.length<64/\
 ∀N_:List Str,N_.Perm ss->sortedS N_=true->∀l,H l=none->Q (.ref l) (p5 H l (.lst (N_.map V.str)))
theorem vy {M:Program}{w:World}{A:Around}{E:Value->Shared->Prop}{s:Shared}{a:Addr}{vs:List Value}{ss:List Str}{n:Nat}{Q:Value->Shared->Prop}(ho:s.heap.get? a=some (seqObj "list" vs.toArray n))(hS:StrsAre vs ss)(WR:vs.length<64)
  (h:∀(out:Array Value) (N_:List Str),StrsAre out.toList N_->N_.Perm ss->sortedS N_=true->Q .none {s with heap:=sortedHeap s.heap a vs out}):
  wpAny (model M w) A (call (.builtin "list.sort") [.ref a]) Q E s:=by
 refine MD PySem.F.slot_list_sort ⟨_,ho,rfl⟩ PySem.F.entry_list_sort ?_ (PySem.F.args_list_sort_1 _)
 refine list_sort_treeK strKind_oneLt ho hS.keysOf (λv₁ v₂ aw e=>keyKind_strs (by rw[←e];exact hS)) WR λp_ hp hs=>?_
 obtain⟨N_,h1,h2,h3⟩:=sorted_out_str hS hp hs
 exact⟨_,rfl,h _ N_ h1 h2 h3⟩
theorem oa (hc:X.calm=true):CallR X (.builtin "sorted") (oi X.K):=by
 intro pins s σ H xs us Q I r h;obtain⟨p,ss,rfl,hx,WR,q⟩:=h;obtain⟨u,rfl,ru⟩:=R5 r;cases ru;have hsl:(64:Nat)<=sizeLine:=by decide
 rcases hx with hx|⟨kvs,hx,hk⟩
 .obtain⟨a_,rv,ht,hz⟩:=I.list hx;have hS:=bC rv;have hl:a_.length=ss.length:=by have:=rv.length;simpa using this.symm
  refine sorted_strs ht.isList hS (by lia) λout N_ a1 a2 a3=>?_;obtain⟨e,he⟩:=sortedAll_at s.heap a_ out;have Sg:=a2.length_eq;exact⟨.ref (s.heap.objs.size+1),_,I.newL (tk:=s.toks) (λ_ _=>sortedAll_old) (Me _) he (bH a1) (by rw[Jx];lia),rfl,q N_ a2 a3 _ (I.hok.fresh (Me _))⟩
 .obtain⟨hd,o,vs,ep,ho,D⟩:=fQ I.hok hx;have dat:=D.at_ _ ho;have hlen:kvs.length=ss.length:=by have:=KQ List.length hk;simpa using this
  have L_:=KV.length D.kv;refine Calls.call_function_entry kind_sorted plain_sorted entry_sorted (args_sorted1 _) ?_;unfold Builtin.«sorted»;refine JL (m:=checkCount "sorted" 1 1 _) (JW ?_);refine JL (PySem.W.kdu_collect (A:=X.A.in1) (PySem.W.kdl_dict (knd:=p4 X.prog X.w) (kvs:=vs) (ep:=ep) hd) (I.ok.hd hc) dat (by lia) λh' tk acc hkp z_=>?_);have hl:acc.toList.length=vs.length:=by rw[MH];exact z_.1
  have hS:StrsAre acc.toList ss:=by
   refine bC (aI (by rw[Jx];lia) λi x u e1 e2=>?_);obtain⟨k,y,hy,XX⟩:=z_.2 i u (by rw[←Mq];exact e2);have e3:(kvs.map (·.1))[i]?=some k:=by rw[KV.keys D.kv,JC,hy];rfl
   rw[hk,JC] at e3;rw[JC] at e1;cases e4:ss[i]? with
   |none=>rw[e4] at e1;cases e1
   |some z=>
    rw[e4] at e1 e3
    cases e1
    cases e3
    exact jj XX
  refine JL (wpAny_newList ?_ (by rw[hl];lia));refine JL (La (vy (s:={s with heap:=h'.push {cls:= .type "list",data:= .seq acc.toList.toArray},toks:=tk}) (n:=0) (JY _ rfl) hS (by lia) λout N_ a1 a2 a3=>?_));obtain⟨e,he⟩:=sortedHeap_at (h:=h'.push {cls:= .type "list",data:= .seq acc.toList.toArray}) (a:=h'.objs.size) (vs:=acc.toList) (n:=0) (out:=out) (JY _ rfl);have g_:s.heap.get? h'.objs.size=none:=by
   cases z:s.heap.get? h'.objs.size with
   |none=>rfl
   |some ob=>exact absurd (JR (hkp _ _ z)) (Li _)
  have Sg:=a2.length_eq;obtain⟨hH,I2⟩:=I.newN (tk:=tk) (h':=sortedHeap (h'.push {cls:= .type "list",data:= .seq acc.toList.toArray}) h'.objs.size acc.toList out) (xs:=N_.map V.str) (λb u eb=>by
   have hb:=JR (hkp b u eb);rw[sortedHeap_old (b:=b) (JV hb) (by rw[OP];exact Nat.lt_succ_of_lt hb)];exact JI _ (hkp b u eb)) g_ he (bH a1) (by rw[Jx];lia)
  exact JW ⟨_,rfl,.ref h'.objs.size,_,I2,rfl,q N_ a2 a3 _ hH⟩
def BR (K:Qe):List V->Hp->VK->Prop:=λxs H Q=>(∃p ys,xs=[.ref p]/\(SqL K H p ys\/SqT K H p ys)/\∀l,H l=none->Q (.ref l) (p5 H l (.lst ys)))\/
 (∃(p:Addr) (kvs:List (j0×V)),xs=[.ref p]/\Rd H p (.dK kvs)/\∀l,H l=none->Q (.ref l) (p5 H l (.lst (kvs.map λkv=>kV kv.1))))
theorem sd (hc:X.calm=true):CallR X (.type "list") (BR X.K):=by
 refine call_list_of.or ?_;intro pins s σ H xs us Q I r h;obtain⟨p,kvs,rfl,hx,q⟩:=h;obtain⟨u,rfl,ru⟩:=R5 r;cases ru;obtain⟨hd,o,vs,ep,ho,D⟩:=fQ I.hok hx;have L_:=KV.length D.kv;have hz:kvs.length<=sizeLine:=(X1 I.hok hx).1;refine PySem.W.kdl_call (PySem.W.kdl_dict (knd:=p4 X.prog X.w) (kvs:=vs) (ep:=ep) hd) (I.ok.hd hc) (D.at_ _ ho) (by lia) λh' tk acc c hkp hS z_=>?_;refine⟨.ref s.heap.objs.size,_,I.newL (tk:=tk) hkp (JA _) hS (aI (by have:=z_.1;simp;lia) λi x u e1 e2=>?_) (by rw[Jx];exact hz),rfl,q _ (I.hok.fresh (JA _))⟩;obtain⟨k,y,hy,XX⟩:=z_.2 i u (by rw[←Mq];exact e2);rw[JC] at e1;cases e4:kvs[i]? with
 |none=>rw[e4] at e1;cases e1
 |some kv=>
  rw[e4] at e1
  cases e1
  have e3:(kvs.map (·.1))[i]?=some kv.1:=by rw[JC,e4];rfl
  rw[KV.keys D.kv,JC,hy] at e3
  cases e3
  exact jj XX
def Cc:List V->Hp->VK->Prop:=λxs H Q=>∃(p:Addr) (kvs:List (j0×V)),xs=[.ref p]/\Rd H p (.dK kvs)/\∀l,H l=none->Q (.ref l) (p5 H l (.dK kvs))
theorem tP:CallR X (.type "dict") Cc:=by
 intro pins s σ H xs us Q I r h;obtain⟨p,kvs,rfl,hx,q⟩:=h;obtain⟨u,rfl,ru⟩:=R5 r;cases ru;exact ze I hx λl s' hl I'=>⟨.ref l,_,I',rfl,q l hl⟩
def Cp:R2:=λx y H Q=>rI CMul (λi j=> .int (i*j)) x y H Q\/(∃z n,x= .str z/\y= .int n/\z.length<=1000/\-1000<=n/\n<=1000/\Q (.str (Txt.mul z n)) H)
theorem Z7:OpR X (binaryOp .Mult) Cp:=by
 refine op_mul.or ?_;intro pins s σ H x y v u Q I rx ry h;obtain⟨z,n,rfl,rfl,h1,h2,h3,q⟩:=h;obtain⟨t,rfl⟩:=rx;obtain⟨t',rfl⟩:=ry;exact SB.mul (mulOk_of 1000 1000 h1 h3 (by lia) (by decide) (by decide)) λt2 k=>⟨.str _,H,I.tok _,⟨t2,rfl⟩,q⟩
def vf:ud:=λo i v H Q=>Ce o i v H Q\/(∃a H',o= .ref a/\DPut H a i v H'/\Q H')
theorem AG (hu:X.A.units+1<cLine):xg X vf:=by
 intro pins s σ H o i v ov iv u Q I ro ri rv h;rcases h with h|⟨a,H',rfl,g,q⟩
 .exact zU pins s σ H o i v ov iv u Q I ro ri rv h
 .cases ro;exact wW hu I g ri rv λs' I'=>⟨H',I',q⟩
end
section
variable {X:Cx}
theorem Inv.pairNew {pins:List (Addr×Obj)}{σ:St}{H:Hp}{s:Shared}{fp:List Addr}{h':Heap}{tk:Nat}{x y:V}{u v:Value}{e:Nat}(I:Inv X pins σ H s)(hf:∀b∈fp,gR X pins H b)
  (kp:∀b o,b∉fp->s.heap.get? b=some o->h'.get? b=some o) (there:∀b∈fp,b<s.heap.objs.size) (tup:h'.get? s.heap.objs.size=some {cls:= .type "tuple",data:= .seq #[u,v] e}) (rx:RelV x u) (ry:RelV y v):
  H s.heap.objs.size=none/\Inv X pins σ (p5 H s.heap.objs.size (.tup [x,y])) {s with heap:=h',toks:=tk}/\∀b∈fp,p5 H s.heap.objs.size (.tup [x,y]) b=none:=by
 have fresh:H s.heap.objs.size=none:=I.hok.fresh (JA _)
 have XW:∀b o,s.heap.get? b=some o->b≠s.heap.objs.size:=λb o z=>JV (JR z)
 have hH:∀b w,H b=some w->b≠s.heap.objs.size/\b∉fp:=λb w z=>⟨b5 z fresh,λm=>by rw[(hf b m).1] at z;cases z⟩
 have hok:HOk X.prog X.w (p5 H s.heap.objs.size (.tup [x,y])) h':=λb w z=>by
  by_cases hb:b=s.heap.objs.size
  .subst hb;rw[d0] at z;cases z;exact⟨by show 2<=sizeLine;decide,[u,v],.cons rx (.cons ry .nil),⟨_,tup,rfl,_,rfl⟩⟩
  .rw[d6 hb] at z;refine(I.hok b w z).stay (λc ob hc q=>kp c ob ?_ q) (λc q=>by rw[d6 (hH c _ q).1];exact q) λc ys q=>by rw[d6 (hH c _ q).1];exact q
   rcases hc with m|m
   .rw[m];exact(hH b _ z).2
   .exact(hH c _ m).2
 refine⟨fresh,I.call' (s':={s with heap:=h',toks:=tk}) (ch:=fp) rfl ⟨λb o z n _ hx=>kp b o hx z,λb o z n _ hx=>⟨o.slots,kp b o hx z⟩,λb o z n _=>by rw[d6 (XW b o z)];exact n,
  λb o z hx=>⟨o,kp b o hx z⟩,λb ys z=>by rw[d6 (hH b _ z).1];exact z,λb ob w z=>by rw[d6 (hH b _ z).1];exact z,λb ps z=>⟨#[],by rw[d6 (hH b _ z).1];simpa using z⟩⟩ hok I.bare λb hb=>?_,λb hb=>?_⟩
 .obtain⟨f0,f1,f2,f3,f4,f5⟩:=hf b hb
  exact⟨f3,f1,f4,f5⟩
 .rw[d6 (JV (there b hb))];exact(hf b hb).1
theorem Inv.turnedAll {pins:List (Addr×Obj)}{σ:St}{H:Hp}{s:Shared}{fp:List Addr}{h':Heap}{tk:Nat}(I:Inv X pins σ H s)(hf:∀b∈fp,gR X pins H b)
  (kp:∀b o,b∉fp->s.heap.get? b=some o->h'.get? b=some o):Inv X pins σ H {s with heap:=h',toks:=tk}:=by
 have hH:∀b w,H b=some w->b∉fp:=λb w z m=>by rw[(hf b m).1] at z;cases z
 refine I.call' (s':={s with heap:=h',toks:=tk}) (ch:=fp) rfl ⟨λb o z n _ hx=>kp b o hx z,λb o z n _ hx=>⟨o.slots,kp b o hx z⟩,λb o z n _=>n,
  λb o z hx=>⟨o,kp b o hx z⟩,λb ys z=>z,λb ob w z=>z,λb ps z=>⟨#[],by simpa using z⟩⟩ (λb w z=>?_) I.bare λb hb=>?_
 .refine(I.hok b w z).stay (λc ob hc q=>kp c ob ?_ q) (λc q=>q) λc ys q=>q
  rcases hc with m|m
  .rw[m];exact hH b _ z
  .exact hH c _ m
 .obtain⟨f0,f1,f2,f3,f4,f5⟩:=hf b hb
  exact⟨f3,f1,f4,f5⟩
end
def Iz (K:Qe)(l:Addr):It:=
 ⟨λi H=>∃xs x,SqL K H l xs/\xs[i]?=some x,λi H x H'=>∃t v,(∀xs,SqL K H l xs->xs[i]?=some v)/\H t=none/\x= .ref t/\H'=p5 H t (.tup [.int i,v]),λi H=>∃xs,SqL K H l xs/\xs.length<=i⟩
theorem wN {P:Program}{w:World}{K:Qe}{elts:List Expr}{x1}{u_:Pos}{en it l:Addr}(q_:en≠it):ir P w K (.Tuple elts x1 u_) (Iz K l) [en,it] en (λi h=>∃old,IsEnum h en it i old/\h.IsListIter it l i) where
 mem:=by simp
 obj:=λi h st b hb=>by
  obtain⟨old,h1,o,e,c,d⟩:=st;have Pn:b=en\/b=it:=by simpa using hb
  rcases Pn with rfl|rfl
  .exact⟨_,h1,λv z=>by
    have z':Data.fields _=Data.cell v:=z;cases z'⟩
  .exact⟨o,e,λv z=>by rw[d] at z;cases z⟩
 keep:=λi h h' st k=>by
  obtain⟨old,h1,h2⟩:=st;exact⟨old,k en (by simp) _ h1,h2.at λo e=>k it (by simp) o e⟩
 item:=by
  intro X hP hw hK hc i pins s σ H E I hf st hg;subst hP hw hK;obtain⟨old,C_,C'⟩:=st;obtain⟨xs,x,hq,hx⟩:=hg;obtain⟨a_,rv,p,hz⟩:=I.list hq;obtain⟨u,hu,ru⟩:=rv.get hx;have Rt:en<s.heap.objs.size:=JR C_;have hit:it<s.heap.objs.size:=by obtain⟨o,e,_⟩:=C';exact JR e
  refine wpAny_pyNext_enum_item C_ C' p.isList (x:=u) (by simpa using hu) q_ λh' SH hit1 ht1 XY Tp=>?_;refine⟨.ref s.heap.objs.size,rfl,wpAny_letOwnedTupleGo_enum (s:={s with heap:=h',toks:=s.toks+1}) SH λOh he'' r_=>?_⟩;have Sn:Heap.SameBut en h' Oh:=r_;have Rq:Oh.get? s.heap.objs.size=some {cls:= .type "tuple",data:= .seq #[.int i s.toks,u]}:=Sn.extBut _ _ (Oi Rt) ht1;obtain⟨fr,I1,fr2⟩:=I.pairNew (fp:=[en,it]) (h':=Oh) (tk:=s.toks+1) (x:= .int i) (y:=x) hf (λb o hb e=>by
   have Pn:b≠en/\b≠it:=by simpa using hb
   exact Sn.extBut b o Pn.1 (Tp b o Pn.1 Pn.2 e)) (λb hb=>by
   have Pn:b=en\/b=it:=by simpa using hb
   rcases Pn with rfl|rfl
   .exact Rt
   .exact hit) Rq ⟨_,rfl⟩ ru
  refine⟨.ref s.heap.objs.size,_,I1,rfl,⟨_,x,λys hy=>by rw[I.list_inj hy hq];exact hx,fr,rfl,rfl⟩,⟨_,he'',?_⟩,fr2⟩;exact hit1.at λo e=>Sn.extBut it o (Lw q_) e
 done:=by
  intro X hP hw hK hc i pins s σ H E I hf st hg;subst hP hw hK;obtain⟨old,C_,C'⟩:=st;obtain⟨xs,hq,hx⟩:=hg;obtain⟨a_,rv,p,hz⟩:=I.list hq;have hl:=rv.length;exact wpAny_pyNext_enum_end (I.ok.hd hc) C_ C' p.isList (by simp;lia) λh' eb=>⟨rfl,I.turnedAll (fp:=[en,it]) (tk:=s.toks) hf λb o hb e=>eb b o (by
   have Pn:b≠en/\b≠it:=by simpa using hb
   exact Pn.2) e⟩
 self:=λ_ _ _ _ _ st h=>by
  obtain⟨old,C_,C'⟩:=st;exact wpAny_pyIter_enum C_ h
section
variable {X:Cx} {a b:Expr} {t:TA} {p pos:Pos}
end
section
variable {X:Cx} {a b:Expr} {t:TA} {p pos:Pos}
end
section
variable {X:Cx} (K:Qe) {a b:Expr} {t:TA} {p pos:Pos}
theorem Q0 (hc:X.calm=true)(h:X.K=K:=by rfl):CallR X (.builtin "sorted") (oi K):=h▸oa hc
end
theorem C5 {X:Cx}:xl X "list.append" uI:=wq
section
variable {K:Qe} {σ:St} {H:Hp} {Q:VK}
theorem B9 {p:Addr}{kvs:List (j0×V)}{ss:List Str}(h:Rd H p (.dK kvs))(hk:kvs.map (·.1)=ss.map Sum.inr)(WR:ss.length<64)(q:∀N_:List Str,N_.Perm ss->sortedS N_=true->∀l,H l=none->Q (.ref l) (p5 H l (.lst (N_.map V.str)))):oi K [.ref p] H Q:=⟨p,ss,rfl,.inr ⟨kvs,h,hk⟩,WR,q⟩
theorem vW {i j:Int}(h:CMul i j)(q:Q (.int (i*j)) H):Cp (.int i) (.int j) H Q:= .inl ⟨i,j,rfl,rfl,h,q⟩
theorem Dd {to ti:TE}{t:ud}{v:V}{Qs:St->Hp->Prop}(q:to σ H λo H1=>ti σ H1 λi H2=>t o i v H2 λH3=>Qs σ H3):Ek to ti t v σ H Qs:=q
theorem z6 {a:Addr}{kvs:List (j0×V)}{k:j0}{v:V}{Qh:Hp->Prop}(h:H a=some (.dK kvs))(hl:kvs.length<sizeLine)(q:Qh (p5 H a (.dK (E3 kvs k v)))):vf (.ref a) (kV k) v H Qh:= .inr ⟨a,_,rfl,DPut.k h hl,q⟩
theorem F5 {n:Nat}{t:sZ}{a:Addr}{xs:List V}{Qs:St->Hp->Prop}(h:SqT K H a xs)(hl:xs.length=n)(q:t xs σ H Qs):yM K n t (.ref a) σ H Qs:=⟨a,xs,rfl,h,hl,q⟩
theorem BA {t:TG}{u:sZ}{v:V}{r:List V}{Qs:St->Hp->Prop}(q:t v σ H λσ' H'=>u r σ' H' Qs):jV t u (v::r) σ H Qs:=⟨v,r,rfl,q⟩
theorem EM {Qs:St->Hp->Prop}(q:Qs σ H):Az [] σ H Qs:=⟨rfl,q⟩
theorem Im {T:String}{r:V->List V->Hp->VK->Prop}{to:TE}{t:TA}(q:to σ H λx H1=>Gq K T x H1/\t σ H1 λxs H2=>r x xs H2 Q):HU K T r to t σ H Q:=q
theorem FK {T:String}{r:V->List V->Hp->VK->Prop}{to:TE}(q:to σ H λx H1=>Gq K T x H1/\r x [] H1 Q):CO K T r to σ H Q:=q
theorem V2 {p:Addr}{x:V}{o:Option V}(g:DGet H p x o)(q:Q (.bl o.isSome) H):xh K x (.ref p) H Q:= .inr (.inr ⟨p,o,rfl,g,q⟩)
theorem N6 {p:Addr}{x:V}{o:Option V}(g:DGet H p x o)(q:Q (.bl (!o.isSome)) H):jw K x (.ref p) H Q:= .inr (.inr ⟨p,o,rfl,g,q⟩)
theorem qJ {p:Addr}{x:V}{xs:List V}(h:SqL K H p xs\/SqT K H p xs)(h1:J0 x=true)(h2:xs.all J0=true)(q:Q (.bl (Hg x xs)) H):xh K x (.ref p) H Q:= .inr (.inl ⟨p,xs,rfl,h,h1,h2,q⟩)
theorem gI {p:Addr}{xs:List V}{lo hi:Option Int}(h:SqT K H p xs)(hw:¬(HT.sIx xs.length 0 lo=0/\HT.sIx xs.length xs.length hi=xs.length))(q:∀p,H p=none->Q (.ref p) (p5 H p (.tup (cO xs lo hi)))):Fd K (.ref p) lo hi H Q:= .inr (.inl ⟨p,xs,rfl,h,hw,q⟩)
theorem E1 {a:Addr}{kvs:List (j0×V)}{k:j0}(e:Rd H a (.dK kvs)):DGet H a (kV k) (z0 kvs k):= .inl ⟨kvs,k,e,rfl,rfl⟩
end
open PySem.AutoSeq1 (wpAny_loadPart')
def EqP (P:Program)(w:World)(A:Around)(s:Shared)(y x:Value)(b:Bool):Prop:=∀(E:Value->Shared->Prop) (Q:Bool->Shared->Prop),Q b s->wpAny (model P w) A (eqBool y x) Q E s
def RcP (P:Program)(w:World)(A:Around)(s:Shared)(y x:Value)(b:Bool):Prop:=∀(E:Value->Shared->Prop) (Q:Value->Shared->Prop),Q (.bool b) s->wpAny (model P w) A (richCompare .Eq y x) Q E s
theorem EqP.of {P:Program}{w:World}{A:Around}{s:Shared}{y x:Value}{b:Bool}(h:SeqAt.EqAt A s y x b):EqP P w A s y x b:=λE Q q=>h P w E Q q
theorem EqP.refs {P:Program}{w:World}{A:Around}{s:Shared}{l m:Addr}{k:Bool}(q_:l≠m)(h:RcP P w A s (.ref l) (.ref m) k):EqP P w A s (.ref l) (.ref m) k:=λE Q q=>by
 unfold eqBool;refine La (wpAny_ite_split (λz=>absurd (Value.ref.inj (eq_of_beq z)) q_) λ_=>JL (h E _ (Lx q)))
theorem DW {P:Program}{w:World}(l m:Addr)(xs ys:Array Value)(n1 n2:Nat)(d1 d2:Option Addr)(s1 s2:Array (Option Value))(f:Nat->Bool):
  MeetsIn P w (Builtin.«tuple.__eq__» ⟨[.ref l,.ref m],[]⟩) (λA R s=>
   s.heap.get? l=some {cls:= .type "tuple",dict:=d1,data:= .seq xs n1,slots:=s1}/\s.heap.get? m=some {cls:= .type "tuple",dict:=d2,data:= .seq ys n2,slots:=s2}/\
   (∀j (g1:j<xs.size) (g2:j<ys.size),EqP P w A.in1 s xs[j] ys[j] (f j))/\
   R (.ok (.ret (.bool ((List.range (min xs.size ys.size)).all f&&xs.size==ys.size)))) s):=
 .of_wp λA R s hyp=>by
  obtain⟨hp,gg,dr,tk,os⟩:=s;obtain⟨e1,e2,he,fin⟩:=hyp;have sub:=NL;have len:(xs.toList.zip ys.toList).length=min xs.size ys.size:=by simp
  wp_walk using wpAny_loadPart' e1,wpAny_loadPart' e2,wpAny_forIn_list _ (λmore acc st=>acc.1=none/\st=⟨hp,gg,dr,tk,os⟩/\∃i,more=(xs.toList.zip ys.toList).drop i/\
   R (.ok (.ret (.bool (((List.range (min xs.size ys.size)).drop i).all f&&xs.size==ys.size)))) ⟨hp,gg,dr,tk,os⟩) _
  case turn=>
   rintro⟨y,x⟩ more acc st ⟨ha,rfl,i,hi,hR⟩
   have lt:i<(xs.toList.zip ys.toList).length:=by
    rcases LZ i (xs.toList.zip ys.toList).length with z|z
    .exact z
    .rw[Mj z] at hi;cases hi
   have lm:i<min xs.size ys.size:=len▸lt
   have lx:i<xs.size:=JS lm (Nat.min_le_left _ _)
   have ly:i<ys.size:=JS lm (NU _ _)
   rw[KY lt] at hi
   injection hi with h1 h2
   have q1:y=xs[i]:=by simpa using KQ Prod.fst h1
   have q2:x=ys[i]:=by simpa using KQ Prod.snd h1
   subst q1 q2
   have XZ:(List.range (min xs.size ys.size)).drop i=i::(List.range (min xs.size ys.size)).drop (i+1):=by simp [KY,lm]
   rw[XZ,Mb] at hR
   refine JL (he i lx ly _ _ ?_)
   cases hf:f i with
   |true=>
    rw[hf] at hR
    wp_walk
    exact⟨rfl,rfl,i+1,h2,by simpa using hR⟩
   |false=>
    rw[hf] at hR
    wp_walk
    exact⟨_,rfl,by simpa using hR⟩
  case fin=>
   rintro⟨c1,c2⟩ st ⟨ha,rfl,i,hi,hR⟩
   simp only at ha
   subst ha
   have ge:min xs.size ys.size<=i:=by
    rcases LZ i (xs.toList.zip ys.toList).length with z|z
    .rw[KY z] at hi;cases hi
    .exact len▸z
   rw[Mj (by simpa using ge)] at hR
   wp_walk
   exact⟨_,rfl,by simpa [Builtin.Tuple.tupleCompareSizes] using hR⟩
  case h=>
   exact⟨rfl,rfl,0,rfl,by simpa using fin⟩
theorem RcP.tup {P:Program}{w:World}{A:Around}{s:Shared}{l m:Addr}{xs ys:Array Value}{f:Nat->Bool}(hl:s.heap.IsTuple l xs)(hm:s.heap.IsTuple m ys)(hu:A.units<cLine)
  (he:∀j (g1:j<xs.size) (g2:j<ys.size),EqP P w A.in1 s xs[j] ys[j] (f j)):RcP P w A s (.ref l) (.ref m) ((List.range (min xs.size ys.size)).all f&&xs.size==ys.size):=λE Q q=>by
 obtain⟨⟨c1,d1,a1,s1⟩,o1,k1,n1,t1⟩:=id hl
 obtain⟨⟨c2,d2,a2,s2⟩,o2,k2,n2,t2⟩:=id hm
 simp only at k1 t1 k2 t2
 subst k1 t1 k2 t2
 refine Lu (op:= .Eq) ⟨_,o1,rfl⟩ ⟨_,o2,rfl⟩ Ow (Ll Ow ⟨_,o1,rfl⟩ PySem.F.entry_tuple_eq (PySem.F.args_tuple_eq_2 _ _) (DW l m xs ys n1 n2 d1 d2 s1 s2 f) ⟨o1,o2,he,?_⟩) hu
 exact⟨(λz=>nomatch z),q⟩
def U5:List V->List V->Bool
 |[],[]=>true
 |x::xs,y::ys=>dH x y&&U5 xs ys
 |_,_=>false
inductive Eq1 (K:Qe) (H:Hp):V->V->Bool->Prop
 |flat {x y:V}:J0 x=true->J0 y=true->Eq1 K H x y (dH x y)
 |tup {a b:Addr} {xs ys:List V}:SqT K H a xs->SqT K H b ys->xs.all J0=true->ys.all J0=true->Eq1 K H (.ref a) (.ref b) (U5 xs ys)
 |nt {a:Addr} {xs:List V}:SqT K H a xs->Eq1 K H .non (.ref a) false
 |tn {a:Addr} {xs:List V}:SqT K H a xs->Eq1 K H (.ref a) .non false
theorem gG:∀{x:V},J0 x=true->dH x x=true
 | .non,_=>rfl
 | .bl b,_=>by simp [dH]
 | .int i,_=>by simp [dH]
 | .str x,_=>by simp [dH]
theorem dJ:∀{xs:List V},xs.all J0=true->U5 xs xs=true
 |[],_=>rfl
 |x::xs,h=>by
  rw[Mb,Kj] at h;show(dH x x&&U5 xs xs)=true;rw[gG h.1,dJ h.2];rfl
theorem X6:∀(xs ys:List V),((List.range (min xs.length ys.length)).all (λj=>dH (xs.getD j .non) (ys.getD j .non))&&xs.length==ys.length)=U5 xs ys
 |[],[]=>rfl
 |[],_::_=>by simp [U5]
 |_::_,[]=>by simp [U5]
 |x::xs,y::ys=>by
  have ih:=X6 xs ys;have e:min (x::xs).length (y::ys).length=min xs.length ys.length+1:=by simp
  rw[e,MV,Mb,LJ];show((dH x y&&(List.range (min xs.length ys.length)).all _)&&(xs.length+1==ys.length+1))=(dH x y&&U5 xs ys);rw[←ih,Bool.and_assoc];congr 1;congr 1;simp
section
variable {X:Cx} {pins:List (Addr×Obj)} {σ:St} {H:Hp} {s:Shared} {A:Around}
theorem Eq1.at_ {x y:V}{u v:Value}{b:Bool}(I:Inv X pins σ H s)(h:Eq1 X.K H x y b)(rx:RelV x u)(ry:RelV y v)(hu:A.units+8<cLine):SeqAt.EqAt A s u v b:=by
 cases h with
 |flat fx fy=>exact dh rx ry fx fy
 | @tup a c xs ys ha hc fx fy=>
  cases rx
  cases ry
  obtain⟨a_,r1,p1,z1⟩:=I.tuple ha
  obtain⟨its',r2,p2,z2⟩:=I.tuple hc
  by_cases hac:a=c
  .subst hac
   have e:=I.tuple_inj ha hc
   subst e
   rw[dJ fx]
   exact Mp _
  .have l1:=r1.length
   have l2:=r2.length
   have q:=SeqAt.RcAt.tuples (A:=A) (e:=λj=>dH (xs.getD j .non) (ys.getD j .non)) (show s.heap.IsTuple a a_.toArray from p1) (show s.heap.IsTuple c its'.toArray from p2) (by lia) λj g1 g2=>by
    have O_:j<a_.length:=by simpa using g1
    have Pj:j<its'.length:=by simpa using g2
    have x1:xs[j]?=some (xs[j]'(by lia)):=by simp [show j<xs.length by lia]
    have y1:ys[j]?=some (ys[j]'(by lia)):=by simp [show j<ys.length by lia]
    obtain⟨u1,Qy,Ql⟩:=r1.get x1;obtain⟨u2,Om,Qm⟩:=r2.get y1;have e1:a_.toArray[j]=u1:=by
     have:=Jy O_;rw[Qy] at this;simpa using(JU this).symm
    have e2:its'.toArray[j]=u2:=by
     have:=Jy Pj;rw[Om] at this;simpa using(JU this).symm
    rw[e1,e2];have d1:xs.getD j .non=xs[j]'(by lia):=by rw[Kh,x1];rfl
    have d2:ys.getD j .non=ys[j]'(by lia):=by rw[Kh,y1];rfl
    rw[d1,d2];exact dh Ql Qm (Kk.mp fx _ (Kn _)) (Kk.mp fy _ (Kn _))
   have e3:a_.toArray.size=xs.length:=by simp [l1]
   have e4:its'.toArray.size=ys.length:=by simp [l2]
   rw[e3,e4,X6] at q
   exact .of_refs hac q
 | @nt a xs ha=>
  cases rx
  cases ry
  obtain⟨a_,r1,p1,z1⟩:=I.tuple ha
  exact SeqAt.EqAt.none_tuple (show s.heap.IsTuple a a_.toArray from p1) (by lia)
 | @tn a xs ha=>
  cases rx
  cases ry
  obtain⟨a_,r1,p1,z1⟩:=I.tuple ha
  exact SeqAt.EqAt.tuple_none (show s.heap.IsTuple a a_.toArray from p1) (by lia)
end
inductive EqH (K:Qe) (H:Hp) (kb:List (j0×V)):List (j0×V)->Bool->Prop
 |nil:EqH K H kb [] true
 |miss {k:j0} {v:V} {r:List (j0×V)}:z0 kb k=none->EqH K H kb ((k,v)::r) false
 |hit {k:j0} {v y:V} {r:List (j0×V)} {e b:Bool}:z0 kb k=some y->Eq1 K H v y e->EqH K H kb r b->EqH K H kb ((k,v)::r) (e&&b)
def EqD (K:Qe)(H:Hp)(a b:Addr)(r:Bool):Prop:=(a=b/\r=true)\/(a≠b/\∃ka kb r0,Rd H a (.dK ka)/\Rd H b (.dK kb)/\EqH K H kb ka r0/\r=(ka.length==kb.length&&r0))
section
variable {X:Cx} {pins:List (Addr×Obj)} {σ:St} {H:Hp} {s:Shared} {A:Around}
theorem EqH.hits {kb:List (j0×V)}{vb:List (j0×Value)}(I:Inv X pins σ H s)(hu:A.units+8<cLine)(rb:KV kb vb){ka:List (j0×V)}{r:Bool}(h:EqH X.K H kb ka r):∀{va:List (j0×Value)},KV ka va->PySem.W.KeqHits A s vb va r:=by
 induction h with
 |nil=>
  intro va t
  cases t
  exact .nil
 | @miss k v r hn=>
  intro va t
  cases t with
  | @cons _ q _ l e t=>
   obtain⟨k',u⟩:=q
   have Vp:k=k':=e.1
   subst Vp
   refine .miss ?_
   have z:=KV.val rb k
   rw[hn] at z
   cases e:valueAt vb k with
   |none=>rfl
   |some y=>rw[e] at z;exact False.elim z
 | @hit k v y r e b hy h1 hr ih=>
  intro va t
  cases t with
  | @cons _ q _ l e t=>
   obtain⟨k',u⟩:=q
   have Vp:k=k':=e.1
   subst Vp
   have z:=KV.val rb k
   rw[hy] at z
   cases e5:valueAt vb k with
   |none=>rw[e5] at z;exact False.elim z
   |some y'=>
    rw[e5] at z
    exact .hit e5 (h1.at_ I e.2 z hu) (ih t)
theorem EqD.at_ {a b:Addr}{r:Bool}(I:Inv X pins σ H s)(h:EqD X.K H a b r)(hu:A.units+16<cLine):EqP X.prog X.w A s (.ref a) (.ref b) r:=by
 rcases h with⟨rfl,rfl⟩|⟨q_,ka,kb,r0,h1,h2,h3,rfl⟩
 .exact .of (Mp _)
 .obtain⟨z1,d1,va,ra,da⟩:=X1 I.hok h1;obtain⟨z2,d2,vb,rb,db⟩:=X1 I.hok h2;refine .refs q_ λE Q q=>?_;have l1:=KV.length ra;have l2:=KV.length rb;exact PySem.W.keq_eq (knd:=p4 X.prog X.w) d1 d2 da db (by lia) (λ_=>h3.hits (A:=A.in1) I (by show A.units+1+8<_;lia) rb ra) (by rw[←l1,←l2];exact q)
def Fq (K:Qe):R2:=λx y H Q=>∃a b p q p' q' r r',x= .ref a/\y= .ref b/\SqT K H a [.ref p,.ref q]/\SqT K H b [.ref p',.ref q']/\EqD K H p p' r/\EqD K H q q' r'/\Q (.bl (r&&r')) H
theorem CK (hu:X.A.units+64<cLine):OpR X (compareOp .Eq) (Fq X.K):=by
 intro pins s σ H x y v u Q I rx ry h;obtain⟨a,b,p,q,p',q',r,r',rfl,rfl,ha,hb,h1,h2,k⟩:=h;cases rx;cases ry;obtain⟨a_,v1,t1,_⟩:=I.tuple ha;obtain⟨its',v2,t2,_⟩:=I.tuple hb;obtain⟨_,_,rfl,e1,e2⟩:=bu v1;obtain⟨_,_,rfl,e3,e4⟩:=bu v2;cases e1;cases e2;cases e3;cases e4;refine RcP.tup (P:=X.prog) (w:=X.w) (f:=λj=>if j=0 then r else r') (show s.heap.IsTuple a _ from t1) (show s.heap.IsTuple b _ from t2) (by lia) (λj g1 g2=>?_) _ _ ⟨.bl (r&&r'),H,I,by show Value.bool _=Value.bool _;simp [LL],k⟩;have g:j<2:=by simpa using g1
 match j,g with
 |0,_=>exact h1.at_ I (by show X.A.units+1+16<_;lia)
 |1,_=>exact h2.at_ I (by show X.A.units+1+16<_;lia)
def GW (K:Qe):R2:=λx y H Q=>∃a b xs ys,x= .ref a/\y= .ref b/\SqL K H a xs/\SqL K H b ys/\xs.all J0=true/\ys.all J0=true/\Q (.bl (U5 xs ys)) H
theorem fS:∀{xs ys:List V},xs.length≠ys.length->U5 xs ys=false
 |[],[],h=>absurd rfl h
 |[],_::_,_=>rfl
 |_::_,[],_=>rfl
 |x::xs,y::ys,h=>by
  show(dH x y&&U5 xs ys)=false;rw[fS (by simpa using h),Bool.and_false]
theorem DT (hu:X.A.units+64<cLine):OpR X (compareOp .Eq) (GW X.K):=by
 intro pins s σ H x y v u Q I rx ry h;obtain⟨a,b,xs,ys,rfl,rfl,ha,hb,fx,fy,k⟩:=h;cases rx;cases ry;obtain⟨a_,r1,p1,z1⟩:=I.list ha;obtain⟨its',r2,p2,z2⟩:=I.list hb;have l1:=r1.length;have l2:=r2.length;have e3:a_.toArray.size=xs.length:=by simp [l1]
 have e4:its'.toArray.size=ys.length:=by simp [l2]
 by_cases hl:xs.length=ys.length
 .have q:=SeqAt.RcAt.lists (A:=X.A) (e:=λj=>dH (xs.getD j .non) (ys.getD j .non)) p1.isList p2.isList (by rw[e3,e4];exact hl) (by lia) λj g1 g2=>by
   have O_:j<a_.length:=by simpa using g1
   have Pj:j<its'.length:=by simpa using g2
   have x1:xs[j]?=some (xs[j]'(by lia)):=by simp [show j<xs.length by lia]
   have y1:ys[j]?=some (ys[j]'(by lia)):=by simp [show j<ys.length by lia]
   obtain⟨u1,Qy,Ql⟩:=r1.get x1;obtain⟨u2,Om,Qm⟩:=r2.get y1;have e1:a_.toArray[j]=u1:=by
    have:=Jy O_;rw[Qy] at this;simpa using(JU this).symm
   have e2:its'.toArray[j]=u2:=by
    have:=Jy Pj;rw[Om] at this;simpa using(JU this).symm
   rw[e1,e2];have d1:xs.getD j .non=xs[j]'(by lia):=by rw[Kh,x1];rfl
   have d2:ys.getD j .non=ys[j]'(by lia):=by rw[Kh,y1];rfl
   rw[d1,d2];exact dh Ql Qm (Kk.mp fx _ (Kn _)) (Kk.mp fy _ (Kn _))
  have e5:=X6 xs ys;rw[hl,Nat.min_self,NV,MR] at e5;rw[e3,hl,e5] at q;exact q X.prog X.w _ _ ⟨.bl _,H,I,rfl,k⟩
 .refine MJ (A:=X.A) p1.isList p2.isList (by rw[e3,e4];simpa using hl) (by lia) X.prog X.w _ _ ⟨.bl _,H,I,?_,k⟩;rw[fS hl];rfl
def Gy (K:Qe):R2:=λx y H Q=>(∃a b xs ys,x= .ref a/\y= .ref b/\SqT K H a xs/\SqT K H b ys/\xs.all J0=true/\ys.all J0=true/\Q (.bl (U5 xs ys)) H)\/(∃a xs,x= .non/\y= .ref a/\SqT K H a xs/\Q (.bl false) H)
theorem De (hu:X.A.units+64<cLine):OpR X (compareOp .Eq) (Gy X.K):=by
 intro pins s σ H x y v u Q I rx ry h;rcases h with⟨a,b,xs,ys,rfl,rfl,ha,hb,fx,fy,k⟩|⟨a,xs,rfl,rfl,ha,k⟩
 .cases rx;cases ry;obtain⟨a_,r1,p1,z1⟩:=I.tuple ha;obtain⟨its',r2,p2,z2⟩:=I.tuple hb;have l1:=r1.length;have l2:=r2.length;have q:=SeqAt.RcAt.tuples (A:=X.A) (e:=λj=>dH (xs.getD j .non) (ys.getD j .non)) (show s.heap.IsTuple a a_.toArray from p1) (show s.heap.IsTuple b its'.toArray from p2) (by lia) λj g1 g2=>by
   have O_:j<a_.length:=by simpa using g1
   have Pj:j<its'.length:=by simpa using g2
   have x1:xs[j]?=some (xs[j]'(by lia)):=by simp [show j<xs.length by lia]
   have y1:ys[j]?=some (ys[j]'(by lia)):=by simp [show j<ys.length by lia]
   obtain⟨u1,Qy,Ql⟩:=r1.get x1;obtain⟨u2,Om,Qm⟩:=r2.get y1;have e1:a_.toArray[j]=u1:=by
    have:=Jy O_;rw[Qy] at this;simpa using(JU this).symm
   have e2:its'.toArray[j]=u2:=by
    have:=Jy Pj;rw[Om] at this;simpa using(JU this).symm
   rw[e1,e2];have d1:xs.getD j .non=xs[j]'(by lia):=by rw[Kh,x1];rfl
   have d2:ys.getD j .non=ys[j]'(by lia):=by rw[Kh,y1];rfl
   rw[d1,d2];exact dh Ql Qm (Kk.mp fx _ (Kn _)) (Kk.mp fy _ (Kn _))
  have e3:a_.toArray.size=xs.length:=by simp [l1]
  have e4:its'.toArray.size=ys.length:=by simp [l2]
  rw[e3,e4,X6] at q;exact q X.prog X.w _ _ ⟨.bl _,H,I,rfl,k⟩
 .cases rx;cases ry;obtain⟨a_,r1,p1,z1⟩:=I.tuple ha;exact SeqAt.RcAt.none_tuple (A:=X.A) (show s.heap.IsTuple a a_.toArray from p1) (by lia) X.prog X.w _ _ ⟨.bl false,H,I,rfl,k⟩
def lB (K:Qe):R2:=λx y H Q=>Hu x y H Q\/GW K x y H Q\/Gy K x y H Q\/Fq K x y H Q
theorem Js (K:Qe){k:Nat}(hr:Room k X.A)(h:X.K=K:=by rfl):OpR X (compareOp .Eq) (lB K):=h▸op_eq.or ((DT hr.units).or ((De hr.units).or (CK hr.units)))
end
section
variable {K:Qe} {H:Hp} {Q:VK}
theorem yZ {i j:Int}(q:Q (.bl (decide (i=j))) H):lB K (.int i) (.int j) H Q:= .inl (qv q)
theorem zw {i j:Str}(q:Q (.bl (decide (i=j))) H):lB K (.str i) (.str j) H Q:= .inl (rO q)
theorem rB {a b:Addr}{xs ys:List V}(ha:SqL K H a xs)(hb:SqL K H b ys)(fx:xs.all J0=true)(fy:ys.all J0=true)(q:Q (.bl (U5 xs ys)) H):lB K (.ref a) (.ref b) H Q:= .inr (.inl ⟨a,b,xs,ys,rfl,rfl,ha,hb,fx,fy,q⟩)
theorem pX {a b:Addr}{xs ys:List V}(ha:SqT K H a xs)(hb:SqT K H b ys)(fx:xs.all J0=true)(fy:ys.all J0=true)(q:Q (.bl (U5 xs ys)) H):lB K (.ref a) (.ref b) H Q:= .inr (.inr (.inl (.inl ⟨a,b,xs,ys,rfl,rfl,ha,hb,fx,fy,q⟩)))
theorem qP {a b p q p' q':Addr}{r r':Bool}(ha:SqT K H a [.ref p,.ref q])(hb:SqT K H b [.ref p',.ref q'])(h1:EqD K H p p' r)(h2:EqD K H q q' r')(k:Q (.bl (r&&r')) H):lB K (.ref a) (.ref b) H Q:= .inr (.inr (.inr ⟨a,b,p,q,p',q',r,r',rfl,rfl,ha,hb,h1,h2,k⟩))
end
section
variable {K:Qe} {σ:St} {H H' H1:Hp} {Q:VK} {d:Addr} {kvs:List (j0×V)} {o:Obj}
theorem qt {i j:Int}(q:Q (.bl (!decide (i=j))) H):IC (.int i) (.int j) H Q:=⟨rfl,by rw[jm];rw[show(i==j)=decide (i=j) from Nf i j];exact q⟩
def nf:HO->Bool
 | .frz _ _=>false
 |_=>true
def Le (H H':Hp):Prop:=∀a u,nf u=true->Rd H a u->Rd H' a u
theorem Le.trans (a:Le H H1)(b:Le H1 H'):Le H H':=λx u n h=>b x u n (a x u n h)
theorem Same.le (s:Same H H'):Le H H':=λa u _ h=>s.rd h
theorem K5 (h:H d=some (.dK kvs)):Le H (z7 d o kvs H):=λa u n r=>by
 by_cases e:a=d
 .subst e;rcases r with r|⟨o',r⟩
  .rw[h] at r;cases r;exact .inr ⟨o,d0⟩
  .rw[h] at r;cases r
 .unfold z7 Rd;rw[d6 e];exact r
theorem pd:Le H (thaw d H):=λa u n r=>by
 by_cases e:a=d
 .subst e;rcases r with r|⟨o',r⟩
  .rw[uV λo v z=>by rw[r] at z;cases z;cases n];exact .inl r
  .exact .inl (thaw_at r)
 .unfold Rd;rw[O0 e];exact r
theorem Le.tup {a:Addr}{xs:List V}(l:Le H H')(h:SqT K H a xs):SqT K H' a xs:=by
 rcases h with h|h
 .exact .inl (l _ _ rfl h)
 .exact .inr h
theorem Le.lst {a:Addr}{xs:List V}(l:Le H H')(h:SqL K H a xs):SqL K H' a xs:=by
 rcases h with h|h
 .exact .inl (l _ _ rfl h)
 .exact .inr h
theorem Le.dic {a:Addr}(l:Le H H')(h:Rd H a (.dK kvs)):Rd H' a (.dK kvs):=l _ _ rfl h
abbrev M8:=Str×Str×Str
structure B0 where
 pts:List (Str×Str)
 ts:List (Str×M8)
def g5 (pts:List (Str×Str)):List (j0×V):=pts.map λx=>(Sum.inr x.1,.str x.2)
def Z5 (t:M8):List V:=[.str t.1,.str t.2.1,.str t.2.2]
def TieAt (K:Qe)(H:Hp)(kv:j0×V)(x:Str×M8):Prop:=kv.1=Sum.inr x.1/\∃a,kv.2= .ref a/\SqT K H a (Z5 x.2)
def TiesIs (K:Qe)(H:Hp)(kvs:List (j0×V))(ts:List (Str×M8)):Prop:=Paired (TieAt K H) kvs ts
structure WebAt (K:Qe) (H:Hp) (a p q:Addr) (kvs:List (j0×V)) (W:B0):Prop where
 tup:SqT K H a [.ref p,.ref q]
 pts:Rd H p (.dK (g5 W.pts))
 ties:Rd H q (.dK kvs)
 ts:TiesIs K H kvs W.ts
theorem TieAt.mono {kv:j0×V}{x:Str×M8}(l:Le H H')(h:TieAt K H kv x):TieAt K H' kv x:=let ⟨e,a,ea,s⟩:=h;⟨e,a,ea,l.tup s⟩
theorem TiesIs.mono {ts:List (Str×M8)}(l:Le H H')(h:TiesIs K H kvs ts):TiesIs K H' kvs ts:=Paired.imp' (λ_ _ z=>z.mono l) h
theorem WebAt.mono {a p q:Addr}{W:B0}(l:Le H H')(h:WebAt K H a p q kvs W):WebAt K H' a p q kvs W:=⟨l.tup h.tup,l.dic h.pts,l.dic h.ties,h.ts.mono l⟩
theorem TiesIs.length {ts:List (Str×M8)}(h:TiesIs K H kvs ts):kvs.length=ts.length:=Kr h
theorem TiesIs.keys {ts:List (Str×M8)}(h:TiesIs K H kvs ts):kvs.map (·.1)=ts.map λx=>Sum.inr x.1:=by
 unfold TiesIs at h;induction h with
 |nil=>rfl
 |cons r _ ih=>rw[Kx,Kx,ih,r.1]
theorem TiesIs.get {ts:List (Str×M8)}{i:Nat}{kv:j0×V}(h:TiesIs K H kvs ts)(e:kvs[i]?=some kv):∃x,ts[i]?=some x/\TieAt K H kv x:=L8 h e
theorem TiesIs.val {ts:List (Str×M8)}{n:Str}:∀{kvs:List (j0×V)} {ts:List (Str×M8)},TiesIs K H kvs ts->n∈ts.map (·.1)->∃a x,z0 kvs (Sum.inr n:j0)=some (.ref a)/\(n,x)∈ts/\SqT K H a (Z5 x)
 |_,_,.nil,h=>by simp at h
 |kv::r,x::ts,.cons t u,h=>by
  obtain⟨e,a,ea,s⟩:=t;by_cases hn:x.1=n
  .subst hn;refine⟨a,x.2,?_,JT,s⟩;rw[J1 e,ea]
  .have h':n∈ts.map (·.1):=by
    rcases Kl.mp h with z|z
    .exact absurd z.symm hn
    .exact z
   obtain⟨b,y,h1,h2,h3⟩:=TiesIs.val (ts:=ts) u h';refine⟨b,y,?_,JZ _ h2,h3⟩;rw[I9 (by rw[e];intro z;exact hn (LD z))];exact h1
theorem J6 (pts:List (Str×Str)):(g5 pts).map (·.1)=pts.map λx=>Sum.inr x.1:=by
 unfold g5;rw[Km];rfl
def lt (a b:Str):Bool:=decide (a.cps.toList<b.cps.toList)
def Ag (ss:List Str):Bool:=(ss.dropLast.zip ss.tail).all λp=>lt p.1 p.2
theorem uN:∀a b:List Nat,ltCps a b=true\/a=b\/ltCps b a=true
 |[],[]=> .inr (.inl rfl)
 |[],_::_=> .inl rfl
 |_::_,[]=> .inr (.inr rfl)
 |x::r,y::t=>by
  rcases PN x y with h|h|h
  .exact .inl (by simp [ltCps,h])
  .subst h;rcases uN r t with z|z|z
   .exact .inl (by simp [ltCps,z])
   .exact .inr (.inl (by rw[z]))
   .exact .inr (.inr (by simp [ltCps,z]))
  .exact .inr (.inr (by simp [ltCps,h]))
theorem GZ {a b:Str}(h:ltCps b.cps.toList a.cps.toList=false)(q_:a≠b):lt a b=true:=by
 unfold lt;rw[←ltCps_eq];rcases uN a.cps.toList b.cps.toList with z|z|z
 .exact z
 .exfalso;apply q_;obtain⟨⟨l⟩⟩:=a;obtain⟨⟨m⟩⟩:=b;have z':l=m:=z;rw[z']
 .rw[z] at h;cases h
theorem my (x y:Str)(r:List Str):Ag (x::y::r)=(lt x y&&Ag (y::r)):=by
 unfold Ag;simp [List.dropLast]
theorem dE:∀{ss:List Str},sortedS ss=true->ss.Nodup->Ag ss=true
 |[],_,_=>rfl
 |[_],_,_=>rfl
 |x::y::r,h,n=>by
  have h':(!ltCps y.cps.toList x.cps.toList&&risingS y r)=true:=h;rw[Kj] at h';have n':=KN.mp n;rw[my,GZ (by simpa using h'.1) (λz=>n'.1 (by rw[z];exact JT)),dE (ss:=y::r) h'.2 n'.2];rfl
end
theorem Inv.off {X:Cx}{pins:List (Addr×Obj)}{σ:St}{H:Hp}{s:Shared}{C:Addr}{h':Heap}(I:Inv X pins σ H s)(hH:H C=none)(h0:X.s₀.heap.objs.size<=C)(h1:C≠X.env.locals)(h2:∀x c,X.env.cells.lookup x=some c->c≠C)(h3:∀p∈X.pn++pins,p.1≠C)(sb:Heap.SameBut C s.heap h'):Inv X pins σ H {s with heap:=h'}:=by
 refine I.call' (s':={s with heap:=h'}) (ch:=[C]) rfl ?_ ?_ I.bare λb hb=>?_
 .have same:∀b,b∉[C]->h'.get? b=s.heap.get? b:=λb hb=>sb.2 b λz=>hb (by rw[z];exact JT);refine⟨λb o q n hb hx=>?_,λb o q n hb hx=>?_,λb o q n hx=>n,λb o q hx=>?_,λb xs q=>q,λb o u q=>q,λb ps q=>⟨#[],by rw[Array.append_empty];exact q⟩⟩
  .show h'.get? b=_;rw[same b hx];exact q
  .exact⟨o.slots,(same b hx).trans q⟩
  .exact⟨o,(same b hx).trans q⟩
 .refine λb ob e=>(I.hok b ob e).stay (λc w' hc q=>(sb.2 c ?_).trans q) (λ_ q=>q) λ_ _ q=>q;rintro rfl;rcases hc with rfl|hc
  .rw[hH] at e;cases e
  .rw[hH] at hc;cases hc
 .rw[JN.mp hb];exact⟨.inr h0,h1,h2,h3⟩
theorem sX {X:Cx}{own:List Str}{js:List Nat}{scope:Scope}{tg iter elt:Expr}{ifs:List Expr}{pos Ru py:Pos}{g:TG}{ti:TT}{te:TE}{wi:pR}{i:Nat}{y:Str}(hN:X.N.Nodup)(hy:X.N[i]?=some y)(hl:Cm X.env.scope y)(S:ER X own js scope=true)(hc:X.calm=true)(hit:xr X tg iter wi)
  (hg:∀C s H fp,PG (ej X own js scope C s H fp) tg g) (hi:∀C s H fp,tw (ej X own js scope C s H fp) ifs ti) (he:∀C s H fp,PE (ej X own js scope C s H fp) elt te)
  (X':swapsWith (.ListComp elt [⟨tg,iter,ifs,0⟩] scope pos) (some (.Name y py)) Ru.line X.env=pure true)
  (hf:X.fn y=true\/X.env.scope.names.lookup y=some .local)
  (hs:∀x,foldedSetIterable iter X.env x=pure x):
  PS X (.Assign [.Name y py] (.ListComp elt [⟨tg,iter,ifs,0⟩] scope pos) Ru) (sv (jK own js wi g ti te) (O8 i)):=by
 have SB:=yy S
 intro pins s σ H D I h
 rw[exec_Assign_Name_used _ _ _ _ X']
 refine JL (Pe (JL ?_))
 show wpAny _ X.A (do let _←comprehension (.ListComp elt [⟨tg,iter,ifs,0⟩] scope pos) scope X.env _ (newList []) false (eval iter X.env) (some (assign (.Name y py) X.env))) _ _ s
 refine JL (OD (NK (use:=some (assign (.Name y py) X.env)) (Q:=λ_ s'=>SP X pins D .next s') rfl hs (kT (SB.cells I)) SB.kind SB.names (P0 (hit pins s σ H _ I h) λv s1 h1=>P0 h1 λVa s2 h2=>?_)) (λ_ s' hq=>JW (JW hq)) λ_ _ e=>e)
 obtain⟨it,fp,tn,J,H2,e,I2,T,C',f2,th,Qx,W,⟨m0,w0⟩,turn⟩:=h2
 subst e
 refine LW (wpAny_newFunctionEnv SB.nocell (by intro y hy;simp at hy) (λh₁ hns₁ hsb₁=>?_) SB.kind)
 dsimp only at hns₁ hsb₁⊢
 generalize To:s2.heap.push {cls:= .type "list",dict:=none,data:= .seq ([]:List Value).toArray}=G2 at hns₁ hsb₁⊢
 have Vo:G2.objs.size=s2.heap.objs.size+1:=by rw[←To,OP]
 have Qw:s2.heap.objs.size≠G2.objs.size:=by rw[Vo];exact JV (KP _)
 have hC:s2.heap.objs.size<=G2.objs.size:=by rw[Vo];exact Me _
 have old:∀b o,s2.heap.get? b=some o->h₁.get? b=some o:=λb o e=>
  hsb₁.extBut b o (JV (JS (JR e) hC)) (JI _ (To▸JI _ e))
 have off:∀b o,s2.heap.get? b=some o->b≠G2.objs.size:=λb o e=>JV (JS (JR e) hC)
 have O':∀b∈fp,∃o,s2.heap.get? b=some o:=λb hb=>let ⟨o,e,_⟩:=T.obj _ _ C' b hb;⟨o,e⟩
 have z_:h₁.get? s2.heap.objs.size=some {cls:= .type "list",data:= .seq ([]:List Value).toArray}:=
  hsb₁.extBut _ _ Qw (JI _ (To▸JY _ rfl))
 have loop:∀s3:Shared,s3={s2 with heap:=h₁,toks:=s2.toks+([]:List (Str×Value)).length}->
   codeAny (model X.prog X.w) X.A (.compLoop (.ListComp elt [⟨tg,iter,ifs,0⟩] scope pos) 0 (.ref it) (.ref s2.heap.objs.size) (compEnvC scope (jf scope X.env) G2.objs.size X.env))
    (compPost (model X.prog X.w) X.A X.xe (some (assign (.Name y py) X.env)) (λ_ s'=>SP X pins D .next s') (.ref s2.heap.objs.size) G2.objs.size) s3:=by
  rintro s3 rfl
  refine ng (K:=λout H'=>O8 i (.ref s2.heap.objs.size) σ (th (p5 H' s2.heap.objs.size (.lst out))) D.nx) SB hc T I2 f2 (JA _) hC Qw O' (hg _ _ _ _) (hi _ _ _ _) (he _ _ _ _) W (λi m out H' w=>?_) (λout H' s' B Sg k=>?_) w0
   ⟨Inv.block SB I2 f2 O' hC hns₁ old,I2.hok.fresh (JA _),[],_,.nil,z_⟩ (T.keep _ _ _ C' λb _ o e=>old b o e) (λb hb=>(f2 b hb).1)
  .rcases turn i m out H' w with⟨a,b⟩|c
   .exact .inl ⟨a,λn=>b _ n⟩
   .exact .inr c
  .obtain⟨mm,hn,_⟩:=B.inv.loc
   have XO:H' G2.objs.size=none:=B.inv.free
   have IJ:=B.out I2 f2 (JA _) hC Qw Sg (h':=s'.heap) (Heap.SameBut.refl _ _)
   show wpAny _ X.A (assign (.Name y py) X.env (.ref s2.heap.objs.size)) _ _ s'
   refine wpAny_assign_Name (nM IJ hN hy hl (v:= .ref s2.heap.objs.size) rfl (λVb I'' hx=>?_) hf)
   obtain⟨a,sa,ha⟩:=hx
   have haC:G2.objs.size≠a:=by
    rcases ha with rfl|ha
    .exact Lw (JV (JS I2.lt hC))
    .obtain⟨_,o,ho,_⟩:=I2.cell _ _ ha;exact Lw (off _ _ ho)
   refine⟨mm,hn.sameBut sa haC,λh' sb=>⟨_,_,Qx _ _ _ _ (I''.off (by rw[d6 (Lw Qw)];exact XO) (Kg I2.sz hC) (Lw (JV (JS I2.lt hC))) (λx c e=>?_) (λp hp=>off _ _ (I2.pin p hp).1) sb),k⟩⟩
   obtain⟨_,o,ho,_⟩:=I2.cell _ _ e
   exact off _ _ ho
 exact codeAny_compStart_list (loop _ rfl) (T.self _ 0 _ _ _ (T.keep _ _ _ C' λb _ o e=>old b o e) (loop _ rfl))
theorem Z0 {X:Cx}{own:List Str}{js:List Nat}{scope:Scope}{tg iter elt:Expr}{ifs:List Expr}{pos Ru py:Pos}{g:TG}{ti:TT}{te:TE}{wi:pR}{i:Nat}{y:Str}(hN:X.N.Nodup)(hy:X.N[i]?=some y)(hl:Cm X.env.scope y)(S:ER X own js scope=true)(hc:X.calm=true)(hit:QI X tg iter wi)
  (hg:∀C s H fp,QG (ej X own js scope C s H fp) tg g) (hi:∀C s H fp,Hw (ej X own js scope C s H fp) ifs ti) (he:∀C s H fp,QE (ej X own js scope C s H fp) elt te)
  (X':swapsWith (.ListComp elt [⟨tg,iter,ifs,0⟩] scope pos) (some (.Name y py)) Ru.line X.env=pure true:=by rfl)
  (hf:X.fn y=true\/X.env.scope.names.lookup y=some .local:=by first|exact .inl rfl|exact .inr rfl)
  (hs:∀x,foldedSetIterable iter X.env x=pure x:=by intro _;rfl):QS X (.Assign [.Name y py] (.ListComp elt [⟨tg,iter,ifs,0⟩] scope pos) Ru) (sv (jK own js wi g ti te) (O8 i)):=
 ⟨sX hN hy hl S hc hit.r (λC s H fp=>(hg C s H fp).r) (λC s H fp=>(hi C s H fp).r) (λC s H fp=>(he C s H fp).r) X' hf hs⟩
open PySem.AutoSeq1 (wpAny_loadPart')
def NcP (P:Program)(w:World)(A:Around)(s:Shared)(y x:Value)(b:Bool):Prop:=∀(E:Value->Shared->Prop) (Q:Value->Shared->Prop),Q (.bool b) s->wpAny (model P w) A (richCompare .NotEq y x) Q E s
theorem CG {P:Program}{w:World}(l m:Addr)(xs ys:Array Value)(n1 n2:Nat)(d1 d2:Option Addr)(s1 s2:Array (Option Value))(f:Nat->Bool):
  MeetsIn P w (Builtin.«tuple.__ne__» ⟨[.ref l,.ref m],[]⟩) (λA R s=>
   s.heap.get? l=some {cls:= .type "tuple",dict:=d1,data:= .seq xs n1,slots:=s1}/\s.heap.get? m=some {cls:= .type "tuple",dict:=d2,data:= .seq ys n2,slots:=s2}/\
   (∀j (g1:j<xs.size) (g2:j<ys.size),EqP P w A.in1 s xs[j] ys[j] (f j))/\
   R (.ok (.ret (.bool (!((List.range (min xs.size ys.size)).all f&&xs.size==ys.size))))) s):=
 .of_wp λA R s hyp=>by
  obtain⟨hp,gg,dr,tk,os⟩:=s;obtain⟨e1,e2,he,fin⟩:=hyp;have sub:=NL;have len:(xs.toList.zip ys.toList).length=min xs.size ys.size:=by simp
  wp_walk using wpAny_loadPart' e1,wpAny_loadPart' e2,wpAny_forIn_list _ (λmore acc st=>acc.1=none/\st=⟨hp,gg,dr,tk,os⟩/\∃i,more=(xs.toList.zip ys.toList).drop i/\
   R (.ok (.ret (.bool (!(((List.range (min xs.size ys.size)).drop i).all f&&xs.size==ys.size))))) ⟨hp,gg,dr,tk,os⟩) _
  case turn=>
   rintro⟨y,x⟩ more acc st ⟨ha,rfl,i,hi,hR⟩
   have lt:i<(xs.toList.zip ys.toList).length:=by
    rcases LZ i (xs.toList.zip ys.toList).length with z|z
    .exact z
    .rw[Mj z] at hi;cases hi
   have lm:i<min xs.size ys.size:=len▸lt
   have lx:i<xs.size:=JS lm (Nat.min_le_left _ _)
   have ly:i<ys.size:=JS lm (NU _ _)
   rw[KY lt] at hi
   injection hi with h1 h2
   have q1:y=xs[i]:=by simpa using KQ Prod.fst h1
   have q2:x=ys[i]:=by simpa using KQ Prod.snd h1
   subst q1 q2
   have XZ:(List.range (min xs.size ys.size)).drop i=i::(List.range (min xs.size ys.size)).drop (i+1):=by simp [KY,lm]
   rw[XZ,Mb] at hR
   refine JL (he i lx ly _ _ ?_)
   cases hf:f i with
   |true=>
    rw[hf] at hR
    wp_walk
    exact⟨rfl,rfl,i+1,h2,by simpa using hR⟩
   |false=>
    rw[hf] at hR
    wp_walk
    exact⟨_,rfl,by simpa using hR⟩
  case fin=>
   rintro⟨c1,c2⟩ st ⟨ha,rfl,i,hi,hR⟩
   simp only at ha
   subst ha
   have ge:min xs.size ys.size<=i:=by
    rcases LZ i (xs.toList.zip ys.toList).length with z|z
    .rw[KY z] at hi;cases hi
    .exact len▸z
   rw[Mj (by simpa using ge)] at hR
   wp_walk
   exact⟨_,rfl,by simpa [Builtin.Tuple.tupleCompareSizes,bne] using hR⟩
  case h=>
   exact⟨rfl,rfl,0,rfl,by simpa using fin⟩
theorem NcP.tup {P:Program}{w:World}{A:Around}{s:Shared}{l m:Addr}{xs ys:Array Value}{f:Nat->Bool}(hl:s.heap.IsTuple l xs)(hm:s.heap.IsTuple m ys)(hu:A.units<cLine)
  (he:∀j (g1:j<xs.size) (g2:j<ys.size),EqP P w A.in1 s xs[j] ys[j] (f j)):NcP P w A s (.ref l) (.ref m) (!((List.range (min xs.size ys.size)).all f&&xs.size==ys.size)):=λE Q q=>by
 obtain⟨⟨c1,d1,a1,s1⟩,o1,k1,n1,t1⟩:=id hl
 obtain⟨⟨c2,d2,a2,s2⟩,o2,k2,n2,t2⟩:=id hm
 simp only at k1 t1 k2 t2
 subst k1 t1 k2 t2
 refine Lu (op:= .NotEq) ⟨_,o1,rfl⟩ ⟨_,o2,rfl⟩ Ox (Ll Ox ⟨_,o1,rfl⟩ PySem.F.entry_tuple_ne (PySem.F.args_tuple_ne_2 _ _) (CG l m xs ys n1 n2 d1 d2 s1 s2 f) ⟨o1,o2,he,?_⟩) hu
 exact⟨(λz=>nomatch z),q⟩
section
variable {X:Cx} {pins:List (Addr×Obj)} {σ:St} {H:Hp} {s:Shared} {A:Around}
def FC (K:Qe):R2:=λx y H Q=>∃a b p q p' q' r r',x= .ref a/\y= .ref b/\SqT K H a [.ref p,.ref q]/\SqT K H b [.ref p',.ref q']/\EqD K H p p' r/\EqD K H q q' r'/\Q (.bl (!(r&&r'))) H
theorem Eg (hu:X.A.units+64<cLine):OpR X (compareOp .NotEq) (FC X.K):=by
 intro pins s σ H x y v u Q I rx ry h;obtain⟨a,b,p,q,p',q',r,r',rfl,rfl,ha,hb,h1,h2,k⟩:=h;cases rx;cases ry;obtain⟨a_,v1,t1,_⟩:=I.tuple ha;obtain⟨its',v2,t2,_⟩:=I.tuple hb;obtain⟨_,_,rfl,e1,e2⟩:=bu v1;obtain⟨_,_,rfl,e3,e4⟩:=bu v2;cases e1;cases e2;cases e3;cases e4;refine NcP.tup (P:=X.prog) (w:=X.w) (f:=λj=>if j=0 then r else r') (show s.heap.IsTuple a _ from t1) (show s.heap.IsTuple b _ from t2) (by lia) (λj g1 g2=>?_) _ _ ⟨.bl (!(r&&r')),H,I,by show Value.bool _=Value.bool _;simp [LL],k⟩;have g:j<2:=by simpa using g1
 match j,g with
 |0,_=>exact h1.at_ I (by show X.A.units+1+16<_;lia)
 |1,_=>exact h2.at_ I (by show X.A.units+1+16<_;lia)
def GH (K:Qe):R2:=λx y H Q=>∃a b xs ys,x= .ref a/\y= .ref b/\SqL K H a xs/\SqL K H b ys/\xs.all J0=true/\ys.all J0=true/\Q (.bl (!U5 xs ys)) H
theorem CI (hu:X.A.units+64<cLine):OpR X (compareOp .NotEq) (GH X.K):=by
 intro pins s σ H x y v u Q I rx ry h;obtain⟨a,b,xs,ys,rfl,rfl,ha,hb,fx,fy,k⟩:=h;cases rx;cases ry;obtain⟨a_,r1,p1,z1⟩:=I.list ha;obtain⟨its',r2,p2,z2⟩:=I.list hb;have l1:=r1.length;have l2:=r2.length;have e3:a_.toArray.size=xs.length:=by simp [l1]
 have e4:its'.toArray.size=ys.length:=by simp [l2]
 by_cases hl:xs.length=ys.length
 .have q:=SeqAt.RcNeAt.lists (A:=X.A) (e:=λj=>dH (xs.getD j .non) (ys.getD j .non)) p1.isList p2.isList (by rw[e3,e4];exact hl) (by lia) λj g1 g2=>by
   have O_:j<a_.length:=by simpa using g1
   have Pj:j<its'.length:=by simpa using g2
   have x1:xs[j]?=some (xs[j]'(by lia)):=by simp [show j<xs.length by lia]
   have y1:ys[j]?=some (ys[j]'(by lia)):=by simp [show j<ys.length by lia]
   obtain⟨u1,Qy,Ql⟩:=r1.get x1;obtain⟨u2,Om,Qm⟩:=r2.get y1;have e1:a_.toArray[j]=u1:=by
    have:=Jy O_;rw[Qy] at this;simpa using(JU this).symm
   have e2:its'.toArray[j]=u2:=by
    have:=Jy Pj;rw[Om] at this;simpa using(JU this).symm
   rw[e1,e2];have d1:xs.getD j .non=xs[j]'(by lia):=by rw[Kh,x1];rfl
   have d2:ys.getD j .non=ys[j]'(by lia):=by rw[Kh,y1];rfl
   rw[d1,d2];exact dh Ql Qm (Kk.mp fx _ (Kn _)) (Kk.mp fy _ (Kn _))
  have e5:=X6 xs ys;rw[hl,Nat.min_self,NV,MR] at e5;rw[e3,hl,e5] at q;exact q X.prog X.w _ _ ⟨.bl _,H,I,rfl,k⟩
 .refine SeqAt.RcNeAt.lists_lengths (A:=X.A) p1.isList p2.isList (by rw[e3,e4];simpa using hl) (by lia) X.prog X.w _ _ ⟨.bl _,H,I,?_,k⟩;rw[fS hl];rfl
def FP (K:Qe):R2:=λ_ _ _ _=>False
theorem Dp (hu:X.A.units+64<cLine):OpR X (compareOp .NotEq) (FP X.K):=by
 intro pins s σ H x y v u Q I rx ry h;exact h.elim
def BW (K:Qe):R2:=λ_ _ _ _=>False
def Cj (K:Qe):R2:=λ_ _ _ _=>False
theorem AR (hu:X.A.units+64<cLine):OpR X (compareOp .Eq) (BW X.K):=by
 intro pins s σ H x y v u Q I rx ry h;exact h.elim
theorem An (hu:X.A.units+64<cLine):OpR X (compareOp .NotEq) (Cj X.K):=by
 intro pins s σ H x y v u Q I rx ry h;exact h.elim
def CQ (K:Qe):R2:=λx y H Q=>lB K x y H Q\/BW K x y H Q
theorem HP (K:Qe){k:Nat}(hr:Room k X.A)(h:X.K=K:=by rfl):OpR X (compareOp .Eq) (CQ K):=(Js K hr h).or (h▸AR hr.units)
def su (K:Qe):R2:=λx y H Q=>IC x y H Q\/GH K x y H Q\/FP K x y H Q\/FC K x y H Q\/Cj K x y H Q
theorem Jd (K:Qe){k:Nat}(hr:Room k X.A)(h:X.K=K:=by rfl):OpR X (compareOp .NotEq) (su K):=h▸op_ne.or ((CI hr.units).or ((Dp hr.units).or ((Eg hr.units).or (An hr.units))))
end
section
variable {K:Qe} {H:Hp} {Q:VK}
theorem HG {x y:V}(q:lB K x y H Q):CQ K x y H Q:= .inl q
theorem qx {i j:Int}(q:Q (.bl (!decide (i=j))) H):su K (.int i) (.int j) H Q:= .inl (qt q)
theorem kX {a b:Addr}{xs ys:List V}(ha:SqL K H a xs)(hb:SqL K H b ys)(fx:xs.all J0=true)(fy:ys.all J0=true)(q:Q (.bl (!U5 xs ys)) H):su K (.ref a) (.ref b) H Q:= .inr (.inl ⟨a,b,xs,ys,rfl,rfl,ha,hb,fx,fy,q⟩)
theorem rg {a b p q p' q':Addr}{r r':Bool}(ha:SqT K H a [.ref p,.ref q])(hb:SqT K H b [.ref p',.ref q'])(h1:EqD K H p p' r)(h2:EqD K H q q' r')(k:Q (.bl (!(r&&r'))) H):su K (.ref a) (.ref b) H Q:= .inr (.inr (.inr (.inl ⟨a,b,p,q,p',q',r,r',rfl,rfl,ha,hb,h1,h2,k⟩)))
theorem oE {j:Str}(q:Q (.bl false) H):lB K .non (.str j) H Q:= .inl ⟨rfl,by rw[show decide (V.non=V.str j)=false by simp];exact q⟩
theorem oZ {a:Addr}{xs:List V}(ha:SqT K H a xs)(q:Q (.bl false) H):lB K .non (.ref a) H Q:= .inr (.inr (.inl (.inr ⟨a,xs,rfl,rfl,ha,q⟩)))
end
section
variable {X:Cx} {o e f:Expr} {apos b_:Pos} {td ty tx:TE} {name:Str}
theorem FE (hb:attributeBase o name X.env (eval o X.env)=eval o X.env)(hl:(apos.endLine==b_.line)=true)(h:B7 e=true):M1 X o name apos e b_:=by
 have z:starEach [e] X.env=[(false,eval e X.env)]:=Y9 (es:=[]) h;have z2:backTo b_ (starEach [e] X.env)=[(false,eval e X.env)]:=by rw[z];rfl
 exact⟨hb,by rw[z2];rfl,hl,z2⟩
theorem Fp (hb:attributeBase o name X.env (eval o X.env)=eval o X.env)(hl:(apos.endLine==b_.line)=true)(h:B7 e=true)(h':B7 f=true):M2 X o name apos e f b_:=by
 have z:starEach [e,f] X.env=[(false,eval e X.env),(false,eval f X.env)]:=by rw[Y9 (es:=[f]) h,Y9 (es:=[]) h'];rfl
 have z2:backTo b_ (starEach [e,f] X.env)=[(false,eval e X.env),(false,eval f X.env)]:=by rw[z];rfl
 exact⟨hb,by rw[z2];rfl,hl,z2⟩
theorem ur (hu:X.A.units+1<cLine)(ho:QE X o td)(he:QE X e ty)(hb:attributeBase o "get" X.env (eval o X.env)=eval o X.env:=by rfl)(hl:(apos.endLine==b_.line)=true:=by rfl)(h:B7 e=true:=by rfl):
  QE X (.Call (.Attribute o "get" apos) [e] [] b_) (sI td ty):=⟨yh hu ho.r he.r (FE hb hl h)⟩
theorem GJ (hu:X.A.units+1<cLine)(ho:QE X o td)(he:QE X e ty)(hf:QE X f tx)(hb:attributeBase o "get" X.env (eval o X.env)=eval o X.env:=by rfl)(hl:(apos.endLine==b_.line)=true:=by rfl)(h:B7 e=true:=by rfl)(h':B7 f=true:=by rfl):
  QE X (.Call (.Attribute o "get" apos) [e,f] [] b_) (tO td ty tx):=⟨yg hu ho.r he.r hf.r (Fp hb hl h h')⟩
end
section
variable {σ:St} {H:Hp} {Q:VK} {td ty tx:TE}
theorem Fs (q:td σ H λx H1=>∃a,x= .ref a/\Gv H1 a/\ty σ H1 λy H2=>∃o,DGet H2 a y o/\Q (o.getD .non) H2):sI td ty σ H Q:=q
end
open Sem (wp)
section
variable {prog:Program} {w:World} {KT:Type} [DecidableEq KT] {knd:KeyKind prog w KT} {A:Around} {E:Value->Shared->Prop} {s:Shared}
end
section
variable {prog:Program} {w:World} {KT:Type} [DecidableEq KT] {knd:KeyKind prog w KT} {A:Around} {E:Value->Shared->Prop} {s:Shared}
open PySem.AutoSeq1 (wpAny_loadPart')
end
section
variable {X:Cx} {a:Expr} {t:TA} {p pos:Pos}
def sW (K:Qe)(ta:TA):pR:=λσ H R=>ta σ H λvs H1=>∃v,vs=[v]/\((∃l xs,v= .ref l/\SqL K H1 l xs/\R (Iz K l) id H1)\/False)
theorem yQ {elts:List Expr}{x1}{u_:Pos}(hg:Gl X "enumerate")(hm:X.mg "enumerate"=none)(ha:PA X [a] t)(hs:starEach [a] X.env=[(false,eval a X.env)]):xr X (.Tuple elts x1 u_) (.Call (.Name "enumerate" p) [a] [] pos) (sW X.K t):=by
 intro pins s σ H R I h;refine Call_ (cy I hg hm Boot.«enumerate» (Lh (P0 (ha pos pins s σ H _ I h) λus s1 ⟨vs,H1,I1,r1,q1⟩=>?_) hs rfl));obtain⟨v,e,q⟩:=q1;subst e;obtain⟨u,rfl,ru⟩:=R5 r1;rcases q with⟨l,xs,rfl,hq,q⟩|q
 .cases ru;obtain⟨a_,rv,pl,hz⟩:=I1.list hq;refine call_enumerate_list pl.isList λh' he hit hsz hk=>?_;have I2:Inv X pins σ H1 {s1 with heap:=h'}:=I1.kept (t':=s1.toks) hk;refine wpAny_pyIter_enum (s:={s1 with heap:=h'}) he ?_;refine⟨s1.heap.objs.size+1,[s1.heap.objs.size+1,s1.heap.objs.size],_,_,H1,rfl,I2,wN (l:=l) (Nat.succ_ne_self _),⟨_,he,hit⟩,λb hb=>?_,id,gz,q⟩;have Pn:b=s1.heap.objs.size+1\/b=s1.heap.objs.size:=by simpa using hb
  rcases Pn with rfl|rfl
  .exact I1.fpOk (Me _) (I1.hok.fresh (Me _))
  .exact I1.fpOk (JA _) (I1.hok.fresh (JA _))
 .exact q.elim
theorem bw (K:Qe){elts:List Expr}{x1}{u_:Pos}(hm:X.mg "enumerate"=none)(ha:QA X [a] t)(hg:Gl X "enumerate":=by rfl)(h:B7 a=true:=by rfl)(hK:X.K=K:=by rfl):QI X (.Tuple elts x1 u_) (.Call (.Name "enumerate" p) [a] [] pos) (sW K t):=
 ⟨hK▸yQ hg hm ha.r (Y9 h)⟩
end
section
variable {K:Qe} {σ:St} {H:Hp} {ta:TA} {R:It->(Hp->Hp)->Hp->Prop}
theorem AN (q:ta σ H λvs H1=>∃v,vs=[v]/\((∃l xs,v= .ref l/\SqL K H1 l xs/\R (Iz K l) id H1)\/False)):sW K ta σ H R:=q
end
open Sem (wp)
theorem oD:typeLookup (.type "list") "keys"=pure none:=by rw[Oy,Ng];kernel_rfl
section
variable {prog:Program} {w:World} {A:Around} {E:Value->Shared->Prop} {s:Shared}
theorem vL {a:Addr}{o:Obj}{xs:Array Value}{k:Nat}{Q:Option Value->Shared->Prop}
  (hx:s.heap.get? a=some o) (hc:o.cls= .type "list") (M':o.data= .seq xs k) (hd:o.dict=none) (hA:A.handled=none)
  (h:∀h' tk,(∀b ob,s.heap.get? b=some ob->h'.get? b=some ob)->Q none {s with heap:=h',toks:=tk}):
  wpAny (model prog w) A (getAttr? (.ref a) "keys") Q E s:=by
 obtain⟨c,dct,dat,sl⟩:=o
 simp only at hc M' hd
 subst hc M' hd
 obtain⟨hp,g,d,tk,os⟩:=s
 have hT:∀tk',(⟨hp,g,d,tk',os⟩:Shared).TypeIs (.ref a) "list":=λ_=>⟨_,hx,rfl⟩
 have f1:=sub_AttributeError
 have f3:=MK.lookup
 have f4:=MK.bind (.ref a)
 have f5:=am_list_getattr_none
 unfold getAttr? getAttrBy? getAttrBy
 repeat(any_goals (first|assumption|exact hT _|((with_reducible show wpAny _ _ (call (Value.builtin "list.__getattribute__") _ _) _ _ _);refine OF MK (hT _) am_entry_list_getattribute (F.args_list_getattribute_2 _ _) (meets_getattribute_miss_list a xs k sl "keys" _ oD (by decide+kernel) (by decide+kernel)) ⟨hx,hA,λh' tk' e k_=>?_⟩)|wp_step))
 obtain⟨t',u',he⟩:=k_.there
 show wpAny _ _ (getattributeRaised _ _ _ _ _ _ _) _ _ _
 unfold getattributeRaised
 repeat(any_goals (first|assumption|wp_step))
 exact h _ _ k_.keeps
end
theorem V6:entryFor table "dict.update.loop"=some Builtin.«dict.update.loop»:=entryFor_of_tree (by kernel_rfl)
theorem E8:plainId "dict.update.loop"=true:=by decide+kernel
section
variable {prog:Program} {w:World} {KT:Type} [DecidableEq KT] {knd:KeyKind prog w KT} {A:Around} {E:Value->Shared->Prop}
def PairAt (knd:KeyKind prog w KT)(h:Heap)(d it:Addr)(u:Value)(kv:KT×Value):Prop:=∃t key,u= .ref t/\h.IsTuple t #[key,kv.2]/\knd.is kv.1 key=true/\t≠d/\t≠it
theorem PairAt.keep {h h':Heap}{d it:Addr}{u:Value}{kv:KT×Value}(p:PairAt knd h d it u kv)(k:∀b o,b≠d->b≠it->h.get? b=some o->h'.get? b=some o):PairAt knd h' d it u kv:=by
 obtain⟨t,key,e,⟨o,ho,r⟩,hk,h1,h2⟩:=p;exact⟨t,key,e,⟨o,k t o h1 h2 ho,r⟩,hk,h1,h2⟩
theorem wK {d it l:Addr}{items:List Value}{res:Value}(hh:A.handled=none)(Tq:d≠it)(X_:l≠it)(Ya:l≠d):
  ∀(more:List (KT×Value)) (i:Nat) (s:Shared) (kvs:List (KT×Value)) (R:Result->Shared->Prop),
   s.heap.IsListIter it l i->s.heap.IsList l items.toArray->Paired (PairAt knd s.heap d it) (items.drop i) more->s.heap.DictOf knd d kvs->kvs.length+more.length<=sizeLine->
   (∀h' tk,(∀b o,b≠d->b≠it->s.heap.get? b=some o->h'.get? b=some o)->h'.DictOf knd d (more.foldl (λa x=>stored a x.1 x.2) kvs)->R (.ok (.ret res)) {s with heap:=h',toks:=tk})->
   codeAny (model prog w) A (.builtin "dict.update.loop" ⟨[.ref d,.ref it,rawInt (i:Int),res],[]⟩) R s:=by
 intro more
 induction more with
 |nil=>
  intro i s kvs R hit hl hp hd hz hR
  have hx:items.toArray[i]?=none:=by
   have hn:items.drop i=[]:=by cases v_:items.drop i with
    |nil=>rfl
    |cons x r=>rw[v_] at hp;cases hp
   have:=Nj.mp hn;simp;lia
  refine Lm V6 ?_
  rw[Lb E8 _]
  show wpAny _ A.in1 (pyNext (.ref it)>>=_) _ _ s
  refine JL (Nd (A:=A.in1) hh hit hl hx λh' eb=>?_)
  show wpAny _ A.in1 (Builtin.Dict.addKeywords d []>>=_) _ _ _
  refine JL (JW (JW ?_))
  exact hR h' s.toks (λb o h1 h2 e=>eb b o h2 e) (hd.extBut eb Tq)
 |cons kv more ih=>
  intro i s kvs R hit hl hp hd hz hR
  obtain⟨x,hx,Yb,OA⟩:∃x,items.toArray[i]?=some x/\PairAt knd s.heap d it x kv/\Paired (PairAt knd s.heap d it) (items.drop (i+1)) more:=by
   cases v_:items.drop i with
   |nil=>rw[v_] at hp;cases hp
   |cons x r=>
    rw[v_] at hp
    cases hp with
    |cons h1 h2=>
     refine⟨x,?_,h1,?_⟩
     .have z:=KQ List.head? v_
      simpa using z
     .have z:=KQ List.tail v_
      rw[OQ] at z
      rw[z];exact h2
  obtain⟨t,key,rfl,⟨ot,Vq,hct,nt,hdt⟩,A_,h1,h2⟩:=Yb
  refine Lm V6 ?_
  rw[Lb E8 _]
  show wpAny _ A.in1 (pyNext (.ref it)>>=_) _ _ s
  refine JL (MU hit hl hx λh' hit' G_=>?_)
  have Vr:h'.get? t=some ot:=G_.extBut _ _ h2 Vq
  refine JL (La (JL (wpAny_tryCatch ?_)))
  unfold Builtin.Dict.pairItems
  refine JL (NA (s:={s with heap:=h'}) ⟨_,Vr,hct⟩ ?_)
  rw[if_pos (by decide)]
  refine JL (ND (s:={s with heap:=h'}) Vr hdt ?_)
  refine JW ?_
  show wpAny _ A.in1 (holding [key,kv.2] (dictSet d key kv.2)) _ _ _
  refine La (wpAny_dictSet_pairs (s:={s with heap:=h'}) (kvs:=kvs) A_ (hd.extBut G_.extBut Tq) (λOh dd r_=>?_) (by simp only[Ky] at hz;lia))
  have kp:∀b o,b≠d->b≠it->s.heap.get? b=some o->Oh.get? b=some o:=λb o hb1 OH e=>r_.extBut b o hb1 (G_.extBut b o OH e)
  refine JW ⟨LO E8 _,?_⟩
  refine ih (i+1) _ (stored kvs kv.1 kv.2) R ?_ ?_ (Paired.imp' (λ_ _ z=>z.keep kp) OA) dd ?_ (λh3 tk k3 d3=>hR h3 tk (λb o e1 e2 e=>k3 b o e1 e2 (kp b o e1 e2 e)) d3)
  .exact hit'.at λo e=>r_.extBut it o (Lw Tq) e
  .obtain⟨ol,I_,r⟩:=hl
   exact⟨ol,kp l ol Ya X_ I_,r⟩
  .have z:=stored_length_le kvs kv.1 kv.2
   simp only[Ky] at hz
   lia
theorem je {l:Addr}{items:List Value}{o:Obj}{n:Nat}{more:List (KT×Value)}{s:Shared}{Q:Value->Shared->Prop}(hh:A.handled=none)(ho:s.heap.get? l=some o)(hc:o.cls= .type "list")(M':o.data= .seq items.toArray n)(Vs:o.dict=none)(hz:more.length<=sizeLine)
  (hp:Paired (λu kv=>∃t key,u= .ref t/\s.heap.IsTuple t #[key,kv.2]/\knd.is kv.1 key=true) items more)
  (h:∀h' tk,h'.DictOf knd s.heap.objs.size (more.foldl (λa x=>stored a x.1 x.2) [])->(∀b o,s.heap.get? b=some o->h'.get? b=some o)->Q (.ref s.heap.objs.size) {s with heap:=h',toks:=tk}):
  wpAny (model prog w) A (call (.type "dict") [.ref l]) Q E s:=by
 refine callType_codes (Q₁:=λobj s₁=>obj= .ref s.heap.objs.size/\s₁={s with heap:=s.heap.push {cls:= .type "dict",data:= .dict #[]}}) F.kt_called_dict (F.kt_typeCall_dict_1 _) F.entry_dict_init (kt_code_dict_new _ ⟨rfl,rfl⟩) ?_
 rintro obj s₁ ⟨rfl,rfl⟩
 have F_:(s.heap.push {cls:= .type "dict",data:= .dict #[]}).DictOf knd s.heap.objs.size []:=Oq s.heap
 have Vi:l≠s.heap.objs.size:=JV (JR ho)
 refine⟨F_.typeIs,F.args_dict_init_2 _ _,?_⟩
 unfold Builtin.«dict.__init__»
 refine JL ?_
 unfold Builtin.Dict.selfAndRest
 refine JL (Nh F_.typeIs ?_)
 show wpAny _ _ (pure (s.heap.objs.size,[Value.ref l])) _ _ _
 refine JW ?_
 show wpAny _ _ (Builtin.Dict.updateFrom "dict.__init__" s.heap.objs.size (.ref l) [] .none) _ _ _
 unfold Builtin.Dict.updateFrom
 have Qz:(s.heap.push {cls:= .type "dict",data:= .dict #[]}).get? l=some o:=JI _ ho
 refine JL (NA (s:={s with heap:=s.heap.push {cls:= .type "dict",data:= .dict #[]}}) ⟨_,Qz,hc⟩ ?_)
 rw[if_pos (by decide)]
 refine JL (vL (s:={s with heap:=s.heap.push {cls:= .type "dict",data:= .dict #[]}}) Qz hc M' Vs hh λh2 Ss k2=>?_)
 rw[if_pos (show((none:Option Value).isNone)=true from rfl)]
 have Qi:h2.get? l=some o:=k2 l o Qz
 have hd2:h2.DictOf knd s.heap.objs.size []:=let ⟨od,es,ep,e,r⟩:=F_;⟨od,es,ep,k2 _ _ e,r⟩
 have l_:s.heap.objs.size<h2.objs.size:=by obtain⟨od,es,ep,e,r⟩:=hd2;exact JR e
 have up:∀b ob,s.heap.get? b=some ob->(h2.push {cls:= .type "list_iterator",data:= .fields #[.ref l,.int 0 0]}).get? b=some ob:=λb ob e=>JI _ (k2 b ob (JI _ e))
 refine JL (PX (JL (Mw (l:=l) (items:=items.toArray) ⟨o,Qi,hc,n,M'⟩ ?_)))
 refine JW ⟨LO E8 _,?_⟩
 refine wK (knd:=knd) (l:=l) (items:=items) (A:=A.in1) hh (JV l_) (JV (JR Qi)) Vi more 0 _ [] _ ⟨_,JY _ rfl,rfl,rfl⟩ ⟨o,JI _ Qi,hc,n,M'⟩ ?_ (hd2.push _) (by simpa using hz) λh3 tk k3 d3=>⟨rfl,h h3 tk d3 λb ob e=>k3 b ob (JV (JR e)) (JV (Oo (JR e) l_)) (up b ob e)⟩
 rw[NF]
 refine Paired.imp' (λu kv z=>?_) hp
 obtain⟨t,key,rfl,⟨ot,Vq,r⟩,hk⟩:=z
 exact⟨t,key,rfl,⟨ot,up t ot Vq,r⟩,hk,JV (JR Vq),JV (Oo (JR Vq) l_)⟩
end
section
variable {X:Cx}
def PrV (K:Qe)(H:Hp)(x:V)(kv:j0×V):Prop:=∃t,x= .ref t/\SqT K H t [kV kv.1,kv.2]
def bf (kvs:List (j0×V)):List (j0×V):=kvs.foldl (λa x=>E3 a x.1 x.2) []
theorem KV.puts:∀{ps:List (j0×V)} {qs:List (j0×Value)} {a:List (j0×V)} {b:List (j0×Value)},KV ps qs->KV a b->KV (ps.foldl (λa x=>E3 a x.1 x.2) a) (qs.foldl (λa x=>stored a x.1 x.2) b)
 |_,_,_,_,.nil,h=>h
 |_::_,_::_,a,b,.cons r t,h=>by
  obtain⟨e,rv⟩:=r;rw[Mu,Mu];refine KV.puts t ?_;rw[←e];exact KV.put h _ rv
theorem di:∀(ps:List (j0×V)) (a:List (j0×V)),(ps.foldl (λa x=>E3 a x.1 x.2) a).length<=a.length+ps.length
 |[],a=>JA _
 |p::r,a=>by
  rw[Mu,Ky];have z:=di r (E3 a p.1 p.2);have z2:=Q9 a p.1 p.2;lia
theorem DN {pins : List (Addr × Obj)} {σ : L2.St} {H : Hp} {s : Shared} (I : Inv X pins σ H s) : ∀ {xs : List V} {kvs : List (j0 × V)} {us : List Value}, Paired (PrV X.K H) xs kvs -> Vals xs us -> ∃ more : List (j0 × Value), KV kvs more /\ Paired (λu kv => ∃ t key, u = Value.ref t /\ s.heap.IsTuple t #[key, kv.2] /\ (p4 X.prog X.w).is kv.1 key = true) us more
 := by
  intro xs kvs us hp hv;induction hp generalizing us with
  | nil => cases hv; exact ⟨[], .nil, .nil⟩
  | @cons x kv l m r t ih => cases hv with
    | cons r' t' =>
      obtain ⟨tt, rfl, sq⟩ := r
      cases r'
      obtain ⟨a_, v1, t1, _⟩ := I.tuple sq
      obtain ⟨key, v, rfl, rk, rv⟩ := bu v1
      obtain ⟨more, h1, h2⟩ := ih t'
      exact ⟨(kv.1, v) :: more, .cons ⟨rfl, rv⟩ h1, .cons ⟨tt, key, rfl, t1, gu rk⟩ h2⟩
def xF (K:Qe):List V->Hp->VK->Prop:=λxs H Q=>∃(p:Addr) (ys:List V) (kvs:List (j0×V)),xs=[.ref p]/\SqL K H p ys/\Paired (PrV K H) ys kvs/\kvs.length<=sizeLine/\∀l,H l=none->Q (.ref l) (p5 H l (.dK (bf kvs)))
theorem tq (hc:X.calm=true):CallR X (.type "dict") (xF X.K):=by
 intro pins s σ H xs us Q I r h;obtain⟨p,ys,kvs,rfl,hq,hp,hz,q⟩:=h;obtain⟨u,rfl,ru⟩:=R5 r;cases ru;obtain⟨a_,rv,pl,_⟩:=I.list hq;obtain⟨more,kv,pr⟩:=DN I hp rv;obtain⟨o,n,e,c,hd,dt⟩:=pl;have hl:more.length=kvs.length:=(KV.length kv).symm;refine je (knd:=p4 X.prog X.w) (I.ok.hd hc) e c dt hd (by lia) pr λh' tk dd k=>?_;refine⟨.ref s.heap.objs.size,_,?_,rfl,q _ (I.hok.fresh (JA _))⟩;refine I.laid (a:=s.heap.objs.size) (o:= .dK (bf kvs)) (t':=tk) k (JA _) (hJ ?_ (Mc.mpr (Lw (JV I.big))) (KV.puts kv .nil) dd);have z:=di kvs [];unfold bf;simp only[Nn] at z;lia
def nW (K:Qe):List V->Hp->VK->Prop:=λxs H Q=>Cc xs H Q\/xF K xs H Q
theorem U1 (K:Qe)(hc:X.calm=true)(h:X.K=K:=by rfl):CallR X (.type "dict") (nW K):=by
 subst h;intro pins s σ H xs us Q I r h;rcases h with h|h
 .exact tP pins s σ H xs us Q I r h
 .exact tq hc pins s σ H xs us Q I r h
end
section
variable {K:Qe} {H:Hp} {Q:VK}
theorem D0 {p:Addr}{kvs:List (j0×V)}(h:Rd H p (.dK kvs))(q:∀l,H l=none->Q (.ref l) (p5 H l (.dK kvs))):nW K [.ref p] H Q:= .inl ⟨p,kvs,rfl,h,q⟩
theorem X8 {p:Addr}{xs:List V}{kvs:List (j0×V)}(h:SqL K H p xs)(hp:Paired (PrV K H) xs kvs)(hz:kvs.length<=sizeLine)(q:∀l,H l=none->Q (.ref l) (p5 H l (.dK (bf kvs)))):nW K [.ref p] H Q:= .inr ⟨p,xs,kvs,rfl,h,hp,hz,q⟩
end
section
variable {X:Cx}
end
theorem ObjOk.there {P:Program}{w:World}{H:Hp}{h:Heap}{a:Addr}{o:HO}(x:ObjOk P w H h a o):∃u,h.get? a=some u:=by
 induction o with
 |lst xs=>obtain⟨_,_,_,_,e⟩:=x;exact⟨_,e⟩
 |tup xs=>obtain⟨_,_,_,o,e,_⟩:=x;exact⟨_,e⟩
 |dK kvs=>obtain⟨_,_,_,_,o,_,_,e,_⟩:=x;exact⟨_,e⟩
 |dT kvs=>obtain⟨_,_,_,_,o,_,_,e,_⟩:=x;exact⟨_,e⟩
 |set S n=>obtain⟨o,_,_,_,e,_⟩:=x;exact⟨_,e⟩
 |ins C dx fs=>obtain⟨_,_,_,e,_⟩:=x;exact⟨_,e⟩
 |own y=>exact x
 |xd fs=>obtain⟨_,⟨_,_,_,e,_⟩,_⟩:=x;exact⟨_,e⟩
 |rng lo hi=>obtain⟨_,_,_,e⟩:=x;exact⟨_,e⟩
 |frz ob u=>obtain⟨e,_⟩:=x;exact⟨_,e⟩
 |tbl ps=>exact⟨_,show h.get? a=some _ from x⟩
 |met f y=>exact⟨_,show h.get? a=some _ from x⟩
 |ext φ=>obtain⟨_,e,_⟩:=x;exact e
structure Jm (P:Program) (w:World) (outer:List Env) (H:Hp) (s:Shared) (a C:Addr) (a0:Value) (B:Heap) (H':Hp) (s':Shared):Prop where
 fl:Heap.FlyingW B outer a (.ref C) a0 s'.heap
 os:s'.os=s.os
 bare:AllBare s'.gens
 un:Un (ck outer) [] H H' s.heap s'.heap
 hok:HOk P w H' s'.heap
 kp:∀b o,s.heap.get? b=some o->H b=none->b∉ck outer->B.get? b=some o
 th:∀b o,s.heap.get? b=some o->b∉ck outer->∃o',B.get? b=some o'
 tr:∀b o,H' b=some o->∃u,B.get? b=some u
 nw:H' a=none
def rV (P:Program)(w:World):pQ:=λouter H s E e s'=>∃(a C:Addr) (a0:Value) (B:Heap) (H':Hp),e= .ref a/\Jm P w outer H s a C a0 B H' s'/\E (.ref C) (some a) H'
theorem yt {P:Program}{w:World}{H:Hp}{B h h':Heap}(ok:HOk P w H h)(tr:∀b o,H b=some o->∃u,B.get? b=some u)(k1:B.StaysIn h)(k2:B.StaysIn h'):HOk P w H h':=λa o e=>
 (ok a o e).stay (λb u hb q=>by
  have hH:∃o',H b=some o':=by
   rcases hb with rfl|hb
   .exact⟨_,e⟩
   .exact⟨_,hb⟩
  obtain⟨o',Sf⟩:=hH;obtain⟨u',hu'⟩:=tr b o' Sf;have z:=k1 b u' hu';rw[q] at z;cases z;exact k2 b _ hu') (λ_ z=>z) λ_ _ z=>z
section
variable {X:Cx} {pins:List (Addr×Obj)} {σ:St} {H:Hp} {s s':Shared}
theorem aA {base h:Heap}{l:List Env}(F:h.FunFrames base l){b:Addr}{o:Obj}(hb:b∈ck l)(e:h.get? b=some o):∀vs,o.data≠ .fields vs:=by
 obtain⟨_,o',h1,h2⟩:=F.mem hb;rw[e] at h1;cases h1;exact h2
end
section
variable {P:Program} {w:World} {K:Qe} {mg:Str->Option Value} {base:Heap} {N:List Str} {qual:Str} {scope:Scope} {f:Addr} {cd:Value} {A:Around} {outer:List Env} {s0:Shared} {H0:Hp} {E:XK}
theorem gy {b:Addr}(hb:b∈ck outer):b∈ck (envOfC qual scope s0.heap.objs.size f cd::outer):=by grind [ck]
theorem jo {b:Addr}{o:Obj}(e:s0.heap.get? b=some o)(hb:b∉ck outer):b∉ck (envOfC qual scope s0.heap.objs.size f cd::outer):=λz=>by
 unfold ck at z hb;rw[MG] at z;have hl:=JR e;rcases Kl.mp z with z|z
 .rw[z] at hl;exact absurd hl (Li _)
 .exact hb z
theorem oV {pins:List (Addr×Obj)}{σ:St}{H:Hp}{s:Shared}{h1:Heap}{e C:Addr}{vs:List Value}(I:Inv (lE (rV P w) P w K mg base N qual scope f cd A outer s0 H0 E) pins σ H s)
  (hx:Heap.MadeExcOf s.heap h1 e (.ref C) vs) (q:E (.ref C) (some e) H):(lE (rV P w) P w K mg base N qual scope f cd A outer s0 H0 E).xe (.ref e) {s with heap:=h1}:=by
 have U_:∀env∈(envOfC qual scope s0.heap.objs.size f cd::outer),∀b,env.frame=some b->b∈ck (envOfC qual scope s0.heap.objs.size f cd::outer):=λenv he b hb=>ML.mpr ⟨env,he,hb⟩
 have fr:s.heap.FunFrames base (envOfC qual scope s0.heap.objs.size f cd::outer):=I.stack
 have tr:∀b o,H b=some o->∃u,(PySem.W.hideAll s.heap (ck (envOfC qual scope s0.heap.objs.size f cd::outer))).get? b=some u:=λb o z=>by
  obtain⟨u,hu⟩:=(I.hok b o z).there;refine⟨u,MF _ hu λhb=>?_⟩;have:=I.stkFree b hb;rw[z] at this;cases this
 have nw:H e=none:=by
  cases z:H e with
  |none=>rfl
  |some o=>
   obtain⟨u,hu⟩:=(I.hok e o z).there
   rw[hx.new] at hu;cases hu
 have H_:Un (ck outer) [] H0 H s0.heap s.heap:=I.base
 refine wpAny_leaves_madeW (base:=PySem.W.hideAll s.heap (ck (envOfC qual scope s0.heap.objs.size f cd::outer))) I.ok.frames rfl (λb o z=>Ny _ z) (PySem.W.funFrames_hide fr U_) hx λh' t x1 x2 x3 x4=>?_
 have kp:∀b o,s0.heap.get? b=some o->H0 b=none->b∉ck outer->(PySem.W.hideAll s.heap (ck (envOfC qual scope s0.heap.objs.size f cd::outer))).get? b=some o:=λb o z n hb=>
  MF _ (H_.keep b o z n hb (by simp)) (jo z hb)
 have th:∀b o,s0.heap.get? b=some o->b∉ck outer->∃o',(PySem.W.hideAll s.heap (ck (envOfC qual scope s0.heap.objs.size f cd::outer))).get? b=some o':=λb o z hb=>by
  obtain⟨o',z'⟩:=H_.there b o z (by simp);exact⟨o',MF _ z' (jo z hb)⟩
 have hk:=x1.1
 refine⟨e,C,_,_,H,rfl,⟨x1,I.os,I.bare,⟨λb o z n hb _=>hk b o (kp b o z n hb),λb o z n hb _=>?_,λb o z n _=>H_.free b o z n (by simp),λb o z _=>?_,H_.tups,H_.frzs,H_.tbls⟩,?_,kp,th,tr,nw⟩,q⟩
 .obtain⟨s1,e1⟩:=H_.slot b o z n hb (by simp)
  have nf:=aA fr (gy hb) e1
  obtain⟨s2,e2⟩:=x4 b _ (hx.keeps _ _ e1) nf
  exact⟨s2,e2⟩
 .by_cases hb:b∈ck outer
  .obtain⟨o',e1⟩:=H_.there b o z (by simp)
   obtain⟨s2,e2⟩:=x4 b _ (hx.keeps _ _ e1) (aA fr (gy hb) e1)
   exact⟨_,e2⟩
  .obtain⟨o',e1⟩:=th b o z hb
   exact⟨o',hk b o' e1⟩
 .exact yt I.hok tr (λb o z=>Ny _ z) hk
theorem qF:cD (rV P w) (lE (rV P w) P w K mg base N qual scope f cd A outer s0 H0 E) E:=by
 intro pins σ H s e s' I h;obtain⟨a,C,a0,B,H',rfl,F,q⟩:=h;have fr:=F.fl.2.2.1;have H_:Un (ck outer) [] H0 H s0.heap s.heap:=I.base;refine wpAny_leaves_onW I.ok.frames rfl F.fl λh' x1 x2=>?_;have hk:=x1.1;have kp:∀b o,s0.heap.get? b=some o->H0 b=none->b∉ck outer->B.get? b=some o:=λb o z n hb=>
  F.kp b o (H_.keep b o z n hb (by simp)) (H_.free b o z n (by simp)) (jo z hb)
 have th:∀b o,s0.heap.get? b=some o->b∉ck outer->∃o',B.get? b=some o':=λb o z hb=>by
  obtain⟨o',z'⟩:=H_.there b o z (by simp);exact F.th b o' z' (jo z hb)
 have ub:Un (ck (envOfC qual scope s0.heap.objs.size f cd::outer)) [] H H' s.heap s'.heap:=F.un;refine⟨a,C,a0,B,H',rfl,⟨x1,F.os.trans I.os,F.bare,⟨λb o z n hb _=>hk b o (kp b o z n hb),λb o z n hb _=>?_,λb o z n _=>?_,λb o z _=>?_,λb xs z=>ub.tups b xs (H_.tups b xs z),λb o u z=>ub.frzs b o u (H_.frzs b o u z),λb ps z=>?_⟩,yt F.hok F.tr F.fl.1 hk,kp,th,F.tr,F.nw⟩,q⟩
 .obtain⟨s1,e1⟩:=H_.slot b o z n hb (by simp);obtain⟨s2,e2⟩:=ub.slot b _ e1 (H_.free b o z n (by simp)) (gy hb) (by simp);obtain⟨s3,e3⟩:=x2 b _ e2 (aA fr (gy hb) e2);exact⟨s3,e3⟩
 .obtain⟨o',e1⟩:=H_.there b o z (by simp);exact ub.free b o' e1 (H_.free b o z n (by simp)) (by simp)
 .by_cases hb:b∈ck outer
  .obtain⟨o',e1⟩:=H_.there b o z (by simp);obtain⟨o2,e2⟩:=ub.there b o' e1 (by simp);obtain⟨s3,e3⟩:=x2 b _ e2 (aA fr (gy hb) e2);exact⟨_,e3⟩
  .obtain⟨o',e1⟩:=th b o z hb;exact⟨o',hk b o' e1⟩
 .obtain⟨m1,e1⟩:=H_.tbls b ps z;obtain⟨m2,e2⟩:=ub.tbls b _ e1;exact⟨m1++m2,by rw[e2,Pd]⟩
end
def ET:List Value:=[.type "ValueError",.type "Exception",.type "BaseException",.type "object"]
structure ExC (K:Qe) (mg:Str->Option Value) (x:Str) (C:Addr):Prop where
 bound:mg x=some (.ref C)
 exc:PySem.W.excIn K C ET "ValueError.__new__"=true
theorem ExC.own {K:Qe}{mg:Str->Option Value}{x:Str}{C:Addr}{h:Heap}(O:ExC K mg x C)(X:K.In h):OwnCls x C ET "ValueError.__new__" mg h:=by
 have q:=O.exc;refine⟨O.bound,?_⟩;unfold PySem.W.excIn at q;split at q
 .rename_i g1 g2 g3 lk
  split at q
  .rename_i c2 l2 i0 i1 i2 i3 nn i5 em es
   simp only[Kj,Sr,KI] at q;obtain⟨⟨⟨⟨⟨ea,eb⟩,q1⟩,q2⟩,q3⟩,q4⟩:=q;subst ea;subst eb;obtain⟨y1,y2,y3,y4,y5,y6,y7,y8,y9,y10,y11⟩:=g2;dsimp only at em q1 q3 q4;subst em q1;have e3:g3= #[i0,i1,i2,i3,some (.builtin "ValueError.__new__"),i5]:=by
    cases g3 with
    |mk l=>
     have Tc:l=[i0,i1,i2,i3,some (.builtin "ValueError.__new__"),i5]:=es
     rw[Tc]
   subst e3;exact⟨l2,y4,y1,y5,y2,y6,y7,y8,y9,y10,g1,i0,i1,i2,i3,i5,h.nsMap y4,X _ _ lk,Heap.Ns.of_isNs (PySem.W.isNs_of_in X q3),PySem.W.nsMap_none_of_in X q3 q4,PySem.W.tail_of_in X q2⟩
  .cases q
 .cases q
def sV (X:Cx)(E:XK):Prop:=∀(pins:List (Addr×Obj)) (σ:St) (H:Hp) (s:Shared) (h1:Heap) (e C:Addr) (vs:List Value),Inv X pins σ H s->Heap.MadeExcOf s.heap h1 e (.ref C) vs->E (.ref C) (some e) H->X.xe (.ref e) {s with heap:=h1}
theorem jx {P:Program}{w:World}{K:Qe}{mg:Str->Option Value}{base:Heap}{N:List Str}{qual:Str}{scope:Scope}{f:Addr}{cd:Value}{A:Around}{outer:List Env}{s0:Shared}{H0:Hp}{E:XK}:
  sV (lE (rV P w) P w K mg base N qual scope f cd A outer s0 H0 E) E:=λ_ _ _ _ _ _ _ _ I hx q=>oV I hx q
def tZ (C:Addr)(E:XK)(ta:TA):TS:=λ_ σ H=>ta σ H λvs H1=>vs.length<=sizeLine/\∀e,H1 e=none->E (.ref C) (some e) H1
section
variable {X:Cx} {E:XK} {x:Str} {C:Addr} {np b_ pos:Pos} {e:Expr} {es:List Expr} {ta:TA}
theorem zI (R:sV X E)(O:ExC X.K X.mg x C)(hc:X.calm=true)(ha:PA X (e::es) ta)(hg:Gl X x:=by rfl)(F':(x==("__debug__":Str))=false:=by decide)(h:D4 (e::es)=true:=by rfl):
  PS X (.Raise (some (.Call (.Name x np) (e::es) [] b_)) none pos) (tZ C E ta):=by
 intro pins s σ H D I hw
 have h':(B7 e&&D4 es)=true:=h
 rw[Kj] at h'
 have h1:starEach (e::es) X.env=(false,eval e X.env)::starEach es X.env:=Y9 h'.1
 have h2:(backTo b_ (starEach es X.env)).any (·.1)=false:=fH h'.2
 obtain⟨tl,y0,y1,y2,y3,y4,y5,y6,y7,y8,y9,u0,u1,u2,u3,u5,mN,hC,hN,Pt,T⟩:=(O.own I.ok.mod.kin).obj
 refine wpAny_Raise_call_subT (k5:=u5) (k3:=u3) (k2:=u2) (k1:=u1) (k0:=u0) (dd:=y9) (col:=y8) (ab:=y7) (sub:=y6) (sn:=y5) (hdct:=y4) (bs:=y3) (q:=y2) (nm:=y1) (N:=y0) (C:=C) (bm:=tl) (mN:=mN) PySem.F.excBase_ValueError (T.hasType (by decide)) (I.ok.hd hc) ?_ Pt (nY I hg O.bound ⟨rfl,?_⟩ F')
 .rw[h1]
  show(false||(backTo b_ (starEach es X.env)).any (·.1))=false
  rw[h2];rfl
 .have hw':=ha b_ pins s σ H _ I hw
  rw[h1] at hw'⊢
  refine MA (P0 hw' λus s1 ⟨vs,H1,I1,r,q1,q2⟩=>?_)
  refine⟨rfl,by rw[←r.length];exact q1,I1.bk _ _ hC,hN.keeps I1.bk,T.keeps I1.bk,λh2 e2 hm=>?_⟩
  have nw:H1 e2=none:=by
   cases z:H1 e2 with
   |none=>rfl
   |some o=>
    obtain⟨u,hu⟩:=(I1.hok e2 o z).there
    rw[hm.new] at hu;cases hu
  exact R pins σ H1 s1 h2 e2 C us I1 hm (q2 e2 nw)
theorem pH (R:sV X E)(O:ExC X.K X.mg x C)(hc:X.calm=true)(ha:QA X (e::es) ta)(hg:Gl X x:=by rfl)(F':(x==("__debug__":Str))=false:=by decide)(h:D4 (e::es)=true:=by rfl):
  QS X (.Raise (some (.Call (.Name x np) (e::es) [] b_)) none pos) (tZ C E ta):=⟨zI R O hc ha.r hg F' h⟩
def IM (te:TE)(c:Str):TE:=λσ H Q=>te σ H λv H1=>∃y:Str,v= .str y/\y.length+c.length<=1000/\∀z:Str,Q (.str z) H1
theorem Je {te:TE}{c:Str}{p1 p2:Pos}{j}(he:QE X e te):QE X (.JoinedStr [.FormattedValue e (-1) none p1,.Constant (.str c) j p2] pos) (IM te c):=⟨by
 intro pins s σ H Q I h;refine JoinedStr_many (joinParts_cons (FormattedValue_plain (P0 (he.r pins s σ H _ I h) λu s1 ⟨v,H1,I1,r,y,ev,hl,q⟩=>?_)));subst ev;obtain⟨t,rfl⟩:=(show ∃t,u=Value.str y t from r)
 refine formatField_str (λt' tk=>?_) (d8 (by lia));refine⟨d8 (by rw[Pm];show 0+_<=1000;lia),joinParts_cons ?_⟩;have hc:=(lY (X:=X) (x:=c) (j:=j) (pos:=p2)).r pins {s1 with toks:=tk} σ H1 (λv H2=>v= .str c/\H2=H1) (I1.tok tk) ⟨rfl,rfl⟩;refine P0 hc λu2 s2 ⟨v2,H2,I2,r2,e2,e3⟩=>?_;subst e2 e3;obtain⟨t2,rfl⟩:=(show ∃t,u2=Value.str c t from r2)
 have hz:(Str.empty++y++c).length<=sizeLine:=d8 (by rw[Pm,Pm];show 0+_+_<=1000;lia);refine⟨hz,joinParts_nil ⟨.str (Str.empty++y++c),H2,I2.tok _,⟨_,rfl⟩,q _⟩ hz⟩⟩
end
theorem Fun.okE {P:Program}{w:World}{K:Qe}{mg:Str->Option Value}{base:Heap}{x qual:Str}{st:Stmt}{f:Addr}{fd:FuncData}{N ps:List Str}{k:Nat}{sp:Sp}(F:Fun K x qual st f fd)(S:j6 N ps (i8 st))(len:∀vs H Q E,sp vs H Q E->vs.length=ps.length)
  (Oe:∀(c_:Value) (A:Around) (outer:List Env) (s:Shared) (H:Hp) (vs:List V) (Q:VK) (E:XK),Room k (A.deeper (envOfC qual (i8 st) s.heap.objs.size f c_))->sp vs H Q E->
   ∃t,PSs (lE (rV P w) P w K mg base N qual (i8 st) f c_ A outer s H E) (Y5 st) t/\t {nx:=λ_ H'=>Q .non H',rt:=Q} (gL N vs) H):C0 P w K mg base (rV P w) (k+1) f fd ps sp:=by
 obtain⟨oc,od,kV,doc,pm,an,c_,ct,Qg,rfl,lk,P_⟩:=F.ex
 exact Cn lk P_ S len λA outer s H vs Q E hr RQ=>Oe c_ A outer s H vs Q E hr RQ
abbrev Cx.pinned (X:Cx)(pins:List (Addr×Obj)):Cx:={X with pn:=X.pn++pins}
abbrev Cx.suite (X:Cx)(e:Addr):Cx:={X with A:=X.A.mark (some (.ref e)),calm:=false,xe:=λ_ _=>False}
section
variable {X:Cx} {pins Rh:List (Addr×Obj)} {Es:St->XK} {σ:St} {H:Hp} {s:Shared} {e:Addr}
end
section
variable {X:Cx} {pins:List (Addr×Obj)} {Es:St->XK} {k:Nat} {ps:List Str} {E_:List V} {sp:Sp} {x:Str} {p pos:Pos} {e:Expr} {es:List Expr} {t:TA}
end
structure Jw (K:Qe) (mg:Str->Option Value) (x:Str) (T:Addr):Prop where
 bound:mg x=some (.ref T)
 ty:PySem.W.typeIn K (.ref T)=some (.type "type")
 exc:PySem.W.subIn K (.ref T) (.type "BaseException")=some true
 cls:(PySem.W.clsIn K T).isSome=true
section
variable {X:Cx} {x n:Str} {T:Addr} {np Su pos:Pos} {i:Nat} {b₀:Stmt} {body suite:List Stmt} {tb:(St->XK)->TS} {ts:TS}
end
end L2
namespace L2
open PySem PySem.Spec PyProof.Rows PySem.W
section
variable {X:Cx}
end
def cA (K:Frag)(x:Str):Addr:=match nsIn K mainGlobals x with
 |some (some (.ref C))=>C
 |_=>0
theorem Ca {P:Program}{w:World}{X:Cx}:cD (rV P w) X E0:=λ_ _ _ _ _ _ _ ⟨_,_,_,_,_,_,_,z⟩=>z.elim
section
variable {K:Frag} {σ:St} {H:Hp} {Q:VK} {D:tX}
theorem Bq {C:Addr}{E:XK}{ta:TA}(q:ta σ H λvs H1=>vs.length<=sizeLine/\∀e,H1 e=none->E (.ref C) (some e) H1):tZ C E ta D σ H:=q
theorem Iq {te:TE}{c:Str}(q:te σ H λv H1=>∃y:Str,v= .str y/\y.length+c.length<=1000/\∀z:Str,Q (.str z) H1):IM te c σ H Q:=q
end
section
variable {X:Cx}
def Fx (K:Frag):R2:=λ_ _ _ _=>False
theorem Dy (hu:X.A.units+64<cLine):OpR X (compareOp .NotEq) (Fx X.K):=by
 intro pins s σ H x y v u Q I rx ry h;exact h.elim
def BB (K:Frag):R2:=λx y H Q=>su K x y H Q\/Fx K x y H Q
theorem HY (K:Frag){k:Nat}(hr:Room k X.A)(h:X.K=K:=by rfl):OpR X (compareOp .NotEq) (BB K):=(Jd K hr h).or (h▸Dy hr.units)
def BI:V->List V->Hp->VK->Prop:=λx vs H Q=>∃a kvs,x= .ref a/\vs=[]/\H a=some (.dK kvs)/\Q .non (p5 H a (.dK []))
theorem kE:xl X "dict.clear" BI:=by
 intro pins s σ H x vs v us Q I rx rv h;obtain⟨a,kvs,rfl,rfl,hH,q⟩:=h;cases rx;have Ti:=rv.zero;subst Ti;exact AQ I hH λs' I'=>⟨.non,_,I',rfl,q⟩
end
section
variable {K:Frag} {H:Hp} {Q:VK}
theorem HW {x y:V}(q:su K x y H Q):BB K x y H Q:= .inl q
theorem yV {i j:Int}(q:Q (.bl (!decide (i=j))) H):BB K (.int i) (.int j) H Q:= .inl (qx q)
end
def Q7 (ka kb:List (j0×V)):List (j0×V):=kb.foldl (λa x=>E3 a x.1 x.2) ka
theorem mX:∀{kb ka:List (j0×V)},(Q7 ka kb).length<=ka.length+kb.length
 |[],ka=>JA _
 |p::r,ka=>by
  show(Q7 (E3 ka p.1 p.2) r).length<=_;have z:=mX (kb:=r) (ka:=E3 ka p.1 p.2);have z2:=Q9 ka p.1 p.2;rw[Ky];lia
section
variable {X:Cx}
def Bm:V->List V->Hp->VK->Prop:=λx vs H Q=>∃a b ka kb,x= .ref a/\vs=[.ref b]/\H a=some (.dK ka)/\Rd H b (.dK kb)/\a≠b/\ka.length+kb.length<=1000/\Q .non (p5 H a (.dK (Q7 ka kb)))
theorem O4:xl X "dict.update" Bm:=by
 intro pins s σ H x vs v us Q I rx rv h;obtain⟨a,b,ka,kb,rfl,rfl,hA,hB,q_,hl,q⟩:=h;cases rx;obtain⟨u,rfl,ru⟩:=R5 rv;cases ru;obtain⟨z,hd,va,ra,da⟩:=uH I.hok hA;obtain⟨z2,hd2,vb,rb,db⟩:=X1 I.hok hB;have lz:ka.length+kb.length<=sizeLine:=d8 hl;refine Ll Lq da.typeIs PySem.F.entry_dict_update (PySem.F.args_dict_update_2 _ _) (meets_dict_update (p4 X.prog X.w) a b q_ hd2) ⟨va,vb,da,db,by rw[←ra.length,←rb.length];exact lz,λh' dd' _ hs=>?_⟩;have he:∃q,h'.get? a=some q:=let ⟨q,_,_,hq,_⟩:=dd';⟨q,hq⟩
 have Rj:=mX (kb:=kb) (ka:=ka);refine⟨.non,_,dS (t':=s.toks) I (by rw[hA];exact True.intro) hs he (hJ (kvs:=Q7 ka kb) (Kg Rj lz) hd (KV.puts rb ra) dd'),rfl,q⟩
end
section
open PySem.Builtin PySem.Builtin.Str
theorem rE (x:Str)(l u:Option Int):(Txt.slice x l u).length<=(strSliceIndices l u 1 x.length).length:=by
 unfold Txt.slice;split
 .next h=>
  have h':(strSliceIndices l u 1 x.length).length=x.length:=by simpa using h
  lia
 .show(List.filterMap _ (strSliceIndices l u 1 x.length)).toArray.size<=_;rw[Kc];exact List.length_filterMap_le _ _
theorem rp (x:Str)(i:Int)(h0:0<=i)(h1:i<=x.length):(Txt.slice x none (some i)).length<=i.toNat:=by
 refine Kg (rE x none (some i)) ?_;unfold strSliceIndices sliceRange;simp only[show(1:Int)>0 by decide,Ol,Jx,Ls];repeat(first|split|lia)
theorem kO (x:Str)(i:Int)(h0:0<=i)(h1:i<=x.length):(Txt.slice x (some i) none).length<=x.length -i.toNat:=by
 refine Kg (rE x (some i) none) ?_;unfold strSliceIndices sliceRange;simp only[show(1:Int)>0 by decide,Ol,Jx,Ls];repeat(first|split|lia)
end
def cj (σ:List Str)(x:Str):List Str:=if x∈σ then σ else σ++[x]
def ij (ss:List Str):List Str:=ss.foldl cj []
theorem um (σ:List Str)(x:Str):(cj σ x).length<=σ.length+1:=by
 unfold cj;split
 .lia
 .rw[JG];simp
theorem yr {σ:List Str}{x y:Str}:y∈cj σ x↔y∈σ\/y=x:=by grind [cj]
theorem kI:∀(ss σ:List Str),(ss.foldl cj σ).length<=σ.length+ss.length
 |[],σ=>JA _
 |x::r,σ=>by
  have z:=kI r (cj σ x);have z2:=um σ x;rw[Mu,Ky];lia
theorem mJ:∀(ss σ:List Str),σ.Nodup->((ss.foldl cj σ).length=σ.length+ss.length↔(σ++ss).Nodup)
 |[],σ,nd=>by simp [nd]
 |x::r,σ,nd=>by
  rw[Mu,Ky];by_cases h:x∈σ
  .have e:cj σ x=σ:=by unfold cj;rw[if_pos h]
   rw[e];have z:=kI r σ;constructor
   .intro q;lia
   .intro q;exact absurd rfl ((JQ.mp q).2.2 x h x (by simp))
  .have e:cj σ x=σ++[x]:=by unfold cj;rw[if_neg h]
   have nd':(σ++[x]).Nodup:=JQ.mpr ⟨nd,by simp,λa ha b hb e=>h (by
    have hbx:b=x:=by simpa using hb
    rw[←hbx,←e];exact ha)⟩
   have z:=mJ r (σ++[x]) nd';rw[e];rw[JG,JO] at z;rw[KH] at z;show _↔(σ++([x]++r)).Nodup;rw[←z];lia
theorem rG (ss:List Str):(ij ss).length=ss.length↔ss.Nodup:=by
 have z:=mJ ss [] Lc;simpa [ij] using z
section
variable {prog:Program} {w:World} {A:Around} {E:Value->Shared->Prop}
def StrsAre:List Value->List Str->Prop:=Paired λu x=>∃t,u= .str x t
theorem xJ {d it l:Addr}{items:List Value}(hh:A.handled=none)(Tq:d≠it)(X_:l≠it)(Ya:l≠d):
  ∀(more:List Str) (i:Nat) (s:Shared) (σ:List Str) (R:Result->Shared->Prop),
   s.heap.IsListIter it l i->s.heap.IsList l items.toArray->StrsAre (items.drop i) more->s.heap.SetOf (strKind prog w) d (λk=>decide (k∈σ)) σ.length->σ.length+more.length<2000->
   (∀h' tk,(∀b o,b≠d->b≠it->s.heap.get? b=some o->h'.get? b=some o)->h'.SetOf (strKind prog w) d (λk=>decide (k∈more.foldl cj σ)) (more.foldl cj σ).length->R (.ok (.ret .none)) {s with heap:=h',toks:=tk})->
   codeAny (model prog w) A (.builtin "set.update.loop" ⟨[.ref d,.ref it],[]⟩) R s:=by
 intro more
 induction more with
 |nil=>
  intro i s σ R hit hl hp hd hz hR
  have hx:items.toArray[i]?=none:=by
   have hn:items.drop i=[]:=by cases v_:items.drop i with
    |nil=>rfl
    |cons x r=>rw[v_] at hp;cases hp
   have:=Nj.mp hn;simp;lia
  refine Lm F.entry_set_update_loop ?_
  rw[Lb MS _]
  show wpAny _ A.in1 (pyNext (.ref it)>>=_) _ _ s
  refine JL (Nd (A:=A.in1) hh hit hl hx λh' eb=>?_)
  show wpAny _ A.in1 (ret Value.none) _ _ _
  refine JW (hR h' s.toks (λb o h1 h2 e=>eb b o h2 e) ?_)
  obtain⟨o,es,ep,t,ho,r⟩:=hd
  exact⟨o,es,ep,t,eb d o Tq ho,r⟩
 |cons x more ih=>
  intro i s σ R hit hl hp hd hz hR
  obtain⟨u,hx,⟨t,rfl⟩,OA⟩:∃u,items.toArray[i]?=some u/\(∃t,u=Value.str x t)/\StrsAre (items.drop (i+1)) more:=by
   cases v_:items.drop i with
   |nil=>rw[v_] at hp;cases hp
   |cons u r=>
    rw[v_] at hp
    cases hp with
    |cons h1 h2=>
     refine⟨u,?_,h1,?_⟩
     .have z:=KQ List.head? v_
      simpa using z
     .have z:=KQ List.tail v_
      rw[OQ] at z
      rw[z];exact h2
  simp only[Ky] at hz
  refine Lm F.entry_set_update_loop ?_
  rw[Lb MS _]
  show wpAny _ A.in1 (pyNext (.ref it)>>=_) _ _ s
  refine JL (MU hit hl hx λh' hit' G_=>?_)
  have Tb:h'.SetOf (strKind prog w) d (λk=>decide (k∈σ)) σ.length:=by
   obtain⟨o,es,ep,tb,ho,r⟩:=hd;exact⟨o,es,ep,tb,G_.extBut d o Tq ho,r⟩
  refine JL (La ?_)
  unfold setAdd
  refine La (JL ((strKind prog w).pyHash (k:=x) (strKind_is _ _ _ _) ?_))
  refine wpAny_setAddHashed_of (knd:=strKind prog w) (s:={s with heap:=h',toks:=s.toks+1}) (strKind_is _ _ _ _) rfl Tb (by unfold scanBound;lia) λOh r_ Yc=>?_
  have hS3:Oh.SetOf (strKind prog w) d (λk=>decide (k∈cj σ x)) (cj σ x).length:=by
   refine SetOf_congr Yc (λk=>?_) ?_
   .rw[Kw];simp [yr]
   .unfold cj;by_cases h:x∈σ
    .rw[if_pos (by simpa using h),if_pos h]
    .rw[if_neg (by simpa using h),if_neg h,JG];rfl
  have kp:∀b o,b≠d->b≠it->s.heap.get? b=some o->Oh.get? b=some o:=λb o hb1 OH e=>(r_.2 b hb1).trans (G_.extBut b o OH e)
  have hle:=um σ x
  refine JW ⟨LO MS _,?_⟩
  refine ih (i+1) _ (cj σ x) R ?_ ?_ OA hS3 (by lia) (λh3 tk k3 d3=>hR h3 tk (λb o e1 e2 e=>k3 b o e1 e2 (kp b o e1 e2 e)) d3)
  .exact hit'.at λo e=>(r_.2 it (Lw Tq)).trans e
  .obtain⟨ol,I_,r⟩:=hl
   exact⟨ol,kp l ol Ya X_ I_,r⟩
end
section
variable {prog:Program} {w:World} {A:Around} {E:Value->Shared->Prop}
set_option maxHeartbeats 3200000 in
theorem lM {l:Addr}{items:List Value}{o:Obj}{n:Nat}{ss:List Str}{s:Shared}{Q:Value->Shared->Prop}(hh:A.handled=none)(ho:s.heap.get? l=some o)(hc:o.cls= .type "list")(M':o.data= .seq items.toArray n)(hz:ss.length<1000)(hp:StrsAre items ss)
  (h:∀h' tk,h'.SetOf (strKind prog w) s.heap.objs.size (λk=>decide (k∈ij ss)) (ij ss).length->(∀b o,s.heap.get? b=some o->h'.get? b=some o)->Q (.ref s.heap.objs.size) {s with heap:=h',toks:=tk}):
  wpAny (model prog w) A (call (.type "set") [.ref l]) Q E s:=by
 obtain⟨c1,c2,c3⟩:=Mv.mro
 have c4:=Mv.made;have c5:=Mv.sub;have c6:=Mv.notType;have c7:=Mv.canCreate;have c8:=F.typeCall_set_1 (.ref l)
 refine wpAny_call (codeAny_of_tree (show wpAny _ _ (callAny (.type "set") _) _ _ _ from JW ⟨Code.quiet_builtin _ (by decide+kernel),Lm F.entry_type_call ?_⟩))
 rw[Around.under_plain (weight_type_call_type "set" [Value.ref l] []) rfl]
 repeat(any_goals first|assumption|wp_step)
 refine Nz (code_set_new_1 (E:=E) (.ref l) (Q₁:=λob st=>∃led:Bool,ob= .ref s.heap.objs.size/\st={s with heap:=s.heap.push {cls:= .type "set",dict:=none,data:= .set #[] 0 (.fresh 0 0 led)}}) λled=>⟨led,rfl,rfl⟩) λr1 C_ hr1=>?_
 match r1,hr1 with
 | .error _,hr1=>exact hr1
 | .ok .next,hr1=>exact hr1.elim
 | .ok .brk,hr1=>exact hr1.elim
 | .ok .cont,hr1=>exact hr1.elim
 | .ok (.ret ob),hr1=>
  obtain⟨led,rfl,rfl⟩:=hr1
  have WS:(s.heap.push {cls:= .type "set",dict:=none,data:= .set #[] 0 (.fresh 0 0 led)}).get? s.heap.objs.size=some {cls:= .type "set",dict:=none,data:= .set #[] 0 (.fresh 0 0 led)}:=JY _ rfl
  have Qz:(s.heap.push {cls:= .type "set",dict:=none,data:= .set #[] 0 (.fresh 0 0 led)}).get? l=some o:=JI _ ho
  have Vi:l≠s.heap.objs.size:=JV (JR ho)
  generalize hP:s.heap.push {cls:= .type "set",dict:=none,data:= .set #[] 0 (.fresh 0 0 led)}=OA at WS Qz
  have c9:Shared.TypeIs {s with heap:=OA} (.ref s.heap.objs.size) "set":=⟨_,WS,rfl⟩
  have c10:=Mv.init.lookup;have c11:=Mv.init.bind (.ref s.heap.objs.size)
  repeat(any_goals first|assumption|wp_step)
  refine Nz (codeAny_call_builtin (R:=wants (λr st=>r= .none/\∃h2 Ss,st={s with heap:=h2,toks:=Ss}/\h2.SetOf (strKind prog w) s.heap.objs.size (λk=>decide (k∈ij ss)) (ij ss).length/\(∀b o,s.heap.get? b=some o->h2.get? b=some o)) E) Mv.init.plain F.entry_set_init (check_set_init_1 c9 ?_)) λr2 C' hr2=>?_
  .obtain⟨k1,k2,k3,k4⟩:=o
   dsimp only at hc M'
   subst hc M'
   have d1:=F.sub_list_set;have d2:=F.sub_list_frozenset;have d3:(Value.type "list"==Value.type "dict")=false:=by decide
   have Q_:OA.IsList l items.toArray:=⟨_,Qz,rfl,n,rfl⟩
   unfold Builtin.«set.__init__» noKeywords Builtin.Frozenset.updateFrom
   generalize hPI:pyIter=PI
   wp_walk
   subst hPI
   refine Mw Q_ (JL (wpAny_runValue ?_))
   have hsz:s.heap.objs.size<OA.objs.size:=JR WS
   refine xJ (l:=l) (items:=items) (A:=A.in1.in1) (by simpa using hh) (JV hsz) (JV (JR Qz)) Vi ss 0 _ [] _ ⟨_,JY _ rfl,rfl,rfl⟩ (Q_.push _) (by rw[NF];exact hp) ?_ (by simpa using(show ss.length<2000 by lia)) λh3 tk3 Uw d3'=>?_
   .have hg:(OA.push {cls:= .type "list_iterator",data:= .fields #[.ref l,.int 0 0]}).get? s.heap.objs.size=some {cls:= .type "set",dict:=none,data:= .set #[] 0 (.fresh 0 0 led)}:=JI _ WS
    exact SetOf_congr ((setObjOf_fresh (knd:=strKind prog w) led).setOf hg (by unfold scanBound;lia)) (λ_=>by simp) rfl
   .show wpAny _ _ _ _ _ _
    refine JW (show wpAny _ _ (ret Value.none) _ _ _ from JW ⟨rfl,h3,tk3,rfl,d3',λb ob e=>?_⟩)
    have e1:OA.get? b=some ob:=by rw[←hP];exact JI _ e
    exact Uw b ob (JV (JR e)) (JV (JR e1)) (JI _ e1)
  .match r2,hr2 with
   | .error _,hr2=>exact hr2
   | .ok .next,hr2=>exact hr2.elim
   | .ok .brk,hr2=>exact hr2.elim
   | .ok .cont,hr2=>exact hr2.elim
   | .ok (.ret r),hr2=>
    obtain⟨rfl,h2,Ss,rfl,Yc,Tr⟩:=hr2
    repeat(any_goals first|assumption|wp_step)
    exact h _ _ Yc Tr
end
def dq (a:Addr)(n:Nat)(h:Heap):Prop:=∃o es ep t,h.get? a=some o/\o.ExactSet/\o.data= .set es ep t/\t.fits es.size=true/\es.size=n
theorem vB {P:Program}{w:World}{H:Hp}{h:Heap}{a:Addr}{n:Nat}(x:dq a n h):ObjOk P w H h a (.ext (dq a n)):=by grind [dq,ObjOk]
theorem nv:∀{ss:List Str} {us:List Value},Vals (ss.map V.str) us->StrsAre us ss
 |[],_,.nil=> .nil
 |x::r,_,.cons h t=> .cons h (nv t)
section
variable {X:Cx}
def BQ (K:Qe):List V->Hp->VK->Prop:=λxs H Q=>∃(p:Addr) (ss:List Str),xs=[.ref p]/\SqL K H p (ss.map V.str)/\ss.length<1000/\∀l,H l=none->Q (.ref l) (p5 H l (.ext (dq l (ij ss).length)))
theorem wc (hc:X.calm=true):CallR X (.type "set") (BQ X.K):=by
 intro pins s σ H xs us Q I r h;obtain⟨p,ss,rfl,hq,hz,q⟩:=h;obtain⟨u,rfl,ru⟩:=R5 r;cases ru;obtain⟨a_,rv,⟨o,n,e,c,hd,dt⟩,_⟩:=I.list hq;refine lM (I.ok.hd hc) e c dt hz (nv rv) λh' tk hS k=>?_;refine⟨.ref s.heap.objs.size,_,?_,rfl,q _ (I.hok.fresh (JA _))⟩;obtain⟨o',es,ep,t,h1,h2,h3,_,_,_,h7,h8⟩:=hS;exact I.laid (a:=s.heap.objs.size) (t':=tk) k (JA _) (vB ⟨o',es,ep,t,h1,h2,h3,h7,h8⟩)
def BS (K:Qe):List V->Hp->VK->Prop:=λxs H Q=>tm K xs H Q\/∃p n,xs=[V.ref p]/\H p=some (.ext (dq p n))/\n<=1000/\Q (.int n) H
theorem call_lenS:CallR X (.builtin "len") (BS X.K):=by
 refine call_lenX.or ?_;intro pins s σ H xs us Q I r h;obtain⟨p,n,rfl,hp,hn,q⟩:=h;obtain⟨u,rfl,ru⟩:=R5 r;cases ru;obtain⟨o,es,ep,t,h1,h2,h3,h4,h5⟩:=(I.hok p _ hp).1;exact call_len_set h1 h2 h3 h4 (by lia) ⟨.int n,H,I.tok _,⟨_,by rw[h5]⟩,q⟩
theorem GR (K:Qe)(hc:X.calm=true)(h:X.K=K:=by rfl):CallR X (.type "set") (BQ K):=h▸wc hc
end
open PySem.AutoSeq1 (wpAny_loadPart')
open PySem.MeetsSeq PySem.MeetsSeq2 PySem.MeetsSeq3
theorem qN:plainId "list.__eq__.loop"=true:=plain_eq_loop
section
variable {P:Program} {w:World}
theorem qb (l m:Addr)(xs ys:Array Value)(n1 n2:Nat)(d1 d2:Option Addr)(s1 s2:Array (Option Value))(hz:xs.size=ys.size)(f:Nat->Bool)(md:Int)(Ux:md=2\/md=3):∀(k i:Nat),xs.size -i=k->
  MeetsIn P w (Builtin.«list.__eq__.loop» ⟨[.ref l,.ref m,rawInt i,rawInt md],[]⟩) (λA R s=>
   s.heap.get? l=some {cls:= .type "list",dict:=d1,data:= .seq xs n1,slots:=s1}/\s.heap.get? m=some {cls:= .type "list",dict:=d2,data:= .seq ys n2,slots:=s2}/\
   (∀j (g1:j<xs.size) (g2:j<ys.size),EqP P w A.in1 s xs[j] ys[j] (f j))/\
   R (.ok (.ret (.bool (if md=2 then((List.range xs.size).drop i).all f else !((List.range xs.size).drop i).all f)))) s):=by
 intro k
 induction k with
 |zero=>
  intro i hk
  intro A R s hyp
  obtain⟨hp,gg,dr,tk,os⟩:=s
  obtain⟨e1,e2,he,fin⟩:=hyp
  have x1:xs[((i:Nat):Int).toNat]?=none:=by simp;lia
  have x2:ys[((i:Nat):Int).toNat]?=none:=by simp;lia
  have x3:(List.range xs.size).drop i=[]:=by simp;lia
  rw[x3] at fin
  rcases Ux with rfl|rfl
  .wp_walk using wpAny_loadPart' e1,wpAny_loadPart' e2
   rw[x1,x2]
   wp_walk using wpAny_loadPart' e1,wpAny_loadPart' e2
   show R (.ok (.ret (.bool (xs.size==ys.size)))) _
   rw[hz];simpa using fin
  .wp_walk using wpAny_loadPart' e1,wpAny_loadPart' e2
   rw[x1,x2]
   wp_walk using wpAny_loadPart' e1,wpAny_loadPart' e2
   show R (.ok (.ret (.bool (xs.size !=ys.size)))) _
   rw[hz];simpa using fin
 |succ k ih=>
  intro i hk
  intro A R s hyp
  have ih:=ih (i+1) (by lia)
  obtain⟨hp,gg,dr,tk,os⟩:=s
  obtain⟨e1,e2,he,fin⟩:=hyp
  have l1:i<xs.size:=by lia
  have l2:i<ys.size:=by lia
  have x1:xs[((i:Nat):Int).toNat]?=some xs[i]:=by simp [l1]
  have x2:ys[((i:Nat):Int).toNat]?=some ys[i]:=by simp [l2]
  have x3:(List.range xs.size).drop i=i::(List.range xs.size).drop (i+1):=by simp [KY,l1]
  have x4:((i:Int)+1)=((i+1:Nat):Int):=by push_cast;rfl
  rw[x3,Mb] at fin
  rcases Ux with rfl|rfl
  .wp_walk using wpAny_loadPart' e1,wpAny_loadPart' e2
   rw[x1,x2]
   refine JL (he i l1 l2 _ _ ?_)
   cases hf:f i with
   |true=>
    rw[hf] at fin
    wp_walk
    rw[x4]
    refine⟨LO qN _,Lm NS ?_⟩
    rw[Lb qN _]
    exact ih A R _ ⟨e1,e2,he,by simpa using fin⟩
   |false=>
    rw[hf] at fin
    wp_walk using wpAny_loadPart' e1,wpAny_loadPart' e2
    rw[x1,x2]
    wp_walk
    simpa using fin
  .wp_walk using wpAny_loadPart' e1,wpAny_loadPart' e2
   rw[x1,x2]
   refine JL (he i l1 l2 _ _ ?_)
   cases hf:f i with
   |true=>
    rw[hf] at fin
    wp_walk
    rw[x4]
    refine⟨LO qN _,Lm NS ?_⟩
    rw[Lb qN _]
    exact ih A R _ ⟨e1,e2,he,by simpa using fin⟩
   |false=>
    rw[hf] at fin
    wp_walk using wpAny_loadPart' e1,wpAny_loadPart' e2
    rw[x1,x2]
    wp_walk
    simpa using fin
theorem EA (l m:Addr)(xs ys:Array Value)(n1 n2:Nat)(d1 d2:Option Addr)(s1 s2:Array (Option Value))(hz:xs.size=ys.size)(f:Nat->Bool):
  MeetsIn P w (Builtin.«list.__eq__» ⟨[.ref l,.ref m],[]⟩) (λA R s=>
   s.heap.get? l=some {cls:= .type "list",dict:=d1,data:= .seq xs n1,slots:=s1}/\s.heap.get? m=some {cls:= .type "list",dict:=d2,data:= .seq ys n2,slots:=s2}/\
   (∀j (g1:j<xs.size) (g2:j<ys.size),EqP P w A.in1 s xs[j] ys[j] (f j))/\R (.ok (.ret (.bool ((List.range xs.size).all f)))) s):=by
 intro A R s hyp
 obtain⟨hp,gg,dr,tk,os⟩:=s
 obtain⟨e1,e2,he,fin⟩:=hyp
 have q1:=MW;have q2:¬(xs.size !=ys.size)=true:=by simp [hz]
 wp_walk using wpAny_loadPart' e1,wpAny_loadPart' e2
 refine⟨LO qN _,Lm NS ?_⟩
 rw[Lb qN _]
 exact qb l m xs ys n1 n2 d1 d2 s1 s2 hz f 2 (.inl rfl) _ 0 rfl A R _ ⟨e1,e2,he,by simpa using fin⟩
theorem Eh (l m:Addr)(xs ys:Array Value)(n1 n2:Nat)(d1 d2:Option Addr)(s1 s2:Array (Option Value))(hz:xs.size=ys.size)(f:Nat->Bool):
  MeetsIn P w (Builtin.«list.__ne__» ⟨[.ref l,.ref m],[]⟩) (λA R s=>
   s.heap.get? l=some {cls:= .type "list",dict:=d1,data:= .seq xs n1,slots:=s1}/\s.heap.get? m=some {cls:= .type "list",dict:=d2,data:= .seq ys n2,slots:=s2}/\
   (∀j (g1:j<xs.size) (g2:j<ys.size),EqP P w A.in1 s xs[j] ys[j] (f j))/\R (.ok (.ret (.bool (!(List.range xs.size).all f)))) s):=by
 intro A R s hyp
 obtain⟨hp,gg,dr,tk,os⟩:=s
 obtain⟨e1,e2,he,fin⟩:=hyp
 have q1:=MW;have q2:¬(xs.size !=ys.size)=true:=by simp [hz]
 wp_walk using wpAny_loadPart' e1,wpAny_loadPart' e2
 refine⟨LO qN _,Lm NS ?_⟩
 rw[Lb qN _]
 exact qb l m xs ys n1 n2 d1 d2 s1 s2 hz f 3 (.inr rfl) _ 0 rfl A R _ ⟨e1,e2,he,by simpa using fin⟩
theorem RcP.lst {A:Around}{s:Shared}{l m:Addr}{xs ys:Array Value}{f:Nat->Bool}(hl:s.heap.IsList l xs)(hm:s.heap.IsList m ys)(hz:xs.size=ys.size)(hu:A.units<cLine)
  (he:∀j (g1:j<xs.size) (g2:j<ys.size),EqP P w A.in1 s xs[j] ys[j] (f j)):RcP P w A s (.ref l) (.ref m) ((List.range xs.size).all f):=λE Q q=>by
 obtain⟨⟨c1,d1,a1,s1⟩,o1,k1,n1,t1⟩:=id hl
 obtain⟨⟨c2,d2,a2,s2⟩,o2,k2,n2,t2⟩:=id hm
 simp only at k1 t1 k2 t2
 subst k1 t1 k2 t2
 refine Lu (op:= .Eq) ⟨_,o1,rfl⟩ ⟨_,o2,rfl⟩ OJ (Ll OJ ⟨_,o1,rfl⟩ PySem.F.entry_list_eq (PySem.F.args_list_eq_2 _ _) (EA l m xs ys n1 n2 d1 d2 s1 s2 hz f) ⟨o1,o2,he,?_⟩) hu
 exact⟨(λz=>nomatch z),q⟩
theorem NcP.lst {A:Around}{s:Shared}{l m:Addr}{xs ys:Array Value}{f:Nat->Bool}(hl:s.heap.IsList l xs)(hm:s.heap.IsList m ys)(hz:xs.size=ys.size)(hu:A.units<cLine)
  (he:∀j (g1:j<xs.size) (g2:j<ys.size),EqP P w A.in1 s xs[j] ys[j] (f j)):NcP P w A s (.ref l) (.ref m) (!(List.range xs.size).all f):=λE Q q=>by
 obtain⟨⟨c1,d1,a1,s1⟩,o1,k1,n1,t1⟩:=id hl
 obtain⟨⟨c2,d2,a2,s2⟩,o2,k2,n2,t2⟩:=id hm
 simp only at k1 t1 k2 t2
 subst k1 t1 k2 t2
 refine Lu (op:= .NotEq) ⟨_,o1,rfl⟩ ⟨_,o2,rfl⟩ MB (Ll MB ⟨_,o1,rfl⟩ Oz (Og _ _) (Eh l m xs ys n1 n2 d1 d2 s1 s2 hz f) ⟨o1,o2,he,?_⟩) hu
 exact⟨(λz=>nomatch z),q⟩
end
def EqN (K:Qe)(H:Hp):Nat->V->V->Bool->Prop
 |0,x,y,b=>Eq1 K H x y b\/∃a c,x= .ref a/\y= .ref c/\EqD K H a c b
 |n+1,x,y,b=>EqN K H n x y b\/∃(a c:Addr) (xs ys:List V) (bs:List Bool),x= .ref a/\y= .ref c/\a≠c/\((SqT K H a xs/\SqT K H c ys)\/(SqL K H a xs/\SqL K H c ys))/\xs.length=ys.length/\bs.length=xs.length/\
   (∀(j:Nat) (x' y':V) (b':Bool),xs[j]?=some x'->ys[j]?=some y'->bs[j]?=some b'->EqN K H n x' y' b')/\b=bs.all id
theorem N9:∀(bs:List Bool),(List.range bs.length).all (λj=>bs.getD j true)=bs.all id
 |[]=>rfl
 |b::r=>by
  rw[Ky,MV,Mb,LJ];show(b&&(List.range r.length).all λj=>r.getD j true)=(b&&r.all id);rw[N9 r]
section
variable {X:Cx} {pins:List (Addr×Obj)} {σ:St} {H:Hp} {s:Shared}
theorem iz {n:Nat}{xs ys:List V}{bs:List Bool}{us vs:List Value}{A:Around}(r1:Vals xs us)(r2:Vals ys vs)(hl:xs.length=ys.length)(hb:bs.length=xs.length)
  (he:∀(j:Nat) (x' y':V) (b':Bool),xs[j]?=some x'->ys[j]?=some y'->bs[j]?=some b'->EqN X.K H n x' y' b')
  (at_:∀{x y:V} {u v:Value} {b:Bool},EqN X.K H n x y b->RelV x u->RelV y v->EqP X.prog X.w A.in1 s u v b):
  ∀j (g1:j<us.toArray.size) (g2:j<vs.toArray.size),EqP X.prog X.w A.in1 s us.toArray[j] vs.toArray[j] (bs.getD j true):=λj g1 g2=>by
 have l1:=r1.length
 have l2:=r2.length
 have O_:j<us.length:=by simpa using g1
 have Pj:j<vs.length:=by simpa using g2
 have x1:xs[j]?=some (xs[j]'(by lia)):=Jy _
 have y1:ys[j]?=some (ys[j]'(by lia)):=Jy _
 have b1:bs[j]?=some (bs[j]'(by lia)):=Jy _
 obtain⟨u1,Qy,Ql⟩:=r1.get x1
 obtain⟨u2,Om,Qm⟩:=r2.get y1
 have e1:us.toArray[j]=u1:=by
  have:=Jy O_;rw[Qy] at this;simpa using(JU this).symm
 have e2:vs.toArray[j]=u2:=by
  have:=Jy Pj;rw[Om] at this;simpa using(JU this).symm
 rw[e1,e2,Kh,b1]
 exact at_ (he j _ _ _ x1 y1 b1) Ql Qm
theorem EqN.at_ (I:Inv X pins σ H s):∀{n:Nat} {A:Around} {x y:V} {u v:Value} {b:Bool},EqN X.K H n x y b->RelV x u->RelV y v->A.units+32+n<cLine->EqP X.prog X.w A s u v b:=by
 intro n;induction n with
 |zero=>
  intro A x y u v b h rx ry hu
  rcases h with h|⟨a,c,rfl,rfl,h⟩
  .exact .of (h.at_ I rx ry (by lia))
  .cases rx
   cases ry
   exact h.at_ I (by lia)
 |succ n ih=>
  intro A x y u v b h rx ry hu
  rcases h with h|⟨a,c,xs,ys,bs,rfl,rfl,q_,hh,hl,hb,he,rfl⟩
  .exact ih h rx ry (by lia)
  .cases rx
   cases ry
   have j_:A.in1.units=A.units+1:=rfl
   rcases hh with⟨h1,h2⟩|⟨h1,h2⟩
   .obtain⟨us,r1,p1,z1⟩:=I.tuple h1
    obtain⟨vs,r2,p2,z2⟩:=I.tuple h2
    have l1:=r1.length
    have l2:=r2.length
    have q:=RcP.tup (P:=X.prog) (w:=X.w) (A:=A) (f:=λj=>bs.getD j true) (show s.heap.IsTuple a us.toArray from p1) (show s.heap.IsTuple c vs.toArray from p2) (by lia) (iz r1 r2 hl hb he λz q1 q2=>ih z q1 q2 (by lia))
    have e3:min us.toArray.size vs.toArray.size=bs.length:=by simp;lia
    have e4:(us.toArray.size==vs.toArray.size)=true:=by simp;lia
    rw[e3,e4,N9,MR] at q
    exact .refs q_ q
   .obtain⟨us,r1,p1,z1⟩:=I.list h1
    obtain⟨vs,r2,p2,z2⟩:=I.list h2
    have l1:=r1.length
    have l2:=r2.length
    have q:=RcP.lst (P:=X.prog) (w:=X.w) (A:=A) (f:=λj=>bs.getD j true) p1.isList p2.isList (by simp;lia) (by lia) (iz r1 r2 hl hb he λz q1 q2=>ih z q1 q2 (by lia))
    have e3:us.toArray.size=bs.length:=by simp;lia
    rw[e3,N9] at q
    exact .refs q_ q
end
def Hq (K:Qe)(H:Hp)(x y:V)(bs:List Bool):Prop:=∃(a c:Addr) (xs ys:List V),x= .ref a/\y= .ref c/\((SqT K H a xs/\SqT K H c ys)\/(SqL K H a xs/\SqL K H c ys))/\xs.length=ys.length/\bs.length=xs.length/\
 ∀(j:Nat) (x' y':V) (b':Bool),xs[j]?=some x'->ys[j]?=some y'->bs[j]?=some b'->EqN K H 8 x' y' b'
section
variable {X:Cx}
def Fh (K:Qe):R2:=λx y H Q=>∃bs,Hq K H x y bs/\Q (.bl (bs.all id)) H
def Gb (K:Qe):R2:=λx y H Q=>∃bs,Hq K H x y bs/\Q (.bl (!bs.all id)) H
theorem CF (hu:X.A.units+64<cLine):OpR X (compareOp .Eq) (Fh X.K):=by
 intro pins s σ H x y v u Q I rx ry h;obtain⟨bs,⟨a,c,xs,ys,rfl,rfl,hh,hl,hb,he⟩,k⟩:=h;cases rx;cases ry;have j_:X.A.in1.units=X.A.units+1:=rfl;rcases hh with⟨h1,h2⟩|⟨h1,h2⟩
 .obtain⟨us,r1,p1,z1⟩:=I.tuple h1;obtain⟨vs,r2,p2,z2⟩:=I.tuple h2;have l1:=r1.length;have l2:=r2.length;have q:=RcP.tup (P:=X.prog) (w:=X.w) (A:=X.A) (f:=λj=>bs.getD j true) (show s.heap.IsTuple a us.toArray from p1) (show s.heap.IsTuple c vs.toArray from p2) (by lia) (iz r1 r2 hl hb he λz q1 q2=>EqN.at_ I z q1 q2 (by lia));have e3:min us.toArray.size vs.toArray.size=bs.length:=by simp;lia
  have e4:(us.toArray.size==vs.toArray.size)=true:=by simp;lia
  rw[e3,e4,N9,MR] at q;exact q _ _ ⟨.bl _,H,I,rfl,k⟩
 .obtain⟨us,r1,p1,z1⟩:=I.list h1;obtain⟨vs,r2,p2,z2⟩:=I.list h2;have l1:=r1.length;have l2:=r2.length;have q:=RcP.lst (P:=X.prog) (w:=X.w) (A:=X.A) (f:=λj=>bs.getD j true) p1.isList p2.isList (by simp;lia) (by lia) (iz r1 r2 hl hb he λz q1 q2=>EqN.at_ I z q1 q2 (by lia));have e3:us.toArray.size=bs.length:=by simp;lia
  rw[e3,N9] at q;exact q _ _ ⟨.bl _,H,I,rfl,k⟩
theorem Eu (hu:X.A.units+64<cLine):OpR X (compareOp .NotEq) (Gb X.K):=by
 intro pins s σ H x y v u Q I rx ry h;obtain⟨bs,⟨a,c,xs,ys,rfl,rfl,hh,hl,hb,he⟩,k⟩:=h;cases rx;cases ry;have j_:X.A.in1.units=X.A.units+1:=rfl;rcases hh with⟨h1,h2⟩|⟨h1,h2⟩
 .obtain⟨us,r1,p1,z1⟩:=I.tuple h1;obtain⟨vs,r2,p2,z2⟩:=I.tuple h2;have l1:=r1.length;have l2:=r2.length;have q:=NcP.tup (P:=X.prog) (w:=X.w) (A:=X.A) (f:=λj=>bs.getD j true) (show s.heap.IsTuple a us.toArray from p1) (show s.heap.IsTuple c vs.toArray from p2) (by lia) (iz r1 r2 hl hb he λz q1 q2=>EqN.at_ I z q1 q2 (by lia));have e3:min us.toArray.size vs.toArray.size=bs.length:=by simp;lia
  have e4:(us.toArray.size==vs.toArray.size)=true:=by simp;lia
  rw[e3,e4,N9,MR] at q;exact q _ _ ⟨.bl _,H,I,rfl,k⟩
 .obtain⟨us,r1,p1,z1⟩:=I.list h1;obtain⟨vs,r2,p2,z2⟩:=I.list h2;have l1:=r1.length;have l2:=r2.length;have q:=NcP.lst (P:=X.prog) (w:=X.w) (A:=X.A) (f:=λj=>bs.getD j true) p1.isList p2.isList (by simp;lia) (by lia) (iz r1 r2 hl hb he λz q1 q2=>EqN.at_ I z q1 q2 (by lia));have e3:us.toArray.size=bs.length:=by simp;lia
  rw[e3,N9] at q;exact q _ _ ⟨.bl _,H,I,rfl,k⟩
def rR (K:Qe):R2:=λx y H Q=>BB K x y H Q\/Gb K x y H Q
theorem bz (K:Qe){k:Nat}(hr:Room k X.A)(h:X.K=K:=by rfl):OpR X (compareOp .NotEq) (rR K):=(HY K hr h).or (h▸Eu hr.units)
def jC (K:Qe):R2:=λx y H Q=>CQ K x y H Q\/Fh K x y H Q
theorem V3 (K:Qe){k:Nat}(hr:Room k X.A)(h:X.K=K:=by rfl):OpR X (compareOp .Eq) (jC K):=(HP K hr h).or (h▸CF hr.units)
end
def lZ (v d:Addr)(h:Heap):Prop:=h.IsValuesView v d
theorem Bd {P:Program}{w:World}{H:Hp}{h:Heap}{v d:Addr}(x:lZ v d h):ObjOk P w H h v (.ext (lZ v d)):=by
 obtain⟨o,e,r⟩:=x;exact⟨⟨o,e,r⟩,⟨o,e⟩,λh1 h2 ⟨o',e',r'⟩ k=>⟨o',k _ e',r'⟩⟩
section
variable {X:Cx}
def AE:V->List V->Hp->VK->Prop:=λx vs H Q=>∃d kvs,x= .ref d/\vs=[]/\Rd H d (.dK kvs)/\∀v,H v=none->Q (.ref v) (p5 H v (.ext (lZ v d)))
theorem Q6:xl X "dict.values" AE:=by
 intro pins s σ H x vs v us Q I rx rv h;obtain⟨d,kvs,rfl,rfl,hd,q⟩:=h;cases rx;have Ti:=rv.zero;subst Ti;obtain⟨z,hs,ws,rel,dd⟩:=X1 I.hok hd;refine Ll LA dd.typeIs PySem.F.entry_dict_values (PySem.F.args_dict_values_1 _) (meets_dict_values (p4 X.prog X.w) d hs) ⟨⟨ws,dd⟩,?_⟩;refine⟨.ref s.heap.objs.size,_,?_,rfl,q _ (I.hok.fresh (JA _))⟩;exact I.laid (a:=s.heap.objs.size) (t':=s.toks) (λb u e=>JI _ e) (JA _) (Bd ⟨_,JY _ rfl,rfl,rfl⟩)
def tN (K:Qe):List V->Hp->VK->Prop:=λxs H Q=>BR K xs H Q\/∃(v d:Addr) (kvs:List (j0×V)),xs=[.ref v]/\H v=some (.ext (lZ v d))/\Rd H d (.dK kvs)/\∀l,H l=none->Q (.ref l) (p5 H l (.lst (kvs.map (·.2))))
theorem tJ (hc:X.calm=true):CallR X (.type "list") (tN X.K):=by
 refine(sd hc).or ?_;intro pins s σ H xs us Q I r h;obtain⟨v,d,kvs,rfl,hv,hx,q⟩:=h;obtain⟨u,rfl,ru⟩:=R5 r;cases ru;have hvv:lZ v d s.heap:=(I.hok v _ hv).1;obtain⟨hd,o,vs,ep,ho,D⟩:=fQ I.hok hx;have L_:=KV.length D.kv;have hz:kvs.length<=sizeLine:=(X1 I.hok hx).1;refine PySem.W.kdl_call (PySem.W.kdl_values (knd:=p4 X.prog X.w) (kvs:=vs) (ep:=ep)) (I.ok.hd hc) ⟨hvv,D.at_ _ ho⟩ (by lia) λh' tk acc c hkp hS z_=>?_;refine⟨.ref s.heap.objs.size,_,I.newL (tk:=tk) hkp (JA _) hS (aI (by have:=z_.1;simp;lia) λi x u e1 e2=>?_) (by rw[Jx];exact hz),rfl,q _ (I.hok.fresh (JA _))⟩;obtain⟨k,hy⟩:=z_.2 i u (by rw[←Mq];exact e2);rw[JC] at e1;obtain⟨kv,e4,rfl⟩:=Kd.mp e1;obtain⟨q1,Uy,q2,q3⟩:=L8 (show Paired _ kvs vs from D.kv) e4;rw[hy] at Uy;cases Uy;exact q3
theorem pB (K:Qe)(hc:X.calm=true)(h:X.K=K:=by rfl):CallR X (.type "list") (tN K):=h▸tJ hc
end
section
variable {K:Qe} {H:Hp} {Q:VK}
theorem aE {v d:Addr}{kvs:List (j0×V)}(hv:H v=some (.ext (lZ v d)))(hd:Rd H d (.dK kvs))(q:∀l,H l=none->Q (.ref l) (p5 H l (.lst (kvs.map (·.2))))):tN K [.ref v] H Q:= .inr ⟨v,d,kvs,rfl,hv,hd,q⟩
end
section
variable {prog:Program} {w:World} {A:Around} {E:Value->Shared->Prop}
end
section
variable {X:Cx}
end
section
variable {prog:Program} {w:World} {A:Around} {E:Value->Shared->Prop} {s:Shared}
theorem vA {Q:Int->Shared->Prop}(h:Q 0xFCA86420 {s with toks:=s.toks+1}):wpAny (model prog w) A (pyHash .none) Q E s:=by
 have hT:s.TypeIs Value.none "NoneType":=rfl;unfold pyHash pyHashByItsType;refine JL ?_;rw[cRoomFor,if_neg (show ¬([Value.none].any Value.onHeap)=true by decide)];refine JW (JL (wpAny_specialOf hT LM.lookup ?_));refine(show wpAny _ _ (if(some (Value.builtin "NoneType.__hash__")==some Value.none)=true then _ else _) Q E s from ?_);rw[if_neg (by decide)];refine JL (wpAny_specialOf hT LM.lookup ?_);refine(show wpAny _ _ (callSpecialIfBoundUnlessNone? Value.none "__hash__" _>>=_) Q E s from ?_);refine JL (wpAny_callSpecialIfBoundUnlessNone?_slot hT LM (MD LM hT PySem.F.entry_NoneType_hash (show wpAny _ _ (do ret (←mkInt 0xFCA86420)) _ _ s from wpAny_ret_mkInt ?_) (PySem.F.args_NoneType_hash_1 _)));refine(show wpAny _ _ (if(decide (-(2:Int) ^ 63<=0xFCA86420)&&decide ((0xFCA86420:Int)<2 ^ 63))=true then _ else _) Q E _ from ?_);rw[if_pos (by decide)];exact JW h
end
abbrev me:=Option j0
def IU:me->Value->Bool
 |none,.none=>true
 |none,_=>false
 |some k,v=>eK k v
theorem X7:∀{k:me} {v:Value},IU k v=true->(k=none/\v=Value.none)\/(∃i t,k=some (Sum.inl i)/\v=Value.int i t)\/(∃x t,k=some (Sum.inr x)/\v=Value.str x t)
 |none,v,h=>by cases v<;>first|exact .inl ⟨rfl,rfl⟩|cases h
 |some k,v,h=>by
  rcases D6 (show eK k v=true from h) with⟨i,t,rfl,rfl⟩|⟨x,t,rfl,rfl⟩
  .exact .inr (.inl ⟨i,t,rfl,rfl⟩)
  .exact .inr (.inr ⟨x,t,rfl,rfl⟩)
def Hh (w:World):me->Int
 |none=>0xFCA86420
 |some k=>GS w k
def gB (prog:Program)(w:World):PySem.KeyKind prog w me where
 is:=IU
 hash:=Hh w
 inj:=λv a b ha hb=>by
  rcases X7 ha with⟨rfl,rfl⟩|⟨i,t,rfl,rfl⟩|⟨x,t,rfl,rfl⟩<;>rcases X7 hb with⟨rfl,e⟩|⟨j,u,rfl,e⟩|⟨y,u,rfl,e⟩<;>first|rfl|(cases e<;>rfl)
 byValue:=λk v h=>by
  rcases X7 h with⟨rfl,rfl⟩|⟨i,t,rfl,rfl⟩|⟨x,t,rfl,rfl⟩<;>rfl
 pyHash:=λhv h=>by
  rcases X7 hv with⟨rfl,rfl⟩|⟨i,t,rfl,rfl⟩|⟨x,t,rfl,rfl⟩
  .exact vA h
  .exact wpAny_pyHash_int h
  .exact wpAny_pyHash_str h
 eqBool:=fun{A E s a b u v Q} hu hv h=>by
  have dk:∀{k k':j0},decide ((some k:me)=some k')=decide (k=k'):=fun{k k'}=>by
   by_cases e:k=k'
   .subst e;simp
   .rw[Kf e,Kf λz=>e (JU z)]
  rcases X7 hu with⟨rfl,rfl⟩|⟨i,t,rfl,rfl⟩|⟨x,t,rfl,rfl⟩<;>rcases X7 hv with⟨rfl,rfl⟩|⟨j,t',rfl,rfl⟩|⟨y,t',rfl,rfl⟩
  .exact Mp _ _ _ _ _ (by simpa using h)
  .exact SeqAt.EqAt.none_int j t' _ _ _ _ (by simpa using h)
  .exact SeqAt.EqAt.none_str y t' _ _ _ _ (by simpa using h)
  .exact SeqAt.EqAt.int_none i t _ _ _ _ (by simpa using h)
  .rw[dk,xY] at h;exact wpAny_eqBool_int h
  .rw[dk,zB] at h;exact Nw i t y t' _ _ _ _ h
  .exact SeqAt.EqAt.str_none x t _ _ _ _ (by simpa using h)
  .rw[dk,yJ] at h;exact Nx x t j t' _ _ _ _ h
  .rw[dk,zg] at h;exact wpAny_eqBool_str h
 «strs»:=λk x t v h=>by
  rcases X7 h with⟨rfl,e⟩|⟨i,u,rfl,e⟩|⟨y,u,rfl,e⟩
  .exact nomatch e
  .exact nomatch e
  .injection e with e1 _
   subst e1;cases v<;>rfl
def bJ (P:Program)(w:World)(a:Addr)(n:Nat)(h:Heap):Prop:=(a==sysModules)=false/\∃vs,h.DictOf (gB P w) a vs/\vs.length=n
theorem tS {P P':Program}{w w':World}{H:Hp}{h:Heap}{a:Addr}{n:Nat}(x:bJ P w a n h):ObjOk P' w' H h a (.ext (bJ P w a n)):=by
 obtain⟨hs,vs,⟨o,es,ep,e,r⟩,hl⟩:=x;exact⟨⟨hs,vs,⟨o,es,ep,e,r⟩,hl⟩,⟨o,e⟩,λh1 h2 ⟨G_,vs',⟨o',Tc,U',e',r'⟩,Sg⟩ k=>⟨G_,vs',⟨o',Tc,U',k _ e',r'⟩,Sg⟩⟩
theorem kz {P:Program}{w:World}:∀{es:List DictEntry} {vs:List (j0×Value)},Pairs (p4 P w) es vs->Pairs (gB P w) es (vs.map λx=>(some x.1,x.2))
 |_,_,.nil=> .nil
 |_,_,.cons h e t=> .cons h e (kz t)
theorem Aq {P:Program}{w:World}{h:Heap}{a:Addr}{vs:List (j0×Value)}(dd:h.DictOf (p4 P w) a vs):h.DictOf (gB P w) a (vs.map λx=>(some x.1,x.2)):=by
 obtain⟨o,es,ep,h1,h2,h3,h4,h5,h6⟩:=dd;refine⟨o,es,ep,h1,h2,h3,λe he=>?_,kz h5,?_⟩
 .obtain⟨k,q1,q2⟩:=h4 e he;exact⟨some k,q1,q2⟩
 .rw[Km];have e:((λx:me×Value=>x.1)∘λx:j0×Value=>((some x.1:me),x.2))=(λk:j0=>(some k:me))∘λx:j0×Value=>x.1:=rfl;rw[e,←Km];exact My _ (λa b h z=>h (JU z)) h6
theorem tH {vs:List (j0×Value)}{v:Value}:stored (vs.map λx=>((some x.1:me),x.2)) none v=(vs.map λx=>((some x.1:me),x.2))++[(none,v)]:=by
 unfold stored;rw[if_neg];intro z;obtain⟨x,hx,e⟩:=LC.mp z;obtain⟨y,_,rfl⟩:=Jz.mp hx;cases KW e
section
variable {X:Cx}
def qO (P:Program)(w:World):ud:=λo i v H Q=>vf o i v H Q\/∃a kvs,o= .ref a/\i= .non/\H a=some (.dK kvs)/\kvs.length<1000/\Q (p5 H a (.ext (bJ P w a (kvs.length+1))))
theorem xO (hu:X.A.units+1<cLine):xg X (qO X.prog X.w):=by
 intro pins s σ H o i v ov iv u Q I ro ri rv h;rcases h with h|⟨a,kvs,rfl,rfl,hA,hl,q⟩
 .exact AG hu pins s σ H o i v ov iv u Q I ro ri rv h
 .cases ro;cases ri;obtain⟨z,hd,vs,rel,dd⟩:=uH I.hok hA;have L_:=rel.length;refine wpAny_setItem_pairs (knd:=gB X.prog X.w) (k:=none) (hsz:=by rw[Jx];lia) rfl (Aq dd) λh' dd' hs=>?_;rw[tH] at dd';have he:∃q,h'.get? a=some q:=let ⟨q,_,_,hq,_⟩:=dd';⟨q,hq⟩
  exact⟨_,dS I (by rw[hA];exact True.intro) hs he (tS ⟨hd,_,dd',by rw[JG,Jx,L_];rfl⟩),q⟩
def mV (K:Qe)(P:Program)(w:World):List V->Hp->VK->Prop:=λxs H Q=>BS K xs H Q\/∃p n,xs=[V.ref p]/\H p=some (.ext (bJ P w p n))/\n<=1000/\Q (.int n) H
theorem wx:CallR X (.builtin "len") (mV X.K X.prog X.w):=by
 refine call_lenS.or ?_;intro pins s σ H xs us Q I r h;obtain⟨p,n,rfl,hp,hn,q⟩:=h;obtain⟨u,rfl,ru⟩:=R5 r;cases ru;obtain⟨hs,vs,dd,hl⟩:=(I.hok p _ hp).1;refine call_len_dict hs dd (by lia) ?_;rw[hl];exact⟨.int n,H,I.tok _,⟨_,rfl⟩,q⟩
theorem FL (K:Qe)(h:X.K=K:=by rfl):CallR X (.builtin "len") (mV K X.prog X.w):=h▸wx
def uR (K:Qe)(P:Program)(w:World):List V->Hp->VK->Prop:=λxs H Q=>BL K xs H Q\/∃p n T,xs=[V.ref p,.ty T]/\H p=some (.ext (bJ P w p n))/\(T="str"\/T="int"\/T="bool"\/T="list"\/T="tuple"\/T="dict")/\Q (.bl (ig "dict" T)) H
theorem wI:CallR X (.builtin "isinstance") (uR X.K X.prog X.w):=by
 refine call_isi.or ?_;intro pins s σ H xs us Q I r h;obtain⟨p,n,T,rfl,hp,hT,q⟩:=h;obtain⟨u,c,rfl,rx,rc⟩:=bu r;cases rx;cases rc;obtain⟨hs,vs,⟨o,es,ep,h1,h2,r⟩,hl⟩:=(I.hok p _ hp).1;exact LK Pz I.kIn ⟨o,h1,h2.1⟩ (aH (by simp) hT) (λz=>nomatch z) λtk=>⟨.bl _,H,I.tok tk,rfl,q⟩
theorem Fi (K:Qe)(h:X.K=K:=by rfl):CallR X (.builtin "isinstance") (uR K X.prog X.w):=h▸wI
end
section
variable {K:Qe} {P:Program} {w:World} {H:Hp} {Q:VK}
theorem E4 {xs:List V}(h:tm K xs H Q):mV K P w xs H Q:= .inl (.inl h)
theorem mO {p:Addr}{n:Nat}(h:H p=some (.ext (dq p n)))(hn:n<=1000)(q:Q (.int n) H):mV K P w [.ref p] H Q:= .inl (.inr ⟨p,n,rfl,h,hn,q⟩)
theorem Ah {p:Addr}{n:Nat}(h:H p=some (.ext (bJ P w p n)))(hn:n<=1000)(q:Q (.int n) H):mV K P w [.ref p] H Q:= .inr ⟨p,n,rfl,h,hn,q⟩
theorem eE {xs:List V}(h:BL K xs H Q):uR K P w xs H Q:= .inl h
theorem O9 {o i v:V}{Qh:Hp->Prop}(h:vf o i v H Qh):qO P w o i v H Qh:= .inl h
theorem lQ {x y:V}(h:lB K x y H Q):jC K x y H Q:= .inl (HG h)
theorem yA {i j:Int}(q:Q (.bl (decide (i=j))) H):jC K (.int i) (.int j) H Q:=lQ (yZ q)
theorem gn {i j:Str}(q:Q (.bl (decide (i=j))) H):jC K (.str i) (.str j) H Q:=lQ (zw q)
theorem xS {x y:V}(h:su K x y H Q):rR K x y H Q:= .inl (HW h)
theorem qu {i j:Int}(q:Q (.bl (!decide (i=j))) H):rR K (.int i) (.int j) H Q:= .inl (yV q)
end
theorem iO {X:Cx}(K:Qe)(P:Program)(w:World)(h:X.K=K:=by rfl)(hp:X.prog=P:=by rfl)(hw:X.w=w:=by rfl):CallR X (.builtin "isinstance") (uR K P w):=by subst hp hw;exact Fi K h
theorem E5 {X:Cx}(K:Qe)(P:Program)(w:World)(h:X.K=K:=by rfl)(hp:X.prog=P:=by rfl)(hw:X.w=w:=by rfl):CallR X (.builtin "len") (mV K P w):=by subst hp hw;exact FL K h
theorem z9 {X:Cx}(P:Program)(w:World)(hu:X.A.units+1<cLine)(hp:X.prog=P:=by rfl)(hw:X.w=w:=by rfl):xg X (qO P w):=by subst hp hw;exact xO hu
section
variable {X:Cx} {a b:Expr} {ta:TA} {x y:Str} {pos:Pos}
end
section
variable {σ:St} {H:Hp} {nx:St->Hp->Prop} {rt:VK} {bk ct:St->Hp->Prop} {ta:TA}
end
section
variable {P:Program} {w:World}
theorem vX {K:Qe}{tg:Expr}{d:Addr}{o:Obj}{kvs:List (j0×V)}{vs:List (j0×Value)}{ep:Nat}(D:zK P w d o kvs vs ep)(it:Addr):
  ir P w K tg (Hs d o kvs λkv=>kv.2) [it] it (λi h=>h.IsValIter it d i vs.length ep) where
 mem:=by simp
 obj:=λi h st b hb=>by
  have e:b=it:=by simpa using hb
  subst e;obtain⟨o,e,c,dd⟩:=st;exact⟨o,e,λv z=>by rw[dd] at z;cases z⟩
 keep:=λi h h' st k=>let ⟨o,e,r⟩:=st;⟨o,k it (by simp) o e,r⟩
 item:=by
  intro X hP hw hK hc i pins s σ H E I hf st hg;subst hP hw hK;obtain⟨Ro,hi⟩:=hg;obtain⟨f0,f1,f2,f3,f4,f5⟩:=hf it (by simp);have dat:=D.at_ s.heap (I.hok d _ Ro).1;have hl:=KV.length D.kv;obtain⟨kv,f_⟩:∃kv,kvs[i]?=some kv:=⟨kvs[i],by simp [hi]⟩
  obtain⟨⟨k,x⟩,hx⟩:∃p,vs[i]?=some p:=⟨vs[i]'(by lia),by simp [show i<vs.length by lia]⟩
  obtain⟨RW,rx⟩:kv.1=k/\RelV kv.2 x:=by
   have q:=L8 D.kv f_;obtain⟨p,hp,r⟩:=q;rw[hx] at hp;cases hp;exact r
  refine wpAny_pyNext_values_item st dat hx λh' p_ G_=>?_;have I1:Inv X pins σ H {s with heap:=h'}:=I.turned (t':=s.toks) (λb o hb e=>G_.extBut b o hb e) f0 f1 f3 f4 f5;obtain⟨oo,e,c,dd⟩:=id p_;exact⟨x,rfl,pW (s:={s with heap:=h'}) e c dd (by decide) ⟨kv.2,H,I1,rx,⟨rfl,kv,f_,rfl⟩,p_,λb hb=>(hf b hb).1⟩⟩
 done:=by
  intro X hP hw hK hc i pins s σ H E I hf st hg;subst hP hw hK;obtain⟨Ro,hi⟩:=hg;obtain⟨f0,f1,f2,f3,f4,f5⟩:=hf it (by simp);have dat:=D.at_ s.heap (I.hok d _ Ro).1;have hl:=KV.length D.kv;exact wpAny_pyNext_values_end (I.ok.hd hc) st dat (by simp;lia) λh' eb=>⟨rfl,I.turned (t':=s.toks) (λb o hb e=>eb b o hb e) f0 f1 f3 f4 f5⟩
 self:=λ_ _ _ _ _ st h=>wpAny_pyIter_valiter st h
end
section
variable {X:Cx} {tg:Expr}
abbrev IT (d:Addr)(o:Obj)(kvs:List (j0×V)):It:=Hs d o kvs λkv=>kv.2
def oM (tl:TE):pR:=λσ H R=>tl σ H λv H1=>rIterD IT v H1 R
theorem vF {o:Expr}{tl:TE}{apos b_:Pos}(ho:PE X o tl)
  (h_:attributeBase o "values" X.env (eval o X.env)=eval o X.env:=by rfl) (i_:(apos.endLine==b_.line)=true:=by rfl):
  xr X tg (.Call (.Attribute o "values" apos) [] [] b_) (oM tl):=by
 intro pins s σ H R I h
 refine MO h_ i_ (P0 (ho pins s σ H _ I h) λv s1 ⟨x,H1,I1,r1,q1⟩=>?_)
 obtain⟨d,kvs,ob,vs,ep,th,H',rfl,hd,O',D,I2,Qx,q⟩:=rIterD.go I1 r1 q1
 have So:=(D.at_ _ O').dictOf
 refine⟨"dict","dict.values",F.plainAttrs_dict,F.slot_dict_values,F.type_dict_values,So.typeIs,So.mapOf.noDict,Lv rfl (Nm ?_)⟩
 refine Ll F.slot_dict_values So.typeIs F.entry_dict_values (F.args_dict_values_1 _) (meets_dict_values (p4 X.prog X.w) d hd) ⟨⟨vs,So⟩,?_⟩
 have I3:Inv X pins σ H' {s1 with heap:=s1.heap.push {cls:= .type "dict_values",data:= .fields #[.ref d]}}:=I2.kept (t':=s1.toks) λb o e=>JI _ e
 refine wpAny_pyIter_values (s:={s1 with heap:=s1.heap.push {cls:= .type "dict_values",data:= .fields #[.ref d]}}) (knd:=p4 X.prog X.w) ⟨_,JY _ rfl,rfl,rfl⟩ (D.at_ _ (JI _ O')) ?_
 generalize hG:s1.heap.push {cls:= .type "dict_values",data:= .fields #[.ref d]}=G at I3⊢
 refine⟨G.objs.size,[G.objs.size],_,_,H',rfl,I3.kept (t':=s1.toks) λb o e=>JI _ e,vX D _,⟨_,JY _ rfl,rfl,rfl⟩,λb hb=>?_,th,Qx,q⟩
 have e:b=G.objs.size:=by simpa using hb
 subst e
 exact I3.fpOk (JA _) (I3.hok.fresh (JA _))
theorem Ab {tg o:Expr}{to:TE}{apos b_:Pos}(ho:QE X o to)
  (h_:attributeBase o "values" X.env (eval o X.env)=eval o X.env:=by rfl) (i_:(apos.endLine==b_.line)=true:=by rfl):QI X tg (.Call (.Attribute o "values" apos) [] [] b_) (oM to):=⟨vF ho.r h_ i_⟩
theorem vJ {tl:TE}{σ:St}{H:Hp}{R:It->(Hp->Hp)->Hp->Prop}(q:tl σ H λv H1=>rIterD IT v H1 R):oM tl σ H R:=q
end
section
variable {J:It} {th:Hp->Hp} {n:Nat} {g:TG} {tb:TS} {nx:L2.St->Hp->Prop} {rt:VK} {σ:L2.St} {H:Hp}
theorem CS (Pv:Nat->L2.St->Hp->Prop)(h0:Pv 0 σ H)(Qk:∀i σ H,i<n->Pv i σ H->J.go i H)
  (hs:∀(bk:L2.St->Hp->Prop) i x σ H H',i<n->Pv i σ H->J.yld i H x H'->g x σ H' λσ2 H2=>tb ⟨Pv (i+1),λv H=>rt v (th H),bk,Pv (i+1)⟩ σ2 H2)
  (hd:∀σ H,Pv n σ H->J.stop n H/\nx σ (th H)):vZ J th g tb nx rt σ H:=sf Pv h0 Qk (hs λσ H=>nx σ (th H)) hd
end
section
variable {prog:Program} {w:World} {A:Around} {E:Value->Shared->Prop} {s:Shared}
end
theorem iQ {α β:Type}{F:α->β->Prop}:∀{l:List α} {m:List β} {b:β},Paired F l m->b∈m->∃a∈l,F a b
 |_,_,_,.cons r t,h=>by
  rcases Kl.mp h with e|e
  .exact⟨_,JT,e▸r⟩
  .obtain⟨a,h1,h2⟩:=iQ t e;exact⟨a,JZ _ h1,h2⟩
section
variable {X:Cx}
end
section
variable {K:Qe} {P:Program} {w:World} {H:Hp} {Q:VK} {σ:L2.St}
end
def CY:Value->V
 | .none=> .non
 | .bool b=> .bl b
 | .int i _=> .int i
 | .str x _=> .str x
 | .bytes b _=> .byt b
 | .float b _=> .flt b
 | .ref a=> .ref a
 | .type n=> .ty n
 |_=> .non
theorem yU {v:V}{u:Value}(r:RelV v u):CY u=v:=by grind [cases V,RelV,CY]
theorem GL {f:V->Bool}:∀{xs:List V} {us:List Value},Vals xs us->us.countP (f∘CY)=xs.countP f
 |_,_,.nil=>rfl
 |_,_,.cons r t=>by rw[NX,NX,GL t,Function.comp,yU r]
section
variable {X:Cx}
end
def Ae (K:Qe)(a:Addr)(xs:List V):It:=
 ⟨λi H=>SqL K H a xs/\i<xs.length,λi H x H'=>H'=H/\xs[xs.length -1 -i]?=some x,λi _=>i=xs.length⟩
theorem zo {P:Program}{w:World}{K:Qe}{tg:Expr}(a it:Addr)(xs:List V):ir P w K tg (Ae K a xs) [it] it (λi h=>h.IsRevIter it a ((xs.length:Int) -1 -(i:Int))) where
 mem:=by simp
 obj:=λi h st b hb=>by
  have e:b=it:=by simpa using hb
  subst e;obtain⟨o,e,c,d⟩:=st;exact⟨o,e,λv z=>by rw[d] at z;cases z⟩
 keep:=λi h h' st k=>st.at λo e=>k it (by simp) o e
 item:=by
  intro X hP hw hK hc i pins s σ H E I hf st hg;subst hP hw hK;obtain⟨hq,hi⟩:=hg;obtain⟨a_,rv,p,hz⟩:=I.list hq;have hj:xs.length -1 -i<xs.length:=by lia
  obtain⟨u,hu,ru⟩:=rv.get (Jy hj);obtain⟨f0,f1,f2,f3,f4,f5⟩:=hf it (by simp);have C_:s.heap.IsRevIter it a ((xs.length -1 -i:Nat):Int):=by
   have e:((xs.length -1 -i:Nat):Int)=(xs.length:Int) -1 -(i:Int):=by lia
   rw[e];exact st
  refine wpAny_pyNext_rev_item C_ p.isList (x:=u) (by simpa using hu) λh' p_ sb=>?_;have I1:Inv X pins σ H {s with heap:=h'}:=I.turned (t':=s.toks) (λb o hb e=>(sb.2 b hb).trans e) f0 f1 f3 f4 f5;obtain⟨o,e,c,d⟩:=id p_;have C':h'.IsRevIter it a ((xs.length:Int) -1 -((i+1:Nat):Int)):=by
   have e:(xs.length:Int) -1 -((i+1:Nat):Int)=((xs.length -1 -i:Nat):Int) -1:=by lia
   rw[e];exact p_
  exact⟨u,rfl,pW (s:={s with heap:=h'}) e c d (by decide) ⟨_,H,I1,ru,⟨rfl,Jy hj⟩,C',λb hb=>(hf b hb).1⟩⟩
 done:=by
  intro X hP hw hK hc i pins s σ H E I hf st hg;subst hP hw hK;have hg':i=xs.length:=hg;obtain⟨f0,f1,f2,f3,f4,f5⟩:=hf it (by simp);have C_:s.heap.IsRevIter it a (-1):=by
   have e:(-1:Int)=(xs.length:Int) -1 -(i:Int):=by lia
   rw[e];exact st
  exact wpAny_pyNext_rev_end (I.ok.hd hc) C_ λh' eb=>⟨rfl,I.turned (t':=s.toks) (λb o hb e=>eb b o hb e) f0 f1 f3 f4 f5⟩
 self:=λ_ _ _ _ _ st h=>wpAny_pyIter_revIter st h
section
variable {X:Cx} {a:Expr} {t:TA} {p pos:Pos} {tg:Expr}
def Dg (K:Qe)(ta:TA):pR:=λσ H R=>ta σ H λvs H1=>∃l xs,vs=[.ref l]/\SqL K H1 l xs/\R (Ae K l xs) id H1
theorem CA (hg:Gl X "reversed")(hm:X.mg "reversed"=none)(ha:PA X [a] t)(hs:starEach [a] X.env=[(false,eval a X.env)]):xr X tg (.Call (.Name "reversed" p) [a] [] pos) (Dg X.K t):=by
 intro pins s σ H R I h;refine Call_ (cy I hg hm Boot.«reversed» (Lh (P0 (ha pos pins s σ H _ I h) λus s1 ⟨vs,H1,I1,r1,q1⟩=>?_) hs rfl));obtain⟨l,xs,e,hq,q⟩:=q1;subst e;obtain⟨u,rfl,ru⟩:=R5 r1;cases ru;obtain⟨a_,rv,pl,hz⟩:=I1.list hq;have hl:=rv.length;refine call_reversed_list pl.isList ?_;have I2:Inv X pins σ H1 {s1 with heap:=s1.heap.push (revObj l ((a_.toArray.size:Int) -1))}:=I1.kept (t':=s1.toks) λb o e=>JI _ e;have st:(s1.heap.push (revObj l ((a_.toArray.size:Int) -1))).IsRevIter s1.heap.objs.size l ((xs.length:Int) -1 -((0:Nat):Int)):=by
  refine⟨_,JY _ rfl,rfl,?_⟩;show Data.fields #[.ref l,rawInt ((a_.toArray.size:Int) -1)]=_;rw[show(a_.toArray.size:Int) -1=(xs.length:Int) -1 -((0:Nat):Int) by rw[Kc];lia]
 refine wpAny_pyIter_revIter (s:={s1 with heap:=s1.heap.push (revObj l ((a_.toArray.size:Int) -1))}) st ?_;refine⟨s1.heap.objs.size,[s1.heap.objs.size],_,_,H1,rfl,I2,zo l _ xs,st,λb hb=>?_,id,gz,q⟩;have e:b=s1.heap.objs.size:=by simpa using hb
 subst e;exact I1.fpOk (JA _) (I1.hok.fresh (JA _))
theorem rn (K:Qe)(hm:X.mg "reversed"=none)(ha:QA X [a] t)(hg:Gl X "reversed":=by rfl)(h:B7 a=true:=by rfl)(hK:X.K=K:=by rfl):QI X tg (.Call (.Name "reversed" p) [a] [] pos) (Dg K t):=
 ⟨hK▸CA hg hm ha.r (Y9 h)⟩
end
section
variable {K:Qe} {σ:L2.St} {H:Hp} {ta:TA} {R:It->(Hp->Hp)->Hp->Prop}
theorem Gw (q:ta σ H λvs H1=>∃l xs,vs=[V.ref l]/\SqL K H1 l xs/\R (Ae K l xs) id H1):Dg K ta σ H R:=q
end
abbrev mi (h:Heap)(z TI TO:Addr)(f0:Value)(b:Bool):Prop:=h.get? z=some {cls:= .type "zip",dict:=none,data:= .fields #[f0,.bool b,.bool false,.ref TI,.ref TO],slots:= #[]}
section
variable {prog:Program} {w:World} {A:Around} {E:Value->Shared->Prop} {s:Shared}
theorem qp {z TI TO T:Addr}{b:Bool}{ot:Obj}{Q:Bool->Shared->Prop}(hz:mi s.heap z TI TO (rawInt T) b)(hT:s.heap.get? T=some ot)
  (hQ:∀h',mi h' z TI TO (rawInt T) true->Heap.SameBut z s.heap h'->Q false {s with heap:=h'}):wpAny (model prog w) A (Builtin.SmallTypes.ownedTupleIsFree (.ref z)) Q E s:=by
 unfold Builtin.SmallTypes.ownedTupleIsFree
 refine JL (Mo hz rfl (x:=rawInt T) rfl ?_)
 refine JL (PySem.W.kdx_alive (show s.heap.get? ((T:Int).toNat)=some ot by rw[Pu];exact hT) ?_)
 rw[if_neg (by simp)]
 refine JL (Mo hz rfl (x:= .bool b) rfl ?_)
 cases b with
 |true=>
  rw[if_neg (by decide)]
  exact JW (hQ s.heap hz (Heap.SameBut.refl _ _))
 |false=>
  rw[if_pos (by decide)]
  exact JL (wpAny_setField_rec hz (by simp) λh' g' s'=>JW (hQ h' g' s'))
theorem vv {z TI TO T i1 i2 l1 l2:Addr}{k1 k2:Nat}{b:Bool}{ot:Obj}{xs ys:Array Value}{x y:Value}{Q:Option Value->Shared->Prop}(D:ZipApart z TI TO i1 i2 l1 l2)
  (hz:mi s.heap z TI TO (rawInt T) b) (Yd:s.heap.get? T=some ot) (Uz:IsPair s.heap TI (.ref i1) (.ref i2))
  (h1:s.heap.IsListIter i1 l1 k1) (h2:s.heap.IsListIter i2 l2 k2) (Q_:s.heap.IsList l1 xs) (Rj:s.heap.IsList l2 ys) (hx:xs[k1]?=some x) (hy:ys[k2]?=some y)
  (hQ:∀h',mi h' z TI TO (rawInt T) true->h'.IsListIter i1 l1 (k1+1)->h'.IsListIter i2 l2 (k2+1)->IsPair h' s.heap.objs.size x y->
   (∀c o,c≠z->c≠i1->c≠i2->s.heap.get? c=some o->h'.get? c=some o)->Q (some (.ref s.heap.objs.size)) {s with heap:=h'}):wpAny (model prog w) A (pyNext (.ref z)) Q E s:=by
 have hT:s.TypeIs (.ref z) "zip":=⟨_,hz,rfl⟩
 unfold pyNext
 refine JL (wpAny_attempt (MN (name:=Str.ofString "__next__") hT Nq (MD Nq hT F.entry_zip_next ?_ (F.args_zip_next_1 _))))
 show wpAny (model prog w) _ (field (.ref z) 2>>=_) _ _ _
 refine JL (Mo hz rfl (x:= .bool false) rfl ?_)
 show wpAny (model prog w) _ (field (.ref z) 3>>=_) _ _ _
 refine JL (Mo hz rfl (x:= .ref TI) rfl (JL (ND Uz rfl ?_)))
 show wpAny (model prog w) _ (Builtin.SmallTypes.ownedTupleIsFree (.ref z)>>=_) _ _ _
 refine JL (qp hz Yd λk1' g1 s1=>?_)
 rw[if_neg (by decide)]
 dsimp only
 refine JL ?_
 rw[←Po]
 simp only[Ou,List.forIn_nil]
 refine JL (JL (La ?_))
 show wpAny (model prog w) _ (Builtin.SmallTypes.nextOf (.ref i1)>>=_) _ _ _
 refine JL (MX (h1.extBut s1.extBut D.i1z) (Q_.extBut s1.extBut D.l1z) hx λk2' g2 s2=>JW (JW ?_))
 refine JL (JL (La ?_))
 show wpAny (model prog w) _ (Builtin.SmallTypes.nextOf (.ref i2)>>=_) _ _ _
 refine JL (MX ((h2.extBut s1.extBut D.i2z).extBut s2.extBut D.i12.symm) ((Rj.extBut s1.extBut D.l2z).extBut s2.extBut D.l2i1) hy λUw g3 s3=>JW (JW (JW ?_)))
 have sz:Uw.objs.size=s.heap.objs.size:=by rw[s3.1,s2.1,s1.1]
 have up:∀c o,c≠z->c≠i1->c≠i2->s.heap.get? c=some o->Uw.get? c=some o:=λc o c1 c2 c3 e=>s3.extBut _ _ c3 (s2.extBut _ _ c2 (s1.extBut _ _ c1 e))
 refine JL (wpAny_newTuple (JW ⟨_,rfl,?_⟩) (by show 2<=sizeLine;decide))
 refine JW ?_
 show Q (some (.ref Uw.objs.size)) _
 rw[sz]
 refine hQ _ (JI _ (s3.extBut _ _ D.i2z.symm (s2.extBut _ _ D.i1z.symm g1))) ((g2.extBut s3.extBut D.i12).at λo e=>JI _ e) (g3.at λo e=>JI _ e) ?_ λc o c1 c2 c3 e=>JI _ (up c o c1 c2 c3 e)
 rw[←sz]
 exact JY _ rfl
theorem yP {z TI TO T i1 i2 l1 l2:Addr}{k1 k2:Nat}{b:Bool}{ot:Obj}{xs ys:Array Value}{Q:Option Value->Shared->Prop}(hh:A.handled=none)(D:ZipApart z TI TO i1 i2 l1 l2)
  (hz:mi s.heap z TI TO (rawInt T) b) (Yd:s.heap.get? T=some ot) (Uz:IsPair s.heap TI (.ref i1) (.ref i2))
  (h1:s.heap.IsListIter i1 l1 k1) (h2:s.heap.IsListIter i2 l2 k2) (Q_:s.heap.IsList l1 xs) (Rj:s.heap.IsList l2 ys) (QB:xs[k1]?=none\/ys[k2]?=none)
  (hQ:∀h',(∀c o,c≠z->c≠i1->c≠i2->s.heap.get? c=some o->h'.get? c=some o)->Q none {s with heap:=h'}):wpAny (model prog w) A (pyNext (.ref z)) Q E s:=by
 have hT:s.TypeIs (.ref z) "zip":=⟨_,hz,rfl⟩
 unfold pyNext
 refine JL (wpAny_attempt (MN (name:=Str.ofString "__next__") hT Nq (MD Nq hT F.entry_zip_next ?_ (F.args_zip_next_1 _))))
 show wpAny (model prog w) _ (field (.ref z) 2>>=_) _ _ _
 refine JL (Mo hz rfl (x:= .bool false) rfl ?_)
 show wpAny (model prog w) _ (field (.ref z) 3>>=_) _ _ _
 refine JL (Mo hz rfl (x:= .ref TI) rfl (JL (ND Uz rfl ?_)))
 show wpAny (model prog w) _ (Builtin.SmallTypes.ownedTupleIsFree (.ref z)>>=_) _ _ _
 refine JL (qp hz Yd λk1' g1 s1=>?_)
 rw[if_neg (by decide)]
 dsimp only
 refine JL ?_
 rw[←Po]
 simp only[Ou,List.forIn_nil]
 refine JL (JL (La ?_))
 show wpAny (model prog w) _ (Builtin.SmallTypes.nextOf (.ref i1)>>=_) _ _ _
 cases hx:xs[k1]? with
 |none=>
  refine JL (wpAny_nextOf_list_end hh (h1.extBut s1.extBut D.i1z) (Q_.extBut s1.extBut D.l1z) hx λk2' e s2 he=>?_)
  obtain⟨oe,Ye,Yf⟩:=he
  exact JL (wpAny_isInstance (T:="StopIteration") (b:=true) ⟨oe,Ye,Yf⟩ isSubtype_stop (JW (hQ _ λc o c1 c2 c3 x=>s2 _ _ c2 (s1.extBut _ _ c1 x))))
 |some x=>
  have hy:ys[k2]?=none:=by
   rcases QB with h|h
   .rw[hx] at h;cases h
   .exact h
  refine JL (MX (h1.extBut s1.extBut D.i1z) (Q_.extBut s1.extBut D.l1z) hx λk2' g2 s2=>JW (JW ?_))
  refine JL (JL (La ?_))
  show wpAny (model prog w) _ (Builtin.SmallTypes.nextOf (.ref i2)>>=_) _ _ _
  refine JL (wpAny_nextOf_list_end hh ((h2.extBut s1.extBut D.i2z).extBut s2.extBut D.i12.symm) ((Rj.extBut s1.extBut D.l2z).extBut s2.extBut D.l2i1) hy λUw e s3 he=>?_)
  obtain⟨oe,Ye,Yf⟩:=he
  exact JL (wpAny_isInstance (T:="StopIteration") (b:=true) ⟨oe,Ye,Yf⟩ isSubtype_stop (JW (hQ _ λc o c1 c2 c3 x=>s3 _ _ c3 (s2.extBut _ _ c2 (s1.extBut _ _ c1 x)))))
end
theorem qe:typeLookup (.type "zip") "keys"=pure none:=by rw[Oy,Ng];kernel_rfl
theorem vk:typeLookup (.type "zip") "__getattr__"=pure none:=by rw[Oy,Ng];kernel_rfl
section
variable {prog:Program} {w:World} {A:Around} {E:Value->Shared->Prop} {s:Shared}
theorem zO (a:Addr)(fs:Array Value)(u:Tok):Meets (Builtin.«object.__getattribute__» ⟨[.ref a,.str "keys" u],[]⟩) (λA R s=>s.heap.get? a=some {cls:= .type "zip",dict:=none,data:= .fields fs,slots:= #[]}/\raisesAttr (.ref a) "keys" A R s):=
 Meets.of_wp λprog w A R s hs=>by
  obtain⟨hp,g,d,tk,os⟩:=s;obtain⟨hx,hs⟩:=hs;have hT:(⟨hp,g,d,tk,os⟩:Shared).TypeIs (.ref a) "zip":=⟨_,hx,rfl⟩
  have hmiss:=qe;unfold Builtin.«object.__getattribute__»;repeat(any_goals (first|assumption|wp_step))
  exact wpAny_raiseAttrError hs.1 hs.2 (attrMsg_fits (by decide+kernel) (by decide+kernel))
theorem tF:entryFor table "zip.__getattribute__"=some Builtin.«object.__getattribute__»:=entryFor_alias (id':="object.__getattribute__") (by kernel_rfl) (by decide+kernel) (by decide+kernel) (by kernel_rfl)
theorem rU {a:Addr}{fs:Array Value}{Q:Option Value->Shared->Prop}(hx:s.heap.get? a=some {cls:= .type "zip",dict:=none,data:= .fields fs,slots:= #[]})(hA:A.handled=none)
  (h:∀h' tk,(∀b ob,s.heap.get? b=some ob->h'.get? b=some ob)->Q none {s with heap:=h',toks:=tk}):wpAny (model prog w) A (getAttr? (.ref a) "keys") Q E s:=by
 obtain⟨hp,g,d,tk,os⟩:=s
 have hT:∀tk',(⟨hp,g,d,tk',os⟩:Shared).TypeIs (.ref a) "zip":=λ_=>⟨_,hx,rfl⟩
 have f1:=sub_AttributeError
 have f3:=MT.lookup
 have f4:=MT.bind (.ref a)
 have f5:=vk
 unfold getAttr? getAttrBy? getAttrBy
 repeat(any_goals (first|assumption|exact hT _|((with_reducible show wpAny _ _ (call (Value.builtin "zip.__getattribute__") _ _) _ _ _);refine OF MT (hT _) tF (F.args_zip_getattribute_2 _ _) (zO a fs _) ⟨hx,hA,λh' tk' e k_=>?_⟩)|wp_step))
 obtain⟨t',u',he⟩:=k_.there
 show wpAny _ _ (getattributeRaised _ _ _ _ _ _ _) _ _ _
 unfold getattributeRaised
 repeat(any_goals (first|assumption|wp_step))
 exact h _ _ k_.keeps
end
section
variable {prog:Program} {w:World} {A:Around} {E:Value->Shared->Prop} {s:Shared}
structure ZipSt (h:Heap) (d z TI TO i1 i2 l1 l2:Addr) (k:Nat) (xs ys:Array Value):Prop where
 ti:IsPair h TI (.ref i1) (.ref i2)
 a1:h.IsListIter i1 l1 k
 a2:h.IsListIter i2 l2 k
 b1:h.IsList l1 xs
 b2:h.IsList l2 ys
 st:(∃a b,IsZip h z TI TO .none/\IsPair h TO a b)\/∃(T:Addr) (b:Bool) (ot:Obj),mi h z TI TO (rawInt T) b/\h.get? T=some ot/\T≠z/\T≠i1/\T≠i2/\T≠d
structure pv (d z TI TO i1 i2 l1 l2:Addr):Prop where
 z:z≠d
 TI:TI≠d
 TO:TO≠d
 i1:i1≠d
 i2:i2≠d
 l1:l1≠d
 l2:l2≠d
theorem ZipSt.keep {h h':Heap}{d z TI TO i1 i2 l1 l2:Addr}{k:Nat}{xs ys:Array Value}(Z:ZipSt h d z TI TO i1 i2 l1 l2 k xs ys)(O:pv d z TI TO i1 i2 l1 l2)(kp:∀c o,c≠d->h.get? c=some o->h'.get? c=some o):ZipSt h' d z TI TO i1 i2 l1 l2 k xs ys:=by
 refine⟨kp _ _ O.TI Z.ti,Z.a1.at λo e=>kp _ o O.i1 e,Z.a2.at λo e=>kp _ o O.i2 e,?_,?_,?_⟩
 .obtain⟨o,ho,r⟩:=Z.b1;exact⟨o,kp _ _ O.l1 ho,r⟩
 .obtain⟨o,ho,r⟩:=Z.b2;exact⟨o,kp _ _ O.l2 ho,r⟩
 .rcases Z.st with⟨a,b,h1,h2⟩|⟨T,b,ot,h1,h2,h3⟩
  .exact .inl ⟨a,b,kp _ _ O.z h1,kp _ _ O.TO h2⟩
  .exact .inr ⟨T,b,ot,kp _ _ O.z h1,kp _ _ h3.2.2.2 h2,h3⟩
theorem wu {d z TI TO i1 i2 l1 l2:Addr}{k:Nat}{xs ys:Array Value}{x y:Value}{od:Obj}{Q:Option Value->Shared->Prop}(D:ZipApart z TI TO i1 i2 l1 l2)(O:pv d z TI TO i1 i2 l1 l2)(hd:s.heap.get? d=some od)
  (Z:ZipSt s.heap d z TI TO i1 i2 l1 l2 k xs ys) (hx:xs[k]?=some x) (hy:ys[k]?=some y)
  (hQ:∀h',ZipSt h' d z TI TO i1 i2 l1 l2 (k+1) xs ys->IsPair h' s.heap.objs.size x y->(∀c o,c≠z->c≠TO->c≠i1->c≠i2->s.heap.get? c=some o->h'.get? c=some o)->Q (some (.ref s.heap.objs.size)) {s with heap:=h'}):
  wpAny (model prog w) A (pyNext (.ref z)) Q E s:=by
 have lt:∀{c:Addr} {o:Obj},s.heap.get? c=some o->s.heap.objs.size≠c:=fun{c o} e=>Oi (JR e)
 rcases Z.st with⟨a,b,h1,h2⟩|⟨T,b,ot,h1,h2,h3,h4,h5,h6⟩
 .refine wpAny_pyNext_zip_item D h1 Z.ti h2 Z.a1 Z.a2 Z.b1 Z.b2 hx hy λh' q1 q2 q3 q4 q5 q6 q7=>hQ h' ⟨q7 _ _ D.TIz D.TITO D.TIi1 D.TIi2 Z.ti,q3,q4,?_,?_,?_⟩ q5 q7
  .obtain⟨o,ho,r⟩:=Z.b1;exact⟨o,q7 _ _ D.l1z D.l1TO D.l1i1 D.l1i2 ho,r⟩
  .obtain⟨o,ho,r⟩:=Z.b2;exact⟨o,q7 _ _ D.l2z D.l2TO D.l2i1 D.l2i2 ho,r⟩
  .obtain⟨o1,e1,_⟩:=Z.a1
   obtain⟨o2,e2,_⟩:=Z.a2
   exact .inr ⟨_,false,_,q1,q5,lt h1,lt e1,lt e2,lt hd⟩
 .refine vv D h1 h2 Z.ti Z.a1 Z.a2 Z.b1 Z.b2 hx hy λh' q1 q3 q4 q5 q7=>hQ h' ⟨q7 _ _ D.TIz D.TIi1 D.TIi2 Z.ti,q3,q4,?_,?_,.inr ⟨T,true,ot,q1,q7 _ _ h3 h4 h5 h2,h3,h4,h5,h6⟩⟩ q5 λc o c1 _ c3 c4 e=>q7 c o c1 c3 c4 e
  .obtain⟨o,ho,r⟩:=Z.b1;exact⟨o,q7 _ _ D.l1z D.l1i1 D.l1i2 ho,r⟩
  .obtain⟨o,ho,r⟩:=Z.b2;exact⟨o,q7 _ _ D.l2z D.l2i1 D.l2i2 ho,r⟩
theorem xI {d z TI TO i1 i2 l1 l2:Addr}{k:Nat}{xs ys:Array Value}{Q:Option Value->Shared->Prop}(hh:A.handled=none)(D:ZipApart z TI TO i1 i2 l1 l2)
  (Z:ZipSt s.heap d z TI TO i1 i2 l1 l2 k xs ys) (QB:xs[k]?=none\/ys[k]?=none)
  (hQ:∀h',(∀c o,c≠z->c≠TO->c≠i1->c≠i2->s.heap.get? c=some o->h'.get? c=some o)->Q none {s with heap:=h'}):wpAny (model prog w) A (pyNext (.ref z)) Q E s:=by
 rcases Z.st with⟨a,b,h1,h2⟩|⟨T,b,ot,h1,h2,h3,h4,h5,h6⟩
 .exact wpAny_pyNext_zip_end hh D h1 Z.ti h2 Z.a1 Z.a2 Z.b1 Z.b2 QB hQ
 .exact yP hh D h1 h2 Z.ti Z.a1 Z.a2 Z.b1 Z.b2 QB λh' q=>hQ h' λc o c1 _ c3 c4 e=>q c o c1 c3 c4 e
end
section
variable {prog:Program} {w:World} {KT:Type} [DecidableEq KT] {knd:KeyKind prog w KT} {A:Around} {E:Value->Shared->Prop}
def jF (knd:KeyKind prog w KT)(u:Value×Value)(kv:KT×Value):Prop:=knd.is kv.1 u.1=true/\u.2=kv.2
theorem sj {d z TI TO i1 i2 l1 l2:Addr}{xs ys:List Value}{res:Value}(hh:A.handled=none)(D:ZipApart z TI TO i1 i2 l1 l2)(O:pv d z TI TO i1 i2 l1 l2):
  ∀(more:List (KT×Value)) (i:Nat) (s:Shared) (kvs:List (KT×Value)) (R:Result->Shared->Prop),
   ZipSt s.heap d z TI TO i1 i2 l1 l2 i xs.toArray ys.toArray->Paired (jF knd) ((xs.zip ys).drop i) more->s.heap.DictOf knd d kvs->kvs.length+more.length<=sizeLine->
   (∀h' tk,(∀b o,b≠d->b≠z->b≠TO->b≠i1->b≠i2->s.heap.get? b=some o->h'.get? b=some o)->h'.DictOf knd d (more.foldl (λa x=>stored a x.1 x.2) kvs)->R (.ok (.ret res)) {s with heap:=h',toks:=tk})->
   codeAny (model prog w) A (.builtin "dict.update.loop" ⟨[.ref d,.ref z,rawInt (i:Int),res],[]⟩) R s:=by
 intro more
 induction more with
 |nil=>
  intro i s kvs R Z hp hd hz hR
  have QB:xs.toArray[i]?=none\/ys.toArray[i]?=none:=by
   have hn:(xs.zip ys).drop i=[]:=by cases v_:(xs.zip ys).drop i with
    |nil=>rfl
    |cons x r=>rw[v_] at hp;cases hp
   have hl:=Nj.mp hn;rw[Nr] at hl;by_cases h:xs.length<=i
   .exact .inl (by simp;lia)
   .exact .inr (by simp;lia)
  refine Lm V6 ?_
  rw[Lb E8 _]
  show wpAny _ A.in1 (pyNext (.ref z)>>=_) _ _ s
  refine JL (xI (A:=A.in1) hh D Z QB λh' kp=>?_)
  show wpAny _ A.in1 (Builtin.Dict.addKeywords d []>>=_) _ _ _
  refine JL (JW (JW ?_))
  refine hR h' s.toks (λb o _ h1 h2 h3 h4 e=>kp b o h1 h2 h3 h4 e) ?_
  obtain⟨od,es,ep,e,r⟩:=hd
  exact⟨od,es,ep,kp d od (Lw O.z) (Lw O.TO) (Lw O.i1) (Lw O.i2) e,r⟩
 |cons kv more ih=>
  intro i s kvs R Z hp hd hz hR
  obtain⟨x,y,hx,hy,hk,OA⟩:∃x y,xs.toArray[i]?=some x/\ys.toArray[i]?=some y/\jF knd (x,y) kv/\Paired (jF knd) ((xs.zip ys).drop (i+1)) more:=by
   cases v_:(xs.zip ys).drop i with
   |nil=>rw[v_] at hp;cases hp
   |cons u r=>
    rw[v_] at hp
    cases hp with
    |cons h1 h2=>
     have z1:(xs.zip ys)[i]?=some u:=by
      have z:=KQ List.head? v_;simpa using z
     obtain⟨q1,q2⟩:=NG.mp z1
     refine⟨u.1,u.2,by simpa using q1,by simpa using q2,h1,?_⟩
     have z:=KQ List.tail v_
     rw[OQ] at z
     rw[z];exact h2
  obtain⟨A_,hv⟩:=hk
  obtain⟨od,es,ep,eod,rod⟩:=id hd
  refine Lm V6 ?_
  rw[Lb E8 _]
  show wpAny _ A.in1 (pyNext (.ref z)>>=_) _ _ s
  refine JL (wu D O eod Z hx hy λh' Z' hT kp=>?_)
  refine JL (La (JL (wpAny_tryCatch ?_)))
  unfold Builtin.Dict.pairItems
  refine JL (NA (s:={s with heap:=h'}) ⟨_,hT,rfl⟩ ?_)
  rw[if_pos (by decide)]
  refine JL (ND (s:={s with heap:=h'}) hT rfl ?_)
  refine JW ?_
  show wpAny _ A.in1 (holding [x,y] (dictSet d x y)) _ _ _
  have Tb:h'.DictOf knd d kvs:=⟨od,es,ep,kp d od (Lw O.z) (Lw O.TO) (Lw O.i1) (Lw O.i2) eod,rod⟩
  refine La (wpAny_dictSet_pairs (s:={s with heap:=h'}) (kvs:=kvs) A_ Tb (λOh dd r_=>?_) (by simp only[Ky] at hz;lia))
  have kp2:∀b o,b≠d->b≠z->b≠TO->b≠i1->b≠i2->s.heap.get? b=some o->Oh.get? b=some o:=λb o h0 h1 h2 h3 h4 e=>r_.extBut b o h0 (kp b o h1 h2 h3 h4 e)
  refine JW ⟨LO E8 _,?_⟩
  have ey:y=kv.2:=hv
  rw[ey] at dd
  refine ih (i+1) _ (stored kvs kv.1 kv.2) R (Z'.keep O λc o hc e=>r_.extBut c o hc e) OA dd ?_ (λh3 tk k3 d3=>hR h3 tk (λb o h0 h1 h2 h3 h4 e=>k3 b o h0 h1 h2 h3 h4 (kp2 b o h0 h1 h2 h3 h4 e)) d3)
  have z:=stored_length_le kvs kv.1 kv.2
  simp only[Ky] at hz
  lia
end
section
variable {prog:Program} {w:World} {KT:Type} [DecidableEq KT] {knd:KeyKind prog w KT} {A:Around} {E:Value->Shared->Prop}
theorem lU {z TI TO i1 i2 l1 l2:Addr}{xs ys:List Value}{more:List (KT×Value)}{a b:Value}{s:Shared}{Q:Value->Shared->Prop}(hh:A.handled=none)(D:ZipApart z TI TO i1 i2 l1 l2)
  (hz:IsZip s.heap z TI TO .none) (Uz:IsPair s.heap TI (.ref i1) (.ref i2)) (hTO:IsPair s.heap TO a b) (h1:s.heap.IsListIter i1 l1 0) (h2:s.heap.IsListIter i2 l2 0) (Q_:s.heap.IsList l1 xs.toArray) (Rj:s.heap.IsList l2 ys.toArray)
  (hlen:more.length<=sizeLine) (hp:Paired (jF knd) (xs.zip ys) more)
  (h:∀h' tk,h'.DictOf knd s.heap.objs.size (more.foldl (λa x=>stored a x.1 x.2) [])->(∀b o,b≠z->b≠TO->b≠i1->b≠i2->s.heap.get? b=some o->h'.get? b=some o)->Q (.ref s.heap.objs.size) {s with heap:=h',toks:=tk}):
  wpAny (model prog w) A (call (.type "dict") [.ref z]) Q E s:=by
 refine callType_codes (Q₁:=λobj s₁=>obj= .ref s.heap.objs.size/\s₁={s with heap:=s.heap.push {cls:= .type "dict",data:= .dict #[]}}) F.kt_called_dict (F.kt_typeCall_dict_1 _) F.entry_dict_init (kt_code_dict_new _ ⟨rfl,rfl⟩) ?_
 rintro obj s₁ ⟨rfl,rfl⟩
 have F_:(s.heap.push {cls:= .type "dict",data:= .dict #[]}).DictOf knd s.heap.objs.size []:=Oq s.heap
 have ne:∀{c:Addr} {o:Obj},s.heap.get? c=some o->c≠s.heap.objs.size:=fun{c o} e=>JV (JR e)
 obtain⟨o1,e1,r1⟩:=id h1
 obtain⟨o2,e2,r2⟩:=id h2
 obtain⟨o3,e3,r3⟩:=id Q_
 obtain⟨o4,e4,r4⟩:=id Rj
 have O:pv s.heap.objs.size z TI TO i1 i2 l1 l2:=⟨ne hz,ne Uz,ne hTO,ne e1,ne e2,ne e3,ne e4⟩
 refine⟨F_.typeIs,F.args_dict_init_2 _ _,?_⟩
 unfold Builtin.«dict.__init__»
 refine JL ?_
 unfold Builtin.Dict.selfAndRest
 refine JL (Nh F_.typeIs ?_)
 show wpAny _ _ (pure (s.heap.objs.size,[Value.ref z])) _ _ _
 refine JW ?_
 show wpAny _ _ (Builtin.Dict.updateFrom "dict.__init__" s.heap.objs.size (.ref z) [] .none) _ _ _
 unfold Builtin.Dict.updateFrom
 have XY:(s.heap.push {cls:= .type "dict",data:= .dict #[]}).get? z=some _:=JI _ hz
 refine JL (NA (s:={s with heap:=s.heap.push {cls:= .type "dict",data:= .dict #[]}}) ⟨_,XY,rfl⟩ ?_)
 rw[if_pos (by decide)]
 refine JL (rU (s:={s with heap:=s.heap.push {cls:= .type "dict",data:= .dict #[]}}) XY hh λh2 Ss k2=>?_)
 rw[if_pos (show((none:Option Value).isNone)=true from rfl)]
 have up:∀b ob,s.heap.get? b=some ob->h2.get? b=some ob:=λb ob e=>k2 b ob (JI _ e)
 have hd2:h2.DictOf knd s.heap.objs.size []:=let ⟨od,es,ep,e,r⟩:=F_;⟨od,es,ep,k2 _ _ e,r⟩
 refine JL (PX (JL (wpAny_pyIter_zip (f0:= .none) (up _ _ hz) ?_)))
 refine JW ⟨LO E8 _,?_⟩
 refine sj (knd:=knd) (xs:=xs) (ys:=ys) (A:=A.in1) hh D O more 0 _ [] _ ⟨up _ _ Uz,⟨o1,up _ _ e1,r1⟩,⟨o2,up _ _ e2,r2⟩,⟨o3,up _ _ e3,r3⟩,⟨o4,up _ _ e4,r4⟩,.inl ⟨a,b,up _ _ hz,up _ _ hTO⟩⟩ (by rw[NF];exact hp) hd2 (by simpa using hlen) λh3 tk k3 d3=>⟨rfl,h h3 tk d3 λb ob c1 c2 c3 c4 e=>k3 b ob (ne e) c1 c2 c3 c4 (up b ob e)⟩
end
section
variable {X:Cx} {a b:Expr} {t:TA} {p pos p2 QC:Pos}
def HK (K:Qe)(t:TA):TE:=λσ H Q=>t σ H λvs H1=>∃(l m:Addr) (ks:List j0) (ys:List V),vs=[.ref l,.ref m]/\SqL K H1 l (ks.map kV)/\SqL K H1 m ys/\∀d,H1 d=none->Q (.ref d) (p5 H1 d (.dK (bf (ks.zip ys))))
theorem vG {P : Program} {w : World} : ∀ {ks : List j0} {ys : List V} {us vs : List Value}, Vals (ks.map kV) us -> Vals ys vs -> ∃ more, Paired (jF (p4 P w)) (us.zip vs) more /\ KV (ks.zip ys) more
 := by
  intro ks ys us vs hu hv;induction ks generalizing ys us vs with
  | nil => cases hu; exact ⟨[], .nil, .nil⟩
  | cons k ks ih => cases hu with
    | cons r t => cases hv with
      | nil => exact ⟨[], .nil, .nil⟩
      | cons r' t' =>
        obtain ⟨more, h1, h2⟩ := ih t t'
        exact ⟨(k, _) :: more, .cons ⟨gu r, rfl⟩ h1, .cons ⟨rfl, r'⟩ h2⟩
theorem FG (Yg:Gl X "dict")(Ux:X.mg "dict"=none)(Yh:Gl X "zip")(Yi:X.mg "zip"=none)(hc:X.calm=true)(ha:PA X [a,b] t)(hs:starEach [a,b] X.env=[(false,eval a X.env),(false,eval b X.env)])(Sn:starEach [b] X.env=[(false,eval b X.env)])
  (hs3:starEach [Expr.Call (.Name "zip" p2) [a,b] [] QC] X.env=[(false,eval (Expr.Call (.Name "zip" p2) [a,b] [] QC) X.env)]):PE X (.Call (.Name "dict" p) [.Call (.Name "zip" p2) [a,b] [] QC] [] pos) (HK X.K t):=by
 intro pins s σ H Q I h
 refine Mm (cy I Yg Ux Boot.«dict» (Lh ?_ hs3 rfl) (by decide) (by decide))
 rw[hs3]
 show wpAny _ _ (spliced [(false,eval (Expr.Call (.Name "zip" p2) [a,b] [] QC) X.env)]) _ _ s
 refine Ml ?_
 refine Mm (cy I Yh Yi Boot.«zip» (Lh (P0 (ha QC pins s σ H _ I h) λus s1 ⟨vs,H1,I1,r1,q1⟩=>?_) (by rw[hs,Sn]) (by rw[Sn];rfl)) (by decide) (by decide))
 obtain⟨l,m,ks,ys,e,hq,hq',q⟩:=q1
 subst e
 obtain⟨u,v,rfl,ru,rv⟩:=bu r1
 cases ru
 cases rv
 obtain⟨a_,rv,pl,hz⟩:=I1.list hq
 obtain⟨its',rv',Yj,Ts⟩:=I1.list hq'
 obtain⟨more,g1,g2⟩:=vG (P:=X.prog) (w:=X.w) rv rv'
 refine call_zip_2 pl.isList Yj.isList λh' z1 z2 z3 z4 z5 hsz hk=>?_
 refine MZ ?_
 have ll:(l:Nat)<(s1.heap.objs.size:Nat):=by obtain⟨o,e,_⟩:=pl.isList;exact JR e
 have lm:(m:Nat)<(s1.heap.objs.size:Nat):=by obtain⟨o,e,_⟩:=Yj.isList;exact JR e
 have D:ZipApart (s1.heap.objs.size+4) (s1.heap.objs.size+2) (s1.heap.objs.size+3) s1.heap.objs.size (s1.heap.objs.size+1) l m:=by
  constructor<;>first|exact JV (JS ll (by lia))|exact JV (JS lm (by lia))|(intro z;have z':(_:Nat)=(_:Nat):=z;lia)
 have hml:more.length<=sizeLine:=by
  have e1:=KV.length g2;rw[Nr] at e1;lia
 refine lU (knd:=p4 X.prog X.w) (s:={s1 with heap:=h'}) (I.ok.hd hc) D z1 z2 z3 z4 z5 ?_ ?_ hml g1 λh3 tk d3 k3=>?_
 .obtain⟨o,e,r⟩:=pl.isList;exact⟨o,hk _ _ e,r⟩
 .obtain⟨o,e,r⟩:=Yj.isList;exact⟨o,hk _ _ e,r⟩
 have Vs:s1.heap.objs.size<=h'.objs.size:=by rw[hsz];lia
 refine⟨.ref h'.objs.size,_,I1.laid (a:=h'.objs.size) (t':=tk) (λb o e=>?_) Vs (hJ (kvs:=bf (ks.zip ys)) ?_ ?_ (KV.puts g2 .nil) d3),rfl,q _ (I1.hok.fresh Vs)⟩
 .have hb:(b:Nat)<(s1.heap.objs.size:Nat):=JR e
  exact k3 b o (JV (JS hb (by lia))) (JV (JS hb (by lia))) (JV (JS hb (by lia))) (JV (JS hb (by lia))) (hk _ _ e)
 .have z:=di (ks.zip ys) []
  unfold bf
  have e1:=KV.length g2
  simp only[Nn] at z
  lia
 .exact Mc.mpr (Lw (JV (JS I1.big Vs)))
theorem II (K:Qe)(Ux:X.mg "dict"=none)(Yi:X.mg "zip"=none)(hc:X.calm=true)(ha:QA X [a,b] t)(Yg:Gl X "dict":=by rfl)(Yh:Gl X "zip":=by rfl)(h:B7 a=true:=by rfl)(h':B7 b=true:=by rfl)(hK:X.K=K:=by rfl):
  QE X (.Call (.Name "dict" p) [.Call (.Name "zip" p2) [a,b] [] QC] [] pos) (HK K t):=⟨hK▸FG Yg Ux Yh Yi hc ha.r (by rw[Y9 h,Y9 h'];rfl) (Y9 h') (Y9 rfl)⟩
theorem HL {K:Qe}{σ:L2.St}{H:Hp}{Q:VK}{t:TA}(q:t σ H λvs H1=>∃(l m:Addr) (ks:List j0) (ys:List V),vs=[.ref l,.ref m]/\SqL K H1 l (ks.map kV)/\SqL K H1 m ys/\∀d,H1 d=none->Q (.ref d) (p5 H1 d (.dK (bf (ks.zip ys))))):HK K t σ H Q:=q
end
open PySem.AutoSeq1 (wpAny_loadPart')
open PySem.MeetsSeq PySem.MeetsSeq2 PySem.MeetsSeq3
def EqL (K:Qe)(H:Hp)(x y:V)(b:Bool):Prop:=∃(a c:Addr) (xs ys:List V),x= .ref a/\y= .ref c/\SqL K H a xs/\SqL K H c ys/\xs.all J0=true/\ys.all J0=true/\b=U5 xs ys
section
variable {X:Cx} {pins:List (Addr×Obj)} {σ:St} {H:Hp} {s:Shared} {A:Around}
theorem EqL.at_ {x y:V}{u v:Value}{b:Bool}(I:Inv X pins σ H s)(h:EqL X.K H x y b)(rx:RelV x u)(ry:RelV y v)(hu:A.units+8<cLine):SeqAt.EqAt A s u v b:=by
 obtain⟨a,c,xs,ys,rfl,rfl,ha,hc,fx,fy,rfl⟩:=h;cases rx;cases ry;obtain⟨a_,r1,p1,z1⟩:=I.list ha;obtain⟨its',r2,p2,z2⟩:=I.list hc;by_cases hac:a=c
 .subst hac;have e:=I.list_inj ha hc;subst e;rw[dJ fx];exact Mp _
 .have l1:=r1.length;have l2:=r2.length;by_cases hl:xs.length=ys.length
  .have q:=SeqAt.RcAt.lists (A:=A) (e:=λj=>dH (xs.getD j .non) (ys.getD j .non)) p1.isList p2.isList (by simp;lia) (by lia) λj g1 g2=>by
    have O_:j<a_.length:=by simpa using g1
    have Pj:j<its'.length:=by simpa using g2
    have x1:xs[j]?=some (xs[j]'(by lia)):=by simp [show j<xs.length by lia]
    have y1:ys[j]?=some (ys[j]'(by lia)):=by simp [show j<ys.length by lia]
    obtain⟨u1,Qy,Ql⟩:=r1.get x1;obtain⟨u2,Om,Qm⟩:=r2.get y1;have e1:a_.toArray[j]=u1:=by
     have:=Jy O_;rw[Qy] at this;simpa using(JU this).symm
    have e2:its'.toArray[j]=u2:=by
     have:=Jy Pj;rw[Om] at this;simpa using(JU this).symm
    rw[e1,e2];have d1:xs.getD j .non=xs[j]'(by lia):=by rw[Kh,x1];rfl
    have d2:ys.getD j .non=ys[j]'(by lia):=by rw[Kh,y1];rfl
    rw[d1,d2];exact dh Ql Qm (Kk.mp fx _ (Kn _)) (Kk.mp fy _ (Kn _))
   have e3:a_.toArray.size=min xs.length ys.length:=by simp;lia
   have z:=X6 xs ys;rw[show(xs.length==ys.length)=true by simpa using hl,MR] at z;rw[e3,z] at q;exact .of_refs hac q
  .rw[fS hl];exact .of_refs hac (MJ p1.isList p2.isList (by simp;lia) (by lia))
end
section
variable {X:Cx}
def uY (K:Qe):V->List V->Hp->VK->Prop:=λx vs H Q=>∃(l:Addr) (xs:List V) (y:V) (f:V->Bool),x= .ref l/\vs=[y]/\H l=some (.lst xs)/\(∀z∈xs,EqL K H z y (f z))/\Q (.int (xs.countP f:Nat)) H
theorem jg {k:Nat}(hr:Room k X.A):xl X "list.count" (uY X.K):=by
 intro pins s σ H x vs v us Q I rx rv h;obtain⟨l,xs,y,f,rfl,rfl,hl,he,q⟩:=h;cases rx;obtain⟨u,rfl,ru⟩:=R5 rv;obtain⟨hz,a_,n,r,hle,e⟩:=I.lstM hl;refine OF F.slot_list_count ⟨_,e,rfl⟩ F.entry_list_count (F.args_list_count_2 _ _) (SeqAt.list_countAt l a_.toArray n _ _ u (f∘CY)) ⟨e,λw hw=>?_,?_⟩
 .obtain⟨z,Ts,rz⟩:=iQ r (show w∈a_ by simpa using hw);have g:=EqL.at_ (A:=X.A.in1) I (he z Ts) rz ru (by have:=hr.un;show X.A.units+1+8<cLine;lia);rw[show(f∘CY) w=f z by show f (CY w)=f z;rw[yU rz]];exact g
 .refine⟨.int (xs.countP f:Nat),H,I.tok _,⟨s.toks,?_⟩,q⟩;show Value.int (a_.countP (f∘CY):Nat) _=_;rw[GL r]
theorem iZ {X:Cx}{k:Nat}(K:Qe)(hr:Room k X.A)(h:X.K=K:=by rfl):xl X "list.count" (uY K):=h▸jg hr
theorem ph {X:Cx}:xl X "list.pop" Fm:=DA
theorem HJ {pos:Pos}:QE X (.Dict [] [] pos) yT:=⟨xD⟩
end
section
variable {P:Program} {w:World}
end
section
variable {X:Cx}
end
section
variable {K:Qe} {H:Hp} {Q:VK} {x y:V}
end
end L2
namespace PySem
section
variable {prog:Program} {w:World} {K:Type} [DecidableEq K] {A:Around} {E:Value->Shared->Prop} {s:Shared}
theorem av {knd:HeapKind prog w K}{d a:Addr}{xs:List (K×Addr×Value)}{k:K}{v:Value}{Q:Value->Shared->Prop}(hu:knd.room A)(A_:knd.is s.heap k a)(hm:s.heap.DictOfH knd d xs)
  (Tt:∀p,atKey xs k=some p->Q p.2 {s with toks:=s.toks+knd.draws k})
  (hQ:atKey xs k=none->∀h',h'.DictOfH knd d (storedH xs k a v)->Heap.SameBut d s.heap h'->Q v {s with heap:=h',toks:=s.toks+knd.draws k})
  (hsz:xs.length<=sizeLine):
  wpAny (model prog w) A (dictSetDefault d (.ref a) v) Q E s:=by
 obtain⟨o,es,ep,ho,hc,hd,he,his,hn⟩:=hm
 unfold dictSetDefault
 try with_reducible refine La ?_
 refine JL (knd.pyHash hu A_ ?_)
 refine JL (wpAny_dictFind_heap (s:={s with toks:=s.toks+knd.draws k}) hu A_ ho hd he his hn ?_ ?_)
 .intro g_
  have Tu:k∉xs.map (·.1):=not_mem_keys_of_get g_
  refine JL (PX (JL (wpAny_updateDictKeys (hz:=by have e:=size_of_entries he;lia) (s:={s with toks:=s.toks+knd.draws k}) ho hd (JW (hQ (Na g_) _ ⟨_,_,ep+1,Heap.get?_update_self _ ho (Obj.isFreed_of_dict (Obj.data_mapDictKeys hd _)),
   hc.mapDictKeys _,Obj.data_mapDictKeys hd _,?_,?_,?_⟩ (Nt ..))))))
  .rw[storedH_new (Na g_)]
   simp [he,entryOfKey]
  .rw[storedH_new (Na g_)]
   intro x hx
   rcases JD.mp hx with hx|hx
   .exact knd.keeps (his x hx) ho hd (Nt ..)
   .simp only[JN] at hx
    subst hx
    exact knd.keeps A_ ho hd (Nt ..)
  .rw[storedH_new (Na g_)]
   rw[JF,JQ]
   refine⟨hn,by simp,?_⟩
   intro x hx y hy
   simp only[Kx,Ms,JN] at hy
   subst hy
   exact λe=>Tu (e▸hx)
 .intro j p hj
  refine JL (wpAny_dictEntries (s:={s with toks:=s.toks+knd.draws k}) ho hd ?_)
  rw[entry_at he j,hj]
  exact JL (PX (JW (Tt _ (atKey_of_get hn hj))))
theorem bW (knd:HeapKind prog w K)(d a:Addr)(hd:(d==sysModules)=false)(dflt:Value):
  MeetsIn prog w (Builtin.«dict.setdefault» ⟨[.ref d,.ref a,dflt],[]⟩) (λA R s=>knd.room A.in1/\∃k xs,knd.is s.heap k a/\s.heap.DictOfH knd d xs/\xs.length<=sizeLine/\
   (∀p,atKey xs k=some p->R (.ok (.ret p.2)) {s with toks:=s.toks+knd.draws k})/\
   (atKey xs k=none->∀h',h'.DictOfH knd d (storedH xs k a dflt)->Heap.SameBut d s.heap h'->R (.ok (.ret dflt)) {s with heap:=h',toks:=s.toks+knd.draws k})):=
 .of_wp λA R s ⟨hu,k,xs,hk,hm,hz,h1,h2⟩=>by
  unfold Builtin.«dict.setdefault»;refine JL ?_;unfold Builtin.Dict.keyAndDefault;refine JL (Nh hm.typeIs ?_);show wpAny _ _ (pure (d,Value.ref a,some dflt)) _ _ s;refine JW ?_;show wpAny _ _ (if(d==sysModules)=true then _ else(dictSetDefault d (.ref a) dflt>>=_)) _ _ s;rw[if_neg (by rw[hd];exact Ks)];exact JL (av hu hk hm (λp hp=>JW ⟨_,rfl,h1 p hp⟩) (λhn h' hm' G_=>JW ⟨dflt,rfl,h2 hn h' hm' G_⟩) hz)
end
end PySem
namespace L2
open PySem PySem.Spec PyProof.Rows
section
variable {X:Cx}
def Bl:V->List V->Hp->VK->Prop:=λx vs H Q=>∃(d t:Addr) (kvs:List (List j0×V)) (k:List j0) (v:V),x= .ref d/\vs=[.ref t,v]/\H d=some (.dT kvs)/\H t=some (.tup (k.map kV))/\kvs.length<sizeLine/\
 (match z0 kvs k with|some u=>Q u H|none=>Q v (p5 H d (.dT (E3 kvs k v))))
theorem eh {k:Nat}(hr:Room k X.A):xl X "dict.setdefault" Bl:=by
 intro pins s σ H x vs v us Q I rx rv h;obtain⟨d,t,kvs,k',y,rfl,rfl,e,et,hl,q⟩:=h;cases rx;obtain⟨u1,u2,rfl,r1,r2⟩:=bu rv;cases r1;obtain⟨z,hd,xs,rel,dd⟩:=Cg I.hok e;have hz:xs.length<=sizeLine:=by rw[←Kr rel];exact z
 have Sg:(E3 kvs k' y).length<=sizeLine:=by have:=Q9 kvs k' y;lia
 refine Ll F.slot_dict_setdefault dd.typeIs F.entry_dict_setdefault (F.args_dict_setdefault_3 _ _ _) (bW (tupleKind (p4 X.prog X.w)) d t hd u2) ⟨Lz (by have:=hr.un;lia),k',xs,cq I.hok et,dd,hz,λp hp=>?_,λhn h' dd' hs=>?_⟩
 .have hw:(atKey xs k').map (·.2)=some p.2:=by rw[hp];rfl
  have ro:=rel.val k';rw[hw] at ro;cases hv:z0 kvs k' with
  |none=>rw[hv] at ro;cases ro
  |some w'=>
   rw[hv] at ro q
   exact⟨w',H,I.tok _,ro,q⟩
 .have ro:=rel.val k';rw[hn] at ro;cases hv:z0 kvs k' with
  |some w'=>rw[hv] at ro;cases ro
  |none=>
   rw[hv] at q
   refine⟨y,_,?_,r2,q⟩
   obtain⟨o',es,ep,hq,h2,h3,h4,_,h5⟩:=dd'
   refine dS I (by rw[e];exact True.intro) hs ⟨o',hq⟩ ⟨Sg,hd,_,(rel.put k' et r2).keeps λc ys ec=>?_,o',es,ep,hq,h2,h3,h4,h5⟩
   rw[d6 (BM ec e (λz=>nomatch z))]
   exact ec
end
section
variable {X:Cx}
def xy (K:Qe):List V->Hp->VK->Prop:=λxs H Q=>∃(t:Addr) (a b:Str),xs=[.ref t]/\SqT K H t [.str a,.str b]/\Q (.str (if a.cps.toList<b.cps.toList then b else a)) H
theorem wB (hc:X.calm=true):CallR X (.builtin "max") (xy X.K):=by
 intro pins s σ H xs us Q I r h;obtain⟨t,a,b,rfl,ht,q⟩:=h;obtain⟨u,rfl,ru⟩:=R5 r;cases ru;obtain⟨a_,rv,p,hz⟩:=I.tuple ht;obtain⟨_,_,rfl,⟨t1,rfl⟩,⟨t2,rfl⟩⟩:=bu rv;refine call_max_walk (wpAny_pyIter_tuple (show s.heap.IsTuple t #[Value.str a t1,Value.str b t2] from p) ?_);have l_:t<s.heap.objs.size:=by
  obtain⟨o,e,_⟩:=(show s.heap.IsTuple t #[Value.str a t1,Value.str b t2] from p)
  exact JR e
 have kp:∀c o,s.heap.get? c=some o->(s.heap.push {cls:= .type "tuple_iterator",data:= .fields #[.ref t,.int 0 0]}).get? c=some o:=λc o e=>JI _ e;refine⟨s.heap.objs.size,[s.heap.objs.size,t],[s.heap.objs.size],2,_,_,λi j=>decide ((if j=0 then a else b).cps.toList<(if i=0 then a else b).cps.toList),rfl,Walks.tuple (A:=X.A.in1) (show X.A.in1.handled=none from I.ok.hd hc) s.heap.objs.size t (JV l_) #[Value.str a t1,Value.str b t2],⟨⟨_,JY _ rfl,rfl,rfl⟩,let ⟨o,e,r⟩:=p;⟨o,kp _ _ e,r⟩⟩,λc Qt=>?_,by decide,?_,?_⟩
 .show c<(s.heap.push _).objs.size;rcases Kl.mp Qt with rfl|Qt
  .simp [Heap.push]
  .rw[JN.mp Qt];have z:s.heap.objs.size<(s.heap.push {cls:= .type "tuple_iterator",data:= .fields #[.ref t,.int 0 0]}).objs.size:=by simp [Heap.push]
   exact Oo l_ z
 .intro i j vi vj s' Q' E' hi hj hQ;have key:∀(i:Nat) (v:Value),(#[Value.str a t1,Value.str b t2]:Array Value)[i]?=some v->∃tk,v= .str (if i=0 then a else b) tk:=λi v h=>by
   match i,h with
   |0,h=>exact⟨t1,by simpa using h.symm⟩
   |1,h=>exact⟨t2,by simpa using h.symm⟩
   |n+2,h=>simp at h
  obtain⟨k1,rfl⟩:=key i vi hi;obtain⟨k2,rfl⟩:=key j vj hj;exact richCompare_gives (op:= .Gt) (OE _ _ _) (OE _ _ _) F.slot_str_gt F.entry_str_gt (F.args_str_gt_2 _ _) (gives_str_gt _ _ _ _) (λe=>nomatch e) hQ
 .intro v h' tk hv hk;have I2:Inv X pins σ H {s with heap:=h',toks:=tk}:=I.kept λc o e=>hk c o (λz=>by rw[JN.mp z] at e;exact absurd (JR e) (Li _)) (kp c o e);refine⟨_,H,I2,?_,q⟩;by_cases hl:a.cps.toList<b.cps.toList
  .have e:argBest (λi j=>decide ((if j=0 then a else b).cps.toList<(if i=0 then a else b).cps.toList)) (2 -1)=1:=by show(if decide (a.cps.toList<b.cps.toList)=true then 1 else 0)=1;rw[if_pos (JX hl)]
   rw[e] at hv;rw[if_pos hl];exact⟨t2,by simpa using hv.symm⟩
  .have e:argBest (λi j=>decide ((if j=0 then a else b).cps.toList<(if i=0 then a else b).cps.toList)) (2 -1)=0:=by show(if decide (a.cps.toList<b.cps.toList)=true then 1 else 0)=0;rw[if_neg (by rw[Kf hl];decide)]
   rw[e] at hv;rw[if_neg hl];exact⟨t1,by simpa using hv.symm⟩
theorem Gp (K:Qe)(hc:X.calm=true)(h:X.K=K:=by rfl):CallR X (.builtin "max") (xy K):=h▸wB hc
end
theorem DU {K:Qe}{H:Hp}{Q:VK}{t:Addr}{a b:Str}(h:SqT K H t [.str a,.str b])(q:Q (.str (if a.cps.toList<b.cps.toList then b else a)) H):xy K [.ref t] H Q:=⟨t,a,b,rfl,h,q⟩
structure Jk (K:Qe) (x qual:Str) (st:Stmt) (T:Addr) (f:Addr) (fd:FuncData):Prop where
 ex:∃(oc:Value) (od:Option Addr) (kV doc pm:Value) (an:Option Addr) (c_ ct:Value) (Qg:Array (Option Value)),
  fd=PySem.W.fnOf x qual (aJ st) (Y5 st) (i8 st) (.ref T) kV doc pm an c_ ct/\K.lookup f=some ⟨oc,od,.func fd,Qg⟩/\PySem.W.codeIn K c_ qual=true
 kp:PySem.W.keepIn K (.ref f)=true
section
variable {P:Program} {w:World} {K:Qe} {mg:Str->Option Value} {base:Heap}
end
open PySem.AutoSeq1 (wpAny_loadPart')
open PySem.MeetsSeq PySem.MeetsSeq2 PySem.MeetsSeq3
section
variable {P:Program} {w:World}
end
section
variable {X:Cx}
end
section
variable {α β:Type}
end
def Jj (rk:Value->Int)(p:Keyed):Keyed:=(.int (rk p.1) 0,p.2)
def kA (rk:Value->Int)(st:SortSt)(i:Nat):Int:=K ((arrOf st).map (Jj rk)) i
structure TB (kd:SortKind) (base:Array Keyed) (st:SortSt):Prop where
 pm:(arrOf st).Perm base
 kd:kindOf st=kd
 fl:failedOf st=none
 pe:pendingOf st= #[]
section
variable {prog:Program} {w:World} {A:Around} {E:Value->Shared->Prop} {s:Shared} {rk:Value->Int} {kd:SortKind} {base:Array Keyed} {st:SortSt}
def Ja (rk:Value->Int)(st:SortSt)(n:Nat):Prop:=∀i j,i<=j->j<n->kA rk st i<=kA rk st j
end
section
variable {prog:Program} {w:World} {A:Around} {E:Value->Shared->Prop} {s:Shared} {rk:Value->Int} {kd:SortKind} {base:Array Keyed} {st:SortSt}
structure TD (rk:Value->Int) (base:Array Keyed) (st:SortSt):Prop where
 pm:(arrOf st).Perm base
 fl:failedOf st=none
 pe:pendingOf st= #[(0,base.size,0)]
 up:Ja rk st base.size
end
def Iu:V->List Nat
 | .str a=>a.cps.toList
 | .bl b=>[b.toNat]
 |_=>[]
abbrev Iy (xs:List V):List (List Nat):=xs.map Iu
section
variable {P:Program} {w:World} {A:Around} {E:Value->Shared->Prop} {s:Shared}
end
abbrev Ji:=List (List Nat)
section
variable {P:Program} {w:World} {A:Around} {E:Value->Shared->Prop} {s:Shared}
structure Jb (h:Heap) (kf:Value->Ji) (v:Value):Prop where
 at_:∃(a:Addr) (us:List Value) (xs:List V) (x:Str) (r:List V),v= .ref a/\h.IsTuple a us.toArray/\Vals xs us/\xs= .str x::r/\kf v=Iy xs
end
section
variable {P:Program} {w:World} {A:Around} {E:Value->Shared->Prop} {s:Shared}
end
section
variable {X:Cx}
end
abbrev Lk:=Str×Bool×Bool
def FI (c:Lk):List V:=[.str c.1,.bl c.2.1,.bl c.2.2]
theorem Gf (c d:Lk):U5 (FI c) (FI d)=decide (c=d):=by
 obtain⟨c1,c2,c3⟩:=c;obtain⟨d1,d2,d3⟩:=d;show(c1==d1&&(c2==d2&&(c3==d3&&true)))=_;rw[Kw];simp
theorem EJ {c d:Lk}(h:FI c=FI d):c=d:=by
 obtain⟨c1,c2,c3⟩:=c;obtain⟨d1,d2,d3⟩:=d;have h1:=V.str.inj (Mf h).1;have h2:=V.bl.inj (Mf (Mf h).2).1;have h3:=V.bl.inj (Mf (Mf (Mf h).2).2).1;rw[show c1=d1 from h1,show c2=d2 from h2,show c3=d3 from h3]
def qU (K:Qe)(H:Hp)(xs:List V)(cs:List Lk):Prop:=Paired (λv c=>∃t,v=V.ref t/\SqT K H t (FI c)) xs cs
structure LkV (K:Qe) (H:Hp) (u:V) (kd:Str) (cs:List Lk):Prop where
 ex:∃(a l:Addr) (xs:List V),u= .ref a/\SqT K H a [.str kd,.ref l]/\SqL K H l xs/\qU K H xs cs
section
variable {X:Cx} {pins:List (Addr×Obj)} {σ:St} {H:Hp} {s:Shared}
theorem zQ (I : Inv X pins σ H s) : ∀ {xs : List V} {cs ds : List Lk}, qU X.K H xs cs -> qU X.K H xs ds -> cs = ds
 := by
  intro xs cs ds h1 h2;induction h1 generalizing ds with
  | nil => cases h2; rfl
  | cons a r ih => cases h2 with
    | cons a' r' =>
      obtain ⟨t, e, h⟩ := a
      obtain ⟨t', e', h'⟩ := a'
      rw [e] at e'
      cases e'
      rw [EJ (I.tuple_inj h h'), ih r']
theorem Hk (I:Inv X pins σ H s){A:Around}{l m:Addr}{xs ys:List V}{cs ds:List Lk}(h1:SqL X.K H l xs)(h2:SqL X.K H m ys)(p1:qU X.K H xs cs)(p2:qU X.K H ys ds)(hu:A.units+48<cLine):EqP X.prog X.w A s (.ref l) (.ref m) (decide (cs=ds)):=by
 by_cases e:l=m
 .subst e;have ex:=I.list_inj h1 h2;subst ex;rw[JX (zQ I p1 p2)];exact .of (Mp _)
 .obtain⟨us,r1,q1,z1⟩:=I.list h1;obtain⟨vs,r2,q2,z2⟩:=I.list h2;have a1:=r1.length;have a2:=r2.length;have b1:=Kr p1;have b2:=Kr p2;by_cases hl:xs.length=ys.length
  .have q:=RcP.lst (P:=X.prog) (w:=X.w) (A:=A) (f:=λj=>decide (cs[j]?=ds[j]?)) q1.isList q2.isList (by simp;lia) (by lia) λj g1 g2=>by
    have O_:j<us.length:=by simpa using g1
    have Pj:j<vs.length:=by simpa using g2
    have x1:xs[j]?=some (xs[j]'(by lia)):=Jy _;have y1:ys[j]?=some (ys[j]'(by lia)):=Jy _;obtain⟨u1,Qy,Ql⟩:=r1.get x1;obtain⟨u2,Om,Qm⟩:=r2.get y1;have e1:us.toArray[j]=u1:=by
     have:=Jy O_;rw[Qy] at this;simpa using(JU this).symm
    have e2:vs.toArray[j]=u2:=by
     have:=Jy Pj;rw[Om] at this;simpa using(JU this).symm
    obtain⟨c,hc,t1,et1,s1⟩:=L8 p1 x1;obtain⟨d,hd,t2,et2,s2⟩:=L8 p2 y1;rw[e1,e2,hc,hd];rw[et1] at Ql;rw[et2] at Qm;have z:=EqN.at_ (n:=0) (A:=A.in1) I (.inl (Eq1.tup s1 s2 rfl rfl)) Ql Qm (by show A.units+1+32+0<cLine;lia);rw[Gf] at z;rw[show decide (some c=some d)=decide (c=d) by simp];exact z
   have e3:(List.range us.toArray.size).all (λj=>decide (cs[j]?=ds[j]?))=decide (cs=ds):=by
    rw[Kw,Kk,Ko];constructor
    .intro h;refine Qc λj=>?_;rcases LZ j us.length with z|z
     .exact KW (h j (by simpa using z))
     .rw[Ld (by lia),Ld (by lia)]
    .rintro rfl j _;exact JX rfl
   rw[e3] at q;exact .refs e q
  .have q_:cs≠ds:=λz=>hl (by rw[b1,b2,z]);rw[Kf q_];exact .of (.of_refs e (MJ q1.isList q2.isList (by simp;lia) (by lia)))
end
section
variable {X:Cx}
def Co (K:Qe):R2:=λx y H Q=>∃(kd M_:Str) (cs ds:List Lk),LkV K H x kd cs/\LkV K H y M_ ds/\Q (.bl (decide (kd=M_)&&decide (cs=ds))) H
theorem BH (hu:X.A.units+64<cLine):OpR X (compareOp .Eq) (Co X.K):=by
 intro pins s σ H x y v u Q I rx ry h;obtain⟨kd,M_,cs,ds,⟨a,l,xs,rfl,t1,s1,p1⟩,⟨c,m,ys,rfl,t2,s2,p2⟩,k⟩:=h;cases rx;cases ry;obtain⟨us,r1,q1,z1⟩:=I.tuple t1;obtain⟨vs,r2,q2,z2⟩:=I.tuple t2;obtain⟨u1,u2,rfl,⟨WT,rfl⟩,e2⟩:=bu r1;obtain⟨v1,v2,rfl,⟨Ss,rfl⟩,f2⟩:=bu r2;cases e2;cases f2;have q:=RcP.tup (P:=X.prog) (w:=X.w) (A:=X.A) (f:=λj=>if j=0 then decide (kd=M_) else decide (cs=ds)) (show s.heap.IsTuple a #[Value.str kd WT,Value.ref l] from q1) (show s.heap.IsTuple c #[Value.str M_ Ss,Value.ref m] from q2) (by lia) λj g1 g2=>by
  match j,g1,g2 with
  |0,_,_=>
   have z:=EqP.of (P:=X.prog) (w:=X.w) (dh (A:=X.A.in1) (s:=s) (y:= .str kd) (x:= .str M_) ⟨WT,rfl⟩ ⟨Ss,rfl⟩ rfl rfl)
   rw[show dH (.str kd) (.str M_)=decide (kd=M_) from rfl] at z
   exact z
  |1,_,_=>exact Hk (A:=X.A.in1) I s1 s2 p1 p2 (by show X.A.units+1+48<cLine;lia)
  |n+2,g1,_=>exact absurd g1 (by simp)
 have e:((List.range (min (#[Value.str kd WT,Value.ref l]:Array Value).size (#[Value.str M_ Ss,Value.ref m]:Array Value).size)).all (λj=>if j=0 then decide (kd=M_) else decide (cs=ds))&&(#[Value.str kd WT,Value.ref l]:Array Value).size==(#[Value.str M_ Ss,Value.ref m]:Array Value).size)=(decide (kd=M_)&&decide (cs=ds)):=by
  show(([0,1]:List Nat).all _&&true)=_;simp
 rw[e] at q;exact q _ _ ⟨.bl _,H,I,rfl,k⟩
def Cd (K:Qe):R2:=λx y H Q=>jC K x y H Q\/Co K x y H Q
theorem Gm (K:Qe){k:Nat}(hr:Room k X.A)(h:X.K=K:=by rfl):OpR X (compareOp .Eq) (Cd K):=(V3 K hr h).or (h▸BH hr.units)
def EqA (K:Qe)(H:Hp)(x y:V)(b:Bool):Prop:=(∃a c,x= .str a/\y= .str c/\b=decide (a=c))\/∃(kd M_:Str) (cs ds:List Lk),LkV K H x kd cs/\LkV K H y M_ ds/\b=(decide (kd=M_)&&decide (cs=ds))
theorem Gd {K:Qe}{H:Hp}{Q:VK}{x y:V}{b:Bool}(h:EqA K H x y b)(q:Q (.bl b) H):Cd K x y H Q:=by
 rcases h with⟨a,c,rfl,rfl,rfl⟩|⟨kd,M_,cs,ds,h1,h2,rfl⟩
 .exact .inl (gn q)
 .exact .inr ⟨kd,M_,cs,ds,h1,h2,q⟩
theorem LkV.mono {K:Qe}{H H':Hp}{u:V}{kd:Str}{cs:List Lk}(l:Le H H')(h:LkV K H u kd cs):LkV K H' u kd cs:=by
 obtain⟨a,m,xs,e,t,s,p⟩:=h;exact⟨a,m,xs,e,l.tup t,l.lst s,Paired.imp' (λ_ _ ⟨t,e,z⟩=>⟨t,e,l.tup z⟩) p⟩
theorem EqA.mono {K:Qe}{H H':Hp}{x y:V}{b:Bool}(l:Le H H')(h:EqA K H x y b):EqA K H' x y b:=by
 rcases h with h|⟨kd,M_,cs,ds,h1,h2,e⟩
 .exact .inl h
 .exact .inr ⟨kd,M_,cs,ds,h1.mono l,h2.mono l,e⟩
end
open PySem.AutoSeq1 (wpAny_loadPart')
open PySem.MeetsSeq PySem.MeetsSeq2 PySem.MeetsSeq3
section
variable {P:Program} {w:World}
theorem Ed (l m:Addr)(xs ys:Array Value)(n1 n2:Nat)(d1 d2:Option Addr)(s1 s2:Array (Option Value))(hz:xs.size≠ys.size):
  MeetsIn P w (Builtin.«list.__ne__» ⟨[.ref l,.ref m],[]⟩) (λA R s=>
   s.heap.get? l=some {cls:= .type "list",dict:=d1,data:= .seq xs n1,slots:=s1}/\s.heap.get? m=some {cls:= .type "list",dict:=d2,data:= .seq ys n2,slots:=s2}/\
   R (.ok (.ret (.bool true))) s):=by
 intro A R s hyp
 obtain⟨hp,gg,dr,tk,os⟩:=s
 obtain⟨e1,e2,fin⟩:=hyp
 have q1:=MW;have q2:(xs.size !=ys.size)=true:=by simp [hz]
 wp_walk using wpAny_loadPart' e1,wpAny_loadPart' e2
 exact fin
end
section
variable {X:Cx}
def GA (K:Qe):R2:=λx y H Q=>∃(p q:Addr) (xs:List V),x= .ref p/\y= .ref q/\SqL K H p xs/\SqL K H q []/\Q (.bl (!xs.isEmpty)) H
theorem Dw (hu:X.A.units+64<cLine):OpR X (compareOp .NotEq) (GA X.K):=by
 intro pins s σ H x y v u Q I rx ry h;obtain⟨p,q,xs,rfl,rfl,hp,hq,k⟩:=h;cases rx;cases ry;obtain⟨us,r1,p1,z1⟩:=I.list hp;obtain⟨vs,r2,p2,z2⟩:=I.list hq;have le1:=r1.length;have Yk:=r2.length;obtain rfl:vs=[]:=LF (by simpa using Yk.symm);cases xs with
 |nil=>
  obtain rfl:us=[]:=LF (by simpa using le1.symm)
  have q:=NcP.lst (P:=X.prog) (w:=X.w) (A:=X.A) (f:=λ_=>true) p1.isList p2.isList rfl (by lia) (λj g1 _=>absurd g1 (by simp))
  exact q _ _ ⟨.bl _,H,I,rfl,k⟩
 |cons x r=>
  obtain⟨⟨c1,d1,a1,s1⟩,o1,k1,n1,w1⟩:=id p1.isList
  obtain⟨⟨c2,d2,a2,s2⟩,o2,k2,n2,w2⟩:=id p2.isList
  simp only at k1 w1 k2 w2
  subst k1 w1 k2 w2
  show wpAny _ X.A (richCompare .NotEq (.ref p) (.ref q)) _ _ s
  refine Lu (op:= .NotEq) ⟨_,o1,rfl⟩ ⟨_,o2,rfl⟩ MB (Ll MB ⟨_,o1,rfl⟩ Oz (Og _ _) (Ed p q us.toArray #[] n1 n2 d1 d2 s1 s2 (by simp;intro z;rw[z] at le1;simp at le1)) ⟨o1,o2,?_⟩) (by lia)
  exact⟨(λz=>nomatch z),⟨.bl _,H,I,rfl,k⟩⟩
theorem EX (K:Qe){k:Nat}(hr:Room k X.A)(h:X.K=K:=by rfl):OpR X (compareOp .NotEq) (GA K):=h▸Dw hr.units
end
structure FnIn (K:Qe) (n:Str) (st:Stmt) (f:Addr):Prop where
 a:PySem.W.nsIn K mainGlobals n=some (some (.ref f))
 F:∃fd,Fun K n n st f fd
theorem FnIn.mk' {K:Qe}{n:Str}{st:Stmt}{f:Addr}{oc:Value}{od an:Option Addr}{Qg:Array (Option Value)}{kV doc pm c_ ct:Value}(a:PySem.W.nsIn K mainGlobals n=some (some (.ref f)))(l:K.lookup f=some ⟨oc,od,.func (PySem.W.fnOf n n (aJ st) (Y5 st) (i8 st) .none kV doc pm an c_ ct),Qg⟩)
  (c:PySem.W.codeIn K c_ n=true) (k:PySem.W.keepIn K (.ref f)=true):FnIn K n st f:=⟨a,_,Ec l c k⟩
theorem l0 {P:Program}{w:World}{K:Qe}{mg:Str->Option Value}{base h:Heap}{CX:pQ}{k:Nat}{n:Str}{st:Stmt}{ps:List Str}{sp:Sp}{f:Addr}(X:K.In h)(G:h.Ns mainGlobals mg)(a:FnIn K n st f)(ok:∀{f fd},Fun K n n st f fd->C0 P w K mg base CX k f fd ps sp)
  (b:∀(kV doc pm:Value) (an:Option Addr) (c_ ct:Value) (us:List Value),us.length=ps.length->bindArgs (PySem.W.fnOf n n (aJ st) (Y5 st) (i8 st) .none kV doc pm an c_ ct) ⟨us,[]⟩=pure (ps.zip us)):V9 P w K mg base CX k n ps [] sp:=by
 obtain⟨fd,F⟩:=a.F
 exact⟨f,_,[],ok F,LQ X G a.a,F.kp,F.binds b,.nil⟩
theorem CC {P:Program}{w:World}{K:Qe}{mg:Str->Option Value}{h:Heap}{CX:pQ}{k:Nat}{st:Stmt}{p:Str}{sp:Sp}{f fa:Addr}(X:K.In h)(G:h.Ns mainGlobals mg)(Yl:mg "law"=some (.ref fa))(a:FnIn K "law" st f)(ok:∀{base f fd},Fun K "law" "law" st f fd->C0 P w K mg base CX k f fd [p] sp)
  (b:∀(kV doc pm:Value) (an:Option Addr) (c_ ct:Value) (s:Shared) (v:Value),BindsTo s (PySem.W.fnOf "law" "law" (aJ st) (Y5 st) (i8 st) .none kV doc pm an c_ ct) ⟨[v],[]⟩ [(p,v)]):
  ∃fd:FuncData,(∀(s:Shared) (v:Value),BindsTo s fd ⟨[v],[]⟩ [(p,v)])/\∀base:Heap,K.In base->base.Ns mainGlobals mg->C0 P w K mg base CX k fa fd [p] sp:=by
 obtain⟨fd,F⟩:=a.F
 have e:=Yl.symm.trans (LQ X G a.a)
 cases e
 obtain⟨oc,od,kV,doc,pm,an,c_,ct,Qg,rfl,lk,P_⟩:=id F.ex
 exact⟨_,λs v=>b _ _ _ _ _ _ s v,λbase _ _=>ok F⟩
section
variable {fd:FuncData} {ps:List Str} {us:List Value}
theorem uc {us:List Value}{n:Nat}(h:us.length=n+1):∃a r,us=a::r/\r.length=n:=by
 cases us with
 |nil=>cases h
 |cons a r=>exact⟨a,r,rfl,Nat.succ.inj h⟩
theorem IV (h:us.length=1)(g:∀a:Value,bindArgs fd ⟨[a],[]⟩=pure (ps.zip [a])):bindArgs fd ⟨us,[]⟩=pure (ps.zip us):=by
 obtain⟨a,us,rfl,h1⟩:=uc h;cases us with
 |nil=>exact g a
 |cons _ _=>cases h1
theorem Jc (h:us.length=2)(g:∀a b:Value,bindArgs fd ⟨[a,b],[]⟩=pure (ps.zip [a,b])):bindArgs fd ⟨us,[]⟩=pure (ps.zip us):=by
 obtain⟨a,us,rfl,h1⟩:=uc h;obtain⟨b,us,rfl,h2⟩:=uc h1;cases us with
 |nil=>exact g a b
 |cons _ _=>cases h2
theorem Jg (h:us.length=3)(g:∀a b c:Value,bindArgs fd ⟨[a,b,c],[]⟩=pure (ps.zip [a,b,c])):bindArgs fd ⟨us,[]⟩=pure (ps.zip us):=by
 obtain⟨a,us,rfl,h1⟩:=uc h;obtain⟨b,us,rfl,h2⟩:=uc h1;obtain⟨c,us,rfl,h3⟩:=uc h2;cases us with
 |nil=>exact g a b c
 |cons _ _=>cases h3
theorem Jq (h:us.length=4)(g:∀a b c d:Value,bindArgs fd ⟨[a,b,c,d],[]⟩=pure (ps.zip [a,b,c,d])):bindArgs fd ⟨us,[]⟩=pure (ps.zip us):=by
 obtain⟨a,us,rfl,h1⟩:=uc h;obtain⟨b,us,rfl,h2⟩:=uc h1;obtain⟨c,us,rfl,h3⟩:=uc h2;obtain⟨d,us,rfl,h4⟩:=uc h3;cases us with
 |nil=>exact g a b c d
 |cons _ _=>cases h4
theorem Jo (h:us.length=5)(g:∀a b c d e:Value,bindArgs fd ⟨[a,b,c,d,e],[]⟩=pure (ps.zip [a,b,c,d,e])):bindArgs fd ⟨us,[]⟩=pure (ps.zip us):=by
 obtain⟨a,us,rfl,h1⟩:=uc h;obtain⟨b,us,rfl,h2⟩:=uc h1;obtain⟨c,us,rfl,h3⟩:=uc h2;obtain⟨d,us,rfl,h4⟩:=uc h3;obtain⟨e,us,rfl,h5⟩:=uc h4;cases us with
 |nil=>exact g a b c d e
 |cons _ _=>cases h5
theorem Jl (h:us.length=6)(g:∀a b c d e f:Value,bindArgs fd ⟨[a,b,c,d,e,f],[]⟩=pure (ps.zip [a,b,c,d,e,f])):bindArgs fd ⟨us,[]⟩=pure (ps.zip us):=by
 obtain⟨a,us,rfl,h1⟩:=uc h;obtain⟨b,us,rfl,h2⟩:=uc h1;obtain⟨c,us,rfl,h3⟩:=uc h2;obtain⟨d,us,rfl,h4⟩:=uc h3;obtain⟨e,us,rfl,h5⟩:=uc h4;obtain⟨f,us,rfl,h6⟩:=uc h5;cases us with
 |nil=>exact g a b c d e f
 |cons _ _=>cases h6
end
def Hl (a u:St->Hp->Prop):Prop:=∀σ H,u σ H->a σ H
theorem FH {t u:TS}{nx:St->Hp->Prop}{rt:V->Hp->Prop}{bk ct:St->Hp->Prop}{σ:St}{H:Hp}(h:∀a:St->Hp->Prop,Hl a (u ⟨nx,rt,bk,ct⟩)->t ⟨a,rt,bk,ct⟩ σ H):jh t u ⟨nx,rt,bk,ct⟩ σ H:=h _ λ_ _ z=>z
theorem gM {a u:St->Hp->Prop}{σ:St}{H:Hp}(h:Hl a u)(q:u σ H):a σ H:=h σ H q
section
variable {J:It} {th:Hp->Hp} {g:V->St->Hp->(St->Hp->Prop)->Prop} {tb:TS} {nx:St->Hp->Prop} {rt:V->Hp->Prop} {σ:St} {H:Hp} {n:Nat}
theorem K6 (Pv:Nat->St->Hp->Prop)(h0:Pv 0 σ H)(Qk:∀i σ H,i<n->Pv i σ H->J.go i H)
  (hs:∀i x σ H H',i<n->Pv i σ H->J.yld i H x H'->∀a:St->Hp->Prop,Hl a (Pv (i+1))->g x σ H' λσ2 H2=>tb ⟨a,λv H=>rt v (th H),λσ H=>nx σ (th H),a⟩ σ2 H2)
  (hd:∀σ H,Pv n σ H->J.stop n H/\nx σ (th H)):vZ J th g tb nx rt σ H:=sf Pv h0 Qk (λi x σ H H' a b c=>hs i x σ H H' a b c _ λ_ _ z=>z) hd
theorem dI (Pv:Nat->St->Hp->Prop)(h0:Pv 0 σ H)(Qk:∀i σ H,i<n->Pv i σ H->J.go i H)
  (hs:∀(bk:St->Hp->Prop) i x σ H H',i<n->Pv i σ H->J.yld i H x H'->∀a:St->Hp->Prop,Hl a (Pv (i+1))->g x σ H' λσ2 H2=>tb ⟨a,λv H=>rt v (th H),bk,a⟩ σ2 H2)
  (hd:∀σ H,Pv n σ H->J.stop n H/\nx σ (th H)):vZ J th g tb nx rt σ H:=CS Pv h0 Qk (λk i x σ H H' a b c=>hs k i x σ H H' a b c _ λ_ _ z=>z) hd
end
end L2
set_option maxHeartbeats 1000000
namespace K26
open PySem PySem.Spec PyProof.Rows L2
def X9 (i:Nat):Stmt:=PySem.Challenge.pw_gluework_k26_whole_back.main.body.getD i (.Pass ⟨0,0,0,0⟩)
abbrev bK:Stmt:=X9 10
theorem sc_is_text_of:j6 ["thing","signs","most"] ["thing","signs","most"] (i8 bK):=⟨rfl,rfl,rfl,by decide+kernel,rfl,by decide+kernel,by decide+kernel⟩
abbrev hZ:Stmt:=X9 11
theorem sc_is_name:j6 ["thing"] ["thing"] (i8 hZ):=⟨rfl,rfl,rfl,by decide+kernel,rfl,by decide+kernel,by decide+kernel⟩
abbrev fK:Stmt:=X9 12
theorem sc_in_order:j6 ["named"] ["named"] (i8 fK):=⟨rfl,rfl,rfl,by decide+kernel,rfl,by decide+kernel,by decide+kernel⟩
abbrev jU:Stmt:=X9 13
theorem sc_copied:j6 ["web"] ["web"] (i8 jU):=⟨rfl,rfl,rfl,by decide+kernel,rfl,by decide+kernel,by decide+kernel⟩
abbrev kh:Stmt:=X9 14
theorem sc_things:j6 ["web"] ["web"] (i8 kh):=⟨rfl,rfl,rfl,by decide+kernel,rfl,by decide+kernel,by decide+kernel⟩
abbrev iu:Stmt:=X9 15
theorem sc_without:j6 ["web","names","points","ties","name"] ["web","names"] (i8 iu):=⟨rfl,rfl,rfl,by decide+kernel,rfl,by decide+kernel,by decide+kernel⟩
abbrev kZ:Stmt:=X9 16
theorem sc_united:j6 ["web","more","points","ties"] ["web","more"] (i8 kZ):=⟨rfl,rfl,rfl,by decide+kernel,rfl,by decide+kernel,by decide+kernel⟩
abbrev aS:Stmt:=X9 17
theorem sc_tie_renamed:j6 ["tie","names"] ["tie","names"] (i8 aS):=⟨rfl,rfl,rfl,by decide+kernel,rfl,by decide+kernel,by decide+kernel⟩
abbrev ic:Stmt:=X9 18
theorem sc_renamed:j6 ["web","names","points","ties"] ["web","names"] (i8 ic):=⟨rfl,rfl,rfl,by decide+kernel,rfl,by decide+kernel,by decide+kernel⟩
abbrev fu:Stmt:=X9 20
theorem sc_is_match:j6 ["piece","web","match","names"] ["piece","web","match"] (i8 fu):=⟨rfl,rfl,rfl,by decide+kernel,rfl,by decide+kernel,by decide+kernel⟩
abbrev rZ:Stmt:=X9 21
theorem sc_line:j6 ["piece","match"] ["piece","match"] (i8 rZ):=⟨rfl,rfl,rfl,by decide+kernel,rfl,by decide+kernel,by decide+kernel⟩
abbrev aQ:Stmt:=X9 22
theorem sc_first_match:j6 ["piece","web","fixed"] ["piece","web","fixed"] (i8 aQ):=⟨rfl,rfl,rfl,by decide+kernel,rfl,by decide+kernel,by decide+kernel⟩
abbrev aT:Stmt:=X9 23
theorem sc_first_found:j6 ["piece","web","piece_looks","web_looks","fixed","told"] ["piece","web","piece_looks","web_looks","fixed"] (i8 aT):=⟨rfl,rfl,rfl,by decide+kernel,rfl,by decide+kernel,by decide+kernel⟩
abbrev oK:Stmt:=X9 24
theorem sc_found:j6 ["piece","web","piece_looks","web_looks","fixed","most","told","choices","places","names"] ["piece","web","piece_looks","web_looks","fixed","most"] (i8 oK):=⟨rfl,rfl,rfl,by decide+kernel,rfl,by decide+kernel,by decide+kernel⟩
abbrev jO:Stmt:=X9 25
theorem sc_may_be:j6 ["name","image","fixed"] ["name","image","fixed"] (i8 jO):=⟨rfl,rfl,rfl,by decide+kernel,rfl,by decide+kernel,by decide+kernel⟩
abbrev Z4:Stmt:=X9 26
theorem sc_point_choices:j6 ["piece_looks","web_looks","fixed","choices","name","look","alike"] ["piece_looks","web_looks","fixed"] (i8 Z4):=⟨rfl,rfl,rfl,by decide+kernel,rfl,by decide+kernel,by decide+kernel⟩
abbrev bY:Stmt:=X9 27
theorem sc_tie_places:j6 ["piece","web","fixed","places","name","tie","there","image","other"] ["piece","web","fixed"] (i8 bY):=⟨rfl,rfl,rfl,by decide+kernel,rfl,by decide+kernel,by decide+kernel⟩
abbrev kB:Stmt:=X9 28
theorem sc_enough:j6 ["lists"] ["lists"] (i8 kB):=⟨rfl,rfl,rfl,by decide+kernel,rfl,by decide+kernel,by decide+kernel⟩
abbrev oY:Stmt:=X9 29
theorem sc_lines:j6 ["piece","choices","places","most","names","told","waiting","begun","image"] ["piece","choices","places","most"] (i8 oY):=⟨rfl,rfl,rfl,by decide+kernel,rfl,by decide+kernel,by decide+kernel⟩
abbrev jG:Stmt:=X9 30
theorem sc_images:j6 ["piece","choices","places","begun","names","name","put","unlike"] ["piece","choices","places","begun"] (i8 jG):=⟨rfl,rfl,rfl,by decide+kernel,rfl,by decide+kernel,by decide+kernel⟩
abbrev aO:Stmt:=X9 31
theorem sc_tie_choices:j6 ["piece","places","put","name","ends"] ["piece","places","put","name"] (i8 aO):=⟨rfl,rfl,rfl,by decide+kernel,rfl,by decide+kernel,by decide+kernel⟩
abbrev fw:Stmt:=X9 32
theorem sc_has_room:j6 ["piece","places","put","name","image","longer","due"] ["piece","places","put","name","image"] (i8 fw):=⟨rfl,rfl,rfl,by decide+kernel,rfl,by decide+kernel,by decide+kernel⟩
abbrev sh:Stmt:=X9 34
theorem sc_both:j6 ["web","other"] ["web","other"] (i8 sh):=⟨rfl,rfl,rfl,by decide+kernel,rfl,by decide+kernel,by decide+kernel⟩
abbrev pM:Stmt:=X9 35
theorem sc_alone:j6 ["web","other"] ["web","other"] (i8 pM):=⟨rfl,rfl,rfl,by decide+kernel,rfl,by decide+kernel,by decide+kernel⟩
abbrev tR:Stmt:=X9 36
theorem sc_kept:j6 ["rule"] ["rule"] (i8 tR):=⟨rfl,rfl,rfl,by decide+kernel,rfl,by decide+kernel,by decide+kernel⟩
abbrev oB:Stmt:=X9 37
theorem sc_taken:j6 ["rule"] ["rule"] (i8 oB):=⟨rfl,rfl,rfl,by decide+kernel,rfl,by decide+kernel,by decide+kernel⟩
abbrev fe:Stmt:=X9 38
theorem sc_fresh_of:j6 ["rule"] ["rule"] (i8 fe):=⟨rfl,rfl,rfl,by decide+kernel,rfl,by decide+kernel,by decide+kernel⟩
abbrev ku:Stmt:=X9 39
theorem sc_turned:j6 ["rule"] ["rule"] (i8 ku):=⟨rfl,rfl,rfl,by decide+kernel,rfl,by decide+kernel,by decide+kernel⟩
abbrev kC:Stmt:=X9 41
theorem sc_picked:j6 ["put","names"] ["put","names"] (i8 kC):=⟨rfl,rfl,rfl,by decide+kernel,rfl,by decide+kernel,by decide+kernel⟩
abbrev jT:Stmt:=X9 42
theorem sc_barred:j6 ["web","rule","match","number","bar","told"] ["web","rule","match"] (i8 jT):=⟨rfl,rfl,rfl,by decide+kernel,rfl,by decide+kernel,by decide+kernel⟩
abbrev cT:Stmt:=X9 43
theorem sc_taken_out:j6 ["step"] ["step"] (i8 cT):=⟨rfl,rfl,rfl,by decide+kernel,rfl,by decide+kernel,by decide+kernel⟩
abbrev aW:Stmt:=X9 44
theorem sc_names_serve:j6 ["web","rule","fresh","names"] ["web","rule","fresh"] (i8 aW):=⟨rfl,rfl,rfl,by decide+kernel,rfl,by decide+kernel,by decide+kernel⟩
abbrev gX:Stmt:=X9 45
theorem sc_rest_of:j6 ["web","step","rule","rest"] ["web","step"] (i8 gX):=⟨rfl,rfl,rfl,by decide+kernel,rfl,by decide+kernel,by decide+kernel⟩
abbrev tM:Stmt:=X9 46
theorem sc_done:j6 ["web","step","rule","rest"] ["web","step"] (i8 tM):=⟨rfl,rfl,rfl,by decide+kernel,rfl,by decide+kernel,by decide+kernel⟩
abbrev jL:Stmt:=X9 47
theorem sc_behind:j6 ["step","rule","put"] ["step"] (i8 jL):=⟨rfl,rfl,rfl,by decide+kernel,rfl,by decide+kernel,by decide+kernel⟩
abbrev ua:Stmt:=X9 48
theorem sc_back:j6 ["step"] ["step"] (i8 ua):=⟨rfl,rfl,rfl,by decide+kernel,rfl,by decide+kernel,by decide+kernel⟩
abbrev ae:Stmt:=X9 50
theorem sc__law_cell_at:j6 ["_law_script","_law_k"] ["_law_script","_law_k"] (i8 ae):=⟨rfl,rfl,rfl,by decide+kernel,rfl,by decide+kernel,by decide+kernel⟩
abbrev bL:Stmt:=X9 51
theorem sc__law_mixed:j6 ["_law_cell","_law_k","_law_number"] ["_law_cell","_law_k"] (i8 bL):=⟨rfl,rfl,rfl,by decide+kernel,rfl,by decide+kernel,by decide+kernel⟩
abbrev aV:Stmt:=X9 52
theorem sc__law_stream:j6 ["_law_cell","_law_many","_law_number","_law_found","_law_k"] ["_law_cell","_law_many"] (i8 aV):=⟨rfl,rfl,rfl,by decide+kernel,rfl,by decide+kernel,by decide+kernel⟩
abbrev cI:Stmt:=X9 53
theorem sc__law_name:j6 ["_law_number","_law_k","_law_letters","_law_base","_law_j","_law_at","_law_tag"] ["_law_number","_law_k"] (i8 cI):=⟨rfl,rfl,rfl,by decide+kernel,rfl,by decide+kernel,by decide+kernel⟩
abbrev bM:Stmt:=X9 54
theorem sc__law_words:j6 ["_law_number","_law_many","_law_letters","_law_base","_law_j","_law_at"] ["_law_number","_law_many"] (i8 bM):=⟨rfl,rfl,rfl,by decide+kernel,rfl,by decide+kernel,by decide+kernel⟩
abbrev fG:Stmt:=X9 55
theorem sc__law_web:j6 ["_law_script","_law_number","_law_kinds","_law_points","_law_ties","_law_k","_law_x","_law_names","_law_ends"] ["_law_script","_law_number","_law_kinds"] (i8 fG):=⟨rfl,rfl,rfl,by decide+kernel,rfl,by decide+kernel,by decide+kernel⟩
abbrev aP:Stmt:=X9 56
theorem sc__law_picked:j6 ["_law_web_here","_law_xs","_law_names","_law_points","_law_j","_law_ties","_law_k","_law_name_here","_law_tie"] ["_law_web_here","_law_xs"] (i8 aP):=⟨rfl,rfl,rfl,by decide+kernel,rfl,by decide+kernel,by decide+kernel⟩
abbrev fj:Stmt:=X9 57
theorem sc__law_out:j6 ["_law_web_here","_law_points","_law_ties","_law_xs","_law_out_here","_law_k","_law_name_here","_law_loose"] ["_law_web_here","_law_points","_law_ties","_law_xs"] (i8 fj):=⟨rfl,rfl,rfl,by decide+kernel,rfl,by decide+kernel,by decide+kernel⟩
abbrev cn:Stmt:=X9 58
theorem sc__law_rule:j6 ["_law_web_here","_law_xs","_law_words_here","_law_kinds","_law_points","_law_ties","_law_out_here","_law_word_of","_law_left","_law_right_here","_law_k","_law_name_here","_law_kind","_law_begin","_law_end","_law_ends","_law_match","_law_word"] ["_law_web_here","_law_xs","_law_words_here","_law_kinds"] (i8 cn):=⟨rfl,rfl,rfl,by decide+kernel,rfl,by decide+kernel,by decide+kernel⟩
abbrev cG:Stmt:=X9 59
theorem sc__law_step:j6 ["_law_web_here","_law_xs","_law_words_here","_law_kinds","_law_names","_law_rule_here","_law_match","_law_fresh","_law_word"] ["_law_web_here","_law_xs","_law_words_here","_law_kinds","_law_names"] (i8 cG):=⟨rfl,rfl,rfl,by decide+kernel,rfl,by decide+kernel,by decide+kernel⟩
abbrev cW:Stmt:=X9 60
theorem sc__law_done:j6 ["_law_web_here","_law_step_here","_law_rule_here","_law_match","_law_fresh","_law_out_here","_law_points","_law_name_here","_law_ties","_law_names","_law_word","_law_kind","_law_begin","_law_end"] ["_law_web_here","_law_step_here"] (i8 cW):=⟨rfl,rfl,rfl,by decide+kernel,rfl,by decide+kernel,by decide+kernel⟩
abbrev cU:Stmt:=X9 61
theorem sc__law_copy:j6 ["_law_step_here","_law_rule_here","_law_match","_law_fresh","_law_pieces"] ["_law_step_here"] (i8 cU):=⟨rfl,rfl,rfl,by decide+kernel,rfl,by decide+kernel,by decide+kernel⟩
abbrev dg:Stmt:=X9 62
theorem sc__law_same:j6 ["_law_found","_law_web_here"] ["_law_found","_law_web_here"] (i8 dg):=⟨rfl,rfl,rfl,by decide+kernel,rfl,by decide+kernel,by decide+kernel⟩
abbrev fF:Stmt:=X9 63
theorem sc__law_met:j6 ["_law_web_here","_law_bar","_law_match","_law_held","_law_word","_law_tie"] ["_law_web_here","_law_bar","_law_match"] (i8 fF):=⟨rfl,rfl,rfl,by decide+kernel,rfl,by decide+kernel,by decide+kernel⟩
abbrev cX:Stmt:=X9 64
theorem sc__law_bars:j6 ["_law_left","_law_xs","_law_words_here","_law_kinds","_law_bars_here","_law_k","_law_x","_law_bar","_law_ends","_law_kind"] ["_law_left","_law_xs","_law_words_here","_law_kinds"] (i8 cX):=⟨rfl,rfl,rfl,by decide+kernel,rfl,by decide+kernel,by decide+kernel⟩
abbrev fE:Stmt:=X9 65
theorem sc__law_set:j6 ["_law_script","_law_first","_law_second","_law_kinds"] ["_law_script"] (i8 fE):=⟨rfl,rfl,rfl,by decide+kernel,rfl,by decide+kernel,by decide+kernel⟩
abbrev dD:Stmt:=X9 66
theorem sc__law_back:j6 ["_law_step_here","_law_rule_here","_law_match","_law_fresh","_law_there","_law_old","_law_word"] ["_law_step_here"] (i8 dD):=⟨rfl,rfl,rfl,by decide+kernel,rfl,by decide+kernel,by decide+kernel⟩
abbrev bF:Stmt:=X9 67
theorem sc__law_right:j6 ["_law_web_here","_law_step_here","_law_given","_law_then","_law_there","_law_way","_law_again","_law_thing"] ["_law_web_here","_law_step_here"] (i8 bF):=⟨rfl,rfl,rfl,by decide+kernel,rfl,by decide+kernel,by decide+kernel⟩
abbrev xB:Stmt:=X9 68
theorem sc_law:j6 ["_law_script","_law_first","_law_kinds","_law_web_here","_law_was","_law_cell","_law_xs","_law_words_here","_law_names","_law_rule_here","_law_match","_law_fresh","_law_bars_here","_law_step_here"] ["_law_script"] (i8 xB):=⟨rfl,rfl,rfl,by decide+kernel,rfl,by decide+kernel,by decide+kernel⟩
abbrev bZ:Str:="abcdefghijklmnopqrstuvwxyz"
abbrev fP:Str:="abcdefghijklmnopqrstuvwxyz0123456789."
structure Txt (K:Qe) (mg:Str->Option Value):Prop where
 r_Barred:ExC K mg "Barred" (cA K "Barred")
 r_Loose:ExC K mg "Loose" (cA K "Loose")
 r_NoMatch:ExC K mg "NoMatch" (cA K "NoMatch")
 r_NoNames:ExC K mg "NoNames" (cA K "NoNames")
 b_all:mg "all"=none
 b_any:mg "any"=none
 b_dict:mg "dict"=none
 b_enumerate:mg "enumerate"=none
 b_int:mg "int"=none
 b_isinstance:mg "isinstance"=none
 b_len:mg "len"=none
 b_list:mg "list"=none
 b_max:mg "max"=none
 b_min:mg "min"=none
 b_range:mg "range"=none
 b_reversed:mg "reversed"=none
 b_set:mg "set"=none
 b_sorted:mg "sorted"=none
 b_str:mg "str"=none
 b_tuple:mg "tuple"=none
 b_zip:mg "zip"=none
 c_MOST_NAME_SIGNS:Fl mg "MOST_NAME_SIGNS" (.int 24)
 c_NAME_SIGNS:Fl mg "NAME_SIGNS" (.str fP)
 c_SMALL_LETTERS:Fl mg "SMALL_LETTERS" (.str bZ)
abbrev kSL:Str:="abcdefghijklmnopqrstuvwxyz"
abbrev kNS:Str:="abcdefghijklmnopqrstuvwxyz0123456789."
def rm (x signs:Str):Bool:=x.cps.toList.all λc=>decide (c∈signs.cps.toList)
def U2 (x signs:Str)(most:Int):Bool:=decide (1<=(x.length:Int))&&decide ((x.length:Int)<=most)&&rm x signs
def Hz (x signs:Str):Bool:=decide (x.cps.toList.headD 0∈signs.cps.toList)
def V4 (x:Str):Bool:=U2 x kNS 24&&Hz x kSL
def K8 (x:Str):Bool:=U2 x kSL 8
def Hi (K:Qe)(H:Hp)(v:V):Prop:=∃t,TyB K H v t/\t≠"str"
def BZ (K:Qe)(f:Str->Bool)(v:V)(H:Hp)(Q:VK):Prop:=
 (∃x,v= .str x/\x.length<=1000/\∀H',Same H H'->Q (.bl (f x)) H')\/(Hi K H v/\∀H',Same H H'->Q (.bl false) H')
def eV (K:Qe):Sp:=λvs H Q _=>∃v signs most,vs=[v,.str signs,.int most]/\BZ K (λx=>U2 x signs most) v H Q
def lC (K:Qe):Sp:=λvs H Q _=>∃v,vs=[v]/\BZ K V4 v H Q
def eI (K:Qe):Sp:=λvs H Q _=>∃c k:Int,vs=[.int c,.int k]/\0<=k/\k<=1000/\∀m:Int,0<=m->Q (.int m) H
def Ft (H:Hp)(Q:VK)(P:List Str->Prop):Prop:=∀(p:Addr) (H':Hp) (ss:List Str),H p=none->Same H H'->H' p=some (.lst (ss.map V.str))->P ss->Q (.ref p) H'
def b7 (W:B0):List Str:=W.pts.map (·.1)++W.ts.map (·.1)
structure WebIs (n:Nat) (K:Qe) (H:Hp) (a p q:Addr) (kvs:List (j0×V)) (W:B0):Prop where
 at_:WebAt K H a p q kvs W
 hp:H p=some (.dK (g5 W.pts))
 hq:H q=some (.dK kvs)
 ne:p≠q
 nd:(b7 W).Nodup
 len:(b7 W).length<=n
 ends:∀x∈W.ts,x.2.2.1∈W.pts.map (·.1)/\x.2.2.2∈W.pts.map (·.1)
 nl:∀x∈b7 W,x.length<=100
theorem WebIs.same {n:Nat}{K:Qe}{H H':Hp}{a p q:Addr}{kvs:List (j0×V)}{W:B0}(h:WebIs n K H a p q kvs W)(s:Same H H'):WebIs n K H' a p q kvs W:=⟨h.at_.mono s.le,s _ _ h.hp,s _ _ h.hq,h.ne,h.nd,h.len,h.ends,h.nl⟩
set_option hygiene false
def zzW(c:Char):StateT (List (List Char)) Lean.MacroM String:=do match (←get) with
 |l::r=>set ((l.dropWhile (·≠c)).tail::r);return String.ofList (l.takeWhile (·≠c))
 |_=>throw .unsupportedSyntax
def zzO(a:StateT (List (List Char)) Lean.MacroM Lean.Term):StateT (List (List Char)) Lean.MacroM Lean.Term:=do match (←get) with
 |('$'::l)::r=>set r;let b←a;modify (l::·);return b
 |_=>a
def zzT:Nat→StateT (List (List Char)) Lean.MacroM Lean.Term
|0=>throw .unsupportedSyntax
|n+1=>do
 let x:=do match (←get) with
  |(c::l)::r=>set (l::r);return c
  |_=>throw .unsupportedSyntax
 let g:=zzT n
 let d:=zzO do return Lean.quote ((←x).toNat-48)
 let s:=zzO do let a:Array Lean.Term:=(((←zzW ';').splitOn ",").map fun z=>⟨Lean.Syntax.mkStrLit z⟩).toArray;`([$a,*])
 let j:=zzO do let a:Array Lean.Term:=((←zzW ';').toList.map fun z=>Lean.quote (z.toNat-48)).toArray;`([$a,*])
 let f:=fun (k:Char) (m:String)=>do return Lean.Syntax.mkApp (Lean.mkIdent m.toName) (←(Array.range (k.toNat-48)).mapM fun _=>g)
 let q:=fun (m:String) (v:Lean.Term)=>(⟨Lean.mkNode `Lean.Parser.Term.namedArgument #[Lean.mkAtom "(",Lean.mkIdent m.toName,Lean.mkAtom ":=",v,Lean.mkAtom ")"]⟩:Lean.Term)
 match (←x) with
 |'\''=>f (←x) (←zzW ' ')
 |'$'=>do match (←get) with
  |s::r=>set r;let b←g;modify (s::·);return b
  |_=>throw .unsupportedSyntax
 |'!'=>do match (←x) with
  |'a'=>`(λ_ _=>rfl)
  |'b'=>`(by walk_at "l")
  |'c'=>`(by kernel_rfl)
  |'d'=>`(by rfl)
  |'e'=>`(by decide)
  |'f'=>`(_)
  |'g'=>`(λ_ _ _ _=>$(←g))
  |'h'=>`(show List.Nodup ($(←s) :List Str) by decide+kernel)
  |'i'=>return q "i" (←d)
  |'j'=>return q "j" (←d)
  |'n'=>d
  |'o'=>return q "own" (←s)
  |'s'=>return q "js" (←j)
  |_=>return ⟨Lean.Syntax.mkStrLit (←zzW ';')⟩
 |c=>do
  let b:=c='~'
  let c←if b then x else pure c
  for e in (if b then "0='6EU $$$$%$
10T.b_dict
2='3bw %'0T.b_enumerate $
30kG
4='2S0 %$
50hr
60xU
70N0
80O4
90LB
a0Lq
b0qF
c0Q6
d0LY
e0LA
f0Boot.«list»
g0T.b_list
h='2pB %$
i='4pH '0jx $$$
j='3ur '0hu $$
k0Boot.«dict»
l=!qdict;
m0Y8
n0cN
o0Boot.«int»
p0T.b_int
q0Boot.«str»
r=!qstr;
s='5II $$'0T.b_zip $$
t='5u9 !i$9L!b$
u0Boot.«min»
v0PassesOwn.leaving
w0Boot.«set»
x0Boot.«tuple»
y=!qtuple;
z='4GJ '0hu $$$
A='3rn $'0T.b_reversed $" else "0='1qV !n$
1='4j9 '2j8 %'0hu '1qV !n$2!a
20d9
3=p$'0j5 
4=7'5u9 !i$9L!b$$
5=p'1qV !n$'0j5 
6='4qC $'1hr.mono !e'0k7 $
72A2
8=p'1qV !n$$
90hN
a=d'1A3 $
b='2W0 '4F7 !i$$L!b$
c='4j9 '2j8 %'0hu '1qV !n$$!a
d1C6
e='4j9 '2j8 %'0hu $$!a
f=R'1K1 %$$
g='4F7 !i$$L!b
h='1u7 !f
i=p$p$'0j5 
j1L9
k=p'1qV !n$p'1qV !n$'0j5 
l=!h$
m=R'0A1 $$
n=!d
o=u$'1qV !n$$$
p2i6
q=t'3E5 %'0P '0w '0T.b_len '0Boot.«len» $
r='2P9 %$
s='3bQ $$'0dU 
t4qB
u4p0
v='5V7 $L$$$
w0Kq
x='8O5 !o$!s$!cL$!g$!g$!g$
y='3iY %L$
z0ja
A1jr
B=!g$
C==$'3kJ $$'3z9 '0P '0w '0hu 
D='2M4 %'0hu 
E=+'0j5 
F=-'2U1 %L~1~k$
G=R'0F2 $$
H4cg
I='2kIn %'0hu 
J0cm
K='2V3 %~5
L0rfl
M0rX
N='7qM $$$$%$$
O='1au '2S0 %$
P1eZ
Q1sC
R3C7
S=d'1A3 '0uC 
T='2cF $'1br $
U0Boot.«sorted»
V0T.b_sorted
W='2Q0 %L
X='2bz %~5
Y1xp
Z='2bA $'1ai $
#0Kz
%0K
&='4zE '1xq %$$$
(0KL
)1Y4
*0Ai
+1Q8
,='2lK '0T.b_range $
-4fU
.0C5
/0KS
:0KR
;0Z7
<0lY
=2Q2
>3BP
?0Boot.«isinstance»
@0T.b_isinstance
[='3iO %'0P '0w 
]0A4
^='<Z0 !i$9L!b!o$!s$!cL$$$$
_='4qC $'1hr.mono !e$$
`0Boot.«all»
{0T.b_all
|='2vQ %L").splitOn "\n" do
   if let a::k::m:=e.toList then
    if a=c then
     if k.isDigit then return (←f k (String.ofList m))
     modify (m::·);let b←g;modify List.tail;return b
  throw .unsupportedSyntax
local macro_rules|`(tactic|walk_at $s:str)=>do
 match s.getString.toList with
 |'@'::l=>let (c,l)←(zzW ' ').run [l];let (x,_)←(zzT 999).run l;let c:=Lean.mkIdent (c++".nd").toName;`(tactic|(have hN:=$c;have hu:=A0 hr;refine ⟨_,QSs.r $x,?_⟩))
 |'#'::l=>let c:=Lean.mkIdent (String.ofList l).toName;`(tactic|refine F.ok $c (λvs H Q E h=>?_) (λc_ A outer s H vs Q E hr h=>?_))
 |_=>throw .unsupportedSyntax
set_option hygiene true
local macro_rules| `(tactic|walk_at "b")=> `(tactic|(intro _ _ _ _ _ _ us hl;first|exact bn0 hl rfl|exact IV hl λ_=>rfl|exact Jc hl λ_ _=>rfl|exact Jg hl λ_ _ _=>rfl|exact Jq hl λ_ _ _ _=>rfl|exact Jo hl λ_ _ _ _ _=>rfl|exact Jl hl λ_ _ _ _ _ _=>rfl))
local macro_rules|`(tactic|walk_at "q")=>do let a:Array (Lean.TSyntax `Lean.Parser.Tactic.tacticSeq)←(("r_par Bq Iq r_callE Gz En IW Ig GU Gu DO Ea Gx DD IB AH vJ Gw HL Dr FT GX DH HE FJ Hd Gn HS CT FV Dj IG Fw EK CB ID Ic zt EC FU r_chain wj Ia yS r_lt_str qv r_eq_bl rO zS r_notIn_sgn r_is yA w_eq_bl gn qt qu w_ne_bl w_ne_str qx n_ne_bl n_ne_str Fs AN Dd r_enum r_zip BA EM Im FK r_un r_neg EY zF GY Gs IA Ir GC Ff".splitOn " ").toArray).mapM fun n=>`(Lean.Parser.Tactic.tacticSeq|refine $(Lean.mkIdent n.toName) ?_);`(tactic|with_reducible first $[|$a]*)
local macro_rules| `(tactic|walk_at "E")=> `(tactic|first
 |walk_at "q"
 |((with_reducible refine' Fb ?h ?_);(case h=>rfl))
 |with_reducible refine CV _ ?_
 |((with_reducible refine' vW ?c ?_);(case c=>(unfold CMul;lia)))
 |((with_reducible refine' IL ?c ?_);(case c=>(first|lia|lia|(dsimp only<;>lia)|(unfold CMul;lia)|(unfold GG;lia)|(unfold HV;decide)|exact Int.pow_pos (by decide))))
 |with_reducible refine gM (by assumption) ?_)
local macro_rules| `(tactic|walk_at "X")=> `(tactic|try with_reducible refine gM (by assumption) ?_)
local macro_rules| `(tactic|walk_at "S")=> `(tactic|with_reducible refine FH λ_ _=>?_)
local macro_rules| `(tactic|walk_at "R")=> `(tactic|first|walk_at "S"|with_reducible refine r_try ?_|walk_at "E")
local macro_rules| `(tactic|symm)=> `(tactic|repeat walk_at "R")
local macro_rules| `(tactic|rfl')=> `(tactic|repeat walk_at "E")
local macro_rules| `(tactic|walk_at "l")=> `(tactic|first|exact Or.inl rfl|exact Or.inr rfl)
section
variable {P:Program} {w:World} {K:Qe} {mg:Str->Option Value} {base:Heap}
def bE (i:Int):Nat:=("abcdefghijklmnopqrstuvwxyz":Str).cps.toList.getD i.toNat 0
theorem sS (i:Int)(h0:0<=i)(h1:i<26):oj ("abcdefghijklmnopqrstuvwxyz":Str).cps.toList i=some (bE i):=by
 have hl:("abcdefghijklmnopqrstuvwxyz":Str).cps.toList.length=26:=by decide+kernel
 obtain⟨v,hv,OI⟩:=ib (xs:=("abcdefghijklmnopqrstuvwxyz":Str).cps.toList) h0 (by rw[hl];exact h1);rw[hv];unfold bE;rw[Kh,OI];rfl
theorem pU:∀i j:Nat,i<26->j<26->bE i=bE j->i=j:=by
 have h:∀i,i<26->∀j,j<26->bE (i:Nat)=bE (j:Nat)->i=j:=by decide+kernel
 exact λi j hi hj=>h i hi j hj
theorem AF {x y:Str}{c d:Nat}(h:x++(⟨#[c]⟩:Str)++y=x++(⟨#[d]⟩:Str)++y):c=d:=by
 have h':(x.cps++ #[c]++y.cps)=(x.cps++ #[d]++y.cps):=KQ Str.cps h;have h2:=KQ Array.toList h';simpa using h2
theorem jA {f:Nat->Str}:∀{n:Nat},(∀i j,i<n->j<n->f i=f j->i=j)->((List.range n).map f).Nodup
 |0,_=>Lc
 |n+1,h=>by
  rw[LL,JF];refine F4 (jA λi j hi hj=>h i j (by lia) (by lia)) λm=>?_;obtain⟨i,hi,e⟩:=Jz.mp m;have RV:=LH.mp hi;have z:=h i n (by lia) (by lia) e;lia
theorem sg {σ:L2.St}{f:(Nat->Option V)->L2.St}(h:σ=f λk=>σ.getD k none):∃u,σ=f u:=⟨_,h⟩
theorem j3 {H:Hp}{Q:VK}{p:Addr}{x:V}{xs:List V}(h:SqT K H p (x::xs))(q:Q x H):kQ K (.ref p) (.int 0) H Q:=bx h (F0 (j:=0) rfl) q
theorem i9 {H:Hp}{Q:VK}{p:Addr}{x y:V}{xs:List V}(h:SqT K H p (x::y::xs))(q:Q y H):kQ K (.ref p) (.int 1) H Q:=bx h (F0 (j:=1) rfl) q
theorem V5 {H:Hp}{Q:VK}{p:Addr}{x y z:V}{xs:List V}(h:SqT K H p (x::y::z::xs))(q:Q z H):kQ K (.ref p) (.int 2) H Q:=bx h (F0 (j:=2) rfl) q
theorem md (x:Int){n:Int}(h:0<n):x % n=((x % n).toNat:Int):=(Int.toNat_of_nonneg (KG x (Int.ne_of_gt h))).symm
theorem gW:("abcdefghijklmnopqrstuvwxyz":Str).length<=sizeLine:=by decide+kernel
theorem U6 (ss:List Str):(ss.map V.str).all J0=true:=by
 rw[LJ,Kk];intro _ _;rfl
theorem rP {F:j0×V->Prop}{kvs:List (j0×V)}{k:j0}{v:V}(h:∀kv∈kvs,F kv)(h':F (k,v)):∀kv∈E3 kvs k v,F kv:=by
 intro kv f_;unfold E3 at f_;split at f_
 .obtain⟨x,hx,e⟩:=Jz.mp f_;split at e
  .next e'=>rw[←e,e'];exact h'
  .rw[←e];exact h x hx
 .rcases JD.mp f_ with z|z
  .exact h kv z
  .rw[JN.mp z];exact h'
theorem CZ {kvs:List (j0×V)}{k:j0}{v:V}(h:(kvs.map (·.1)).Nodup):((E3 kvs k v).map (·.1)).Nodup:=by grind [E3,z0]
theorem jl {pts:List (Str×Str)}:∀kv∈g5 pts,∃n s,kv=(Sum.inr n,V.str s):=by
 intro kv h;obtain⟨x,_,e⟩:=Jz.mp h;exact⟨x.1,x.2,e.symm⟩
theorem fV {K:Qe}{H:Hp}{d:Addr}{k1 k2 kv:_}{x:Str×M8}(h:H d=some (.dK k1))(t:TieAt K H kv x):TieAt K (p5 H d (.dK k2)) kv x:=by
 obtain⟨e,a,ea,s⟩:=t;refine⟨e,a,ea,?_⟩;rcases s with s|s
 .refine .inl ?_;by_cases z:a=d
  .subst z;rcases s with s|⟨_,s⟩<;>(rw[h] at s;cases s)
  .unfold Rd;rw[d6 z];exact s
 .exact .inr s
theorem D5 {H H1:Hp}{d:Addr}{o:HO}(s:Same H H1)(h:H d=none):Same H (p5 H1 d o):=λb u e=>by
 rw[d6 (b5 e h)];exact s _ _ e
theorem N4 {ss:List Str}{i:Int}(h0:0<=i)(h1:i<ss.length):∃x,oj (ss.map V.str) i=some (.str x)/\x∈ss:=by
 obtain⟨v,hv,OI⟩:=ib (xs:=ss.map V.str) h0 (by rw[Jx];exact h1);rw[JC] at OI;obtain⟨x,hx,e⟩:=Kd.mp OI;exact⟨x,by rw[hv,e],JM hx⟩
theorem B6 {α:Type}(l:List (Str×α)):(l.map (·.1)).map (Sum.inr:Str->j0)=l.map λx=>Sum.inr x.1:=by rw[Km];rfl
theorem Y1 {l:List Str}{n:Str}(h:(Sum.inr n:j0)∈l.map (Sum.inr:Str->j0)):n∈l:=by
 obtain⟨x,hx,e⟩:=Jz.mp h;rw[←LD e];exact hx
theorem N8 {kvs:List (j0×V)}{k:j0}(h:k∉kvs.map (·.1)):z0 kvs k=none:=by
 cases e:z0 kvs k with
 |none=>rfl
 |some v=>exact absurd (uq e) h
theorem Dl {a:List (Str×Str)}{b:List (Str×M8)}{n:Str}{t:M8}(h:(a.map (·.1)++b.map (·.1)).Nodup)(f:n∉a.map (·.1)++b.map (·.1)):(a.map (·.1)++(b++[(n,t)]).map (·.1)).Nodup:=by
 rw[JF,←KH];exact F4 h f
theorem ye {a:List (Str×Str)}{b:List (Str×M8)}{n s:Str}(h:(a.map (·.1)++b.map (·.1)).Nodup)(f:n∉a.map (·.1)++b.map (·.1)):((a++[(n,s)]).map (·.1)++b.map (·.1)).Nodup:=by grind
theorem As {a:List (Str×Str)}{b:List (Str×M8)}{n:Str}{t:M8}{l:List Str}(h:∀x∈a.map (·.1)++b.map (·.1),x∈l)(f:n∈l):∀x∈a.map (·.1)++(b++[(n,t)]).map (·.1),x∈l:=by grind
theorem uW {a:List (Str×Str)}{b:List (Str×M8)}{n s:Str}{l:List Str}(h:∀x∈a.map (·.1)++b.map (·.1),x∈l)(f:n∈l):∀x∈(a++[(n,s)]).map (·.1)++b.map (·.1),x∈l:=by grind
theorem A7 {α β : Type} {F : α -> β -> Prop} : ∀ {l : List α} {m : List β} {a : α} {b : β}, Paired F l m -> F a b -> Paired F (l ++ [a]) (m ++ [b])
 := by
  intro l m a b hp h;induction hp with
  | nil => exact .cons h .nil
  | cons r _ ih => exact .cons r ih
theorem aG : ∀ {kvs : List (j0 × V)} {kv : j0 × V}, (kvs.map (·.1)).Nodup -> kv ∈ kvs -> z0 kvs kv.1 = some kv.2
 := by
  intro kvs kv nd h;induction kvs with
  | nil => cases h
  | cons p r ih =>
    have nd' := KN.mp (show (p.1 :: r.map (·.1)).Nodup from nd)
    rcases Kl.mp h with z | z
    . rw [z]; exact J1 rfl
    . rw [I9 λe => nd'.1 (by rw [e]; exact Jz.mpr ⟨kv, z, rfl⟩)]
      exact ih nd'.2 z
theorem DZ {kvs:List (j0×V)}{ss:List Str}(hk:kvs.map (·.1)=ss.map Sum.inr)(nd:(kvs.map (·.1)).Nodup):kvs=ss.map λs=>(Sum.inr s,(z0 kvs (Sum.inr s:j0)).getD .non):=by
 have h1:kvs=kvs.map λkv=>(kv.1,(z0 kvs kv.1).getD .non):=by
  have:∀kv∈kvs,kv=(kv.1,(z0 kvs kv.1).getD .non):=λkv h=>by rw[aG nd h];rfl
  exact(NB kvs).symm.trans (KA this)
 have h2:(kvs.map λkv=>(kv.1,(z0 kvs kv.1).getD V.non))=(kvs.map (·.1)).map λk=>(k,(z0 kvs k).getD .non):=by rw[Km];rfl
 rw[hk,Km] at h2;exact h1.trans h2
theorem kj:∀{r a:List (j0×V)},((a++r).map (·.1)).Nodup->r.foldl (λa x=>E3 a x.1 x.2) a=a++r
 |[],a,_=>by simp
 |p::r,a,nd=>by
  rw[Mu];have nd':((a++[p]++r).map (·.1)).Nodup:=by rw[KH];exact nd
  have hf:p.1∉a.map (·.1):=λm=>by
   rw[JF] at nd;exact(JQ.mp nd).2.2 p.1 m p.1 (by simp) rfl
  rw[Q4 p.2 (N8 hf),kj (r:=r) (a:=a++[(p.1,p.2)]) nd',KH];rfl
theorem Z9 {kvs:List (j0×V)}(nd:(kvs.map (·.1)).Nodup):bf kvs=kvs:=by
 unfold bf;rw[kj (by simpa using nd)];rfl
theorem PrV.mono {K:Qe}{H H':Hp}{x:V}{kv:j0×V}(l:Le H H')(h:PrV K H x kv):PrV K H' x kv:=let ⟨t,e,s⟩:=h;⟨t,e,l.tup s⟩
theorem aC {α β:Type}{F:α->β->Prop}{l2 m:List α}(h:l2.Perm m):∀{r:List β},Paired F m r->∃r',Paired F l2 r'/\r'.Perm r:=by
 induction h with
 |nil=>intro r p;cases p;exact⟨[],.nil,.nil⟩
 |cons x _ ih=>
  intro r p
  cases p with
  |cons a b=>
   obtain⟨r',h1,h2⟩:=ih b
   exact⟨_::r',.cons a h1,h2.cons _⟩
 |swap x y l=>
  intro r p
  cases p with
  |cons a b=>
   cases b with
   |cons c d=>exact⟨_::_::_,.cons c (.cons a d),.swap _ _ _⟩
 |trans _ _ ih1 ih2=>
  intro r p
  obtain⟨r',h1,h2⟩:=ih2 p
  obtain⟨r'',h3,h4⟩:=ih1 h1
  exact⟨r'',h3,h4.trans h2⟩
theorem bO:∀pts:List (Str×Str),Paired (fun(kv:j0×V) (x:Str×Str)=>kv=(Sum.inr x.1,.str x.2)) (g5 pts) pts
 |[]=> .nil
 |x::r=> .cons rfl (bO r)
theorem eY:∀{kvs:List (j0×V)} {pts:List (Str×Str)},Paired (fun(kv:j0×V) (x:Str×Str)=>kv=(Sum.inr x.1,.str x.2)) kvs pts->kvs=g5 pts
 |_,_,.nil=>rfl
 |_,_,.cons e t=>by rw[e,eY t];rfl
theorem zj {kvs:List (j0×V)}{pts:List (Str×Str)}(h:kvs.Perm (g5 pts)):∃OK,kvs=g5 OK/\OK.Perm pts:=by
 obtain⟨r,h1,h2⟩:=aC h (bO pts);exact⟨r,eY h1,h2⟩
theorem j7 (pts:List (Str×Str)):(g5 pts).length=pts.length:=by unfold g5;rw[Jx]
theorem V0 {pts:List (Str×Str)}{i:Nat}{kv:j0×V}(h:(g5 pts)[i]?=some kv):∃x,pts[i]?=some x/\kv=(Sum.inr x.1,.str x.2):=by
 unfold g5 at h;rw[JC] at h;obtain⟨x,hx,e⟩:=Kd.mp h;exact⟨x,hx,e.symm⟩
theorem O1 {D d:Addr}{kvs:List (j0×V)}{o:Obj}{u:HO}{H H1:Hp}(h:H d=some (.dK kvs))(s:Same (z7 d o kvs H) H1)(hD:H1 D=none):Same H (thaw d (p5 H1 D u)):=
 Same.thaw h λb v z=>by rw[d6 (b5 (s _ _ z) hD)];exact s _ _ z
theorem Z3 {D d:Addr}{kvs:List (j0×V)}{o:Obj}{u:HO}{H H1:Hp}(s:Same (z7 d o kvs H) H1)(hD:H1 D=none):(thaw d (p5 H1 D u)) D=some u:=by
 have hDq:D≠d:=λz=>by rw[z,s _ _ d0] at hD;cases hD
 rw[O0 hDq,d0]
theorem oO {D d:Addr}{u:HO}{H1:Hp}(hD:H1 D=none):Le H1 (thaw d (p5 H1 D u)):=by
 have s:Same H1 (p5 H1 D u):=λb v z=>by rw[d6 (b5 z hD)];exact z
 exact s.le.trans pd
theorem P8 {pts:List (Str×Str)}(h:(pts.map (·.1)).Nodup):((g5 pts).map (·.1)).Nodup:=by grind [g5]
theorem A9 {α:Type}:∀{l:List (Str×α)} {n:Str} {x y:α},(l.map (·.1)).Nodup->(n,x)∈l->(n,y)∈l->x=y
 |p::r,n,x,y,nd,hx,hy=>by
  have nd':=KN.mp (show(p.1::r.map (·.1)).Nodup from nd);rcases Kl.mp hx with zx|zx
  .rcases Kl.mp hy with zy|zy
   .have:=zx.trans zy.symm;exact(LG this).2
   .exact absurd (Jz.mpr ⟨(n,y),zy,by rw[←zx]⟩) nd'.1
  .rcases Kl.mp hy with zy|zy
   .exact absurd (Jz.mpr ⟨(n,x),zx,by rw[←zy]⟩) nd'.1
   .exact A9 nd'.2 zx zy
theorem gK {K:Qe}{H:Hp}{kvs:List (j0×V)}{ts:List (Str×M8)}{n:Str}{t:M8}(w:TiesIs K H kvs ts)(nd:(ts.map (·.1)).Nodup)(h:(n,t)∈ts):∃a,z0 kvs (Sum.inr n:j0)=some (.ref a)/\SqT K H a (Z5 t):=by
 obtain⟨a,x,h1,h2,h3⟩:=TiesIs.val (ts:=ts) w (Jz.mpr ⟨(n,t),h,rfl⟩);rw[A9 nd h h2];exact⟨a,h1,h3⟩
theorem L5 {pts:List (Str×Str)}{n k:Str}(nd:(pts.map (·.1)).Nodup)(h:(n,k)∈pts):z0 (g5 pts) (Sum.inr n:j0)=some (.str k):=
 aG (kv:=(Sum.inr n,.str k)) (P8 nd) (Jz.mpr ⟨(n,k),h,rfl⟩)
theorem ki {n:Str}:∀{gs:List Str},Hg (.str n) (gs.map V.str)=decide (n∈gs)
 |[]=>rfl
 |g::r=>by
  show(dH (.str g) (.str n)||Hg (.str n) (r.map V.str))=_;rw[ki (gs:=r),show dH (.str g) (.str n)=decide (g=n) by unfold dH;rw[Kw];simp];rw[Kw];simp;constructor
  .rintro(h|h)
   .exact .inl h.symm
   .exact .inr h
  .rintro(h|h)
   .exact .inl h.symm
   .exact .inr h
theorem E2 {K:Qe}{H:Hp}{Q:VK}{l:Addr}{gs:List Str}{n:Str}(h:SqL K H l (gs.map V.str))(q:Q (.bl (!decide (n∈gs))) H):jw K (.str n) (.ref l) H Q:=
 .inr (.inl ⟨l,_,rfl,.inl h,rfl,U6 _,by rw[if_pos rfl,ki];exact q⟩)
theorem dN {K:Qe}{H:Hp}{Q:VK}{l:Addr}{gs:List Str}{n:Str}(h:SqL K H l (gs.map V.str))(q:Q (.bl (decide (n∈gs))) H):xh K (.str n) (.ref l) H Q:=
 qJ (.inl h) rfl (U6 _) (by rw[ki];exact q)
def gj (gs:List Str):j0->Bool
 | .inr n=>decide (n∈gs)
 |_=>false
theorem Y7 {α β:Type}{F:α->β->Prop}{f:α->Bool}{g:β->Bool}(h:∀a b,F a b->f a=g b):∀{l:List α} {m:List β},Paired F l m->Paired F (l.filter f) (m.filter g)
 |_,_,.nil=> .nil
 |a::l,b::m,.cons r t=>by
  have z:=Y7 h t;have e:=h a b r;cases hb:g b with
  |true=>rw[Ki (by rw[e,hb]),Ki hb];exact .cons r z
  |false=>rw[Kp (by rw[e,hb];simp),Kp (by rw[hb];simp)];exact z
theorem R0 {α β:Type}{f:α->β}{p:α->Bool}{l:List α}(h:(l.map f).Nodup):((l.filter p).map f).Nodup:=h.sublist ((Ke).map f)
theorem iw {ka kb:List (j0×V)}(nd:((ka++kb).map (·.1)).Nodup):Q7 ka kb=ka++kb:=kj nd
theorem la {α β : Type} {F : α -> β -> Prop} : ∀ {l1 l2 : List α} {m1 m2 : List β}, Paired F l1 m1 -> Paired F l2 m2 -> Paired F (l1 ++ l2) (m1 ++ m2)
 := by
  intro l1 l2 m1 m2 hp h;induction hp with
  | nil => exact h
  | cons r _ ih => exact .cons r ih
theorem uU {K:Qe}{H:Hp}{kvs:List (j0×V)}{ts:List (Str×M8)}(w:TiesIs K H kvs ts)(h:(ts.map (·.1)).Nodup):(kvs.map (·.1)).Nodup:=by
 rw[w.keys,←B6];refine My _ ?_ h;exact λa b h z=>h (LD z)
theorem I0 {K:Qe}{H:Hp}{d:Addr}{k1 k2:List (j0×V)}{kvs:List (j0×V)}{ts:List (Str×M8)}(h:H d=some (.dK k1))(w:TiesIs K H kvs ts):TiesIs K (p5 H d (.dK k2)) kvs ts:=Paired.imp' (λ_ _ z=>fV h z) w
theorem J3 {pts:List (Str×Str)}{n:Str}:(z0 (g5 pts) (Sum.inr n:j0)).isSome=decide (n∈pts.map (·.1)):=by grind [z0,g5]
theorem U4 {K:Qe}{H:Hp}{kvs:List (j0×V)}{ts:List (Str×M8)}{n:Str}(w:TiesIs K H kvs ts):(z0 kvs (Sum.inr n:j0)).isSome=decide (n∈ts.map (·.1)):=by
 by_cases hn:n∈ts.map (·.1)
 .obtain⟨a,x,h1,_⟩:=TiesIs.val (ts:=ts) w hn;rw[h1,JX hn];rfl
 .cases e:z0 kvs (Sum.inr n:j0) with
  |none=>simp [hn]
  |some v=>
   have z:=uq e
   rw[w.keys,←B6] at z
   exact absurd (Y1 z) hn
theorem ue {K:Qe}{H:Hp}{kb:List (j0×V)}:∀{ka:List (j0×V)},(∀kv∈ka,∃y,z0 kb kv.1=some y/\Eq1 K H kv.2 y true)->EqH K H kb ka true
 |[],_=> .nil
 |kv::r,h=>by
  obtain⟨y,h1,h2⟩:=h kv JT;exact EqH.hit (e:=true) (b:=true) h1 h2 (ue λx hx=>h x (JZ _ hx))
theorem Ap {K:Qe}{H:Hp}(s:Str):Eq1 K H (.str s) (.str s) true:=by
 have z:=Eq1.flat (K:=K) (H:=H) (x:= .str s) (y:= .str s) rfl rfl;rw[gG rfl] at z;exact z
theorem yx {K:Qe}{H:Hp}{a b:Addr}{t:M8}(h:SqT K H a (Z5 t))(h':SqT K H b (Z5 t)):Eq1 K H (.ref a) (.ref b) true:=by
 have z:=Eq1.tup h h' rfl rfl;rw[dJ rfl] at z;exact z
theorem dQ {K:Qe}{H:Hp}{p p':Addr}{pts OK:List (Str×Str)}(q_:p≠p')(h1:Rd H p (.dK (g5 pts)))(h2:Rd H p' (.dK (g5 OK)))(pm:pts.Perm OK)(nd:(OK.map (·.1)).Nodup):EqD K H p p' true:=
 .inr ⟨q_,_,_,true,h1,h2,ue λkv f_=>by
  obtain⟨x,hx,rfl⟩:=Jz.mp f_;exact⟨_,L5 nd (pm.mem_iff.mp hx),Ap _⟩,by rw[j7,j7,pm.length_eq];simp⟩
theorem dw {K:Qe}{H:Hp}{q q':Addr}{kvs d_:List (j0×V)}{ts Vt:List (Str×M8)}(q_:q≠q')(h1:Rd H q (.dK kvs))(h2:Rd H q' (.dK d_))(w:TiesIs K H kvs ts)(w':TiesIs K H d_ Vt)(pm:ts.Perm Vt)(nd:(Vt.map (·.1)).Nodup):EqD K H q q' true:=
 .inr ⟨q_,_,_,true,h1,h2,ue λkv f_=>by
  obtain⟨i,hi⟩:=Lj f_;obtain⟨x,hx,ex,b,eb,sb⟩:=w.get hi;obtain⟨c,e1,e2⟩:=gK w' nd (pm.mem_iff.mp (JM hx));refine⟨.ref c,by rw[ex];exact e1,?_⟩;rw[eb];exact yx sb e2,by rw[w.length,w'.length,pm.length_eq];simp⟩
theorem Q5 {K:Qe}{H:Hp}{a d:Addr}{k1:List (j0×V)}{u:HO}{xs:List V}(h:H d=some (.dK k1))(s:SqT K H a xs):SqT K (p5 H d u) a xs:=by grind [SqT,p5,Rd]
theorem oA : ∀ {kvs : List (j0 × V)} {k : j0} {v : V}, z0 kvs k = some v -> (k, v) ∈ kvs
 := by
  intro kvs k v h;induction kvs with
  | nil => cases h
  | cons p r ih =>
    by_cases e : p.1 = k
    . rw [J1 e] at h
      rw [← e, ← JU h]; exact JT
    . rw [I9 e] at h
      exact JZ _ (ih h)
theorem qI (a b:M8):U5 (Z5 a) (Z5 b)=decide (a=b):=by
 obtain⟨a1,a2,a3⟩:=a;obtain⟨b1,b2,b3⟩:=b;show(a1==b1&&(a2==b2&&(a3==b3&&true)))=_;rw[Kw];simp
theorem gD (a:M8):(Z5 a).all J0=true:=rfl
theorem gk {pts:List (Str×Str)}{n:Str}{v:V}(h:z0 (g5 pts) (Sum.inr n:j0)=some v):∃k,v= .str k/\(n,k)∈pts:=by
 obtain⟨x,hx,e⟩:=Jz.mp (oA h);obtain⟨x1,x2⟩:=x;have e1:=(LG e).1;have e2:=(LG e).2;exact⟨x2,e2.symm,by rw[←LD e1];exact hx⟩
theorem FQ {H:Hp}{Q:VK}{pts:List (Str×Str)}{m k:Str}(nd:(pts.map (·.1)).Nodup)(q:Q (.bl (decide ((m,k)∈pts))) H):jC K ((z0 (g5 pts) (Sum.inr m:j0)).getD .non) (.str k) H Q:=by
 cases e:z0 (g5 pts) (Sum.inr m:j0) with
 |none=>
  refine lQ (oE ?_)
  rw[Kf (λz=>by rw[L5 nd z] at e;cases e)] at q;exact q
 |some v=>
  obtain⟨k2,rfl,hk⟩:=gk e
  refine gn ?_
  have:decide (k2=k)=decide ((m,k)∈pts):=by
   rw[Kw,Ko,Ko];exact⟨λz=>z▸hk,λz=>A9 nd hk z⟩
  rw[this];exact q
theorem EO {H:Hp}{Q:VK}{kvs:List (j0×V)}{ts:List (Str×M8)}{m:Str}{y:M8}{l:Addr}(w:TiesIs K H kvs ts)(nd:(ts.map (·.1)).Nodup)(hl:SqT K H l (Z5 y))(q:Q (.bl (decide ((m,y)∈ts))) H):jC K ((z0 kvs (Sum.inr m:j0)).getD .non) (.ref l) H Q:=by
 by_cases hm:m∈ts.map (·.1)
 .obtain⟨a,x,h1,h2,h3⟩:=TiesIs.val (ts:=ts) w hm;rw[h1];refine lQ (pX h3 hl (gD _) (gD _) ?_);rw[qI];have:decide (x=y)=decide ((m,y)∈ts):=by
   rw[Kw,Ko,Ko];exact⟨λz=>z▸h2,λz=>A9 nd h2 z⟩
  rw[this];exact q
 .have e:z0 kvs (Sum.inr m:j0)=none:=by
   have z:=U4 (n:=m) w;rw[Kf hm] at z;cases e:z0 kvs (Sum.inr m:j0) with
   |none=>rfl
   |some v=>rw[e] at z;cases z
  rw[e];refine lQ (oZ hl ?_);rw[Kf (λz=>hm (Jz.mpr ⟨_,z,rfl⟩))] at q;exact q
theorem A6 {W:B0}(h:(b7 W).Nodup):(W.pts.map (·.1)).Nodup:=(JQ.mp h).1
theorem K2 {W:B0}(h:(b7 W).Nodup):(W.ts.map (·.1)).Nodup:=(JQ.mp h).2.1
theorem CP {t:String}(h:t≠"str"):ig t "str"=false:=by
 unfold ig;have e1:(t=="str")=false:=by simpa using h
 rw[e1];simp
abbrev gr (P:Program)(w:World)(K:Qe)(mg:Str->Option Value)(base:Heap):Prop:=V9 P w K mg base E7 1 "is_text_of" ["thing","signs","most"] [] (eV K)
theorem lH {f:Addr}{fd:FuncData}(T:Txt K mg)(F:Fun K "is_text_of" "is_text_of" bK f fd):C0 P w K mg base E7 1 f fd ["thing","signs","most"] (eV K):=by
 walk_at "#sc_is_text_of"
 .obtain⟨v,signs,most,rfl,_⟩:=h;rfl
 .obtain⟨v,signs,most,rfl,h⟩:=h;walk_at "@sc_is_text_of 7sA'2cF Ot[@?803>~r'0T.b_str ~qTu~3q502hu'0yY q5002hSat|{`3xsign;1;r00g0lsign,signs;JHI0001n"
  rcases h with⟨x,rfl,hx,k⟩|⟨⟨t,ty,ht⟩,k⟩
  .symm;refine eE (eO (t:="str") rfl (by simp) ?_);symm;rw[if_neg (by decide)];symm;refine E4 (dW (d8 hx) ?_);symm;refine K4 (λh1=>?_) (λh1=>?_)
   .symm;have e:U2 x signs most=false:=by
     unfold U2;rw[Kf (by lia)];rfl
    rw[←e];exact k H (Same.refl H)
   .symm;refine E4 (dW (d8 hx) ?_);symm;refine K4 (λh2=>?_) (λh2=>?_)
    .symm;have e:U2 x signs most=false:=by
      unfold U2;rw[Kf (show ¬((x.length:Int)<=most) by lia)];simp
     rw[←e];exact k H (Same.refl H)
    .symm;refine z8 (n:=x.cps.size) (λi out H'=>H'=H/\out=(x.cps.toList.take i).map λc=>V.bl (decide (c∈signs.cps.toList))) ⟨rfl,rfl⟩ (λi out H' hi _=>by exact hi) ?_ ?_
     .rintro N i v out H1 H2 hi ⟨rfl,rfl⟩ y hN;obtain⟨rfl,c,hc,rfl⟩:=Its.lt y;symm;refine⟨rfl,?_⟩;symm;refine⟨d8 (by rw[Jx,JP,←ff];lia),hN _ _ ⟨rfl,?_⟩⟩;exact K9 (λc=>V.bl (decide (c∈signs.cps.toList))) hc
     .rintro out H1 ⟨rfl,rfl⟩;refine⟨JA _,λD hD=>⟨d8 (by rw[Jx,JP,←ff];lia),?_⟩⟩;symm;refine mK (bs:=x.cps.toList.map λc=>decide (c∈signs.cps.toList)) (SqL.of ?_) ?_
      .show p5 H1 D _ D=_;rw[d0,JK (by simp),Km];rfl
      .have e:U2 x signs most=(x.cps.toList.map λc=>decide (c∈signs.cps.toList)).all id:=by
        unfold U2 rm;rw[JX (show 1<=(x.length:Int) by lia),JX (show(x.length:Int)<=most by lia),LJ];rfl
       rw[←e];exact k _ λb o q=>by
        show p5 H1 D _ b=_;rw[d6 (b5 q hD)];exact q
  .symm;refine eE (eO ty (by simp) ?_);rw[CP ht];symm;exact k H (Same.refl H)
theorem yW {x:Str}(h:1<=(x.length:Int)):oj x.cps.toList 0=some (x.cps.toList.headD 0):=by
 refine F0 (j:=0) ?_;have hl:=ff x;cases e:x.cps.toList with
 |nil=>rw[e] at hl;simp at hl;lia
 |cons c r=>rfl
abbrev mC (P:Program)(w:World)(K:Qe)(mg:Str->Option Value)(base:Heap):Prop:=V9 P w K mg base E7 2 "is_name" ["thing"] [] (lC K)
theorem sr {f:Addr}{fd:FuncData}(T:Txt K mg)(bR:gr P w K mg base)(F:Fun K "is_name" "is_name" hZ f fd):C0 P w K mg base E7 2 f fd ["thing"] (lC K):=by
 walk_at "#sc_is_name"
 .obtain⟨v,rfl,_⟩:=h;rfl
 .obtain⟨v,rfl,h⟩:=h;walk_at "@sc_is_name a'2zq 6'0bR 80i'1Il '0T.c_NAME_SIGNS '1Il '0T.c_MOST_NAME_SIGNS '1By HI10'1Il '0T.c_SMALL_LETTERS n";symm;refine⟨v,_,_,rfl,?_⟩;rcases h with⟨x,rfl,hx,k⟩|⟨no,k⟩
  .refine .inl ⟨x,rfl,hx,λH' sm=>?_⟩;symm;refine aq (λe=>?_) (λe=>?_)
   .symm;have h1:1<=(x.length:Int):=by
     unfold U2 at e;simp only[Kj,Ko] at e;exact e.1.1
    refine bo (d8 hx) (yW h1) ?_;symm;have e2:V4 x=Hz x kSL:=by
     unfold V4;rw[show U2 x kNS 24=true from e,Mz]
    have q:=k H' sm;rw[e2] at q;exact q
   .have e2:V4 x=false:=by
     unfold V4;rw[show U2 x kNS 24=false from e,Bool.false_and]
    have q:=k H' sm;rw[e2] at q;exact q
  .refine .inr ⟨no,λH' sm=>?_⟩;symm;exact k H' sm--SPLIT
def Ck (a b:Str):Prop:=a.cps.toList<b.cps.toList
theorem bj:∀{ss:List Str},Ag ss=true->ss.Pairwise Ck
 |[],_=> .nil
 |[_],_=>List.pairwise_singleton _ _
 |x::y::r,h=>by
  rw[my,Kj] at h;have ih:=bj h.2;have hxy:x.cps.toList<y.cps.toList:=KW h.1;refine LS.mpr ⟨λz hz=>?_,ih⟩;rcases Kl.mp hz with e|e
  .rw[e];exact hxy
  .exact List.lt_trans hxy ((LS.mp ih).1 z e)
theorem rj:∀{a b:List Str},a.Pairwise Ck->b.Pairwise Ck->a.Perm b->a=b
 |[],b,_,_,p=>(List.Perm.nil_eq p)
 |x::r,[],_,_,p=>(List.Perm.eq_nil p)
 |x::r,y::t,h1,h2,p=>by
  have Od:=LS.mp h1;have RX:=LS.mp h2;have e:x=y:=KZ λne=>by
   have m1:x∈y::t:=p.mem_iff.mp JT;have m2:y∈x::r:=p.mem_iff.mpr JT;rcases Kl.mp m1 with z|z
   .exact ne z
   .rcases Kl.mp m2 with z'|z'
    .exact ne z'.symm
    .have q1:y.cps.toList<x.cps.toList:=RX.1 x z;have q2:x.cps.toList<y.cps.toList:=Od.1 y z';exact Nk q1 q2
  subst e;rw[rj Od.2 RX.2 (List.Perm.cons_inv p)]
theorem N5 {a b:List Str}(h1:sortedS a=true)(h2:sortedS b=true)(nd:a.Nodup)(p:a.Perm b):a=b:=
 rj (bj (dE h1 nd)) (bj (dE h2 (p.nodup_iff.mp nd))) p
structure Ordr (W:B0) (s1 s2:List Str):Prop where
 p1:s1.Perm (W.pts.map (·.1))
 p2:s2.Perm (W.ts.map (·.1))
 o1:sortedS s1=true
 o2:sortedS s2=true
theorem Ordr.mem {W:B0}{s1 s2:List Str}(h:Ordr W s1 s2){n:Str}:n∈s1++s2↔n∈b7 W:=by
 unfold b7;rw[JD,JD,h.p1.mem_iff,h.p2.mem_iff]
theorem Ordr.perm {W:B0}{s1 s2:List Str}(h:Ordr W s1 s2):(s1++s2).Perm (b7 W):=h.p1.append h.p2
theorem Ordr.len {W:B0}{s1 s2:List Str}(h:Ordr W s1 s2):(s1++s2).length=(b7 W).length:=h.perm.length_eq
def i7 (kvm:List (j0×V))(n:Str):Str:=match z0 kvm (Sum.inr n:j0) with
 |some (.str s)=>s
 |_=>""
theorem gO {kvm:List (j0×V)}{n s:Str}(h:z0 kvm (Sum.inr n:j0)=some (.str s)):i7 kvm n=s:=by unfold i7;rw[h]
def TxtAt (kvm:List (j0×V))(n:Str):Prop:=∃s,z0 kvm (Sum.inr n:j0)=some (.str s)
theorem TxtAt.at_ {kvm:List (j0×V)}{n:Str}(h:TxtAt kvm n):z0 kvm (Sum.inr n:j0)=some (.str (i7 kvm n)):=by
 obtain⟨s,hs⟩:=h;rw[gO hs];exact hs
theorem zf {H:Hp}{Q:VK}{d:Addr}{kvm:List (j0×V)}{n:Str}(hD:Rd H d (.dK kvm))(h:TxtAt kvm n)(q:Q (.str (i7 kvm n)) H):kQ K (.ref d) (.str n) H Q:=
 k8 (by have z:=E1 (k:=Sum.inr n) hD;rw[h.at_] at z;exact z) q
def nG (K:Qe):Sp:=λvs H Q _=>∃(a p q:Addr) (kvs:List (j0×V)) (W:B0),vs=[.ref a]/\WebAt K H a p q kvs W/\(b7 W).length<=60/\∀(l:Addr) (H':Hp) (s1 s2:List Str),H l=none->Same H H'->H' l=some (.lst ((s1++s2).map V.str))->Ordr W s1 s2->Q (.ref l) H'
theorem A5 (W:B0):(b7 W).length=W.pts.length+W.ts.length:=by unfold b7;rw[JG,Jx,Jx]
abbrev V1 (P:Program)(w:World)(K:Qe)(mg:Str->Option Value)(base:Heap):Prop:=V9 P w K mg base E7 1 "things" ["web"] [] (nG K)
theorem vO {f:Addr}{fd:FuncData}(T:Txt K mg)(F:Fun K "things" "things" kh f fd):C0 P w K mg base E7 1 f fd ["web"] (nG K):=by
 walk_at "#sc_things"
 .obtain⟨a,p,q,kvs,W,rfl,_⟩:=h;rfl
 .obtain⟨a,p,q,kvs,W,rfl,hW,h1,k⟩:=h;rw[A5] at h1;walk_at "@sc_things aftWVU310tWVU310";symm;refine j3 hW.tup ?_;symm;refine B9 (ss:=W.pts.map (·.1)) hW.pts (by rw[J6,B6]) (by rw[Jx];lia) (λs1 a1 a2 l1 n1=>?_);obtain⟨H1,e1,f1,m1,_⟩:=b9 (o:= .lst _) n1;rw[e1];have W1:=hW.mono m1.le;symm;refine i9 W1.tup ?_;symm;refine B9 (ss:=W.ts.map (·.1)) W1.ties (by rw[W1.ts.keys,B6]) (by rw[Jx];lia) (λs2 b1 b2 l2 n2=>?_);obtain⟨H2,e2,f2,m2,_⟩:=b9 (o:= .lst _) n2;rw[e2];have g1:=a1.length_eq;have g2:=b1.length_eq;rw[Jx] at g1 g2;refine mD (m2 _ _ f1) f2 (d8 (by rw[Jx,Jx];lia)) (λl3 n3=>?_);obtain⟨H3,e3,f3,m3,_⟩:=b9 (o:= .lst _) n3;rw[e3];refine k l3 H3 s1 s2 (m1.free (m2.free n3)) (m1.trans (m2.trans m3)) ?_ ⟨a1,b1,a2,b2⟩;rw[f3,JF]
def iF (K:Qe):Sp:=λvs H Q _=>∃(d:Addr) (kvs:List (j0×V)) (ss:List Str),vs=[.ref d]/\Rd H d (.dK kvs)/\kvs.map (·.1)=ss.map Sum.inr/\ss.Nodup/\ss.length<=60/\∀(l:Addr) (H':Hp) (d_:List (j0×V)),H l=none->Same H H'->H' l=some (.dK d_)->d_.Perm kvs->Q (.ref l) H'
def NewP (K:Qe)(H:Hp)(Q:VK)(W:B0):Prop:=∀(a p q:Addr) (kvs:List (j0×V)) (W':B0) (H':Hp),Same H H'->WebAt K H' a p q kvs W'->H' p=some (.dK (g5 W'.pts))->H' q=some (.dK kvs)->p≠q->H p=none->H q=none->W'.pts.Perm W.pts->W'.ts.Perm W.ts->Q (.ref a) H'
def mS (K:Qe):Sp:=λvs H Q _=>∃(a p q:Addr) (kvs:List (j0×V)) (W:B0),vs=[.ref a]/\WebAt K H a p q kvs W/\(W.pts.map (·.1)).Nodup/\(W.ts.map (·.1)).Nodup/\W.pts.length<=60/\W.ts.length<=60/\NewP K H Q W
abbrev kc (P:Program)(w:World)(K:Qe)(mg:Str->Option Value)(base:Heap):Prop:=V9 P w K mg base E7 1 "in_order" ["named"] [] (iF K)
theorem rh {f:Addr}{fd:FuncData}(T:Txt K mg)(F:Fun K "in_order" "in_order" fK f fd):C0 P w K mg base E7 1 f fd ["named"] (iF K):=by
 walk_at "#sc_in_order"
 .obtain⟨d,kvs,ss,rfl,_⟩:=h;rfl
 .obtain⟨d,kvs,ss,rfl,hd,hk,Pw,hl,k⟩:=h;have nd:(kvs.map (·.1)).Nodup:=by
   rw[hk];refine My _ ?_ Pw;exact λa b h z=>h (LD z)
  walk_at "@sc_in_order aF3xname;0;rtWVU50g0lname,named;Jj803c100";symm;refine B9 (ss:=ss) hd hk (by lia) (λs1 a1 a2 l1 n1=>?_);obtain⟨H1,e1,f1,m1,_⟩:=b9 (o:= .lst _) n1;rw[e1];have hd1:=m1.rd hd;have Q_:=a1.length_eq;refine A8 (SqL.of f1) ?_;refine z8 (n:=s1.length) (λi out H'=>Same H1 H'/\Paired (PrV K H') out ((s1.take i).map λs=>(Sum.inr s,(z0 kvs (Sum.inr s:j0)).getD .non))) ⟨Same.refl _,.nil⟩ (λi out H' hi hp=>⟨_,.str (s1[i]),SqL.of (hp.1 _ _ f1),by rw[JC,Jy hi];rfl⟩) ?_ ?_
  .rintro N i v out H2 H3 hi ⟨s2,pr⟩ y hN';obtain⟨rfl,hx⟩:=Itl.get y (SqL.of (s2 _ _ f1));rw[JC] at hx;obtain⟨x,k_,rfl⟩:=Kd.mp hx;have hxk:(Sum.inr x:j0)∈kvs.map (·.1):=by
    rw[hk];exact Jz.mpr ⟨x,a1.mem_iff.mp (JM k_),rfl⟩
   obtain⟨kv,f_,ekv⟩:=Jz.mp hxk;have ev:=aG nd f_;rw[ekv] at ev;have e7:s1.take (i+1)=s1.take i++[x]:=by rw[Kb,k_];rfl
   symm;refine⟨rfl,?_⟩;symm;refine k8 (v:=kv.2) (by have z':=E1 (k:=Sum.inr x) (s2.rd hd1);rw[ev] at z';exact z') ?_;symm;refine⟨d8 (by simp),λt nt=>?_⟩;obtain⟨H4,e4,f4,m4,_⟩:=b9 (o:= .tup _) nt;rw[e4];have I_:=Kr pr;rw[Jx,JP] at I_;refine⟨d8 (by lia),hN' _ _ ⟨s2.trans m4,?_⟩⟩;rw[e7,JF];refine A7 (Paired.imp' (λ_ _ z=>PrV.mono m4.le z) pr) ⟨t,rfl,?_⟩;show SqT K _ t [V.str x,(z0 kvs (Sum.inr x:j0)).getD V.non];rw[ev];exact SqT.of f4
  .rintro out H2 ⟨s2,pr⟩;have I_:=Kr pr;rw[Jx,JP] at I_;refine⟨⟨_,SqL.of (s2 _ _ f1),by rw[Jx];exact JA _⟩,λD hD=>⟨d8 (by lia),?_⟩⟩;obtain⟨H5,e5,f5,m5,_⟩:=b9 (o:= .lst out) hD;show ym _ (p5 _ D _) _;rw[e5];symm;rw[JK (JA _)] at pr;refine X8 (SqL.of f5) (Paired.imp' (λ_ _ z=>PrV.mono m5.le z) pr) (d8 (by rw[Jx];lia)) (λl nl=>?_);obtain⟨H6,e6,f6,m6,_⟩:=b9 (o:= .dK _) nl;rw[e6];have mA:=m1.trans (s2.trans (m5.trans m6));have SO:(s1.map λs=>((Sum.inr s:j0),(z0 kvs (Sum.inr s:j0)).getD V.non)).Perm kvs:=by
    refine List.Perm.trans (a1.map _) ?_;rw[←DZ hk nd]
   rw[Z9 ((SO.map _).nodup_iff.mpr nd)] at f6;exact k l H6 _ ((m1.trans (s2.trans m5)).free nl) mA f6 SO
abbrev dC (P:Program)(w:World)(K:Qe)(mg:Str->Option Value)(base:Heap):Prop:=V9 P w K mg base E7 2 "copied" ["web"] [] (mS K)
theorem vY {f:Addr}{fd:FuncData}(T:Txt K mg)(bX:kc P w K mg base)(F:Fun K "copied" "copied" jU f fd):C0 P w K mg base E7 2 f fd ["web"] (mS K):=by
 walk_at "#sc_copied"
 .obtain⟨a,p,q,kvs,W,rfl,_⟩:=h;rfl
 .obtain⟨a,p,q,kvs,W,rfl,hW,d1,d2,l1,l2,k⟩:=h;walk_at "@sc_copied aji6'0bX 3106'0bX 310";symm;refine j3 hW.tup ?_;symm;refine⟨p,g5 W.pts,W.pts.map (·.1),rfl,hW.pts,by rw[J6,B6],d1,by rw[Jx];exact l1,λp' H1 kp np' m1 f1 pm1=>?_⟩;have W1:=hW.mono m1.le;symm;refine i9 W1.tup ?_;symm;refine⟨q,kvs,W.ts.map (·.1),rfl,W1.ties,by rw[W1.ts.keys,B6],d2,by rw[Jx];exact l2,λq' H2 kq nq' m2 f2 pm2=>?_⟩;symm;refine⟨d8 (by simp),λl9 n9=>?_⟩;obtain⟨H9,e9,f9,m9,_⟩:=b9 (o:= .tup _) n9;rw[e9];obtain⟨OK,rfl,pp⟩:=zj pm1;have W2:=hW.mono (m1.trans (m2.trans m9)).le;obtain⟨Vt,w',pt⟩:=aC pm2 W2.ts;have g1:=m9 _ _ (m2 _ _ f1);have g2:=m9 _ _ f2;exact k l9 p' q' kq ⟨OK,Vt⟩ H9 (m1.trans (m2.trans m9)) ⟨SqT.of f9,.inl g1,.inl g2,w'⟩ g1 g2 (b5 f1 nq') np' (m1.free nq') pp pt
structure rD (W:B0):Prop where
 nm:∀x∈b7 W,V4 x=true
 kd:∀x∈W.pts,K8 x.2=true
 tk:∀x∈W.ts,K8 x.2.1=true
theorem dO {x s:Str}{m:Int}(h:U2 x s m=true):(x.length:Int)<=m:=by
 unfold U2 at h;simp only[Kj,Ko] at h;exact h.1.2
theorem zc {x:Str}(h:V4 x=true):x.length<=1000:=by
 unfold V4 at h;have:=dO (Kj _ _▸h).1;lia
theorem Ad:ig "dict" "dict"=true:=rfl--SPLIT
structure oI (m:Nat) (W:B0):Prop where
 good:rD W
 kds:∀n∈b7 W,K8 n=true
 l1:W.pts.length<=m
 l2:W.ts.length<=m
def uD (K:Qe):Sp:=λvs H Q _=>∃(a p q a' p' q':Addr) (kvs d_:List (j0×V)) (W O:B0),vs=[.ref a,.ref a']/\WebIs 24 K H a p q kvs W/\WebIs 24 K H a' p' q' d_ O/\∀(l:Addr) (H':Hp) (s1 s2:List Str),H l=none->Same H H'->Ordr W s1 s2->H' l=some (.lst (((s1++s2).filter λn=>decide (n∈b7 O)).map V.str))->Q (.ref l) H'
def qm (K:Qe):Sp:=λvs H Q _=>∃(a p q a' p' q':Addr) (kvs d_:List (j0×V)) (W O:B0),vs=[.ref a,.ref a']/\WebIs 24 K H a p q kvs W/\WebIs 24 K H a' p' q' d_ O/\∀(l:Addr) (H':Hp) (s1 s2:List Str),H l=none->Same H H'->Ordr W s1 s2->H' l=some (.lst (((s1++s2).filter λn=>!decide (n∈b7 O)).map V.str))->Q (.ref l) H'
theorem Ax (n:Nat):(List.replicate n true).all id=true:=by rw[Kk];intro b hb;exact(Pp.mp hb).2--SPLIT
abbrev xE (P:Program)(w:World)(K:Qe)(mg:Str->Option Value)(base:Heap):Prop:=V9 P w K mg base E7 2 "both" ["web","other"] [] (uD K)
theorem Av {f:Addr}{fd:FuncData}(T:Txt K mg)(A4:V1 P w K mg base)(F:Fun K "both" "both" sh f fd):C0 P w K mg base E7 2 f fd ["web","other"] (uD K):=by
 walk_at "#sc_both"
 .obtain⟨a,p,q,a',p',q',kvs,d_,W,O,rfl,_⟩:=h;rfl
 .obtain⟨a,p,q,a',p',q',kvs,d_,W,O,rfl,hW,hO,k⟩:=h;have Vu:=hW.len;walk_at "@sc_both axname;1;r6]50g0lname,other;PAToI011noI011n00";symm;refine⟨a,p,q,kvs,W,rfl,hW.at_,by lia,λl1 H1 s1 s2 n1 m1 f1 or=>?_⟩;have hlen:=or.len;refine A8 (SqL.of f1) ?_;refine z8 (n:=(s1++s2).length) (λi out H'=>Same H1 H'/\out=(((s1++s2).take i).filter λn=>decide (n∈b7 O)).map V.str) ⟨Same.refl _,rfl⟩ (λi out H' hi hp=>⟨_,.str ((s1++s2)[i]),SqL.of (hp.1 _ _ f1),by rw[JC,Jy hi];rfl⟩) ?_ ?_
  .rintro N i v out H3' H3 hi ⟨s3,rfl⟩ y hN';obtain⟨rfl,hx⟩:=Itl.get y (SqL.of (s3 _ _ f1));rw[JC,Jy hi] at hx;cases hx;have O3:=hO.at_.mono (m1.trans s3).le;have e7:(s1++s2).take (i+1)=(s1++s2).take i++[(s1++s2)[i]]:=by rw[Kb,Jy hi];rfl
   have J':=JJ (λn=>decide (n∈b7 O)) ((s1++s2).take i);rw[JP] at J';have yes:(decide ((s1++s2)[i]∈b7 O))=true->((((s1++s2).take i).filter λn=>decide (n∈b7 O)).map V.str).length<=sizeLine/\N ((((s1++s2).take i).filter λn=>decide (n∈b7 O)).map V.str++[V.str (s1++s2)[i]]) H3:=λhb=>by
    refine⟨d8 (by rw[Jx];lia),hN' _ _ ⟨s3,?_⟩⟩;rw[e7,Ka,Ki (p:=λn=>decide (n∈b7 O)) hb,KD,JF];rfl
   have no:(decide ((s1++s2)[i]∈b7 O))=false->N ((((s1++s2).take i).filter λn=>decide (n∈b7 O)).map V.str) H3:=λhb=>by
    refine hN' _ _ ⟨s3,?_⟩;rw[e7,Ka,Kp (p:=λn=>decide (n∈b7 O)) (by rw[hb];simp),KD,Ku]
   symm;refine⟨rfl,?_⟩;symm;refine j3 O3.tup ?_;refine V2 (E1 (k:=Sum.inr (s1++s2)[i]) O3.pts) ?_;rw[J3];symm;refine K4 (λb1=>?_) (λb1=>?_)
   .symm;refine yes (by rw[JX (show(s1++s2)[i]∈b7 O from JB _ b1)])
   .symm;refine i9 O3.tup ?_;refine V2 (E1 (k:=Sum.inr (s1++s2)[i]) O3.ties) ?_;rw[U4 O3.ts];symm;refine K4 (λb2=>?_) (λb2=>?_)
    .symm;refine yes (by rw[JX (show(s1++s2)[i]∈b7 O from JE _ b2)])
    .exact no (by rw[Kf (show(s1++s2)[i]∉b7 O from λz=>(JD.mp z).elim b1 b2)])
  .rintro out H3 ⟨s3,rfl⟩;have J':=JJ (λn=>decide (n∈b7 O)) ((s1++s2).take (s1++s2).length);rw[JP] at J';refine⟨⟨_,SqL.of (s3 _ _ f1),by rw[Jx];exact JA _⟩,λD hD=>⟨d8 (by rw[Jx];lia),?_⟩⟩;rw[JK (JA _)];obtain⟨H4,e4,f4,m4,_⟩:=b9 (H:=H3) (o:= .lst (((s1++s2).filter λn=>decide (n∈b7 O)).map V.str)) hD;refine k D _ s1 s2 ((m1.trans s3).free hD) ?_ or ?_
   .show Same _ (p5 _ D _);rw[e4];exact m1.trans (s3.trans m4)
   .show p5 _ D _ D=_;rw[d0]
abbrev nZ (P:Program)(w:World)(K:Qe)(mg:Str->Option Value)(base:Heap):Prop:=V9 P w K mg base E7 2 "alone" ["web","other"] [] (qm K)
theorem xC {f:Addr}{fd:FuncData}(T:Txt K mg)(A4:V1 P w K mg base)(F:Fun K "alone" "alone" pM f fd):C0 P w K mg base E7 2 f fd ["web","other"] (qm K):=by
 walk_at "#sc_alone"
 .obtain⟨a,p,q,a',p',q',kvs,d_,W,O,rfl,_⟩:=h;rfl
 .obtain⟨a,p,q,a',p',q',kvs,d_,W,O,rfl,hW,hO,k⟩:=h;have Vu:=hW.len;walk_at "@sc_alone axname;1;r6]50g0lname,other;PAZoD011noD011n00";symm;refine⟨a,p,q,kvs,W,rfl,hW.at_,by lia,λl1 H1 s1 s2 n1 m1 f1 or=>?_⟩;have hlen:=or.len;refine A8 (SqL.of f1) ?_;refine z8 (n:=(s1++s2).length) (λi out H'=>Same H1 H'/\out=(((s1++s2).take i).filter λn=>!decide (n∈b7 O)).map V.str) ⟨Same.refl _,rfl⟩ (λi out H' hi hp=>⟨_,.str ((s1++s2)[i]),SqL.of (hp.1 _ _ f1),by rw[JC,Jy hi];rfl⟩) ?_ ?_
  .rintro N i v out H3' H3 hi ⟨s3,rfl⟩ y hN';obtain⟨rfl,hx⟩:=Itl.get y (SqL.of (s3 _ _ f1));rw[JC,Jy hi] at hx;cases hx;have O3:=hO.at_.mono (m1.trans s3).le;have e7:(s1++s2).take (i+1)=(s1++s2).take i++[(s1++s2)[i]]:=by rw[Kb,Jy hi];rfl
   have J':=JJ (λn=>!decide (n∈b7 O)) ((s1++s2).take i);rw[JP] at J';have yes:(!decide ((s1++s2)[i]∈b7 O))=true->((((s1++s2).take i).filter λn=>!decide (n∈b7 O)).map V.str).length<=sizeLine/\N ((((s1++s2).take i).filter λn=>!decide (n∈b7 O)).map V.str++[V.str (s1++s2)[i]]) H3:=λhb=>by
    refine⟨d8 (by rw[Jx];lia),hN' _ _ ⟨s3,?_⟩⟩;rw[e7,Ka,Ki (p:=λn=>!decide (n∈b7 O)) hb,KD,JF];rfl
   have no:(!decide ((s1++s2)[i]∈b7 O))=false->N ((((s1++s2).take i).filter λn=>!decide (n∈b7 O)).map V.str) H3:=λhb=>by
    refine hN' _ _ ⟨s3,?_⟩;rw[e7,Ka,Kp (p:=λn=>!decide (n∈b7 O)) (by rw[hb];simp),KD,Ku]
   symm;refine⟨rfl,?_⟩;symm;refine j3 O3.tup ?_;refine N6 (E1 (k:=Sum.inr (s1++s2)[i]) O3.pts) ?_;rw[J3];symm;refine N2 (λb1=>?_) (λb1=>?_)
   .symm;refine i9 O3.tup ?_;refine N6 (E1 (k:=Sum.inr (s1++s2)[i]) O3.ties) ?_;rw[U4 O3.ts];symm;refine N2 (λb2=>?_) (λb2=>?_)
    .symm;refine yes (by rw[Kf (show(s1++s2)[i]∉b7 O from λz=>(JD.mp z).elim b1 b2)];rfl)
    .exact no (by rw[JX (show(s1++s2)[i]∈b7 O from JE _ b2)];rfl)
   .exact no (by rw[JX (show(s1++s2)[i]∈b7 O from JB _ b1)];rfl)
  .rintro out H3 ⟨s3,rfl⟩;have J':=JJ (λn=>!decide (n∈b7 O)) ((s1++s2).take (s1++s2).length);rw[JP] at J';refine⟨⟨_,SqL.of (s3 _ _ f1),by rw[Jx];exact JA _⟩,λD hD=>⟨d8 (by rw[Jx];lia),?_⟩⟩;rw[JK (JA _)];obtain⟨H4,e4,f4,m4,_⟩:=b9 (H:=H3) (o:= .lst (((s1++s2).filter λn=>!decide (n∈b7 O)).map V.str)) hD;refine k D _ s1 s2 ((m1.trans s3).free hD) ?_ or ?_
   .show Same _ (p5 _ D _);rw[e4];exact m1.trans (s3.trans m4)
   .show p5 _ D _ D=_;rw[d0]
structure Sd where
 a:Addr
 p:Addr
 q:Addr
 kvs:List (j0×V)
 W:B0
def SdIs (K:Qe)(H:Hp)(s:Sd):Prop:=WebIs 24 K H s.a s.p s.q s.kvs s.W
theorem SdIs.same {H H':Hp}{s:Sd}(h:SdIs K H s)(m:Same H H'):SdIs K H' s:=WebIs.same h m
structure RuleIs (K:Qe) (H:Hp) (r bl:Addr) (L R:Sd) (bs:List Sd):Prop where
 tup:SqT K H r [.ref L.a,.ref R.a,.ref bl]
 l:SdIs K H L
 r:SdIs K H R
 bl:SqL K H bl (bs.map λs=>V.ref s.a)
 bars:∀b∈bs,SdIs K H b
theorem RuleIs.same {H H':Hp}{r bl:Addr}{L R:Sd}{bs:List Sd}(h:RuleIs K H r bl L R bs)(m:Same H H'):RuleIs K H' r bl L R bs:=⟨m.tup h.tup,h.l.same m,h.r.same m,m.seq h.bl,λb hb=>(h.bars b hb).same m⟩
structure Agree (n:Str) (L R:B0):Prop where
 p:∀k,(n,k)∈L.pts↔(n,k)∈R.pts
 t:∀t,(n,t)∈L.ts↔(n,t)∈R.ts
structure ke (L R:B0) (bs:List Sd):Prop where
 l:oI 4 L
 r:oI 4 R
 ag:∀n∈b7 L,n∈b7 R->Agree n L R
 len:bs.length<=3
 bars:∀b∈bs,oI 6 b.W/\(∀x∈L.pts,x∈b.W.pts)/\∀x∈L.ts,x∈b.W.ts
def uF (K:Qe):Sp:=λvs H Q _=>∃(r bl:Addr) (L R:Sd) (bs:List Sd),vs=[.ref r]/\RuleIs K H r bl L R bs/\∀(l:Addr) (H':Hp) (s1 s2:List Str),H l=none->Same H H'->Ordr L.W s1 s2->H' l=some (.lst (((s1++s2).filter λn=>decide (n∈b7 R.W)).map V.str))->Q (.ref l) H'
def qH (K:Qe):Sp:=λvs H Q _=>∃(r bl:Addr) (L R:Sd) (bs:List Sd),vs=[.ref r]/\RuleIs K H r bl L R bs/\∀(l:Addr) (H':Hp) (s1 s2:List Str),H l=none->Same H H'->Ordr L.W s1 s2->H' l=some (.lst (((s1++s2).filter λn=>!decide (n∈b7 R.W)).map V.str))->Q (.ref l) H'
def iI (K:Qe):Sp:=λvs H Q _=>∃(r bl:Addr) (L R:Sd) (bs:List Sd),vs=[.ref r]/\RuleIs K H r bl L R bs/\∀(l:Addr) (H':Hp) (s1 s2:List Str),H l=none->Same H H'->Ordr R.W s1 s2->H' l=some (.lst (((s1++s2).filter λn=>!decide (n∈b7 L.W)).map V.str))->Q (.ref l) H'
abbrev yC (P:Program)(w:World)(K:Qe)(mg:Str->Option Value)(base:Heap):Prop:=V9 P w K mg base E7 3 "kept" ["rule"] [] (uF K)
theorem BK {f:Addr}{fd:FuncData}(T:Txt K mg)(sY:xE P w K mg base)(F:Fun K "kept" "kept" tR f fd):C0 P w K mg base E7 3 f fd ["rule"] (uF K):=by
 walk_at "#sc_kept"
 .obtain⟨r,bl,L,R,bs,rfl,_⟩:=h;rfl
 .obtain⟨r,bl,L,R,bs,rfl,hr',k⟩:=h;walk_at "@sc_kept a6'0sY i1010";symm;refine j3 hr'.tup ?_;symm;refine i9 hr'.tup ?_;symm;exact⟨_,_,_,_,_,_,_,_,_,_,rfl,hr'.l,hr'.r,λl H' s1 s2 n m o f=>k l H' s1 s2 n m o f⟩
abbrev oS (P:Program)(w:World)(K:Qe)(mg:Str->Option Value)(base:Heap):Prop:=V9 P w K mg base E7 3 "taken" ["rule"] [] (qH K)
theorem xA {f:Addr}{fd:FuncData}(T:Txt K mg)(dX:nZ P w K mg base)(F:Fun K "taken" "taken" oB f fd):C0 P w K mg base E7 3 f fd ["rule"] (qH K):=by
 walk_at "#sc_taken"
 .obtain⟨r,bl,L,R,bs,rfl,_⟩:=h;rfl
 .obtain⟨r,bl,L,R,bs,rfl,hr',k⟩:=h;walk_at "@sc_taken a6'0dX i1010";symm;refine j3 hr'.tup ?_;symm;refine i9 hr'.tup ?_;symm;exact⟨_,_,_,_,_,_,_,_,_,_,rfl,hr'.l,hr'.r,λl H' s1 s2 n m o f=>k l H' s1 s2 n m o f⟩
abbrev fD (P:Program)(w:World)(K:Qe)(mg:Str->Option Value)(base:Heap):Prop:=V9 P w K mg base E7 3 "fresh_of" ["rule"] [] (iI K)
theorem qo {f:Addr}{fd:FuncData}(T:Txt K mg)(dX:nZ P w K mg base)(F:Fun K "fresh_of" "fresh_of" fe f fd):C0 P w K mg base E7 3 f fd ["rule"] (iI K):=by
 walk_at "#sc_fresh_of"
 .obtain⟨r,bl,L,R,bs,rfl,_⟩:=h;rfl
 .obtain⟨r,bl,L,R,bs,rfl,hr',k⟩:=h;walk_at "@sc_fresh_of a6'0dX i1010";symm;refine i9 hr'.tup ?_;symm;refine j3 hr'.tup ?_;symm;exact⟨_,_,_,_,_,_,_,_,_,_,rfl,hr'.r,hr'.l,λl H' s1 s2 n m o f=>k l H' s1 s2 n m o f⟩
def dv (K:Qe):Sp:=λvs H Q _=>∃(t d:Addr) (x:M8) (kvm:List (j0×V)),vs=[.ref t,.ref d]/\SqT K H t (Z5 x)/\Rd H d (.dK kvm)/\TxtAt kvm x.2.1/\TxtAt kvm x.2.2/\∀(l:Addr) (H':Hp),H l=none->Same H H'->H' l=some (.tup (Z5 (x.1,i7 kvm x.2.1,i7 kvm x.2.2)))->Q (.ref l) H'
structure ei (P W:B0) (kvm:List (j0×V)):Prop where
 len:kvm.length=(b7 P).length
 txt:∀n∈b7 P,TxtAt kvm n
 nd:((b7 P).map (i7 kvm)).Nodup
 pts:∀x∈P.pts,(i7 kvm x.1,x.2)∈W.pts
 ts:∀x∈P.ts,(i7 kvm x.1,(x.2.1,i7 kvm x.2.2.1,i7 kvm x.2.2.2))∈W.ts
theorem AM {pts:List (Str×Str)}{n s:Str}(h:n∉pts.map (·.1)):E3 (g5 pts) (Sum.inr n:j0) (.str s)=g5 (pts++[(n,s)]):=by
 rw[Q4 _ (N8 (by rw[J6,←B6];exact λm=>h (Y1 m)))];unfold g5;rw[JF];rfl
theorem K7 {ms:List (Str×Str)}{n m:Str}(nd:(ms.map (·.1)).Nodup)(h:(n,m)∈ms):i7 (g5 ms) n=m:=gO (L5 nd h)
abbrev Y2 (P:Program)(w:World)(K:Qe)(mg:Str->Option Value)(base:Heap):Prop:=V9 P w K mg base E7 1 "tie_renamed" ["tie","names"] [] (dv K)
theorem jP {f:Addr}{fd:FuncData}(T:Txt K mg)(F:Fun K "tie_renamed" "tie_renamed" aS f fd):C0 P w K mg base E7 1 f fd ["tie","names"] (dv K):=by
 walk_at "#sc_tie_renamed"
 .obtain⟨t,d,x,kvm,rfl,_⟩:=h;rfl
 .obtain⟨t,d,⟨x1,x2,x3⟩,kvm,rfl,hT,hD,k1,k2,k⟩:=h;walk_at "@sc_tie_renamed ajp10ic110c110";symm;refine j3 hT ?_;symm;refine i9 hT ?_;refine zf hD k1 ?_;symm;refine V5 hT ?_;refine zf hD k2 ?_;symm;refine⟨d8 (by simp),λl9 n9=>?_⟩;obtain⟨H9,e9,f9,m9,_⟩:=b9 (o:= .tup _) n9;rw[e9];exact k l9 H9 n9 m9 f9
def lG (x:Str):List Str->List Str
 |[]=>[x]
 |y::r=>if ltCps y.cps.toList x.cps.toList=true then y::lG x r else x::y::r
def si:List Str->List Str
 |[]=>[]
 |x::r=>lG x (si r)
theorem ny (x:Str):∀l,(lG x l).Perm (x::l)
 |[]=> .refl _
 |y::r=>by
  unfold lG;split
  .exact((ny x r).cons y).trans (.swap _ _ _)
  .exact .refl _
theorem iq:∀l,(si l).Perm l
 |[]=> .refl _
 |x::r=>(ny x _).trans ((iq r).cons x)
theorem rT {a b:Str}(h:ltCps a.cps.toList b.cps.toList=true):ltCps b.cps.toList a.cps.toList=false:=by
 rw[ltCps_eq] at h⊢;exact Kf (Nk (KW h))
theorem qg {x:Str}:∀{l:List Str} {p:Str},risingS p l=true->ltCps x.cps.toList p.cps.toList=false->risingS p (lG x l)=true
 |[],p,_,h=>by unfold lG;unfold risingS;rw[h];rfl
 |y::r,p,h1,h=>by
  have Od:(!ltCps y.cps.toList p.cps.toList&&risingS y r)=true:=h1;rw[Kj] at Od;unfold lG;split
  .next e=>
   show(!ltCps y.cps.toList p.cps.toList&&risingS y (lG x r))=true;rw[Od.1,qg Od.2 (rT e)];rfl
  .next e=>
   show(!ltCps x.cps.toList p.cps.toList&&(!ltCps y.cps.toList x.cps.toList&&risingS y r))=true;rw[h,Od.2];simpa using e
theorem oX:∀l,sortedS (si l)=true
 |[]=>rfl
 |x::r=>by
  have ih:=oX r;show sortedS (lG x (si r))=true;cases e:si r with
  |nil=>rfl
  |cons y t=>
   rw[e] at ih
   unfold lG
   split
   .next z=>exact qg ih (rT z)
   .next z=>
    show(!ltCps y.cps.toList x.cps.toList&&risingS y t)=true
    rw[show risingS y t=true from ih];simpa using z
def M9 (ts:List (Str×M8))(n:Str):M8:=match ts.find? (λx=>decide (x.1=n)) with
 |some x=>x.2
 |none=>("","","")
theorem gY:∀{ts:List (Str×M8)} {n:Str} {t:M8},(ts.map (·.1)).Nodup->(n,t)∈ts->M9 ts n=t
 |[],_,_,_,h=>nomatch h
 |x::r,n,t,nd,h=>by
  unfold M9;have nd':=KN.mp (show(x.1::r.map (·.1)).Nodup from nd);by_cases e:x.1=n
  .rw[List.find?_cons_of_pos (by simpa using e)];rcases Kl.mp h with z|z
   .rw[←z]
   .exact absurd (Jz.mpr ⟨_,z,rfl⟩) (e▸nd'.1)
  .rw[List.find?_cons_of_neg (by simpa using e)];rcases Kl.mp h with z|z
   .exact absurd (by rw[←z]) e
   .exact gY nd'.2 z
theorem de {ts:List (Str×M8)}{n:Str}(h:n∈ts.map (·.1)):(n,M9 ts n)∈ts:=by
 unfold M9;cases e:ts.find? (λx=>decide (x.1=n)) with
 |none=>
  obtain⟨x,hx,z⟩:=Jz.mp h
  exact absurd (List.find?_eq_none.mp e x hx) (by simpa using z)
 |some x=>
  have z:x.1=n:=by simpa using List.find?_some e
  rw[←z];exact List.mem_of_find?_eq_some e
def W8 (fx:List (Str×Str))(n im:Str):Bool:=if n∈fx.map (·.1) then decide (im=i7 (g5 fx) n) else !decide (im∈fx.map (·.2))
def rW (L:Str->Str->Bool)(gp:List Str)(fx:List (Str×Str))(n:Str):List Str:=(gp.filter (L n)).filter (W8 fx n)
def uM (W:B0)(gt:List Str)(fx:List (Str×Str))(n:Str)(t:M8):List Str:=gt.filter λim=>decide (M9 W.ts im=t)&&W8 fx n im
def gv (nm b:List Str)(x:Str):Str:=i7 (g5 (nm.zip b)) x
def vx (W:B0)(gt:List Str)(fx:List (Str×Str))(nm b:List Str)(x:Str×M8):List Str:=uM W gt fx x.1 (x.2.1,gv nm b x.2.2.1,gv nm b x.2.2.2)
def AI (a b:Str):Str:=if a.cps.toList<b.cps.toList then b else a
def cH (ts:List (Str×M8))(n:Str):List (Str×M8):=ts.filter λx=>decide (AI x.2.2.1 x.2.2.2=n)
def xm (ls:List (List Str)):Bool:=ls.all λd=>decide (ls.count d<=d.length)
def af (L:Str->Str->Bool)(Pc W:B0)(gp gt:List Str)(fx:List (Str×Str))(nm b:List Str):List Str:=match nm[b.length]? with
 |none=>[]
 |some n=>if n∈Pc.ts.map (·.1) then(vx W gt fx nm b (n,M9 Pc.ts n)).filter (λx=>!decide (x∈b))
  else((rW L gp fx n).filter (λx=>!decide (x∈b))).filter λim=>xm ((cH Pc.ts n).map (vx W gt fx nm (b++[im])))
def iC (img:List Str->List Str):Nat->List Str->List (List Str)
 |0,b=>[b]
 |k+1,b=>(img b).flatMap λx=>iC img k (b++[x])
def kU:List (List Str)->List Str->List (List Str)
 |[],b=>[b]
 |c::r,b=>c.flatMap λx=>kU r (b++[x])
def Ho (img:List Str->List Str)(j:Nat)(row:List Str):Prop:=∀(i:Nat) (x:Str),j<=i->row[i]?=some x->x∈img (row.take i)
theorem gS:∀{bs:List (List Str)} {b row:List Str},row∈kU bs b->∃t,row=b++t/\t.length=bs.length/\∀(i:Nat) (x:Str) (c:List Str),t[i]?=some x->bs[i]?=some c->x∈c
 |[],b,row,h=>by
  rw[JN.mp h];exact⟨[],by simp,rfl,λi x c hx _=>by simp at hx⟩
 |c::r,b,row,h=>by
  obtain⟨x,hx,h'⟩:=List.mem_flatMap.mp h;obtain⟨t,e,hl,hm⟩:=gS h';refine⟨x::t,by rw[e];simp,by simp [hl],λi y d hy hd=>?_⟩;cases i with
  |zero=>cases hy;cases hd;exact hx
  |succ i=>exact hm i y d hy hd
theorem cw {α β:Type}(p:α->Bool)(F:α->List β):∀l:List α,(l.filter p).flatMap F=l.flatMap λx=>if p x=true then F x else []
 |[]=>rfl
 |a::l=>by
  cases e:p a with
  |true=>rw[Ki e,LX,LX,if_pos e,cw p F l]
  |false=>rw[Kp (by rw[e];decide),LX,if_neg (by rw[e];decide),cw p F l];rfl
theorem fC {α β:Type}{F G:α->List β}:∀{l:List α},(∀x∈l,F x=G x)->l.flatMap F=l.flatMap G
 |[],_=>rfl
 |a::l,h=>by rw[LX,LX,h a JT,fC λx hx=>h x (JZ _ hx)]
theorem Y6 {α:Type}{p q:α->Bool}:∀{l:List α},(∀x∈l,p x=q x)->l.filter p=l.filter q
 |[],_=>rfl
 |a::l,h=>by
  have z:=Y6 (l:=l) λx hx=>h x (JZ _ hx);rw[Mh,Mh,h a JT,z]
open Classical in
theorem zP {img:List Str->List Str}:∀{bs:List (List Str)} {b:List Str},(∀(j:Nat) (c:List Str),bs[j]?=some c->∀b':List Str,b'.length=b.length+j->img b'=c.filter λx=>decide (x∈img b'))->
  iC img bs.length b=(kU bs b).filter λrow=>decide (Ho img b.length row)
 |[],b,_=>by
  show [b]=[b].filter _;rw[Ki (by
   refine JX λi x hi hx=>?_;rw[Ld hi] at hx;cases hx)];rfl
 |c::r,b,h=>by
  show(img b).flatMap (λx=>iC img r.length (b++[x]))=(c.flatMap λx=>kU r (b++[x])).filter _;have h0:=h 0 c rfl b (by lia);have hF:∀x,iC img r.length (b++[x])=(kU r (b++[x])).filter λrow=>decide (Ho img (b++[x]).length row):=λx=>
   zP λj d hd b' hb=>h (j+1) d hd b' (by rw[hb,JG,JO];lia)
  rw[List.filter_flatMap,h0,cw];refine fC λx hx=>?_;rw[hF x];by_cases j_:x∈img b
  .rw[if_pos (JX j_)];refine Y6 λrow Px=>?_;obtain⟨t,e,_⟩:=gS Px;rw[Kw,Ko,Ko];constructor
   .intro ok i y hi hy;by_cases z:i=b.length
    .have e1:row[i]?=some x:=by rw[e,z];simp
     rw[e1] at hy;cases hy;have e2:row.take i=b:=by rw[e,z];simp
     rw[e2];exact j_
    .exact ok i y (by rw[JG,JO];lia) hy
   .intro ok i y hi hy;exact ok i y (by rw[JG,JO] at hi;lia) hy
  .rw[if_neg (by rw[Kf j_];decide)];refine(MY.mpr λrow Px=>?_).symm;obtain⟨t,e,_⟩:=gS Px;intro ok;have z:=KW ok b.length x (JA _) (by rw[e];simp);rw[show row.take b.length=b by rw[e];simp] at z;exact j_ z
theorem qD {c:List Str}{p:Str->Bool}:c.filter p=c.filter λx=>decide (x∈c.filter p):=Y6 λx hx=>by
 rw[Kw,Ko,JH];exact⟨λh=>⟨hx,h⟩,λh=>h.2⟩
theorem ug:∀(nm b:List Str),((nm.zip b).map (·.1)).Sublist nm
 |[],_=> .slnil
 |_::_,[]=>List.nil_sublist _
 |n::nm,x::b=>(ug nm b).cons_cons n
theorem om {nm:List Str}(b:List Str)(nd:nm.Nodup):((nm.zip b).map (·.1)).Nodup:=nd.sublist (ug nm b)
theorem pE {nm b:List Str}{i:Nat}{n x:Str}(h1:nm[i]?=some n)(h2:b[i]?=some x):(n,x)∈nm.zip b:=by
 have z:(nm.zip b)[i]?=some (n,x):=by rw[NG];exact⟨h1,h2⟩
 exact JM z
theorem uj {nm b:List Str}{i:Nat}{n x:Str}(nd:nm.Nodup)(h1:nm[i]?=some n)(h2:b[i]?=some x):gv nm b n=x:=K7 (om b nd) (pE h1 h2)
theorem yo {nm row:List Str}(nd:nm.Nodup)(hl:row.length=nm.length):nm.map (gv nm row)=row:=by
 refine Qc λi=>?_;rw[JC];by_cases hi:i<nm.length
 .rw[Jy hi,Jy (show i<row.length by lia)];exact KQ some (uj nd (Jy hi) (Jy (by lia)))
 .rw[Ld (by lia),Ld (by lia)];rfl
theorem ni:∀{l m:List Str},l.Nodup->(∀x∈l,x∈m)->l.length<=m.length
 |[],m,_,_=>KU _
 |x::r,m,nd,h=>by
  have nd':=KN.mp nd;have hx:=h x JT;have z:=ni (l:=r) (m:=m.erase x) nd'.2 λy hy=>(List.mem_erase_of_ne (λe:y=x=>nd'.1 (by rw[←e];exact hy))).mpr (h y (JZ _ hy));rw[List.length_erase_of_mem hx] at z;have:0<m.length:=List.length_pos_of_mem hx;rw[Ky];lia
theorem mw {α:Type}(f:α->List Str)(d:List Str):∀ts:List α,(ts.map f).count d=(ts.filter λt=>decide (f t=d)).length
 |[]=>rfl
 |t::r=>by
  rw[Kx,List.count_cons,mw f d r,Mh];by_cases e:f t=d
  .rw[if_pos (by simpa using e),if_pos (by simpa using e)];rfl
  .rw[if_neg (by simpa using e),if_neg (by simpa using e)];rfl
theorem Cr {α:Type}{ts:List α}{f:α->List Str}{r:α->Str}(hm:∀t∈ts,r t∈f t)(nd:(ts.map r).Nodup):xm (ts.map f)=true:=by
 unfold xm;rw[Kk];intro d hd;rw[Ko,mw];have z:((ts.filter λt=>decide (f t=d)).map r).length<=d.length:=by
  refine ni (nd.sublist (Ke.map r)) λx hx=>?_;obtain⟨t,ht,rfl⟩:=Jz.mp hx;rw[JH] at ht;rw[←KW ht.2];exact hm t ht.1
 rw[Jx] at z;exact z
def qQ (fx:List (Str×Str))(nm row:List Str):Prop:=∀x∈fx,gv nm row x.1=x.2
structure SrchP (L:Str->Str->Bool) (Pc W:B0) (s1 s2 gp gt:List Str) (fx:List (Str×Str)):Prop where
 o:Ordr Pc s1 s2
 o':Ordr W gp gt
 nd:(b7 Pc).Nodup
 nd':(b7 W).Nodup
 ends:∀x∈Pc.ts,x.2.2.1∈Pc.pts.map (·.1)/\x.2.2.2∈Pc.pts.map (·.1)
 fnd:(fx.map (·.1)).Nodup
 fin:∀x∈fx,x.1∈b7 Pc
 ls:∀n x,n∈Pc.pts.map (·.1)->x∈W.pts.map (·.1)->L n x=true->i7 (g5 W.pts) x=i7 (g5 Pc.pts) n
 lc:∀row,ei Pc W (g5 ((s1++s2).zip row))->∀x∈Pc.pts,L x.1 (gv (s1++s2) row x.1)=true
section
variable {L:Str->Str->Bool} {Pc W:B0} {s1 s2 gp gt:List Str} {fx:List (Str×Str)}
def sL (s1 s2 gp gt:List Str):List (List Str):=List.replicate s1.length gp++List.replicate s2.length gt
theorem jz:(sL s1 s2 gp gt).length=(s1++s2).length:=by unfold sL;simp
theorem SrchP.nn (S:SrchP L Pc W s1 s2 gp gt fx):(s1++s2).Nodup:=S.o.perm.nodup_iff.mpr S.nd
theorem SrchP.is1 (S:SrchP L Pc W s1 s2 gp gt fx){i:Nat}{n:Str}(h:(s1++s2)[i]?=some n):(n∉Pc.ts.map (·.1)/\i<s1.length)\/(n∈Pc.ts.map (·.1)/\s1.length<=i):=by
 by_cases hi:i<s1.length
 .refine .inl ⟨λz=>?_,hi⟩;rw[KJ hi] at h;have m1:n∈s1:=JM h;exact(JQ.mp S.nn).2.2 n m1 n (S.o.p2.mem_iff.mpr z) rfl
 .rw[Lf (by lia)] at h;exact .inr ⟨S.o.p2.mem_iff.mp (JM h),by lia⟩
theorem Bi {L c:List Str}{p:Str->Bool}(e:L=c.filter p):L=c.filter λx=>decide (x∈L):=by subst e;exact qD
theorem yi (S:SrchP L Pc W s1 s2 gp gt fx){j:Nat}{c b:List Str}(h:(sL s1 s2 gp gt)[j]?=some c)(hb:b.length=j):af L Pc W gp gt fx (s1++s2) b=c.filter λx=>decide (x∈af L Pc W gp gt fx (s1++s2) b):=by
 have hj:j<(s1++s2).length:=by
  rw[←jz (gp:=gp) (gt:=gt)];rcases LZ j (sL s1 s2 gp gt).length with z|z
  .exact z
  .rw[Ld z] at h;cases h
 have hn:(s1++s2)[b.length]?=some ((s1++s2)[j]):=by rw[hb];exact Jy hj
 have hc:c=if j<s1.length then gp else gt:=by
  unfold sL at h;by_cases z:j<s1.length
  .rw[KJ (by simpa using z),MM,if_pos z] at h;rw[if_pos z];exact(JU h).symm
  .rw[Lf (by simpa using z),Lp,MM,if_pos (by rw[JG] at hj;lia)] at h;rw[if_neg z];exact(JU h).symm
 obtain⟨p,e⟩:∃p,af L Pc W gp gt fx (s1++s2) b=c.filter p:=by
  unfold af;rw[hn];dsimp only;rcases S.is1 (i:=j) (Jy hj) with⟨h1,h2⟩|⟨h1,h2⟩
  .rw[if_neg h1,hc,if_pos h2];unfold rW;rw[Mn,Mn,Mn];exact⟨_,rfl⟩
  .rw[if_pos h1,hc,if_neg (by lia)];unfold vx uM;rw[Mn];exact⟨_,rfl⟩
 exact Bi e
theorem kK {n:Str}{l:List Str}(h:n∈l):∃i:Nat,l[i]?=some n:=Lj h
theorem SrchP.pt_idx (S:SrchP L Pc W s1 s2 gp gt fx){n:Str}(h:n∈Pc.pts.map (·.1)):∃i:Nat,i<s1.length/\(s1++s2)[i]?=some n:=by
 obtain⟨i,hi⟩:=kK (S.o.p1.mem_iff.mpr h);have hl:i<s1.length:=by
  rcases LZ i s1.length with z|z
  .exact z
  .rw[Ld z] at hi;cases hi
 exact⟨i,hl,by rw[KJ hl];exact hi⟩
theorem jt {nm row:List Str}{i j:Nat}{n:Str}(nd:nm.Nodup)(hl:row.length=nm.length)(h:nm[i]?=some n)(hij:i<j):gv nm (row.take j) n=gv nm row n:=by grind [uj,Vals.take]
theorem Dx {n x:Str}{nm row:List Str}(fnd:(fx.map (·.1)).Nodup)(d:qQ fx nm row)(inj:∀y∈fx,gv nm row y.1=gv nm row n->y.1=n)(e:gv nm row n=x):W8 fx n x=true:=by
 unfold W8;split
 .next h=>
  obtain⟨y,hy,rfl⟩:=Jz.mp h;rw[K7 fnd (show(y.1,y.2)∈fx from hy),←e];exact JX (d y hy)
 .next h=>
  have z:x∉fx.map (·.2):=λz=>by
   obtain⟨y,hy,ey⟩:=Jz.mp z;have z1:=d y hy;rw[ey,←e] at z1;exact h (by rw[←inj y hy z1];exact Jz.mpr ⟨y,hy,rfl⟩)
  simpa using z
theorem GP {pts:List (Str×Str)}{g:List Str}{x kd:Str}(nd:(pts.map (·.1)).Nodup)(p:g.Perm (pts.map (·.1)))(h:x∈g)(hk:i7 (g5 pts) x=kd):(x,kd)∈pts:=by grind [K7]
theorem Ci {Q:B0}{kvm:List (j0×V)}{x y:Str}(nd:((b7 Q).map (i7 kvm)).Nodup)(hx:x∈b7 Q)(hy:y∈b7 Q)(e:i7 kvm x=i7 kvm y):x=y:=by
 obtain⟨i,hi⟩:=kK hx;obtain⟨j,hj⟩:=kK hy;have e1:((b7 Q).map (i7 kvm))[i]?=some (i7 kvm x):=by rw[JC,hi];rfl
 have e2:((b7 Q).map (i7 kvm))[j]?=some (i7 kvm x):=by rw[JC,hj,e];rfl
 have li:i<((b7 Q).map (i7 kvm)).length:=by
  rcases LZ i ((b7 Q).map (i7 kvm)).length with z|z
  .exact z
  .rw[Ld z] at e1;cases e1
 have z:=(Qd li nd).mp (e1.trans e2.symm);rw[z,hj] at hi;exact(JU hi).symm
theorem jv (S:SrchP L Pc W s1 s2 gp gt fx){i:Nat}{e:Str}(hi:i<s1.length)(he:e∈Pc.pts.map (·.1))(hle:¬(s1[i].cps.toList<e.cps.toList)):∃j:Nat,j<=i/\(s1++s2)[j]?=some e:=by
 obtain⟨j,hj,Ym⟩:=S.pt_idx he;refine⟨j,?_,Ym⟩;rcases LZ i j with z|z
 .exfalso;have nd1:s1.Nodup:=(JQ.mp S.nn).1;have pw:=bj (dE S.o.o1 nd1);have w:=MC.mp pw i j hi hj z;rw[KJ hj,Jy hj] at Ym;rw[JU Ym] at w;exact hle w
 .exact z
end
section
variable {L:Str->Str->Bool} {Pc W:B0} {s1 s2 gp gt:List Str} {fx:List (Str×Str)}
theorem dY {α:Type}{l:List α}{i:Nat}{x:α}(h:l[i]?=some x):i<l.length:=by grind
theorem mem_ch {n x:Str}:x∈rW L gp fx n↔x∈gp/\L n x=true/\W8 fx n x=true:=by
 unfold rW;rw[JH,JH,and_assoc]
theorem mem_pl {n x:Str}{t:M8}:x∈uM W gt fx n t↔x∈gt/\M9 W.ts x=t/\W8 fx n x=true:=by
 unfold uM;rw[JH,Kj,Ko]
theorem Dq (S:SrchP L Pc W s1 s2 gp gt fx){row:List Str}(hl:row.length=(s1++s2).length)(ok:Ho (af L Pc W gp gt fx (s1++s2)) 0 row):ei Pc W (g5 ((s1++s2).zip row))/\qQ fx (s1++s2) row:=by
 have nn:=S.nn;have key:∀(i:Nat) (n x:Str),(s1++s2)[i]?=some n->row[i]?=some x->x∉row.take i/\W8 fx n x=true/\(n∉Pc.ts.map (·.1)->(x,i7 (g5 Pc.pts) n)∈W.pts)/\(n∈Pc.ts.map (·.1)->(x,((M9 Pc.ts n).1,gv (s1++s2) row (M9 Pc.ts n).2.1,gv (s1++s2) row (M9 Pc.ts n).2.2))∈W.ts):=by
  intro i n x hn hx;have Yn:=dY hn;have h0:=ok i x (KU _) hx;have l_:(row.take i).length=i:=by rw[JP];lia
  unfold af at h0;rw[l_,hn] at h0;dsimp only at h0;rcases S.is1 hn with⟨h1,h2⟩|⟨h1,h2⟩
  .rw[if_neg h1,JH,JH,mem_ch] at h0;refine⟨by simpa using h0.1.2,h0.1.1.2.2,λ_=>GP (A6 S.nd') S.o'.p1 h0.1.1.1 (S.ls n x ((JD.mp (S.o.mem.mp (JM hn))).resolve_right h1) (S.o'.p1.mem_iff.mp h0.1.1.1) h0.1.1.2.1),λz=>absurd z h1⟩
  .rw[if_pos h1,JH] at h0;have hm:=mem_pl.mp (show x∈uM W gt fx n _ from h0.1);refine⟨by simpa using h0.2,hm.2.2,λz=>absurd h1 z,λ_=>?_⟩;have j_:=de h1;have he:=S.ends _ j_;obtain⟨j1,hj1,Tp⟩:=S.pt_idx he.1;obtain⟨j2,Yo,Tr⟩:=S.pt_idx he.2;have e1:=jt (j:=i) nn hl Tp (by lia);have e2:=jt (j:=i) nn hl Tr (by lia);have z:=de (S.o'.p2.mem_iff.mp hm.1);rw[hm.2.1] at z;dsimp only at z e1 e2;rw[e1,e2] at z;exact z
 have Yp:row.Nodup:=by
  refine MC.mpr λi j hi hj hij e=>?_;have z:=(key j ((s1++s2)[j]'(by lia)) row[j] (Jy (by lia)) (Jy hj)).1;refine z (JM (i:=i) ?_);rw[NC,if_pos hij,Jy hi,e]
 have WU:∀n∈s1++s2,∃(i:Nat) (x:Str),(s1++s2)[i]?=some n/\row[i]?=some x/\gv (s1++s2) row n=x:=λn hn=>by
  obtain⟨i,hi⟩:=kK hn;have Yn:=dY hi;exact⟨i,row[i],hi,Jy (by lia),uj nn hi (Jy (by lia))⟩
 refine⟨⟨?_,λn hn=>?_,?_,λx hx=>?_,λx hx=>?_⟩,λx hx=>?_⟩
 .rw[j7,Nr,←S.o.len];lia
 .obtain⟨i,x,h1,h2,_⟩:=WU n (S.o.mem.mpr hn);exact⟨x,L5 (om row nn) (pE h1 h2)⟩
 .have e:=yo nn hl;exact((S.o.perm.map (gv (s1++s2) row)).nodup_iff).mp (by rw[e];exact Yp)
 .have hm:x.1∈b7 Pc:=JB _ (Jz.mpr ⟨x,hx,rfl⟩);obtain⟨i,y,h1,h2,h3⟩:=WU x.1 (S.o.mem.mpr hm);have g_:x.1∉Pc.ts.map (·.1):=λz=>(JQ.mp S.nd).2.2 x.1 (Jz.mpr ⟨x,hx,rfl⟩) x.1 z rfl;have z:=(key i x.1 y h1 h2).2.2.1 g_;rw[K7 (A6 S.nd) (show(x.1,x.2)∈Pc.pts from hx)] at z;rw[show i7 (g5 ((s1++s2).zip row)) x.1=y from h3];exact z
 .have hm:x.1∈Pc.ts.map (·.1):=Jz.mpr ⟨x,hx,rfl⟩;obtain⟨i,y,h1,h2,h3⟩:=WU x.1 (S.o.mem.mpr (JE _ hm));have z:=(key i x.1 y h1 h2).2.2.2 hm;rw[gY (K2 S.nd) (show(x.1,x.2)∈Pc.ts from hx)] at z;rw[show i7 (g5 ((s1++s2).zip row)) x.1=y from h3];exact z
 .obtain⟨i,y,h1,h2,h3⟩:=WU x.1 (S.o.mem.mpr (S.fin x hx));have z:=(key i x.1 y h1 h2).2.1;unfold W8 at z;rw[if_pos (Jz.mpr ⟨x,hx,rfl⟩),K7 S.fnd (show(x.1,x.2)∈fx from hx)] at z;rw[h3];exact KW z
theorem vc (S:SrchP L Pc W s1 s2 gp gt fx){row:List Str}(f:ei Pc W (g5 ((s1++s2).zip row)))(d:qQ fx (s1++s2) row){n:Str}(hn:n∈b7 Pc):W8 fx n (gv (s1++s2) row n)=true:=
 Dx S.fnd d (λy hy e=>Ci f.nd (S.fin y hy) hn e) rfl
theorem yc (S:SrchP L Pc W s1 s2 gp gt fx){row:List Str}(f:ei Pc W (g5 ((s1++s2).zip row)))(d:qQ fx (s1++s2) row){x:Str×Str}(hx:x∈Pc.pts):gv (s1++s2) row x.1∈rW L gp fx x.1:=by
 have z:=f.pts x hx;exact mem_ch.mpr ⟨S.o'.p1.mem_iff.mpr (Jz.mpr ⟨_,z,rfl⟩),S.lc row f x hx,vc S f d (JB _ (Jz.mpr ⟨x,hx,rfl⟩))⟩
theorem Aa (S:SrchP L Pc W s1 s2 gp gt fx){row:List Str}(f:ei Pc W (g5 ((s1++s2).zip row)))(d:qQ fx (s1++s2) row){x:Str×M8}(hx:x∈Pc.ts):gv (s1++s2) row x.1∈vx W gt fx (s1++s2) row x:=by
 have z:=f.ts x hx;exact mem_pl.mpr ⟨S.o'.p2.mem_iff.mpr (Jz.mpr ⟨_,z,rfl⟩),gY (K2 S.nd') z,vc S f d (JE _ (Jz.mpr ⟨x,hx,rfl⟩))⟩
theorem Dh (S:SrchP L Pc W s1 s2 gp gt fx){row:List Str}(f:ei Pc W (g5 ((s1++s2).zip row)))(d:qQ fx (s1++s2) row):xm (Pc.pts.map λx=>rW L gp fx x.1)=true:=by
 refine Cr (r:=λx=>gv (s1++s2) row x.1) (λx hx=>yc S f d hx) ?_;have z:=f.nd;unfold b7 at z;rw[JF,Km] at z;exact(JQ.mp z).1
theorem uS (S:SrchP L Pc W s1 s2 gp gt fx){row:List Str}(hl:row.length=(s1++s2).length){i:Nat}{x:Str×M8}(h1:∃j:Nat,j<i/\(s1++s2)[j]?=some x.2.2.1)(h2:∃j:Nat,j<i/\(s1++s2)[j]?=some x.2.2.2):vx W gt fx (s1++s2) (row.take i) x=vx W gt fx (s1++s2) row x:=by
 obtain⟨j1,a1,b1⟩:=h1;obtain⟨j2,a2,b2⟩:=h2;unfold vx;rw[jt S.nn hl b1 a1,jt S.nn hl b2 a2]
theorem Du (S:SrchP L Pc W s1 s2 gp gt fx){row:List Str}(hl:row.length=(s1++s2).length)(f:ei Pc W (g5 ((s1++s2).zip row)))(d:qQ fx (s1++s2) row):Ho (af L Pc W gp gt fx (s1++s2)) 0 row:=by
 have nn:=S.nn;have e:=yo nn hl;have Yp:row.Nodup:=by
  rw[←e];exact((S.o.perm.map (gv (s1++s2) row)).nodup_iff).mpr f.nd
 intro i x _ hx;have Yn:=dY hx;have hn:(s1++s2)[i]?=some ((s1++s2)[i]'(by lia)):=Jy (by lia);generalize (s1++s2)[i]'(by lia)=n at hn;have hg:gv (s1++s2) row n=x:=uj nn hn hx;have l_:(row.take i).length=i:=by rw[JP];lia
 have Pt:x∉row.take i:=λz=>by
  obtain⟨j,hj⟩:=kK z;rw[NC] at hj;split at hj
  .next hji=>
   have z2:=(Qd (dY hj) Yp).mp (hj.trans hx.symm);lia
  .cases hj
 unfold af;rw[l_,hn];dsimp only;rcases S.is1 hn with⟨h1,h2⟩|⟨h1,h2⟩
 .rw[if_neg h1];have hm:n∈Pc.pts.map (·.1):=by
   rcases JD.mp (S.o.mem.mp (JM hn)) with z|z
   .exact z
   .exact absurd z h1
  obtain⟨y,hy,ey⟩:=Jz.mp hm;have hc:=yc S f d hy;rw[ey,hg] at hc;refine JH.mpr ⟨JH.mpr ⟨hc,by simpa using Pt⟩,?_⟩;have et:row.take i++[x]=row.take (i+1):=by rw[Kb,hx];rfl
  rw[et];have Tv:s1[i]=n:=by
   rw[KJ h2,Jy h2] at hn;exact JU hn
  refine Cr (r:=λt=>gv (s1++s2) row t.1) (λt ht=>?_) ?_
  .unfold cH at ht;rw[JH,Ko] at ht;have he:=S.ends t ht.1;have m1:¬(s1[i].cps.toList<t.2.2.1.cps.toList):=by
    rw[Tv,←ht.2];unfold AI;split
    .next z=>exact Nk z
    .exact Nb _
   have m2:¬(s1[i].cps.toList<t.2.2.2.cps.toList):=by
    rw[Tv,←ht.2];unfold AI;split
    .exact Nb _
    .next z=>exact z
   obtain⟨j1,a1,b1⟩:=jv S h2 he.1 m1;obtain⟨j2,a2,b2⟩:=jv S h2 he.2 m2;rw[uS S hl ⟨j1,by lia,b1⟩ ⟨j2,by lia,b2⟩];exact Aa S f d ht.1
  .have z:=f.nd;unfold b7 at z;rw[JF,Km,Km] at z;exact((JQ.mp z).2.1).sublist (Ke.map _)
 .rw[if_pos h1];have j_:=de h1;have he:=S.ends _ j_;obtain⟨j1,hj1,Tp⟩:=S.pt_idx he.1;obtain⟨j2,Yo,Tr⟩:=S.pt_idx he.2;have hp:=Aa S f d j_;rw[←uS S hl (i:=i) ⟨j1,by lia,Tp⟩ ⟨j2,by lia,Tr⟩] at hp;refine JH.mpr ⟨?_,by simpa using Pt⟩;have hg':gv (s1++s2) row (n,M9 Pc.ts n).1=x:=hg;rw[hg'] at hp;exact hp
open Classical in
noncomputable def iW (Pc W:B0)(s1 s2 gp gt:List Str)(fx:List (Str×Str)):List (List Str):=(kU (sL s1 s2 gp gt) []).filter λrow=>decide (ei Pc W (g5 ((s1++s2).zip row))/\qQ fx (s1++s2) row)
theorem xR {row:List Str}(h:row∈kU (sL s1 s2 gp gt) []):row.length=(s1++s2).length:=by
 obtain⟨t,e,hl,_⟩:=gS h;rw[e,Ov,hl,jz]
open Classical in
theorem yX (S:SrchP L Pc W s1 s2 gp gt fx):iC (af L Pc W gp gt fx (s1++s2)) (s1++s2).length []=iW Pc W s1 s2 gp gt fx:=by
 rw[←jz (gp:=gp) (gt:=gt),zP λj c hc b' hb=>yi S hc (by rw[hb];simp)];unfold iW;refine Y6 λrow Px=>?_;have hl:=xR Px;rw[Kw,Ko,Ko];exact⟨λok=>Dq S hl ok,λh=>Du S hl h.1 h.2⟩
open Classical in
theorem wz (S:SrchP L Pc W s1 s2 gp gt fx)(h:xm (Pc.pts.map λx=>rW L gp fx x.1)=false):iW Pc W s1 s2 gp gt fx=[]:=by grind [xm,rW,iW,Dh,List.filter_eq_nil_iff]
end
def mx (K:Qe):Sp:=λvs H Q _=>∃(d:Addr) (n im:Str) (fx:List (Str×Str)),vs=[.str n,.str im,.ref d]/\H d=some (.dK (g5 fx))/\∀H',Same H H'->Q (.bl (W8 fx n im)) H'
theorem rF {pts:List (Str×Str)}{n:Str}(h:n∈pts.map (·.1)):z0 (g5 pts) (Sum.inr n:j0)=some (.str (i7 (g5 pts) n)):=by
 cases e:z0 (g5 pts) (Sum.inr n:j0) with
 |none=>have z:=J3 (pts:=pts) (n:=n);rw[e,JX h] at z;cases z
 |some v=>
  obtain⟨k',rfl,_⟩:=gk e
  rw[gO e]
theorem qG {pts:List (Str×Str)}:(g5 pts).map (·.2)=(pts.map (·.2)).map V.str:=by unfold g5;rw[Km,Km];rfl
abbrev jD (P:Program)(w:World)(K:Qe)(mg:Str->Option Value)(base:Heap):Prop:=V9 P w K mg base E7 1 "may_be" ["name","image","fixed"] [] (mx K)
theorem vq {f:Addr}{fd:FuncData}(T:Txt K mg)(F:Fun K "may_be" "may_be" jO f fd):C0 P w K mg base E7 1 f fd ["name","image","fixed"] (mx K):=by
 walk_at "#sc_may_be"
 .obtain⟨d,n,im,fx,rfl,_⟩:=h;rfl
 .obtain⟨d,n,im,fx,rfl,hd,k⟩:=h;walk_at "@sc_may_be 7soI002naHK01c200haHD01-~hL~g~f3~0#~e~d~c02n"
  symm;refine V2 (E1 (k:=Sum.inr n) (.inl hd)) ?_;rw[J3];symm;refine K4 (λh1=>?_) (λh1=>?_)
  .symm;refine k8 (v:= .str (i7 (g5 fx) n)) (by have z:=E1 (k:=Sum.inr n) (.inl hd);rw[rF h1] at z;exact z) ?_;symm;have e:W8 fx n im=decide (im=i7 (g5 fx) n):=by unfold W8;rw[if_pos h1]
   rw[←e];exact k H (Same.refl H)
  .symm;refine⟨.inr (.inr (.inl ⟨rfl,.inl ⟨_,hd⟩⟩)),?_⟩;symm;refine⟨d,_,rfl,rfl,.inl hd,λv1 n1=>?_⟩;obtain⟨H1,e1,f1,m1,_⟩:=b9 (o:= .ext (lZ v1 d)) n1;rw[e1];symm;refine aE f1 (.inl (m1 _ _ hd)) (λl2 n2=>?_);obtain⟨H2,e2,f2,m2,_⟩:=b9 (o:= .lst _) n2;rw[e2];refine E2 (gs:=fx.map (·.2)) (SqL.of (by rw[f2,qG])) ?_;have e:W8 fx n im=!decide (im∈fx.map (·.2)):=by unfold W8;rw[if_neg h1]
   rw[←e];exact k H2 (m1.trans m2)
def LstAt (H:Hp)(v:V)(l:List Str):Prop:=∃a,v= .ref a/\H a=some (.lst (l.map V.str))
theorem LstAt.same {H H':Hp}{v:V}{l:List Str}(h:LstAt H v l)(s:Same H H'):LstAt H' v l:=let ⟨a,e,z⟩:=h;⟨a,e,s _ _ z⟩
def ChAt (H:Hp)(F:Str×Str->List Str)(kvs:List (j0×V))(pts:List (Str×Str)):Prop:=Paired (λkv x=>kv.1=Sum.inr x.1/\LstAt H kv.2 (F x)) kvs pts
theorem ChAt.same {H H':Hp}{F:Str×Str->List Str}{kvs:List (j0×V)}{pts:List (Str×Str)}(h:ChAt H F kvs pts)(s:Same H H'):ChAt H' F kvs pts:=Paired.imp' (λ_ _ z=>⟨z.1,z.2.same s⟩) h
theorem ChAt.keys {H:Hp}{F:Str×Str->List Str}:∀{kvs:List (j0×V)} {pts:List (Str×Str)},ChAt H F kvs pts->kvs.map (·.1)=(pts.map (·.1)).map Sum.inr
 |_,_,.nil=>rfl
 |_,_,.cons a t=>by rw[Kx,a.1,ChAt.keys t];rfl
theorem wU {p:Str->Bool}{s:List Str}{i:Nat}{x:Str}(h:s[i]?=some x)(hp:p x=true):(s.take (i+1)).filter p=(s.take i).filter p++[x]:=by grind [List.take_succ,List.filter_append,List.filter,List.filter_cons_of_pos]
theorem tD {p:Str->Bool}{s:List Str}{i:Nat}{x:Str}(h:s[i]?=some x)(hp:p x=false):(s.take (i+1)).filter p=(s.take i).filter p:=by grind [List.take_succ,List.filter_append,List.filter,List.filter_cons_of_neg]
theorem ip {p:Str->Bool}{s:List Str}{i:Nat}:((s.take i).filter p).length<=s.length:=Kg (JJ _ _) (by rw[JP];lia)
theorem fh {p b:Addr}{o:Obj}{kvs:List (j0×V)}{H:Hp}(h:b≠p):z7 p o kvs H b=H b:=d6 h
theorem CD {p:Addr}{o:Obj}{kvs:List (j0×V)}{H:Hp}:z7 p o kvs H p=some (.frz o (.dK kvs)):=d0
theorem qi {p:Addr}{o:Obj}{kvs:List (j0×V)}{H H1:Hp}(s:Same H H1):Same (z7 p o kvs H) (z7 p o kvs H1):=λb u hb=>by
 by_cases z:b=p
 .rw[z,CD] at hb⊢;exact hb
 .rw[fh z] at hb⊢;exact s _ _ hb
theorem Bb {kvs:List (j0×V)}{pp:List (Str×Str)}{i:Nat}{kv:j0×V}(h:kvs.map (·.1)=(pp.map (·.1)).map Sum.inr)(e:kvs[i]?=some kv):∃x,pp[i]?=some x/\kv.1=Sum.inr x.1:=by
 have z:(kvs.map (·.1))[i]?=some kv.1:=by rw[JC,e];rfl
 rw[h,JC,JC] at z;cases e2:pp[i]? with
 |none=>rw[e2] at z;cases z
 |some x=>rw[e2] at z;exact⟨x,rfl,(JU z).symm⟩
theorem Bn {kvs:List (j0×V)}{k:j0}(h:k∈kvs.map (·.1)):∃u,z0 kvs k=some u:=by
 induction kvs with
 |nil=>cases h
 |cons p r ih=>
  by_cases e:p.1=k
  .exact⟨p.2,J1 e⟩
  .rw[I9 e]
   exact ih ((Kl.mp h).resolve_left λz=>e z.symm)
def bg (K:Qe):Sp:=λvs H Q _=>∃(p g d:Addr) (e_ y_:List (j0×V)) (pp gg fx:List (Str×Str)) (L:Str->Str->Bool) (gp:List Str),vs=[.ref p,.ref g,.ref d]/\H p=some (.dK e_)/\e_.map (·.1)=(pp.map (·.1)).map Sum.inr/\(pp.map (·.1)).Nodup/\pp.length<=30/\Rd H g (.dK y_)/\y_.map (·.1)=(gg.map (·.1)).map Sum.inr/\(gg.map (·.1)).Nodup/\gg.length<=30/\gp.Perm (gg.map (·.1))/\sortedS gp=true/\
 (∀(n:Str) (v:V) (m:Str) (u:V),(Sum.inr n,v)∈e_->z0 y_ (Sum.inr m:j0)=some u->EqA K H u v (L n m))/\H d=some (.dK (g5 fx))/\d≠p/\
 ∀(c:Addr) (H':Hp) (kvs:List (j0×V)),H c=none->Same H H'->H' c=some (.dK kvs)->ChAt H' (λx=>rW L gp fx x.1) kvs pp->Q (.ref c) H'
abbrev cf (P:Program)(w:World)(K:Qe)(mg:Str->Option Value)(base:Heap):Prop:=V9 P w K mg base E7 2 "point_choices" ["piece_looks","web_looks","fixed"] [] (bg K)
theorem ie {f:Addr}{fd:FuncData}(T:Txt K mg)(bB:jD P w K mg base)(F:Fun K "point_choices" "point_choices" Z4 f fd):C0 P w K mg base E7 2 f fd ["piece_looks","web_looks","fixed"] (bg K):=by
 walk_at "#sc_point_choices"
 .obtain⟨p,g,d,e_,y_,pp,gg,fx,L,gp,rfl,_⟩:=h;rfl
 .obtain⟨p,g,d,e_,y_,pp,gg,fx,L,gp,rfl,hp,hkp,npp,lpp,hg,hkg,ngg,lgg,pgp,ogp,hEq,hd,Tw,k⟩:=h;have lkp:e_.length=pp.length:=by have z:=KQ List.length hkp;rwa [Jx,Jx,Jx] at z
  have ngp:gp.Nodup:=pgp.nodup_iff.mpr ngg;have Yq:gp.length<=30:=by rw[pgp.length_eq,Jx];exact lgg
  walk_at "@sc_point_choices 43M7vw)00yb49b59z7^6image;51;rtWVU51Bg0limage,look,web_looks;BPu'2Gm %~5c20001hB00dCximage;42;r06g0limage,name,fixed;P~46'0bB 81k02000304a03"
  symm;intro c nc;obtain⟨H1,e1,f1,m1,_⟩:=b9 (o:= .dK []) nc;rw[e1];symm;have OA:=m1 _ _ hp;have Yr:c≠p:=(b5 hp nc).symm;refine J2 OA (λTx o1=>?_);refine dI (n:=e_.length) (λi σ H'=>∃(kvs:List (j0×V)) (v1 v2 v3:Option V),σ=[some (.ref p),some (.ref g),some (.ref d),some (.ref c),v1,v2,v3]/\Same (z7 p o1 e_ H) H'/\H' c=some (.dK kvs)/\ChAt H' (λx=>rW L gp fx x.1) kvs (pp.take i)) ⟨[],none,none,none,rfl,?_,?_,.nil⟩ (λi σ H' hi hp=>?_) ?_ ?_
  .exact qi m1
  .rw[fh Yr];exact f1
  .obtain⟨_,_,_,_,_,s,_⟩:=hp;exact⟨s _ _ d0,hi⟩
  .rintro bk i v σ H2' H2 hi ⟨kvs,v1,v2,v3,rfl,s2,QZ,ch2⟩ ⟨t,kv,f_,nt,rfl,rfl⟩ _ _;obtain⟨x,hx,ex⟩:=Bb hkp f_;obtain⟨kk,look⟩:=kv;have N':kk=Sum.inr x.1:=ex;subst N';have D_:=JM f_;obtain⟨H3,e3,f3,m3,_⟩:=b9 (o:= .tup _) nt;rw[e3];have s3:=s2.trans m3;have hg3:Rd H3 g (.dK y_):=((K5 hp).trans s3.le) _ _ rfl hg;have Ys:H3 d=some (.dK (g5 fx)):=s3 _ _ (by rw[fh Tw];exact hd);refine F5 (SqT.of f3) rfl ?_;symm;refine B9 (ss:=gg.map (·.1)) hg3 hkg (by rw[Jx];lia) (λg1 a1 a2 l4 n4=>?_);have eg:g1=gp:=N5 a2 ogp (a1.nodup_iff.mpr ngg) (a1.trans pgp.symm);subst eg;obtain⟨H4,e4,f4,m4,_⟩:=b9 (o:= .lst _) n4;rw[e4];refine A8 (SqL.of f4) ?_;refine z8 (n:=g1.length) (λi out H'=>H'=H4/\out=((g1.take i).filter λim=>L x.1 im).map V.str) ⟨rfl,rfl⟩ (λi out H' hi hp=>⟨g1.map V.str,.str (g1[i]),SqL.of (by rw[hp.1];exact f4),by rw[JC,Jy hi];rfl⟩) ?_ ?_
   .rintro N j v out H5 H5' hj ⟨rfl,rfl⟩ y hN';obtain⟨rfl,hy⟩:=Itl.get y (SqL.of f4);rw[JC] at hy;obtain⟨im,Py,rfl⟩:=Kd.mp hy;have j_:im∈gg.map (·.1):=a1.mem_iff.mp (JM Py);symm;refine⟨rfl,?_⟩;symm;obtain⟨u,hu⟩:=Bn (kvs:=y_) (k:=Sum.inr im) (by rw[hkg];exact Jz.mpr ⟨im,j_,rfl⟩);refine k8 (v:=u) (by have z:=E1 (k:=Sum.inr im) (m4.rd hg3);rw[hu] at z;exact z) ?_;symm;refine Gd (((hEq x.1 look im u D_ hu).mono (K5 hp)).mono (s3.trans m4).le) ?_;symm;refine aq (λh1=>?_) (λh1=>?_)
    .symm;refine⟨d8 (by rw[Jx];have:=ip (p:=λim=>L x.1 im) (s:=g1) (i:=j);lia),hN' _ _ ⟨rfl,?_⟩⟩;rw[wU Py h1,JF];rfl
    .exact hN' _ _ ⟨rfl,by rw[tD Py h1]⟩
   .rintro out H5 ⟨rfl,rfl⟩;refine⟨⟨_,SqL.of f4,by rw[Jx];exact JA _⟩,λD hD=>⟨d8 (by rw[Jx];have:=ip (p:=λim=>L x.1 im) (s:=g1) (i:=g1.length);lia),?_⟩⟩;rw[JK (JA _)];obtain⟨H6,e6,f6,m6,_⟩:=b9 (H:=H5) (o:= .lst ((g1.filter λim=>L x.1 im).map V.str)) hD;generalize Yt:(g1.filter λim=>L x.1 im)=al at e6 f6⊢;have m_:al.length<=30:=by rw[←Yt];exact Kg (JJ _ _) Yq
    change O8 _ _ _ (p5 H5 D _) _;rw[e6];symm;refine A8 (SqL.of f6) ?_;refine z8 (n:=al.length) (λi out H'=>Same H6 H'/\out=((al.take i).filter (W8 fx x.1)).map V.str) ⟨Same.refl _,rfl⟩ (λi out H' hi hp=>⟨_,.str (al[i]),SqL.of (hp.1 _ _ f6),by rw[JC,Jy hi];rfl⟩) ?_ ?_
    .rintro N j v out H7 H7' hj ⟨s7,rfl⟩ y hN';obtain⟨rfl,hy⟩:=Itl.get y (SqL.of (s7 _ _ f6));rw[JC] at hy;obtain⟨im,Py,rfl⟩:=Kd.mp hy;symm;refine⟨rfl,?_⟩;symm;refine⟨d,x.1,im,fx,rfl,s7 _ _ (m6 _ _ (m4 _ _ Ys)),λH8 m8=>?_⟩;symm;refine aq (λh1=>?_) (λh1=>?_)
     .symm;refine⟨d8 (by rw[Jx];have:=ip (p:=W8 fx x.1) (s:=al) (i:=j);lia),hN' _ _ ⟨s7.trans m8,?_⟩⟩;rw[wU Py h1,JF];rfl
     .exact hN' _ _ ⟨s7.trans m8,by rw[tD Py h1]⟩
    .rintro out H7 ⟨s7,rfl⟩;refine⟨⟨_,SqL.of (s7 _ _ f6),by rw[Jx];exact JA _⟩,λD2 hD2=>⟨d8 (by rw[Jx];have:=ip (p:=W8 fx x.1) (s:=al) (i:=al.length);lia),?_⟩⟩;rw[JK (JA _)];obtain⟨H8,e8,f8,m8,_⟩:=b9 (H:=H7) (o:= .lst ((al.filter (W8 fx x.1)).map V.str)) hD2;have Yu:=m4.trans (m6.trans (s7.trans m8));change BC _ _ (p5 H7 D2 _) _;rw[e8];have hc8:H8 c=some (.dK kvs):=Yu _ _ (m3 _ _ QZ);have Yv:=Kr ch2;rw[JP] at Yv;symm;refine O9 (z6 (k:=Sum.inr x.1) hc8 (d8 (by lia)) ?_);have fr:x.1∉(pp.take i).map (·.1):=λz=>by
      have e7:pp.take (i+1)=pp.take i++[x]:=by rw[Kb,hx];rfl
      have w:((pp.take (i+1)).map (·.1)).Nodup:=npp.sublist ((KO _ _).map _);rw[e7,JF] at w;exact(JQ.mp w).2.2 x.1 z x.1 (by simp) rfl
     have ek:E3 kvs (Sum.inr x.1:j0) (.ref D2)=kvs++[(Sum.inr x.1,.ref D2)]:=Q4 _ (N8 (by rw[ch2.keys];exact λm=>fr (Y1 m)));have Yw:(z7 p o1 e_ H) c=none:=by rw[fh Yr];exact nc
     have cUp:∀{v:V} {l:List Str},LstAt H8 v l->LstAt (p5 H8 c (.dK (kvs++[(Sum.inr x.1,V.ref D2)]))) v l:=fun{v l} ⟨a,ea,z⟩=>⟨a,ea,by rw[d6 (λq=>by rw[q,hc8] at z;cases z)];exact z⟩
     walk_at "X";refine⟨kvs++[(Sum.inr x.1,.ref D2)],_,_,_,rfl,D5 (s3.trans Yu) Yw,by rw[d0,ek],?_⟩;rw[ek,show pp.take (i+1)=pp.take i++[x] by rw[Kb,hx];rfl];refine A7 (Paired.imp' (λ_ _ z=>⟨z.1,cUp (z.2.same (m3.trans Yu))⟩) ch2) ⟨rfl,cUp ⟨D2,rfl,?_⟩⟩;rw[f8];show _=some (HO.lst ((rW L g1 fx x.1).map V.str));unfold rW;rw[show(List.filter (L x.1) g1)=al from Yt]
  .rintro σ H2 ⟨kvs,v1,v2,v3,rfl,s2,QZ,ch2⟩;refine⟨⟨s2 _ _ d0,JA _⟩,?_⟩;symm;have Yx:thaw p H2 c=some (.dK kvs):=by rw[O0 Yr];exact QZ
   rw[JK (by rw[lkp];exact JA _)] at ch2;refine k c _ kvs nc (Same.thaw hp s2) Yx (Paired.imp' (λkv x z=>⟨z.1,?_⟩) ch2);obtain⟨a,ea,za⟩:=z.2;have hap:a≠p:=λq=>by rw[q,s2 _ _ d0] at za;cases za
   exact⟨a,ea,by rw[O0 hap];exact za⟩
abbrev k2 (a b:Str):List j0:=[Sum.inr a,Sum.inr b]
structure TH (HB H:Hp) (t:Addr) (kvs:List (List j0×V)) (F:Str->Str->List Str):Prop where
 at_:H t=some (.dT kvs)
 no:∀a b,z0 kvs (k2 a b)=none->F a b=[]
 so:∀a b v,z0 kvs (k2 a b)=some v->∃l,v= .ref l/\H l=some (.lst ((F a b).map V.str))/\HB l=none
 inj:∀a b a' b' v,z0 kvs (k2 a b)=some v->z0 kvs (k2 a' b')=some v->a=a'/\b=b'
theorem TH.same {HB H H2:Hp}{t:Addr}{kvs:List (List j0×V)}{F:Str->Str->List Str}(h:TH HB H t kvs F)(s:Same H H2):TH HB H2 t kvs F:=
 ⟨s _ _ h.at_,h.no,λa b v e=>let ⟨l,q,z,f⟩:=h.so a b v e;⟨l,q,s _ _ z,f⟩,h.inj⟩
theorem TH.ext {HB H:Hp}{t:Addr}{kvs:List (List j0×V)}{F G:Str->Str->List Str}(h:TH HB H t kvs F)(e:∀a b,G a b=F a b):TH HB H t kvs G:=by
 have:G=F:=funext λa=>funext λb=>e a b;rw[this];exact h
theorem TH.hit {HB H:Hp}{t l:Addr}{kvs:List (List j0×V)}{F G:Str->Str->List Str}{a' b' im:Str}(h:TH HB H t kvs F)(hv:z0 kvs (k2 a' b')=some (.ref l))(h1:G a' b'=F a' b'++[im])(h2:∀a b,¬(a=a'/\b=b')->G a b=F a b):
  TH HB (p5 H l (.lst ((F a' b').map V.str++[.str im]))) t kvs G:=by
 obtain⟨l',e',z',f'⟩:=h.so _ _ _ hv
 cases e'
 have UA:t≠l:=λq=>by rw[←q,h.at_] at z';cases z'
 refine⟨by rw[d6 UA];exact h.at_,λa b e=>?_,λa b v e=>?_,h.inj⟩
 .by_cases q:a=a'/\b=b'
  .rw[q.1,q.2,hv] at e;cases e
  .rw[h2 a b q];exact h.no a b e
 .by_cases q:a=a'/\b=b'
  .obtain⟨rfl,rfl⟩:=q
   rw[hv] at e
   cases e
   exact⟨l,rfl,by rw[d0,h1,JF];rfl,f'⟩
  .obtain⟨l2,e2,z2,f2⟩:=h.so a b v e
   refine⟨l2,e2,?_,f2⟩
   have:l2≠l:=λw=>q (by
    rw[e2,w] at e;exact h.inj a b a' b' _ e hv)
   rw[d6 this,h2 a b q];exact z2
theorem TH.miss {HB H:Hp}{t l:Addr}{kvs:List (List j0×V)}{F G:Str->Str->List Str}{a' b' im:Str}(h:TH HB H t kvs F)(hv:z0 kvs (k2 a' b')=none)(hl:HB l=none)(g_:∀a b,z0 kvs (k2 a b)≠some (.ref l))(l_:l≠t)(h1:G a' b'=F a' b'++[im])(h2:∀a b,¬(a=a'/\b=b')->G a b=F a b):
  TH HB (p5 (p5 H t (.dT (E3 kvs (k2 a' b') (.ref l)))) l (.lst ([]++[.str im]))) t (E3 kvs (k2 a' b') (.ref l)) G:=by
 have hk:∀{a b:Str},¬(a=a'/\b=b')->k2 a b≠k2 a' b':=fun{a b} q w=>by
  have w1:=Mf w;have w2:=Mf w1.2;exact q ⟨LD w1.1,LD w2.1⟩
 refine⟨by rw[d6 l_.symm,d0],λa b e=>?_,λa b v e=>?_,λa b c d v e e'=>?_⟩
 .by_cases q:a=a'/\b=b'
  .rw[N3,if_pos (by rw[q.1,q.2])] at e;cases e
  .rw[N3,if_neg (hk q)] at e
   rw[h2 a b q];exact h.no a b e
 .by_cases q:a=a'/\b=b'
  .obtain⟨rfl,rfl⟩:=q
   rw[N3,if_pos rfl] at e
   cases e
   exact⟨l,rfl,by rw[d0,h1,h.no _ _ hv];rfl,hl⟩
  .rw[N3,if_neg (hk q)] at e
   obtain⟨l2,e2,z2,f2⟩:=h.so a b v e
   have w1:l2≠l:=λw=>g_ a b (by rw[e,e2,w])
   have w2:l2≠t:=λw=>by rw[w,h.at_] at z2;cases z2
   exact⟨l2,e2,by rw[d6 w1,d6 w2,h2 a b q];exact z2,f2⟩
 .by_cases q:a=a'/\b=b'
  .by_cases q':c=a'/\d=b'
   .exact⟨q.1.trans q'.1.symm,q.2.trans q'.2.symm⟩
   .rw[N3,if_pos (by rw[q.1,q.2])] at e
    rw[N3,if_neg (hk q')] at e'
    cases e
    exact absurd e' (g_ c d)
  .by_cases q':c=a'/\d=b'
   .rw[N3,if_pos (by rw[q'.1,q'.2])] at e'
    rw[N3,if_neg (hk q)] at e
    cases e'
    exact absurd e (g_ a b)
   .rw[N3,if_neg (hk q)] at e
    rw[N3,if_neg (hk q')] at e'
    exact h.inj a b c d v e e'
def PlAt (H:Hp)(v:V)(F:Str->Str->List Str):Prop:=∃(t:Addr) (kvs:List (List j0×V)),v= .ref t/\H t=some (.dT kvs)/\(∀a b,z0 kvs (k2 a b)=none->F a b=[])/\∀a b v,z0 kvs (k2 a b)=some v->LstAt H v (F a b)
theorem PlAt.same {H H':Hp}{v:V}{F:Str->Str->List Str}(h:PlAt H v F)(s:Same H H'):PlAt H' v F:=
 let ⟨t,kvs,e,a,n,z⟩:=h;⟨t,kvs,e,s _ _ a,n,λx y v q=>(z x y v q).same s⟩
def PlsAt (H:Hp)(F:Str×M8->Str->Str->List Str)(kvs:List (j0×V))(ts:List (Str×M8)):Prop:=Paired (λkv x=>kv.1=Sum.inr x.1/\PlAt H kv.2 (F x)) kvs ts
theorem PlsAt.keys {H:Hp}{F:Str×M8->Str->Str->List Str}:∀{kvs:List (j0×V)} {ts:List (Str×M8)},PlsAt H F kvs ts->kvs.map (·.1)=(ts.map (·.1)).map Sum.inr
 |_,_,.nil=>rfl
 |_,_,.cons a t=>by rw[Kx,a.1,PlsAt.keys t];rfl
theorem PlsAt.same {H H':Hp}{F:Str×M8->Str->Str->List Str}{kvs:List (j0×V)}{ts:List (Str×M8)}(h:PlsAt H F kvs ts)(s:Same H H'):PlsAt H' F kvs ts:=Paired.imp' (λ_ _ z=>⟨z.1,z.2.same s⟩) h
theorem thaw_at {q a:Addr}{H:Hp}{o:Obj}{w u:HO}(hq:H q=some (.frz o w))(ha:H a=some u)(hu:∀o' w',u≠ .frz o' w'):thaw q H a=some u:=by
 have:a≠q:=λz=>by rw[z,hq] at ha;cases ha;exact hu _ _ rfl
 rw[O0 this];exact ha
theorem LstAt.thaw {q:Addr}{H:Hp}{o:Obj}{w:HO}{v:V}{l:List Str}(hq:H q=some (.frz o w))(h:LstAt H v l):LstAt (thaw q H) v l:=let ⟨a,e,z⟩:=h;⟨a,e,thaw_at hq z (λ_ _ z=>nomatch z)⟩
theorem PlAt.thaw {q:Addr}{H:Hp}{o:Obj}{w:HO}{v:V}{F:Str->Str->List Str}(hq:H q=some (.frz o w))(h:PlAt H v F):PlAt (thaw q H) v F:=
 let ⟨t,kvs,e,a,n,z⟩:=h;⟨t,kvs,e,thaw_at hq a (λ_ _ z=>nomatch z),n,λx y v q=>(z x y v q).thaw hq⟩
def eX (K:Qe):Sp:=λvs H Q _=>∃(a p q a' p' q' d:Addr) (kvs d_:List (j0×V)) (Pc W:B0) (fx:List (Str×Str)) (gt:List Str),vs=[.ref a,.ref a',.ref d]/\WebAt K H a p q kvs Pc/\H q=some (.dK kvs)/\(Pc.ts.map (·.1)).Nodup/\Pc.ts.length<=30/\WebAt K H a' p' q' d_ W/\(W.ts.map (·.1)).Nodup/\W.ts.length<=30/\gt.Perm (W.ts.map (·.1))/\sortedS gt=true/\H d=some (.dK (g5 fx))/\d≠q/\
 ∀(c:Addr) (H':Hp) (e_:List (j0×V)),H c=none->Same H H'->H' c=some (.dK e_)->PlsAt H' (λx a b=>uM W gt fx x.1 (x.2.1,a,b)) e_ Pc.ts->Q (.ref c) H'
abbrev fY (P:Program)(w:World)(K:Qe)(mg:Str->Option Value)(base:Heap):Prop:=V9 P w K mg base E7 2 "tie_places" ["piece","web","fixed"] [] (eX K)
theorem lI {f:Addr}{fd:FuncData}(T:Txt K mg)(bB:jD P w K mg base)(F:Fun K "tie_places" "tie_places" bY f fd):C0 P w K mg base E7 2 f fd ["piece","web","fixed"] (eX K):=by
 walk_at "#sc_tie_places"
 .obtain⟨a,p,q,a',p',q',d,kvs,d_,Pc,W,fx,gt,rfl,_⟩:=h;rfl
 .obtain⟨a,p,q,a',p',q',d,kvs,d_,Pc,W,fx,gt,rfl,hP,hq,Sk,lP,hW,ndW,lW,pgt,ogt,hd,TC,k⟩:=h;have lgt:gt.length<=30:=by rw[pgt.length_eq,Jx];exact lW
  have OL:=hP.ts.length;walk_at "@sc_tie_places 43M7vw)10yb49b59z46'0HJ 7vwrtWVU311g7948e1107dsAZuK1815h~46'0bB 84k72dQN(:/.N#'0PySem.F.slot_dict_setdefault '0PySem.F.type_dict_setdefault '1eh ~506i&08Y2*E57dC060304a03"
  symm;intro c nc;obtain⟨H1,e1,f1,m1,_⟩:=b9 (o:= .dK []) nc;rw[e1];have hcq:c≠q:=(b5 hq nc).symm;symm;refine i9 (m1.tup hP.tup) ?_;refine J2 (m1 _ _ hq) (λRv o1=>?_);refine dI (n:=kvs.length) (λi σ H'=>∃(e_:List (j0×V)) (v1 v2 v3 v4 v5:Option V),σ=[some (.ref a),some (.ref a'),some (.ref d),some (.ref c),v1,v2,v3,v4,v5]/\Same (z7 q o1 kvs H) H'/\H' c=some (.dK e_)/\PlsAt H' (λx a b=>uM W gt fx x.1 (x.2.1,a,b)) e_ (Pc.ts.take i)) ⟨[],none,none,none,none,none,rfl,qi m1,by rw[fh hcq];exact f1,.nil⟩ (λi σ H' hi hp=>?_) ?_ ?_
  .obtain⟨_,_,_,_,_,_,_,s,_⟩:=hp;exact⟨s _ _ d0,hi⟩
  .rintro bk i v σ H2' H2 hi ⟨e_,v1,v2,v3,v4,v5,rfl,s2,QZ,RY⟩ ⟨t,kv,f_,nt,rfl,rfl⟩ _ _;obtain⟨H3,e3,f3,m3,_⟩:=b9 (o:= .tup _) nt;rw[e3];have s3:=s2.trans m3;have Pk:=(K5 (o:=o1) hq).trans s3.le;have P3:=hP.mono Pk;have W3:=hW.mono Pk;have Ys:H3 d=some (.dK (g5 fx)):=s3 _ _ (by rw[fh TC];exact hd);obtain⟨x,hx,ex,tb,eb,sb⟩:=P3.ts.get f_;obtain⟨kk,QD⟩:=kv;have N':kk=Sum.inr x.1:=ex;have QF:QD= .ref tb:=eb;subst N' QF;refine F5 (SqT.of f3) rfl ?_;symm;intro th nth;obtain⟨H4,e4,f4,m4,_⟩:=b9 (o:= .dT []) nth;rw[e4];symm;refine i9 (m4.tup W3.tup) ?_;symm;refine B9 (ss:=W.ts.map (·.1)) (m4.rd W3.ties) (by rw[W3.ts.keys,B6]) (by rw[Jx];lia) (λg1 a1 a2 l5 n5=>?_);have eg:g1=gt:=N5 a2 ogt (a1.nodup_iff.mpr ndW) (a1.trans pgt.symm);subst eg;obtain⟨H5,e5,f5,m5,_⟩:=b9 (o:= .lst _) n5;rw[e5];refine A8 (SqL.of f5) ?_;have hl5:H3 l5=none:=m4.free n5;refine dI (n:=g1.length) (λj σ H'=>∃(kt:List (List j0×V)) (w1 w2:Option V),σ=[some (.ref a),some (.ref a'),some (.ref d),some (.ref c),some (.str x.1),some (.ref tb),some (.ref th),w1,w2]/\Same H3 H'/\H' l5=some (.lst (g1.map V.str))/\kt.length<=j/\(∀A B,z0 kt (k2 A B)≠some (.ref l5))/\TH H3 H' th kt λA B=>(g1.take j).filter λim=>decide (M9 W.ts im=(x.2.1,A,B))&&W8 fx x.1 im) ⟨[],v4,v5,rfl,m4.trans m5,f5,JA _,(λ_ _ z=>nomatch z),⟨m5 _ _ f4,(λ_ _ _=>rfl),(λ_ _ _ z=>nomatch z),λ_ _ _ _ _ z _=>nomatch z⟩⟩ (λj σ H' hj hp=>?_) ?_ ?_
   .obtain⟨_,_,_,_,_,z,_⟩:=hp;walk_at "X";exact⟨g1.map V.str,.str (g1[j]),SqL.of z,by rw[JC,Jy hj];rfl⟩
   .rintro bk2 j v σ H6' H6 hj ⟨kt,w1,w2,rfl,s6,TF,lk6,nl6,th6⟩ y _ _;obtain⟨rfl,hy⟩:=Itl.get y (SqL.of TF);rw[JC] at hy;obtain⟨im,Py,rfl⟩:=Kd.mp hy;have j_:im∈W.ts.map (·.1):=a1.mem_iff.mp (JM Py);have W6:=W3.mono s6.le;obtain⟨aa,hv,hT⟩:=gK W6.ts ndW (de j_);generalize Yy:M9 W.ts im=to at hT;obtain⟨t1,t2,t3⟩:=to;symm;refine i9 W6.tup ?_;symm;refine k8 (v:= .ref aa) (by have z:=E1 (k:=Sum.inr im) W6.ties;rw[hv] at z;exact z) ?_;symm;refine j3 hT ?_;symm;refine j3 (s6.tup sb) ?_;symm;have stay:(∀A B,(decide (M9 W.ts im=(x.2.1,A,B))&&W8 fx x.1 im)=false)->∀H7,Same H6 H7->∃(kt:List (List j0×V)) (w1 w2:Option V),[some (.ref a),some (.ref a'),some (.ref d),some (.ref c),some (.str x.1),some (.ref tb),some (.ref th),some (.str im),some (.ref aa)]=[some (.ref a),some (.ref a'),some (.ref d),some (.ref c),some (.str x.1),some (.ref tb),some (.ref th),w1,w2]/\Same H3 H7/\H7 l5=some (.lst (g1.map V.str))/\kt.length<=j+1/\(∀A B,z0 kt (k2 A B)≠some (.ref l5))/\TH H3 H7 th kt λA B=>(g1.take (j+1)).filter λim=>decide (M9 W.ts im=(x.2.1,A,B))&&W8 fx x.1 im:=λhf H7 m7=>
     ⟨kt,_,_,rfl,s6.trans m7,m7 _ _ TF,by lia,nl6,(th6.same m7).ext λA B=>tD Py (hf A B)⟩
    refine K4 (λh1=>?_) (λh1=>?_)
    .symm;refine⟨d,x.1,im,fx,rfl,s6 _ _ Ys,λH7 m7=>?_⟩;symm;refine aq (λh2=>?_) (λh2=>?_)
     .symm;have Yz:=th6.same m7;refine⟨.inr (.inr (.inl ⟨rfl,.inr ⟨_,Yz.at_⟩⟩)),?_⟩;symm;refine gI (m7.tup hT) (by rintro⟨z,_⟩;exact absurd (show(1:Nat)=0 from z) (by decide)) (λl8 n8=>?_);obtain⟨H8,e8,f8,m8,_⟩:=b9 (o:= .tup [.str t2,.str t3]) n8;rw[show cO (Z5 (t1,t2,t3)) (some 1) none=[V.str t2,.str t3] from rfl,e8];symm;refine⟨d8 (by simp),λl9 n9=>?_⟩;obtain⟨H9,e9,f9,m9,o9⟩:=b9 (o:= .lst []) n9;rw[e9];have UB:=Yz.same (m8.trans m9);have s39:=s6.trans (m7.trans (m8.trans m9));have hl9:H3 l9=none:=(s6.trans (m7.trans m8)).free n9;have Sv:=(m7.trans (m8.trans m9)) _ _ TF;have O_:((g1.take (j+1)).filter λim=>decide (M9 W.ts im=(x.2.1,t2,t3))&&W8 fx x.1 im)=((g1.take j).filter λim=>decide (M9 W.ts im=(x.2.1,t2,t3))&&W8 fx x.1 im)++[im]:=wU Py (by rw[Yy,h2,JX (by rw[show t1=x.2.1 from h1])];rfl);have Pj:∀A B,¬(A=t2/\B=t3)->((g1.take (j+1)).filter λim=>decide (M9 W.ts im=(x.2.1,A,B))&&W8 fx x.1 im)=((g1.take j).filter λim=>decide (M9 W.ts im=(x.2.1,A,B))&&W8 fx x.1 im):=λA B g_=>tD Py (by
       rw[Yy,Kf (λz=>g_ ?_)];rfl;have z2:=(LG z).2;walk_at "X";exact⟨(LG z2).1.symm,(LG z2).2.symm⟩)
      refine⟨th,l8,kt,k2 t2 t3,.ref l9,rfl,rfl,UB.at_,m9 _ _ f8,d8 (by lia),?_⟩;cases hvk:z0 kt (k2 t2 t3) with
      |some v=>
       obtain⟨l,rfl,hl,YA⟩:=UB.so _ _ _ hvk
       refine⟨.inl ⟨rfl,_,SqL.of hl⟩,?_⟩
       symm
       refine⟨l,_,.str im,rfl,rfl,hl,d8 (by rw[Jx];have:=ip (p:=λim=>decide (M9 W.ts im=(x.2.1,t2,t3))&&W8 fx x.1 im) (s:=g1) (i:=j);lia),?_⟩
       have Vv:l5≠l:=λz=>nl6 t2 t3 (by rw[hvk,z])
       walk_at "X"
       exact⟨kt,_,_,rfl,D5 s39 YA,by rw[d6 Vv];exact Sv,by lia,nl6,UB.hit hvk O_ Pj⟩
      |none=>
       have l_:l9≠th:=λz=>by rw[z,UB.at_] at f9;cases f9
       have g_:∀A B,z0 kt (k2 A B)≠some (.ref l9):=λA B z=>by
        obtain⟨l,e,hl,_⟩:=(Yz.same m8).so _ _ _ z;cases e;rw[n9] at hl;cases hl
       have h59:l5≠l9:=λz=>by
        have:=(m7.trans m8) _ _ TF;rw[z,n9] at this;cases this
       have h5t:l5≠th:=λz=>by rw[z,UB.at_] at Sv;cases Sv
       refine⟨.inl ⟨rfl,[],SqL.of (by rw[d6 l_];exact f9)⟩,?_⟩
       symm
       refine⟨l9,[],.str im,rfl,rfl,by rw[d6 l_];exact f9,d8 (by simp),?_⟩
       have YB:H3 th=none:=nth
       walk_at "X"
       refine⟨E3 kt (k2 t2 t3) (.ref l9),_,_,rfl,D5 (D5 s39 YB) hl9,by rw[d6 h59,d6 h5t];exact Sv,?_,λA B z=>?_,UB.miss hvk hl9 g_ l_ O_ Pj⟩
       .have:=Q9 kt (k2 t2 t3) (.ref l9);lia
       .rw[N3] at z
        split at z
        .cases z;exact h59 rfl
        .exact nl6 A B z
     .symm;exact stay (λA B=>by rw[h2,Bool.and_false]) H7 m7
    .symm;exact stay (λA B=>by rw[Yy,Kf (λz=>h1 (LG z).1)];rfl) H6 (Same.refl _)
   .rintro σ H6 ⟨kt,w1,w2,rfl,s6,TF,lk6,nl6,th6⟩;refine⟨⟨_,SqL.of TF,by rw[Jx];exact JA _⟩,?_⟩;rw[JK (JA _)] at th6;have YC:H6 c=some (.dK e_):=s6 _ _ (m3 _ _ QZ);have Yv:=Kr RY;rw[JP] at Yv;symm;refine O9 (z6 (k:=Sum.inr x.1) YC (d8 (by lia)) ?_);have e7:Pc.ts.take (i+1)=Pc.ts.take i++[x]:=by rw[Kb,hx];rfl
    have fr:x.1∉(Pc.ts.take i).map (·.1):=λz=>by
     have w:((Pc.ts.take (i+1)).map (·.1)).Nodup:=Sk.sublist ((KO _ _).map _);rw[e7,JF] at w;exact(JQ.mp w).2.2 x.1 z x.1 (by simp) rfl
    have ek:E3 e_ (Sum.inr x.1:j0) (.ref th)=e_++[(Sum.inr x.1,.ref th)]:=Q4 _ (N8 (by rw[RY.keys];exact λm=>fr (Y1 m)));have Yw:(z7 q o1 kvs H) c=none:=by rw[fh hcq];exact nc
    have cL:∀{v:V} {l:List Str},LstAt H6 v l->LstAt (p5 H6 c (.dK (e_++[(Sum.inr x.1,V.ref th)]))) v l:=fun{v l} ⟨a,ea,z⟩=>⟨a,ea,by rw[d6 (λq=>by rw[q,YC] at z;cases z)];exact z⟩
    have cP:∀{v:V} {F:Str->Str->List Str},PlAt H6 v F->PlAt (p5 H6 c (.dK (e_++[(Sum.inr x.1,V.ref th)]))) v F:=fun{v F} ⟨t,kk,e,z,n,so⟩=>⟨t,kk,e,by rw[d6 (λq=>by rw[q,YC] at z;cases z)];exact z,n,λA B v e=>cL (so A B v e)⟩
    walk_at "X";refine⟨e_++[(Sum.inr x.1,.ref th)],_,_,_,_,_,rfl,D5 (s3.trans s6) Yw,by rw[d0,ek],?_⟩;rw[ek,e7];refine A7 (Paired.imp' (λ_ _ z=>⟨z.1,cP (z.2.same (m3.trans s6))⟩) RY) ⟨rfl,cP ⟨th,kt,rfl,th6.at_,th6.no,λA B v e=>?_⟩⟩;obtain⟨l,e1,e2,_⟩:=th6.so A B v e;walk_at "X";exact⟨l,e1,e2⟩
  .rintro σ H2 ⟨e_,v1,v2,v3,v4,v5,rfl,s2,QZ,RY⟩;refine⟨⟨s2 _ _ d0,JA _⟩,?_⟩;symm;have TJ:H2 q=some (.frz o1 (.dK kvs)):=s2 _ _ d0;rw[JK (by lia)] at RY;exact k c _ e_ nc (Same.thaw hq s2) (thaw_at TJ QZ (λ_ _ z=>nomatch z)) (Paired.imp' (λkv x z=>⟨z.1,z.2.thaw TJ⟩) RY)
def cS (fx:List (Str×Str))(n:Str):Bool:=!decide (n∈fx.map (·.1))
theorem Ew {td ty tx:TE}{σ:L2.St}{H:Hp}{Q:VK}(q:td σ H λx H1=>∃a,x= .ref a/\Gv H1 a/\ty σ H1 λy H2=>tx σ H2 λz H3=>∃o,DGet H3 a y o/\Q (o.getD z) H3):tO td ty tx σ H Q:=q
abbrev LsAt (H:Hp)(xs:List V)(ls:List (List Str)):Prop:=Paired (LstAt H) xs ls
theorem LsAt.same {H H':Hp}{xs:List V}{ls:List (List Str)}(h:LsAt H xs ls)(s:Same H H'):LsAt H' xs ls:=Paired.imp' (λ_ _ z=>z.same s) h
theorem mh:∀l d:List Str,U5 (l.map V.str) (d.map V.str)=decide (l=d)
 |[],[]=>rfl
 |[],_::_=>by simp [U5]
 |_::_,[]=>by simp [U5]
 |x::l,y::d=>by
  show(dH (.str x) (.str y)&&U5 (l.map V.str) (d.map V.str))=_;rw[mh l d,Kw];simp [dH]
def qr (H:Hp):V->List V
 | .ref a=>match H a with
  |some (.lst xs)=>xs
  |_=>[]
 |_=>[]
theorem qL {H:Hp}{v:V}{l:List Str}(h:LstAt H v l):qr H v=l.map V.str:=by grind [LstAt,qr]
theorem qT {H:Hp}{d:List Str}:∀{xs:List V} {ls:List (List Str)},LsAt H xs ls->xs.countP (λz=>U5 (qr H z) (d.map V.str))=ls.count d
 |_,_,.nil=>rfl
 |_,l::_,.cons a t=>by
  rw[NX,List.count_cons,qT t,qL a,mh];by_cases e:l=d
  .rw[if_pos (JX e),if_pos (by simpa using e)]
  .rw[if_neg (by rw[Kf e];decide),if_neg (by simpa using e)]
def nF (K:Qe):Sp:=λvs H Q _=>∃(l:Addr) (xs:List V) (ls:List (List Str)),vs=[.ref l]/\H l=some (.lst xs)/\LsAt H xs ls/\ls.length<=60/\∀H',Same H H'->Q (.bl (xm ls)) H'
abbrev jE (P:Program)(w:World)(K:Qe)(mg:Str->Option Value)(base:Heap):Prop:=V9 P w K mg base E7 1 "enough" ["lists"] [] (nF K)
theorem wX {f:Addr}{fd:FuncData}(T:Txt K mg)(F:Fun K "enough" "enough" kB f fd):C0 P w K mg base E7 1 f fd ["lists"] (nF K):=by
 walk_at "#sc_enough"
 .obtain⟨l,xs,ls,rfl,_⟩:=h;rfl
 .obtain⟨l,xs,ls,rfl,hl,hx,hn,k⟩:=h;have s_:=Kr hx;walk_at "@sc_enough at|{`3xdrawn;0;r00g0ldrawn,lists;JH'0GI N('0PySem.F.slot_list_count '0PySem.F.type_list_count '2iZ %~50150q50h";symm;refine A8 (SqL.of hl) ?_;refine z8 (n:=xs.length) (λi out H'=>H'=H/\out=(ls.take i).map λd=>V.bl (decide (ls.count d<=d.length))) ⟨rfl,rfl⟩ (λi out H' hi hp=>⟨xs,xs[i],SqL.of (by rw[hp.1];exact hl),Jy hi⟩) ?_ ?_
  .rintro N i v out H1' H1 hi ⟨rfl,rfl⟩ y hN';obtain⟨rfl,hy⟩:=Itl.get y (SqL.of hl);obtain⟨d,hd,a,rfl,hda⟩:=L8 hx hy;symm;refine⟨rfl,?_⟩;symm;refine⟨.inl ⟨rfl,_,SqL.of hl⟩,?_⟩;symm;refine⟨l,xs,.ref a,λz=>U5 (qr H1 z) (d.map V.str),rfl,rfl,hl,λz hz=>?_,?_⟩
   .obtain⟨j,hj⟩:=Lj hz;obtain⟨e,he,b,rfl,hb⟩:=L8 hx hj;exact⟨b,a,_,_,rfl,rfl,SqL.of hb,SqL.of hda,U6 _,U6 _,by show U5 (qr H1 (V.ref b)) _=_;rw[qL ⟨b,rfl,hb⟩]⟩
   .rw[qT hx];symm;refine E4 (r9 (SqL.of hda) ?_);rw[Jx];symm;refine⟨d8 (by rw[Jx,JP];lia),hN' _ _ ⟨rfl,?_⟩⟩;have e:decide ((ls.count d:Int)<=(d.length:Int))=decide (ls.count d<=d.length):=by rw[Kw];simp
    rw[e];exact K9 (λd=>V.bl (decide (ls.count d<=d.length))) hd
  .rintro out H1 ⟨rfl,rfl⟩;refine⟨⟨_,SqL.of hl,JA _⟩,λD hD=>⟨d8 (by rw[Jx,JP];lia),?_⟩⟩;rw[JK (by lia)];obtain⟨H2,e2,f2,m2,_⟩:=b9 (H:=H1) (o:= .lst (ls.map λd=>V.bl (decide (ls.count d<=d.length)))) hD;symm;change wg K _ (p5 H1 D _) _;rw[e2];refine mK (bs:=ls.map λd=>decide (ls.count d<=d.length)) (SqL.of (by rw[f2,Km];rfl)) ?_;have e:(ls.map λd=>decide (ls.count d<=d.length)).all id=xm ls:=by unfold xm;rw[LJ];rfl
   rw[e];exact k H2 m2
structure Sx (K:Qe) (H:Hp) (a p q c pl:Addr) (kvs w_ e_:List (j0×V)) (L:Str->Str->Bool) (Pc W:B0) (s1 s2 gp gt:List Str) (fx:List (Str×Str)):Prop where
 S:SrchP L Pc W s1 s2 gp gt fx
 at_:WebAt K H a p q kvs Pc
 hq:H q=some (.dK kvs)
 l1:(b7 Pc).length<=30
 l2:(b7 W).length<=30
 big:((b7 Pc).length+1)*(max W.pts.length W.ts.length+1) ^ ((b7 Pc).filter (cS fx)).length<=1000000
 hc:H c=some (.dK w_)
 ch:ChAt H (λx=>rW L gp fx x.1) w_ Pc.pts
 hl:H pl=some (.dK e_)
 pls:PlsAt H (λx a b=>uM W gt fx x.1 (x.2.1,a,b)) e_ Pc.ts
theorem Sx.same {H H':Hp}{a p q c pl:Addr}{kvs w_ e_:List (j0×V)}{L:Str->Str->Bool}{Pc W:B0}{s1 s2 gp gt:List Str}{fx:List (Str×Str)}(h:Sx K H a p q c pl kvs w_ e_ L Pc W s1 s2 gp gt fx)(s:Same H H'):Sx K H' a p q c pl kvs w_ e_ L Pc W s1 s2 gp gt fx:=
 ⟨h.S,h.at_.mono s.le,s _ _ h.hq,h.l1,h.l2,h.big,s _ _ h.hc,h.ch.same s,s _ _ h.hl,h.pls.same s⟩
theorem ql {α : Type} {R : V -> Str × α -> Prop} : ∀ {kvs : List (j0 × V)} {ts : List (Str × α)} {x : Str × α}, Paired (λkv x => kv.1 = Sum.inr x.1 /\ R kv.2 x) kvs ts -> (ts.map (·.1)).Nodup -> x ∈ ts -> ∃ v, z0 kvs (Sum.inr x.1 : j0) = some v /\ R v x
 := by
  intro kvs ts x hp nd hx;induction hp with
  | nil => cases hx
  | @cons kv y r ts a t ih =>
    have nd' := KN.mp (show (y.1 :: ts.map (·.1)).Nodup from nd)
    rcases Kl.mp hx with z | z
    . subst z
      exact ⟨kv.2, J1 a.1, a.2⟩
    . obtain ⟨v, h1, h2⟩ := ih nd'.2 z
      refine ⟨v, ?_, h2⟩
      rw [I9 (by rw [a.1]; exact λe => nd'.1 (Jz.mpr ⟨x, z, (LD e).symm⟩))]; exact h1
def dy (K:Qe):Sp:=λvs H Q _=>∃(a p q c pl d:Addr) (kvs w_ e_ kvm:List (j0×V)) (L:Str->Str->Bool) (Pc W:B0) (s1 s2 gp gt:List Str) (fx:List (Str×Str)) (x:Str×M8),vs=[.ref a,.ref pl,.ref d,.str x.1]/\Sx K H a p q c pl kvs w_ e_ L Pc W s1 s2 gp gt fx/\x∈Pc.ts/\Rd H d (.dK kvm)/\TxtAt kvm x.2.2.1/\TxtAt kvm x.2.2.2/\
 ∀(v:V) (H':Hp),Same H H'->LstAt H' v (uM W gt fx x.1 (x.2.1,i7 kvm x.2.2.1,i7 kvm x.2.2.2))->Q v H'
abbrev aM (P:Program)(w:World)(K:Qe)(mg:Str->Option Value)(base:Heap):Prop:=V9 P w K mg base E7 2 "tie_choices" ["piece","places","put","name"] [] (dy K)
theorem jZ {f:Addr}{fd:FuncData}(T:Txt K mg)(E6:Y2 P w K mg base)(F:Fun K "tie_choices" "tie_choices" aO f fd):C0 P w K mg base E7 2 f fd ["piece","places","put","name"] (dy K):=by
 walk_at "#sc_tie_choices"
 .obtain⟨a,p,q,c,pl,d,kvs,w_,e_,kvm,L,Pc,W,s1,s2,gp,gt,fx,x,rfl,_⟩:=h;rfl
 .obtain⟨a,p,q,c,pl,d,kvs,w_,e_,kvm,L,Pc,W,s1,s2,gp,gt,fx,x,rfl,X0,hx,hd,t1,t2,k⟩:=h;obtain⟨aa,hv,hT⟩:=gK X0.at_.ts (K2 X0.S.nd) (show(x.1,x.2)∈Pc.ts from hx);walk_at "@sc_tie_choices 44&6'0E6 pe100352Y2*a~zc10304E"
  symm;refine i9 X0.at_.tup ?_;symm;refine k8 (v:= .ref aa) (by have z:=E1 (k:=Sum.inr x.1) X0.at_.ties;rw[hv] at z;exact z) ?_;symm;refine⟨aa,d,x.2,kvm,rfl,hT,hd,t1,t2,λl1 H1 n1 m1 f1=>?_⟩;symm;refine gI (SqT.of f1) (by rintro⟨z,_⟩;exact absurd (show(1:Nat)=0 from z) (by decide)) (λl2 n2=>?_);obtain⟨H2,e2,f2,m2,_⟩:=b9 (o:= .tup [.str (i7 kvm x.2.2.1),.str (i7 kvm x.2.2.2)]) n2;rw[show cO (Z5 (x.2.1,i7 kvm x.2.2.1,i7 kvm x.2.2.2)) (some 1) none=[V.str (i7 kvm x.2.2.1),.str (i7 kvm x.2.2.2)] from rfl,e2];have X2:=X0.same (m1.trans m2);obtain⟨v,OI,t,kt,rfl,ht,g_,hso⟩:=ql (R:=λv (x:Str×M8)=>PlAt H2 v λa b=>uM W gt fx x.1 (x.2.1,a,b)) (show Paired _ _ _ from X2.pls) (K2 X0.S.nd) hx;symm;refine Ew ?_;symm;refine k8 (v:= .ref t) (by have z:=E1 (k:=Sum.inr x.1) (.inl X2.hl);rw[OI] at z;exact z) ?_;refine⟨t,rfl,.inr ⟨_,.inl ht⟩,?_⟩;symm;refine⟨d8 (by simp),λl3 n3=>?_⟩;obtain⟨H3,e3,f3,m3,_⟩:=b9 (o:= .lst []) n3;rw[e3];refine⟨_,DGet.t (k:=k2 (i7 kvm x.2.2.1) (i7 kvm x.2.2.2)) (m3 _ _ ht) (m3 _ _ f2),?_⟩;have OS:=m1.trans (m2.trans m3);cases hvk:z0 kt (k2 (i7 kvm x.2.2.1) (i7 kvm x.2.2.2)) with
  |none=>exact k _ H3 OS ⟨l3,rfl,by rw[f3];have z:=g_ _ _ hvk;dsimp only at z;rw[z];rfl⟩
  |some v=>exact k _ H3 OS ((hso _ _ _ hvk).same m3)
theorem gw:∀{nm b:List Str} {n x:Str},nm[b.length]?=some n->nm.zip (b++[x])=nm.zip b++[(n,x)]
 |[],b,n,x,h=>by simp at h
 |m::nm,[],n,x,h=>by
  have e:m=n:=by simpa using h
  subst e;simp
 |m::nm,y::b,n,x,h=>by
  have z:=gw (nm:=nm) (b:=b) (n:=n) (x:=x) (by simpa using h);show(m,y)::nm.zip (b++[x])=(m,y)::nm.zip b++[(n,x)];rw[z];rfl
theorem uQ (nm:List Str):nm.map V.str=(nm.map (Sum.inr:Str->j0)).map kV:=by rw[Km];rfl
theorem pS {nm b:List Str}(nd:nm.Nodup):bf ((nm.map (Sum.inr:Str->j0)).zip (b.map V.str))=g5 (nm.zip b):=by
 have e:(nm.map (Sum.inr:Str->j0)).zip (b.map V.str)=g5 (nm.zip b):=by rw[List.zip_map];rfl
 rw[e,Z9];rw[J6,←B6];exact My _ (λa b h z=>h (LD z)) (om b nd)
theorem ox {mm:List (Str×Str)}{n:Str}(h:n∈mm.map (·.1)):TxtAt (g5 mm) n:=⟨_,rF h⟩
theorem oh {nm b:List Str}{i:Nat}{n:Str}(h:nm[i]?=some n)(hi:i<b.length):n∈(nm.zip b).map (·.1):=Jz.mpr ⟨(n,b[i]),pE h (Jy hi),rfl⟩
theorem wM {nm b:List Str}{n:Str}(nd:nm.Nodup)(h:nm[b.length]?=some n):n∉(nm.zip b).map (·.1):=λz=>by
 have w:=om (b++[n]) nd;rw[gw h,JF] at w;exact(JQ.mp w).2.2 n z n (by simp) rfl
def iS (K:Qe):Sp:=λvs H Q _=>∃(a p q c pl d:Addr) (kvs w_ e_:List (j0×V)) (L:Str->Str->Bool) (Pc W:B0) (s1 s2 gp gt:List Str) (fx mm:List (Str×Str)) (n im:Str),vs=[.ref a,.ref pl,.ref d,.str n,.str im]/\Sx K H a p q c pl kvs w_ e_ L Pc W s1 s2 gp gt fx/\H d=some (.dK (g5 mm))/\mm.length<=60/\n∉mm.map (·.1)/\
 (∀x∈cH Pc.ts n,x.2.2.1∈(mm++[(n,im)]).map (·.1)/\x.2.2.2∈(mm++[(n,im)]).map (·.1))/\
 ∀H',Same H H'->Q (.bl (xm ((cH Pc.ts n).map λx=>uM W gt fx x.1 (x.2.1,i7 (g5 (mm++[(n,im)])) x.2.2.1,i7 (g5 (mm++[(n,im)])) x.2.2.2)))) H'
theorem GQ {α:Type}{p:α->Bool}{s:List α}{i:Nat}{x:α}(h:s[i]?=some x)(hp:p x=true):(s.take (i+1)).filter p=(s.take i).filter p++[x]:=by grind [List.take_succ,List.filter_append,List.filter,List.filter_cons_of_pos]
theorem Fg {α:Type}{p:α->Bool}{s:List α}{i:Nat}{x:α}(h:s[i]?=some x)(hp:p x=false):(s.take (i+1)).filter p=(s.take i).filter p:=by grind [List.take_succ,List.filter_append,List.filter,List.filter_cons_of_neg]
theorem BX {α:Type}{p:α->Bool}{s:List α}{i:Nat}:((s.take i).filter p).length<=s.length:=Kg (JJ _ _) (by rw[JP];lia)
abbrev kx (P:Program)(w:World)(K:Qe)(mg:Str->Option Value)(base:Heap):Prop:=V9 P w K mg base E7 3 "has_room" ["piece","places","put","name","image"] [] (iS K)
theorem qj {f:Addr}{fd:FuncData}(T:Txt K mg)(aZ:jE P w K mg base)(O6:aM P w K mg base)(F:Fun K "has_room" "has_room" fw f fd):C0 P w K mg base E7 3 f fd ["piece","places","put","name","image"] (iS K):=by
 walk_at "#sc_has_room"
 .obtain⟨a,p,q,c,pl,d,kvs,w_,e_,L,Pc,W,s1,s2,gp,gt,fx,mm,n,im,rfl,_⟩:=h;rfl
 .obtain⟨a,p,q,c,pl,d,kvs,w_,e_,L,Pc,W,s1,s2,gp,gt,fx,mm,n,im,rfl,X0,hd,lm,nn,he,k⟩:=h;have OL:=X0.at_.ts.length;have l1:=X0.l1;rw[A5] at l1;walk_at "@sc_has_room 45F527C0405037^6tie,told;3;)10Byb0ltie,told,name;b1ltie,told,name;zBPuKt'2Gp %L'0T.b_max '0Boot.«max» 3&01Y2*02hB00a6'0aZ 3xtie;015;r06g0ltie,piece,places,longer;J6'0O6 8182k30"
  symm;refine D0 (.inl hd) (λl1 n1=>?_);obtain⟨H1,e1,f1,m1,_⟩:=b9 (o:= .dK (g5 mm)) n1;rw[e1];symm;refine O9 (z6 (k:=Sum.inr n) f1 (d8 (by rw[j7];lia)) ?_);rw[AM nn];have f2:(p5 H1 l1 (.dK (g5 (mm++[(n,im)])))) l1=some (.dK (g5 (mm++[(n,im)]))):=d0;have m2:Same H (p5 H1 l1 (.dK (g5 (mm++[(n,im)])))):=D5 m1 n1;generalize p5 H1 l1 (.dK (g5 (mm++[(n,im)])))=H2 at f2 m2⊢;have X2:=X0.same m2;symm;refine i9 X2.at_.tup ?_;refine J2 X2.hq (λRv o3=>?_);refine z8 (n:=kvs.length) (λi out H'=>Same (z7 q o3 kvs H2) H'/\out=((Pc.ts.take i).filter λx=>decide (AI x.2.2.1 x.2.2.2=n)).map λx=>V.str x.1) ⟨Same.refl _,rfl⟩ (λi out H' hi hp=>⟨hp.1 _ _ d0,hi⟩) ?_ ?_
  .rintro N i v out H3' H3 hi ⟨s3,rfl⟩ ⟨t,kv,f_,nt,rfl,rfl⟩ hN';obtain⟨H4,e4,f4,m4,_⟩:=b9 (o:= .tup _) nt;rw[e4];have QH:=(K5 (o:=o3) X2.hq).trans (s3.trans m4).le;have P4:=X2.at_.mono QH;obtain⟨x,hx,ex,tb,eb,sb⟩:=P4.ts.get f_;obtain⟨kk,QD⟩:=kv;have N':kk=Sum.inr x.1:=ex;have QF:QD= .ref tb:=eb;subst N' QF;refine F5 (SqT.of f4) rfl ?_;symm;refine⟨rfl,?_⟩;symm;refine gI sb (by rintro⟨z,_⟩;exact absurd (show(1:Nat)=0 from z) (by decide)) (λl5 n5=>?_);obtain⟨H5,e5,f5,m5,_⟩:=b9 (o:= .tup [.str x.2.2.1,.str x.2.2.2]) n5;rw[show cO (Z5 x.2) (some 1) none=[V.str x.2.2.1,.str x.2.2.2] from rfl,e5];symm;refine DU (SqT.of f5) ?_;symm;rw[show(if x.2.2.1.cps.toList<x.2.2.2.cps.toList then x.2.2.2 else x.2.2.1)=AI x.2.2.1 x.2.2.2 from rfl];refine K4 (λh1=>?_) (λh1=>?_)
   .symm;refine⟨d8 (by rw[Jx];have:=BX (p:=λx:Str×M8=>decide (AI x.2.2.1 x.2.2.2=n)) (s:=Pc.ts) (i:=i);lia),hN' _ _ ⟨s3.trans (m4.trans m5),?_⟩⟩;rw[GQ hx (JX h1),JF];rfl
   .exact hN' _ _ ⟨s3.trans (m4.trans m5),by rw[Fg hx (Kf h1)]⟩
  .rintro out H3 ⟨s3,rfl⟩;refine⟨⟨s3 _ _ d0,JA _⟩,λD hD=>⟨d8 (by rw[Jx];have:=BX (p:=λx:Str×M8=>decide (AI x.2.2.1 x.2.2.2=n)) (s:=Pc.ts) (i:=kvs.length);lia),?_⟩⟩;rw[JK (by lia)];change O8 _ _ _ (thaw q (p5 H3 D (.lst ((cH Pc.ts n).map λx=>V.str x.1)))) _;have sM:=O1 X2.hq s3 hD (u:= .lst ((cH Pc.ts n).map λx=>V.str x.1));have fM:=Z3 s3 hD (u:= .lst ((cH Pc.ts n).map λx=>V.str x.1));generalize thaw q (p5 H3 D (.lst ((cH Pc.ts n).map λx=>V.str x.1)))=HM at sM fM⊢;have XM:=X2.same sM;have Vw:∀x∈cH Pc.ts n,x∈Pc.ts:=λx hx=>(JH.mp hx).1;have SQ:(cH Pc.ts n).length<=30:=Kg (JJ _ _) (by lia);generalize cH Pc.ts n=due at fM Vw SQ he k;symm;refine A8 (SqL.of fM) ?_;refine z8 (n:=due.length) (λi out H'=>Same HM H'/\LsAt H' out ((due.take i).map λx=>uM W gt fx x.1 (x.2.1,i7 (g5 (mm++[(n,im)])) x.2.2.1,i7 (g5 (mm++[(n,im)])) x.2.2.2))) ⟨Same.refl _,.nil⟩ (λi out H' hi hp=>⟨_,.str (due[i]).1,SqL.of (hp.1 _ _ fM),by rw[JC,Jy hi];rfl⟩) ?_ ?_
   .rintro N i v out H4' H4 hi ⟨s4,ls⟩ y hN';obtain⟨rfl,hy⟩:=Itl.get y (SqL.of (s4 _ _ fM));rw[JC] at hy;obtain⟨x,hx,rfl⟩:=Kd.mp hy;have o_:=JM hx;symm;refine⟨rfl,?_⟩;symm;refine⟨a,p,q,c,pl,l1,kvs,w_,e_,_,L,Pc,W,s1,s2,gp,gt,fx,x,rfl,XM.same s4,Vw x o_,.inl (s4 _ _ (sM _ _ f2)),ox (he x o_).1,ox (he x o_).2,λv H5 m5 hv=>?_⟩;have Vv:=Kr ls;rw[Jx,JP] at Vv;refine⟨d8 (by lia),hN' _ _ ⟨s4.trans m5,?_⟩⟩;rw[show due.take (i+1)=due.take i++[x] by rw[Kb,hx];rfl,JF];exact A7 (LsAt.same ls m5) hv
   .rintro out H4 ⟨s4,ls⟩;have Vv:=Kr ls;rw[Jx,JP] at Vv;refine⟨⟨_,SqL.of (s4 _ _ fM),by rw[Jx];exact JA _⟩,λD2 hD2=>⟨d8 (by lia),?_⟩⟩;rw[JK (JA _)] at ls;obtain⟨H5,e5,f5,m5,_⟩:=b9 (H:=H4) (o:= .lst out) hD2;change ym _ (p5 H4 D2 _) _;rw[e5];symm;exact⟨D2,out,_,rfl,f5,LsAt.same ls m5,by rw[Jx];lia,λH6 m6=>k H6 (m2.trans (sM.trans (s4.trans (m5.trans m6))))⟩
def mZ (K:Qe):Sp:=λvs H Q _=>∃(a p q c pl bl:Addr) (kvs w_ e_:List (j0×V)) (L:Str->Str->Bool) (Pc W:B0) (s1 s2 gp gt:List Str) (fx:List (Str×Str)) (b:List Str),vs=[.ref a,.ref c,.ref pl,.ref bl]/\Sx K H a p q c pl kvs w_ e_ L Pc W s1 s2 gp gt fx/\H bl=some (.lst (b.map V.str))/\b.length<(s1++s2).length/\Ft H Q λss=>ss=af L Pc W gp gt fx (s1++s2) b
abbrev qX (P:Program)(w:World)(K:Qe)(mg:Str->Option Value)(base:Heap):Prop:=V9 P w K mg base E7 4 "images" ["piece","choices","places","begun"] [] (mZ K)
theorem wV {f:Addr}{fd:FuncData}(T:Txt K mg)(A4:V1 P w K mg base)(O6:aM P w K mg base)(fm:kx P w K mg base)(F:Fun K "images" "images" jG f fd):C0 P w K mg base E7 4 f fd ["piece","choices","places","begun"] (mZ K):=by
 walk_at "#sc_images"
 .obtain⟨a,p,q,c,pl,bl,kvs,w_,e_,L,Pc,W,s1,s2,gp,gt,fx,b,rfl,_⟩:=h;rfl
 .obtain⟨a,p,q,c,pl,bl,kvs,w_,e_,L,Pc,W,s1,s2,gp,gt,fx,b,rfl,X0,hb,YA,k⟩:=h;have S:=X0.S;have nn:=S.nn;have UC:=S.o.len;have l1:=X0.l1;have l2:=X0.l2;have lgt:gt.length<=30:=by rw[S.o'.p2.length_eq,Jx];rw[A5] at l2;lia
  have Yq:gp.length<=30:=by rw[S.o'.p1.length_eq,Jx];rw[A5] at l2;lia
  obtain⟨n,hn⟩:∃n,(s1++s2)[b.length]?=some n:=⟨_,Jy YA⟩
  walk_at "@sc_images 446]5045c4q5346~s%~1Lk437soI510naximage;3;r6'0O6 8082k65g0limage,begun;PoD001n007^7image;3;rc105Bg0limage,begun;BPoD001nB00aximage;0265;r07g0limage,piece,places,put,name;P~46'0fm 818283k4000"
  symm;refine⟨a,p,q,kvs,Pc,rfl,X0.at_,by lia,λln H1 r1 r2 n1 m1 f1 or=>?_⟩;have Vx:r1=s1:=N5 or.o1 S.o.o1 (or.p1.nodup_iff.mpr (A6 S.nd)) (or.p1.trans S.o.p1.symm);have Vy:r2=s2:=N5 or.o2 S.o.o2 (or.p2.nodup_iff.mpr (K2 S.nd)) (or.p2.trans S.o.p2.symm);subst Vx Vy;symm;refine E4 (r9 (SqL.of (m1 _ _ hb)) ?_);rw[Jx];refine j4 (SqL.of f1) (i:=(b.length:Int)) (v:= .str n) (F0 (j:=b.length) (by rw[JC,hn];rfl)) ?_;symm;refine⟨ln,bl,(r1++r2).map Sum.inr,b.map V.str,rfl,by rw[←uQ];exact SqL.of f1,SqL.of (m1 _ _ hb),λd nd=>?_⟩;rw[pS nn];obtain⟨H2,e2,f2,m2,_⟩:=b9 (o:= .dK (g5 ((r1++r2).zip b))) nd;rw[e2];have OT:=m1.trans m2;have X2:=X0.same OT;have OH:=OT _ _ hb;symm;refine i9 X2.at_.tup ?_;symm;refine V2 (E1 (k:=Sum.inr n) X2.at_.ties) ?_;rw[U4 X2.at_.ts];symm;have QJ:∀(p:Str->Bool) (l:List Str),l.length<=30->∀i,((l.take i).filter p).length<=1000:=λp l hl i=>Kg ip (by lia);refine K4 (λh1=>?_) (λh1=>?_)
  .have hle:r1.length<=b.length:=by
    rcases S.is1 hn with⟨z,_⟩|⟨_,z⟩
    .exact absurd h1 z
    .exact z
   have j_:=de h1;have he:=S.ends _ j_;obtain⟨j1,hj1,Tp⟩:=S.pt_idx he.1;obtain⟨j2,Yo,Tr⟩:=S.pt_idx he.2;symm;refine⟨a,p,q,c,pl,d,kvs,w_,e_,_,L,Pc,W,r1,r2,gp,gt,fx,(n,M9 Pc.ts n),rfl,X2,j_,.inl f2,ox (oh Tp (by lia)),ox (oh Tr (by lia)),λv H3 m3 hv=>?_⟩;obtain⟨lv,rfl,L_⟩:=hv;have etc:uM W gt fx n ((M9 Pc.ts n).1,i7 (g5 ((r1++r2).zip b)) (M9 Pc.ts n).2.1,i7 (g5 ((r1++r2).zip b)) (M9 Pc.ts n).2.2)=vx W gt fx (r1++r2) b (n,M9 Pc.ts n):=rfl;dsimp only at L_;rw[etc] at L_;have B_:(vx W gt fx (r1++r2) b (n,M9 Pc.ts n)).length<=30:=Kg (JJ _ _) lgt;generalize YD:vx W gt fx (r1++r2) b (n,M9 Pc.ts n)=tc at L_ B_;refine A8 (SqL.of L_) ?_;refine z8 (n:=tc.length) (λi out H'=>Same H3 H'/\out=((tc.take i).filter λx=>!decide (x∈b)).map V.str) ⟨Same.refl _,rfl⟩ (λi out H' hi hp=>⟨_,.str (tc[i]),SqL.of (hp.1 _ _ L_),by rw[JC,Jy hi];rfl⟩) ?_ ?_
   .rintro N i v out H4' H4 hi ⟨s4,rfl⟩ y hN';obtain⟨rfl,hy⟩:=Itl.get y (SqL.of (s4 _ _ L_));rw[JC] at hy;obtain⟨x,hx,rfl⟩:=Kd.mp hy;symm;refine⟨rfl,?_⟩;symm;refine E2 (gs:=b) (SqL.of (s4 _ _ (m3 _ _ OH))) ?_;symm;refine aq (λh2=>?_) (λh2=>?_)
    .symm;refine⟨d8 (by rw[Jx];exact QJ _ _ B_ _),hN' _ _ ⟨s4,?_⟩⟩;rw[wU hx h2,JF];rfl
    .exact hN' _ _ ⟨s4,by rw[tD hx h2]⟩
   .rintro out H4 ⟨s4,rfl⟩;refine⟨⟨_,SqL.of (s4 _ _ L_),by rw[Jx];exact JA _⟩,λD hD=>⟨d8 (by rw[Jx];exact QJ _ _ B_ _),?_⟩⟩;rw[JK (JA _)];obtain⟨H5,e5,f5,m5,_⟩:=b9 (H:=H4) (o:= .lst ((tc.filter λx=>!decide (x∈b)).map V.str)) hD;show Q _ (p5 H4 D _);rw[e5];refine k D H5 _ (OT.free (m3.free (s4.free hD))) (OT.trans (m3.trans (s4.trans m5))) f5 ?_;unfold af;rw[hn];dsimp only;rw[if_pos h1,YD]
  .have l_:b.length<r1.length:=by
    rcases S.is1 hn with⟨_,z⟩|⟨z,_⟩
    .exact z
    .exact absurd z h1
   have hm:n∈Pc.pts.map (·.1):=by
    rcases JD.mp (S.o.mem.mp (JM hn)) with z|z
    .exact z
    .exact absurd z h1
   obtain⟨y,hy,ey⟩:=Jz.mp hm;obtain⟨v,hv,lv,rfl,L_⟩:=ql (R:=λv (x:Str×Str)=>LstAt H2 v (rW L gp fx x.1)) (show Paired _ _ _ from X2.ch) (A6 S.nd) hy;rw[ey] at hv L_;have B_:(rW L gp fx n).length<=30:=Kg (JJ _ _) (Kg (JJ _ _) Yq);generalize YD:rW L gp fx n=tc at L_ B_;symm;refine k8 (v:= .ref lv) (by have z:=E1 (k:=Sum.inr n) (.inl X2.hc);rw[hv] at z;exact z) ?_;refine A8 (SqL.of L_) ?_;refine z8 (n:=tc.length) (λi out H'=>Same H2 H'/\out=((tc.take i).filter λx=>!decide (x∈b)).map V.str) ⟨Same.refl _,rfl⟩ (λi out H' hi hp=>⟨_,.str (tc[i]),SqL.of (hp.1 _ _ L_),by rw[JC,Jy hi];rfl⟩) ?_ ?_
   .rintro N i v out H4' H4 hi ⟨s4,rfl⟩ y hN';obtain⟨rfl,hy⟩:=Itl.get y (SqL.of (s4 _ _ L_));rw[JC] at hy;obtain⟨x,hx,rfl⟩:=Kd.mp hy;symm;refine⟨rfl,?_⟩;symm;refine E2 (gs:=b) (SqL.of (s4 _ _ OH)) ?_;symm;refine aq (λh2=>?_) (λh2=>?_)
    .symm;refine⟨d8 (by rw[Jx];exact QJ _ _ B_ _),hN' _ _ ⟨s4,?_⟩⟩;rw[wU hx h2,JF];rfl
    .exact hN' _ _ ⟨s4,by rw[tD hx h2]⟩
   .rintro out H4 ⟨s4,rfl⟩;refine⟨⟨_,SqL.of (s4 _ _ L_),by rw[Jx];exact JA _⟩,λD hD=>⟨d8 (by rw[Jx];exact QJ _ _ B_ _),?_⟩⟩;rw[JK (JA _)];obtain⟨H5,e5,f5,m5,_⟩:=b9 (H:=H4) (o:= .lst ((tc.filter λx=>!decide (x∈b)).map V.str)) hD;have TK:(tc.filter λx=>!decide (x∈b)).length<=30:=Kg (JJ _ _) B_;generalize hun:(tc.filter λx=>!decide (x∈b))=un at e5 f5 TK⊢;change O8 _ _ _ (p5 H4 D _) _;rw[e5];have QK:=s4.trans m5;have X5:=X2.same QK;symm;refine A8 (SqL.of f5) ?_;refine z8 (n:=un.length) (λi out H'=>Same H5 H'/\out=((un.take i).filter λim=>xm ((cH Pc.ts n).map (vx W gt fx (r1++r2) (b++[im])))).map V.str) ⟨Same.refl _,rfl⟩ (λi out H' hi hp=>⟨_,.str (un[i]),SqL.of (hp.1 _ _ f5),by rw[JC,Jy hi];rfl⟩) ?_ ?_
    .rintro N i v out H6' H6 hi ⟨s6,rfl⟩ y hN';obtain⟨rfl,hy⟩:=Itl.get y (SqL.of (s6 _ _ f5));rw[JC] at hy;obtain⟨x,hx,rfl⟩:=Kd.mp hy;symm;refine⟨rfl,?_⟩;symm;have Tv:r1[b.length]=n:=by
      rw[KJ l_,Jy l_] at hn;exact JU hn
     have ends:∀t∈cH Pc.ts n,t.2.2.1∈((r1++r2).zip b++[(n,x)]).map (·.1)/\t.2.2.2∈((r1++r2).zip b++[(n,x)]).map (·.1):=λt ht=>by
      unfold cH at ht;rw[JH,Ko] at ht;have he:=S.ends t ht.1;rw[←gw hn];have q1:¬(r1[b.length].cps.toList<t.2.2.1.cps.toList):=by
       rw[Tv,←ht.2];unfold AI;split
       .next z=>exact Nk z
       .exact Nb _
      have q2:¬(r1[b.length].cps.toList<t.2.2.2.cps.toList):=by
       rw[Tv,←ht.2];unfold AI;split
       .exact Nb _
       .next z=>exact z
      obtain⟨j1,a1,b1⟩:=jv S l_ he.1 q1;obtain⟨j2,a2,b2⟩:=jv S l_ he.2 q2;exact⟨oh b1 (by rw[JG,JO];lia),oh b2 (by rw[JG,JO];lia)⟩
     refine⟨a,p,q,c,pl,d,kvs,w_,e_,L,Pc,W,r1,r2,gp,gt,fx,(r1++r2).zip b,n,x,rfl,X5.same s6,s6 _ _ (QK _ _ f2),by rw[Nr];lia,wM nn hn,ends,λH7 m7=>?_⟩;have een:((cH Pc.ts n).map λt=>uM W gt fx t.1 (t.2.1,i7 (g5 ((r1++r2).zip b++[(n,x)])) t.2.2.1,i7 (g5 ((r1++r2).zip b++[(n,x)])) t.2.2.2))=(cH Pc.ts n).map (vx W gt fx (r1++r2) (b++[x])):=by
      rw[←gw hn];rfl
     rw[een];symm;refine aq (λh2=>?_) (λh2=>?_)
     .symm;refine⟨d8 (by rw[Jx];exact QJ _ _ TK _),hN' _ _ ⟨s6.trans m7,?_⟩⟩;rw[wU hx h2,JF];rfl
     .exact hN' _ _ ⟨s6.trans m7,by rw[tD hx h2]⟩
    .rintro out H6 ⟨s6,rfl⟩;refine⟨⟨_,SqL.of (s6 _ _ f5),by rw[Jx];exact JA _⟩,λD2 hD2=>⟨d8 (by rw[Jx];exact QJ _ _ TK _),?_⟩⟩;rw[JK (JA _)];obtain⟨H7,e7,f7,m7,_⟩:=b9 (H:=H6) (o:= .lst ((un.filter λim=>xm ((cH Pc.ts n).map (vx W gt fx (r1++r2) (b++[im])))).map V.str)) hD2;show Q _ (p5 H6 D2 _);rw[e7];refine k D2 H7 _ (OT.free (QK.free (s6.free hD2))) (OT.trans (QK.trans (s6.trans m7))) f7 ?_;unfold af;rw[hn];dsimp only;rw[if_neg h1,YD,hun]
def ndL (img:List Str->List Str):Nat->List Str->Nat
 |0,_=>1
 |k+1,b=>1+((img b).map λx=>ndL img k (b++[x])).sum
theorem yL {α:Type}{f:α->Nat}{B:Nat}:∀{l:List α},(∀x∈l,f x<=B)->(l.map f).sum<=l.length*B
 |[],_=>by simp
 |x::l,h=>by
  have z:=yL (l:=l) λy hy=>h y (JZ _ hy);have z1:=h x JT;rw[Kx,NT,Ky,Rb];lia
theorem Dv {img:List Str->List Str}{k:Nat}{b:List Str}:1<=ndL img k b:=by
 cases k with
 |zero=>exact JA _
 |succ k=>show 1<=1+_;lia
theorem uP {α:Type}{f:α->Nat}:∀{l:List α},(∀x∈l,1<=f x)->l.length<=(l.map f).sum
 |[],_=>JA _
 |x::l,h=>by
  have z:=uP (l:=l) λy hy=>h y (JZ _ hy);have z1:=h x JT;rw[Kx,NT,Ky];lia
theorem uw {L:Str->Str->Bool}{Pc W:B0}{s1 s2 gp gt:List Str}{fx:List (Str×Str)}(S:SrchP L Pc W s1 s2 gp gt fx)(b:List Str):(af L Pc W gp gt fx (s1++s2) b).length<=max W.pts.length W.ts.length:=by
 have h1:=S.o'.p1.length_eq;have h2:=S.o'.p2.length_eq;rw[Jx] at h1 h2;unfold af;split
 .simp
 .split
  .exact Kg (JJ _ _) (Kg (JJ _ _) (by lia))
  .exact Kg (JJ _ _) (Kg (JJ _ _) (Kg (JJ _ _) (Kg (JJ _ _) (by lia))))
theorem uZ {c:Str}:∀{l:List Str},l.Nodup->(∀x∈l,x=c)->l.length<=1
 |[],_,_=>KU _
 |[_],_,_=>JA _
 |x::y::l,nd,h=>by
  have e1:=h x (by simp);have e2:=h y (by simp);rw[e1,e2] at nd;exact absurd JT (KN.mp nd).1
theorem Ay {L:Str->Str->Bool}{Pc W:B0}{s1 s2 gp gt:List Str}{fx:List (Str×Str)}(S:SrchP L Pc W s1 s2 gp gt fx){b:List Str}{n:Str}(hn:(s1++s2)[b.length]?=some n)(hf:n∈fx.map (·.1)):(af L Pc W gp gt fx (s1++s2) b).length<=1:=by
 have Tx:gp.Nodup:=S.o'.p1.nodup_iff.mpr (A6 S.nd');have ndt:gt.Nodup:=S.o'.p2.nodup_iff.mpr (K2 S.nd');have hm:∀im,W8 fx n im=true->im=i7 (g5 fx) n:=λim h=>by
  unfold W8 at h;rw[if_pos hf] at h;exact KW h
 unfold af;rw[hn];show(if _ then _ else _:List Str).length<=1;split
 .refine uZ (c:=i7 (g5 fx) n) ((ndt.sublist Ke).sublist Ke) λx hx=>?_;have z:=(JH.mp (JH.mp hx).1).2;exact hm x (OM.mp z).2
 .refine uZ (c:=i7 (g5 fx) n) ((((Tx.sublist Ke).sublist Ke).sublist Ke).sublist Ke) λx hx=>?_;exact hm x (JH.mp (JH.mp (JH.mp hx).1).1).2
theorem yv {L:Str->Str->Bool}{Pc W:B0}{s1 s2 gp gt:List Str}{fx:List (Str×Str)}(S:SrchP L Pc W s1 s2 gp gt fx):∀(k:Nat) (b:List Str),b.length+k=(s1++s2).length->ndL (af L Pc W gp gt fx (s1++s2)) k b<=(k+1)*(max W.pts.length W.ts.length+1) ^ (((s1++s2).drop b.length).filter (cS fx)).length
 |0,b,_=>by
  show 1<=_;rw[Nat.zero_add,Nat.one_mul];exact Nat.one_le_pow _ _ (by lia)
 |k+1,b,hk=>by
  obtain⟨n,hn⟩:∃n,(s1++s2)[b.length]?=some n:=⟨_,Jy (by lia)⟩
  have hd:(s1++s2).drop b.length=n::(s1++s2).drop (b.length+1):=by
   rw[KY (by lia)];rw[Jy (by lia)] at hn;rw[JU hn]
  have hM:=uw S b;generalize hMM:max W.pts.length W.ts.length=M at*;have ih:∀x∈af L Pc W gp gt fx (s1++s2) b,ndL (af L Pc W gp gt fx (s1++s2)) k (b++[x])<=(k+1)*(M+1) ^ (((s1++s2).drop (b.length+1)).filter (cS fx)).length:=λx _=>by
   have z:=yv S k (b++[x]) (by rw[JG,JO];lia);rw[JG,JO,hMM] at z;exact z
  have z:=yL (f:=λx=>ndL (af L Pc W gp gt fx (s1++s2)) k (b++[x])) ih;have z2:1<=(M+1) ^ (((s1++s2).drop (b.length+1)).filter (cS fx)).length:=Nat.one_le_pow _ _ (by lia);show 1+_<=(k+1+1)*_;rw[hd,Mh];generalize hc:(((s1++s2).drop (b.length+1)).filter (cS fx)).length=c at*;by_cases hf:n∈fx.map (·.1)
  .have h1:=Ay S hn hf;rw[if_neg (by unfold cS;simp [hf]),hc];have z3:(af L Pc W gp gt fx (s1++s2) b).length*((k+1)*(M+1) ^ c)<=1*((k+1)*(M+1) ^ c):=ON _ h1;rw[Rb (k+1) 1];lia
  .rw[if_pos (by unfold cS;simp [hf]),Ky,hc,Nat.pow_succ];have z3:(af L Pc W gp gt fx (s1++s2) b).length*((k+1)*(M+1) ^ c)<=M*((k+1)*(M+1) ^ c):=ON _ hM;have e1:(k+1+1)*((M+1) ^ c*(M+1))=M*((k+1)*(M+1) ^ c)+((k+1)*(M+1) ^ c+((M+1) ^ c*(M+1))):=by
    rw[Rb (k+1) 1,Nat.one_mul,←Nat.mul_assoc (k+1),Nat.mul_add ((k+1)*(M+1) ^ c) M 1,Nat.mul_one,Nat.mul_comm ((k+1)*(M+1) ^ c) M];lia
   rw[e1];have z4:1<=(k+1)*(M+1) ^ c:=Nat.mul_pos (by lia) z2;lia
def Al (mo:Option Nat)(rows:List (List Str)):List (List Str):=match mo with
 |none=>rows
 |some k=>rows.take k
def Jr (mo:Option Nat)(n:Int):Bool:=match mo with
 |none=>true
 |some k=>!decide (n=(k:Int))
def DV (mv:V)(mo:Option Nat):Prop:=(mv= .non/\mo=none)\/(mv= .int 1/\mo=some 1)
def LoAt (H:Hp)(t w:Addr)(xs:List V)(ls:List (List Str)):Prop:=Paired (λv l=>∃a,v=V.ref a/\a≠t/\a≠w/\H a=some (.lst (l.map V.str))) xs ls
theorem LoAt.same {H H':Hp}{t w:Addr}{xs:List V}{ls:List (List Str)}(h:LoAt H t w xs ls)(s:Same H H'):LoAt H' t w xs ls:=Paired.imp' (λ_ _ ⟨a,e,n,m,z⟩=>⟨a,e,n,m,s _ _ z⟩) h
theorem LoAt.upT {H:Hp}{t w:Addr}{xs:List V}{ls:List (List Str)}{u:HO}(h:LoAt H t w xs ls):LoAt (p5 H t u) t w xs ls:=Paired.imp' (λ_ _ ⟨a,e,n,m,z⟩=>⟨a,e,n,m,by rw[d6 n];exact z⟩) h
theorem LoAt.upW {H:Hp}{t w:Addr}{xs:List V}{ls:List (List Str)}{u:HO}(h:LoAt H t w xs ls):LoAt (p5 H w u) t w xs ls:=Paired.imp' (λ_ _ ⟨a,e,n,m,z⟩=>⟨a,e,n,m,by rw[d6 m];exact z⟩) h
theorem pP {α β : Type} {F : α -> β -> Prop} : ∀ {xs : List α} {ls : List β}, Paired F xs ls -> xs ≠ [] -> ∃ WV x WW l, xs = WV ++ [x] /\ ls = WW ++ [l] /\ Paired F WV WW /\ F x l
 := by
  intro xs ls hp q_;induction hp with
  | nil => exact absurd rfl q_
  | @cons x l xs ls a t ih =>
    cases t with
    | nil => exact ⟨[], x, [], l, rfl, rfl, .nil, a⟩
    | cons b t' =>
      obtain ⟨WV, x', WW, l', e1, e2, h1, h2⟩ := ih (by simp)
      exact ⟨x :: WV, x', l :: WW, l', by rw [e1]; rfl, by rw [e2]; rfl, .cons a h1, h2⟩
structure LI (mo:Option Nat) (K:Qe) (img:List Str->List Str) (n:Nat) (H0 H':Hp) (tl wl:Addr) (xt xw:List V) (rows bs:List (List Str)) (m:Nat):Prop where
 s:Same H0 H'
 ht:H' tl=some (.lst xt)
 hw:H' wl=some (.lst xw)
 lt:LoAt H' tl wl xt rows
 lw:LoAt H' tl wl xw bs
 bl:∀b∈bs,b.length<=n
 sum:m=(bs.map λb=>ndL img (n -b.length) b).sum
 all:rows++bs.reverse.flatMap (λb=>iC img (n -b.length) b)=iC img n []
 big:rows.length+m<=1000000
 le1:mo=some 1->rows.length<=1
def rK (K:Qe):Sp:=λvs H Q _=>∃(a p q c pl:Addr) (kvs w_ e_:List (j0×V)) (L:Str->Str->Bool) (Pc W:B0) (s1 s2 gp gt:List Str) (fx:List (Str×Str)) (mv:V) (mo:Option Nat),vs=[.ref a,.ref c,.ref pl,mv]/\DV mv mo/\Sx K H a p q c pl kvs w_ e_ L Pc W s1 s2 gp gt fx/\
 ∀(l:Addr) (H':Hp) (xs:List V),H l=none->Same H H'->H' l=some (.lst xs)->LsAt H' xs (Al mo (iW Pc W s1 s2 gp gt fx))->(iW Pc W s1 s2 gp gt fx).length<=1000000->Q (.ref l) H'
theorem oy {n:Nat}(h:n<=2000000):n<sizeLine:=Pg h (by decide)
theorem ow {H:Hp}{Q:VK}{i:Int}(q:Q (.bl true) H):rR K (.int i) .non H Q:= .inl (.inl (.inl ⟨rfl,by simpa using q⟩))
theorem vt {H:Hp}{Q:VK}{i:Int}{mv:V}{mo:Option Nat}(h:DV mv mo)(q:Q (.bl (Jr mo i)) H):rR K (.int i) mv H Q:=by
 rcases h with⟨rfl,rfl⟩|⟨rfl,rfl⟩
 .exact ow q
 .exact qu q
theorem uh {img:List Str->List Str}:∀{k:Nat} {b:List Str},(iC img k b).length<=ndL img k b
 |0,_=>JA _
 |k+1,b=>by
  show((img b).flatMap λx=>iC img k (b++[x])).length<=1+((img b).map λx=>ndL img k (b++[x])).sum;rw[List.length_flatMap];have z:((img b).map λx=>(iC img k (b++[x])).length).sum<=((img b).map λx=>ndL img k (b++[x])).sum:=by
   generalize img b=l;induction l with
   |nil=>exact JA _
   |cons x l ih=>
    rw[Kx,Kx,NT,NT]
    exact Nat.add_le_add uh ih
  lia
abbrev uv (P:Program)(w:World)(K:Qe)(mg:Str->Option Value)(base:Heap):Prop:=V9 P w K mg base E7 5 "lines" ["piece","choices","places","most"] [] (rK K)
theorem yB {f:Addr}{fd:FuncData}(T:Txt K mg)(A4:V1 P w K mg base)(kl:qX P w K mg base)(F:Fun K "lines" "lines" oY f fd):C0 P w K mg base E7 5 f fd ["piece","choices","places","most"] (rK K):=by
 walk_at "#sc_lines"
 .obtain⟨a,p,q,c,pl,kvs,w_,e_,Lr,Pc,W,s1,s2,gp,gt,fx,mv,mo,rfl,_⟩:=h;rfl
 .obtain⟨a,p,q,c,pl,kvs,w_,e_,Lr,Pc,W,s1,s2,gp,gt,fx,mv,mo,rfl,UD,X0,k⟩:=h;have S:=X0.S;have UC:=S.o.len;have l1:=X0.l1;have l2:=X0.l2;have l2':=l2;rw[A5] at l2';have TM:=yX S;have hM:=uw S;have YE:=yv S (s1++s2).length [] (by simp);have Rw:=X0.big;rw[←UC,←(S.o.perm.filter (cS fx)).length_eq] at Rw;rw[show([]:List Str).length=0 from rfl,NF] at YE;walk_at "@sc_lines 446]5045E46+3E7'3Ee wAZ~406uXq5503h47~0('0PySem.F.slot_list_pop '0PySem.F.type_list_pop '0ph 06d'3bQ uKq57q54hdQN(:/.0557dvw~A%36'0kl 8081k27g89dQN(:/.063f07+58a05"
  symm;refine⟨a,p,q,kvs,Pc,rfl,X0.at_,by lia,λln H1 r1 r2 n1 m1 f1 or=>?_⟩;have Vx:r1=s1:=N5 or.o1 S.o.o1 (or.p1.nodup_iff.mpr (A6 S.nd)) (or.p1.trans S.o.p1.symm);have Vy:r2=s2:=N5 or.o2 S.o.o2 (or.p2.nodup_iff.mpr (K2 S.nd)) (or.p2.trans S.o.p2.symm);subst Vx Vy;symm;refine⟨d8 (by simp),λtl ntl=>?_⟩;obtain⟨H2,e2,f2,m2,_⟩:=b9 (o:= .lst []) ntl;rw[e2];symm;refine⟨d8 (by simp),λl3 n3=>?_⟩;obtain⟨H3,e3,f3,m3,_⟩:=b9 (o:= .lst []) n3;rw[e3];symm;refine⟨d8 (by simp),λwl nwl=>?_⟩;obtain⟨H4,e4,f4,m4,_⟩:=b9 (o:= .lst [.ref l3]) nwl;rw[e4];symm;have WX:=m4 _ _ (m3 _ _ f2);have f3':=m4 _ _ f3;have h3t:l3≠tl:=(b5 f2 n3).symm;have h3w:l3≠wl:=b5 f3 nwl;have YF:tl≠wl:=b5 (m3 _ _ f2) nwl;have UE:=m2.trans (m3.trans m4);have Vz:H1 wl=none:=m2.free (m3.free nwl);generalize hN:(r1++r2).length=n at*;generalize YG:af Lr Pc W gp gt fx (r1++r2)=img at*;refine⟨λm σ H'=>∃(xt xw:List V) (rows bs:List (List Str)) (v1 v2:Option V),σ=[some (.ref a),some (.ref c),some (.ref pl),some mv,some (.ref ln),some (.ref tl),some (.ref wl),v1,v2]/\LI mo K img n H1 H' tl wl xt xw rows bs m,⟨_,[],[.ref l3],[],[[]],none,none,rfl,⟨UE,WX,f4,.nil,.cons ⟨l3,rfl,h3t,h3w,f3'⟩ .nil,(λb hb=>by rw[JN.mp hb];exact KU _),rfl,by simp,?_,λ_=>KU _⟩⟩,?_⟩
  .show 0+(ndL img n []+0)<=1000000;lia
  rintro m σ H5 ⟨xt,xw,rows,bs,v1,v2,rfl,L⟩;have RZ:bs.length<=m:=by rw[L.sum];exact uP λ_ _=>Dv
  have Vf:=Kr L.lw;have UA:=Kr L.lt;have hb5:=L.big;symm;refine⟨!xw.isEmpty,.inl ⟨_,SqL.of L.hw,rfl⟩,?_⟩;cases SR:xw.isEmpty with
  |true=>
   symm
   have t_:xw=[]:=by simpa using SR
   have H_:bs=[]:=by
    have:bs.length=0:=by rw[←Vf,t_];rfl
    exact LF this
   have ha:=L.all
   rw[H_] at ha
   simp only[List.reverse_nil,List.flatMap_nil,Ku] at ha
   rw[TM] at ha
   have hle:=L.le1
   refine k tl H5 xt (m1.free ntl) (m1.trans L.s) L.ht ?_ ?_
   .rw[←ha]
    have e:Al mo rows=rows:=by
     rcases UD with⟨_,rfl⟩|⟨_,rfl⟩
     .rfl
     .exact JK (hle rfl)
    rw[e]
    exact Paired.imp' (λ_ _ ⟨a,e,_,_,z⟩=>⟨a,e,z⟩) L.lt
   .rw[←ha];lia
  |false=>
   have YH:xw≠[]:=by
    intro z;rw[z] at SR;cases SR
   symm
   refine E4 (r9 (SqL.of L.ht) ?_)
   symm
   refine vt UD ?_
   symm
   refine aq (λQk=>?_) (λQk=>?_)
   case refine_2=>
    symm
    have m_:=L.all
    rw[TM] at m_
    have h1:mo=some 1/\rows.length=1:=by
     rcases UD with⟨_,rfl⟩|⟨_,rfl⟩
     .cases Qk
     .refine⟨rfl,?_⟩;have z:(!decide ((xt.length:Int)=((1:Nat):Int)))=false:=Qk;simp at z;lia
    have hel:=uh (img:=img) (k:=n) (b:=[])
    rw[TM] at hel
    refine k tl H5 xt (m1.free ntl) (m1.trans L.s) L.ht ?_ (by lia)
    rw[h1.1,←m_]
    show LsAt H5 xt (List.take 1 _)
    rw[List.take_append_of_le_length (by lia),JK (by lia)]
    exact Paired.imp' (λ_ _ ⟨a,e,_,_,z⟩=>⟨a,e,z⟩) L.lt
   have YI:mo=some 1->rows.length=0:=λe=>by
    have z:=L.le1 e;subst e;have z2:(!decide ((xt.length:Int)=((1:Nat):Int)))=true:=Qk;simp at z2;lia
   refine⟨λσ' H'=>∃m',m'<m/\∃(xt xw:List V) (rows bs:List (List Str)) (v1 v2:Option V),σ'=[some (.ref a),some (.ref c),some (.ref pl),some mv,some (.ref ln),some (.ref tl),some (.ref wl),v1,v2]/\LI mo K img n H1 H' tl wl xt xw rows bs m',λσ' H' z=>z,?_⟩
   obtain⟨QL,xv,Qn,b,exw,UG,lw',a5,rfl,hat,YJ,hb⟩:=pP L.lw YH
   have hmb:b∈bs:=by rw[UG];simp
   have hbn:=L.bl b hmb
   have QM:=L.sum
   rw[UG,JF,List.sum_append] at QM
   have Tv:([b].map λb=>ndL img (n -b.length) b).sum=ndL img (n -b.length) b:=by simp
   rw[Tv] at QM
   have m_:=L.all
   rw[UG,OZ,List.reverse_singleton,List.singleton_append,LX] at m_
   have hb'l:Qn.length<=m:=by rw[UG,JG] at RZ;lia
   have hxw':=Kr lw'
   symm
   refine⟨.inl ⟨rfl,_,SqL.of L.hw⟩,?_⟩
   symm
   refine⟨wl,xw,.ref a5,rfl,rfl,L.hw,by rw[exw];simp,?_⟩
   rw[show xw.dropLast=QL by rw[exw];simp]
   have s6:Same H1 (p5 H5 wl (.lst QL)):=D5 L.s Vz
   have f6:(p5 H5 wl (.lst QL)) wl=some (.lst QL):=d0
   have t6:(p5 H5 wl (.lst QL)) tl=some (.lst xt):=by rw[d6 YF];exact L.ht
   have b6:(p5 H5 wl (.lst QL)) a5=some (.lst (b.map V.str)):=by rw[d6 YJ];exact hb
   have YK:LoAt (p5 H5 wl (.lst QL)) tl wl xt rows:=L.lt.upW
   have YL:LoAt (p5 H5 wl (.lst QL)) tl wl QL Qn:=LoAt.upW (show LoAt H5 tl wl QL Qn from lw')
   generalize p5 H5 wl (.lst QL)=H6 at s6 f6 t6 b6 YK YL⊢
   symm
   refine E4 (r9 (SqL.of b6) ?_)
   rw[Jx]
   symm
   refine E4 (r9 (SqL.of (s6 _ _ f1)) ?_)
   rw[Jx,hN]
   symm
   refine K4 (λh1=>?_) (λh1=>?_)
   .have Od:b.length=n:=by lia
    symm
    refine⟨.inl ⟨rfl,_,SqL.of t6⟩,?_⟩
    symm
    refine⟨tl,xt,.ref a5,rfl,rfl,t6,oy (by lia),?_⟩
    rw[Od,Nat.sub_self] at QM m_
    have e1:ndL img 0 b=1:=rfl
    have e2:iC img 0 b=[b]:=rfl
    rw[e1] at QM
    rw[e2] at m_
    have YM:H1 tl=none:=ntl
    refine⟨m -1,by lia,xt++[.ref a5],QL,rows++[b],Qn,_,_,rfl,⟨D5 s6 YM,d0,by rw[d6 YF.symm];exact f6,A7 YK.upT ⟨a5,rfl,hat,YJ,by rw[d6 hat];exact b6⟩,YL.upT,λb' Pn=>L.bl b' (by rw[UG];exact JB _ Pn),by lia,by rw[KH];exact m_,by rw[JG,JO];lia,λe=>by rw[JG,JO,YI e];exact JA _⟩⟩
   .have Od:b.length<n:=by lia
    obtain⟨kk,RW⟩:∃kk,n -b.length=kk+1:=⟨n -b.length -1,by lia⟩
    symm
    refine⟨a,p,q,c,pl,a5,kvs,w_,e_,Lr,Pc,W,r1,r2,gp,gt,fx,b,rfl,X0.same (m1.trans s6),b6,by lia,λli H7 ss n7 m7 f7 hss=>?_⟩
    rw[YG] at hss
    subst hss
    symm
    refine⟨li,_,rfl,SqL.of f7,?_⟩
    have Yn:=hM b
    have hlit:li≠tl:=(b5 t6 n7).symm
    have YN:li≠wl:=(b5 f6 n7).symm
    refine dI (n:=(img b).length) (λi σ H'=>∃(TN:List V) (v2:Option V),σ=[some (.ref a),some (.ref c),some (.ref pl),some mv,some (.ref ln),some (.ref tl),some (.ref wl),some (.ref a5),v2]/\Same H1 H'/\H' li=some (.lst ((img b).map V.str))/\H' tl=some (.lst xt)/\H' wl=some (.lst TN)/\H' a5=some (.lst (b.map V.str))/\LoAt H' tl wl xt rows/\LoAt H' tl wl TN (Qn++((img b).reverse.take i).map λx=>b++[x])) ⟨QL,v2,rfl,s6.trans m7,f7,m7 _ _ t6,m7 _ _ f6,m7 _ _ b6,YK.same m7,by simpa using YL.same m7⟩ (λi σ H' hi hp=>?_) ?_ ?_
    .obtain⟨_,_,_,_,z,_⟩:=hp
     exact⟨SqL.of z,by rw[Jx];exact hi⟩
    .rintro bk i v σ H8' H8 hi ⟨TN,v2',rfl,s8,g8,t8,w8,b8,lt8,lw8⟩ ⟨rfl,hv⟩ _ _
     rw[Jx] at hv
     have YO:(img b).reverse[i]?=(img b)[(img b).length -1 -i]?:=List.getElem?_reverse hi
     rw[JC,←YO] at hv
     obtain⟨x,hx,rfl⟩:=Kd.mp hv
     have hl8:=Kr lw8
     rw[JG,Jx,JP] at hl8
     symm
     refine⟨.inl ⟨rfl,_,SqL.of w8⟩,?_⟩
     symm
     refine⟨d8 (by simp),λl9 n9=>?_⟩
     obtain⟨H9,e9,f9,m9,_⟩:=b9 (o:= .lst [.str x]) n9
     rw[e9]
     refine mD (m9 _ _ b8) f9 (Nc (d8 (by rw[Jx];simp;lia))) (λSw n10=>?_)
     obtain⟨PC,Rx,Ry,PD,_⟩:=b9 (o:= .lst (b.map V.str++[.str x])) n10
     rw[Rx]
     have PF:=m9.trans PD
     have YQ:Sw≠tl:=(b5 (m9 _ _ t8) n10).symm
     have VA:Sw≠wl:=(b5 (m9 _ _ w8) n10).symm
     symm
     refine⟨wl,TN,.ref Sw,rfl,rfl,PF _ _ w8,oy (by lia),?_⟩
     walk_at "X"
     refine⟨TN++[.ref Sw],_,rfl,D5 (s8.trans PF) Vz,by rw[d6 YN];exact PF _ _ g8,by rw[d6 YF];exact PF _ _ t8,d0,by rw[d6 YJ];exact PF _ _ b8,(lt8.same PF).upW,?_⟩
     rw[Kb,hx,JF,←KH]
     refine A7 (lw8.same PF).upW ⟨Sw,rfl,YQ,VA,?_⟩
     rw[d6 VA,Ry,JF];rfl
    .rintro σ H8 ⟨TN,v2',rfl,s8,g8,t8,w8,b8,lt8,lw8⟩
     rw[JK (by rw[List.length_reverse];exact JA _)] at lw8
     refine⟨by show(img b).length=((img b).map V.str).length;rw[Jx],?_⟩
     rw[RW] at QM m_
     have e1:ndL img (kk+1) b=1+((img b).map λx=>ndL img kk (b++[x])).sum:=rfl
     have e2:iC img (kk+1) b=(img b).flatMap λx=>iC img kk (b++[x]):=rfl
     rw[e1] at QM
     rw[e2] at m_
     have ek:∀x:Str,n -(b++[x]).length=kk:=λx=>by rw[JG,JO];lia
     have eS:(((img b).reverse.map λx=>b++[x]).map λb=>ndL img (n -b.length) b).sum=((img b).map λx=>ndL img kk (b++[x])).sum:=by
      rw[Km,List.map_reverse,List.sum_reverse];exact KQ List.sum (KA λx _=>by show ndL img (n -(b++[x]).length) (b++[x])=_;rw[ek x])
     refine⟨m -1,by lia,xt,TN,rows,Qn++(img b).reverse.map λx=>b++[x],_,_,rfl,⟨s8,t8,w8,lt8,lw8,λb' Pn=>?_,?_,?_,by lia,L.le1⟩⟩
     .rcases JD.mp Pn with z|z
      .exact L.bl b' (by rw[UG];exact JB _ z)
      .obtain⟨x,_,rfl⟩:=Jz.mp z
       rw[JG,JO];lia
     .rw[JF,List.sum_append,eS];lia
     .rw[OZ,←List.map_reverse,List.reverse_reverse,List.flatMap_append,List.flatMap_map]
      rw[←m_]
      congr 1
      congr 1
      exact fC λx _=>by rw[ek x]
def vT (W:B0):List Str:=si (W.pts.map (·.1))
def vo (W:B0):List Str:=si (W.ts.map (·.1))
def xn (W:B0):List Str:=vT W++vo W
noncomputable def O7 (Pc W:B0)(fx:List (Str×Str)):List (List Str):=iW Pc W (vT Pc) (vo Pc) (vT W) (vo W) fx
theorem eG (W:B0):Ordr W (vT W) (vo W):=⟨iq _,iq _,oX _,oX _⟩
def DcAt (H:Hp)(nm:List Str)(xs:List V)(rows:List (List Str)):Prop:=Paired (λv row=>∃d,v=V.ref d/\H d=some (.dK (g5 (nm.zip row)))) xs rows
theorem DcAt.same {H H':Hp}{nm:List Str}{xs:List V}{rows:List (List Str)}(h:DcAt H nm xs rows)(s:Same H H'):DcAt H' nm xs rows:=Paired.imp' (λ_ _ ⟨d,e,z⟩=>⟨d,e,s _ _ z⟩) h
def Ga (H:Hp)(p q:Addr)(fv:V)(fx:List (Str×Str)):Prop:=(fv= .non/\fx=[])\/∃d,fv= .ref d/\H d=some (.dK (g5 fx))/\d≠p/\d≠q
structure Mx (K:Qe) (H:Hp) (a p q a' p' q':Addr) (kvs d_:List (j0×V)) (Pc W:B0) (fx:List (Str×Str)):Prop where
 P:WebIs 30 K H a p q kvs Pc
 G:WebIs 30 K H a' p' q' d_ W
 big:((b7 Pc).length+1)*(max W.pts.length W.ts.length+1) ^ ((b7 Pc).filter (cS fx)).length<=1000000
 fnd:(fx.map (·.1)).Nodup
 fin:∀x∈fx,x.1∈b7 Pc
structure LkP (K:Qe) (H:Hp) (pl wl:Addr) (e_ y_:List (j0×V)) (L:Str->Str->Bool) (Pc W:B0):Prop where
 hp:H pl=some (.dK e_)
 kp:e_.map (·.1)=(Pc.pts.map (·.1)).map Sum.inr
 hg:Rd H wl (.dK y_)
 kg:y_.map (·.1)=(W.pts.map (·.1)).map Sum.inr
 eq:∀(n:Str) (v:V) (m:Str) (u:V),(Sum.inr n,v)∈e_->z0 y_ (Sum.inr m:j0)=some u->EqA K H u v (L n m)
 ls:∀n x,n∈Pc.pts.map (·.1)->x∈W.pts.map (·.1)->L n x=true->i7 (g5 W.pts) x=i7 (g5 Pc.pts) n
 lc:∀row,ei Pc W (g5 ((xn Pc).zip row))->∀x∈Pc.pts,L x.1 (gv (xn Pc) row x.1)=true
theorem LkP.same {H H':Hp}{pl wl:Addr}{e_ y_:List (j0×V)}{L:Str->Str->Bool}{Pc W:B0}(h:LkP K H pl wl e_ y_ L Pc W)(s:Same H H'):LkP K H' pl wl e_ y_ L Pc W:=⟨s _ _ h.hp,h.kp,s.rd h.hg,h.kg,λn v m u a b=>(h.eq n v m u a b).mono s.le,h.ls,h.lc⟩
def IF (H:Hp)(Q:VK)(mo:Option Nat)(Pc W:B0)(fx:List (Str×Str)):Prop:=∀(l:Addr) (H':Hp) (xs:List V),H l=none->Same H H'->H' l=some (.lst xs)->DcAt H' (xn Pc) xs (Al mo (O7 Pc W fx))->(O7 Pc W fx).length<=1000000->(∀x∈xs,∃d,x=V.ref d/\H d=none)->Q (.ref l) H'
def qd (K:Qe):Sp:=λvs H Q _=>∃(a p q a' p' q' pl wl:Addr) (kvs d_ e_ y_:List (j0×V)) (L:Str->Str->Bool) (Pc W:B0) (fx:List (Str×Str)) (fv mv:V) (mo:Option Nat),vs=[.ref a,.ref a',.ref pl,.ref wl,fv,mv]/\Mx K H a p q a' p' q' kvs d_ Pc W fx/\LkP K H pl wl e_ y_ L Pc W/\DV mv mo/\Ga H pl q fv fx/\IF H Q mo Pc W fx
theorem Bp {H:Hp}{a p q a' p' q' pl wl:Addr}{kvs d_ e_ y_:List (j0×V)}{L:Str->Str->Bool}{Pc W:B0}{fx:List (Str×Str)}(h:Mx K H a p q a' p' q' kvs d_ Pc W fx)(l:LkP K H pl wl e_ y_ L Pc W):SrchP L Pc W (vT Pc) (vo Pc) (vT W) (vo W) fx:=
 ⟨eG _,eG _,h.P.nd,h.G.nd,h.P.ends,h.fnd,h.fin,l.ls,l.lc⟩
theorem BV {H:Hp}{F:Str×Str->List Str}:∀{kvs:List (j0×V)} {pts:List (Str×Str)},ChAt H F kvs pts->LsAt H (kvs.map (·.2)) (pts.map F)
 |_,_,.nil=> .nil
 |_,_,.cons a t=> .cons a.2 (BV t)
theorem Mx.same {H0 H1:Hp}{a p q a' p' q':Addr}{kvs d_:List (j0×V)}{Pc W:B0}{fx:List (Str×Str)}(h:Mx K H0 a p q a' p' q' kvs d_ Pc W fx)(s:Same H0 H1):Mx K H1 a p q a' p' q' kvs d_ Pc W fx:=⟨h.P.same s,h.G.same s,h.big,h.fnd,h.fin⟩
theorem BY {mo:Option Nat}{rows:List (List Str)}:(Al mo rows).length<=rows.length:=by
 cases mo with
 |none=>exact JA _
 |some k=>exact List.length_take_le' _ _
def GK (Pc W:B0)(n m:Str):Bool:=decide (i7 (g5 W.pts) m=i7 (g5 Pc.pts) n)
theorem Ar {H:Hp}{a p q a' p' q':Addr}{kvs d_:List (j0×V)}{Pc W:B0}{fx:List (Str×Str)}(M:Mx K H a p q a' p' q' kvs d_ Pc W fx):LkP K H p p' (g5 Pc.pts) (g5 W.pts) (GK Pc W) Pc W:=by
 refine⟨M.P.hp,by rw[J6,B6],M.G.at_.pts,by rw[J6,B6],λn v m u h1 h2=>?_,λn x _ _ h=>KW h,λrow f x hx=>?_⟩
 .obtain⟨y,hy,e⟩:=Jz.mp h1;have e1:y.1=n:=LD (LG e).1;have e2:V.str y.2=v:=(LG e).2;obtain⟨k',rfl,hk'⟩:=gk h2;refine .inl ⟨k',y.2,rfl,e2.symm,?_⟩;unfold GK;rw[gO h2,←e1,K7 (A6 M.P.nd) (show(y.1,y.2)∈Pc.pts from hy)]
 .have z:=f.pts x hx;refine JX ?_;rw[K7 (A6 M.P.nd) (show(x.1,x.2)∈Pc.pts from hx)];exact K7 (A6 M.G.nd) z
abbrev uy (P:Program)(w:World)(K:Qe)(mg:Str->Option Value)(base:Heap):Prop:=V9 P w K mg base E7 6 "found" ["piece","web","piece_looks","web_looks","fixed","most"] [] (qd K)
theorem xN {f:Addr}{fd:FuncData}(T:Txt K mg)(Z6:cf P w K mg base)(aZ:jE P w K mg base)(bD:fY P w K mg base)(A4:V1 P w K mg base)(oU:uv P w K mg base)(F:Fun K "found" "found" oK f fd):C0 P w K mg base E7 6 f fd ["piece","web","piece_looks","web_looks","fixed","most"] (qd K):=by
 walk_at "#sc_found"
 .obtain⟨a,p,q,a',p',q',pl,wl,kvs,d_,e_,y_,L,Pc,W,fx,fv,mv,mo,rfl,_⟩:=h;rfl
 .obtain⟨a,p,q,a',p',q',pl,wl,kvs,d_,e_,y_,L,Pc,W,fx,fv,mv,mo,rfl,M0,L0,UD,hf,k⟩:=h;have S:=Bp M0 L0;have lP:=M0.P.len;have lW:=M0.G.len;have lP2:=lP;have lW2:=lW;rw[A5] at lP2 lW2;walk_at "@sc_found 46'3Fn o'0GV 4~6hM04476'0Z6 82k367sO6'0aZ 3-~hL~g~f3~0#~e~d~c07aE486'0bD 80k16496]50axrow;9;r6'0oU 8087k85g0lrow,names;J~s%~1Lk10"
  refine Cq (λσ H'=>∃d,σ=[some (.ref a),some (.ref a'),some (.ref pl),some (.ref wl),some fv,some mv,some (.ref d),none,none,none]/\Same H H'/\H' d=some (.dK (g5 fx))/\d≠pl/\d≠q) ?_ ?_
  .rintro σ H1 ⟨d,rfl,m1,hd,Tw,TC⟩;have M1:=M0.same m1;have L1:=L0.same m1;symm;refine⟨pl,wl,d,e_,y_,Pc.pts,W.pts,fx,L,vT W,rfl,L1.hp,L1.kp,A6 M1.P.nd,by lia,L1.hg,L1.kg,A6 M1.G.nd,by lia,(eG W).p1,(eG W).o1,L1.eq,hd,Tw,λc H2 w_ nc m2 hc ch=>?_⟩;have M2:=M1.same m2;symm;refine⟨.inr (.inr (.inl ⟨rfl,.inl ⟨_,hc⟩⟩)),?_⟩;symm;refine⟨c,_,rfl,rfl,.inl hc,λv3 n3=>?_⟩;obtain⟨H3,e3,f3,m3,_⟩:=b9 (o:= .ext (lZ v3 c)) n3;rw[e3];symm;refine aE f3 (.inl (m3 _ _ hc)) (λl4 n4=>?_);obtain⟨H4,e4,f4,m4,_⟩:=b9 (o:= .lst _) n4;rw[e4];symm;have TQ:=m3.trans m4;refine⟨l4,_,_,rfl,f4,LsAt.same (BV ch) TQ,by rw[Jx];lia,λH5 m5=>?_⟩;have QK:=TQ.trans m5;have M5:=M2.same QK;symm;refine fR (λh1=>?_) (λh1=>?_)
   .symm;refine⟨d8 (by simp),λl6 n6=>?_⟩;obtain⟨H6,e6,f6,m6,_⟩:=b9 (o:= .lst []) n6;rw[e6];have e0:O7 Pc W fx=[]:=wz S h1;refine k l6 H6 [] (m1.free (m2.free (QK.free n6))) (m1.trans (m2.trans (QK.trans m6))) f6 (by rw[e0];rcases UD with⟨_,rfl⟩|⟨_,rfl⟩<;>exact .nil) (by rw[e0];exact KU _) (λ_ h=>nomatch h)
   .symm;refine⟨a,p,q,a',p',q',d,kvs,d_,Pc,W,fx,vo W,rfl,M5.P.at_,M5.P.hq,K2 M5.P.nd,by lia,M5.G.at_,K2 M5.G.nd,by lia,(eG W).p2,(eG W).o2,QK _ _ (m2 _ _ hd),TC,λps H6 kvq nps m6 hps pls=>?_⟩;have M6:=M5.same m6;have m26:=QK.trans m6;symm;refine⟨a,p,q,kvs,Pc,rfl,M6.P.at_,by lia,λln H7 r1 r2 n7 m7 f7 or=>?_⟩;have Vx:r1=vT Pc:=N5 or.o1 (eG Pc).o1 (or.p1.nodup_iff.mpr (A6 S.nd)) (or.p1.trans (eG Pc).p1.symm);have Vy:r2=vo Pc:=N5 or.o2 (eG Pc).o2 (or.p2.nodup_iff.mpr (K2 S.nd)) (or.p2.trans (eG Pc).p2.symm);subst Vx Vy;have M7:=M6.same m7;have VB:=m26.trans m7;symm;refine⟨a,p,q,c,ps,kvs,w_,kvq,L,Pc,W,vT Pc,vo Pc,vT W,vo W,fx,mv,mo,rfl,UD,⟨S,M7.P.at_,M7.P.hq,by lia,by lia,M0.big,VB _ _ hc,ch.same VB,m7 _ _ hps,pls.same m7⟩,λlr H8 xs n8 m8 f8 ls Rw=>?_⟩;have hrl:=Kr ls;refine A8 (SqL.of f8) ?_;refine z8 (n:=xs.length) (λi out H'=>Same H8 H'/\DcAt H' (xn Pc) out ((Al mo (O7 Pc W fx)).take i)/\∀x∈out,∃d,x=V.ref d/\H d=none) ⟨Same.refl _,.nil,λ_ h=>nomatch h⟩ (λi out H' hi hp=>⟨xs,xs[i],SqL.of (hp.1 _ _ f8),Jy hi⟩) ?_ ?_
    .rintro N i v out H9' H9 hi ⟨s9,dc,PJ⟩ y hN';obtain⟨rfl,hy⟩:=Itl.get y (SqL.of (s9 _ _ f8));obtain⟨row,Px,ar,rfl,har⟩:=L8 ls hy;have SQ:=Kr dc;rw[JP] at SQ;symm;refine⟨rfl,?_⟩;symm;refine⟨ln,ar,(xn Pc).map Sum.inr,row.map V.str,rfl,by rw[←uQ];exact SqL.of (s9 _ _ (m8 _ _ f7)),SqL.of (s9 _ _ har),λd2 Rz=>?_⟩;rw[pS (nm:=xn Pc) S.nn];obtain⟨PC,Rx,Ry,PD,_⟩:=b9 (o:= .dK (g5 ((xn Pc).zip row))) Rz;change _/\N _ (p5 H9 d2 (.dK (g5 ((xn Pc).zip row))));rw[Rx];have VC:(O7 Pc W fx).length<=1000000:=Rw;have UA:(Al mo (O7 Pc W fx)).length<=(O7 Pc W fx).length:=BY;refine⟨Nc (oy (by lia)),hN' _ _ ⟨s9.trans PD,?_,λx hx=>?_⟩⟩
     .rw[show(Al mo (O7 Pc W fx)).take (i+1)=(Al mo (O7 Pc W fx)).take i++[row] by rw[Kb,show(Al mo (O7 Pc W fx))[i]?=some row from Px];rfl];exact A7 (DcAt.same dc PD) ⟨d2,rfl,Ry⟩
     .rcases JD.mp hx with z|z
      .exact PJ x z
      .exact⟨d2,JN.mp z,m1.free (m2.free (VB.free (m8.free (s9.free Rz))))⟩
    .rintro out H9 ⟨s9,dc,PJ⟩;have SQ:=Kr dc;rw[JP] at SQ;have VC:(O7 Pc W fx).length<=1000000:=Rw;have UA:(Al mo (O7 Pc W fx)).length<=(O7 Pc W fx).length:=BY;refine⟨⟨_,SqL.of (s9 _ _ f8),JA _⟩,λD hD=>⟨Nc (oy (by lia)),?_⟩⟩;rw[JK (by rw[hrl];exact JA _)] at dc;obtain⟨PC,Rx,Ry,PD,_⟩:=b9 (H:=H9) (o:= .lst out) hD;show Q _ (p5 H9 D _);rw[Rx];exact k D PC out (m1.free (m2.free (VB.free (m8.free (s9.free hD))))) (m1.trans (m2.trans (VB.trans (m8.trans (s9.trans PD))))) Ry (dc.same PD) Rw PJ
  .intro nx hnx;symm;rcases hf with⟨rfl,rfl⟩|⟨d,rfl,hd,Tw,TC⟩
   .rw[if_pos (by simp)];symm;intro d nd;obtain⟨H1,e1,f1,m1,_⟩:=b9 (o:= .dK []) nd;rw[e1];symm;exact hnx _ _ ⟨d,rfl,m1,f1,(b5 L0.hp nd).symm,(b5 M0.P.hq nd).symm⟩
   .rw[if_neg (by simp)];symm;exact hnx _ _ ⟨d,rfl,Same.refl _,hd,Tw,TC⟩
def BN (H:Hp)(nm:List Str)(v:V)(rows:List (List Str)):Prop:=(rows=[]/\v= .non)\/∃(row:List Str) (r:List (List Str)) (d:Addr),rows=row::r/\v= .ref d/\H d=some (.dK (g5 (nm.zip row)))
def cV (K:Qe):Sp:=λvs H Q _=>∃(a p q a' p' q' pl wl:Addr) (kvs d_ e_ y_:List (j0×V)) (L:Str->Str->Bool) (Pc W:B0) (fx:List (Str×Str)) (fv:V),vs=[.ref a,.ref a',.ref pl,.ref wl,fv]/\Mx K H a p q a' p' q' kvs d_ Pc W fx/\LkP K H pl wl e_ y_ L Pc W/\Ga H pl q fv fx/\∀(v:V) (H':Hp),Same H H'->BN H' (xn Pc) v (O7 Pc W fx)->(∀d,v= .ref d->H d=none)->Q v H'
abbrev eJ (P:Program)(w:World)(K:Qe)(mg:Str->Option Value)(base:Heap):Prop:=V9 P w K mg base E7 7 "first_found" ["piece","web","piece_looks","web_looks","fixed"] [] (cV K)
theorem jM {f:Addr}{fd:FuncData}(T:Txt K mg)(nQ:uy P w K mg base)(F:Fun K "first_found" "first_found" aT f fd):C0 P w K mg base E7 7 f fd ["piece","web","piece_looks","web_looks","fixed"] (cV K):=by
 walk_at "#sc_first_found"
 .obtain⟨a,p,q,a',p',q',pl,wl,kvs,d_,e_,y_,L,Pc,W,fx,fv,rfl,_⟩:=h;rfl
 .obtain⟨a,p,q,a',p',q',pl,wl,kvs,d_,e_,y_,L,Pc,W,fx,fv,rfl,M0,L0,hf,k⟩:=h;walk_at "@sc_first_found 456'0nQ 808182838432a'3Fn ~40515~6"
  symm;refine⟨a,p,q,a',p',q',pl,wl,kvs,d_,e_,y_,L,Pc,W,fx,fv,.int 1,some 1,rfl,M0,L0,.inr ⟨rfl,rfl⟩,hf,λl H1 xs nl m1 f1 dc _ PJ=>?_⟩;have WY:DcAt H1 (xn Pc) xs ((O7 Pc W fx).take 1):=dc;have s_:=Kr WY;symm;refine⟨!xs.isEmpty,.inl ⟨_,SqL.of f1,rfl⟩,?_⟩;cases hr:O7 Pc W fx with
  |nil=>
   rw[hr] at WY s_
   have t_:xs=[]:=LF (by simpa using s_)
   subst t_
   rw[if_neg (by decide)]
   symm
   exact k .non H1 m1 (.inl ⟨hr,rfl⟩) λ_ z=>nomatch z
  |cons row r=>
   rw[hr] at WY s_
   obtain⟨x,rfl⟩:∃x,xs=[x]:=by
    match xs,s_ with
    |[x],_=>exact⟨x,rfl⟩
   obtain⟨YR,VD,d,rfl,hd⟩:=L8 (i:=0) WY rfl
   have er:row=YR:=JU VD
   subst er
   rw[if_pos (by rfl)]
   symm
   refine j4 (SqL.of f1) (F0 (j:=0) rfl) ?_
   symm
   exact k (.ref d) H1 m1 (.inr ⟨row,r,d,hr,rfl,hd⟩) λd' e=>by
    obtain⟨d2,e2,z⟩:=PJ (.ref d) (by simp);have e3:d=d2:=by injection e2
    have e4:d=d':=by injection e
    rw[←e4,e3];exact z
def cE (K:Qe):Sp:=λvs H Q _=>∃(a p q a' p' q' d:Addr) (kvs d_:List (j0×V)) (Pc W:B0) (fx:List (Str×Str)),vs=[.ref a,.ref a',.ref d]/\Mx K H a p q a' p' q' kvs d_ Pc W fx/\H d=some (.dK (g5 fx))/\d≠p/\d≠q/\∀(v:V) (H':Hp),Same H H'->BN H' (xn Pc) v (O7 Pc W fx)->(∀d,v= .ref d->H d=none)->Q v H'
abbrev eU (P:Program)(w:World)(K:Qe)(mg:Str->Option Value)(base:Heap):Prop:=V9 P w K mg base E7 8 "first_match" ["piece","web","fixed"] [] (cE K)
theorem jI {f:Addr}{fd:FuncData}(T:Txt K mg)(aL:eJ P w K mg base)(F:Fun K "first_match" "first_match" aQ f fd):C0 P w K mg base E7 8 f fd ["piece","web","fixed"] (cE K):=by
 walk_at "#sc_first_match"
 .obtain⟨a,p,q,a',p',q',d,kvs,d_,Pc,W,fx,rfl,_⟩:=h;rfl
 .obtain⟨a,p,q,a',p',q',d,kvs,d_,Pc,W,fx,rfl,M0,hd,n1,n2,k⟩:=h;walk_at "@sc_first_match a6'0aL 8081p10p1152";symm;refine j3 M0.P.at_.tup ?_;symm;refine j3 M0.G.at_.tup ?_;symm;exact⟨a,p,q,a',p',q',p,p',kvs,d_,_,_,_,Pc,W,fx,.ref d,rfl,M0,Ar M0,.inr ⟨d,rfl,hd,n1,n2⟩,k⟩
theorem B8 {t u:TS}{nx:L2.St->Hp->Prop}{rt:V->Hp->Prop}{bk ct:L2.St->Hp->Prop}{σ:L2.St}{H:Hp}(h:∀Sq:L2.St->Hp->Prop,(∀σ H,u ⟨nx,rt,bk,ct⟩ σ H->Sq σ H)->t ⟨Sq,rt,bk,ct⟩ σ H):jh t u ⟨nx,rt,bk,ct⟩ σ H:=h _ λ_ _ z=>z
theorem WebIs.up {n m:Nat}{H:Hp}{a p q:Addr}{kvs:List (j0×V)}{W:B0}(h:WebIs n K H a p q kvs W)(l:n<=m):WebIs m K H a p q kvs W:=⟨h.at_,h.hp,h.hq,h.ne,h.nd,Kg h.len l,h.ends,h.nl⟩
structure DB (B W:B0) (fx:List (Str×Str)):Prop where
 big:((b7 B).length+1)*(max W.pts.length W.ts.length+1) ^ ((b7 B).filter (cS fx)).length<=1000000
 fnd:(fx.map (·.1)).Nodup
 fin:∀x∈fx,x.1∈b7 B
def GN (H H':Hp)(v:V)(bs:List Sd)(W:B0)(fx:List (Str×Str)):Prop:=
 ((∀b∈bs,O7 b.W W fx=[])/\v= .non)\/∃(i:Nat) (b:Sd) (row:List Str) (r:List (List Str)) (t d:Addr),bs[i]?=some b/\(∀b'∈bs.take i,O7 b'.W W fx=[])/\O7 b.W W fx=row::r/\v= .ref t/\H' t=some (.tup [.int (i:Int),.ref d])/\H' d=some (.dK (g5 ((xn b.W).zip row)))/\H d=none
def nN (K:Qe):Sp:=λvs H Q _=>∃(S L R:Sd) (r bl m:Addr) (bs:List Sd) (fx:List (Str×Str)),vs=[.ref S.a,.ref r,.ref m]/\SdIs K H S/\RuleIs K H r bl L R bs/\bs.length<=10/\H m=some (.dK (g5 fx))/\(∀b∈bs,m≠b.p/\m≠b.q/\DB b.W S.W fx)/\∀(v:V) (H':Hp),Same H H'->GN H H' v bs S.W fx->Q v H'
abbrev rC (P:Program)(w:World)(K:Qe)(mg:Str->Option Value)(base:Heap):Prop:=V9 P w K mg base E7 9 "barred" ["web","rule","match"] [] (nN K)
theorem vS {f:Addr}{fd:FuncData}(T:Txt K mg)(aR:eU P w K mg base)(F:Fun K "barred" "barred" jT f fd):C0 P w K mg base E7 9 f fd ["web","rule","match"] (nN K):=by
 walk_at "#sc_barred"
 .obtain⟨S,L,R,r,bl,m,bs,fx,rfl,_⟩:=h;rfl
 .obtain⟨S,L,R,r,bl,m,bs,fx,rfl,hS,hR,RZ,hm,hb,k⟩:=h;walk_at "@sc_barred 7vw~2311yb39b49z456'0aR 84k02dso'0rS 5~6hajk35a~6"
  refine B8 λUH hx=>?_;rfl';refine V5 hR.tup ?_;refine⟨_,rfl,.inl ⟨bl,_,rfl,hR.bl,?_⟩⟩;refine dI (n:=bs.length) (λi σ H'=>Same H H'/\(∃v3 v4 v5,σ=[some (.ref S.a),some (.ref r),some (.ref m),v3,v4,v5])/\∀b∈bs.take i,O7 b.W S.W fx=[]) ⟨Same.refl _,⟨_,_,_,rfl⟩,λb h=>by simp at h⟩ (λi σ H' hi hp=>⟨_,.ref (bs[i]).a,hp.1.seq hR.bl,by rw[JC,Jy hi];rfl⟩) ?_ ?_
  .rintro bk i v σ H1 H1' hi ⟨s1,⟨v3,v4,v5,rfl⟩,g_⟩ ⟨t,x,QN,nt,rfl,rfl⟩ _ _;have k_:=QN _ (s1.seq hR.bl);rw[JC,Jy hi] at k_;cases k_;have VE:=Kn hi;obtain⟨n1,n2,B⟩:=hb _ VE;obtain⟨H2,e2,f2,m2,_⟩:=b9 (o:= .tup _) nt;rw[e2];have s2:=s1.trans m2;have R2:=hR.same s2;refine F5 (SqT.of f2) rfl ?_;rfl';refine B8 λRA hx2=>?_;rfl';refine⟨_,_,_,_,_,_,m,_,_,_,_,fx,rfl,⟨WebIs.up (R2.bars _ VE) (by lia),WebIs.up (hS.same s2) (by lia),B.big,B.fnd,B.fin⟩,s2 _ _ hm,n1,n2,λv' H3 m3 fst nw=>?_⟩;refine hx2 [some (.ref S.a),some (.ref r),some (.ref m),some (.int (i:Int)),some (.ref (bs[i]).a),some v'] _ ?_;rcases fst with⟨e,rfl⟩|⟨row,rr,d,e,rfl,hd⟩
   .rfl';rw[if_neg (by simp)];rfl';refine⟨s2.trans m3,⟨_,_,_,rfl⟩,λb h=>?_⟩;rw[Kb,Jy hi] at h;rcases JD.mp h with z|z
    .exact g_ b z
    .rw[show b=bs[i] by simpa using z];exact e
   .rfl';rw[if_pos (by simp)];rfl';refine⟨d8 (by simp),λt4 n4=>?_⟩;obtain⟨H4,e4,f4,m4,_⟩:=b9 (o:= .tup [.int (i:Int),.ref d]) n4;rw[e4];exact k _ _ (s2.trans (m3.trans m4)) (.inr ⟨i,_,row,rr,t4,d,Jy hi,g_,e,rfl,f4,m4 _ _ hd,s2.free (nw d rfl)⟩)
  rintro σ H1 ⟨s1,⟨v3,v4,v5,rfl⟩,g_⟩;refine⟨⟨_,s1.seq hR.bl,by rw[Jx];exact JA _⟩,?_⟩;rw[JK (JA _)] at g_;refine hx [some (.ref S.a),some (.ref r),some (.ref m),v3,v4,v5] H1 ?_;rfl';exact k _ _ s1 (.inl ⟨g_,rfl⟩)
theorem dP {x:Str}{l u:Option Int}{c:Nat}(h:c∈(Txt.slice x l u).cps.toList):c∈x.cps.toList:=by
 unfold Txt.slice at h;split at h
 .exact h
 .simp only[ML] at h;obtain⟨i,_,hi⟩:=h;exact Array.mem_toList_iff.mpr (Array.mem_of_getElem? hi)
theorem pK (i:Int)(h0:0<=i)(h1:i<26):bE i∈kSL.cps.toList:=by
 have hl:kSL.cps.toList.length=26:=by decide+kernel
 unfold bE;rw[Kh,Jy (show i.toNat<kSL.cps.toList.length by lia)];exact Kn _
def nC (b:Str)(at_ c:Int)(k:Nat):Str:=Txt.slice b none (some at_)++(⟨#[bE ((c+(0+(k:Int))) % 26)]⟩:Str)++Txt.slice b (some at_) none
theorem Bj (b:Str)(at_ c:Int)(n:Nat)(hn:n<=26):((List.range n).map (nC b at_ c)).Nodup:=jA λi j hi hj e=>by
 have z:=AF e;have e1:(c+(0+(i:Int))) % 26=(((c+(0+(i:Int))) % 26).toNat:Int):=md _ (by decide);have e2:(c+(0+(j:Int))) % 26=(((c+(0+(j:Int))) % 26).toNat:Int):=md _ (by decide);rw[e1,e2] at z;have z2:=pU _ _ (by lia) (by lia) z;lia
theorem vE {b:Str}{at_ c:Int}{k:Nat}(h:∀x∈b.cps.toList,x∈kSL.cps.toList)(hb:b.length<=7)(h0:0<=at_)(h1:at_<=b.length):K8 (nC b at_ c k)=true:=by
 have g1:=rp b at_ h0 h1;have g2:=kO b at_ h0 h1;have hl:(nC b at_ c k).length=(Txt.slice b none (some at_)).length+1+(Txt.slice b (some at_) none).length:=by
  unfold nC;rw[fX,fX,aD]
 unfold K8 U2;rw[hl,JX (by lia),JX (by lia),Mz,Mz];unfold rm;rw[Kk];intro x hx;refine JX ?_;have k_:x∈((Txt.slice b none (some at_)).cps++ #[bE ((c+(0+(k:Int))) % 26)]++(Txt.slice b (some at_) none).cps).toList:=hx;simp only[Pa,JD] at k_;rcases k_ with(z|z)|z
 .exact h x (dP z)
 .have:x=bE ((c+(0+(k:Int))) % 26):=by simpa using z
  rw[this];exact pK _ (by lia) (by lia)
 .exact h x (dP z)
def cc (K:Qe):Sp:=λvs H Q _=>∃(a:Addr) (ns:List Int) (k:Int),vs=[.ref a,.int k]/\SqL K H a (ns.map V.int)/\ns.length<=63/\0<=k/\∀m:Int,Q (.int m) H
def du (K:Qe):Sp:=λvs H Q _=>∃c:Int,vs=[.int c,.int 16]/\∀(p:Addr) (H':Hp) (xs:List Int),H p=none->Same H H'->H' p=some (.lst (xs.map V.int))->xs.length=16->(∀x∈xs,0<=x)->Q (.ref p) H'
def eM (K:Qe):Sp:=λvs H Q _=>∃c n:Int,vs=[.int c,.int n]/\0<=n/\n<=26/\Ft H Q λss=>ss.length=n.toNat/\ss.Nodup/\∀s∈ss,K8 s=true
abbrev bI (P:Program)(w:World)(K:Qe)(mg:Str->Option Value)(base:Heap):Prop:=V9 P w K mg base E7 1 "_law_mixed" ["_law_cell","_law_k"] [] (eI K)
theorem lJ {f:Addr}{fd:FuncData}(T:Txt K mg)(F:Fun K "_law_mixed" "_law_mixed" bL f fd):C0 P w K mg base E7 1 f fd ["_law_cell","_law_k"] (eI K):=by
 walk_at "#sc__law_mixed"
 .obtain⟨c,k,rfl,_⟩:=h;rfl
 .obtain⟨c,k,rfl,h0,h1,q⟩:=h;walk_at "@sc__law_mixed 42mfm002R;2f012242mffR;0202R;20122amR;02022"
  symm;exact q _ (by lia)
abbrev aj (P:Program)(w:World)(K:Qe)(mg:Str->Option Value)(base:Heap):Prop:=V9 P w K mg base E7 1 "_law_cell_at" ["_law_script","_law_k"] [] (cc K)
theorem jd {f:Addr}{fd:FuncData}(T:Txt K mg)(F:Fun K "_law_cell_at" "_law_cell_at" ae f fd):C0 P w K mg base E7 1 f fd ["_law_script","_law_k"] (cc K):=by
 walk_at "#sc__law_cell_at"
 .obtain⟨a,ns,k',rfl,_⟩:=h;rfl
 .obtain⟨a,ns,k',rfl,hA,hl,h0,k⟩:=h;walk_at "@sc__law_cell_at 7so~31q50hac001a2"
  symm;refine E4 (r9 hA ?_);rw[Jx];symm;refine K4 (λh1=>?_) (λh1=>?_)
  .symm;obtain⟨v,hv,OI⟩:=ib (xs:=ns.map V.int) h0 (by rw[Jx];exact h1);rw[JC] at OI;obtain⟨x,hx,rfl⟩:=Kd.mp OI;exact j4 hA hv (k _)
  .symm;exact k 0
abbrev eQ (P:Program)(w:World)(K:Qe)(mg:Str->Option Value)(base:Heap):Prop:=V9 P w K mg base E7 1 "_law_stream" ["_law_cell","_law_many"] [] (du K)
theorem kF {f:Addr}{fd:FuncData}(T:Txt K mg)(F:Fun K "_law_stream" "_law_stream" aV f fd):C0 P w K mg base E7 1 f fd ["_law_cell","_law_many"] (du K):=by
 walk_at "#sc__law_stream"
 .obtain⟨c,rfl,_⟩:=h;rfl
 .obtain⟨c,rfl,k⟩:=h;walk_at "@sc__law_stream 42fm002243E7vw,51g4942mffR;0202R;20422dQN(:/.033mR;02022a03"
  symm;refine⟨d8 (by simp),λlo no=>?_⟩;obtain⟨H1,e1,f1,m1,_⟩:=b9 (o:= .lst _) no;rw[e1];symm;refine Y3 (by lia) (by lia) ?_;refine K6 (n:=16) (λi σ H'=>(∃(m:Int) (v:Option V),σ=[some (.int c),some (.int 16),some (.int m),some (.ref lo),v]/\0<=m/\m<=2200000000)/\Same H H'/\∃xs:List Int,H' lo=some (.lst (xs.map V.int))/\xs.length=i/\∀x∈xs,0<=x)
   ⟨⟨_,_,rfl,by lia,by lia⟩,m1,[],f1,rfl,λ_ h=>nomatch h⟩ (λi σ H' hi _=>by exact hi) ?_ ?_
  .rintro i v σ H2' H2 hi ⟨⟨m,v',rfl,h0,h1⟩,s2,xs,g2,hl,hx⟩ ⟨rfl,rfl⟩ _ _;symm;have b0:0<=(m*m+69621*(0+(i:Int))+11) % 2147483647:=by lia
   have b1:(m*m+69621*(0+(i:Int))+11) % 2147483647<2147483647:=by lia
   generalize (m*m+69621*(0+(i:Int))+11) % 2147483647=m' at b0 b1⊢;refine⟨.inl ⟨rfl,_,SqL.of g2⟩,?_⟩;symm;refine⟨lo,_,_,rfl,rfl,g2,U0 (by rw[Jx];lia),?_⟩;walk_at "X";refine⟨⟨m',_,rfl,b0,by lia⟩,D5 s2 no,xs++[m'*m' % 2147483587],?_,by rw[JG,hl];rfl,λx k_=>?_⟩
   .rw[d0,JF];rfl
   .rcases JD.mp k_ with z|z
    .exact hx x z
    .rw[JN.mp z];lia
  .rintro σ H2 ⟨⟨m,v',rfl,h0,h1⟩,s2,xs,g2,hl,hx⟩;refine⟨JA _,?_⟩;symm;exact k lo H2 xs no s2 g2 hl hx
abbrev bV (P:Program)(w:World)(K:Qe)(mg:Str->Option Value)(base:Heap):Prop:=V9 P w K mg base E7 1 "_law_words" ["_law_number","_law_many"] [] (eM K)
theorem lO {f:Addr}{fd:FuncData}(T:Txt K mg)(F:Fun K "_law_words" "_law_words" bM f fd):C0 P w K mg base E7 1 f fd ["_law_number","_law_many"] (eM K):=by
 walk_at "#sc__law_words"
 .obtain⟨c,n,rfl,_⟩:=h;rfl
 .obtain⟨c,n,rfl,h0,h1,k⟩:=h;walk_at "@sc__law_words 42<43<7vw,3e+p2p2p2i22m002g49d~t3f03c2mG00f042245mG002fq532ax_law_k;3250;,51g0l_law_k,_law_base,_law_letters,_law_at,_law_number;Jff&01*Y03c2mf04002&01Y03*"
  symm;refine⟨d8 (by simp),λl1 n1=>?_⟩;obtain⟨H1,e1,f1,m1,_⟩:=b9 (o:= .lst ([0,0,2,5,7].map V.int)) n1;rw[show([V.int 0,V.int 0,V.int 2,V.int 5,V.int 7]:List V)=[0,0,2,5,7].map V.int from rfl,e1];symm;obtain⟨v,hv,OI⟩:=ib (xs:=([0,0,2,5,7]:List Int).map V.int) (i:=c % 5) (by lia) (by show _<((5:Nat):Int);lia);rw[JC] at OI;obtain⟨z,hz,rfl⟩:=Kd.mp OI;have Ts:0<=z/\z<=7:=by
   have hm:=JM hz;simp only[Kl,List.not_mem_nil,Te] at hm;lia
  refine j4 (SqL.of f1) hv ?_;refine Y3 (by lia) (by lia) ?_;refine K6 (n:=z.toNat) (λi σ H'=>H'=H1/\∃(b:Str) (v:Option V),σ=[some (.int c),some (.int n),some (.str kSL),some (.str b),v,none]/\b.length=i/\∀x∈b.cps.toList,x∈kSL.cps.toList) ⟨rfl,_,none,rfl,rfl,λx hx=>by cases hx⟩ (λi σ H' hi _=>by exact hi) ?_ ?_
  .rintro i v σ H2' H2 hi ⟨rfl,b,v',rfl,hb,hbi⟩ ⟨rfl,rfl⟩ _ _;symm;refine bo gW (sS (c/(0+(i:Int)+3) % 26) (by lia) (by lia)) ?_;refine U3 (j:=⟨#[bE (c/(0+(i:Int)+3) % 26)]⟩) (d8 (by rw[aD];lia)) ?_;symm;refine⟨rfl,_,_,rfl,by rw[fX,aD];lia,λx hx=>?_⟩;have k_:x∈(b.cps++ #[bE (c/(0+(i:Int)+3) % 26)]).toList:=hx;simp only[Pa,JD] at k_;rcases k_ with z|z
   .exact hbi x z
   .have:x=bE (c/(0+(i:Int)+3) % 26):=by simpa using z
    rw[this];exact pK _ (by lia) (by lia)
  .rintro σ H2 ⟨rfl,b,v',rfl,hb,hbi⟩;refine⟨JA _,?_⟩;symm;refine E4 (dW (d8 (by lia)) ?_);symm;have q0:0<=c/5 % ((b.length:Int)+1):=KG _ (by lia);have q1:c/5 % ((b.length:Int)+1)<(b.length:Int)+1:=Kv _ (by lia);generalize c/5 % ((b.length:Int)+1)=at_ at q0 q1⊢;refine Y3 h0 (by lia) ?_;refine z8 (n:=n.toNat) (λi out H'=>H'=H2/\out=(List.range i).map λk=>V.str (nC b at_ c k)) ⟨rfl,rfl⟩ (λi out H' hi _=>by exact hi) ?_ ?_
   .rintro N i v out H3' H3 hi ⟨rfl,rfl⟩ ⟨rfl,rfl⟩ hN';symm;refine⟨rfl,?_⟩;symm;refine gE (d8 (by lia)) ?_;symm;have hc3:=sS ((c+(0+(i:Int))) % 26) (by lia) (by lia);refine bo gW hc3 ?_;have g1:=Mt b Option.none (some at_);have g2:=Mt b (some at_) Option.none;refine U3 (j:=⟨#[bE ((c+(0+(i:Int))) % 26)]⟩) (d8 (by rw[aD];lia)) ?_;symm;refine gE (d8 (by lia)) ?_;refine U3 (d8 (by rw[fX,aD];lia)) ?_;refine⟨d8 (by rw[Jx,Ls];lia),hN' _ _ ⟨rfl,?_⟩⟩;rw[LL,JF];rfl
   .rintro out H3 ⟨rfl,rfl⟩;refine⟨JA _,λD hD=>⟨d8 (by rw[Jx,Ls];lia),?_⟩⟩;obtain⟨H5,e5,f5,m5,_⟩:=b9 (o:= .lst _) hD;refine k D _ ((List.range n.toNat).map (nC b at_ c)) (m1.free hD) ?_ ?_ ⟨by rw[Jx,Ls],Bj _ _ _ _ (by lia),λs hs=>?_⟩
    .show Same _ (p5 _ D _);rw[e5];exact m1.trans m5
    .show p5 _ D _ D=_;rw[d0,Km];rfl
    .obtain⟨i,_,rfl⟩:=Jz.mp hs;exact vE hbi (by lia) q0 (by lia)
section
open PySem.Builtin PySem.Builtin.Str
theorem uz (l:List Nat):∀n,(List.range n).filterMap (λk=>l[k]?)=l.take n
 |0=>by simp
 |n+1=>by
  rw[LL,List.filterMap_append,uz l n,Kb];congr 1
theorem FA (n:Nat)(i:Int)(h0:0<=i)(h1:i<=n):strSliceIndices none (some i) 1 n=List.range i.toNat:=by
 unfold strSliceIndices sliceRange;simp only[show(1:Int)>0 by decide,Ol];rw[if_neg (show ¬i<0 by lia),show max 0 (min i (n:Int))=i by lia];have e:(if(0:Int)<i then(i -0+1 -1)/1 else 0)=i:=by split<;>lia
 rw[e];refine(KA λk _=>?_).trans (Pb _);show(0+1*(k:Int)).toNat=k;lia
theorem tG (x:Str)(i:Int)(h0:0<=i)(h1:i<=x.length):(Txt.slice x none (some i)).cps.toList=x.cps.toList.take i.toNat:=by
 unfold Txt.slice;rw[FA x.length i h0 h1];split
 .next h=>
  have h':i.toNat=x.length:=by simpa using h
  have hl:x.cps.toList.length=x.length:=by show _=x.cps.size;simp
  rw[JK (by lia)]
 .have e:(λk:Nat=>x.cps[k]?)=λk=>x.cps.toList[k]?:=by funext k;simp
  show(List.filterMap (λk=>x.cps[k]?) (List.range i.toNat)).toArray.toList=_;rw[e,uz]
end
def pz (l:List Nat):Str:=⟨l.toArray⟩
theorem wR (l:List Nat)(c:Nat):pz l++(⟨#[c]⟩:Str)=pz (l++[c]):=by
 unfold pz;show(⟨l.toArray++ #[c]⟩:Str)=_;congr 1;simp
theorem gi (l:List Nat):(pz l).length=l.length:=by
 show l.toArray.size=_;simp
def eo (s:Str)(i:Int):Nat:=s.cps.toList.getD i.toNat 0
theorem xu (s:Str)(i:Int)(h0:0<=i)(h1:i<s.cps.toList.length):oj s.cps.toList i=some (eo s i):=by
 obtain⟨v,hv,OI⟩:=ib (xs:=s.cps.toList) h0 h1;rw[hv];unfold eo;rw[Kh,OI];rfl
abbrev kSM:Str:=kSL++("0123456789.":Str)
def zW (c:Int):Int:=([0,0,3,9,22]:List Int).getD (c % 5).toNat 0
def ax (j:Nat):Int:=if 0<j then 37 else 26
def jc (c:Int)(i:Nat):List Nat:=(List.range i).map λj:Nat=>eo kSM (c/((j:Int)+3) % ax j)
def O2 (c:Int):Str:=pz (jc c (zW c).toNat)
def CL (c:Int)(k:Nat):Str:=(⟨#[bE ((c+(k:Int)) % 26)]⟩:Str)++(⟨#[eo "0123456789." ((k:Int) % 11)]⟩:Str)
def dZ (c:Int)(k:Nat):Str:=Txt.slice (O2 c) none (some (c/5 % (((O2 c).length:Int)+1)))++CL c k++Txt.slice (O2 c) (some (c/5 % (((O2 c).length:Int)+1))) none
theorem wH (c:Int)(i:Nat):jc c (i+1)=jc c i++[eo kSM (c/((i:Int)+3) % ax i)]:=by
 unfold jc;rw[LL,JF];rfl
theorem gc (c:Int)(i:Nat):(jc c i).length=i:=by unfold jc;rw[Jx,Ls]
theorem zk (c:Int):0<=zW c/\zW c<=22:=by grind [zW]
def gd (K:Qe):Sp:=λvs H Q _=>∃(c:Int) (k:Nat),vs=[.int c,.int k]/\k<=300/\∀H',Same H H'->Q (.str (dZ c k)) H'
abbrev dB (P:Program)(w:World)(K:Qe)(mg:Str->Option Value)(base:Heap):Prop:=V9 P w K mg base E7 1 "_law_name" ["_law_number","_law_k"] [] (gd K)
theorem oP {f:Addr}{fd:FuncData}(T:Txt K mg)(F:Fun K "_law_name" "_law_name" cI f fd):C0 P w K mg base E7 1 f fd ["_law_number","_law_k"] (gd K):=by
 walk_at "#sc__law_name"
 .obtain⟨c,k',rfl,_⟩:=h;rfl
 .obtain⟨c,k',rfl,hk,k⟩:=h;walk_at "@sc__law_name 42<43<7vw,3e+p2p2p2i22m002g49d~t3f03ef02<mG00f042e+i22-'0hU ~p~o3H'0yY 042h45mG002fq53246fc2mf00012e<m012aff&03*Y0506&03Y05*"
  symm;refine⟨d8 (by simp),λl1 n1=>?_⟩;obtain⟨H1,e1,f1,m1,_⟩:=b9 (o:= .lst (([0,0,3,9,22]:List Int).map V.int)) n1;rw[show([V.int 0,V.int 0,V.int 3,V.int 9,V.int 22]:List V)=([0,0,3,9,22]:List Int).map V.int from rfl,e1];symm;obtain⟨v,hv,OI⟩:=ib (xs:=([0,0,3,9,22]:List Int).map V.int) (i:=c % 5) (by lia) (by show _<((5:Nat):Int);lia);rw[JC] at OI;obtain⟨z,hz,rfl⟩:=Kd.mp OI;have ez:zW c=z:=by unfold zW;rw[Kh,hz];rfl
  have Ts:=zk c;rw[ez] at Ts;refine j4 (SqL.of f1) hv ?_;refine Y3 (by lia) (by lia) ?_;refine K6 (n:=z.toNat) (λi σ H'=>Same H H'/\∃(v:Option V),σ=[some (.int c),some (.int k'),some (.str kSL),some (.str (pz (jc c i))),v,none,none]) ⟨m1,none,rfl⟩ (λi σ H' hi _=>by exact hi) ?_ ?_
  .rintro i v σ H2' H2 hi ⟨s2,v',rfl⟩ ⟨rfl,rfl⟩ _ _;have RZ:=gi (jc c i);rw[gc] at RZ;symm;refine U3 (by decide+kernel) ?_;symm;refine⟨d8 (by simp),λl3 n3=>?_⟩;obtain⟨H3,e3,f3,m3,_⟩:=b9 (o:= .lst [.int 26,.int 37]) n3;rw[e3];symm;refine .inr ⟨_,rfl,?_⟩;have hmod:ax i=26\/ax i=37:=by unfold ax;split<;>simp
   have hix:oj [V.int 26,V.int 37] (if decide (0<0+(i:Int))=true then(1:Int) else 0)=some (.int (ax i)):=by
    unfold ax;by_cases h:0<i
    .rw[if_pos (JX (by lia)),if_pos h];rfl
    .rw[if_neg (by rw[Kf (by lia)];simp),if_neg h];rfl
   refine j4 (SqL.of f3) hix ?_;have hmp:0<ax i:=by lia
   refine IL hmp ?_;have q0:0<=c/(0+(i:Int)+3) % ax i:=KG _ (by lia);have q1:c/(0+(i:Int)+3) % ax i<ax i:=Kv _ hmp;have Sy:kSM.cps.toList.length=37:=by decide+kernel
   refine bo (by decide+kernel) (xu kSM _ q0 (by rw[Sy];lia)) ?_;refine U3 (j:=⟨#[eo kSM (c/(0+(i:Int)+3) % ax i)]⟩) (d8 (by rw[aD];lia)) ?_;symm;refine⟨s2.trans m3,some (.int (0+(i:Int))),?_⟩;rw[wH,←wR,OB (i:Int)];rfl
  .rintro σ H2 ⟨s2,v',rfl⟩;refine⟨JA _,?_⟩;have eb:pz (jc c z.toNat)=O2 c:=by unfold O2;rw[ez]
   rw[eb];have RZ:(O2 c).length<=22:=by rw[←eb,gi,gc];lia
   symm;refine E4 (dW (d8 (by lia)) ?_);symm;refine bo gW (sS ((c+(k':Int)) % 26) (by lia) (by lia)) ?_;symm;have SQ:("0123456789.":Str).cps.toList.length=11:=by decide+kernel
   refine bo (by decide+kernel) (xu "0123456789." ((k':Int) % 11) (by lia) (by rw[SQ];lia)) ?_;refine U3 (i:=⟨#[bE ((c+(k':Int)) % 26)]⟩) (j:=⟨#[eo "0123456789." ((k':Int) % 11)]⟩) (d8 (by rw[aD,aD];lia)) ?_;symm;have g1:=Mt (O2 c) Option.none (some (c/5 % (((O2 c).length:Int)+1)));have g2:=Mt (O2 c) (some (c/5 % (((O2 c).length:Int)+1))) Option.none;have gt:(CL c k').length=2:=rfl;refine gE (d8 (by lia)) ?_;symm;refine U3 (j:=CL c k') (d8 (by lia)) ?_;symm;refine gE (d8 (by lia)) ?_;refine U3 (d8 (by rw[fX];lia)) ?_;exact k _ s2
theorem pV (c:Int)(k:Nat):(dZ c k).cps.toList=(Txt.slice (O2 c) none (some (c/5 % (((O2 c).length:Int)+1)))).cps.toList++[bE ((c+(k:Int)) % 26),eo "0123456789." ((k:Int) % 11)]++(Txt.slice (O2 c) (some (c/5 % (((O2 c).length:Int)+1))) none).cps.toList:=by
 show((Txt.slice (O2 c) none (some (c/5 % (((O2 c).length:Int)+1)))).cps++(#[bE ((c+(k:Int)) % 26)]++ #[eo "0123456789." ((k:Int) % 11)])++(Txt.slice (O2 c) (some (c/5 % (((O2 c).length:Int)+1))) none).cps).toList=_;simp
theorem vz:∀i j:Nat,i<11->j<11->eo "0123456789." i=eo "0123456789." j->i=j:=by
 have h:∀i,i<11->∀j,j<11->eo "0123456789." (i:Nat)=eo "0123456789." (j:Nat)->i=j:=by decide+kernel
 exact λi j hi hj=>h i hi j hj
theorem pN {c:Int}{i j:Nat}(hi:i<286)(hj:j<286)(h:dZ c i=dZ c j):i=j:=by
 have z:=KQ (λs:Str=>s.cps.toList) h;simp only[pV,KH,List.append_cancel_left_eq,Mg,List.cons.injEq] at z;have z1:=z.1;have e1:(c+(i:Int)) % 26=(((c+(i:Int)) % 26).toNat:Int):=md _ (by decide);have e2:(c+(j:Int)) % 26=(((c+(j:Int)) % 26).toNat:Int):=md _ (by decide);rw[e1,e2] at z1;have z2:=pU _ _ (by lia) (by lia) z1;have z3:=z.2.1;have e3:(i:Int) % 11=(((i:Int) % 11).toNat:Int):=md _ (by decide);have e4:(j:Int) % 11=(((j:Int) % 11).toNat:Int):=md _ (by decide);rw[e3,e4] at z3;have z4:=vz _ _ (by lia) (by lia) z3;lia
theorem yk (s:Str)(i:Int)(h0:0<=i)(h1:i<s.cps.toList.length):eo s i∈s.cps.toList:=by
 unfold eo;rw[Kh,Jy (show i.toNat<s.cps.toList.length by lia)];exact Kn _
theorem Fz:kSM.cps.toList=kNS.cps.toList:=by decide+kernel
theorem BO:∀x∈kSL.cps.toList,x∈kNS.cps.toList:=by decide+kernel
theorem Fv:∀x∈("0123456789.":Str).cps.toList,x∈kNS.cps.toList:=by decide+kernel
theorem BJ:∀i:Nat,i<26->eo kSM (i:Nat)∈kSL.cps.toList:=by decide+kernel
theorem xQ {c:Int}{x:Nat}(h:x∈(O2 c).cps.toList):x∈kNS.cps.toList:=by
 have h':x∈jc c (zW c).toNat:=by simpa [O2,pz] using h
 obtain⟨j,_,rfl⟩:=Jz.mp h';rw[←Fz];have hl:kSM.cps.toList.length=37:=by decide+kernel
 have hm:ax j=26\/ax j=37:=by unfold ax;split<;>simp
 have q0:0<=c/((j:Int)+3) % ax j:=KG _ (by lia);have q1:c/((j:Int)+3) % ax j<ax j:=Kv _ (by lia);exact yk _ _ q0 (by rw[hl];lia)
theorem AU (c:Int):(O2 c).length<=22:=by
 have:=zk c;unfold O2;rw[gi,gc];lia
theorem qK (c:Int)(k:Nat):V4 (dZ c k)=true:=by
 have hb:=AU c;have q0:0<=c/5 % (((O2 c).length:Int)+1):=KG _ (by lia);have q1:c/5 % (((O2 c).length:Int)+1)<((O2 c).length:Int)+1:=Kv _ (by lia);have Qp:=pV c k;have g1:=rp (O2 c) _ q0 (by lia);have g2:=kO (O2 c) _ q0 (by lia);have Tf:=tG (O2 c) _ q0 (by lia);generalize c/5 % (((O2 c).length:Int)+1)=at_ at q0 q1 Qp g1 g2 Tf;have hl:(dZ c k).length=(dZ c k).cps.toList.length:=ff _;have e1:=ff (Txt.slice (O2 c) none (some at_));have e2:=ff (Txt.slice (O2 c) (some at_) none);have hlen:(dZ c k).length=(Txt.slice (O2 c) none (some at_)).length+2+(Txt.slice (O2 c) (some at_) none).length:=by
  rw[hl,Qp,JG,JG,e1,e2];rfl
 have dl:("0123456789.":Str).cps.toList.length=11:=by decide+kernel
 unfold V4;rw[Kj];constructor
 .unfold U2;rw[hlen,JX (by lia),JX (by lia),Mz,Mz];unfold rm;rw[Kk,Qp];intro x hx;refine JX ?_;rcases JD.mp hx with z|z
  .rcases JD.mp z with z|z
   .exact xQ (dP z)
   .simp only[Kl,List.not_mem_nil,Te] at z;rcases z with rfl|rfl
    .exact BO _ (pK _ (by lia) (by lia))
    .exact Fv _ (yk _ _ (by lia) (by rw[dl];lia))
  .exact xQ (dP z)
 .unfold Hz;refine JX ?_;rw[Qp,Tf];by_cases h0:at_=0
  .rw[h0];exact pK _ (by lia) (by lia)
  .have PK:(O2 c).cps.toList=jc c (zW c).toNat:=by simp [O2,pz]
   have RZ:(O2 c).length=(zW c).toNat:=by unfold O2;rw[gi,gc]
   obtain⟨m,hm⟩:∃m,(zW c).toNat=m+1:=⟨(zW c).toNat -1,by lia⟩
   obtain⟨t,ht⟩:∃t,at_.toNat=t+1:=⟨at_.toNat -1,by lia⟩
   rw[PK,hm,ht];unfold jc;rw[MV,Kx,List.take_succ_cons,Mg,Mg,List.headD_cons];have q2:(c/(((0:Nat):Int)+3) % ax 0)=(((c/(((0:Nat):Int)+3) % ax 0).toNat:Nat):Int):=by
    have:ax 0=26:=rfl;rw[this];lia
   rw[q2];exact BJ _ (by have:ax 0=26:=rfl;rw[this];lia)
def iL (K:Qe):Sp:=λvs H Q _=>∃(a b:Addr) (c:Int) (ns:List Int) (ks:List Str),vs=[.ref a,.int c,.ref b]/\SqL K H a (ns.map V.int)/\ns.length<=63/\SqL K H b (ks.map V.str)/\0<ks.length/\ks.length<=3/\(∀s∈ks,K8 s=true)/\∀(a p q:Addr) (kvs:List (j0×V)) (W:B0) (H':Hp),Same H H'->WebIs 24 K H' a p q kvs W->rD W->W.pts.length+W.ts.length<=12->(∀x∈b7 W,∃j,j<13/\x=dZ c j)->Q (.ref a) H'
abbrev kr (P:Program)(w:World)(K:Qe)(mg:Str->Option Value)(base:Heap):Prop:=V9 P w K mg base E7 2 "_law_web" ["_law_script","_law_number","_law_kinds"] [] (iL K)
theorem rJ {f:Addr}{fd:FuncData}(T:Txt K mg)(N7:bI P w K mg base)(J5:aj P w K mg base)(P6:dB P w K mg base)(F:Fun K "_law_web" "_law_web" fG f fd):C0 P w K mg base E7 2 f fd ["_law_script","_law_number","_law_kinds"] (iL K):=by
 walk_at "#sc__law_web"
 .obtain⟨a,b,c,ns,ks,rfl,_⟩:=h;rfl
 .obtain⟨a,b,c,ns,ks,rfl,hA,hl,hC,hk0,hk3,RW,k⟩:=h;walk_at "@sc__law_web 43M44M7vw,3f2mG0122g59466'0N7 p6'0J5 803f2055547tWVU53d'3bQ AToK7EhuKm0622hdCc2mG062q52036'0P6 k1548jic7mG062q57c7mG062q57dCfj3c2mG062q5208046'0P6 k15ajk34"
  symm;intro p np;obtain⟨H1,e1,f1,m1,o1⟩:=b9 (o:= .dK []) np;rw[e1];symm;intro q nq;obtain⟨H2,e2,f2,m2,o2⟩:=b9 (o:= .dK []) nq;rw[e2];have WZ:p≠q:=λz=>by rw[←z,f1] at nq;cases nq
  have nq0:H q=none:=m1.free nq;symm;refine Y3 (by lia) (by lia) ?_;refine K6 (n:=(3+c/7 % 10).toNat) (λi σ H'=>∃(pts:List (Str×Str)) (kvs:List (j0×V)) (ts:List (Str×M8)) (v1 v2 v3 v4:Option V),σ=[some (.ref a),some (.int c),some (.ref b),some (.ref p),some (.ref q),v1,v2,v3,v4]/\Same H H'/\H' p=some (.dK (g5 pts))/\H' q=some (.dK kvs)/\TiesIs K H' kvs ts/\(pts.map (·.1)++ts.map (·.1)).Nodup/\(∀x∈pts.map (·.1)++ts.map (·.1),x∈(List.range i).map (dZ c))/\pts.length+ts.length=i/\(∀x∈ts,x.2.2.1∈pts.map (·.1)/\x.2.2.2∈pts.map (·.1))/\(∀x∈pts,K8 x.2=true)/\∀x∈ts,K8 x.2.1=true)
   ⟨[],[],[],_,_,_,_,rfl,m1.trans m2,m2 _ _ f1,f2,.nil,Lc,(λ_ h=>nomatch h),rfl,(λ_ h=>nomatch h),(λ_ h=>nomatch h),λ_ h=>nomatch h⟩ (λi σ H' hi _=>by exact hi) ?_ ?_
  .rintro i v σ H3' H3 hi ⟨pts,kvs,ts,v1,v2,v3,v4,rfl,s3,g3,t3,w3,d1,d2,l1,l2,k1,k2⟩ ⟨rfl,rfl⟩ _ _;replace hi:i<=12:=by lia
   have e7:(List.range (i+1)).map (dZ c)=(List.range i).map (dZ c)++[dZ c i]:=by rw[LL,JF];rfl
   have YS:dZ c i∉(List.range i).map (dZ c):=λm=>by
    obtain⟨j,hj,e⟩:=Jz.mp m;have hj':=LH.mp hj;have:=pN (by lia) (by lia) e;lia
   have fresh:dZ c i∉pts.map (·.1)++ts.map (·.1):=λm=>YS (d2 _ m);have TU:∀x∈pts.map (·.1)++ts.map (·.1),x∈(List.range (i+1)).map (dZ c):=λx hx=>by rw[e7];exact JB _ (d2 x hx)
   have here:dZ c i∈(List.range (i+1)).map (dZ c):=by rw[e7];simp
   symm;refine⟨a,ns,_,rfl,s3.seq hA,hl,by lia,λm=>?_⟩;symm;refine⟨_,_,rfl,by lia,by lia,λx t_=>?_⟩;symm;refine B9 (ss:=pts.map (·.1)) (.inl g3) (by rw[J6,B6]) (by rw[Jx];lia) (λs1 a1 a2 l5 n5=>?_);obtain⟨H5,e5,f5,m5,_⟩:=b9 (o:= .lst _) n5;rw[e5];have RB:=a1.length_eq;rw[Jx] at RB;symm;refine⟨d8 (by simp),λl6 n6=>?_⟩;obtain⟨H6,e6,f6,m6,_⟩:=b9 (o:= .lst _) n6;rw[e6];have h6:=m6 _ _ f5;have s6:=s3.trans (m5.trans m6);have g6:=m6 _ _ (m5 _ _ g3);have t6:=m6 _ _ (m5 _ _ t3);have w6:=w3.mono (m5.trans m6).le;refine lQ (rB (SqL.of h6) (SqL.of f6) (U6 _) rfl ?_);symm;refine aq (λhz=>?_) (λhz=>?_)
   .symm;refine E4 (r9 (s6.seq hC) ?_);rw[Jx];symm;obtain⟨kd,OU,RC⟩:=N4 (ss:=ks) (i:=x/3 % (ks.length:Int)) (KG _ (by lia)) (Kv _ (by lia));refine j4 (s6.seq hC) OU ?_;symm;refine⟨c,i,by rw[OB];rfl,by lia,λH7 m7=>?_⟩;have s7:=s6.trans m7;have g7:=m7 _ _ g6;have t7:=m7 _ _ t6;have w7:=w6.mono m7.le;refine O9 (z6 (k:=Sum.inr (dZ c i)) g7 (d8 (by unfold g5;rw[Jx];lia)) ?_);have ep:E3 (g5 pts) (Sum.inr (dZ c i):j0) (.str kd)=g5 (pts++[(dZ c i,kd)]):=by
     rw[Q4 _ (N8 (by rw[J6,←B6];exact λm=>fresh (JB _ (Y1 m))))];unfold g5;rw[JF];rfl
    walk_at "X";refine⟨pts++[(dZ c i,kd)],kvs,ts,_,_,_,_,rfl,D5 s7 np,by rw[d0,ep],by rw[d6 (Lw WZ)];exact t7,Paired.imp' (λ_ _ z=>fV g7 z) w7,ye d1 fresh,uW TU here,?_,?_,?_,λy hy=>k2 y hy⟩
    .rw[JG,JO];lia
    .intro x hx;rw[JF];walk_at "X";exact⟨JB _ (l2 x hx).1,JB _ (l2 x hx).2⟩
    .intro y hy;rcases JD.mp hy with h'|h'
     .exact k1 y h'
     .rw[JN.mp h'];exact RW _ RC
   .symm;refine K4 (λh3=>?_) (λh3=>?_)
    .symm;refine E4 (r9 (s6.seq hC) ?_);rw[Jx];symm;obtain⟨kd,OU,RC⟩:=N4 (ss:=ks) (i:=x/3 % (ks.length:Int)) (KG _ (by lia)) (Kv _ (by lia));refine j4 (s6.seq hC) OU ?_;symm;refine⟨c,i,by rw[OB];rfl,by lia,λH7 m7=>?_⟩;have s7:=s6.trans m7;have g7:=m7 _ _ g6;have t7:=m7 _ _ t6;have w7:=w6.mono m7.le;refine O9 (z6 (k:=Sum.inr (dZ c i)) g7 (d8 (by unfold g5;rw[Jx];lia)) ?_);have ep:E3 (g5 pts) (Sum.inr (dZ c i):j0) (.str kd)=g5 (pts++[(dZ c i,kd)]):=by
      rw[Q4 _ (N8 (by rw[J6,←B6];exact λm=>fresh (JB _ (Y1 m))))];unfold g5;rw[JF];rfl
     walk_at "X";refine⟨pts++[(dZ c i,kd)],kvs,ts,_,_,_,_,rfl,D5 s7 np,by rw[d0,ep],by rw[d6 (Lw WZ)];exact t7,Paired.imp' (λ_ _ z=>fV g7 z) w7,ye d1 fresh,uW TU here,?_,?_,?_,λy hy=>k2 y hy⟩
     .rw[JG,JO];lia
     .intro x hx;rw[JF];walk_at "X";exact⟨JB _ (l2 x hx).1,JB _ (l2 x hx).2⟩
     .intro y hy;rcases JD.mp hy with h'|h'
      .exact k1 y h'
      .rw[JN.mp h'];exact RW _ RC
    .have Su:0<pts.length:=by
      cases pts with
      |nil=>exact absurd hz (by rw[List.Perm.eq_nil a1];decide)
      |cons _ _=>simp
     symm;refine E4 (r9 (SqL.of h6) ?_);rw[Jx,RB];symm;obtain⟨o1,Qz,W_⟩:=N4 (ss:=s1) (i:=x/9 % (pts.length:Int)) (KG _ (by lia)) (by rw[RB];exact Kv _ (by lia));refine j4 (SqL.of h6) Qz ?_;symm;refine E4 (r9 (SqL.of h6) ?_);rw[Jx,RB];symm;obtain⟨o2,Qi,YT⟩:=N4 (ss:=s1) (i:=x/101 % (pts.length:Int)) (KG _ (by lia)) (by rw[RB];exact Kv _ (by lia));refine j4 (SqL.of h6) Qi ?_;symm;refine⟨d8 (by simp),λl8 n8=>?_⟩;obtain⟨H8,e8,f8,m8,_⟩:=b9 (o:= .tup _) n8;rw[e8];have s8:=s6.trans m8;symm;refine E4 (r9 (s8.seq hC) ?_);rw[Jx];symm;obtain⟨kd,OU,RC⟩:=N4 (ss:=ks) (i:=x/3 % (ks.length:Int)) (KG _ (by lia)) (Kv _ (by lia));refine j4 (s8.seq hC) OU ?_;symm;refine⟨d8 (by simp),λl9 n9=>?_⟩;obtain⟨H9,e9,f9,m9,_⟩:=b9 (o:= .tup _) n9;rw[e9];symm;refine .inr (.inr (.inr ⟨l9,l8,_,_,rfl,rfl,SqT.of f9,SqT.of (m9 _ _ f8),by simp,d8 (by simp),(λz=>by cases z),λ_ Sw n10=>?_⟩));obtain⟨PC,Rx,Ry,PD,_⟩:=b9 (o:= .tup (Z5 (kd,o1,o2))) n10;rw[show([V.str kd]++[V.str o1,V.str o2]:List V)=Z5 (kd,o1,o2) from rfl,Rx];symm;refine⟨c,i,by rw[OB];rfl,by lia,λSz RD=>?_⟩;have M:=m8.trans (m9.trans (PD.trans RD));have RE:=s6.trans M;have g11:=M _ _ g6;have YU:=M _ _ t6;have YV:=w6.mono M.le;refine O9 (z6 (k:=Sum.inr (dZ c i)) YU (d8 (by have z:=YV.length;lia)) ?_);have ek:E3 kvs (Sum.inr (dZ c i):j0) (.ref Sw)=kvs++[(Sum.inr (dZ c i),.ref Sw)]:=Q4 _ (N8 (by rw[YV.keys,←B6];exact λm=>fresh (JE _ (Y1 m))));walk_at "X";refine⟨pts,_,ts++[(dZ c i,(kd,o1,o2))],_,_,_,_,rfl,D5 RE nq0,by rw[d6 WZ];exact g11,d0,?_,Dl d1 fresh,As TU here,?_,?_,k1,?_⟩
     .rw[ek];exact A7 (Paired.imp' (λ_ _ z=>fV YU z) YV) (fV YU ⟨rfl,Sw,rfl,SqT.of (RD _ _ Ry)⟩)
     .rw[JG,JO];lia
     .intro x hx;rcases JD.mp hx with h'|h'
      .exact l2 x h'
      .rw[JN.mp h'];exact⟨a1.mem_iff.mp W_,a1.mem_iff.mp YT⟩
     .intro y hy;rcases JD.mp hy with h'|h'
      .exact k2 y h'
      .rw[JN.mp h'];exact RW _ RC
  .rintro σ H3 ⟨pts,kvs,ts,v1,v2,v3,v4,rfl,s3,g3,t3,w3,d1,d2,l1,l2,k1,k2⟩;refine⟨JA _,?_⟩;symm;refine⟨d8 (by simp),λl9 n9=>?_⟩;obtain⟨H9,e9,f9,m9,_⟩:=b9 (H:=H3) (o:= .tup [.ref p,.ref q]) n9;change Q _ (p5 H3 l9 _);rw[e9];have hgn:∀x∈pts.map (·.1)++ts.map (·.1),V4 x=true:=λx hx=>by
    obtain⟨j,_,rfl⟩:=Jz.mp (d2 x hx);exact qK c j
   have UC:∀x∈pts.map (·.1)++ts.map (·.1),x.length<=100:=λx hx=>by
    have z:=hgn x hx;unfold V4 at z;have:=dO (Kj _ _▸z).1;lia
   exact k l9 p q kvs ⟨pts,ts⟩ H9 (s3.trans m9) ⟨⟨SqT.of f9,.inl (m9 _ _ g3),.inl (m9 _ _ t3),w3.mono m9.le⟩,m9 _ _ g3,m9 _ _ t3,WZ,d1,by show(pts.map (·.1)++ts.map (·.1)).length<=24;rw[JG,Jx,Jx];lia,l2,UC⟩ ⟨hgn,k1,k2⟩ (by show pts.length+ts.length<=12;lia) (λx hx=>by
    obtain⟨j,hj,rfl⟩:=Jz.mp (d2 x hx);have:=LH.mp hj;exact⟨j,by lia,rfl⟩)
def iJ (K:Qe):Sp:=λvs H Q _=>∃(a:Addr) (ns:List Int),vs=[.ref a]/\SqL K H a (ns.map V.int)/\ns.length<=63/\∀(t lk b p q:Addr) (kvs:List (j0×V)) (W:B0) (c:Int) (ks:List Str) (H':Hp),Same H H'->H' t=some (.tup [.int c,.ref lk,.ref b])->H' lk=some (.lst (ks.map V.str))->0<ks.length->ks.length<=3->(∀s∈ks,K8 s=true)->0<=c->WebIs 24 K H' b p q kvs W->rD W->W.pts.length+W.ts.length<=12->(∀x∈b7 W,∃j,j<13/\x=dZ c j)->Q (.ref t) H'
abbrev lA (P:Program)(w:World)(K:Qe)(mg:Str->Option Value)(base:Heap):Prop:=V9 P w K mg base E7 3 "_law_set" ["_law_script"] [] (iJ K)
theorem qk {f:Addr}{fd:FuncData}(T:Txt K mg)(N7:bI P w K mg base)(J5:aj P w K mg base)(Q1:bV P w K mg base)(fJ:kr P w K mg base)(F:Fun K "_law_set" "_law_set" fE f fd):C0 P w K mg base E7 3 f fd ["_law_script"] (iJ K):=by
 walk_at "#sc__law_set"
 .obtain⟨a,ns,rfl,_⟩:=h;rfl
 .obtain⟨a,ns,rfl,hA,hl,k⟩:=h;walk_at "@sc__law_set 416'0N7 i6'0J5 80322426'0N7 i6'0J5 80322436'0Q1 iG022f2m022aj818336'0fJ 80k13"
  symm;refine⟨a,ns,0,rfl,hA,hl,by lia,λc0=>?_⟩;symm;refine⟨c0,20,rfl,by lia,by lia,λm0 hm0=>?_⟩;symm;refine⟨a,ns,1,rfl,hA,hl,by lia,λc1=>?_⟩;symm;refine⟨c1,21,rfl,by lia,by lia,λm1 W_=>?_⟩;symm;refine⟨_,_,rfl,by lia,by lia,λlk H1 ks n1 s1 f1 ⟨h1,h2,h3⟩=>?_⟩;symm;refine⟨a,lk,m0,ns,ks,rfl,s1.seq hA,hl,SqL.of f1,by lia,by lia,h3,λb p q kvs W H2 s2 hW hG hz RF=>?_⟩;symm;refine⟨d8 (by simp),λt nt=>?_⟩;obtain⟨H3,e3,f3,s3,_⟩:=b9 (o:= .tup _) nt;rw[e3];exact k t lk b p q kvs W m0 ks H3 (s1.trans (s2.trans s3)) f3 (s3 _ _ (s2 _ _ f1)) (by lia) (by lia) h3 hm0 (hW.same s3) hG hz RF--SPLIT
structure FR (W:B0) (ps ts:List Str):Prop where
 n1:ps.Nodup
 n2:ts.Nodup
 l1:ps.length<=4
 l2:ts.length<=4
 p:∀n∈ps,n∈W.pts.map (·.1)
 t:∀n∈ts,∃x,(n,x)∈W.ts/\x.2.1∈ps/\x.2.2∈ps
def cY (K:Qe):Sp:=λvs H Q _=>∃(S:Sd) (lx:Addr) (xs:List Int),vs=[.ref S.a,.ref lx]/\SdIs K H S/\SqL K H lx (xs.map V.int)/\xs.length=16/\(∀x∈xs,0<=x)/\∀(t lp lt:Addr) (ps ts:List Str) (H':Hp),Same H H'->H' t=some (.tup [.ref lp,.ref lt])->H' lp=some (.lst (ps.map V.str))->H' lt=some (.lst (ts.map V.str))->FR S.W ps ts->Q (.ref t) H'
theorem Z8 {xs:List Int}(hl:xs.length=16)(h0:∀x∈xs,0<=x)(i:Nat)(hi:i<16):∃x,oj (xs.map V.int) (i:Int)=some (.int x)/\0<=x:=
 ⟨xs[i]'(by lia),F0 (j:=i) (by rw[JC,Jy (by lia)];rfl),h0 _ (Kn _)⟩
abbrev eN (P:Program)(w:World)(K:Qe)(mg:Str->Option Value)(base:Heap):Prop:=V9 P w K mg base E7 1 "_law_picked" ["_law_web_here","_law_xs"] [] (cY K)
theorem kn {f:Addr}{fd:FuncData}(T:Txt K mg)(F:Fun K "_law_picked" "_law_picked" aP f fd):C0 P w K mg base E7 1 f fd ["_law_web_here","_law_xs"] (cY K):=by
 walk_at "#sc__law_picked"
 .obtain⟨S,lx,xs,rfl,_⟩:=h;rfl
 .obtain⟨S,lx,xs,rfl,hS,hX,s_,t_,k⟩:=h;have Sy:=hS.len;rw[A5] at Sy;walk_at "@sc__law_picked 42tWVU31043E7vw,3R;m112-'0hU ~p~o3HX02Ehg49dsuDc2mc1f204q5203ndQN(:/.033c2mc1f204q5245E7vw~23tWVU310yb69b79z48e1007dsA'2bA uI1803n'2bA uI1803nZu~3q552hu'0yY mG11f06222hdQN(:/.0557ajk35"
  refine P5 ?_;rfl';refine j3 hS.at_.tup ?_;rfl';refine B9 (ss:=S.W.pts.map (·.1)) hS.at_.pts (by rw[J6,B6]) (by rw[Jx];lia) (λs1 a1 a2 l1 n1=>?_);obtain⟨H1,e1,f1,m1,_⟩:=b9 (o:= .lst _) n1;rw[e1];have g1:=a1.length_eq;rw[Jx] at g1;rfl';refine P5 ?_;rfl';refine⟨d8 (by simp),λlp np=>?_⟩;obtain⟨H2,e2,f2,m2,_⟩:=b9 (o:= .lst []) np;rw[e2];rfl';refine P5 ?_;rfl';obtain⟨x0,hx,k_⟩:=Z8 s_ t_ 0 (by lia);refine j4 ((m1.trans m2).seq hX) hx ?_;rfl';refine⟨d8 (by simp),λl3 n3=>?_⟩;obtain⟨H3,e3,f3,m3,_⟩:=b9 (o:= .lst []) n3;rw[e3];refine xS (kX (SqL.of (m3 _ _ (m2 _ _ f1))) (SqL.of f3) (U6 _) rfl ?_);refine .inr ⟨_,rfl,?_⟩;have VF:U5 (s1.map V.str) []=decide (s1=[]):=by cases s1<;>rfl
  rw[VF];generalize hn:(if(!decide (s1=[]))=true then(1:Int) else 0)=n;have QQ:(n=0\/n=1)/\(n=1->0<s1.length):=by
   subst hn;cases s1 with
   |nil=>simp
   |cons _ _=>simp
  have Yb:lp≠l1:=b5 f1 np|>.symm;rfl';have hmul:0<=x0 % 5*n/\x0 % 5*n<=4/\(0<x0 % 5*n->n=1):=by
   rcases QQ.1 with rfl|rfl<;>lia
  generalize x0 % 5*n=cnt at hmul⊢;refine Y3 (by lia) (by lia) ?_;have M3:=m1.trans (m2.trans m3);refine K6 (n:=cnt.toNat) (λi σ H'=>Same H H'/\H' l1=some (.lst (s1.map V.str))/\(∃v4,σ=[some (.ref S.a),some (.ref lx),some (.ref l1),some (.ref lp),v4,none,none,none,none])/\∃ps:List Str,H' lp=some (.lst (ps.map V.str))/\ps.Nodup/\ps.length<=i/\∀n∈ps,n∈s1)
   ⟨M3,m3 _ _ (m2 _ _ f1),⟨_,rfl⟩,[],m3 _ _ f2,Lc,JA _,λ_ h=>nomatch h⟩ (λi σ H' hi _=>by exact hi) ?_ ?_
  .rintro i v σ H4' H4 hi ⟨s4,h4,⟨v4,rfl⟩,ps,g4,nd4,hl4,in4⟩ ⟨rfl,rfl⟩ _ _;have Su:0<s1.length:=QQ.2 (hmul.2.2 (by lia));obtain⟨xj,YW,hxj'⟩:=Z8 s_ t_ (1+i) (by lia);have SR:((1+i:Nat):Int)=1+(0+(i:Int)):=by lia
   rw[SR] at YW;obtain⟨nm,RF,YX⟩:=N4 (ss:=s1) (i:=xj % (s1.length:Int)) (KG _ (by lia)) (Kv _ (by lia));rfl';refine j4 (s4.seq hX) YW ?_;rfl';refine E4 (r9 (SqL.of h4) ?_);rw[Jx];rfl';refine j4 (SqL.of h4) RF ?_;rfl';refine E2 (SqL.of g4) ?_;rfl';refine N2 (λhb=>?_) (λhb=>?_)
   .rfl';refine⟨.inl ⟨rfl,_,SqL.of g4⟩,?_⟩;rfl';refine j4 (s4.seq hX) YW ?_;rfl';refine E4 (r9 (SqL.of h4) ?_);rw[Jx];rfl';refine j4 (SqL.of h4) RF ?_;rfl';refine⟨lp,_,_,rfl,rfl,g4,U0 (by rw[Jx];lia),?_⟩;walk_at "X";refine⟨D5 s4 (m1.free np),by rw[d6 Yb.symm];exact h4,⟨_,rfl⟩,ps++[nm],?_,F4 nd4 hb,by rw[JG,JO];lia,λn hn=>?_⟩
    .rw[d0,JF];rfl
    .rcases JD.mp hn with z|z
     .exact in4 n z
     .rw[JN.mp z];exact YX
   .rfl';walk_at "X";exact⟨s4,h4,⟨_,rfl⟩,ps,g4,nd4,by lia,in4⟩
  .rintro σ H4 ⟨s4,h4,⟨v4,rfl⟩,ps,g4,nd4,hl4,in4⟩;refine⟨JA _,?_⟩;have S4:=hS.same s4;refine P5 ?_;rfl';refine⟨d8 (by simp),λlt nt=>?_⟩;obtain⟨H5,e5,f5,m5,_⟩:=b9 (H:=H4) (o:= .lst []) nt;change O8 _ _ _ (p5 H4 lt _) _;rw[e5];rfl';refine P5 ?_;rfl';have S5:=S4.same m5;refine i9 S5.at_.tup ?_;rfl';refine B9 (ss:=S.W.ts.map (·.1)) S5.at_.ties (by rw[S5.at_.ts.keys,B6]) (by rw[Jx];lia) (λs2 b1 b2 l6 n6=>?_);obtain⟨H6,e6,f6,m6,_⟩:=b9 (o:= .lst _) n6;rw[e6];have g2:=b1.length_eq;rw[Jx] at g2;have Rz:s2.Nodup:=b1.nodup_iff.mpr (K2 hS.nd);have YY:lt≠l6:=b5 f5 n6;have hlpt:lp≠lt:=b5 g4 nt;rfl';refine⟨_,rfl,.inl ⟨l6,_,rfl,SqL.of f6,?_⟩⟩;have M6:=m5.trans m6;refine K6 (n:=s2.length) (λi σ H'=>Same H4 H'/\H' l6=some (.lst (s2.map V.str))/\(∃v4 v6 v7 v8,σ=[some (.ref S.a),some (.ref lx),some (.ref l1),some (.ref lp),v4,some (.ref lt),v6,v7,v8])/\∃ts:List Str,H' lt=some (.lst (ts.map V.str))/\ts.Nodup/\ts.length<=4/\(∀n∈ts,n∈s2.take i)/\∀n∈ts,∃x,(n,x)∈S.W.ts/\x.2.1∈ps/\x.2.2∈ps)
    ⟨M6,f6,⟨_,_,_,_,rfl⟩,[],m6 _ _ f5,Lc,KU _,(λ_ h=>nomatch h),λ_ h=>nomatch h⟩ (λi σ H' hi hp=>⟨_,.str (s2[i]),SqL.of hp.2.1,by rw[JC,Jy hi];rfl⟩) ?_ ?_
   .rintro i v σ H7 H8 hi ⟨s7,h7,⟨v4,v6,v7,v8,rfl⟩,ts,g7,nd7,hl7,in7,ok7⟩ ⟨t,x,hx,nt',rfl,rfl⟩ _ _;have k_:=hx _ (SqL.of h7);rw[JC,Jy hi] at k_;cases k_;obtain⟨H9,e9,f9,m9,_⟩:=b9 (o:= .tup _) nt';rw[e9];have e7:s2.take (i+1)=s2.take i++[s2[i]]:=by rw[Kb,Jy hi];rfl
    have YS:s2[i]∉ts:=λm=>by
     have z:(s2.take (i+1)).Nodup:=Rz.sublist (KO _ _);rw[e7] at z;exact(JQ.mp z).2.2 _ (in7 _ m) _ (by simp) rfl
    have j_:s2[i]∈S.W.ts.map (·.1):=b1.mem_iff.mp (Kn hi);have s9:=s7.trans m9;have S9:=S4.same s9;have p9:=s9 _ _ g4;have g9:=m9 _ _ g7;have h9:=m9 _ _ h7;obtain⟨aa,⟨y1,y2,y3⟩,q1,q2,q3⟩:=TiesIs.val (ts:=S.W.ts) S9.at_.ts j_;refine F5 (SqT.of f9) rfl ?_;symm;refine i9 S9.at_.tup ?_;symm;refine k8 (v:= .ref aa) (by have z:=E1 (k:=Sum.inr s2[i]) S9.at_.ties;rw[q1] at z;exact z) ?_;have stay:Same H4 H9/\H9 l6=some (.lst (s2.map V.str))/\(∃v4' v6 v7 v8,[some (V.ref S.a),some (.ref lx),some (.ref l1),some (.ref lp),v4,some (.ref lt),some (.int (i:Int)),some (.str s2[i]),some (.ref aa)]=[some (.ref S.a),some (.ref lx),some (.ref l1),some (.ref lp),v4',some (.ref lt),v6,v7,v8])/\∃ts:List Str,H9 lt=some (.lst (ts.map V.str))/\ts.Nodup/\ts.length<=4/\(∀n∈ts,n∈s2.take (i+1))/\∀n∈ts,∃x,(n,x)∈S.W.ts/\x.2.1∈ps/\x.2.2∈ps:=
     ⟨s9,h9,⟨_,_,_,_,rfl⟩,ts,g9,nd7,hl7,λn hn=>by rw[e7];exact JB _ (in7 n hn),ok7⟩
    symm;refine i9 q3 ?_;symm;refine dN (SqL.of p9) ?_;symm;refine K4 (λc1=>?_) (λc1=>?_)
    .symm;refine V5 q3 ?_;symm;refine dN (SqL.of p9) ?_;symm;refine K4 (λc2=>?_) (λc2=>?_)
     .symm;refine E4 (r9 (SqL.of g9) ?_);rw[Jx];symm;refine K4 (λc3=>?_) (λc3=>?_)
      .obtain⟨x5,hx5,hx5'⟩:=Z8 s_ t_ 5 (by lia);symm;refine j4 ((s4.trans s9).seq hX) hx5 ?_;symm;refine K4 (λc4=>?_) (λc4=>?_)
       .symm;refine⟨.inl ⟨rfl,_,SqL.of g9⟩,?_⟩;symm;refine⟨lt,_,_,rfl,rfl,g9,U0 (by rw[Jx];lia),?_⟩;walk_at "X";refine⟨D5 s9 nt,by rw[d6 YY.symm];exact h9,⟨_,_,_,_,rfl⟩,ts++[s2[i]],?_,F4 nd7 YS,by rw[JG,JO];lia,λn hn=>?_,λn hn=>?_⟩
        .rw[d0,JF];rfl
        .rw[e7];rcases JD.mp hn with z|z
         .exact JB _ (in7 n z)
         .exact JE _ z
        .rcases JD.mp hn with z|z
         .exact ok7 n z
         .rw[JN.mp z];exact⟨_,q2,c1,c2⟩
       .symm;exact stay
      .symm;exact stay
     .symm;exact stay
    .symm;exact stay
   .rintro σ H7 ⟨s7,h7,⟨v4,v6,v7,v8,rfl⟩,ts,g7,nd7,hl7,in7,ok7⟩;refine⟨⟨_,SqL.of h7,by rw[Jx];exact JA _⟩,?_⟩;symm;refine⟨d8 (by simp),λt nt'=>?_⟩;obtain⟨H9,e9,f9,m9,_⟩:=b9 (H:=H7) (o:= .tup [.ref lp,.ref lt]) nt';change Q _ (p5 H7 t _);rw[e9];exact k t lp lt ps ts H9 (s4.trans (s7.trans m9)) f9 (m9 _ _ (s7 _ _ g4)) (m9 _ _ g7) ⟨nd4,nd7,by lia,hl7,λn hn=>a1.mem_iff.mp (in4 n hn),ok7⟩
structure Fo (W:B0) (ps ts os:List Str):Prop where
 sub:∀n∈os,n∈ps++ts
 len:os.length<=8
 ok:∀n∈ts,n∉os->∀x,(n,x)∈W.ts->x.2.1∉os/\x.2.2∉os
 lo:∀n x,(n,x)∈W.ts->(x.2.1∈os\/x.2.2∈os)->n∈os
def iU (K:Qe):Sp:=λvs H Q _=>∃(S:Sd) (lp lt lx:Addr) (ps ts:List Str) (xs:List Int),vs=[.ref S.a,.ref lp,.ref lt,.ref lx]/\SdIs K H S/\SqL K H lp (ps.map V.str)/\SqL K H lt (ts.map V.str)/\FR S.W ps ts/\SqL K H lx (xs.map V.int)/\xs.length=16/\(∀x∈xs,0<=x)/\∀(l:Addr) (os:List Str) (H':Hp),H l=none->Same H H'->H' l=some (.lst (os.map V.str))->Fo S.W ps ts os->Q (.ref l) H'
abbrev lq (P:Program)(w:World)(K:Qe)(mg:Str->Option Value)(base:Heap):Prop:=V9 P w K mg base E7 1 "_law_out" ["_law_web_here","_law_points","_law_ties","_law_xs"] [] (iU K)
theorem rl {f:Addr}{fd:FuncData}(T:Txt K mg)(F:Fun K "_law_out" "_law_out" fj f fd):C0 P w K mg base E7 1 f fd ["_law_web_here","_law_points","_law_ties","_law_xs"] (iU K):=by
 walk_at "#sc__law_out"
 .obtain⟨S,lp,lt,lx,ps,ts,xs,rfl,_⟩:=h;rfl
 .obtain⟨S,lp,lt,lx,ps,ts,xs,rfl,hS,hP,hT,pk,hX,s_,t_,k⟩:=h;have Sy:=hS.len;rw[A5] at Sy;have OL:=hS.at_.ts.length;have YZ:=pk.l1;have RY:=pk.l2;walk_at "@sc__law_out 44E7vw~251yb59b69z7^7_law_tie;620;r10Bg0l_law_tie,_law_name_here,_law_ties,_law_web_here;BPAZoI1&e1300Y2*noD002nB00dsAZuKR'0xZ R'0zp 130522hoK7EhdQN(:/.04567vw~252yb59b69zdsA'2cF uIee1006204nTuIee1006204nuKR'0xZ R'0zp 130522hdQN(:/.0456a04"
  refine P5 ?_;rfl';refine⟨d8 (by simp),λlo no=>?_⟩;obtain⟨H1,e1,f1,m1,_⟩:=b9 (o:= .lst []) no;rw[e1];rfl';refine P5 ?_;rfl';refine⟨_,rfl,.inl ⟨lp,_,rfl,m1.seq hP,?_⟩⟩;refine K6 (n:=ps.length) (λi σ H'=>Same H H'/\(∃v5 v6 v7,σ=[some (.ref S.a),some (.ref lp),some (.ref lt),some (.ref lx),some (.ref lo),v5,v6,v7])/\∃os:List Str,H' lo=some (.lst (os.map V.str))/\os.length<=i/\(∀n∈os,n∈ps)/\∀n∈os,∀y∈S.W.ts,(n=y.2.2.1\/n=y.2.2.2)->y.1∈ts)
   ⟨m1,⟨_,_,_,rfl⟩,[],f1,JA _,(λ_ h=>nomatch h),λ_ h=>nomatch h⟩ (λi σ H' hi hp=>⟨_,.str (ps[i]),hp.1.seq hP,by rw[JC,Jy hi];rfl⟩) ?_ ?_
  .rintro i v σ H2 H2' hi ⟨s2,⟨v5,v6,v7,rfl⟩,os,g2,Rj,in2,lo2⟩ ⟨t,x,hx,nt,rfl,rfl⟩ _ _;have k_:=hx _ (s2.seq hP);rw[JC,Jy hi] at k_;cases k_;obtain⟨H3,e3,f3,m3,_⟩:=b9 (o:= .tup _) nt;rw[e3];have s3:=s2.trans m3;have S3:=hS.same s3;refine F5 (SqT.of f3) rfl ?_;symm;refine i9 S3.at_.tup ?_;refine Q3 S3.hq (λRv o4=>?_);refine z8 (n:=S.kvs.length) (λj out H'=>Same (z7 S.q o4 S.kvs H3) H'/\∃ls:List Str,out=ls.map V.str/\ls.length<=j/\∀y∈S.W.ts.take j,(ps[i]=y.2.2.1\/ps[i]=y.2.2.2)->y.1∉ts->y.1∈ls) ⟨Same.refl _,[],rfl,JA _,λ_ h=>by simp at h⟩ (λj out H' hj hp=>⟨hp.1 _ _ d0,hj⟩) ?_ ?_
   .rintro N j v out H5' H5 hj ⟨s5,ls,rfl,hls,loo⟩ ⟨rfl,kv,f_,rfl⟩ hN';have R_:=(K5 (o:=o4) S3.hq).trans s5.le;have S5:=S3.at_.mono R_;obtain⟨x,hx,ex,bb,eb,sb⟩:=S5.ts.get f_;have D_:=JM f_;obtain⟨kk,QD⟩:=kv;have N':kk=Sum.inr x.1:=ex;have QF:QD= .ref bb:=eb;subst N' QF;obtain⟨x0,x1,x2,x3⟩:=x;have e9:S.W.ts.take (j+1)=S.W.ts.take j++[(x0,x1,x2,x3)]:=by rw[Kb,hx];rfl
    have no:∀{HZ:Hp},((ps[i]=x2\/ps[i]=x3)->x0∉ts->False)->Same H5 HZ->N (ls.map V.str) HZ:=λhf sz=>hN' _ _ ⟨s5.trans sz,ls,rfl,by lia,λy hy h1 h2=>by
     rw[e9] at hy;rcases JD.mp hy with z|z
     .exact loo y z h1 h2
     .have ez:=JN.mp z;subst ez;exact(hf h1 h2).elim⟩
    symm;refine⟨rfl,?_⟩;symm;refine i9 S5.tup ?_;symm;refine k8 (v:= .ref bb) (by have z:=E1 (k:=Sum.inr x0) S5.ties;rw[aG (kv:=(Sum.inr x0,.ref bb)) Rv D_] at z;exact z) ?_;symm;refine gI sb (by rintro⟨z,_⟩;exact absurd (show(1:Nat)=0 from z) (by decide)) (λl6 n6=>?_);obtain⟨H6,e6,f6,m6,_⟩:=b9 (o:= .tup [.str x2,.str x3]) n6;rw[show cO (Z5 (x1,x2,x3)) (some 1) none=[V.str x2,.str x3] from rfl,e6];refine qJ (.inr (SqT.of f6)) rfl rfl ?_;symm;refine aq (λb1=>?_) (λb1=>?_)
    .symm;refine E2 ((((Same.le s3).trans R_).trans m6.le).lst hT) ?_;symm;refine N2 (λb2=>?_) (λb2=>?_)
     .symm;refine⟨d8 (by rw[Jx];lia),hN' _ _ ⟨s5.trans m6,ls++[x0],by rw[JF];rfl,by rw[JG,JO];lia,λy hy h1 h2=>by
       rw[e9] at hy;rcases JD.mp hy with z|z
       .exact JB _ (loo y z h1 h2)
       .have ez:=JN.mp z;subst ez;exact JE _ JT⟩⟩
     .exact no (λ_ h=>h b2) m6
    .refine no (λh _=>?_) m6;have UI:(dH (.str x2) (.str ps[i])||(dH (.str x3) (.str ps[i])||false))=false:=b1;rcases h with h|h
     .rw[h] at UI;rw[gG rfl] at UI;cases UI
     .rw[h] at UI;rw[show dH (.str x3) (.str x3)=true from gG rfl] at UI;simp at UI
   .rintro out H5 ⟨s5,ls,rfl,hls,loo⟩;rw[OL,JK (JA _)] at loo;refine⟨⟨s5 _ _ d0,JA _⟩,λD hD=>⟨d8 (by rw[Jx];lia),?_⟩⟩;have sM:=O1 S3.hq s5 hD (u:= .lst (ls.map V.str));have fM:=Z3 s5 hD (u:= .lst (ls.map V.str));generalize thaw S.q (p5 H5 D (.lst (ls.map V.str)))=HM at sM fM⊢;have s6:=s3.trans sM;have g6:=sM _ _ (m3 _ _ g2);have stay:∀{HZ:Hp} {v:Option V},Same HM HZ->Same H HZ/\(∃v5 v6 v7,[some (V.ref S.a),some (.ref lp),some (.ref lt),some (.ref lx),some (.ref lo),some (.int (i:Int)),some (.str ps[i]),v]=[some (.ref S.a),some (.ref lp),some (.ref lt),some (.ref lx),some (.ref lo),v5,v6,v7])/\∃os:List Str,HZ lo=some (.lst (os.map V.str))/\os.length<=i+1/\(∀n∈os,n∈ps)/\∀n∈os,∀y∈S.W.ts,(n=y.2.2.1\/n=y.2.2.2)->y.1∈ts:=λsz=>⟨s6.trans sz,⟨_,_,_,rfl⟩,os,sz _ _ g6,by lia,in2,lo2⟩
    obtain⟨x6,hx6,hx6'⟩:=Z8 s_ t_ 6 (by lia);symm;refine j4 (s6.seq hX) hx6 ?_;symm;refine K4 (λc1=>?_) (λc1=>?_)
    .symm;refine⟨d8 (by simp),λl8 n8=>?_⟩;obtain⟨H8,e8,f8,m8,_⟩:=b9 (o:= .lst []) n8;rw[e8];refine lQ (rB (SqL.of (m8 _ _ fM)) (SqL.of f8) (U6 _) rfl ?_);symm;refine aq (λc2=>?_) (λc2=>?_)
     .have g8:=m8 _ _ g6;symm;refine⟨.inl ⟨rfl,_,SqL.of g8⟩,?_⟩;symm;refine⟨lo,_,_,rfl,rfl,g8,U0 (by rw[Jx];lia),?_⟩;walk_at "X";refine⟨D5 (s6.trans m8) no,⟨_,_,_,rfl⟩,os++[ps[i]],by rw[d0,JF];rfl,by rw[JG,JO];lia,λn hn=>?_,λn hn y hy he=>?_⟩
      .rcases JD.mp hn with z|z
       .exact in2 n z
       .rw[JN.mp z];exact Kn hi
      .rcases JD.mp hn with z|z
       .exact lo2 n z y hy he
       .rw[JN.mp z] at he;have Y':ls=[]:=by
         cases ls with
         |nil=>rfl
         |cons _ _=>exact absurd c2 (by simp [U5])
        refine KZ λg_=>?_;have:=loo y hy he g_;rw[Y'] at this;cases this
     .symm;exact stay m8
    .symm;exact stay (Same.refl _)
  .rintro σ H2 ⟨s2,⟨v5,v6,v7,rfl⟩,os,g2,Rj,in2,lo2⟩;refine⟨⟨_,s2.seq hP,by rw[Jx];exact JA _⟩,?_⟩;refine P5 ?_;rfl';refine⟨_,rfl,.inl ⟨lt,_,rfl,s2.seq hT,?_⟩⟩;refine K6 (n:=ts.length) (λi σ H'=>Same H H'/\(∃v5 v6 v7,σ=[some (.ref S.a),some (.ref lp),some (.ref lt),some (.ref lx),some (.ref lo),v5,v6,v7])/\∃os:List Str,H' lo=some (.lst (os.map V.str))/\os.length<=ps.length+i/\(∀n∈os,n∈ps++ts)/\(∀n∈ts.take i,n∉os->∀x,(n,x)∈S.W.ts->x.2.1∉os/\x.2.2∉os)/\∀n∈os,n∈S.W.pts.map (·.1)->∀y∈S.W.ts,(n=y.2.2.1\/n=y.2.2.2)->y.1∈ts)
    ⟨s2,⟨_,_,_,rfl⟩,os,g2,by lia,λn hn=>JB _ (in2 n hn),(λ_ h=>by simp at h),λn hn _=>lo2 n hn⟩ (λi σ H' hi hp=>⟨_,.str (ts[i]),hp.1.seq hT,by rw[JC,Jy hi];rfl⟩) ?_ ?_
   .rintro i v σ H3 H3' hi ⟨s3,⟨v5,v6,v7,rfl⟩,os,g3',hl3,in3,ok3,lo3⟩ ⟨t,x,hx,nt,rfl,rfl⟩ _ _;have k_:=hx _ (s3.seq hT);rw[JC,Jy hi] at k_;cases k_;obtain⟨H4,e4,f4,m4,_⟩:=b9 (o:= .tup _) nt;rw[e4];have s4:=s3.trans m4;have S4:=hS.same s4;have g3:=m4 _ _ g3';have RF:=pk.t _ (Kn hi);have j_:ts[i]∈S.W.ts.map (·.1):=by
     obtain⟨x,hx,_⟩:=RF;exact Jz.mpr ⟨_,hx,rfl⟩
    obtain⟨aa,⟨y1,y2,y3⟩,q1,q2,q3⟩:=TiesIs.val (ts:=S.W.ts) S4.at_.ts j_;have ix:∀{Q:VK},Q (.ref aa) H4->kQ K (.ref S.q) (.str ts[i]) H4 Q:=λz=>k8 (v:= .ref aa) (by have z:=E1 (k:=Sum.inr ts[i]) S4.at_.ties;rw[q1] at z;exact z) z;have e7:ts.take (i+1)=ts.take i++[ts[i]]:=by rw[Kb,Jy hi];rfl
    have TV:∀m∈S.W.pts.map (·.1),m≠ts[i]:=λm hm e=>(JQ.mp hS.nd).2.2 m hm ts[i] j_ e;have fin:Same H (p5 H4 lo (.lst (os.map V.str++[V.str ts[i]])))/\(∃v5 v6 v7',[some (V.ref S.a),some (.ref lp),some (.ref lt),some (.ref lx),some (.ref lo),some (.int (i:Int)),some (.str ts[i]),v7]=[some (.ref S.a),some (.ref lp),some (.ref lt),some (.ref lx),some (.ref lo),v5,v6,v7'])/\∃Sj:List Str,(p5 H4 lo (.lst (os.map V.str++[V.str ts[i]]))) lo=some (.lst (Sj.map V.str))/\Sj.length<=ps.length+(i+1)/\(∀n∈Sj,n∈ps++ts)/\(∀n∈ts.take (i+1),n∉Sj->∀x,(n,x)∈S.W.ts->x.2.1∉Sj/\x.2.2∉Sj)/\∀n∈Sj,n∈S.W.pts.map (·.1)->∀y∈S.W.ts,(n=y.2.2.1\/n=y.2.2.2)->y.1∈ts:=by
     refine⟨D5 s4 no,⟨_,_,_,rfl⟩,os++[ts[i]],by rw[d0,JF];rfl,by rw[JG,JO];lia,λn hn=>?_,λn hn g_ x hx=>?_,λn hn hp y hy he=>?_⟩
     .rcases JD.mp hn with z|z
      .exact in3 n z
      .rw[JN.mp z];exact JE _ (Kn hi)
     .rw[e7] at hn;rcases JD.mp hn with z|z
      .have h':=ok3 n z (λm=>g_ (JB _ m)) x hx;have he:=hS.ends (n,x) hx;walk_at "X";exact⟨λm=>(JD.mp m).elim h'.1 (λm=>TV _ he.1 (JN.mp m)),λm=>(JD.mp m).elim h'.2 (λm=>TV _ he.2 (JN.mp m))⟩
      .exact absurd (JE _ z) g_
     .rcases JD.mp hn with z|z
      .exact lo3 n z hp y hy he
      .exact absurd (JN.mp z) (TV n hp)
    refine F5 (SqT.of f4) rfl ?_;symm;refine i9 S4.at_.tup ?_;symm;refine ix ?_;refine i9 q3 ?_;symm;refine dN (SqL.of g3) ?_;symm;refine K4 (λc1=>?_) (λc1=>?_)
    .symm;refine⟨.inl ⟨rfl,_,SqL.of g3⟩,?_⟩;symm;refine⟨lo,_,_,rfl,rfl,g3,U0 (by rw[Jx];lia),?_⟩;walk_at "X";exact fin
    symm;refine i9 S4.at_.tup ?_;symm;refine ix ?_;refine V5 q3 ?_;symm;refine dN (SqL.of g3) ?_;symm;refine K4 (λc2=>?_) (λc2=>?_)
    .symm;refine⟨.inl ⟨rfl,_,SqL.of g3⟩,?_⟩;symm;refine⟨lo,_,_,rfl,rfl,g3,U0 (by rw[Jx];lia),?_⟩;walk_at "X";exact fin
    symm;obtain⟨x7,hx7,hx7'⟩:=Z8 s_ t_ 7 (by lia);refine j4 (s4.seq hX) hx7 ?_;symm;refine K4 (λc3=>?_) (λc3=>?_)
    .symm;refine⟨.inl ⟨rfl,_,SqL.of g3⟩,?_⟩;symm;refine⟨lo,_,_,rfl,rfl,g3,U0 (by rw[Jx];lia),?_⟩;walk_at "X";exact fin
    symm;refine⟨s4,⟨_,_,_,rfl⟩,os,g3,by lia,in3,λn hn g_ x hx=>?_,lo3⟩;rw[e7] at hn;rcases JD.mp hn with z|z
    .exact ok3 n z g_ x hx
    .have hnn:n=ts[i]:=JN.mp z;subst hnn;have:x=(y1,y2,y3):=A9 (K2 hS.nd) hx q2;subst this;walk_at "X";exact⟨c1,c2⟩
   .rintro σ H3 ⟨s3,⟨v5,v6,v7,rfl⟩,os,g3,hl3,in3,ok3,lo3⟩;refine⟨⟨_,s3.seq hT,by rw[Jx];exact JA _⟩,?_⟩;rw[JK (JA _)] at ok3;symm;exact k lo os H3 no s3 g3 ⟨in3,by lia,ok3,λn x hx he=>KZ λg_=>by
     have Rt:=hS.ends (n,x) hx;have hts:n∈ts:=by
      rcases he with he|he
      .exact lo3 _ he Rt.1 (n,x) hx (.inl rfl)
      .exact lo3 _ he Rt.2 (n,x) hx (.inr rfl)
     have z:=ok3 n hts g_ x hx;exact he.elim z.1 z.2⟩
def Wd (ws:List Str)(lo hi:Nat)(n:Str):Prop:=∃j,lo<=j/\j<hi/\ws[j]?=some n
theorem yu {ws:List Str}(nd:ws.Nodup){i j:Nat}{n:Str}(h1:ws[i]?=some n)(h2:ws[j]?=some n):i=j:=by
 obtain⟨hi,e1⟩:=Lg.mp h1;obtain⟨hj,e2⟩:=Lg.mp h2;have z:=MC.mp nd;rcases PN i j with h|h|h
 .exact absurd (e1.trans e2.symm) (z i j hi hj h)
 .exact h
 .exact absurd (e2.trans e1.symm) (z j i hj hi h)
theorem Wd.no {ws:List Str}{a b c d:Nat}{n:Str}(nd:ws.Nodup)(h1:Wd ws a b n)(h2:Wd ws c d n)(h:b<=c\/d<=a):False:=by grind [Wd,yu]
theorem Wd.up {ws:List Str}{a b c d:Nat}{n:Str}(h:Wd ws a b n)(h1:c<=a)(h2:b<=d):Wd ws c d n:=by
 obtain⟨i,i1,i2,i3⟩:=h;exact⟨i,by lia,by lia,i3⟩
theorem Wd.in_ {ws:List Str}{a b:Nat}{n:Str}(h:Wd ws a b n):n∈ws:=by
 obtain⟨i,_,_,h⟩:=h;exact JM h
structure LR (ws:List Str) (i1 i2 i3 i4:Nat) (PL:List (Str×Str)) (TL:List (Str×M8)) (PR:List (Str×Str)) (TR:List (Str×M8)):Prop where
 pl:∀x∈PL,Wd ws 0 i1 x.1/\K8 x.2=true
 tl:∀x∈TL,Wd ws 4 (4+i2) x.1/\K8 x.2.1=true/\x.2.2.1∈PL.map (·.1)/\x.2.2.2∈PL.map (·.1)
 ndl:(PL.map (·.1)).Nodup
 ndt:(TL.map (·.1)).Nodup
 ll:PL.length<=i1
 lt:TL.length<=i2
 pr:∀x∈PR,(x∈PL\/Wd ws 8 (8+i3) x.1)/\K8 x.2=true
 tr:∀x∈TR,(x∈TL\/Wd ws 10 (10+i4) x.1)/\K8 x.2.1=true/\x.2.2.1∈PR.map (·.1)/\x.2.2.2∈PR.map (·.1)
 ndr:(PR.map (·.1)).Nodup
 ndu:(TR.map (·.1)).Nodup
 lr:PR.length<=i1+i3
 lu:TR.length<=i2+i4
theorem LR.new:LR ws 0 0 0 0 [] [] [] []:=
 ⟨(λ_ h=>nomatch h),(λ_ h=>nomatch h),Lc,Lc,JA _,JA _,(λ_ h=>nomatch h),(λ_ h=>nomatch h),Lc,Lc,JA _,JA _⟩
theorem w4 {α:Type}(l:List (Str×α))(x:Str×α):(l++[x]).map (·.1)=l.map (·.1)++[x.1]:=by rw[JF];rfl
theorem LR.f1 {ws:List Str}{i:Nat}{PL PR:List (Str×Str)}{n:Str}(h:LR ws i 0 0 0 PL [] PR [])(nd:ws.Nodup)(hn:ws[i]?=some n):n∉PL.map (·.1)/\n∉PR.map (·.1):=by
 have a:n∉PL.map (·.1):=λz=>by
  obtain⟨x,hx,rfl⟩:=Jz.mp z;exact Wd.no nd (h.pl x hx).1 ⟨i,JA _,KP _,hn⟩ (.inl (JA _))
 refine⟨a,λz=>?_⟩;obtain⟨x,hx,rfl⟩:=Jz.mp z;rcases(h.pr x hx).1 with z|z
 .exact a (Jz.mpr ⟨x,z,rfl⟩)
 .obtain⟨j,j1,j2,_⟩:=z;lia
theorem LR.s1 {ws:List Str}{i:Nat}{PL PR:List (Str×Str)}{n kd:Str}(h:LR ws i 0 0 0 PL [] PR [])(nd:ws.Nodup)(hn:ws[i]?=some n)(hk:K8 kd=true)(b:Bool):LR ws (i+1) 0 0 0 (PL++[(n,kd)]) [] (if b then PR++[(n,kd)] else PR) []:=by
 obtain⟨f1,f2⟩:=h.f1 nd hn;refine⟨λx hx=>?_,(λ_ h=>nomatch h),?_,Lc,?_,JA _,λx hx=>?_,(λ_ h=>nomatch h),?_,Lc,?_,JA _⟩
 .rcases JD.mp hx with z|z
  .exact⟨(h.pl x z).1.up (JA _) (Me _),(h.pl x z).2⟩
  .rw[JN.mp z];exact⟨⟨i,KU _,KP _,hn⟩,hk⟩
 .rw[w4];exact F4 h.ndl f1
 .rw[JG,JO];have:=h.ll;lia
 .have old:∀x∈PR,(x∈PL++[(n,kd)]\/Wd ws 8 (8+0) x.1)/\K8 x.2=true:=λx hx=>⟨(h.pr x hx).1.elim (λz=> .inl (JB _ z)) .inr,(h.pr x hx).2⟩
  cases b with
  |false=>exact old x hx
  |true=>
   rcases JD.mp (show x∈PR++[(n,kd)] from hx) with z|z
   .exact old x z
   .rw[JN.mp z];exact⟨.inl (JE _ JT),hk⟩
 .cases b with
  |false=>exact h.ndr
  |true=>show((PR++[(n,kd)]).map (·.1)).Nodup;rw[w4];exact F4 h.ndr f2
 .cases b with
  |false=>show PR.length<=_;have:=h.lr;lia
  |true=>show(PR++[(n,kd)]).length<=_;rw[JG,JO];have:=h.lr;lia
theorem LR.f2 {ws:List Str}{i1 i:Nat}{PL PR:List (Str×Str)}{TL TR:List (Str×M8)}{n:Str}(h:LR ws i1 i 0 0 PL TL PR TR)(nd:ws.Nodup)(hn:ws[4+i]?=some n):n∉TL.map (·.1)/\n∉TR.map (·.1):=by
 have a:n∉TL.map (·.1):=λz=>by
  obtain⟨x,hx,rfl⟩:=Jz.mp z;exact Wd.no nd (h.tl x hx).1 ⟨4+i,JA _,KP _,hn⟩ (.inl (JA _))
 refine⟨a,λz=>?_⟩;obtain⟨x,hx,rfl⟩:=Jz.mp z;rcases(h.tr x hx).1 with z|z
 .exact a (Jz.mpr ⟨x,z,rfl⟩)
 .obtain⟨j,j1,j2,_⟩:=z;lia
theorem LR.s2 {ws:List Str}{i1 i:Nat}{PL PR:List (Str×Str)}{TL TR:List (Str×M8)}{n kd o1 o2:Str}(h:LR ws i1 i 0 0 PL TL PR TR)(nd:ws.Nodup)(hn:ws[4+i]?=some n)(hk:K8 kd=true)(h1:o1∈PL.map (·.1))(h2:o2∈PL.map (·.1))(b:Bool)(hb:b=true->o1∈PR.map (·.1)/\o2∈PR.map (·.1)):
  LR ws i1 (i+1) 0 0 PL (TL++[(n,(kd,o1,o2))]) PR (if b then TR++[(n,(kd,o1,o2))] else TR):=by
 obtain⟨f1,f2⟩:=h.f2 nd hn
 refine⟨h.pl,λx hx=>?_,h.ndl,?_,h.ll,?_,h.pr,λx hx=>?_,h.ndr,?_,h.lr,?_⟩
 .rcases JD.mp hx with z|z
  .exact⟨(h.tl x z).1.up (JA _) (Me _),(h.tl x z).2⟩
  .rw[JN.mp z];exact⟨⟨4+i,NY _ _,KP _,hn⟩,hk,h1,h2⟩
 .rw[w4];exact F4 h.ndt f1
 .rw[JG,JO];have:=h.lt;lia
 .have old:∀x∈TR,(x∈TL++[(n,(kd,o1,o2))]\/Wd ws 10 (10+0) x.1)/\K8 x.2.1=true/\x.2.2.1∈PR.map (·.1)/\x.2.2.2∈PR.map (·.1):=λx hx=>⟨(h.tr x hx).1.elim (λz=> .inl (JB _ z)) .inr,(h.tr x hx).2⟩
  cases b with
  |false=>exact old x hx
  |true=>
   rcases JD.mp (show x∈TR++[(n,(kd,o1,o2))] from hx) with z|z
   .exact old x z
   .rw[JN.mp z];exact⟨.inl (JE _ JT),hk,hb rfl⟩
 .cases b with
  |false=>exact h.ndu
  |true=>show((TR++[(n,(kd,o1,o2))]).map (·.1)).Nodup;rw[w4];exact F4 h.ndu f2
 .cases b with
  |false=>show TR.length<=_;have:=h.lu;lia
  |true=>show(TR++[(n,(kd,o1,o2))]).length<=_;rw[JG,JO];have:=h.lu;lia
theorem LR.f3 {ws:List Str}{i1 i2 i:Nat}{PL PR:List (Str×Str)}{TL TR:List (Str×M8)}{n:Str}(h:LR ws i1 i2 i 0 PL TL PR TR)(nd:ws.Nodup)(h4:i1<=4)(hn:ws[8+i]?=some n):n∉PR.map (·.1):=λz=>by
 obtain⟨x,hx,rfl⟩:=Jz.mp z;have w:Wd ws (8+i) (8+i+1) x.1:=⟨8+i,JA _,KP _,hn⟩
 rcases(h.pr x hx).1 with z|z
 .exact Wd.no nd (h.pl x z).1 w (.inl (by lia))
 .exact Wd.no nd z w (.inl (JA _))
theorem LR.s3 {ws:List Str}{i1 i2 i:Nat}{PL PR:List (Str×Str)}{TL TR:List (Str×M8)}{n kd:Str}(h:LR ws i1 i2 i 0 PL TL PR TR)(nd:ws.Nodup)(h4:i1<=4)(hn:ws[8+i]?=some n)(hk:K8 kd=true):LR ws i1 i2 (i+1) 0 PL TL (PR++[(n,kd)]) TR:=by
 refine⟨h.pl,h.tl,h.ndl,h.ndt,h.ll,h.lt,λx hx=>?_,λx hx=>?_,?_,h.ndu,?_,h.lu⟩
 .rcases JD.mp hx with z|z
  .exact⟨(h.pr x z).1.imp id λw=>w.up (JA _) (Me _),(h.pr x z).2⟩
  .rw[JN.mp z];exact⟨.inr ⟨8+i,NY _ _,KP _,hn⟩,hk⟩
 .have z:=h.tr x hx;refine⟨z.1,z.2.1,?_,?_⟩<;>rw[w4]
  .exact JB _ z.2.2.1
  .exact JB _ z.2.2.2
 .rw[w4];exact F4 h.ndr (h.f3 nd h4 hn)
 .rw[JG,JO];have:=h.lr;lia
theorem LR.f4 {ws:List Str}{i1 i2 i3 i:Nat}{PL PR:List (Str×Str)}{TL TR:List (Str×M8)}{n:Str}(h:LR ws i1 i2 i3 i PL TL PR TR)(nd:ws.Nodup)(h4:i2<=4)(hn:ws[10+i]?=some n):n∉TR.map (·.1):=λz=>by
 obtain⟨x,hx,rfl⟩:=Jz.mp z;have w:Wd ws (10+i) (10+i+1) x.1:=⟨10+i,JA _,KP _,hn⟩
 rcases(h.tr x hx).1 with z|z
 .exact Wd.no nd (h.tl x z).1 w (.inl (by lia))
 .exact Wd.no nd z w (.inl (JA _))
theorem LR.s4 {ws:List Str}{i1 i2 i3 i:Nat}{PL PR:List (Str×Str)}{TL TR:List (Str×M8)}{n kd o1 o2:Str}(h:LR ws i1 i2 i3 i PL TL PR TR)(nd:ws.Nodup)(h4:i2<=4)(hn:ws[10+i]?=some n)(hk:K8 kd=true)(h1:o1∈PR.map (·.1))(h2:o2∈PR.map (·.1)):LR ws i1 i2 i3 (i+1) PL TL PR (TR++[(n,(kd,o1,o2))]):=by
 refine⟨h.pl,h.tl,h.ndl,h.ndt,h.ll,h.lt,h.pr,λx hx=>?_,h.ndr,?_,h.lr,?_⟩
 .rcases JD.mp hx with z|z
  .exact⟨(h.tr x z).1.imp id λw=>w.up (JA _) (Me _),(h.tr x z).2⟩
  .rw[JN.mp z];exact⟨.inr ⟨10+i,NY _ _,KP _,hn⟩,hk,h1,h2⟩
 .rw[w4];exact F4 h.ndu (h.f4 nd h4 hn)
 .rw[JG,JO];have:=h.lu;lia
theorem mY {x:Str}(h:K8 x=true):x.length<=8:=by
 have:=dO (show U2 x kSL 8=true from h);lia
theorem wQ {x:Str}(h:K8 x=true):V4 x=true:=by
 have h':U2 x kSL 8=true:=h;unfold U2 at h';simp only[Kj,Ko] at h';unfold V4;rw[Kj];have ha:∀c∈x.cps.toList,c∈kSL.cps.toList:=λc hc=>KW (Kk.mp (show rm x kSL=true from h'.2) c hc);constructor
 .unfold U2;rw[JX h'.1.1,JX (show(x.length:Int)<=24 by lia),Mz,Mz];exact Kk.mpr λc hc=>JX (BO _ (ha c hc))
 .unfold Hz;refine JX (ha _ ?_);have hl:=ff x;cases e:x.cps.toList with
  |nil=>rw[e] at hl;simp at hl;lia
  |cons c r=>exact JT
theorem rL {W:B0}{m:Nat}(h1:∀n∈b7 W,K8 n=true)(h2:∀x∈W.pts,K8 x.2=true)(h3:∀x∈W.ts,K8 x.2.1=true)(l1:W.pts.length<=m)(l2:W.ts.length<=m):oI m W:=
 ⟨⟨λn hn=>wQ (h1 n hn),h2,h3⟩,h1,l1,l2⟩
theorem LR.nmL {ws:List Str}{i1 i2 i3 i4:Nat}{PL PR:List (Str×Str)}{TL TR:List (Str×M8)}(h:LR ws i1 i2 i3 i4 PL TL PR TR)(h1:i1<=4)(h2:i2<=4):∀n∈b7 ⟨PL,TL⟩,Wd ws 0 8 n:=λn hn=>by
 rcases JD.mp (show n∈PL.map (·.1)++TL.map (·.1) from hn) with z|z
 .obtain⟨x,hx,rfl⟩:=Jz.mp z;exact(h.pl x hx).1.up (KU _) (by lia)
 .obtain⟨x,hx,rfl⟩:=Jz.mp z;exact(h.tl x hx).1.up (KU _) (by lia)
theorem LR.nmP {ws:List Str}{i1 i2 i3 i4:Nat}{PL PR:List (Str×Str)}{TL TR:List (Str×M8)}(h:LR ws i1 i2 i3 i4 PL TL PR TR)(h1:i1<=4)(h3:i3<=2){n:Str}(hn:n∈PR.map (·.1)):Wd ws 0 4 n\/Wd ws 8 10 n:=by
 obtain⟨x,hx,rfl⟩:=Jz.mp hn;rcases(h.pr x hx).1 with z|z
 .exact .inl ((h.pl x z).1.up (KU _) (by lia))
 .exact .inr (z.up (by lia) (by lia))
theorem LR.nmT {ws:List Str}{i1 i2 i3 i4:Nat}{PL PR:List (Str×Str)}{TL TR:List (Str×M8)}(h:LR ws i1 i2 i3 i4 PL TL PR TR)(h2:i2<=4)(h4:i4<=2){n:Str}(hn:n∈TR.map (·.1)):Wd ws 4 8 n\/Wd ws 10 12 n:=by
 obtain⟨x,hx,rfl⟩:=Jz.mp hn;rcases(h.tr x hx).1 with z|z
 .exact .inl ((h.tl x z).1.up (by lia) (by lia))
 .exact .inr (z.up (by lia) (by lia))
theorem LR.ndL {ws:List Str}{i1 i2 i3 i4:Nat}{PL PR:List (Str×Str)}{TL TR:List (Str×M8)}(h:LR ws i1 i2 i3 i4 PL TL PR TR)(nd:ws.Nodup)(h1:i1<=4):(b7 ⟨PL,TL⟩).Nodup:=
 JQ.mpr ⟨h.ndl,h.ndt,λa ha b hb e=>by
  subst e;obtain⟨x,hx,rfl⟩:=Jz.mp ha;obtain⟨y,hy,ey⟩:=Jz.mp hb;have QR:y.1=x.1:=ey;have w:=(h.tl y hy).1;rw[QR] at w;exact Wd.no nd (h.pl x hx).1 w (.inl h1)⟩
theorem LR.ndR {ws:List Str}{i1 i2 i3 i4:Nat}{PL PR:List (Str×Str)}{TL TR:List (Str×M8)}(h:LR ws i1 i2 i3 i4 PL TL PR TR)(nd:ws.Nodup)(h1:i1<=4)(h2:i2<=4)(h3:i3<=2)(h4:i4<=2):(b7 ⟨PR,TR⟩).Nodup:=
 JQ.mpr ⟨h.ndr,h.ndu,λa ha b hb e=>by
  subst e;rcases h.nmP h1 h3 ha with z|z<;>rcases h.nmT h2 h4 hb with w|w<;>exact Wd.no nd z w (by lia)⟩
theorem LR.rule {ws:List Str}{i1 i2 i3 i4:Nat}{PL PR:List (Str×Str)}{TL TR:List (Str×M8)}(h:LR ws i1 i2 i3 i4 PL TL PR TR)(nd:ws.Nodup)(hk:∀s∈ws,K8 s=true)(h1:i1<=4)(h2:i2<=4)(h3:i3<=2)(h4:i4<=2)(l1:PR.length<=4)(l2:TR.length<=4):ke ⟨PL,TL⟩ ⟨PR,TR⟩ []:=by
 have Qu:PL.length<=4:=by have:=h.ll;lia
 have UA:TL.length<=4:=by have:=h.lt;lia
 refine⟨rL (λn hn=>hk n (h.nmL h1 h2 n hn).in_) (λx hx=>(h.pl x hx).2) (λx hx=>(h.tl x hx).2.1) Qu UA,rL (λn hn=>hk n ?_) (λx hx=>(h.pr x hx).2) (λx hx=>(h.tr x hx).2.1) l1 l2,λn hL hR=>?_,KU _,λ_ h=>nomatch h⟩
 .rcases JD.mp (show n∈PR.map (·.1)++TR.map (·.1) from hn) with z|z
  .exact(h.nmP h1 h3 z).elim (λw=>w.in_) λw=>w.in_
  .exact(h.nmT h2 h4 z).elim (λw=>w.in_) λw=>w.in_
 .rcases JD.mp (show n∈PL.map (·.1)++TL.map (·.1) from hL) with zL|zL
  .have wL:Wd ws 0 4 n:=by
    obtain⟨x,hx,rfl⟩:=Jz.mp zL;exact(h.pl x hx).1.up (KU _) (by lia)
   have nTL:∀t,(n,t)∉TL:=λt z=>Wd.no nd wL (h.tl _ z).1 (.inl (JA _));have nTR:n∉TR.map (·.1):=λz=>by rcases h.nmT h2 h4 z with w|w<;>exact Wd.no nd wL w (by lia)
   have zR:n∈PR.map (·.1):=by
    rcases JD.mp (show n∈PR.map (·.1)++TR.map (·.1) from hR) with z|z
    .exact z
    .exact absurd z nTR
   have sub:∀k,(n,k)∈PR->(n,k)∈PL:=λk z=>by
    rcases(h.pr _ z).1 with w|w
    .exact w
    .exact(Wd.no nd wL w (.inl (by lia))).elim
   obtain⟨⟨n',k'⟩,hx,e⟩:=Jz.mp zR;have e':n'=n:=e;subst e';exact⟨λk=>⟨λz=>by rw[A9 h.ndl z (sub k' hx)];exact hx,sub k⟩,λt=>⟨λz=>(nTL t z).elim,λz=>(nTR (Jz.mpr ⟨_,z,rfl⟩)).elim⟩⟩
  .have wL:Wd ws 4 8 n:=by
    obtain⟨x,hx,rfl⟩:=Jz.mp zL;exact(h.tl x hx).1.up (JA _) (by lia)
   have nPL:∀t,(n,t)∉PL:=λt z=>Wd.no nd wL (h.pl _ z).1 (.inr h1);have nPR:n∉PR.map (·.1):=λz=>by rcases h.nmP h1 h3 z with w|w<;>exact Wd.no nd wL w (by lia)
   have zR:n∈TR.map (·.1):=by
    rcases JD.mp (show n∈PR.map (·.1)++TR.map (·.1) from hR) with z|z
    .exact absurd z nPR
    .exact z
   have sub:∀k,(n,k)∈TR->(n,k)∈TL:=λk z=>by
    rcases(h.tr _ z).1 with w|w
    .exact w
    .exact(Wd.no nd wL w (.inl (by lia))).elim
   obtain⟨⟨n',k'⟩,hx,e⟩:=Jz.mp zR;have e':n'=n:=e;subst e';exact⟨λt=>⟨λz=>(nPL t z).elim,λz=>(nPR (Jz.mpr ⟨_,z,rfl⟩)).elim⟩,λk=>⟨λz=>by rw[A9 h.ndt z (sub k' hx)];exact hx,sub k⟩⟩
structure NE (B:Hp) (wd d1 d2 d3 d4:Addr):Prop where
 b0:B wd=none
 b1:B d1=none
 b2:B d2=none
 b3:B d3=none
 b4:B d4=none
 n01:wd≠d1
 n02:wd≠d2
 n03:wd≠d3
 n04:wd≠d4
 n12:d1≠d2
 n13:d1≠d3
 n14:d1≠d4
 n23:d2≠d3
 n24:d2≠d4
 n34:d3≠d4
structure RS (K:Qe) (B H:Hp) (wd d1 d2 d3 d4 a1 a2:Addr) (kw kL kR:List (j0×V)) (PL PR:List (Str×Str)) (TL TR:List (Str×M8)):Prop where
 sm:Same B H
 t1:SqT K H a1 [.ref d1,.ref d2]
 t2:SqT K H a2 [.ref d3,.ref d4]
 w:H wd=some (.dK kw)
 h1:H d1=some (.dK (g5 PL))
 h2:H d2=some (.dK kL)
 h3:H d3=some (.dK (g5 PR))
 h4:H d4=some (.dK kR)
 tl:TiesIs K H kL TL
 tr:TiesIs K H kR TR
section
variable {B H H':Hp} {wd d1 d2 d3 d4 a1 a2 l:Addr} {kw kL kR kw':List (j0×V)} {PL PR:List (Str×Str)} {TL TR:List (Str×M8)} {n kd o1 o2:Str}
theorem RS.mono (r:RS K B H wd d1 d2 d3 d4 a1 a2 kw kL kR PL PR TL TR)(s:Same H H'):RS K B H' wd d1 d2 d3 d4 a1 a2 kw kL kR PL PR TL TR:=
 ⟨r.sm.trans s,s.tup r.t1,s.tup r.t2,s _ _ r.w,s _ _ r.h1,s _ _ r.h2,s _ _ r.h3,s _ _ r.h4,r.tl.mono s.le,r.tr.mono s.le⟩
theorem RS.setW (e:NE B wd d1 d2 d3 d4)(r:RS K B H wd d1 d2 d3 d4 a1 a2 kw kL kR PL PR TL TR):RS K B (p5 H wd (.dK kw')) wd d1 d2 d3 d4 a1 a2 kw' kL kR PL PR TL TR:=
 ⟨D5 r.sm e.b0,Q5 r.w r.t1,Q5 r.w r.t2,d0,by rw[d6 e.n01.symm];exact r.h1,by rw[d6 e.n02.symm];exact r.h2,by rw[d6 e.n03.symm];exact r.h3,by rw[d6 e.n04.symm];exact r.h4,I0 r.w r.tl,I0 r.w r.tr⟩
theorem X3 (h:n∉PL.map (·.1)):E3 (g5 PL) (Sum.inr n:j0) (.str kd)=g5 (PL++[(n,kd)]):=by
 rw[Q4 _ (N8 (by rw[J6,←B6];exact λm=>h (Y1 m)))];unfold g5;rw[JF];rfl
theorem RS.set1 (e:NE B wd d1 d2 d3 d4)(r:RS K B H wd d1 d2 d3 d4 a1 a2 kw kL kR PL PR TL TR)(h:n∉PL.map (·.1)):RS K B (p5 H d1 (.dK (E3 (g5 PL) (Sum.inr n:j0) (.str kd)))) wd d1 d2 d3 d4 a1 a2 kw kL kR (PL++[(n,kd)]) PR TL TR:=by
 rw[X3 h];exact⟨D5 r.sm e.b1,Q5 r.h1 r.t1,Q5 r.h1 r.t2,by rw[d6 e.n01];exact r.w,d0,by rw[d6 e.n12.symm];exact r.h2,by rw[d6 e.n13.symm];exact r.h3,by rw[d6 e.n14.symm];exact r.h4,I0 r.h1 r.tl,I0 r.h1 r.tr⟩
theorem RS.set3 (e:NE B wd d1 d2 d3 d4)(r:RS K B H wd d1 d2 d3 d4 a1 a2 kw kL kR PL PR TL TR)(h:n∉PR.map (·.1)):RS K B (p5 H d3 (.dK (E3 (g5 PR) (Sum.inr n:j0) (.str kd)))) wd d1 d2 d3 d4 a1 a2 kw kL kR PL (PR++[(n,kd)]) TL TR:=by
 rw[X3 h];exact⟨D5 r.sm e.b3,Q5 r.h3 r.t1,Q5 r.h3 r.t2,by rw[d6 e.n03];exact r.w,by rw[d6 e.n13];exact r.h1,by rw[d6 e.n23];exact r.h2,d0,by rw[d6 e.n34.symm];exact r.h4,I0 r.h3 r.tl,I0 r.h3 r.tr⟩
theorem kW (w:TiesIs K H kL TL)(h:n∉TL.map (·.1))(hl:SqT K H l (Z5 (kd,o1,o2))):TiesIs K H (E3 kL (Sum.inr n:j0) (.ref l)) (TL++[(n,(kd,o1,o2))]):=by
 rw[Q4 _ (N8 (by rw[w.keys,←B6];exact λm=>h (Y1 m)))];exact A7 w ⟨rfl,l,rfl,hl⟩
theorem RS.set2 (e:NE B wd d1 d2 d3 d4)(r:RS K B H wd d1 d2 d3 d4 a1 a2 kw kL kR PL PR TL TR)(h:n∉TL.map (·.1))(hl:SqT K H l (Z5 (kd,o1,o2))):RS K B (p5 H d2 (.dK (E3 kL (Sum.inr n:j0) (.ref l)))) wd d1 d2 d3 d4 a1 a2 kw (E3 kL (Sum.inr n:j0) (.ref l)) kR PL PR (TL++[(n,(kd,o1,o2))]) TR:=
 ⟨D5 r.sm e.b2,Q5 r.h2 r.t1,Q5 r.h2 r.t2,by rw[d6 e.n02];exact r.w,by rw[d6 e.n12];exact r.h1,d0,by rw[d6 e.n23.symm];exact r.h3,by rw[d6 e.n24.symm];exact r.h4,I0 r.h2 (kW r.tl h hl),I0 r.h2 r.tr⟩
theorem RS.set4 (e:NE B wd d1 d2 d3 d4)(r:RS K B H wd d1 d2 d3 d4 a1 a2 kw kL kR PL PR TL TR)(h:n∉TR.map (·.1))(hl:SqT K H l (Z5 (kd,o1,o2))):RS K B (p5 H d4 (.dK (E3 kR (Sum.inr n:j0) (.ref l)))) wd d1 d2 d3 d4 a1 a2 kw kL (E3 kR (Sum.inr n:j0) (.ref l)) PL PR TL (TR++[(n,(kd,o1,o2))]):=
 ⟨D5 r.sm e.b4,Q5 r.h4 r.t1,Q5 r.h4 r.t2,by rw[d6 e.n04];exact r.w,by rw[d6 e.n14];exact r.h1,by rw[d6 e.n24];exact r.h2,by rw[d6 e.n34];exact r.h3,d0,I0 r.h4 r.tl,I0 r.h4 (kW r.tr h hl)⟩
end
structure WO (ps ws os:List Str) (i:Nat) (kw:List (j0×V)) (PL PR:List (Str×Str)):Prop where
 ok:∀kv∈kw,∃n s,kv=(Sum.inr n,V.str s)
 at_:∀j n w,j<i->ps[j]?=some n->ws[j]?=some w->z0 kw (Sum.inr n:j0)=some (.str w)
 inL:∀j w,j<i->ws[j]?=some w->w∈PL.map (·.1)
 inR:∀j n w,j<i->ps[j]?=some n->n∉os->ws[j]?=some w->w∈PR.map (·.1)
theorem WO.s1 {ps ws os:List Str}{i:Nat}{kw:List (j0×V)}{PL PR:List (Str×Str)}{n w kd:Str}(h:WO ps ws os i kw PL PR)(nd:ps.Nodup)(hn:ps[i]?=some n)(hw:ws[i]?=some w)(b:Bool)(hb:n∉os->b=true):
  WO ps ws os (i+1) (E3 kw (Sum.inr n:j0) (.str w)) (PL++[(w,kd)]) (if b then PR++[(w,kd)] else PR):=by
 refine⟨rP h.ok ⟨_,_,rfl⟩,λj m v hj h1 h2=>?_,λj v hj h2=>?_,λj m v hj h1 h3 h2=>?_⟩
 .rw[N3]
  by_cases e:j=i
  .subst e
   rw[h1] at hn;cases hn
   rw[h2] at hw;cases hw
   rw[if_pos rfl]
  .have q_:m≠n:=λz=>e (yu nd (z▸h1) hn)
   rw[if_neg (λz=>q_ (LD z))]
   exact h.at_ j m v (by lia) h1 h2
 .rw[w4]
  by_cases e:j=i
  .subst e
   rw[h2] at hw;cases hw
   exact JE _ JT
  .exact JB _ (h.inL j v (by lia) h2)
 .by_cases e:j=i
  .subst e
   rw[h1] at hn;cases hn
   rw[h2] at hw;cases hw
   rw[hb h3,if_pos rfl,w4]
   exact JE _ JT
  .have z:=h.inR j m v (by lia) h1 h3 h2
   cases b with
   |false=>exact z
   |true=>show v∈(PR++[(w,kd)]).map (·.1);rw[w4];exact JB _ z
theorem WO.s2 {ps ws os:List Str}{i:Nat}{kw:List (j0×V)}{PL PR:List (Str×Str)}{m w:Str}(h:WO ps ws os i kw PL PR)(hm:m∉ps):WO ps ws os i (E3 kw (Sum.inr m:j0) (.str w)) PL PR:=by
 refine⟨rP h.ok ⟨_,_,rfl⟩,λj n v hj h1 h2=>?_,h.inL,h.inR⟩;rw[N3,if_neg (λz:(Sum.inr n:j0)=Sum.inr m=>hm (by rw[←LD z];exact JM h1))];exact h.at_ j n v hj h1 h2
def AS (ws:List Str):Prop:=ws.length=16/\ws.Nodup/\∀s∈ws,K8 s=true
def EB (ks:List Str):Prop:=0<ks.length/\ks.length<=3/\∀s∈ks,K8 s=true
theorem qh {ws:List Str}(h:ws.length=16)(i:Nat)(hi:i<16):∃w,ws[i]?=some w/\∀j:Int,j=(i:Int)->oj (ws.map V.str) j=some (.str w):=
 ⟨ws[i]'(by lia),Jy (by lia),λj hj=>by rw[hj];exact F0 (j:=i) (by rw[JC,Jy (by lia)];rfl)⟩
theorem WO.get {ps ws os:List Str}{kw:List (j0×V)}{PL PR:List (Str×Str)}{n:Str}(h:WO ps ws os ps.length kw PL PR)(hl:ws.length=16)(h4:ps.length<=4)(hn:n∈ps):∃w,z0 kw (Sum.inr n:j0)=some (.str w)/\w∈PL.map (·.1)/\(n∉os->w∈PR.map (·.1)):=by
 obtain⟨j,hj⟩:=Lj hn;obtain⟨Y_,_⟩:=Lg.mp hj;obtain⟨w,hw,_⟩:=qh hl j (by lia);exact⟨w,h.at_ j n w Y_ hj hw,h.inL j w Y_ hw,λho=>h.inR j n w Y_ hj ho hw⟩
def N1 (x:Str×Str):Str×Str:=(x.2,x.1)
structure MP (W:B0) (os:List Str) (pr PL:List (Str×Str)) (TL:List (Str×M8)) (Rn:List Str):Prop where
 n1:(pr.map (·.1)).Nodup
 n2:(pr.map (·.2)).Nodup
 wd:pr.map (·.2)=PL.map (·.1)++TL.map (·.1)
 pt:∀x∈PL,∃n,(n,x.1)∈pr/\(n,x.2)∈W.pts
 ti:∀x∈TL,∃n b e,(n,x.1)∈pr/\(b,x.2.2.1)∈pr/\(e,x.2.2.2)∈pr/\(n,(x.2.1,b,e))∈W.ts
 ko:∀x∈pr,x.2∈Rn↔x.1∉os
section
variable {W:B0} {os:List Str} {pr PL:List (Str×Str)} {TL:List (Str×M8)} {Rn Rn':List Str} {n w kd b e u2 u3:Str}
theorem Y0 (l:List (Str×Str))(x:Str×Str):(l++[x]).map (·.2)=l.map (·.2)++[x.2]:=by rw[JF];rfl
theorem MP.ko' (h:MP W os pr PL TL Rn)(hw:w∉pr.map (·.2))(h1:∀y,y≠w->(y∈Rn'↔y∈Rn))(h2:w∈Rn'↔n∉os):∀x∈pr++[(n,w)],x.2∈Rn'↔x.1∉os:=λx hx=>by
 rcases JD.mp hx with z|z
 .rw[h1 x.2 λq=>hw (Jz.mpr ⟨x,z,q⟩)];exact h.ko x z
 .rw[JN.mp z];exact h2
theorem MP.sP (h:MP W os pr PL [] Rn)(hn:n∉pr.map (·.1))(hw:w∉pr.map (·.2))(hp:(n,kd)∈W.pts)(h1:∀y,y≠w->(y∈Rn'↔y∈Rn))(h2:w∈Rn'↔n∉os):MP W os (pr++[(n,w)]) (PL++[(w,kd)]) [] Rn':=by
 refine⟨by rw[w4];exact F4 h.n1 hn,by rw[Y0];exact F4 h.n2 hw,?_,λx hx=>?_,(λ_ h=>nomatch h),h.ko' hw h1 h2⟩
 .have z:=h.wd;rw[Ms,Ku] at z;rw[Y0,w4,Ms,Ku,z]
 .rcases JD.mp hx with z|z
  .obtain⟨n',Od,RX⟩:=h.pt x z;exact⟨n',JB _ Od,RX⟩
  .rw[JN.mp z];exact⟨n,JE _ JT,hp⟩
theorem MP.sT (h:MP W os pr PL TL Rn)(hn:n∉pr.map (·.1))(hw:w∉pr.map (·.2))(hp:(n,(kd,b,e))∈W.ts)(hb:(b,u2)∈pr)(he:(e,u3)∈pr)(h1:∀y,y≠w->(y∈Rn'↔y∈Rn))(h2:w∈Rn'↔n∉os):MP W os (pr++[(n,w)]) PL (TL++[(w,(kd,u2,u3))]) Rn':=by
 refine⟨by rw[w4];exact F4 h.n1 hn,by rw[Y0];exact F4 h.n2 hw,?_,λx hx=>?_,λx hx=>?_,h.ko' hw h1 h2⟩
 .rw[Y0,w4,h.wd,KH]
 .obtain⟨n',Od,RX⟩:=h.pt x hx;exact⟨n',JB _ Od,RX⟩
 .rcases JD.mp hx with z|z
  .obtain⟨n',b',e',q1,q2,q3,q4⟩:=h.ti x z;exact⟨n',b',e',JB _ q1,JB _ q2,JB _ q3,q4⟩
  .rw[JN.mp z];exact⟨n,b,e,JE _ JT,JB _ hb,JB _ he,hp⟩
theorem MP.sR (h:MP W os pr PL TL Rn)(h1:∀y∈pr.map (·.2),(y∈Rn'↔y∈Rn)):MP W os pr PL TL Rn':=
 ⟨h.n1,h.n2,h.wd,h.pt,h.ti,λx hx=>by rw[h1 _ (Jz.mpr ⟨x,hx,rfl⟩)];exact h.ko x hx⟩
end
def gJ (K:Qe):Sp:=λvs H Q _=>∃(S:Sd) (lx lw lk:Addr) (xs:List Int) (ws ks:List Str),vs=[.ref S.a,.ref lx,.ref lw,.ref lk]/\SdIs K H S/\rD S.W/\SqL K H lx (xs.map V.int)/\xs.length=16/\(∀x∈xs,0<=x)/\SqL K H lw (ws.map V.str)/\AS ws/\SqL K H lk (ks.map V.str)/\EB ks/\
 ∀(t r m bl:Addr) (L R:Sd) (pr:List (Str×Str)) (os:List Str) (H':Hp),Same H H'->H' t=some (.tup [.ref r,.ref m])->H' m=some (.dK (g5 (pr.map N1)))->H' bl=some (.lst [])->RuleIs K H' r bl L R []->ke L.W R.W []->MP S.W os pr L.W.pts L.W.ts (b7 R.W)->(∀n x,(n,x)∈S.W.ts->(x.2.1∈os\/x.2.2∈os)->n∈os)->(∀n∈os,n∈pr.map (·.1))->(∀n∈b7 R.W,n∉b7 L.W->Wd ws 8 12 n)->(∀n∈b7 L.W,Wd ws 0 8 n)->Q (.ref t) H'
abbrev iP (P:Program)(w:World)(K:Qe)(mg:Str->Option Value)(base:Heap):Prop:=V9 P w K mg base E7 2 "_law_rule" ["_law_web_here","_law_xs","_law_words_here","_law_kinds"] [] (gJ K)
theorem oQ {f:Addr}{fd:FuncData}(T:Txt K mg)(aN:eN P w K mg base)(fi:lq P w K mg base)(F:Fun K "_law_rule" "_law_rule" cn f fd):C0 P w K mg base E7 2 f fd ["_law_web_here","_law_xs","_law_words_here","_law_kinds"] (gJ K):=by
 walk_at "#sc__law_rule"
 .obtain⟨S,lx,lw,lk,xs,ws,ks,rfl,_⟩:=h;rfl
 .obtain⟨S,lx,lw,lk,xs,ws,ks,rfl,hS,hG,hX,s_,t_,hW,⟨wl,wnd,wk⟩,hK,⟨kl0,kl3,kk⟩,k⟩:=h;have Sy:=hS.len;rw[A5] at Sy;walk_at "@sc__law_rule 7=6'0aN k01yb49b59z466'0fi 8084k5147M48jiMM49jiMM7vw~254yb:9b;9z7Cc20:070;7Ce100;18c20:dsoD;06ndCe100;19c20:7vw~255yb:9b;9z7=e100;yb<9b=9b>9z7Cc2f20:070;7Cj8<ic70=c70>18c2f20:dsoD;06ndCj8<ic70=c70>19c2f20:7vw,3t'1mE L'0T.b_min ~uim112R'0zb 2q319g:9dCc3mG11f0:2q5319c2f20:4?tWVU3197vw,3R;t'1mE L'0T.b_min ~uim112R'0zb 2q319-'0hU ~p~o3HX0?Ehg:94<c3mG11f0:2q534=c?mG11f0:2q5?dCj8<8=3c?mG11f0:2q5?19c2f20:4@M7vw)07yb;9bA9zdC0;0@0Aajpj88893E5@"
  walk_at "S";rfl';refine⟨S,lx,xs,rfl,hS,hX,s_,t_,λt0 lp lt ps ts H1 s1 f1 g1 g2 pk=>?_⟩;refine F5 (SqT.of f1) rfl ?_;rfl';walk_at "S";rfl';refine⟨S,lp,lt,lx,ps,ts,xs,rfl,hS.same s1,SqL.of g1,SqL.of g2,pk,s1.seq hX,s_,t_,λlo os B nlo s2 fo ok=>?_⟩;have SS:=s1.trans s2;have SB:=hS.same SS;have XB:=SS.seq hX;have WB:=SS.seq hW;have KB:=SS.seq hK;have PB:=s2 _ _ g1;have TB:=s2 _ _ g2;rfl';walk_at "S";rfl';intro wd n0;obtain⟨H3,e3,f3,m3,_⟩:=b9 (o:= .dK []) n0;rw[e3];rfl';walk_at "S";rfl';intro d1 n1;obtain⟨H4,e4,f4,m4,_⟩:=b9 (o:= .dK []) n1;rw[e4];rfl';intro d2 n2;obtain⟨H5,e5,f5,m5,_⟩:=b9 (o:= .dK []) n2;rw[e5];rfl';refine⟨d8 (by simp),λa1 na1=>?_⟩;obtain⟨H6,e6,f6,m6,_⟩:=b9 (o:= .tup _) na1;rw[e6];rfl';walk_at "S";rfl';intro d3 n3;obtain⟨H7,e7,f7,m7,_⟩:=b9 (o:= .dK []) n3;rw[e7];rfl';intro d4 n4;obtain⟨H8,e8,f8,m8,_⟩:=b9 (o:= .dK []) n4;rw[e8];rfl';refine⟨d8 (by simp),λa2 na2=>?_⟩;obtain⟨H9,e9,f9,m9,_⟩:=b9 (o:= .tup _) na2;rw[e9];have QU:=m4.trans (m5.trans m6);have ne:NE B wd d1 d2 d3 d4:=⟨n0,m3.free n1,m3.free (m4.free n2),m3.free (QU.free n3),m3.free (QU.free (m7.free n4)),b5 f3 n1,b5 (m4 _ _ f3) n2,b5 (QU _ _ f3) n3,b5 (m7 _ _ (QU _ _ f3)) n4,
   b5 f4 n2,b5 (m6 _ _ (m5 _ _ f4)) n3,b5 (m7 _ _ (m6 _ _ (m5 _ _ f4))) n4,b5 (m6 _ _ f5) n3,b5 (m7 _ _ (m6 _ _ f5)) n4,b5 f7 n4⟩
  have VG:=m7.trans (m8.trans m9);have rs0:RS K B H9 wd d1 d2 d3 d4 a1 a2 [] [] [] [] [] [] []:=⟨m3.trans (QU.trans VG),SqT.of (VG _ _ f6),SqT.of f9,VG _ _ (QU _ _ f3),VG _ _ (m6 _ _ (m5 _ _ f4)),VG _ _ (m6 _ _ f5),m9 _ _ (m8 _ _ f7),m9 _ _ f8,.nil,.nil⟩
  have RG:=pk.l1;have UJ:=pk.l2;rfl';walk_at "S";rfl';refine⟨_,rfl,.inl ⟨lp,_,rfl,SqL.of (rs0.sm _ _ PB),?_⟩⟩;refine K6 (n:=ps.length) (λi σ H'=>(∃u:Nat->Option V,σ=[some (V.ref S.a),some (.ref lx),some (.ref lw),some (.ref lk),some (.ref lp),some (.ref lt),some (.ref lo),some (.ref wd),some (.ref a1),some (.ref a2),u 10,u 11,u 12,u 13,u 14,u 15,u 16,u 17])/\∃pr PL PR,RS K B H' wd d1 d2 d3 d4 a1 a2 (g5 pr) [] [] PL PR [] []/\LR ws i 0 0 0 PL [] PR []/\WO ps ws os i (g5 pr) PL PR/\pr.length<=i/\MP S.W os pr PL [] (PR.map (·.1))/\pr.map (·.1)=ps.take i)
   ⟨sg rfl,[],[],[],rs0,LR.new,⟨(λ_ h=>nomatch h),(λj _ _ h=>absurd h (OC _)),(λj _ h=>absurd h (OC _)),λj _ _ h=>absurd h (OC _)⟩,JA _,⟨Lc,Lc,rfl,(λ_ h=>nomatch h),(λ_ h=>nomatch h),λ_ h=>nomatch h⟩,rfl⟩ (λi σ H' hi hp=>⟨_,.str (ps[i]),SqL.of (hp.2.choose_spec.choose_spec.choose_spec.1.sm _ _ PB),by rw[JC,Jy hi];rfl⟩) ?_ ?_
  .rintro i v σ PC TX hi ⟨⟨u,rfl⟩,pr,PL,PR,rs,lr,wo,OL,mp,QV⟩ ⟨t,x,hx,nt,rfl,rfl⟩ _ _;have k_:=hx _ (SqL.of (rs.sm _ _ PB));rw[JC,Jy hi] at k_;cases k_;have Xa:ps[i]?=some ps[i]:=Jy hi;obtain⟨wi,NR,RH⟩:=qh wl i (by lia);obtain⟨⟨x0,kd⟩,o_,ex⟩:=Jz.mp (pk.p _ (Kn hi));have N':x0=ps[i]:=ex;subst N';have OU:=hG.kd _ o_;obtain⟨nL,nR⟩:=lr.f1 wnd NR;obtain⟨Sz,VH,SU,RD,_⟩:=b9 (o:= .tup _) nt;rw[VH];have PQ:=rs.mono RD;refine F5 (SqT.of SU) rfl ?_;rfl';walk_at "S";rfl';refine j4 (PQ.sm.seq WB) (RH _ rfl) ?_;rfl';refine O9 (z6 (k:=Sum.inr ps[i]) PQ.w (d8 (by rw[j7];lia)) ?_);have Pt:ps[i]∉pr.map (·.1):=λz=>by
    rw[QV] at z;have z2:(ps.take (i+1)).Nodup:=pk.n1.sublist (KO _ _);rw[Kb,Xa] at z2;exact(JQ.mp z2).2.2 _ z _ (by simp) rfl
   have VI:wi∉pr.map (·.2):=λz=>by
    rw[mp.wd,Ms,Ku] at z;exact nL z
   have RI:(pr++[(ps[i],wi)]).map (·.1)=ps.take (i+1):=by rw[w4,QV,Kb,Xa];rfl
   have RJ:(pr++[(ps[i],wi)]).length<=i+1:=by rw[JG,JO];lia
   rw[X3 Pt];have PU:=PQ.setW (kw':=g5 (pr++[(ps[i],wi)])) ne;generalize p5 Sz wd (.dK (g5 (pr++[(ps[i],wi)])))=UK at PU⊢;have S12:=SB.same PU.sm;refine gM (by assumption) ?_;walk_at "S";rfl';refine j3 S12.at_.tup ?_;rfl';refine k8 (v:= .str kd) (by have z:=E1 (k:=Sum.inr ps[i]) S12.at_.pts;rw[L5 (A6 hS.nd) o_] at z;exact z) ?_;rfl';refine j3 PU.t1 ?_;rfl';refine j4 (PU.sm.seq WB) (RH _ rfl) ?_;rfl';refine O9 (z6 (k:=Sum.inr wi) PU.h1 (d8 (by rw[j7];have:=lr.ll;lia)) ?_);have K':=PU.set1 (kd:=kd) ne nL;generalize p5 UK d1 (.dK (E3 (g5 PL) (Sum.inr wi) (.str kd)))=Xb at K'⊢;have TY:=SB.same K'.sm;rfl';refine E2 (SqL.of (K'.sm _ _ fo)) ?_;rfl';refine N2 (λhb=>?_) (λhb=>?_)
   .rfl';refine j3 TY.at_.tup ?_;rfl';refine k8 (v:= .str kd) (by have z:=E1 (k:=Sum.inr ps[i]) TY.at_.pts;rw[L5 (A6 hS.nd) o_] at z;exact z) ?_;rfl';refine j3 K'.t2 ?_;rfl';refine j4 (K'.sm.seq WB) (RH _ rfl) ?_;rfl';refine O9 (z6 (k:=Sum.inr wi) K'.h3 (d8 (by rw[j7];have:=lr.lr;lia)) ?_);walk_at "X";exact⟨sg rfl,_,_,_,K'.set3 (kd:=kd) ne nR,lr.s1 wnd NR OU true,by have z:=wo.s1 (kd:=kd) pk.n1 Xa NR true (λ_=>rfl);rw[X3 Pt] at z;exact z,RJ,mp.sP Pt VI o_ (λy hy=>by show y∈(PR++[(wi,kd)]).map (·.1)↔_;rw[w4,JD,JN];exact⟨λz=>z.elim id λq=>absurd q hy,.inl⟩) ⟨λ_=>hb,λ_=>by show wi∈(PR++[(wi,kd)]).map (·.1);rw[w4];simp⟩,RI⟩
   .rfl';walk_at "X";exact⟨sg rfl,_,_,_,K',lr.s1 wnd NR OU false,by have z:=wo.s1 (kd:=kd) pk.n1 Xa NR false (λz=>absurd hb z);rw[X3 Pt] at z;exact z,RJ,mp.sP Pt VI o_ (λy hy=>VL) ⟨λz=>absurd z nR,λz=>absurd hb z⟩,RI⟩
  .rintro σ PC ⟨⟨u,rfl⟩,pr,PL,PR,rs,lr,wo,OL,mp,QV⟩;rw[JK (JA _)] at QV;refine⟨⟨_,SqL.of (rs.sm _ _ PB),by rw[Jx];exact JA _⟩,?_⟩;refine gM (by assumption) ?_;change jh _ _ _ _ PC;walk_at "S";rfl';refine⟨_,rfl,.inl ⟨lt,_,rfl,SqL.of (rs.sm _ _ TB),?_⟩⟩;refine K6 (n:=ts.length) (λi σ H'=>(∃u:Nat->Option V,σ=[some (V.ref S.a),some (.ref lx),some (.ref lw),some (.ref lk),some (.ref lp),some (.ref lt),some (.ref lo),some (.ref wd),some (.ref a1),some (.ref a2),u 10,u 11,u 12,u 13,u 14,u 15,u 16,u 17])/\∃pr kL kR TL TR,RS K B H' wd d1 d2 d3 d4 a1 a2 (g5 pr) kL kR PL PR TL TR/\LR ws ps.length i 0 0 PL TL PR TR/\WO ps ws os ps.length (g5 pr) PL PR/\pr.length<=ps.length+i/\MP S.W os pr PL TL (PR.map (·.1)++TR.map (·.1))/\pr.map (·.1)=ps++ts.take i)
    ⟨sg rfl,_,_,_,_,_,rs,lr,wo,OL,by rw[Ms,Ku];exact mp,by rw[List.take_zero,Ku];exact QV⟩ (λi σ H' hi hp=>⟨_,.str (ts[i]),SqL.of (hp.2.choose_spec.choose_spec.choose_spec.choose_spec.choose_spec.1.sm _ _ TB),by rw[JC,Jy hi];rfl⟩) ?_ ?_
   .clear rs lr wo OL mp QV;rintro i v σ PC TX hi ⟨⟨u,rfl⟩,pr,kL,kR,TL,TR,rs,lr,wo,OL,mp,QV⟩ ⟨t,x,hx,nt,rfl,rfl⟩ _ _;have k_:=hx _ (SqL.of (rs.sm _ _ TB));rw[JC,Jy hi] at k_;cases k_;have Za:=Kn hi;have Tf:ts.take (i+1)=ts.take i++[ts[i]]:=by rw[Kb,Jy hi];rfl
    have htn:ts[i]∉ts.take i:=λz=>by
     have z2:(ts.take (i+1)).Nodup:=pk.n2.sublist (KO _ _);rw[Tf] at z2;exact(JQ.mp z2).2.2 _ z _ (by simp) rfl
    generalize ts[i]=nm at Za Tf htn;obtain⟨wi,NR,RH⟩:=qh wl (4+i) (by lia);obtain⟨⟨y1,y2,y3⟩,SV,hy2,hy3⟩:=pk.t _ Za;have OU:=hG.tk _ SV;obtain⟨nL,nR⟩:=lr.f2 wnd NR;have hnp:nm∉ps:=λz=>(JQ.mp hS.nd).2.2 nm (pk.p _ z) nm (Jz.mpr ⟨_,SV,rfl⟩) rfl;obtain⟨Sz,VH,SU,RD,_⟩:=b9 (o:= .tup _) nt;rw[VH];have PQ:=rs.mono RD;have UL:=SB.same PQ.sm;obtain⟨aa,q1,q3⟩:=gK UL.at_.ts (K2 hS.nd) SV;refine F5 (SqT.of SU) rfl ?_;rfl';walk_at "S";rfl';refine i9 UL.at_.tup ?_;rfl';refine k8 (v:= .ref aa) (by have z:=E1 (k:=Sum.inr nm) UL.at_.ties;rw[q1] at z;exact z) ?_;refine F5 (xs:=[.str y1,.str y2,.str y3]) q3 rfl ?_;rfl';walk_at "S";rfl';refine j4 (PQ.sm.seq WB) (RH _ rfl) ?_;rfl';refine O9 (z6 (k:=Sum.inr nm) PQ.w (d8 (by rw[j7];lia)) ?_);have Pt:nm∉pr.map (·.1):=λz=>by
     rw[QV] at z;exact(JD.mp z).elim hnp htn
    have VI:wi∉pr.map (·.2):=λz=>by
     rw[mp.wd] at z;rcases JD.mp z with z|z
     .obtain⟨y,hy,ey⟩:=Jz.mp z;have:=(lr.pl y hy).1;rw[show y.1=wi from ey] at this;exact Wd.no wnd this ⟨4+i,JA _,KP _,NR⟩ (.inl (by lia))
     .exact nL z
    have Zb:wi∉PR.map (·.1)++TR.map (·.1):=λz=>by
     rcases JD.mp z with z|z
     .obtain⟨y,hy,ey⟩:=Jz.mp z;rcases(lr.pr y hy).1 with q|q
      .have:=(lr.pl y q).1;rw[show y.1=wi from ey] at this;exact Wd.no wnd this ⟨4+i,JA _,KP _,NR⟩ (.inl (by lia))
      .obtain⟨j,j1,j2,_⟩:=q;lia
     .exact nR z
    have RI:(pr++[(nm,wi)]).map (·.1)=ps++ts.take (i+1):=by rw[w4,QV,Tf,KH]
    have RJ:(pr++[(nm,wi)]).length<=ps.length+(i+1):=by rw[JG,JO];lia
    have VJ:=wo.s2 (w:=wi) hnp;obtain⟨u2',Zc,_,_⟩:=wo.get wl RG hy2;obtain⟨u3',Zd,_,_⟩:=wo.get wl RG hy3;obtain⟨_,eb2,OH⟩:=gk Zc;obtain⟨_,eb3,VM⟩:=gk Zd;rw[X3 Pt] at VJ⊢;have PU:=PQ.setW (kw':=g5 (pr++[(nm,wi)])) ne;generalize p5 Sz wd (.dK (g5 (pr++[(nm,wi)])))=UK at PU⊢;obtain⟨u2,Om,uL2,uR2⟩:=VJ.get wl RG hy2;obtain⟨u3,Ze,uL3,uR3⟩:=VJ.get wl RG hy3;have n1':((pr++[(nm,wi)]).map (·.1)).Nodup:=by rw[w4];exact F4 mp.n1 Pt
    have VN:(y2,u2)∈pr:=by
     have z:=L5 (k:=u2') n1' (JB _ (by rw[V.str.inj eb2];exact OH));rw[Om] at z;rw[V.str.inj (JU z),V.str.inj eb2];exact OH
    have VO:(y3,u3)∈pr:=by
     have z:=L5 (k:=u3') n1' (JB _ (by rw[V.str.inj eb3];exact VM));rw[Ze] at z;rw[V.str.inj (JU z),V.str.inj eb3];exact VM
    refine gM (by assumption) ?_;walk_at "S";rfl';refine k8 (v:= .str u2) (by have z:=E1 (k:=Sum.inr y2) (show Rd UK wd _ from .inl PU.w);rw[Om] at z;exact z) ?_;rfl';refine k8 (v:= .str u3) (by have z:=E1 (k:=Sum.inr y3) (show Rd UK wd _ from .inl PU.w);rw[Ze] at z;exact z) ?_;rfl';refine⟨d8 (by simp),λZf n13=>?_⟩;obtain⟨Xb,VP,TZ,OS,_⟩:=b9 (o:= .tup _) n13;rw[VP];have K':=PU.mono OS;rfl';refine i9 K'.t1 ?_;rfl';refine j4 (K'.sm.seq WB) (RH _ rfl) ?_;rfl';refine O9 (z6 (k:=Sum.inr wi) K'.h2 (d8 (by have:=lr.lt;have:=K'.tl.length;lia)) ?_);have UM:=K'.set2 (kd:=y1) (o1:=u2) (o2:=u3) ne nL (SqT.of TZ);generalize p5 Xb d2 (.dK (E3 kL (Sum.inr wi) (.ref Zf)))=H14 at UM⊢;rfl';refine E2 (SqL.of (UM.sm _ _ fo)) ?_;rfl';refine N2 (λhb=>?_) (λhb=>?_)
    .obtain⟨XU,ob3⟩:=ok.ok _ Za hb _ SV;rfl';refine k8 (v:= .str u2) (by have z:=E1 (k:=Sum.inr y2) (show Rd H14 wd _ from .inl UM.w);rw[Om] at z;exact z) ?_;rfl';refine k8 (v:= .str u3) (by have z:=E1 (k:=Sum.inr y3) (show Rd H14 wd _ from .inl UM.w);rw[Ze] at z;exact z) ?_;rfl';refine⟨d8 (by simp),λl15 n15=>?_⟩;obtain⟨H15,e15,Zg,Zh,_⟩:=b9 (o:= .tup _) n15;rw[e15];have VQ:=UM.mono Zh;rfl';refine i9 VQ.t2 ?_;rfl';refine j4 (VQ.sm.seq WB) (RH _ rfl) ?_;rfl';refine O9 (z6 (k:=Sum.inr wi) VQ.h4 (d8 (by have:=lr.lu;have:=VQ.tr.length;lia)) ?_);walk_at "X";exact⟨sg rfl,_,_,_,_,_,VQ.set4 (kd:=y1) (o1:=u2) (o2:=u3) ne nR (SqT.of Zg),lr.s2 wnd NR OU uL2 uL3 true (λ_=>⟨uR2 XU,uR3 ob3⟩),VJ,RJ,mp.sT Pt VI SV VN VO (λy hy=>by show y∈PR.map (·.1)++(TR++[(wi,(y1,u2,u3))]).map (·.1)↔_;rw[w4,←KH,JD,JN];exact⟨λz=>z.elim id λq=>absurd q hy,.inl⟩) ⟨λ_=>hb,λ_=>by show wi∈PR.map (·.1)++(TR++[(wi,(y1,u2,u3))]).map (·.1);rw[w4];simp⟩,RI⟩
    .rfl';exact⟨sg rfl,_,_,_,_,_,UM,lr.s2 wnd NR OU uL2 uL3 false (λz=>nomatch z),VJ,RJ,mp.sT Pt VI SV VN VO (λy hy=>VL) ⟨λz=>absurd z Zb,λz=>absurd hb z⟩,RI⟩
   .clear rs lr wo OL mp QV;rintro σ PC ⟨⟨u,rfl⟩,pr,kL,kR,TL,TR,rs,lr,wo,OL,mp,QV⟩;rw[JK (JA _)] at QV;refine⟨⟨_,SqL.of (rs.sm _ _ TB),by rw[Jx];exact JA _⟩,?_⟩;refine gM (by assumption) ?_;change jh _ _ _ _ PC;have hrl:=lr.lr;have TK:=lr.lu;have htr:=rs.tr.length;obtain⟨x8,hx8,hx8'⟩:=Z8 s_ t_ 8 (by lia);obtain⟨x9,QN,hx9'⟩:=Z8 s_ t_ 9 (by lia);obtain⟨x10,Zi,hx10'⟩:=Z8 s_ t_ 10 (by lia);obtain⟨x11,T',VR⟩:=Z8 s_ t_ 11 (by lia);obtain⟨x12,Zj,hx12'⟩:=Z8 s_ t_ 12 (by lia);obtain⟨x13,Zk,hx13'⟩:=Z8 s_ t_ 13 (by lia);walk_at "S";rfl';refine j4 (rs.sm.seq XB) hx8 ?_;rfl';refine j3 rs.t2 ?_;rfl';refine E4 (aY (.inl rs.h3) ?_);rw[j7];rfl';refine⟨_,_,rfl,?_⟩;generalize SA:(if 4 -(PR.length:Int)<x8 % 3 then 4 -(PR.length:Int) else x8 % 3)=cnt;have hc:0<=cnt/\cnt<=2/\PR.length+cnt.toNat<=4:=by subst SA;split<;>lia
    clear SA;rfl';refine Y3 (by lia) (by lia) ?_;refine K6 (n:=cnt.toNat) (λi σ H'=>(∃u:Nat->Option V,σ=[some (V.ref S.a),some (.ref lx),some (.ref lw),some (.ref lk),some (.ref lp),some (.ref lt),some (.ref lo),some (.ref wd),some (.ref a1),some (.ref a2),u 10,u 11,u 12,u 13,u 14,u 15,u 16,u 17])/\∃OV,RS K B H' wd d1 d2 d3 d4 a1 a2 (g5 pr) kL kR PL OV TL TR/\LR ws ps.length ts.length i 0 PL TL OV TR/\OV.length=PR.length+i/\∀y,(Wd ws 0 8 y\/False)->(y∈OV.map (·.1)↔y∈PR.map (·.1)))
     ⟨sg rfl,_,rs,lr,rfl,λ_ _=>VL⟩ (λi σ H' hi _=>by exact hi) ?_ ?_
    .clear rs lr;rintro i v σ TX PC hi ⟨⟨u,rfl⟩,OV,rs,lr,Zl,bP⟩ ⟨rfl,rfl⟩ _ _;replace hi:i<2/\PR.length+i<4:=by lia
     obtain⟨hi,hi4⟩:=hi;clear hc;obtain⟨wi,NR,RH⟩:=qh wl (8+i) (by lia);have T_:=RH (8+(0+(i:Int))) (by lia);obtain⟨kd,OU,D_⟩:=N4 (ss:=ks) (i:=x9/(0+(i:Int)+1) % (ks.length:Int)) (KG _ (by lia)) (Kv _ (by lia));rfl';refine j4 (rs.sm.seq XB) QN ?_;rfl';refine E4 (r9 (rs.sm.seq KB) ?_);rw[Jx];rfl';refine j4 (rs.sm.seq KB) OU ?_;rfl';refine j3 rs.t2 ?_;rfl';refine j4 (rs.sm.seq WB) T_ ?_;rfl';refine O9 (z6 (k:=Sum.inr wi) rs.h3 (d8 (by rw[j7];lia)) ?_);walk_at "X";exact⟨sg rfl,_,rs.set3 (kd:=kd) ne (lr.f3 wnd RG NR),lr.s3 wnd RG NR (kk _ D_),by rw[JG,JO];lia,λy hy=>by
      rw[w4,JD,JN,←bP y hy];refine⟨λz=>z.elim id λq=>?_,.inl⟩;subst q;exact(Wd.no wnd (hy.elim id False.elim) ⟨8+i,JA _,KP _,NR⟩ (.inl (by lia))).elim⟩
    .clear rs lr;rintro σ PC ⟨⟨u,rfl⟩,OV,rs,lr,Zl,bP⟩;refine⟨JA _,?_⟩;refine gM (by assumption) ?_;change jh _ _ _ _ PC;walk_at "S";rfl';refine j3 rs.t2 ?_;rfl';refine B9 (ss:=OV.map (·.1)) (.inl rs.h3) (by rw[J6,B6]) (by rw[Jx];lia) (λRa b1 b2 le nle=>?_);have ble:B le=none:=rs.sm.free nle;obtain⟨Sz,VH,SU,RD,_⟩:=b9 (o:= .lst _) nle;rw[VH];have PQ:=rs.mono RD;have gl:=b1.length_eq;rw[Jx] at gl;rfl';walk_at "S";rfl';refine j4 (PQ.sm.seq XB) Zi ?_;rfl';refine i9 PQ.t2 ?_;rfl';refine E4 (aY (.inl PQ.h4) ?_);rfl';refine⟨_,_,rfl,?_⟩;generalize SW:(if 4 -(kR.length:Int)<x10 % 3 then 4 -(kR.length:Int) else x10 % 3)=OW;have QZ:0<=OW/\OW<=2/\TR.length+OW.toNat<=4:=by subst SW;split<;>lia
     clear SW;rfl';refine⟨d8 (by simp),λl3 n3=>?_⟩;obtain⟨UK,Zm,VS,OT,_⟩:=b9 (o:= .lst []) n3;rw[Zm];refine xS (kX (SqL.of (OT _ _ SU)) (SqL.of VS) (U6 _) rfl ?_);refine .inr ⟨_,rfl,?_⟩;have VF:U5 (Ra.map V.str) []=decide (Ra=[]):=by cases Ra<;>rfl
     rw[VF];generalize hn:(if(!decide (Ra=[]))=true then(1:Int) else 0)=nn;have QQ:(nn=0\/nn=1)/\(nn=1->0<Ra.length):=by
      subst hn;cases Ra with
      |nil=>simp
      |cons _ _=>simp
     have Zn:d4≠le:=b5 rs.h4 nle;rfl';have hmul:0<=OW*nn/\OW*nn<=OW/\(0<OW*nn->nn=1):=by
      rcases QQ.1 with rfl|rfl<;>lia
     generalize OW*nn=cnt3 at hmul⊢;refine Y3 (by lia) (by lia) ?_;have PU:=PQ.mono OT;refine K6 (n:=cnt3.toNat) (λi σ H'=>(∃u:Nat->Option V,σ=[some (V.ref S.a),some (.ref lx),some (.ref lw),some (.ref lk),some (.ref lp),some (.ref lt),some (.ref lo),some (.ref wd),some (.ref a1),some (.ref a2),u 10,u 11,u 12,u 13,u 14,some (.ref le),u 16,u 17])/\H' le=some (.lst (Ra.map V.str))/\∃Xc Qq,RS K B H' wd d1 d2 d3 d4 a1 a2 (g5 pr) kL Xc PL OV TL Qq/\LR ws ps.length ts.length cnt.toNat i PL TL OV Qq/\Qq.length=TR.length+i/\∀y,(Wd ws 0 8 y\/False)->(y∈Qq.map (·.1)↔y∈TR.map (·.1)))
      ⟨sg rfl,OT _ _ SU,_,_,PU,lr,rfl,λ_ _=>VL⟩ (λi σ H' hi _=>by exact hi) ?_ ?_
     .clear rs PQ PU lr;rintro i v σ TX PC hi ⟨⟨u,rfl⟩,hle,Xc,Qq,rs,lr,Zo,bT⟩ ⟨rfl,rfl⟩ _ _;have Su:0<Ra.length:=QQ.2 (hmul.2.2 (by lia));replace hi:i<2/\TR.length+i<4:=by lia
      obtain⟨hi,hi4⟩:=hi;clear QZ hmul QQ;obtain⟨wi,NR,RH⟩:=qh wl (10+i) (by lia);have T_:=RH (10+(0+(i:Int))) (by lia);obtain⟨kd,OU,D_⟩:=N4 (ss:=ks) (i:=x11/(0+(i:Int)+1) % (ks.length:Int)) (KG _ (by lia)) (Kv _ (by lia));obtain⟨o1,Qz,W_⟩:=N4 (ss:=Ra) (i:=x12/(0+(i:Int)+1) % (Ra.length:Int)) (KG _ (by lia)) (Kv _ (by lia));obtain⟨o2,Qi,YT⟩:=N4 (ss:=Ra) (i:=x13/(0+(i:Int)+1) % (Ra.length:Int)) (KG _ (by lia)) (Kv _ (by lia));rfl';walk_at "S";rfl';refine j4 (rs.sm.seq XB) T' ?_;rfl';refine E4 (r9 (rs.sm.seq KB) ?_);rw[Jx];rfl';refine j4 (rs.sm.seq KB) OU ?_;rfl';walk_at "S";rfl';refine j4 (rs.sm.seq XB) Zj ?_;rfl';refine E4 (r9 (SqL.of hle) ?_);rw[Jx];rfl';refine j4 (SqL.of hle) Qz ?_;rfl';refine j4 (rs.sm.seq XB) Zk ?_;rfl';refine E4 (r9 (SqL.of hle) ?_);rw[Jx];rfl';refine j4 (SqL.of hle) Qi ?_;rfl';refine⟨d8 (by simp),λZf n13=>?_⟩;obtain⟨Xb,VP,TZ,OS,_⟩:=b9 (o:= .tup _) n13;rw[VP];have K':=rs.mono OS;have VT:=OS _ _ hle;rfl';refine i9 K'.t2 ?_;rfl';refine j4 (K'.sm.seq WB) T_ ?_;rfl';refine O9 (z6 (k:=Sum.inr wi) K'.h4 (d8 (by have:=K'.tr.length;lia)) ?_);walk_at "X";exact⟨sg rfl,by rw[d6 Zn.symm];exact VT,_,_,K'.set4 (kd:=kd) (o1:=o1) (o2:=o2) ne (lr.f4 wnd UJ NR) (SqT.of TZ),lr.s4 wnd UJ NR (kk _ D_) (b1.mem_iff.mp W_) (b1.mem_iff.mp YT),by rw[JG,JO];lia,λy hy=>by
       rw[w4,JD,JN,←bT y hy];refine⟨λz=>z.elim id λq=>?_,.inl⟩;subst q;exact(Wd.no wnd (hy.elim id False.elim) ⟨10+i,JA _,KP _,NR⟩ (.inl (by lia))).elim⟩
     .clear rs PQ PU lr;rintro σ G ⟨⟨u,rfl⟩,hle,Xc,Qq,rs,lr,Zo,bT⟩;refine⟨JA _,?_⟩;refine gM (by assumption) ?_;change jh _ _ _ _ G;walk_at "S";rfl';intro md nmd;obtain⟨G1,Zp,Zq,UN,_⟩:=b9 (o:= .dK []) nmd;rw[Zp];rfl';walk_at "S";rfl';have Zr:md≠wd:=(b5 rs.w nmd).symm;refine J2 (UN _ _ rs.w) (λZs o=>?_);have gm:z7 wd o (g5 pr) G md=none:=by unfold z7;rw[d6 Zr];exact nmd
      have sG:Same (z7 wd o (g5 pr) G) (z7 wd o (g5 pr) G1):=λb u e=>by
       unfold z7 at e⊢;by_cases hb:b=wd
       .subst hb;rw[d0] at e⊢;exact e
       .rw[d6 hb] at e⊢;exact UN _ _ e
      refine K6 (n:=(g5 pr).length) (λi σ H'=>(∃u:Nat->Option V,σ=[some (V.ref S.a),some (.ref lx),some (.ref lw),some (.ref lk),some (.ref lp),some (.ref lt),some (.ref lo),some (.ref wd),some (.ref a1),some (.ref a2),u 10,u 11,u 12,u 13,u 14,u 15,some (.ref md),u 17])/\Same (z7 wd o (g5 pr) G) H'/\H' md=some (.dK (g5 ((pr.take i).map N1))))
       ⟨sg rfl,sG,by unfold z7;rw[d6 Zr];exact Zq⟩ (λi σ H' hi hp=>⟨hp.2.1 _ _ d0,hi⟩) ?_ ?_
      .rintro i v σ G2 G2' hi ⟨⟨u,rfl⟩,s2',D_⟩ ⟨t,kv,f_,nt,rfl,rfl⟩ _ _;obtain⟨⟨n,s⟩,Xd,rfl⟩:=V0 f_;have e7:pr.take (i+1)=pr.take i++[(n,s)]:=by rw[Kb,Xd];rfl
       have PJ:s∉((pr.take i).map N1).map (·.1):=λz=>by
        rw[Km] at z;have z2:((pr.take (i+1)).map (·.2)).Nodup:=mp.n2.sublist ((KO _ _).map _);rw[e7,Y0] at z2;exact(JQ.mp z2).2.2 s z s (by simp) rfl
       obtain⟨G3,Zt,Zu,UO,_⟩:=b9 (o:= .tup _) nt;rw[Zt];refine F5 (SqT.of Zu) rfl ?_;rfl';refine O9 (z6 (k:=Sum.inr s) (UO _ _ D_) (d8 (by rw[j7,Jx,JP];lia)) ?_);walk_at "X";refine⟨sg rfl,D5 (s2'.trans UO) gm,?_⟩;rw[d0,e7,JF];exact KQ (λz=>some (HO.dK z)) ((X3 (kd:=n) PJ).trans rfl)
      .rintro σ G2 ⟨⟨u,rfl⟩,s2',D_⟩;rw[j7,JK (JA _)] at D_;refine⟨⟨s2' _ _ d0,JA _⟩,?_⟩;have sG2:=s2'.thaw rs.w;have VU:thaw wd G2 md=some (.dK (g5 (pr.map N1))):=by rw[O0 Zr];exact D_
       have rs2:=rs.mono sG2;refine gM (by assumption) ?_;change yz _ _ _ (thaw wd G2);generalize thaw wd G2=G3 at sG2 rs2 VU⊢;rfl';refine⟨d8 (by simp),λbl nbl=>?_⟩;obtain⟨G4,e4',VW,Xe,_⟩:=b9 (o:= .lst []) nbl;rw[e4'];rfl';refine⟨d8 (by simp),λr nr=>?_⟩;obtain⟨G5,e5',Zv,Xf,_⟩:=b9 (o:= .tup _) nr;rw[e5'];rfl';refine⟨d8 (by simp),λt nt=>?_⟩;obtain⟨G6,e6',f6',VX,_⟩:=b9 (o:= .tup _) nt;rw[e6'];have QX:=rs2.mono (Xe.trans (Xf.trans VX));have hcn:cnt.toNat<=2:=by lia
       have hcm:cnt3.toNat<=2:=by lia
       have hTR:Qq.length<=4:=by lia
       have hPR:OV.length<=4:=by lia
       have VY:=lr.rule wnd wk RG UJ hcn hcm hPR hTR;have hold:∀y∈pr.map (·.2),Wd ws 0 8 y:=λy hy=>by rw[mp.wd] at hy;exact lr.nmL RG UJ y hy
       have hRn:∀y∈pr.map (·.2),(y∈b7 ⟨OV,Qq⟩↔y∈PR.map (·.1)++TR.map (·.1)):=λy hy=>by
        have wy:=hold y hy;show y∈OV.map (·.1)++Qq.map (·.1)↔_;rw[JD,JD];exact⟨λz=>z.elim (λz=> .inl ((bP y (.inl wy)).mp z)) λz=> .inr ((bT y (.inl wy)).mp z),λz=>z.elim (λz=> .inl ((bP y (.inl wy)).mpr z)) λz=> .inr ((bT y (.inl wy)).mpr z)⟩
       have F_:∀n∈b7 ⟨OV,Qq⟩,n∉b7 ⟨PL,TL⟩->Wd ws 8 12 n:=λn hn g_=>by
        rcases JD.mp (show n∈OV.map (·.1)++Qq.map (·.1) from hn) with z|z
        .obtain⟨y,hy,rfl⟩:=Jz.mp z;rcases(lr.pr y hy).1 with q|q
         .exact absurd (JB _ (Jz.mpr ⟨y,q,rfl⟩)) g_
         .exact q.up (JA _) (by lia)
        .obtain⟨y,hy,rfl⟩:=Jz.mp z;rcases(lr.tr y hy).1 with q|q
         .exact absurd (JE _ (Jz.mpr ⟨y,q,rfl⟩)) g_
         .exact q.up (by lia) (by lia)
       have nlk:∀{x:Str},K8 x=true->x.length<=100:=λh=>by have:=mY h;lia
       refine k t r md bl ⟨a1,d1,d2,kL,⟨PL,TL⟩⟩ ⟨a2,d3,d4,Xc,⟨OV,Qq⟩⟩ pr os G6 (SS.trans QX.sm) f6' (VX _ _ (Xf _ _ (Xe _ _ VU))) (VX _ _ (Xf _ _ VW)) ⟨SqT.of (VX _ _ Zv),?_,?_,SqL.of (VX _ _ (Xf _ _ VW)),λ_ h=>nomatch h⟩ VY (mp.sR (Rn':=b7 ⟨OV,Qq⟩) hRn) ok.lo (λn hn=>by rw[QV];exact ok.sub n hn) F_ (lr.nmL RG UJ)
       .exact⟨⟨QX.t1,.inl QX.h1,.inl QX.h2,QX.tl⟩,QX.h1,QX.h2,ne.n12,lr.ndL wnd RG,by rw[A5];have q1:PL.length<=4:=VY.l.l1;have q2:TL.length<=4:=VY.l.l2;show PL.length+TL.length<=24;lia,λx hx=>(lr.tl x hx).2.2,λx hx=>nlk (VY.l.kds x hx)⟩
       .exact⟨⟨QX.t2,.inl QX.h3,.inl QX.h4,QX.tr⟩,QX.h3,QX.h4,ne.n34,lr.ndR wnd RG UJ hcn hcm,by rw[A5];show OV.length+Qq.length<=24;lia,λx hx=>(lr.tr x hx).2.2,λx hx=>nlk (VY.r.kds x hx)⟩
theorem EqN.of0 {H:Hp}{x y:V}{b:Bool}(h:EqN K H 0 x y b):∀n,EqN K H n x y b
 |0=>h
 |n+1=> .inl (EqN.of0 h n)
theorem kP {H:Hp}{A C:Sd}{n:Nat}(h:SdIs K H A)(h':SdIs K H C)(p1:A.W.pts.Perm C.W.pts)(p2:A.W.ts.Perm C.W.ts)(hp:A.p≠C.p)(hq:A.q≠C.q):EqN K H (n+1) (.ref A.a) (.ref C.a) true:=by
 by_cases e:A.a=C.a
 .exact EqN.of0 (.inr ⟨A.a,C.a,rfl,rfl,.inl ⟨e,rfl⟩⟩) _
 .refine .inr ⟨A.a,C.a,[.ref A.p,.ref A.q],[.ref C.p,.ref C.q],[true,true],rfl,rfl,e,.inl ⟨h.at_.tup,h'.at_.tup⟩,rfl,rfl,λj x y b hx hy hb=>?_,rfl⟩;match j,hx,hy,hb with
  |0,hx,hy,hb=>
   cases hx;cases hy;cases hb
   exact EqN.of0 (.inr ⟨A.p,C.p,rfl,rfl,dQ hp h.at_.pts h'.at_.pts p1 (A6 h'.nd)⟩) _
  |1,hx,hy,hb=>
   cases hx;cases hy;cases hb
   exact EqN.of0 (.inr ⟨A.q,C.q,rfl,rfl,dw hq h.at_.ties h'.at_.ties h.at_.ts h'.at_.ts p2 (K2 h'.nd)⟩) _
  |j+2,hx,_,_=>cases hx
theorem zz {W W':B0}(p1:W'.pts.Perm W.pts)(p2:W'.ts.Perm W.ts):(b7 W').Perm (b7 W):=(p1.map _).append (p2.map _)
theorem pF:∀{a b:List Str},a.Pairwise Ck->b.Pairwise Ck->(∀x,x∈a↔x∈b)->a=b
 |[],[],_,_,_=>rfl
 |[],y::t,_,_,h=>absurd ((h y).mpr JT) (by simp)
 |x::r,[],_,_,h=>absurd ((h x).mp JT) (by simp)
 |x::r,y::t,h1,h2,h=>by
  have Od:=LS.mp h1;have RX:=LS.mp h2;have irr:∀z:Str,¬Ck z z:=λz=>Nb _;have e:x=y:=KZ λne=>by
   rcases Kl.mp ((h x).mp JT) with z|z
   .exact ne z
   .rcases Kl.mp ((h y).mpr JT) with z'|z'
    .exact ne z'.symm
    .have q1:y.cps.toList<x.cps.toList:=RX.1 x z;have q2:x.cps.toList<y.cps.toList:=Od.1 y z';exact Nk q1 q2
  subst e;rw[pF Od.2 RX.2 λz=>⟨λhz=>?_,λhz=>?_⟩]
  .rcases Kl.mp ((h z).mp (JZ _ hz)) with e|e
   .exact absurd (Od.1 z hz) (by rw[e];exact irr _)
   .exact e
  .rcases Kl.mp ((h z).mpr (JZ _ hz)) with e|e
   .exact absurd (RX.1 z hz) (by rw[e];exact irr _)
   .exact e
theorem Ordr.r1 {W:B0}{s1 s2:List Str}(h:Ordr W s1 s2)(nd:(b7 W).Nodup):s1.Pairwise Ck:=bj (dE h.o1 (h.p1.nodup_iff.mpr (A6 nd)))
theorem Ordr.r2 {W:B0}{s1 s2:List Str}(h:Ordr W s1 s2)(nd:(b7 W).Nodup):s2.Pairwise Ck:=bj (dE h.o2 (h.p2.nodup_iff.mpr (K2 nd)))
theorem Ordr.uniq {W W':B0}{s1 s2 t1 t2:List Str}(h:Ordr W s1 s2)(h':Ordr W' t1 t2)(p1:W'.pts.Perm W.pts)(p2:W'.ts.Perm W.ts)(nd:(b7 W).Nodup):t1=s1/\t2=s2:=by
 have nd':(b7 W').Nodup:=(zz p1 p2).nodup_iff.mpr nd;exact⟨pF (h'.r1 nd') (h.r1 nd) λx=>by rw[h'.p1.mem_iff,h.p1.mem_iff,(p1.map _).mem_iff],pF (h'.r2 nd') (h.r2 nd) λx=>by rw[h'.p2.mem_iff,h.p2.mem_iff,(p2.map _).mem_iff]⟩
def DK (H:Hp)(a:Addr):Prop:=∃k,H a=some (.dK k)
structure Wb (K:Qe) (H:Hp) (s:Sd):Prop where
 t:SqT K H s.a [.ref s.p,.ref s.q]
 p:DK H s.p
 q:DK H s.q
def ao (gs:List Str)(W:B0):B0:=⟨W.pts.filter λx=>!decide (x.1∈gs),W.ts.filter λx=>!decide (x.1∈gs)⟩
def oz (gs:List Str)(W:B0):Bool:=(ao gs W).ts.any λx=>decide (x.2.2.1∈gs)||decide (x.2.2.2∈gs)
def jQ (K:Qe):Sp:=λvs H Q E=>∃(a l p q:Addr) (kvs:List (j0×V)) (W:B0) (gs:List Str),vs=[.ref a,.ref l]/\WebAt K H a p q kvs W/\H p=some (.dK (g5 W.pts))/\H q=some (.dK kvs)/\SqL K H l (gs.map V.str)/\(W.pts.map (·.1)).Nodup/\(W.ts.map (·.1)).Nodup/\W.pts.length<=60/\W.ts.length<=60/\(∀x∈W.ts,x.1.length<=100)/\
 if oz gs W=true then ∀H' e,Same H H'->H' e=none->E (.ref (cA K "Loose")) (some e) H' else NewP K H Q (ao gs W)
theorem NewP.mono {K:Qe}{H H1:Hp}{Q:VK}{W:B0}(s:Same H H1)(k:NewP K H Q W):NewP K H1 Q W:=λa p q kvs W' H' s' h1 h2 h3 h4 h5 h6 h7 h8=>k a p q kvs W' H' (s.trans s') h1 h2 h3 h4 (s.free h5) (s.free h6) h7 h8
abbrev nH (P:Program)(w:World)(K:Qe)(mg:Str->Option Value)(base:Heap):Prop:=V9 P w K mg base (rV P w) 3 "without" ["web","names"] [] (jQ K)
theorem se {f:Addr}{fd:FuncData}(T:Txt K mg)(N0:dC P w K mg base)(F:Fun K "without" "without" iu f fd):C0 P w K mg base (rV P w) 3 f fd ["web","names"] (jQ K):=by
 refine F.okE sc_without (λvs H Q E h=>?_) (λc_ A outer s H vs Q E hr h=>?_)
 .obtain⟨a,l,p,q,kvs,W,gs,rfl,_⟩:=h;rfl
 .obtain⟨a,l,p,q,kvs,W,gs,rfl,hW,hp,hq,hL,nd1,Rz,l1,l2,UC,k⟩:=h;have Qu:=j7 W.pts;have OL:=hW.ts.length;walk_at "@sc_without 42F3xname,kind;1;)10yb0lname,kind,names;b1lname,kind,names;zPoD002njk0143F3xname,tie;1;)10yb0lname,tie,names;b1lname,tie,names;zPoD002njk017v~vrtWVU53g49dsATuIec304201nuIec304201nd~i'0T.r_Loose L3'1Je 04a6~73jk23"
  symm;refine j3 hW.tup ?_;refine J2 hp (λTx o1=>?_);refine z8 (n:=(g5 W.pts).length) (λi out H'=>Same (z7 p o1 (g5 W.pts) H) H'/\Paired (PrV K H') out (g5 ((W.pts.take i).filter λx=>!decide (x.1∈gs)))) ⟨Same.refl _,.nil⟩ (λi out H' hi hp=>⟨hp.1 _ _ d0,hi⟩) ?_ ?_
  .rintro N i v out H1 H2 hi ⟨s1,pr⟩ ⟨t,kv,f_,nt,rfl,rfl⟩ hN';obtain⟨x,hx,rfl⟩:=V0 f_;obtain⟨H3,e3,f3,m3,_⟩:=b9 (o:= .tup _) nt;rw[e3];have L3:=((K5 (o:=o1) hp).trans (s1.trans m3).le).lst hL;have e7:W.pts.take (i+1)=W.pts.take i++[x]:=by rw[Kb,hx];rfl
   have I_:=Kr pr;have J':=JJ (λx:Str×Str=>!decide (x.1∈gs)) (W.pts.take i);rw[j7] at I_;rw[JP] at J';refine F5 (SqT.of f3) rfl ?_;symm;refine⟨rfl,?_⟩;symm;refine E2 L3 ?_;symm;refine fR (λhb=>?_) (λhb=>?_)
   .symm;refine⟨d8 (by simp),λt4 n4=>?_⟩;obtain⟨H4,e4,f4,m4,_⟩:=b9 (o:= .tup _) n4;rw[e4];refine⟨d8 (by lia),hN' _ _ ⟨s1.trans (m3.trans m4),?_⟩⟩;rw[e7,Ka,Ki (by rw[hb];rfl),KD];unfold g5 at pr⊢;rw[JF];exact A7 (Paired.imp' (λ_ _ z=>PrV.mono (m3.trans m4).le z) pr) ⟨t4,rfl,SqT.of f4⟩
   .refine hN' _ _ ⟨s1.trans m3,?_⟩;rw[e7,Ka,Kp (by rw[hb];simp),KD,Ku];exact Paired.imp' (λ_ _ z=>PrV.mono m3.le z) pr
  .rintro out H1 ⟨s1,pr⟩;have I_:=Kr pr;have J':=JJ (λx:Str×Str=>!decide (x.1∈gs)) (W.pts.take (g5 W.pts).length);rw[j7] at I_;rw[JP] at J';refine⟨⟨s1 _ _ d0,JA _⟩,λD hD=>⟨d8 (by lia),?_⟩⟩;have sM:=O1 hp s1 hD (u:= .lst out);have fM:=Z3 s1 hD (u:= .lst out);have Ua:=Paired.imp' (λ_ _ z=>PrV.mono (oO (d:=p) (u:= .lst out) hD) z) pr;generalize thaw p (p5 H1 D (.lst out))=HM at sM fM Ua⊢;rw[JK (by lia)] at Ua;symm;refine X8 (SqL.of fM) Ua (d8 (by rw[j7];refine Kg (JJ _ _) ?_;lia)) (λpp npp=>?_);have eP:bf (g5 (W.pts.filter λx=>!decide (x.1∈gs)))=g5 (ao gs W).pts:=Z9 (P8 (R0 nd1));rw[eP];obtain⟨H2,e2,f2,m2,_⟩:=b9 (o:= .dK (g5 (ao gs W).pts)) npp;show O8 _ _ _ (p5 HM pp (.dK (g5 (ao gs W).pts))) _;rw[e2];have s2:=sM.trans m2;have W2:=hW.mono s2.le;have Qr:=s2 _ _ hq;have L2':=s2.seq hL;symm;refine i9 W2.tup ?_;refine J2 Qr (λRv o2=>?_);refine z8 (n:=kvs.length) (λi out H'=>Same (z7 q o2 kvs H2) H'/\Paired (PrV K H') out ((kvs.take i).filter λkv=>!gj gs kv.1)) ⟨Same.refl _,.nil⟩ (λi out H' hi hp=>⟨hp.1 _ _ d0,hi⟩) ?_ ?_
   .rintro N i v out H3 H3' hi ⟨s3,pr3⟩ ⟨t,kv,f_,nt,rfl,rfl⟩ hN';obtain⟨H4,e4,f4,m4,_⟩:=b9 (o:= .tup _) nt;rw[e4];have QH:=(K5 (o:=o2) Qr).trans (s3.trans m4).le;have L4:=QH.lst L2';obtain⟨x,hx,ex,b,eb,sb⟩:=(W2.ts.mono QH).get f_;obtain⟨kk,QD⟩:=kv;have N':kk=Sum.inr x.1:=ex;have QF:QD= .ref b:=eb;subst N' QF;have e7:kvs.take (i+1)=kvs.take i++[(Sum.inr x.1,.ref b)]:=by rw[Kb,f_];rfl
    have Zw:=Kr pr3;have PY:=JJ (λkv:j0×V=>!gj gs kv.1) (kvs.take i);rw[JP] at PY;refine F5 (SqT.of f4) rfl ?_;symm;refine⟨rfl,?_⟩;symm;refine E2 L4 ?_;symm;refine fR (λhb=>?_) (λhb=>?_)
    .symm;refine⟨d8 (by simp),λt5 n5=>?_⟩;obtain⟨H5,e5,f5,m5,_⟩:=b9 (o:= .tup _) n5;rw[e5];refine⟨d8 (by lia),hN' _ _ ⟨s3.trans (m4.trans m5),?_⟩⟩;rw[e7,Ka,Ki (p:=λkv:j0×V=>!gj gs kv.1) (by show(!decide (x.1∈gs))=true;rw[hb];rfl),KD];exact A7 (Paired.imp' (λ_ _ z=>PrV.mono (m4.trans m5).le z) pr3) ⟨t5,rfl,SqT.of f5⟩
    .refine hN' _ _ ⟨s3.trans m4,?_⟩;rw[e7,Ka,Kp (p:=λkv:j0×V=>!gj gs kv.1) (by show ¬(!decide (x.1∈gs))=true;rw[hb];simp),KD,Ku];exact Paired.imp' (λ_ _ z=>PrV.mono m4.le z) pr3
   .rintro SD H3 ⟨s3,pr3⟩;have Zw:=Kr pr3;have PY:=JJ (λkv:j0×V=>!gj gs kv.1) (kvs.take kvs.length);rw[JP] at PY;refine⟨⟨s3 _ _ d0,JA _⟩,λD3 hD3=>⟨d8 (by lia),?_⟩⟩;have Zx:=O1 Qr s3 hD3 (u:= .lst SD);have fM3:=Z3 s3 hD3 (u:= .lst SD);have Ub:=Paired.imp' (λ_ _ z=>PrV.mono (oO (d:=q) (u:= .lst SD) hD3) z) pr3;generalize thaw q (p5 H3 D3 (.lst SD))=HM3 at Zx fM3 Ub⊢;rw[JK (JA _)] at Ub;have Xg:((kvs.filter λkv=>!gj gs kv.1).map (·.1)).Nodup:=R0 Rv;symm;refine X8 (SqL.of fM3) Ub (d8 (by refine Kg (JJ _ _) ?_;lia)) (λqq nqq=>?_);rw[Z9 Xg];obtain⟨H4,e4,f4,m4,_⟩:=b9 (o:= .dK (kvs.filter λkv=>!gj gs kv.1)) nqq;show O8 _ _ _ (p5 HM3 qq _) _;rw[e4];have s4:=s2.trans (Zx.trans m4);have W4:=hW.mono s4.le;have TT:TiesIs K H4 (kvs.filter λkv=>!gj gs kv.1) (ao gs W).ts:=Y7 (λkv x z=>by rw[z.1];rfl) W4.ts;have VZ:=(Zx.trans m4) _ _ f2;generalize hkf:(kvs.filter λkv=>!gj gs kv.1)=kvf at TT f4 Xg;have lkf:kvf.length<=60:=by rw[←hkf];refine Kg (JJ _ _) ?_;lia
    have L4:=s4.seq hL;symm;refine B9 (ss:=(ao gs W).ts.map (·.1)) (.inl f4) (by rw[TT.keys,B6]) (by rw[Jx,←TT.length];lia) (λs1 a1 a2 ls1 n1=>?_);obtain⟨H5,e5,f5,m5,_⟩:=b9 (o:= .lst _) n1;rw[e5];have ndt:((ao gs W).ts.map (·.1)).Nodup:=R0 Rz;refine A8 (SqL.of f5) ?_;refine K6 (n:=s1.length) (λi σ H'=>Same H5 H'/\(∃v4,σ=[some (.ref a),some (.ref l),some (.ref pp),some (.ref qq),v4])/\∀n∈s1.take i,∀t:M8,(n,t)∈(ao gs W).ts->(decide (t.2.1∈gs)||decide (t.2.2∈gs))=false) ⟨Same.refl _,⟨_,rfl⟩,by simp⟩ (λi σ H' hi hp=>⟨_,.str (s1[i]),SqL.of (hp.1 _ _ f5),by rw[JC,Jy hi];rfl⟩) ?_ ?_
    .rintro i v σ H6' H6 hi ⟨s6,⟨v4,rfl⟩,ha⟩ y _ _;obtain⟨rfl,hx⟩:=Itl.get y (SqL.of (s6 _ _ f5));rw[JC] at hx;obtain⟨nm,k_,rfl⟩:=Kd.mp hx;have Qv:=a1.mem_iff.mp (JM k_);obtain⟨⟨UQ,tt⟩,j_,rfl⟩:=Jz.mp Qv;have UR:=m5.trans s6;obtain⟨c,ev,sc⟩:=gK (TT.mono UR.le) ndt j_;have L6:=UR.seq L4;have F6:Rd H6 qq (.dK kvf):= .inl (UR _ _ f4);have loud:(decide (tt.2.1∈gs)||decide (tt.2.2∈gs))=true->∀e,H6 e=none->E (.ref (cA K "Loose")) (some e) H6:=λhb e he=>by
      have hl:oz gs W=true:=LC.mpr ⟨_,j_,hb⟩;rw[if_pos hl] at k;exact k H6 e (s4.trans UR) he
     have hlen1:UQ.length<=100:=UC _ (JH.mp j_).1;have hlen2:(" is not taken out, but an end of it is":Str).length<=100:=by decide+kernel
     symm;refine k8 (v:= .ref c) (by have z':=E1 (k:=Sum.inr UQ) F6;rw[ev] at z';exact z') ?_;symm;refine i9 sc ?_;symm;refine dN L6 ?_;symm;refine K4 (λh1=>?_) (λh1=>?_)
     .symm;refine⟨UQ,rfl,by lia,λz=>?_⟩;symm;walk_at "X";exact⟨d8 (by simp),loud (by rw[JX h1];rfl)⟩
     .symm;refine k8 (v:= .ref c) (by have z':=E1 (k:=Sum.inr UQ) F6;rw[ev] at z';exact z') ?_;symm;refine V5 sc ?_;symm;refine dN L6 ?_;symm;refine K4 (λh2=>?_) (λh2=>?_)
      .symm;refine⟨UQ,rfl,by lia,λz=>?_⟩;symm;walk_at "X";exact⟨d8 (by simp),loud (by rw[JX h2,Bool.or_true])⟩
      .symm;refine⟨s6,⟨_,rfl⟩,λn hn t ht=>?_⟩;rw[Kb,k_] at hn;rcases JD.mp hn with h'|h'
       .exact ha n h' t ht
       .have Sh:n=UQ:=by simpa using h'
        subst Sh;rw[A9 ndt ht j_,Kf h1,Kf h2];rfl
    .rintro σ H6 ⟨s6,⟨v4,rfl⟩,ha⟩;refine⟨⟨_,SqL.of (s6 _ _ f5),by rw[Jx];exact JA _⟩,?_⟩;rw[JK (JA _)] at ha;have hl:¬oz gs W=true:=λz=>by
      obtain⟨x,hx,hb⟩:=LC.mp z;rw[ha x.1 (a1.mem_iff.mpr (Jz.mpr ⟨x,hx,rfl⟩)) x.2 hx] at hb;cases hb
     rw[if_neg hl] at k;have UR:=m5.trans s6;symm;refine⟨d8 (by simp),λt9 n9=>?_⟩;obtain⟨H9,e9,f9,m9,_⟩:=b9 (o:= .tup _) n9;rw[e9];have Xh:=UR.trans m9;symm;exact⟨t9,pp,qq,kvf,ao gs W,rfl,⟨SqT.of f9,.inl (Xh _ _ VZ),.inl (Xh _ _ f4),TT.mono Xh.le⟩,R0 nd1,ndt,Kg (JJ _ _) l1,Kg (JJ _ _) l2,NewP.mono (s4.trans Xh) k⟩
def uf (K:Qe):Sp:=λvs H Q _=>∃(a p q d:Addr) (kvs:List (j0×V)) (W:B0) (kvm:List (j0×V)),vs=[.ref a,.ref d]/\WebAt K H a p q kvs W/\(b7 W).length<=60/\Rd H d (.dK kvm)/\(∀n∈b7 W,TxtAt kvm n)/\∀(l:Addr) (H':Hp) (s1 s2:List Str),H l=none->Same H H'->H' l=some (.lst (((s1++s2).map (i7 kvm)).map V.str))->Ordr W s1 s2->Q (.ref l) H'
abbrev zN (P:Program)(w:World)(K:Qe)(mg:Str->Option Value)(base:Heap):Prop:=V9 P w K mg base E7 2 "line" ["piece","match"] [] (uf K)
theorem BD {f:Addr}{fd:FuncData}(T:Txt K mg)(A4:V1 P w K mg base)(F:Fun K "line" "line" rZ f fd):C0 P w K mg base E7 2 f fd ["piece","match"] (uf K):=by
 walk_at "#sc_line"
 .obtain⟨a,p,q,d,kvs,W,kvm,rfl,_⟩:=h;rfl
 .obtain⟨a,p,q,d,kvs,W,kvm,rfl,hW,hl,hD,hT,k⟩:=h;walk_at "@sc_line axname;1;r6]50g0lname,match;Jc100";symm;refine⟨a,p,q,kvs,W,rfl,hW,hl,λl1 H1 s1 s2 n1 m1 f1 or=>?_⟩;have hlen:=or.len;refine A8 (SqL.of f1) ?_;refine z8 (n:=(s1++s2).length) (λi out H'=>Same H1 H'/\out=((s1++s2).take i).map λn=>V.str (i7 kvm n)) ⟨Same.refl _,rfl⟩ (λi out H' hi hp=>⟨_,.str ((s1++s2)[i]),SqL.of (hp.1 _ _ f1),by rw[JC,Jy hi];rfl⟩) ?_ ?_
  .rintro N i v out H2 H3 hi ⟨s3,rfl⟩ y hN';obtain⟨rfl,hx⟩:=Itl.get y (SqL.of (s3 _ _ f1));rw[JC,Jy hi] at hx;cases hx;symm;refine⟨rfl,?_⟩;symm;refine zf ((m1.trans s3).rd hD) (hT _ (or.mem.mp (Kn hi))) ?_;refine⟨d8 (by rw[Jx,JP];lia),hN' _ _ ⟨s3,?_⟩⟩;exact K9 (λn:Str=>V.str (i7 kvm n)) (Jy hi)
  .rintro out H2 ⟨s3,rfl⟩;refine⟨⟨_,SqL.of (s3 _ _ f1),by rw[Jx];exact JA _⟩,λD hD'=>⟨d8 (by rw[Jx,JP];lia),?_⟩⟩;rw[JK (JA _)];obtain⟨H3,e3,f3,m3,_⟩:=b9 (o:= .lst ((s1++s2).map λn=>V.str (i7 kvm n))) hD';refine k D _ s1 s2 ((m1.trans s3).free hD') ?_ ?_ or
   .show Same _ (p5 _ D _);rw[e3];exact m1.trans (s3.trans m3)
   .show p5 _ D _ D=_;rw[d0,Km];rfl
open Classical in
noncomputable def wC (P W:B0)(kvm:List (j0×V)):Bool:=decide (ei P W kvm)
open Classical in
theorem jN {P W:B0}{kvm:List (j0×V)}(h:¬ei P W kvm):wC P W kvm=false:=by unfold wC;exact Kf h
open Classical in
theorem uu {P W:B0}{kvm:List (j0×V)}(h:ei P W kvm):wC P W kvm=true:=by unfold wC;exact JX h
def IE (K:Qe)(PG:Program)(w:World)(H:Hp)(mv:V)(P W:B0)(b:Bool):Prop:=
 (∃t,TyB K H mv t/\t≠"dict"/\b=false)\/
 (∃d n,mv= .ref d/\H d=some (.ext (bJ PG w d n))/\n<=1000/\n≠(b7 P).length/\b=false)\/
 (∃d kvm,mv= .ref d/\H d=some (.dK kvm)/\(kvm.map (·.1)).Nodup/\kvm.length<=100/\(∀kv∈kvm,∃t,TyB K H kv.2 t)/\b=wC P W kvm)
theorem Et {t:String}(h:t≠"dict"):ig t "dict"=false:=by
 unfold ig;rw[show(t=="dict")=false by simpa using h];simp
def Ak (kvm:List (j0×V))(n:Str):Bool:=match z0 kvm (Sum.inr n:j0) with
 |some (.str _)=>true
 |_=>false
theorem txB_iff {kvm:List (j0×V)}{n:Str}:Ak kvm n=true↔TxtAt kvm n:=by grind [Ak,TxtAt]
theorem DJ {H:Hp}{v:V}{t:String}(h:TyB K H v t):ig t "str"=(match v with| .str _=>true|_=>false):=by grind [cases V,TyB,ig]
theorem DC {H:Hp}{kvm:List (j0×V)}(h:∀kv∈kvm,∃t,TyB K H kv.2 t)(n:Str):∃t,TyB K H ((z0 kvm (Sum.inr n:j0)).getD .non) t/\ig t "str"=Ak kvm n:=by
 unfold Ak;cases e:z0 kvm (Sum.inr n:j0) with
 |none=>exact⟨"NoneType",rfl,rfl⟩
 |some v=>
  obtain⟨t,ht⟩:=h _ (oA e)
  refine⟨t,ht,?_⟩
  rw[DJ (v:=v) ht]
  cases v<;>rfl
def iV (K:Qe)(P:Program)(w:World):Sp:=λvs H Q _=>∃(a p q a' p' q':Addr) (kvs d_:List (j0×V)) (Pc W:B0) (mv:V) (b:Bool),vs=[.ref a,.ref a',mv]/\WebIs 24 K H a p q kvs Pc/\WebIs 24 K H a' p' q' d_ W/\IE K P w H mv Pc W b/\∀H',Same H H'->Q (.bl b) H'
abbrev kH (P:Program)(w:World)(K:Qe)(mg:Str->Option Value)(base:Heap):Prop:=V9 P w K mg base E7 3 "is_match" ["piece","web","match"] [] (iV K P w)
theorem qE {f:Addr}{fd:FuncData}(T:Txt K mg)(A4:V1 P w K mg base)(sD:zN P w K mg base)(E6:Y2 P w K mg base)(F:Fun K "is_match" "is_match" fu f fd):C0 P w K mg base E7 3 f fd ["piece","web","match"] (iV K P w):=by
 walk_at "#sc_is_match"
 .obtain⟨a,p,q,a',p',q',kvs,d_,Pc,W,mv,b,rfl,_⟩:=h;rfl
 .obtain⟨a,p,q,a',p',q',kvs,d_,Pc,W,mv,b,rfl,hP,hW,hM,k⟩:=h;have hPl:=hP.len;walk_at "@sc_is_match 436]507sATOt[@?823>~l~1~kuXq52q53hS7sOt|{`3xname;2;r03g0lname,match;Jt[@?i~j0100>~r'0T.b_str ~qS7suXq3-'2GR %L'0T.b_set ~w36'0sD k02q53hS7sOt|{`3xname,kind;21;)10yb0lname,kind,match,web;b1lname,kind,match,web;zJHK~j13c20001hSat|{`3xname,tie;21;)10yb0lname,tie,match,web;b1lname,tie,match,web;zJHK~j13c2006'0E6 k12h"
  symm;refine⟨a,p,q,kvs,Pc,rfl,hP.at_,by lia,λln H1 s1 s2 n1 m1 f1 or=>?_⟩;have hlen:=or.len;symm;rcases hM with⟨t,ty,ht,rfl⟩|⟨d,n,rfl,hd,hn,q_,rfl⟩|⟨d,kvm,rfl,hD0,US,hml,Sl,rfl⟩
  .refine eE (eO (ty.mono m1) (by simp) ?_);rw[Et ht];symm;exact k _ m1
  .refine .inr ⟨d,n,"dict",rfl,m1 _ _ hd,by simp,?_⟩;rw[Ad];symm;refine Ah (m1 _ _ hd) hn ?_;symm;refine E4 (r9 (SqL.of f1) ?_);rw[Jx,hlen];symm;refine N2 (λhz=>?_) (λhz=>absurd (Pq.mp hz) q_);symm;exact k _ m1
  have hD:Rd H d (.dK kvm):= .inl hD0;have D1:=m1.rd hD;refine eE (eO (t:="dict") (.inr (.inr ⟨rfl,_,D1⟩)) (by simp) ?_);rw[Ad];symm;refine E4 (aY D1 ?_);symm;refine E4 (r9 (SqL.of f1) ?_);rw[Jx,hlen];symm;refine N2 (λhz=>?_) (λhz=>?_)
  .symm;rw[←jN (P:=Pc) (W:=W) (kvm:=kvm) (λz=>hz (by rw[z.len]))];exact k _ m1
  have Ts:kvm.length=(b7 Pc).length:=Pq.mp hz;symm;refine A8 (SqL.of f1) ?_;refine z8 (n:=(s1++s2).length) (λi out H'=>Same H1 H'/\out=((s1++s2).take i).map λn=>V.bl (Ak kvm n)) ⟨Same.refl _,rfl⟩ (λi out H' hi hp=>⟨_,.str ((s1++s2)[i]),SqL.of (hp.1 _ _ f1),by rw[JC,Jy hi];rfl⟩) ?_ ?_
  .rintro N i v out H2 H3 hi ⟨s3,rfl⟩ y hN';obtain⟨rfl,hx⟩:=Itl.get y (SqL.of (s3 _ _ f1));rw[JC,Jy hi] at hx;cases hx;symm;refine⟨rfl,?_⟩;symm;refine⟨d,rfl,.inl ⟨_,s3.rd D1⟩,?_⟩;symm;refine⟨_,E1 (k:=Sum.inr (s1++s2)[i]) (s3.rd D1),?_⟩;obtain⟨t,ht,e⟩:=DC (K:=K) Sl (s1++s2)[i];symm;refine eE (eO (ht.mono (m1.trans s3)) (by simp) ?_);rw[e];refine⟨d8 (by rw[Jx,JP];lia),hN' _ _ ⟨s3,?_⟩⟩;exact K9 (λn:Str=>V.bl (Ak kvm n)) (Jy hi)
  .rintro out H2 ⟨s3,rfl⟩;refine⟨⟨_,SqL.of (s3 _ _ f1),by rw[Jx];exact JA _⟩,λD hD'=>⟨d8 (by rw[Jx,JP];lia),?_⟩⟩;rw[JK (JA _)];have e9:((s1++s2).map λn=>V.bl (Ak kvm n))=((s1++s2).map (Ak kvm)).map V.bl:=by rw[Km];rfl
   rw[e9];obtain⟨H3,e3,f3,m3,_⟩:=b9 (o:= .lst (((s1++s2).map (Ak kvm)).map V.bl)) hD';have m4:=m1.trans (s3.trans m3);have f4:=m3 _ _ (s3 _ _ f1);symm;change wg K _ (p5 H2 D _) _;rw[e3];refine mK (SqL.of f3) ?_;symm;refine fR (λhb=>?_) (λhb=>?_)
   .symm;rw[←jN (P:=Pc) (W:=W) (kvm:=kvm) (λz=>?_)]
    .exact k _ m4
    .have:((s1++s2).map (Ak kvm)).all id=true:=by
      rw[LJ,Kk];exact λn hn=>txB_iff.mpr (z.txt n (or.mem.mp hn))
     rw[this] at hb;cases hb
   have hT:∀n∈b7 Pc,TxtAt kvm n:=λn hn=>by
    rw[LJ,Kk] at hb;exact txB_iff.mp (hb n (or.mem.mpr hn))
   symm;refine⟨a,p,q,d,kvs,Pc,kvm,rfl,hP.at_.mono m4.le,by lia,m4.rd hD,hT,λl5 H5 r1 r2 n5 m5 f5 or5=>?_⟩;have V':=or5.len;symm;refine⟨l5,_,rfl,SqL.of f5,by rw[Jx];lia,λl6 n6=>?_⟩;obtain⟨H6,e6,f6,m6,_⟩:=b9 (o:= .ext (dq l6 (ij ((r1++r2).map (i7 kvm))).length)) n6;rw[e6];symm;have Uc:(ij ((r1++r2).map (i7 kvm))).length<=1000:=by
    have z:=kI ((r1++r2).map (i7 kvm)) [];rw[Jx] at z;unfold ij;simp only[Nn] at z;lia
   refine mO f6 Uc ?_;symm;refine E4 (r9 (SqL.of (m6 _ _ (m5 _ _ f4))) ?_);rw[Jx,hlen];symm;have m7:=m4.trans (m5.trans m6);have V_:(ij ((r1++r2).map (i7 kvm))).length=(b7 Pc).length↔((b7 Pc).map (i7 kvm)).Nodup:=by
    have z:=rG ((r1++r2).map (i7 kvm));rw[Jx,V'] at z;rw[z];exact(or5.perm.map _).nodup_iff
   refine N2 (λXi=>?_) (λXi=>?_)
   .symm;rw[←jN (P:=Pc) (W:=W) (kvm:=kvm) (λz=>Xi (by rw[V_.mpr z.nd]))];exact k _ m7
   have Pw:=V_.mp (Pq.mp Xi);clear Xi;have D7:=m7.rd hD;have Zy:=m7 _ _ hP.hp;have P7:=hP.same m7;have W7:=hW.same m7;have Zz:=j7 Pc.pts;have OL:=hP.at_.ts.length;rw[A5] at hPl;symm;refine j3 P7.at_.tup ?_;refine J2 Zy (λTx o8=>?_);refine z8 (n:=(g5 Pc.pts).length) (λi out H'=>Same (z7 p o8 (g5 Pc.pts) H6) H'/\out=(Pc.pts.take i).map λx=>V.bl (decide ((i7 kvm x.1,x.2)∈W.pts))) ⟨Same.refl _,rfl⟩ (λi out H' hi hp=>⟨hp.1 _ _ d0,hi⟩) ?_ ?_
   .rintro N i v out H8' H8 hi ⟨s8,rfl⟩ ⟨t,kv,f_,nt,rfl,rfl⟩ hN';obtain⟨x,hx,rfl⟩:=V0 f_;obtain⟨H9,e9,f9,m9,_⟩:=b9 (o:= .tup _) nt;rw[e9];have UU:=(K5 (o:=o8) Zy).trans (s8.trans m9).le;have W9:=W7.at_.mono UU;have D9:=UU.dic D7;refine F5 (SqT.of f9) rfl ?_;symm;refine⟨rfl,?_⟩;symm;refine j3 W9.tup ?_;refine⟨p',rfl,.inl ⟨_,W9.pts⟩,?_⟩;symm;refine zf D9 (hT _ (JB _ (Jz.mpr ⟨x,JM hx,rfl⟩))) ?_;refine⟨_,E1 (k:=Sum.inr (i7 kvm x.1)) W9.pts,?_⟩;symm;refine FQ (A6 W7.nd) ?_;refine⟨d8 (by rw[Jx,JP];lia),hN' _ _ ⟨s8.trans m9,?_⟩⟩;exact K9 (λx:Str×Str=>V.bl (decide ((i7 kvm x.1,x.2)∈W.pts))) hx
   .rintro out H8 ⟨s8,rfl⟩;refine⟨⟨s8 _ _ d0,JA _⟩,λD8 hD8=>⟨d8 (by rw[Jx,JP];lia),?_⟩⟩;rw[Zz,JK (JA _)];have Rx:(Pc.pts.map λx=>V.bl (decide ((i7 kvm x.1,x.2)∈W.pts)))=(Pc.pts.map λx=>decide ((i7 kvm x.1,x.2)∈W.pts)).map V.bl:=by rw[Km];rfl
    rw[Rx];have sM:=O1 Zy s8 hD8 (u:= .lst ((Pc.pts.map λx=>decide ((i7 kvm x.1,x.2)∈W.pts)).map V.bl));have fM:=Z3 s8 hD8 (u:= .lst ((Pc.pts.map λx=>decide ((i7 kvm x.1,x.2)∈W.pts)).map V.bl));generalize thaw p (p5 H8 D8 (.lst ((Pc.pts.map λx=>decide ((i7 kvm x.1,x.2)∈W.pts)).map V.bl)))=HM at sM fM⊢;symm;refine mK (SqL.of fM) ?_;symm;have mM:=m7.trans sM;refine fR (λOH=>?_) (λOH=>?_)
    .symm;rw[←jN (P:=Pc) (W:=W) (kvm:=kvm) (λz=>?_)]
     .exact k _ mM
     .have:(Pc.pts.map λx=>decide ((i7 kvm x.1,x.2)∈W.pts)).all id=true:=by
       rw[LJ,Kk];exact λx hx=>JX (z.pts x hx)
      rw[this] at OH;cases OH
    have ZA:∀x∈Pc.pts,(i7 kvm x.1,x.2)∈W.pts:=λx hx=>by
     rw[LJ,Kk] at OH;exact KW (OH x hx)
    have DM:=mM.rd hD;have PM:=hP.same mM;have WM:=hW.same mM;have ZC:=PM.hq;symm;refine i9 PM.at_.tup ?_;refine J2 ZC (λRv o10=>?_);refine z8 (n:=kvs.length) (λi out H'=>Same (z7 q o10 kvs HM) H'/\out=(Pc.ts.take i).map λx=>V.bl (decide ((i7 kvm x.1,(x.2.1,i7 kvm x.2.2.1,i7 kvm x.2.2.2))∈W.ts))) ⟨Same.refl _,rfl⟩ (λi out H' hi hp=>⟨hp.1 _ _ d0,hi⟩) ?_ ?_
    .rintro N i v out H11' Sz hi ⟨RE,rfl⟩ ⟨t,kv,f_,nt,rfl,rfl⟩ hN';obtain⟨UK,Zm,VS,OT,_⟩:=b9 (o:= .tup _) nt;rw[Zm];have Ud:=(K5 (o:=o10) ZC).trans (RE.trans OT).le;have Xj:=WM.at_.mono Ud;have Ue:=Ud.dic DM;obtain⟨x,hx,ex,bb,eb,sb⟩:=(PM.at_.ts.mono Ud).get f_;obtain⟨kk,QD⟩:=kv;have N':kk=Sum.inr x.1:=ex;have QF:QD= .ref bb:=eb;subst N' QF;have o_:=JM hx;have SR:=hP.ends x o_;refine F5 (SqT.of VS) rfl ?_;symm;refine⟨rfl,?_⟩;symm;refine i9 Xj.tup ?_;refine⟨q',rfl,.inl ⟨_,Xj.ties⟩,?_⟩;symm;refine zf Ue (hT _ (JE _ (Jz.mpr ⟨x,o_,rfl⟩))) ?_;refine⟨_,E1 (k:=Sum.inr (i7 kvm x.1)) Xj.ties,?_⟩;symm;refine⟨bb,d,x.2,kvm,rfl,sb,Ue,hT _ (JB _ SR.1),hT _ (JB _ SR.2),λZf Xb n13 OS TZ=>?_⟩;refine EO (Xj.mono OS.le).ts (K2 hW.nd) (SqT.of TZ) ?_;refine⟨d8 (by rw[Jx,JP];lia),hN' _ _ ⟨RE.trans (OT.trans OS),?_⟩⟩;exact K9 (λx:Str×M8=>V.bl (decide ((i7 kvm x.1,(x.2.1,i7 kvm x.2.2.1,i7 kvm x.2.2.2))∈W.ts))) hx
    .rintro out Sz ⟨RE,rfl⟩;refine⟨⟨RE _ _ d0,JA _⟩,λD11 hD11=>⟨d8 (by rw[Jx,JP];lia),?_⟩⟩;rw[OL,JK (JA _)];have VP:(Pc.ts.map λx=>V.bl (decide ((i7 kvm x.1,(x.2.1,i7 kvm x.2.2.1,i7 kvm x.2.2.2))∈W.ts)))=(Pc.ts.map λx=>decide ((i7 kvm x.1,(x.2.1,i7 kvm x.2.2.1,i7 kvm x.2.2.2))∈W.ts)).map V.bl:=by rw[Km];rfl
     rw[VP];generalize PK:(Pc.ts.map λx=>decide ((i7 kvm x.1,(x.2.1,i7 kvm x.2.2.1,i7 kvm x.2.2.2))∈W.ts))=bs;have sN:=O1 ZC RE hD11 (u:= .lst (bs.map V.bl));have fN:=Z3 RE hD11 (u:= .lst (bs.map V.bl));generalize thaw q (p5 Sz D11 (.lst (bs.map V.bl)))=HN at sN fN⊢;symm;refine mK (SqL.of fN) ?_;have eF:bs.all id=wC Pc W kvm:=by
      rw[←PK];cases hc:(Pc.ts.map λx=>decide ((i7 kvm x.1,(x.2.1,i7 kvm x.2.2.1,i7 kvm x.2.2.2))∈W.ts)).all id with
      |true=>
       rw[LJ,Kk] at hc
       exact(uu ⟨Ts,hT,Pw,ZA,λx hx=>KW (hc x hx)⟩).symm
      |false=>
       refine(jN λz=>?_).symm
       have:(Pc.ts.map λx=>decide ((i7 kvm x.1,(x.2.1,i7 kvm x.2.2.1,i7 kvm x.2.2.2))∈W.ts)).all id=true:=by
        rw[LJ,Kk];exact λx hx=>JX (z.ts x hx)
       rw[this] at hc;cases hc
     rw[eF];exact k _ (mM.trans sN)
def K3 (f:Str->Str)(W:B0):B0:=⟨W.pts.map λx=>(f x.1,x.2),W.ts.map λx=>(f x.1,(x.2.1,f x.2.2.1,f x.2.2.2))⟩
def jY (K:Qe):Sp:=λvs H Q _=>∃(a d p q:Addr) (kvs nm:List (j0×V)) (W:B0) (f:Str->Str),vs=[.ref a,.ref d]/\WebAt K H a p q kvs W/\H p=some (.dK (g5 W.pts))/\H q=some (.dK kvs)/\Rd H d (.dK nm)/\f=i7 nm/\(∀n∈b7 W,TxtAt nm n)/\((b7 W).map f).Nodup/\(b7 W).length<=60/\
 (∀x∈W.ts,x.2.2.1∈W.pts.map (·.1)/\x.2.2.2∈W.pts.map (·.1))/\NewP K H Q (K3 f W)
abbrev mH (P:Program)(w:World)(K:Qe)(mg:Str->Option Value)(base:Heap):Prop:=V9 P w K mg base E7 3 "renamed" ["web","names"] [] (jY K)
theorem tK {f:Addr}{fd:FuncData}(T:Txt K mg)(E6:Y2 P w K mg base)(N0:dC P w K mg base)(F:Fun K "renamed" "renamed" ic f fd):C0 P w K mg base E7 3 f fd ["web","names"] (jY K):=by
 walk_at "#sc_renamed"
 .obtain⟨a,d,p,q,kvs,nm,W,f,rfl,_⟩:=h;rfl
 .obtain⟨a,d,p,q,kvs,nm,W,f,rfl,hW,hp,hq,hd,rfl,hT,Pw,hl,hE,k⟩:=h;have hf:∀n∈b7 W,z0 nm (Sum.inr n:j0)=some (.str (i7 nm n)):=λn hn=>(hT n hn).at_;have hln:W.pts.length+W.ts.length<=60:=by unfold b7 at hl;rw[JG,Jx,Jx] at hl;exact hl
  have hf1:∀x∈W.pts,z0 nm (Sum.inr x.1:j0)=some (.str (i7 nm x.1)):=λx hx=>hf _ (JB _ (Jz.mpr ⟨x,hx,rfl⟩));have hf2:∀x∈W.ts,z0 nm (Sum.inr x.1:j0)=some (.str (i7 nm x.1)):=λx hx=>hf _ (JE _ (Jz.mpr ⟨x,hx,rfl⟩));have nd1:((K3 (i7 nm) W).pts.map (·.1)).Nodup:=by
   unfold b7 at Pw;rw[JF] at Pw;have z:=(JQ.mp Pw).1;unfold K3;rw[Km] at z⊢;exact z
  have Rz:((K3 (i7 nm) W).ts.map (·.1)).Nodup:=by
   unfold b7 at Pw;rw[JF] at Pw;have z:=(JQ.mp Pw).2.1;unfold K3;rw[Km] at z⊢;exact z
  have Qu:=j7 W.pts;have OL:=hW.ts.length;walk_at "@sc_renamed 42F3xname,kind;1;)10yb0lname,kind,names;b1lname,kind,names;zJjpc2005143F3xname,tie;1;)10yb0lname,tie,names;b1lname,tie,names;zJjic2006'0E6 k12a6~73jk23"
  symm;refine j3 hW.tup ?_;refine J2 hp (λTx o1=>?_);refine z8 (n:=(g5 W.pts).length) (λi out H'=>Same (z7 p o1 (g5 W.pts) H) H'/\Paired (PrV K H') out (g5 ((W.pts.take i).map λx=>(i7 nm x.1,x.2)))) ⟨Same.refl _,.nil⟩ (λi out H' hi hp=>⟨hp.1 _ _ d0,hi⟩) ?_ ?_
  .rintro N i v out H1 H2 hi ⟨s1,pr⟩ ⟨t,kv,f_,nt,rfl,rfl⟩ hN';obtain⟨x,hx,rfl⟩:=V0 f_;obtain⟨H3,e3,f3,m3,_⟩:=b9 (o:= .tup _) nt;rw[e3];have d3:=((K5 (o:=o1) hp).trans (s1.trans m3).le).dic hd;have e7:W.pts.take (i+1)=W.pts.take i++[x]:=by rw[Kb,hx];rfl
   refine F5 (SqT.of f3) rfl ?_;symm;refine⟨rfl,?_⟩;symm;refine k8 (v:= .str (i7 nm x.1)) (by have z':=E1 (k:=Sum.inr x.1) d3;rw[hf1 x (JM hx)] at z';exact z') ?_;symm;refine⟨d8 (by simp),λt4 n4=>?_⟩;obtain⟨H4,e4,f4,m4,_⟩:=b9 (o:= .tup _) n4;rw[e4];have I_:=Kr pr;rw[j7,Jx,JP] at I_;refine⟨d8 (by lia),hN' _ _ ⟨s1.trans (m3.trans m4),?_⟩⟩;rw[e7,JF];unfold g5 at pr⊢;rw[JF];exact A7 (Paired.imp' (λ_ _ z=>PrV.mono (m3.trans m4).le z) pr) ⟨t4,rfl,SqT.of f4⟩
  .rintro out H1 ⟨s1,pr⟩;have I_:=Kr pr;rw[j7,Jx,JP] at I_;refine⟨⟨s1 _ _ d0,JA _⟩,λD hD=>⟨d8 (by lia),?_⟩⟩;have sM:=O1 hp s1 hD (u:= .lst out);have fM:=Z3 s1 hD (u:= .lst out);have Ua:=Paired.imp' (λ_ _ z=>PrV.mono (oO (d:=p) (u:= .lst out) hD) z) pr;generalize thaw p (p5 H1 D (.lst out))=HM at sM fM Ua⊢;rw[JK (by lia)] at Ua;symm;refine X8 (SqL.of fM) Ua (d8 (by rw[j7,Jx];lia)) (λpp npp=>?_);have eP:bf (g5 (W.pts.map λx=>(i7 nm x.1,x.2)))=g5 (K3 (i7 nm) W).pts:=Z9 (P8 nd1);rw[eP];obtain⟨H2,e2,f2,m2,_⟩:=b9 (o:= .dK (g5 (K3 (i7 nm) W).pts)) npp;show O8 _ _ _ (p5 HM pp (.dK (g5 (K3 (i7 nm) W).pts))) _;rw[e2];have s2:=sM.trans m2;have W2:=hW.mono s2.le;have Qr:=s2 _ _ hq;symm;refine i9 W2.tup ?_;refine J2 Qr (λRv o2=>?_);refine z8 (n:=kvs.length) (λi out H'=>Same (z7 q o2 kvs H2) H'/\∃ks2,Paired (PrV K H') out ks2/\TiesIs K H' ks2 ((W.ts.take i).map λx=>(i7 nm x.1,(x.2.1,i7 nm x.2.2.1,i7 nm x.2.2.2)))) ⟨Same.refl _,[],.nil,.nil⟩ (λi out H' hi hp=>⟨hp.1 _ _ d0,hi⟩) ?_ ?_
   .rintro N i v out H3 H3' hi ⟨s3,ks2,pr3,ti3⟩ ⟨t,kv,f_,nt,rfl,rfl⟩ hN';obtain⟨H4,e4,f4,m4,_⟩:=b9 (o:= .tup _) nt;rw[e4];have QH:=(K5 (o:=o2) Qr).trans (s3.trans m4).le;have d4:=QH.dic (s2.rd hd);obtain⟨x,hx,ex,b,eb,sb⟩:=(W2.ts.mono QH).get f_;have o_:x∈W.ts:=JM hx;have e7:W.ts.take (i+1)=W.ts.take i++[x]:=by rw[Kb,hx];rfl
    refine F5 (SqT.of f4) rfl ?_;rw[ex,eb];symm;refine⟨rfl,?_⟩;symm;refine k8 (v:= .str (i7 nm x.1)) (by have z':=E1 (k:=Sum.inr x.1) d4;rw[hf2 x o_] at z';exact z') ?_;symm;refine⟨b,d,x.2,nm,rfl,sb,d4,hT _ (JB _ (hE x o_).1),hT _ (JB _ (hE x o_).2),λt5 H5 n5 m5 f5=>?_⟩;symm;refine⟨d8 (by simp),λt6 n6=>?_⟩;obtain⟨H6,e6,f6,m6,_⟩:=b9 (o:= .tup _) n6;rw[e6];have I_:=Kr pr3;have Ug:=ti3.length;rw[Jx,JP] at Ug;have mA:=m4.trans (m5.trans m6);refine⟨d8 (by lia),hN' _ _ ⟨s3.trans mA,ks2++[((Sum.inr (i7 nm x.1):j0),V.ref t5)],A7 (Paired.imp' (λ_ _ z=>PrV.mono mA.le z) pr3) (show PrV K H6 (.ref t6) ((Sum.inr (i7 nm x.1):j0),V.ref t5) from⟨t6,rfl,SqT.of f6⟩),?_⟩⟩;rw[e7,JF];exact A7 (ti3.mono mA.le) ⟨rfl,t5,rfl,SqT.of (m6 _ _ f5)⟩
   .rintro out H3 ⟨s3,ks2,pr3,ti3⟩;have I_:=Kr pr3;have Ug:=ti3.length;rw[Jx,JP] at Ug;refine⟨⟨s3 _ _ d0,JA _⟩,λD' hD'=>⟨d8 (by lia),?_⟩⟩;have sN:=O1 Qr s3 hD' (u:= .lst out);have fN:=Z3 s3 hD' (u:= .lst out);have leN:=oO (d:=q) (u:= .lst out) hD';have prN:=Paired.imp' (λ_ _ z=>PrV.mono leN z) pr3;have Xk:=ti3.mono leN;generalize thaw q (p5 H3 D' (.lst out))=HN at sN fN prN Xk⊢;rw[JK (by lia)] at Xk;have Xg:(ks2.map (·.1)).Nodup:=by
     rw[Xk.keys,←B6];refine My _ ?_ Rz;exact λa b h z=>h (LD z)
    symm;refine X8 (SqL.of fN) prN (d8 (by lia)) (λqq nqq=>?_);rw[Z9 Xg];obtain⟨H5,e5,f5,m5,_⟩:=b9 (o:= .dK ks2) nqq;show O8 _ _ _ (p5 HN qq (.dK ks2)) _;rw[e5];symm;refine⟨d8 (by simp),λt9 n9=>?_⟩;obtain⟨H9,e9,f9,m9,_⟩:=b9 (o:= .tup _) n9;rw[e9];symm;have sA:=s2.trans (sN.trans (m5.trans m9));have gp:=m9 _ _ (m5 _ _ (sN _ _ f2));have gq:=m9 _ _ f5;refine⟨t9,pp,qq,ks2,K3 (i7 nm) W,rfl,⟨SqT.of f9,.inl gp,.inl gq,Xk.mono (m5.trans m9).le⟩,nd1,Rz,by unfold K3;rw[Jx];lia,by unfold K3;rw[Jx];lia,λa' p' q' d_ W' H' sH hW' h1 h2 h3 h4 h5 h6 h7=>k a' p' q' d_ W' H' (sA.trans sH) hW' h1 h2 h3 (sA.free h4) (sA.free h5) h6 h7⟩
def BE (W M:B0):B0:=⟨(W.pts.filter λx=>!decide (x.1∈M.pts.map (·.1)))++M.pts,(W.ts.filter λx=>!decide (x.1∈M.ts.map (·.1)))++M.ts⟩
theorem vK {k:j0}{v:V}:∀{ka:List (j0×V)},(ka.map (·.1)).Nodup->(E3 ka k v).Perm ((ka.filter λx=>!decide (x.1=k))++[(k,v)]):=by
 have rep:∀{ka:List (j0×V)},(ka.map (·.1)).Nodup->(∃x∈ka,x.1=k)->(ka.map λx=>if x.1=k then(x.1,v) else x).Perm ((ka.filter λx=>!decide (x.1=k))++[(k,v)]):=by
  intro ka;induction ka with
  |nil=>rintro _ ⟨x,h,_⟩;cases h
  |cons p r ih=>
   intro nd hx
   have nd':=KN.mp (show(p.1::r.map (·.1)).Nodup from nd)
   by_cases e:p.1=k
   .have hr:∀x∈r,¬x.1=k:=λx hx z=>nd'.1 (by rw[e,←z];exact Jz.mpr ⟨x,hx,rfl⟩)
    have e1:(r.map λx=>if x.1=k then(x.1,v) else x)=r:=(KA λx hx=>by rw[if_neg (hr x hx)]).trans (NB r)
    have e2:(r.filter λx=>!decide (x.1=k))=r:=MI.mpr λx hx=>by rw[Kf (hr x hx)];rfl
    rw[Kx,if_pos e,e1,Kp (by simp [e]),e2,e]
    exact List.perm_append_comm (l₁:=[(k,v)]) (l₂:=r)
   .rw[Kx,if_neg e,Ki (by simp [e]),Mg]
    refine List.Perm.cons _ (ih nd'.2 ?_)
    obtain⟨x,hx,ex⟩:=hx
    rcases Kl.mp hx with z|z
    .exact absurd (z▸ex) e
    .exact⟨x,z,ex⟩
 intro ka nd;cases hv:z0 ka k with
 |none=>
  rw[Q4 v hv,MI.mpr λx hx=>?_]
  have:x.1≠k:=λz=>by
   have q:=aG nd hx;rw[z,hv] at q;cases q
  simp [this]
 |some y=>
  have hx:∃x∈ka,x.1=k:=⟨_,oA hv,rfl⟩
  unfold E3
  rw[if_pos (by rw[ah,hv];rfl)]
  exact rep nd hx
open Classical in
theorem dz:∀{kb ka:List (j0×V)},(ka.map (·.1)).Nodup->(kb.map (·.1)).Nodup->(Q7 ka kb).Perm ((ka.filter λx=>!decide (x.1∈kb.map (·.1)))++kb)
 |[],ka,_,_=>by
  show ka.Perm _;rw[Ku,MI.mpr λx _=>by simp]
 |p::r,ka,nd,nb=>by
  have nb':=KN.mp (show(p.1::r.map (·.1)).Nodup from nb);have ih:=dz (kb:=r) (ka:=E3 ka p.1 p.2) (CZ nd) nb'.2;refine(show(Q7 (E3 ka p.1 p.2) r).Perm _ from ih).trans ?_;have h1:=(vK (k:=p.1) (v:=p.2) nd).filter λx=>!decide (x.1∈r.map (·.1));refine(h1.append_right r).trans ?_;rw[Ka,Mn,Ki (by rw[Kf nb'.1];rfl),KD,KH];have e:(ka.filter λx=>(!decide (x.1∈r.map (·.1))&& !decide (x.1=p.1)))=ka.filter λx=>!decide (x.1∈(p::r).map (·.1)):=NM λx _=>by
   rw[Kw];simp only[Kj,KI,Kt,Kx,Kl,not_or];exact And.comm
  rw[e];exact Ln _
theorem mQ {A:List (Str×Str)}{B:List Str}{n:Str}:((Sum.inr n:j0)∈B.map (Sum.inr:Str->j0))↔n∈B:=⟨Y1,λh=>Jz.mpr ⟨n,h,rfl⟩⟩
open Classical in
theorem BG {A B:List (Str×Str)}(na:(A.map (·.1)).Nodup)(nb:(B.map (·.1)).Nodup):∃U,Q7 (g5 A) (g5 B)=g5 U/\U.Perm ((A.filter λx=>!decide (x.1∈B.map (·.1)))++B):=by
 have h:=dz (P8 na) (P8 nb);have pr:Paired (fun(kv:j0×V) (x:Str×Str)=>kv=(Sum.inr x.1,.str x.2)) (((g5 A).filter λx=>!decide (x.1∈(g5 B).map (·.1)))++g5 B) ((A.filter λx=>!decide (x.1∈B.map (·.1)))++B):=by
  refine la (Y7 (λkv x e=>?_) (bO A)) (bO B);rw[e,J6,←B6];congr 1;rw[Kw,Ko,Ko];exact mQ (A:=A)
 obtain⟨U,h1,h2⟩:=aC h pr;exact⟨U,eY h1,h2⟩
open Classical in
theorem DY {H:Hp}{ka kb:List (j0×V)}{A B:List (Str×M8)}(wa:TiesIs K H ka A)(wb:TiesIs K H kb B)(na:(A.map (·.1)).Nodup)(nb:(B.map (·.1)).Nodup):∃U,TiesIs K H (Q7 ka kb) U/\U.Perm ((A.filter λx=>!decide (x.1∈B.map (·.1)))++B):=by
 have h:=dz (uU wa na) (uU wb nb);have pr:Paired (TieAt K H) ((ka.filter λx=>!decide (x.1∈kb.map (·.1)))++kb) ((A.filter λx=>!decide (x.1∈B.map (·.1)))++B):=by
  refine la (Y7 (λkv x e=>?_) wa) wb;rw[e.1,wb.keys,←B6];congr 1;rw[Kw,Ko,Ko];exact mQ (A:=[])
 exact aC h pr
theorem uT {α:Type}{A B:List (Str×α)}(na:(A.map (·.1)).Nodup)(nb:(B.map (·.1)).Nodup):(((A.filter λx=>!decide (x.1∈B.map (·.1)))++B).map (·.1)).Nodup:=by grind
def mI (K:Qe):Sp:=λvs H Q _=>∃(a p q b p2 q2:Addr) (kvs J_:List (j0×V)) (W M:B0),vs=[.ref a,.ref b]/\WebAt K H a p q kvs W/\WebAt K H b p2 q2 J_ M/\(W.pts.map (·.1)).Nodup/\(W.ts.map (·.1)).Nodup/\(M.pts.map (·.1)).Nodup/\(M.ts.map (·.1)).Nodup/\W.pts.length+M.pts.length<=60/\W.ts.length+M.ts.length<=60/\NewP K H Q (BE W M)
theorem NewP.permM {H H1:Hp}{Q:VK}{W W1:B0}(s:Same H H1)(p1:W1.pts.Perm W.pts)(p2:W1.ts.Perm W.ts)(k:NewP K H Q W):NewP K H1 Q W1:=λa p q kvs W' H' s' h1 h2 h3 h4 h5 h6 h7 h8=>k a p q kvs W' H' (s.trans s') h1 h2 h3 h4 (s.free h5) (s.free h6) (h7.trans p1) (h8.trans p2)
abbrev qc (P:Program)(w:World)(K:Qe)(mg:Str->Option Value)(base:Heap):Prop:=V9 P w K mg base E7 3 "united" ["web","more"] [] (mI K)
theorem vH {f:Addr}{fd:FuncData}(T:Txt K mg)(N0:dC P w K mg base)(F:Fun K "united" "united" kZ f fd):C0 P w K mg base E7 3 f fd ["web","more"] (mI K):=by
 walk_at "#sc_united"
 .obtain⟨a,p,q,b,p2,q2,kvs,J_,W,M,rfl,_⟩:=h;rfl
 .obtain⟨a,p,q,b,p2,q2,kvs,J_,W,M,rfl,hW,hM,Xl,Xm,nm1,nm2,lw1,lw2,k⟩:=h;have OL:=hW.ts.length;have hkl2:=hM.ts.length;walk_at "@sc_united 42F3107QN#~a~9~80231143F3107QN#~a~9~803311a6~73jk23"
  symm;refine j3 hW.tup ?_;symm;refine D0 hW.pts (λpp npp=>?_);obtain⟨H1,e1,f1,m1,_⟩:=b9 (o:= .dK _) npp;rw[e1];have M1:=hM.mono m1.le;symm;refine⟨.inr (.inr (.inl ⟨rfl,.inl ⟨_,f1⟩⟩)),?_⟩;symm;refine j3 M1.tup ?_;symm;have nep:pp≠p2:=λz=>by
   have z2:=hM.pts;rw[←z] at z2;rcases z2 with z2|⟨_,z2⟩<;>(rw[npp] at z2;cases z2)
  refine⟨pp,p2,g5 W.pts,g5 M.pts,rfl,rfl,f1,M1.pts,nep,by rw[j7,j7];lia,?_⟩;obtain⟨UP,eUP,ZD⟩:=BG Xl nm1;rw[eUP];have s2:Same H (p5 H1 pp (.dK (g5 UP))):=D5 m1 npp;have f2:(p5 H1 pp (.dK (g5 UP))) pp=some (.dK (g5 UP)):=d0;generalize p5 H1 pp (.dK (g5 UP))=H2 at s2 f2⊢;have W2:=hW.mono s2.le;symm;refine i9 W2.tup ?_;symm;refine D0 W2.ties (λqq nqq=>?_);obtain⟨H3,e3,f3,m3,_⟩:=b9 (o:= .dK _) nqq;rw[e3];have s3:=s2.trans m3;have M3:=hM.mono s3.le;have M2:=hM.mono s2.le;symm;refine⟨.inr (.inr (.inl ⟨rfl,.inl ⟨_,f3⟩⟩)),?_⟩;symm;refine i9 M3.tup ?_;symm;have neq:qq≠q2:=λz=>by
   have z2:=M2.ties;rw[←z] at z2;rcases z2 with z2|⟨_,z2⟩<;>(rw[nqq] at z2;cases z2)
  obtain⟨UT,wUT,ZE⟩:=DY (hW.mono s3.le).ts M3.ts Xm nm2;refine⟨qq,q2,kvs,J_,rfl,rfl,f3,M3.ties,neq,by lia,?_⟩;have s4:Same H2 (p5 H3 qq (.dK (Q7 kvs J_))):=D5 m3 nqq;have f4:(p5 H3 qq (.dK (Q7 kvs J_))) qq=some (.dK (Q7 kvs J_)):=d0;have TT4:TiesIs K (p5 H3 qq (.dK (Q7 kvs J_))) (Q7 kvs J_) UT:=I0 f3 wUT;generalize p5 H3 qq (.dK (Q7 kvs J_))=H4 at s4 f4 TT4⊢;symm;refine⟨d8 (by simp),λt9 n9=>?_⟩;obtain⟨H9,e9,f9,m9,_⟩:=b9 (o:= .tup _) n9;rw[e9];symm;have RK:=JJ (λx:Str×Str=>!decide (x.1∈M.pts.map (·.1))) W.pts;have hfl2:=JJ (λx:Str×M8=>!decide (x.1∈M.ts.map (·.1))) W.ts;refine⟨t9,pp,qq,_,⟨UP,UT⟩,rfl,⟨SqT.of f9,.inl (m9 _ _ (s4 _ _ f2)),.inl (m9 _ _ f4),TT4.mono m9.le⟩,(ZD.map _).nodup_iff.mpr (uT Xl nm1),(ZE.map _).nodup_iff.mpr (uT Xm nm2),?_,?_,NewP.permM (s2.trans (s4.trans m9)) ZD ZE k⟩
  .show UP.length<=60;rw[ZD.length_eq,JG];lia
  .show UT.length<=60;rw[ZE.length_eq,JG];lia
theorem aK {fr:List (Str×Str)}(nd:(fr.map (·.1)).Nodup){n s:Str}(h:(n,s)∈fr):TxtAt (g5 fr) n/\i7 (g5 fr) n=s:=⟨⟨s,L5 nd h⟩,gO (L5 nd h)⟩
theorem fO {ss:List Str}{f:Str->Str}(nd:ss.Nodup){n:Str}(h:n∈ss):TxtAt (g5 (ss.map λn=>(n,f n))) n/\i7 (g5 (ss.map λn=>(n,f n))) n=f n:=
 aK (by rw[Km];exact(NB ss).symm▸nd) (Jz.mpr ⟨n,h,rfl⟩)
def nK (K:Qe):Sp:=λvs H Q _=>∃(d l:Addr) (kvs:List (j0×V)) (ss:List Str),vs=[.ref d,.ref l]/\Rd H d (.dK kvs)/\SqL K H l (ss.map V.str)/\ss.Nodup/\ss.length<=60/\(∀n∈ss,TxtAt kvs n)/\∀(d':Addr) (H':Hp),H d'=none->Same H H'->H' d'=some (.dK (g5 (ss.map λn=>(n,i7 kvs n))))->Q (.ref d') H'
abbrev jS (P:Program)(w:World)(K:Qe)(mg:Str->Option Value)(base:Heap):Prop:=V9 P w K mg base E7 1 "picked" ["put","names"] [] (nK K)
theorem we {f:Addr}{fd:FuncData}(T:Txt K mg)(F:Fun K "picked" "picked" kC f fd):C0 P w K mg base E7 1 f fd ["put","names"] (nK K):=by
 walk_at "#sc_picked"
 .obtain⟨d,l,kvs,ss,rfl,_⟩:=h;rfl
 .obtain⟨d,l,kvs,ss,rfl,hD,hL,nd,hl,hT,k⟩:=h;walk_at "@sc_picked aF3xname;0;r01g0lname,put;Jj803c100";symm;refine A8 hL ?_;refine z8 (n:=ss.length) (λi out H'=>Same H H'/\Paired (PrV K H') out (g5 ((ss.take i).map λn=>(n,i7 kvs n)))) ⟨Same.refl _,.nil⟩ (λi out H' hi hp=>⟨_,.str (ss[i]),hp.1.seq hL,by rw[JC,Jy hi];rfl⟩) ?_ ?_
  .rintro N i v out H2' H2 hi ⟨s2,pr⟩ y hN';obtain⟨rfl,hx⟩:=Itl.get y (s2.seq hL);rw[JC,Jy hi] at hx;cases hx;have I_:=Kr pr;rw[j7,Jx,JP] at I_;symm;refine⟨rfl,?_⟩;symm;refine zf (s2.rd hD) (hT _ (Kn hi)) ?_;symm;refine⟨d8 (by simp),λt4 n4=>?_⟩;obtain⟨H4,e4,f4,m4,_⟩:=b9 (o:= .tup _) n4;rw[e4];refine⟨d8 (by lia),hN' _ _ ⟨s2.trans m4,?_⟩⟩;rw[Kb,Jy hi,JF];unfold g5 at pr⊢;rw[JF];exact A7 (Paired.imp' (λ_ _ z=>PrV.mono m4.le z) pr) ⟨t4,rfl,SqT.of f4⟩
  .rintro out H2 ⟨s2,pr⟩;have I_:=Kr pr;rw[j7,Jx,JP] at I_;refine⟨⟨_,s2.seq hL,by rw[Jx];exact JA _⟩,λD hD'=>⟨d8 (by lia),?_⟩⟩;rw[JK (JA _)] at pr;obtain⟨H3,e3,f3,m3,_⟩:=b9 (H:=H2) (o:= .lst out) hD';symm;change nW K _ (p5 H2 D _) _;rw[e3];refine X8 (SqL.of f3) (Paired.imp' (λ_ _ z=>PrV.mono m3.le z) pr) (d8 (by rw[j7,Jx];lia)) (λpp npp=>?_);rw[Z9 (P8 (by rw[Km];exact(NB ss).symm▸nd))];obtain⟨H4,e4,f4,m4,_⟩:=b9 (o:= .dK _) npp;rw[e4];exact k pp H4 (s2.free (m3.free npp)) (s2.trans (m3.trans m4)) f4
def fZ (K:Qe):Sp:=λvs H Q _=>∃(st r m bl:Addr) (x:V) (L R:Sd) (bs:List Sd) (km:List (j0×V)),vs=[.ref st]/\SqT K H st [.ref r,.ref m,x]/\RuleIs K H r bl L R bs/\Rd H m (.dK km)/\(∀n∈b7 L.W,TxtAt km n)/\∀(l:Addr) (H':Hp) (s1 s2:List Str),H l=none->Same H H'->Ordr L.W s1 s2->H' l=some (.lst ((((s1++s2).filter λn=>!decide (n∈b7 R.W)).map (i7 km)).map V.str))->Q (.ref l) H'
abbrev iN (P:Program)(w:World)(K:Qe)(mg:Str->Option Value)(base:Heap):Prop:=V9 P w K mg base E7 4 "taken_out" ["step"] [] (fZ K)
theorem pq {f:Addr}{fd:FuncData}(T:Txt K mg)(dM:oS P w K mg base)(F:Fun K "taken_out" "taken_out" cT f fd):C0 P w K mg base E7 4 f fd ["step"] (fZ K):=by
 walk_at "#sc_taken_out"
 .obtain⟨st,r,m,bl,x,L,R,bs,km,rfl,_⟩:=h;rfl
 .obtain⟨st,r,m,bl,x,L,R,bs,km,rfl,hS,hR,hM,hT,k⟩:=h;have SX:=hR.l.len;walk_at "@sc_taken_out axname;0;r6'0dM 310g0lname,step;Je1100";symm;refine j3 hS ?_;symm;refine⟨r,bl,L,R,bs,rfl,hR,λl1 H1 s1 s2 n1 m1 or f1=>?_⟩;have hlen:=or.len;have J':=JJ (λn=>!decide (n∈b7 R.W)) (s1++s2);have j_:∀n∈(s1++s2).filter λn=>!decide (n∈b7 R.W),TxtAt km n:=λn hn=>hT n (or.mem.mp (JH.mp hn).1);have k':=λl H' h1 h2=>k l H' s1 s2 h1 h2 or;clear k;generalize (s1++s2).filter (λn=>!decide (n∈b7 R.W))=ss at f1 J' j_ k';refine A8 (SqL.of f1) ?_;refine z8 (n:=ss.length) (λi out H'=>Same H1 H'/\out=(ss.take i).map λn=>V.str (i7 km n)) ⟨Same.refl _,rfl⟩ (λi out H' hi hp=>⟨_,.str (ss[i]),SqL.of (hp.1 _ _ f1),by rw[JC,Jy hi];rfl⟩) ?_ ?_
  .rintro N i v out H2' H2 hi ⟨s3,rfl⟩ y hN';obtain⟨rfl,hx⟩:=Itl.get y (SqL.of (s3 _ _ f1));rw[JC,Jy hi] at hx;cases hx;symm;refine⟨rfl,?_⟩;symm;refine i9 ((m1.trans s3).tup hS) ?_;symm;refine zf ((m1.trans s3).rd hM) (j_ _ (Kn hi)) ?_;refine⟨d8 (by rw[Jx,JP];lia),hN' _ _ ⟨s3,?_⟩⟩;exact K9 (λn:Str=>V.str (i7 km n)) (Jy hi)
  .rintro out H2 ⟨s3,rfl⟩;refine⟨⟨_,SqL.of (s3 _ _ f1),by rw[Jx];exact JA _⟩,λD hD'=>⟨d8 (by rw[Jx,JP];lia),?_⟩⟩;rw[JK (JA _)];obtain⟨H3,e3,f3,m3,_⟩:=b9 (H:=H2) (o:= .lst (ss.map λn=>V.str (i7 km n))) hD';refine k' D _ ((m1.trans s3).free hD') ?_ ?_
   .show Same _ (p5 H2 D _);rw[e3];exact m1.trans (s3.trans m3)
   .show p5 H2 D _ D=_;rw[d0,Km];rfl
def bh (L:B0)(km kf:List (j0×V))(n:Str):Str:=if n∈b7 L then i7 km n else i7 kf n
structure FrOk (W L R:B0) (fr:List (Str×Str)):Prop where
 ks:∃u1 u2,Ordr R u1 u2/\fr.map (·.1)=(u1++u2).filter λn=>!decide (n∈b7 L)
 nm:∀x∈fr,V4 x.2=true
 nd:(fr.map (·.2)).Nodup
 no:∀x∈fr,x.2∉b7 W
 len:fr.length<=8
theorem FrOk.at_ {W L R:B0}{fr:List (Str×Str)}{s1 s2:List Str}(h:FrOk W L R fr)(ndR:(b7 R).Nodup)(o:Ordr R s1 s2):fr.map (·.1)=(s1++s2).filter λn=>!decide (n∈b7 L):=by
 obtain⟨u1,u2,ou,e⟩:=h.ks;obtain⟨e1,e2⟩:=o.uniq ou (Ln _) (Ln _) ndR;rw[e,e1,e2]
theorem FrOk.nd1 {W L R:B0}{fr:List (Str×Str)}(h:FrOk W L R fr)(ndR:(b7 R).Nodup):(fr.map (·.1)).Nodup:=by
 obtain⟨u1,u2,ou,e⟩:=h.ks;rw[e];exact(ou.perm.nodup_iff.mpr ndR).sublist Ke
theorem FrOk.mem {W L R:B0}{fr:List (Str×Str)}(h:FrOk W L R fr){n:Str}:n∈fr.map (·.1)↔n∈b7 R/\n∉b7 L:=by
 obtain⟨u1,u2,ou,e⟩:=h.ks;rw[e,JH,ou.mem,KI,Kt]
theorem FrOk.txt {W L R:B0}{fr:List (Str×Str)}(h:FrOk W L R fr)(ndR:(b7 R).Nodup){n:Str}(hn:n∈fr.map (·.1)):TxtAt (g5 fr) n/\(n,i7 (g5 fr) n)∈fr:=by
 obtain⟨⟨n',s⟩,hx,e⟩:=Jz.mp hn;have e':n'=n:=e;subst e';have z:=aK (h.nd1 ndR) hx;exact⟨z.1,by rw[z.2];exact hx⟩
theorem yE {fr:List (Str×Str)}:(g5 fr).map (·.2)=(fr.map (·.2)).map V.str:=by unfold g5;rw[Km,Km];rfl
def dA (K:Qe):Sp:=λvs H Q _=>∃(S L R:Sd) (r bl f:Addr) (bs:List Sd) (fr:List (Str×Str)),vs=[.ref S.a,.ref r,.ref f]/\SdIs K H S/\RuleIs K H r bl L R bs/\H f=some (.dK (g5 fr))/\FrOk S.W L.W R.W fr/\∀H',Same H H'->Q (.bl true) H'
abbrev eC (P:Program)(w:World)(K:Qe)(mg:Str->Option Value)(base:Heap):Prop:=V9 P w K mg base E7 4 "names_serve" ["web","rule","fresh"] [] (dA K)
theorem kN {f:Addr}{fd:FuncData}(T:Txt K mg)(X4:fD P w K mg base)(iy:mC P w K mg base)(F:Fun K "names_serve" "names_serve" aW f fd):C0 P w K mg base E7 4 f fd ["web","rule","fresh"] (dA K):=by
 walk_at "#sc_names_serve"
 .obtain⟨S,L,R,r,bl,f,bs,fr,rfl,_⟩:=h;rfl
 .obtain⟨S,L,R,r,bl,f,bs,fr,rfl,hS,hR,hF,ok,k⟩:=h;have J':=ok.len;walk_at "@sc_names_serve 436'0X4 517sATOt[@?823>~l~1~kuXq52q53hS7sOt|{`3xname;2;r03g0lname,fresh;J6'0iy 3~j0100S7suXq3-'2GR %L'0T.b_set ~w3-~hL~g~f3~0#~e~d~c02q53hSa'1HR t'2HH %L'0T.b_any '0Boot.«any» 3xname;0;'1Ab 02g0lname,web;J'2Jt HI0011n'1By HI0011n"
  symm;refine⟨r,bl,L,R,bs,rfl,hR,λl1 H1 s1 s2 n1 m1 or f1=>?_⟩;rw[←ok.at_ hR.r.nd or] at f1;have F1:=m1 _ _ hF;symm;refine eE (eO (t:="dict") (.inr (.inr ⟨rfl,_,.inl F1⟩)) (by simp) ?_);symm;rw[if_neg (by decide)];symm;refine E4 (aY (.inl F1) ?_);symm;refine E4 (r9 (SqL.of f1) ?_);rw[j7,Jx,Jx];symm;rw[if_neg (by simp)];symm;refine A8 (SqL.of f1) ?_;refine z8 (n:=fr.length) (λi out H'=>Same H1 H'/\out=List.replicate i (V.bl true)) ⟨Same.refl _,rfl⟩ (λi out H' hi hp=>⟨_,.str (fr[i].1),SqL.of (hp.1 _ _ f1),by rw[JC,JC,Jy hi];rfl⟩) ?_ ?_
  .rintro N i v out H2' H2 hi ⟨s2',rfl⟩ y hN';obtain⟨rfl,hx⟩:=Itl.get y (SqL.of (s2' _ _ f1));rw[JC,JC,Jy hi] at hx;cases hx;have hm:=Kn hi;generalize fr[i]=x at hm;symm;refine⟨rfl,?_⟩;symm;refine⟨f,rfl,.inl ⟨_,.inl (s2' _ _ F1)⟩,?_⟩;symm;refine⟨_,E1 (k:=Sum.inr x.1) (show Rd H2 f _ from .inl (s2' _ _ F1)),?_⟩;rw[L5 (k:=x.2) (ok.nd1 hR.r.nd) hm];symm;refine⟨_,rfl,.inl ⟨x.2,rfl,zc (ok.nm x hm),λH3 m3=>?_⟩⟩;rw[ok.nm x hm];refine⟨d8 (by rw[Lp];lia),hN' _ _ ⟨s2'.trans m3,?_⟩⟩;rw[OO]
  .rintro out H2 ⟨s2',rfl⟩;refine⟨⟨_,SqL.of (s2' _ _ f1),by rw[Jx,Jx];exact JA _⟩,λD hD=>⟨d8 (by rw[Lp];lia),?_⟩⟩;obtain⟨H3,e3,f3,m3,_⟩:=b9 (H:=H2) (o:= .lst (List.replicate fr.length (V.bl true))) hD;symm;change wg K _ (p5 H2 D _) _;rw[e3];refine mK (bs:=List.replicate fr.length true) (SqL.of (by rw[f3,Pr])) ?_;rw[Ax];have OS:=s2'.trans m3;have F3:=OS _ _ F1;symm;refine⟨.inr (.inr (.inl ⟨rfl,.inl ⟨_,F3⟩⟩)),?_⟩;symm;refine⟨f,_,rfl,rfl,.inl F3,λv4 n4=>?_⟩;obtain⟨H4,e4,f4,m4,_⟩:=b9 (o:= .ext (lZ v4 f)) n4;rw[e4];symm;refine aE f4 (.inl (m4 _ _ F3)) (λl5 n5=>?_);rw[yE];obtain⟨H5,e5,f5,m5,_⟩:=b9 (o:= .lst _) n5;rw[e5];symm;refine⟨l5,_,rfl,SqL.of f5,by rw[Jx];lia,λl6 n6=>?_⟩;obtain⟨H6,e6,f6,m6,_⟩:=b9 (o:= .ext (dq l6 (ij (fr.map (·.2))).length)) n6;rw[e6];have Xn:=OS.trans (m4.trans (m5.trans m6));have Uc:(ij (fr.map (·.2))).length=fr.length:=by
    have z:=(rG (fr.map (·.2))).mpr ok.nd;rw[Jx] at z;exact z
   symm;refine mO f6 (by lia) ?_;rw[Uc];symm;refine E4 (r9 (SqL.of (Xn _ _ f1)) ?_);rw[Jx,Jx];symm;rw[if_neg (by simp)];have F6:=Xn _ _ F1;have S6:=hS.same (m1.trans Xn);symm;refine⟨f,_,rfl,.inl ⟨F6,λndf o=>?_⟩⟩;refine z8 (n:=(g5 fr).length) (λi out H'=>Same (z7 f o (g5 fr) H6) H'/\out=List.replicate i (V.bl false)) ⟨Same.refl _,rfl⟩ (λi out H' hi hp=>⟨hp.1 _ _ d0,hi⟩) ?_ ?_
   .rintro N i v out H7' H7 hi ⟨s7,rfl⟩ ⟨rfl,kv,f_,rfl⟩ hN';have ZF:=(K5 (o:=o) F6).trans s7.le;have S7:=S6.at_.mono ZF;obtain⟨x,hx,rfl⟩:=V0 f_;have g_:=ok.no x (JM hx);rw[j7] at hi;symm;refine⟨rfl,?_⟩;symm;refine j3 S7.tup ?_;refine V2 (E1 (k:=Sum.inr x.2) S7.pts) ?_;rw[J3,Kf (λz=>g_ (JB _ z))];symm;refine i9 S7.tup ?_;refine V2 (E1 (k:=Sum.inr x.2) S7.ties) ?_;rw[U4 S7.ts,Kf (λz=>g_ (JE _ z))];refine⟨d8 (by rw[Lp];lia),hN' _ _ ⟨s7,?_⟩⟩;rw[OO]
   .rintro out H7 ⟨s7,rfl⟩;refine⟨⟨s7 _ _ d0,JA _⟩,λD8 n8=>⟨d8 (by rw[Lp,j7];lia),?_⟩⟩;have s8:=O1 F6 s7 n8 (u:= .lst (List.replicate (g5 fr).length (V.bl false)));have f8:=Z3 s7 n8 (u:= .lst (List.replicate (g5 fr).length (V.bl false)));generalize thaw f (p5 H7 D8 (.lst (List.replicate (g5 fr).length (V.bl false))))=H8 at s8 f8⊢;symm;refine⟨D8,List.replicate (g5 fr).length false,rfl,SqL.of (by rw[f8,Pr]),?_⟩;rw[show(List.replicate (g5 fr).length false).any id=false by rw[PH];intro x hx;rw[List.eq_of_mem_replicate hx];simp];symm;exact k _ (m1.trans (Xn.trans s8))
structure StI (K:Qe) (H:Hp) (st r m f bl:Addr) (L R:Sd) (km kf:List (j0×V)) (bs:List Sd):Prop where
 tup:SqT K H st [.ref r,.ref m,.ref f]
 r:RuleIs K H r bl L R bs
 m:H m=some (.dK km)
 f:H f=some (.dK kf)
 b:H bl=some (.lst (bs.map λs=>V.ref s.a))
theorem StI.same {H H':Hp}{st r m f bl:Addr}{L R:Sd}{km kf:List (j0×V)}{bs:List Sd}(h:StI K H st r m f bl L R km kf bs)(s:Same H H'):StI K H' st r m f bl L R km kf bs:=⟨s.tup h.tup,h.r.same s,s _ _ h.m,s _ _ h.f,s _ _ h.b⟩
theorem jk {α:Type}{l:List α}{p:α->Bool}(h:l.Nodup):(l.filter p).Nodup:=h.sublist Ke
theorem mF {A B:List (Str×Str)}{n:Str}(nd:((A++B).map (·.1)).Nodup)(h:n∈A.map (·.1)):TxtAt (g5 A++g5 B) n/\i7 (g5 A++g5 B) n=i7 (g5 A) n:=by
 obtain⟨⟨n',s⟩,hx,e⟩:=Jz.mp h;have e':n'=n:=e;subst e';have e2:g5 A++g5 B=g5 (A++B):=by unfold g5;rw[JF]
 have z:=aK nd (JB B hx);rw[JF] at nd;rw[e2,(aK (JQ.mp nd).1 hx).2];exact z
theorem mj {A B:List (Str×Str)}{n:Str}(nd:((A++B).map (·.1)).Nodup)(h:n∈B.map (·.1)):TxtAt (g5 A++g5 B) n/\i7 (g5 A++g5 B) n=i7 (g5 B) n:=by
 obtain⟨⟨n',s⟩,hx,e⟩:=Jz.mp h;have e':n'=n:=e;subst e';have e2:g5 A++g5 B=g5 (A++B):=by unfold g5;rw[JF]
 have z:=aK nd (JE A hx);rw[JF] at nd;rw[e2,(aK (JQ.mp nd).2.1 hx).2];exact z
theorem K0 (ss:List Str)(f:Str->Str):(ss.map λn=>(n,f n)).map (·.1)=ss:=by rw[Km];exact NB ss
def nJ (K:Qe):Sp:=λvs H Q _=>∃(st r m f bl:Addr) (L R:Sd) (km kf:List (j0×V)) (bs:List Sd),vs=[.ref st]/\StI K H st r m f bl L R km kf bs/\(∀n∈b7 L.W,TxtAt km n)/\(∀n∈b7 R.W,n∉b7 L.W->TxtAt kf n)/\∀(d:Addr) (H':Hp) (t1 t2:List Str),H d=none->Same H H'->Ordr R.W t1 t2->H' d=some (.dK (g5 ((t1++t2).map λn=>(n,bh L.W km kf n))))->Q (.ref d) H'
abbrev kD (P:Program)(w:World)(K:Qe)(mg:Str->Option Value)(base:Heap):Prop:=V9 P w K mg base E7 4 "behind" ["step"] [] (nJ K)
theorem wm {f:Addr}{fd:FuncData}(T:Txt K mg)(Y8:jS P w K mg base)(tY:yC P w K mg base)(X4:fD P w K mg base)(A4:V1 P w K mg base)(F:Fun K "behind" "behind" jL f fd):C0 P w K mg base E7 4 f fd ["step"] (nJ K):=by
 walk_at "#sc_behind"
 .obtain⟨st,r,m,f,bl,L,R,km,kf,bs,rfl,_⟩:=h;rfl
 .obtain⟨st,r,m,f,bl,L,R,km,kf,bs,rfl,hS,hM,hF,k⟩:=h;have SX:=hS.r.l.len;have Sa:=hS.r.r.len;walk_at "@sc_behind 4110426~mi106'0tY 517QN#~a~9~80236~mi106'0X4 51a6~m8236]311"
  symm;refine j3 hS.tup ?_;symm;refine i9 hS.tup ?_;symm;refine⟨r,bl,L,R,bs,rfl,hS.r,λl1 H1 s1 s2 n1 m1 o1 f1=>?_⟩;have S1:=hS.same m1;have Q_:=o1.len;have RK:=JJ (λn=>decide (n∈b7 R.W)) (s1++s2);symm;refine⟨m,l1,km,_,rfl,.inl S1.m,SqL.of f1,jk (o1.perm.nodup_iff.mpr hS.r.l.nd),by lia,λn hn=>hM n (o1.mem.mp (JH.mp hn).1),λd2 H2 n2 m2 f2=>?_⟩;have S2:=S1.same m2;symm;refine⟨.inr (.inr (.inl ⟨rfl,.inl ⟨_,f2⟩⟩)),?_⟩;symm;refine V5 S2.tup ?_;symm;refine⟨r,bl,L,R,bs,rfl,S2.r,λl3 H3 u1 u2 n3 m3 o3 f3=>?_⟩;have S3:=S2.same m3;have hl3:=o3.len;have PY:=JJ (λn=>!decide (n∈b7 L.W)) (u1++u2);symm;refine⟨f,l3,kf,_,rfl,.inl S3.f,SqL.of f3,jk (o3.perm.nodup_iff.mpr hS.r.r.nd),by lia,λn hn=>hF n (o3.mem.mp (JH.mp hn).1) (by have z:=(JH.mp hn).2;rw[KI,Kt] at z;exact z),λd4 H4 n4 m4 f4=>?_⟩;have S4:=S3.same m4;have WX:=m4 _ _ (m3 _ _ f2);have ZG:d2≠d4:=b5 (m3 _ _ f2) n4;have ZH:∀n∈(s1++s2).filter (λn=>decide (n∈b7 R.W)),n∈b7 L.W:=λn hn=>o1.mem.mp (JH.mp hn).1;have g_:∀n∈(u1++u2).filter (λn=>!decide (n∈b7 L.W)),n∉b7 L.W:=λn hn=>by have z:=(JH.mp hn).2;rw[KI,Kt] at z;exact z
  have Wa:(((s1++s2).filter λn=>decide (n∈b7 R.W))++((u1++u2).filter λn=>!decide (n∈b7 L.W))).Nodup:=JQ.mpr ⟨jk (o1.perm.nodup_iff.mpr hS.r.l.nd),jk (o3.perm.nodup_iff.mpr hS.r.r.nd),λa ha b hb e=>g_ b hb (e▸ZH a ha)⟩;have Wc:∀n∈b7 R.W,n∈b7 L.W->n∈(s1++s2).filter λn=>decide (n∈b7 R.W):=λn h1 h2=>JH.mpr ⟨o1.mem.mpr h2,JX h1⟩;have We:∀n∈b7 R.W,n∉b7 L.W->n∈(u1++u2).filter λn=>!decide (n∈b7 L.W):=λn h1 h2=>JH.mpr ⟨o3.mem.mpr h1,by rw[Kf h2];rfl⟩;generalize (s1++s2).filter (λn=>decide (n∈b7 R.W))=A at WX Wa Wc RK;generalize (u1++u2).filter (λn=>!decide (n∈b7 L.W))=B at f4 Wa We PY;have US:(((A.map λn=>(n,i7 km n))++(B.map λn=>(n,i7 kf n))).map (·.1)).Nodup:=by rw[JF,K0,K0];exact Wa
  symm;refine⟨d2,d4,_,_,rfl,rfl,WX,.inl f4,ZG,by rw[j7,j7,Jx,Jx];lia,?_⟩;rw[iw (by have z:=P8 US;unfold g5 at z⊢;rw[JF] at z;exact z)];have n20:H1 d2=none:=n2;have s5:Same H1 (p5 H4 d2 (.dK (g5 (A.map λn=>(n,i7 km n))++g5 (B.map λn=>(n,i7 kf n))))):=D5 (m2.trans (m3.trans m4)) n20;have f5:p5 H4 d2 (.dK (g5 (A.map λn=>(n,i7 km n))++g5 (B.map λn=>(n,i7 kf n)))) d2=some (.dK (g5 (A.map λn=>(n,i7 km n))++g5 (B.map λn=>(n,i7 kf n)))):=d0;generalize p5 H4 d2 (.dK (g5 (A.map λn=>(n,i7 km n))++g5 (B.map λn=>(n,i7 kf n))))=H5 at s5 f5⊢;have S5:=S1.same s5;symm;refine i9 S5.r.tup ?_;symm;refine⟨R.a,R.p,R.q,R.kvs,R.W,rfl,S5.r.r.at_,by lia,λl6 H6 t1 t2 n6 m6 f6 o6=>?_⟩;have TF:=o6.len;symm;have gA:∀n∈b7 R.W,TxtAt (g5 (A.map λn=>(n,i7 km n))++g5 (B.map λn=>(n,i7 kf n))) n/\i7 (g5 (A.map λn=>(n,i7 km n))++g5 (B.map λn=>(n,i7 kf n))) n=bh L.W km kf n:=λn hn=>by
   unfold bh;by_cases hL:n∈b7 L.W
   .rw[if_pos hL];have hA:=Wc n hn hL;have z:=mF US (by rw[K0];exact hA);exact⟨z.1,z.2.trans (fO (JQ.mp Wa).1 hA).2⟩
   .rw[if_neg hL];have hB:=We n hn hL;have z:=mj US (by rw[K0];exact hB);exact⟨z.1,z.2.trans (fO (JQ.mp Wa).2.1 hB).2⟩
  refine⟨d2,l6,_,_,rfl,.inl (m6 _ _ f5),SqL.of f6,o6.perm.nodup_iff.mpr hS.r.r.nd,by lia,λn hn=>(gA n (o6.mem.mp hn)).1,λd7 H7 n7 m7 f7=>?_⟩;refine k d7 H7 t1 t2 (m1.free (s5.free (m6.free n7))) (m1.trans (s5.trans (m6.trans m7))) o6 ?_;rw[f7];congr 3;exact KA λn hn=>by rw[(gA n (o6.mem.mp hn)).2]
def Z1 (L R:B0)(km:List (j0×V)):List Str:=((b7 L).filter λn=>!decide (n∈b7 R)).map (i7 km)
def F8 (W L R:B0)(km kf:List (j0×V)):B0:=BE (ao (Z1 L R km) W) (K3 (bh L km kf) R)
structure Bc (W L R:B0) (km:List (j0×V)) (fr:List (Str×Str)):Prop where
 fit:ei L W km
 lo:∀x∈W.ts,x.1∉Z1 L R km->x.2.2.1∉Z1 L R km/\x.2.2.2∉Z1 L R km
 fo:FrOk W L R fr
 nd:((b7 R).map (bh L km (g5 fr))).Nodup
theorem tU {gs Uh:List Str}(W:B0)(h:∀n,n∈gs↔n∈Uh):ao gs W=ao Uh W:=by grind [ao]
theorem yj {f g:Str->Str}{W:B0}(h:∀n∈b7 W,f n=g n)(he:∀x∈W.ts,x.2.2.1∈W.pts.map (·.1)/\x.2.2.2∈W.pts.map (·.1)):K3 f W=K3 g W:=by
 unfold K3;congr 1
 .exact KA λx hx=>by rw[h x.1 (JB _ (Jz.mpr ⟨x,hx,rfl⟩))]
 .exact KA λx hx=>by rw[h x.1 (JE _ (Jz.mpr ⟨x,hx,rfl⟩)),h _ (JB _ (he x hx).1),h _ (JB _ (he x hx).2)]
theorem dF {α:Type}{A A' B B':List (Str×α)}(pa:A'.Perm A)(pb:B'.Perm B):((A'.filter λx=>!decide (x.1∈B'.map (·.1)))++B').Perm ((A.filter λx=>!decide (x.1∈B.map (·.1)))++B):=by grind
theorem EE {L R:B0}{km:List (j0×V)}{s1 s2:List Str}(o:Ordr L s1 s2)(n:Str):n∈((s1++s2).filter λn=>!decide (n∈b7 R)).map (i7 km)↔n∈Z1 L R km:=((o.perm.filter _).map _).mem_iff
theorem jn {f:Str->Str}{W:B0}(h:((b7 W).map f).Nodup):((K3 f W).pts.map (·.1)).Nodup/\((K3 f W).ts.map (·.1)).Nodup:=by grind [b7,K3]
structure NoBar (m:Addr) (bs:List Sd) (W:B0) (fx:List (Str×Str)):Prop where
 len:bs.length<=10
 b:∀b∈bs,m≠b.p/\m≠b.q/\DB b.W W fx
 no:∀b∈bs,O7 b.W W fx=[]
def lg (K:Qe):Sp:=λvs H Q E=>∃(S L R:Sd) (st r m f bl:Addr) (km kf:List (j0×V)) (bs:List Sd) (fx:List (Str×Str)),vs=[.ref S.a,.ref st]/\SdIs K H S/\StI K H st r m f bl L R km kf bs/\km=g5 fx/\NoBar m bs S.W fx/\(km.map (·.1)).Nodup/\km.length<=100/\(∀kv∈km,∃n s,kv=(Sum.inr n,V.str s))/\ei L.W S.W km/\(∀x∈S.W.ts,x.1∉Z1 L.W R.W km->x.2.2.1∉Z1 L.W R.W km/\x.2.2.2∉Z1 L.W R.W km)/\S.W.pts.length+S.W.ts.length<=24/\NewP K H Q (ao (Z1 L.W R.W km) S.W)
def uL (K:Qe):Sp:=λvs H Q E=>∃(S L R:Sd) (st r m f bl:Addr) (km:List (j0×V)) (fr:List (Str×Str)) (bs:List Sd) (fx:List (Str×Str)),vs=[.ref S.a,.ref st]/\SdIs K H S/\StI K H st r m f bl L R km (g5 fr) bs/\km=g5 fx/\NoBar m bs S.W fx/\(km.map (·.1)).Nodup/\km.length<=100/\(∀kv∈km,∃n s,kv=(Sum.inr n,V.str s))/\Bc S.W L.W R.W km fr/\S.W.pts.length+S.W.ts.length<=24/\NewP K H Q (F8 S.W L.W R.W km (g5 fr))
abbrev mU (P:Program)(w:World)(K:Qe)(mg:Str->Option Value)(base:Heap):Prop:=V9 P w K mg base (rV P w) 10 "rest_of" ["web","step"] [] (lg K)
theorem sO {f:Addr}{fd:FuncData}(T:Txt K mg)(ft:kH P w K mg base)(ia:nH P w K mg base)(cv:iN P w K mg base)(kM:rC P w K mg base)(F:Fun K "rest_of" "rest_of" gX f fd):C0 P w K mg base (rV P w) 10 f fd ["web","step"] (lg K):=by
 refine F.okE sc_rest_of (λvs H Q E h=>?_) (λc_ A outer s H vs Q E hr h=>?_)
 .obtain⟨S,L,R,st,r,m,f,bl,km,kf,bs,fx,rfl,_⟩:=h;rfl
 .obtain⟨S,L,R,st,r,m,f,bl,km,kf,bs,fx,rfl,hS,hT,D_,nb,knd,Wf,ktx,fit,lo,hsz,k⟩:=h;have SX:=hT.r.l.len;have Sa:=hT.r.r.len;walk_at "@sc_rest_of 42117sO6'0ft p1280311d~i'0T.r_NoMatch L3<43_'0ia ~b8036'0cv 517su'0rS 6'0kM 8082311~6hd~i'0T.r_Barred L3<a03"
  symm;refine j3 hT.tup ?_;symm;refine j3 hT.r.tup ?_;symm;refine i9 hT.tup ?_;symm;refine⟨L.a,L.p,L.q,S.a,S.p,S.q,L.kvs,S.kvs,L.W,S.W,.ref m,true,rfl,hT.r.l,hS,.inr (.inr ⟨m,km,rfl,hT.m,knd,Wf,λkv hk=>?_,(uu fit).symm⟩),λH1 m1=>?_⟩
  .obtain⟨n,s,rfl⟩:=ktx kv hk;exact⟨"str",rfl⟩
  have T1:=hT.same m1;have S1:=hS.same m1;symm;refine⟨st,r,m,bl,.ref f,L,R,bs,km,rfl,T1.tup,T1.r,.inl T1.m,fit.txt,λl2 H2 s1 s2 n2 m2 o2 f2=>?_⟩;have T2:=T1.same m2;have S2:=S1.same m2;symm;have Wg:=EE (R:=R.W) (km:=km) o2;generalize ((s1++s2).filter λn=>!decide (n∈b7 R.W)).map (i7 km)=gs at f2 Wg;have ZI:=S2.len;rw[A5] at ZI;refine⟨S.a,l2,S.p,S.q,S.kvs,S.W,gs,rfl,S2.at_,S2.hp,S2.hq,SqL.of f2,A6 hS.nd,K2 hS.nd,by lia,by lia,λx hx=>hS.nl _ (JE _ (Jz.mpr ⟨x,hx,rfl⟩)),?_⟩;have hlo:¬oz gs S.W=true:=λz=>by
   obtain⟨x,hx,hz⟩:=LC.mp z;have k_:=JH.mp (show x∈S.W.ts.filter λx=>!decide (x.1∈gs) from hx);have hn:x.1∉Z1 L.W R.W km:=λq=>by
    have q2:=k_.2;rw[JX ((Wg _).mpr q)] at q2;cases q2
   have he:=lo x k_.1 hn;rw[Bool.or_eq_true,Ko,Ko,Wg,Wg] at hz;exact hz.elim he.1 he.2
  rw[if_neg hlo,tU S.W Wg];intro a3 p3 q3 k3 W3 H3 m3 w3 hp3 hq3 ne3 np3 nq3 e31 e32;have T3:=T2.same m3;have S3:=S2.same m3;symm;refine i9 T3.tup ?_;symm;refine⟨S,L,R,r,bl,m,bs,fx,rfl,S3,T3.r,nb.len,by rw[←D_];exact T3.m,nb.b,λv H4 m4 brd=>?_⟩;have hv:v= .non:=by
   rcases brd with⟨_,e⟩|⟨i,b,row,rr,t,d,hb,_,hr,_⟩
   .exact e
   .rw[nb.no b (JM hb)] at hr;cases hr
  subst hv;symm;rw[if_neg (by simp)];symm;exact k a3 p3 q3 k3 W3 H4 (m1.trans (m2.trans (m3.trans m4))) (w3.mono m4.le) (m4 _ _ hp3) (m4 _ _ hq3) ne3 ((m1.trans m2).free np3) ((m1.trans m2).free nq3) e31 e32
abbrev tE (P:Program)(w:World)(K:Qe)(mg:Str->Option Value)(base:Heap):Prop:=V9 P w K mg base (rV P w) 11 "done" ["web","step"] [] (uL K)
theorem Au {f:Addr}{fd:FuncData}(T:Txt K mg)(ik:mU P w K mg base)(aU:eC P w K mg base)(jB:qc P w K mg base)(iA:mH P w K mg base)(bc:kD P w K mg base)(F:Fun K "done" "done" tM f fd):C0 P w K mg base (rV P w) 11 f fd ["web","step"] (uL K):=by
 refine F.okE sc_done (λvs H Q E h=>?_) (λc_ A outer s H vs Q E hr h=>?_)
 .obtain⟨S,L,R,st,r,m,f,bl,km,fr,bs,fx,rfl,_⟩:=h;rfl
 .obtain⟨S,L,R,st,r,m,f,bl,km,fr,bs,fx,rfl,hS,hT,D_,nb,knd,Wf,ktx,ok,hsz,k⟩:=h;have SX:=hT.r.l.len;have Sa:=hT.r.r.len;walk_at "@sc_done 421143_'0ik ~bk017sO6'0aU 8082311d~i'0T.r_NoNames L3<a6'0jB 8336'0iA i126'0bc 51"
  symm;refine j3 hT.tup ?_;symm;refine⟨S,L,R,st,r,m,f,bl,km,g5 fr,bs,fx,rfl,hS,hT,D_,nb,knd,Wf,ktx,ok.fit,ok.lo,hsz,?_⟩;intro a3 p3 q3 k3 W3 H3 m3 w3 hp3 hq3 ne3 np3 nq3 e31 e32;have T3:=hT.same m3;have S3:=hS.same m3;symm;refine V5 T3.tup ?_;symm;refine⟨S,L,R,r,bl,f,bs,fr,rfl,S3,T3.r,T3.f,ok.fo,λH4 m4=>?_⟩;have T4:=T3.same m4;symm;refine i9 T4.r.tup ?_;symm;refine⟨st,r,m,f,bl,L,R,km,g5 fr,bs,rfl,T4,ok.fit.txt,λn h1 h2=>(ok.fo.txt hT.r.r.nd (ok.fo.mem.mpr ⟨h1,h2⟩)).1,λd5 H5 t1 t2 n5 m5 o5 f5=>?_⟩;have T5:=T4.same m5;have nds:=o5.perm.nodup_iff.mpr hT.r.r.nd;have gb:∀n∈b7 R.W,TxtAt (g5 ((t1++t2).map λn=>(n,bh L.W km (g5 fr) n))) n/\i7 (g5 ((t1++t2).map λn=>(n,bh L.W km (g5 fr) n))) n=bh L.W km (g5 fr) n:=λn hn=>fO nds (o5.mem.mpr hn);generalize g5 ((t1++t2).map λn=>(n,bh L.W km (g5 fr) n))=nm at f5 gb;have ndb:((b7 R.W).map (i7 nm)).Nodup:=by
   rw[KA λn hn=>(gb n hn).2];exact ok.nd
  symm;refine⟨R.a,d5,R.p,R.q,R.kvs,nm,R.W,i7 nm,rfl,T5.r.r.at_,T5.r.r.hp,T5.r.r.hq,.inl f5,rfl,λn hn=>(gb n hn).1,ndb,by lia,T5.r.r.ends,?_⟩;rw[yj (λn hn=>(gb n hn).2) T5.r.r.ends];intro a6 p6 q6 k6 W6 H6 m6 w6 hp6 hq6 ne6 np6 nq6 e61 e62;have QU:=m4.trans (m5.trans m6);symm;have nr:=jn ok.nd;have Xl:(W3.pts.map (·.1)).Nodup:=(e31.map _).nodup_iff.mpr (R0 (A6 hS.nd));have Xm:(W3.ts.map (·.1)).Nodup:=(e32.map _).nodup_iff.mpr (R0 (K2 hS.nd));have lf1:=JJ (λx:Str×Str=>!decide (x.1∈Z1 L.W R.W km)) S.W.pts;have lf2:=JJ (λx:Str×M8=>!decide (x.1∈Z1 L.W R.W km)) S.W.ts;have le1:=e31.length_eq;have Yk:=e32.length_eq;have Pk:=e61.length_eq;have QH:=e62.length_eq;rw[show(K3 (bh L.W km (g5 fr)) R.W).pts.length=R.W.pts.length from Jx _] at Pk;rw[show(K3 (bh L.W km (g5 fr)) R.W).ts.length=R.W.ts.length from Jx _] at QH;rw[show(ao (Z1 L.W R.W km) S.W).pts.length=(S.W.pts.filter λx=>!decide (x.1∈Z1 L.W R.W km)).length from rfl] at le1;rw[show(ao (Z1 L.W R.W km) S.W).ts.length=(S.W.ts.filter λx=>!decide (x.1∈Z1 L.W R.W km)).length from rfl] at Yk;rw[A5] at Sa;refine⟨a3,p3,q3,a6,p6,q6,k3,k6,W3,W6,rfl,w3.mono QU.le,w6,Xl,Xm,(e61.map _).nodup_iff.mpr nr.1,(e62.map _).nodup_iff.mpr nr.2,by lia,by lia,NewP.permM (W:=F8 S.W L.W R.W km (g5 fr)) (m3.trans QU) (dF e31 e61) (dF e32 e62) k⟩
def Iw (K:Qe)(H:Hp)(Q:VK)(L R:Sd):Prop:=∀(r bl:Addr) (L' R':Sd) (H':Hp),Same H H'->RuleIs K H' r bl L' R' []->H' bl=some (.lst [])->H bl=none->H L'.p=none->H L'.q=none->H R'.p=none->H R'.q=none->L'.W.pts.Perm R.W.pts->L'.W.ts.Perm R.W.ts->R'.W.pts.Perm L.W.pts->R'.W.ts.Perm L.W.ts->L'.p≠R'.p->L'.p≠R'.q->L'.q≠R'.p->L'.q≠R'.q->Q (.ref r) H'
def nj (K:Qe):Sp:=λvs H Q _=>∃(r bl:Addr) (L R:Sd) (bs:List Sd),vs=[.ref r]/\RuleIs K H r bl L R bs/\Iw K H Q L R
theorem WebIs.perm {H:Hp}{a p q:Addr}{kvs:List (j0×V)}{W W':B0}(h:WebAt K H a p q kvs W')(hp:H p=some (.dK (g5 W'.pts)))(hq:H q=some (.dK kvs))(ne:p≠q)(p1:W'.pts.Perm W.pts)(p2:W'.ts.Perm W.ts)(nd:(b7 W).Nodup)(len:(b7 W).length<=24)(ends:∀x∈W.ts,x.2.2.1∈W.pts.map (·.1)/\x.2.2.2∈W.pts.map (·.1))(nl:∀x∈b7 W,x.length<=100):WebIs 24 K H a p q kvs W':=by
 have pm:(b7 W').Perm (b7 W):=(p1.map _).append (p2.map _);refine⟨h,hp,hq,ne,pm.nodup_iff.mpr nd,by rw[pm.length_eq];exact len,λx hx=>?_,λx hx=>nl x (pm.mem_iff.mp hx)⟩;have z:=ends x (p2.mem_iff.mp hx);exact⟨(p1.map _).mem_iff.mpr z.1,(p1.map _).mem_iff.mpr z.2⟩
abbrev rq (P:Program)(w:World)(K:Qe)(mg:Str->Option Value)(base:Heap):Prop:=V9 P w K mg base E7 3 "turned" ["rule"] [] (nj K)
theorem wZ {f:Addr}{fd:FuncData}(T:Txt K mg)(N0:dC P w K mg base)(F:Fun K "turned" "turned" ku f fd):C0 P w K mg base E7 3 f fd ["rule"] (nj K):=by
 walk_at "#sc_turned"
 .obtain⟨r,bl,L,R,bs,rfl,_⟩:=h;rfl
 .obtain⟨r,bl,L,R,bs,rfl,hR,k⟩:=h;have SX:=hR.l.len;have Sa:=hR.r.len;rw[A5] at SX Sa;walk_at "@sc_turned ajp6~7310i6~7310E";symm;refine i9 hR.tup ?_;symm;refine⟨R.a,R.p,R.q,R.kvs,R.W,rfl,hR.r.at_,A6 hR.r.nd,K2 hR.r.nd,by lia,by lia,λa1 p1 q1 k1 W1 H1 m1 h1 OA Uy ne1 np1 nq1 e1 e2=>?_⟩;symm;refine j3 (m1.tup hR.tup) ?_;symm;refine⟨L.a,L.p,L.q,L.kvs,L.W,rfl,(hR.same m1).l.at_,A6 hR.l.nd,K2 hR.l.nd,by lia,by lia,λa2 p2 q2 k2 W2 H2 m2 h2 SK Qr ne2 np2 nq2 e3 e4=>?_⟩;symm;refine⟨d8 (by simp),λl3 n3=>?_⟩;obtain⟨H3,e5,f3,m3,_⟩:=b9 (o:= .lst []) n3;rw[e5];symm;refine⟨d8 (by simp),λl4 n4=>?_⟩;obtain⟨H4,e6,f4,m4,_⟩:=b9 (o:= .tup _) n4;rw[e6];have Xo:=m3.trans m4;have TQ:=m2.trans Xo;have B1:WebIs 24 K H4 a1 p1 q1 k1 W1:=WebIs.perm (h1.mono TQ.le) (TQ _ _ OA) (TQ _ _ Uy) ne1 e1 e2 hR.r.nd hR.r.len hR.r.ends hR.r.nl;have B2:WebIs 24 K H4 a2 p2 q2 k2 W2:=WebIs.perm (h2.mono Xo.le) (Xo _ _ SK) (Xo _ _ Qr) ne2 e3 e4 hR.l.nd hR.l.len hR.l.ends hR.l.nl;exact k l4 l3 ⟨a1,p1,q1,k1,W1⟩ ⟨a2,p2,q2,k2,W2⟩ H4 (m1.trans TQ) ⟨SqT.of f4,B1,B2,SqL.of (m4 _ _ f3),λ_ h=>nomatch h⟩ (m4 _ _ f3) (m1.free (m2.free n3)) np1 nq1 (m1.free np2) (m1.free nq2) e1 e2 e3 e4 (b5 OA np2) (b5 OA nq2) (b5 Uy np2) (b5 Uy nq2)
def Ib (K:Qe)(H:Hp)(Q:VK)(L R:Sd)(km kf:List (j0×V)):Prop:=∀(st r m f bl:Addr) (L' R':Sd) (t1 t2 u1 u2:List Str) (H':Hp),Same H H'->Ordr R.W t1 t2->Ordr L.W u1 u2->StI K H' st r m f bl L' R' (g5 ((t1++t2).map λn=>(n,bh L.W km kf n))) (g5 (((u1++u2).filter λn=>!decide (n∈b7 R.W)).map λn=>(n,i7 km n))) []->
 L'.W.pts.Perm R.W.pts->L'.W.ts.Perm R.W.ts->R'.W.pts.Perm L.W.pts->R'.W.ts.Perm L.W.ts->H L'.p=none->H L'.q=none->H R'.p=none->H R'.q=none->H m=none->H f=none->H bl=none->L'.p≠R'.p->L'.p≠R'.q->L'.q≠R'.p->L'.q≠R'.q->m≠f->L'.p≠m->L'.p≠f->L'.q≠m->L'.q≠f->R'.p≠m->R'.p≠f->R'.q≠m->R'.q≠f->Q (.ref st) H'
def pC (K:Qe):Sp:=λvs H Q _=>∃(st r m f bl:Addr) (L R:Sd) (km kf:List (j0×V)) (bs:List Sd),vs=[.ref st]/\StI K H st r m f bl L R km kf bs/\(∀n∈b7 L.W,TxtAt km n)/\(∀n∈b7 R.W,n∉b7 L.W->TxtAt kf n)/\Ib K H Q L R km kf
abbrev zH (P:Program)(w:World)(K:Qe)(mg:Str->Option Value)(base:Heap):Prop:=V9 P w K mg base E7 5 "back" ["step"] [] (pC K)
theorem Bo {f:Addr}{fd:FuncData}(T:Txt K mg)(Y8:jS P w K mg base)(dM:oS P w K mg base)(bc:kD P w K mg base)(lF:rq P w K mg base)(F:Fun K "back" "back" ua f fd):C0 P w K mg base E7 5 f fd ["step"] (pC K):=by
 walk_at "#sc_back"
 .obtain⟨st,r,m,f,bl,L,R,km,kf,bs,rfl,_⟩:=h;rfl
 .obtain⟨st,r,m,f,bl,L,R,km,kf,bs,rfl,hT,hM,hF,k⟩:=h;have SX:=hT.r.l.len;have Sa:=hT.r.r.len;walk_at "@sc_back ajp6'0lF 310i6'0bc 506~mi106'0dM 310";symm;refine j3 hT.tup ?_;symm;refine⟨r,bl,L,R,bs,rfl,hT.r,?_⟩;intro r1 bl1 L1 R1 H1 m1 hR1 hb1 nb1 n1 n2 n3 n4 e1 e2 e3 e4 d1 d2 d3 d4;have T1:=hT.same m1;symm;refine⟨st,r,m,f,bl,L,R,km,kf,bs,rfl,T1,hM,hF,λd5 H5 t1 t2 n5 m5 o5 f5=>?_⟩;have T5:=T1.same m5;symm;refine i9 T5.tup ?_;symm;refine j3 T5.tup ?_;symm;refine⟨r,bl,L,R,bs,rfl,T5.r,λl6 H6 u1 u2 n6 m6 o6 f6=>?_⟩;have TK:=o6.len;have ndu:((u1++u2).filter λn=>!decide (n∈b7 R.W)).Nodup:=(o6.perm.nodup_iff.mpr hT.r.l.nd).sublist Ke;have J':=JJ (λn=>!decide (n∈b7 R.W)) (u1++u2);symm;refine⟨m,l6,km,_,rfl,.inl (m6 _ _ T5.m),SqL.of f6,ndu,by lia,λn hn=>hM n (o6.mem.mp (JH.mp hn).1),λd7 H7 n7 m7 f7=>?_⟩;symm;refine⟨d8 (by simp),λt8 n8=>?_⟩;obtain⟨H8,e8,f8,m8,_⟩:=b9 (o:= .tup [.ref r1,.ref d5,.ref d7]) n8;rw[e8];have m58:=m6.trans (m7.trans m8);have ZJ:=m5.trans m58;have R8:=hR1.same ZJ;have Zv:=m58 _ _ f5;have f7':=m8 _ _ f7;have x1:=hR1.l.hp;have x2:=hR1.l.hq;have x3:=hR1.r.hp;have x4:=hR1.r.hq;have Wh:=m5.trans m6;exact k t8 r1 d5 d7 bl1 L1 R1 t1 t2 u1 u2 H8 (m1.trans ZJ) o5 o6 ⟨SqT.of f8,R8,Zv,f7',ZJ _ _ hb1⟩ e1 e2 e3 e4 n1 n2 n3 n4 (m1.free n5) (m1.free (Wh.free n7)) nb1 d1 d2 d3 d4 (b5 (m6 _ _ f5) n7) (b5 x1 n5) (b5 (Wh _ _ x1) n7) (b5 x2 n5) (b5 (Wh _ _ x2) n7) (b5 x3 n5) (b5 (Wh _ _ x3) n7) (b5 x4 n5) (b5 (Wh _ _ x4) n7)
theorem zl {a:Str}:∀{l:List Str},l.Nodup->l.length<=(l.filter λx=>!decide (x=a)).length+1
 |[],_=>KU _
 |x::r,nd=>by
  have nd':=KN.mp nd;by_cases e:x=a
  .have hr:(r.filter λx=>!decide (x=a))=r:=MI.mpr λy hy=>by rw[Kf (λz=>nd'.1 (by rw[e,←z];exact hy))];rfl
   rw[Kp (by simp [e]),hr];simp
  .rw[Ki (by simp [e]),Ky,Ky];have:=zl (a:=a) nd'.2;lia
theorem kS:∀{m l:List Str},l.Nodup->(∀x∈l,x∈m)->l.length<=m.length
 |[],l,_,h=>by
  cases l with
  |nil=>exact JA _
  |cons x r=>exact absurd (h x JT) (by simp)
 |a::m,l,nd,h=>by
  have z:=zl (a:=a) nd;have z2:=kS (m:=m) (l:=l.filter λx=>!decide (x=a)) (nd.sublist Ke) λx hx=>by
   have q:=JH.mp hx;rcases Kl.mp (h x q.1) with e|e
   .have q2:=q.2;rw[JX e] at q2;cases q2
   .exact e
  rw[Ky];lia
theorem EL {ws l:List Str}(hl:ws.length=16)(nd:l.Nodup)(h:∀x∈l,Wd ws 8 12 x):l.length<=4:=by
 have z:=kS (m:=(ws.drop 8).take 4) nd λx hx=>by
  obtain⟨j,j1,j2,hj⟩:=h x hx;refine JM (i:=j -8) ?_;rw[NC,if_pos (by lia),Ph,show 8+(j -8)=j by lia];exact hj
 rw[JP,Ni] at z;lia
def fW (K:Qe):Sp:=λvs H Q _=>∃(S:Sd) (lx lw lk ln:Addr) (xs:List Int) (ws ks ns:List Str),vs=[.ref S.a,.ref lx,.ref lw,.ref lk,.ref ln]/\SdIs K H S/\rD S.W/\SqL K H lx (xs.map V.int)/\xs.length=16/\(∀x∈xs,0<=x)/\SqL K H lw (ws.map V.str)/\AS ws/\SqL K H lk (ks.map V.str)/\EB ks/\SqL K H ln (ns.map V.str)/\ns.length=4/\ns.Nodup/\(∀n∈ns,V4 n=true/\n∉b7 S.W)/\
 ∀(st r m f bl:Addr) (L R:Sd) (pr fr:List (Str×Str)) (os:List Str) (H':Hp),Same H H'->StI K H' st r m f bl L R (g5 (pr.map N1)) (g5 fr) []->ke L.W R.W []->MP S.W os pr L.W.pts L.W.ts (b7 R.W)->(∀n x,(n,x)∈S.W.ts->(x.2.1∈os\/x.2.2∈os)->n∈os)->(∀n∈os,n∈pr.map (·.1))->FrOk S.W L.W R.W fr->(∀n∈b7 L.W,Wd ws 0 8 n)->Q (.ref st) H'
abbrev iX (P:Program)(w:World)(K:Qe)(mg:Str->Option Value)(base:Heap):Prop:=V9 P w K mg base E7 3 "_law_step" ["_law_web_here","_law_xs","_law_words_here","_law_kinds","_law_names"] [] (fW K)
theorem pj {f:Addr}{fd:FuncData}(T:Txt K mg)(cK:iP P w K mg base)(F:Fun K "_law_step" "_law_step" cG f fd):C0 P w K mg base E7 3 f fd ["_law_web_here","_law_xs","_law_words_here","_law_kinds","_law_names"] (fW K):=by
 walk_at "#sc__law_step"
 .obtain⟨S,lx,lw,lk,ln,xs,ws,ks,ns,rfl,_⟩:=h;rfl
 .obtain⟨S,lx,lw,lk,ln,xs,ws,ks,ns,rfl,hS,hG,hX,s_,t_,hW,hws,hK,hks,hNs,Wi,Sb,Wj,k⟩:=h;walk_at "@sc__law_step 7=6'0cK 8081k23yb59b69z47M7vwrftWVU3e152tWVU3e152g89dsAZoD8e152noD8e152ndCc4q570708aj85k67"
  refine P5 ?_;rfl';refine⟨S,lx,lw,lk,xs,ws,ks,rfl,hS,hG,hX,s_,t_,hW,hws,hK,hks,λt1 r m bl L R pr os H1 m1 f1 g1 gb hR rok mp lo osub F_ hold=>?_⟩;refine F5 (SqT.of f1) rfl ?_;rfl';refine P5 ?_;rfl';intro fd nfd;obtain⟨H2,e2,f2,m2,_⟩:=b9 (o:= .dK []) nfd;rw[e2];have R2:=hR.same m2;have Sa:=hR.r.len;rw[A5] at Sa;rfl';refine P5 ?_;rfl';refine i9 R2.tup ?_;rfl';refine j3 R2.r.at_.tup ?_;rfl';refine B9 (ss:=R.W.pts.map (·.1)) R2.r.at_.pts (by rw[J6,B6]) (by rw[Jx];lia) (λu1 a1 a2 l3 n3=>?_);obtain⟨H3,e3,f3,m3,_⟩:=b9 (o:= .lst _) n3;rw[e3];have R3:=R2.same m3;rfl';refine i9 R3.tup ?_;rfl';refine i9 R3.r.at_.tup ?_;rfl';refine B9 (ss:=R.W.ts.map (·.1)) R3.r.at_.ties (by rw[R3.r.at_.ts.keys,B6]) (by rw[Jx];lia) (λu2 b1 b2 l4 n4=>?_);obtain⟨H4,e4,f4,m4,_⟩:=b9 (o:= .lst _) n4;rw[e4];have q1:=a1.length_eq;have q2:=b1.length_eq;rw[Jx] at q1 q2;rfl';refine mD (m4 _ _ f3) f4 (d8 (by rw[Jx,Jx];lia)) (λl5 n5=>?_);rw[←JF];obtain⟨H5,e5,f5,m5,_⟩:=b9 (o:= .lst _) n5;rw[e5];have ou:Ordr R.W u1 u2:=⟨a1,b1,a2,b2⟩
  have QK:=m3.trans (m4.trans m5);have q_:fd≠l5:=b5 (m4 _ _ (m3 _ _ f2)) n5;have ZK:(u1++u2).Nodup:=ou.perm.nodup_iff.mpr hR.r.nd;have SA:((u1++u2).filter λn=>!decide (n∈b7 L.W)).length<=4:=EL hws.1 (ZK.sublist Ke) λx hx=>by
   have z:=JH.mp hx;have z2:=z.2;rw[KI,Kt] at z2;exact F_ x (ou.mem.mp z.1) z2
  have TK:(u1++u2).length<=60:=by rw[JG];lia
  generalize Ti:u1++u2=us at f5 SA TK ZK;refine A8 (SqL.of f5) ?_;refine K6 (n:=us.length) (λi σ H'=>(∃v9,σ=[some (.ref S.a),some (.ref lx),some (.ref lw),some (.ref lk),some (.ref ln),some (.ref r),some (.ref m),some (.ref fd),v9])/\Same H1 H'/\H' l5=some (.lst (us.map V.str))/\∃fr:List (Str×Str),H' fd=some (.dK (g5 fr))/\fr.map (·.1)=(us.take i).filter (λn=>!decide (n∈b7 L.W))/\fr.map (·.2)=ns.take fr.length)
   ⟨⟨_,rfl⟩,m2.trans QK,f5,[],QK _ _ f2,rfl,rfl⟩ (λi σ H' hi hp=>⟨_,.str (us[i]),SqL.of hp.2.2.1,by rw[JC,Jy hi];rfl⟩) ?_ ?_
  .rintro i v σ H6' H6 hi ⟨⟨v9,rfl⟩,s6,h6,fr,g6,e61,e62⟩ y _ _;obtain⟨rfl,hx⟩:=Itl.get y (SqL.of h6);rw[JC,Jy hi] at hx;cases hx;have e7:us.take (i+1)=us.take i++[us[i]]:=by rw[Kb,Jy hi];rfl
   have R6:=hR.same s6;have no:us[i]∈b7 L.W->(∃v9',[some (V.ref S.a),some (.ref lx),some (.ref lw),some (.ref lk),some (.ref ln),some (.ref r),some (.ref m),some (.ref fd),some (.str us[i])]=[some (.ref S.a),some (.ref lx),some (.ref lw),some (.ref lk),some (.ref ln),some (.ref r),some (.ref m),some (.ref fd),v9'])/\Same H1 H6/\H6 l5=some (.lst (us.map V.str))/\∃fr:List (Str×Str),H6 fd=some (.dK (g5 fr))/\fr.map (·.1)=(us.take (i+1)).filter (λn=>!decide (n∈b7 L.W))/\fr.map (·.2)=ns.take fr.length:=λhb=>
    ⟨⟨_,rfl⟩,s6,h6,fr,g6,by rw[e61,e7,Ka,Kp (by simp [hb]),KD,Ku],e62⟩
   rfl';refine j3 R6.tup ?_;rfl';refine j3 R6.l.at_.tup ?_;refine N6 (E1 (k:=Sum.inr us[i]) R6.l.at_.pts) ?_;rw[J3];rfl';refine N2 (λc1=>?_) (λc1=>?_)
   .rfl';refine j3 R6.tup ?_;rfl';refine i9 R6.l.at_.tup ?_;refine N6 (E1 (k:=Sum.inr us[i]) R6.l.at_.ties) ?_;rw[U4 R6.l.at_.ts];rfl';refine N2 (λc2=>?_) (λc2=>?_)
    .have Tu:us[i]∉b7 L.W:=λz=>(JD.mp z).elim c1 c2;have ef:(us.take (i+1)).filter (λn=>!decide (n∈b7 L.W))=fr.map (·.1)++[us[i]]:=by rw[e61,e7,Ka,Ki (by simp [Tu]),KD]
     have l_:fr.length<4:=by
      have z1:((us.take (i+1)).filter λn=>!decide (n∈b7 L.W)).length<=(us.filter λn=>!decide (n∈b7 L.W)).length:=((KO _ _).filter _).length_le;rw[ef,JG,Jx,JO] at z1;lia
     have PJ:us[i]∉fr.map (·.1):=λz=>by
      rw[e61] at z;have z1:=(JH.mp z).1;have z2:(us.take (i+1)).Nodup:=ZK.sublist (KO _ _);rw[e7] at z2;exact(JQ.mp z2).2.2 _ z1 _ (by simp) rfl
     obtain⟨nm,RF⟩:∃nm,ns[fr.length]?=some nm:=⟨ns[fr.length]'(by lia),Jy (by lia)⟩
     rfl';refine E4 (aY (.inl g6) ?_);rw[j7];rfl';refine j4 (xs:=ns.map V.str) ((m1.trans s6).seq hNs) (F0 (j:=fr.length) (by rw[JC,RF];rfl)) ?_;rfl';refine O9 (z6 (k:=Sum.inr us[i]) g6 (d8 (by rw[j7];lia)) ?_);walk_at "X";refine⟨⟨_,rfl⟩,D5 s6 nfd,by rw[d6 q_.symm];exact h6,fr++[(us[i],nm)],?_,?_,?_⟩
     .rw[d0];exact KQ (λz=>some (HO.dK z)) (X3 PJ)
     .rw[w4,ef]
     .rw[Y0,e62,JG,JO,Kb,RF];rfl
    .rfl';exact no (JE _ c2)
   .rfl';exact no (JB _ c1)
  .rintro σ H6 ⟨⟨v9,rfl⟩,s6,h6,fr,g6,e61,e62⟩;refine⟨⟨_,SqL.of h6,by rw[Jx];exact JA _⟩,?_⟩;rw[JK (JA _)] at e61;have J':fr.length<=4:=by
    have z:=KQ List.length e61;rw[Jx] at z;lia
   have j_:∀x∈fr,x.2∈ns:=λx hx=>by
    have z:x.2∈fr.map (·.2):=Jz.mpr ⟨x,hx,rfl⟩;rw[e62] at z;exact List.mem_of_mem_take z
   rfl';refine⟨d8 (by simp),λst nst=>?_⟩;obtain⟨H7,e7,f7,m7,_⟩:=b9 (H:=H6) (o:= .tup _) nst;change Q _ (p5 H6 st _);rw[e7];refine k st r m fd bl L R pr fr os H7 (m1.trans (s6.trans m7)) ⟨SqT.of f7,hR.same (s6.trans m7),m7 _ _ (s6 _ _ g1),m7 _ _ g6,m7 _ _ (s6 _ _ gb)⟩ rok mp lo osub ⟨⟨u1,u2,ou,?_⟩,λx hx=>(Wj _ (j_ x hx)).1,?_,λx hx=>(Wj _ (j_ x hx)).2,by lia⟩ hold
   .rw[Ti];exact e61
   .rw[e62];exact Sb.sublist (KO _ _)
theorem gH (pr:List (Str×Str)):(pr.map N1).map (·.1)=pr.map (·.2):=by rw[Km];rfl
section
variable {W L R:B0} {os:List Str} {pr:List (Str×Str)}
theorem MP.nds (h:MP W os pr L.pts L.ts (b7 R)):((pr.map N1).map (·.1)).Nodup:=by rw[gH];exact h.n2
theorem MP.at_ (h:MP W os pr L.pts L.ts (b7 R)){n w:Str}(hx:(n,w)∈pr):TxtAt (g5 (pr.map N1)) w/\i7 (g5 (pr.map N1)) w=n:=aK h.nds (Jz.mpr ⟨(n,w),hx,rfl⟩)
theorem MP.of_ (h:MP W os pr L.pts L.ts (b7 R)){w:Str}(hw:w∈b7 L):(i7 (g5 (pr.map N1)) w,w)∈pr:=by
 have z:w∈pr.map (·.2):=by rw[h.wd];exact hw
 obtain⟨⟨n,w'⟩,hx,e⟩:=Jz.mp z;have e':w'=w:=e;subst e';rw[(h.at_ hx).2];exact hx
theorem MP.txt (h:MP W os pr L.pts L.ts (b7 R)):∀w∈b7 L,TxtAt (g5 (pr.map N1)) w:=λw hw=>(h.at_ (h.of_ hw)).1
theorem MP.inL (h:MP W os pr L.pts L.ts (b7 R)){n w:Str}(hx:(n,w)∈pr):w∈b7 L:=by grind [cases MP,b7]
theorem MP.gs (h:MP W os pr L.pts L.ts (b7 R))(n:Str):n∈Z1 L R (g5 (pr.map N1))↔∃w,(n,w)∈pr/\w∉b7 R:=by
 unfold Z1;rw[Jz];constructor
 .rintro⟨w,hw,rfl⟩;have z:=JH.mp hw;have z2:=z.2;rw[KI,Kt] at z2;exact⟨w,h.of_ z.1,z2⟩
 .rintro⟨w,hx,hw⟩;exact⟨w,JH.mpr ⟨h.inL hx,by rw[Kf hw];rfl⟩,(h.at_ hx).2⟩
theorem MP.gsos (h:MP W os pr L.pts L.ts (b7 R))(hs:∀n∈os,n∈pr.map (·.1))(n:Str):n∈Z1 L R (g5 (pr.map N1))↔n∈os:=by
 rw[h.gs];constructor
 .rintro⟨w,hx,hw⟩;exact KZ λhn=>hw ((h.ko _ hx).mpr hn)
 .intro hn;obtain⟨⟨n',w⟩,hx,e⟩:=Jz.mp (hs n hn);have e':n'=n:=e;subst e';exact⟨w,hx,λz=>(h.ko _ hx).mp z hn⟩
theorem lj (h:MP W os pr L.pts L.ts (b7 R)){fr:List (Str×Str)}(f:FrOk W L R fr)(ndR:(b7 R).Nodup):(((pr.map N1)++fr).map (·.1)).Nodup:=by
 rw[JF];refine JQ.mpr ⟨h.nds,f.nd1 ndR,λa ha b hb e=>?_⟩;rw[gH,h.wd] at ha;exact(f.mem.mp hb).2 (e▸ha)
theorem mW (h:MP W os pr L.pts L.ts (b7 R)){fr:List (Str×Str)}(f:FrOk W L R fr)(ndR:(b7 R).Nodup){n:Str}(hn:n∈b7 R):TxtAt (g5 (pr.map N1)++g5 fr) n/\i7 (g5 (pr.map N1)++g5 fr) n=bh L (g5 (pr.map N1)) (g5 fr) n:=by
 unfold bh;by_cases hL:n∈b7 L
 .rw[if_pos hL];exact mF (lj h f ndR) (by rw[gH,h.wd];exact hL)
 .rw[if_neg hL];exact mj (lj h f ndR) (f.mem.mpr ⟨hn,hL⟩)
end
def Ei (W L R:B0)(km:List (j0×V))(fr:List (Str×Str))(x:Str×Str):Prop:=(x∈W.pts/\x.1∉Z1 L R km)\/∃w,(w,x.1)∈fr/\(w,x.2)∈R.pts
def Cz (W L R:B0)(km:List (j0×V))(fr:List (Str×Str))(x:Str×M8):Prop:=(x∈W.ts/\x.1∉Z1 L R km)\/∃w b e,(w,x.1)∈fr/\(w,(x.2.1,b,e))∈R.ts/\x.2.2.1=bh L km (g5 fr) b/\x.2.2.2=bh L km (g5 fr) e
def gh (K:Qe):Sp:=λvs H Q _=>∃(S L R:Sd) (st r m f bl:Addr) (pr fr:List (Str×Str)) (os:List Str) (bs:List Sd),vs=[.ref S.a,.ref st]/\SdIs K H S/\StI K H st r m f bl L R (g5 (pr.map N1)) (g5 fr) bs/\MP S.W os pr L.W.pts L.W.ts (b7 R.W)/\FrOk S.W L.W R.W fr/\
 ∀(D:Sd) (H':Hp),Same H H'->WebAt K H' D.a D.p D.q D.kvs D.W->(D.W.pts.map (·.1)).Nodup->(D.W.ts.map (·.1)).Nodup->(∀x,x∈D.W.pts↔Ei S.W L.W R.W (g5 (pr.map N1)) fr x)->(∀x,x∈D.W.ts↔Cz S.W L.W R.W (g5 (pr.map N1)) fr x)->Q (.ref D.a) H'
abbrev iG (P:Program)(w:World)(K:Qe)(mg:Str->Option Value)(base:Heap):Prop:=V9 P w K mg base E7 1 "_law_done" ["_law_web_here","_law_step_here"] [] (gh K)
theorem oR {f:Addr}{fd:FuncData}(T:Txt K mg)(F:Fun K "_law_done" "_law_done" cW f fd):C0 P w K mg base E7 1 f fd ["_law_web_here","_law_step_here"] (gh K):=by
 walk_at "#sc__law_done"
 .obtain⟨S,L,R,st,r,m,f,bl,pr,fr,os,bs,rfl,_⟩:=h;rfl
 .obtain⟨S,L,R,st,r,m,f,bl,pr,fr,os,bs,rfl,hS,hT,mp,fo,k⟩:=h;have Sy:=hS.len;have SX:=hT.r.l.len;have Sa:=hT.r.r.len;rw[A5] at Sy SX Sa;have J':=fo.len;have Qu:pr.length=L.W.pts.length+L.W.ts.length:=by
   have z:=KQ List.length mp.wd;rw[Jx,JG,Jx,Jx] at z;exact z
  have ZL:=hS.at_.ts.length;have OY:=hT.r.r.nd;walk_at "@sc__law_done 7=01yb29b39b49z7^5_law_word;23;r03Bg0l_law_word,_law_rule_here,_law_match;BPAZoD0e112noD0e112nBc20046M7vwr10g79dsoD705ndCe1007060748M7vwr10g79dsoD705ndCe1007080749F537QN#~a~9~809547vwr04g:9d'3bQ oI:e122ndCee1220:06c40:7=ee1220:yb;9b<9b=9zdCj8;ic90<c90=08c40:ajk68"
  refine P5 ?_;rfl';refine F5 hT.tup rfl ?_;rfl';refine P5 ?_;rfl';refine Q3 hT.m (λUS o1=>?_);refine z8 (n:=(g5 (pr.map N1)).length) (λi out H'=>Same (z7 m o1 (g5 (pr.map N1)) H) H'/\out=(((pr.take i).filter λx=>!decide (x.2∈b7 R.W)).map (·.1)).map V.str) ⟨Same.refl _,rfl⟩ (λi out H' hi hp=>⟨hp.1 _ _ d0,hi⟩) ?_ ?_
  .rintro N i v out H1' H1 hi ⟨s1,rfl⟩ ⟨rfl,kv,f_,rfl⟩ hN';obtain⟨x,hx,rfl⟩:=V0 f_;rw[JC] at hx;obtain⟨⟨n,w'⟩,Xd,rfl⟩:=Kd.mp hx;have o_:=JM Xd;rw[j7,Jx] at hi;have le1:=(K5 (o:=o1) hT.m).trans s1.le;have R1:=hT.r.r.at_.mono le1;have e7:pr.take (i+1)=pr.take i++[(n,w')]:=by rw[Kb,Xd];rfl
   have tr:=le1.tup hT.r.tup;have RK:=JJ (λx:Str×Str=>!decide (x.2∈b7 R.W)) (pr.take i);rw[JP] at RK;have no:w'∈b7 R.W->N ((((pr.take i).filter λx=>!decide (x.2∈b7 R.W)).map (·.1)).map V.str) H1:=λhb=>hN' _ _ ⟨s1,by rw[e7,Ka,Kp (by simp [hb]),KD,Ku]⟩;rfl';refine⟨rfl,?_⟩;rfl';refine i9 tr ?_;rfl';refine j3 R1.tup ?_;refine N6 (E1 (k:=Sum.inr w') R1.pts) ?_;rw[J3];rfl';refine N2 (λc1=>?_) (λc1=>?_)
   .rfl';refine i9 tr ?_;rfl';refine i9 R1.tup ?_;refine N6 (E1 (k:=Sum.inr w') R1.ties) ?_;rw[U4 R1.ts];rfl';refine N2 (λc2=>?_) (λc2=>?_)
    .have g_:w'∉b7 R.W:=λz=>(JD.mp z).elim c1 c2;rfl';refine k8 (v:= .str n) (by have z:=E1 (k:=Sum.inr w') (le1.dic (.inl hT.m));rw[L5 mp.nds (show(w',n)∈pr.map N1 from Jz.mpr ⟨_,o_,rfl⟩)] at z;exact z) ?_;refine⟨d8 (by rw[Jx,Jx];lia),hN' _ _ ⟨s1,?_⟩⟩;rw[e7,Ka,Ki (by simp [g_]),KD,JF,JF];rfl
    .exact no (JE _ c2)
   .exact no (JB _ c1)
  .rintro out H1 ⟨s1,rfl⟩;rw[j7,Jx,JK (JA _)];have RK:=JJ (λx:Str×Str=>!decide (x.2∈b7 R.W)) pr;refine⟨⟨s1 _ _ d0,by rw[j7,Jx];exact JA _⟩,λlo nlo=>⟨d8 (by rw[Jx,Jx];lia),?_⟩⟩;have ZM:∀n,n∈(pr.filter λx=>!decide (x.2∈b7 R.W)).map (·.1)↔n∈Z1 L.W R.W (g5 (pr.map N1)):=λn=>by
    rw[mp.gs,Jz];constructor
    .rintro⟨⟨n',w'⟩,hx,rfl⟩;have z:=JH.mp hx;have z2:=z.2;rw[KI,Kt] at z2;exact⟨w',z.1,z2⟩
    .rintro⟨w',hx,hw⟩;exact⟨(n,w'),JH.mpr ⟨hx,by rw[Kf hw];rfl⟩,rfl⟩
   generalize (pr.filter λx=>!decide (x.2∈b7 R.W)).map (·.1)=og at ZM⊢;have s2:=O1 hT.m s1 nlo (u:= .lst (og.map V.str));have f2:=Z3 s1 nlo (u:= .lst (og.map V.str));change O8 _ _ _ (thaw m (p5 H1 lo (.lst (og.map V.str)))) _;generalize thaw m (p5 H1 lo (.lst (og.map V.str)))=G at s2 f2⊢;have SG:=hS.same s2;have TG:=hT.same s2;rfl';refine P5 ?_;rfl';intro pp npp;obtain⟨G1,Zp,Zq,UN,_⟩:=b9 (o:= .dK []) npp;rw[Zp];rfl';refine P5 ?_;rfl';refine j3 (SG.same UN).at_.tup ?_;refine Q3 (SG.same UN).hp (λTx o2=>?_);have VZ:pp≠S.p:=(b5 SG.hp npp).symm;have gP:z7 S.p o2 (g5 S.W.pts) G pp=none:=by unfold z7;rw[d6 VZ];exact npp
   have sP:Same (z7 S.p o2 (g5 S.W.pts) G) (z7 S.p o2 (g5 S.W.pts) G1):=λb u e=>by
    unfold z7 at e⊢;by_cases hb:b=S.p
    .subst hb;rw[d0] at e⊢;exact e
    .rw[d6 hb] at e⊢;exact UN _ _ e
   refine K6 (n:=(g5 S.W.pts).length) (λi σ H'=>(∃v7,σ=[some (.ref S.a),some (.ref st),some (.ref r),some (.ref m),some (.ref f),some (.ref lo),some (.ref pp),v7,none,none,none,none,none,none])/\Same (z7 S.p o2 (g5 S.W.pts) G) H'/\H' pp=some (.dK (g5 ((S.W.pts.take i).filter λx=>!decide (x.1∈og)))))
    ⟨⟨_,rfl⟩,sP,by unfold z7;rw[d6 VZ];exact Zq⟩ (λi σ H' hi hp=>⟨hp.2.1 _ _ d0,hi⟩) ?_ ?_
   .rintro i v σ H3' H3 hi ⟨⟨v7,rfl⟩,s3,h3⟩ ⟨rfl,kv,f_,rfl⟩ _ _;obtain⟨x,hx,rfl⟩:=V0 f_;have o_:=JM hx;have Pk:=(K5 (o:=o2) SG.hp).trans s3.le;have S3:=SG.at_.mono Pk;have e7:S.W.pts.take (i+1)=S.W.pts.take i++[x]:=by rw[Kb,hx];rfl
    have PJ:x.1∉((S.W.pts.take i).filter λx=>!decide (x.1∈og)).map (·.1):=λz=>by
     obtain⟨y,hy,ey⟩:=Jz.mp z;have K_:=(JH.mp hy).1;have z2:((S.W.pts.take (i+1)).map (·.1)).Nodup:=(A6 hS.nd).sublist ((KO _ _).map _);rw[e7,w4] at z2;exact(JQ.mp z2).2.2 _ (Jz.mpr ⟨y,K_,rfl⟩) _ (by simp) ey
    have PY:=JJ (λx:Str×Str=>!decide (x.1∈og)) (S.W.pts.take i);rw[JP] at PY;rfl';refine E2 (Pk.lst (SqL.of f2)) ?_;rfl';refine N2 (λc1=>?_) (λc1=>?_)
    .rfl';refine j3 S3.tup ?_;rfl';refine k8 (v:= .str x.2) (by have z:=E1 (k:=Sum.inr x.1) S3.pts;rw[L5 (k:=x.2) (A6 hS.nd) o_] at z;exact z) ?_;rfl';refine O9 (z6 (k:=Sum.inr x.1) h3 (d8 (by rw[j7];lia)) ?_);walk_at "X";refine⟨⟨_,rfl⟩,D5 s3 gP,?_⟩;rw[d0,e7,Ka,Ki (by simp [c1]),KD];exact KQ (λz=>some (HO.dK z)) (X3 (kd:=x.2) PJ)
    .rfl';refine⟨⟨_,rfl⟩,s3,?_⟩;rw[h3,e7,Ka,Kp (by simp [c1]),KD,Ku]
   .rintro σ H3 ⟨⟨v7,rfl⟩,s3,h3⟩;refine⟨⟨s3 _ _ d0,JA _⟩,?_⟩;rw[j7,JK (JA _)] at h3;have s4:=s3.thaw SG.hp;have h4:thaw S.p H3 pp=some (.dK (g5 (S.W.pts.filter λx=>!decide (x.1∈og)))):=by rw[O0 VZ];exact h3
    change jh _ _ _ _ (thaw S.p H3);generalize thaw S.p H3=G2 at s4 h4⊢;have S4:=SG.same s4;have T4:=TG.same s4;have lo4:=s4 _ _ f2;refine P5 ?_;rfl';intro qq nqq;obtain⟨G3,Zt,Zu,UO,_⟩:=b9 (o:= .dK []) nqq;rw[Zt];rfl';refine P5 ?_;rfl';refine i9 (S4.same UO).at_.tup ?_;refine Q3 (S4.same UO).hq (λRv o3=>?_);have ZN:qq≠S.q:=(b5 S4.hq nqq).symm;have gQ:z7 S.q o3 S.kvs G2 qq=none:=by unfold z7;rw[d6 ZN];exact nqq
    have sQ:Same (z7 S.q o3 S.kvs G2) (z7 S.q o3 S.kvs G3):=λb u e=>by
     unfold z7 at e⊢;by_cases hb:b=S.q
     .subst hb;rw[d0] at e⊢;exact e
     .rw[d6 hb] at e⊢;exact UO _ _ e
    refine K6 (n:=S.kvs.length) (λi σ H'=>(∃v7,σ=[some (.ref S.a),some (.ref st),some (.ref r),some (.ref m),some (.ref f),some (.ref lo),some (.ref pp),v7,some (.ref qq),none,none,none,none,none])/\Same (z7 S.q o3 S.kvs G2) H'/\∃kq,H' qq=some (.dK kq)/\TiesIs K H' kq ((S.W.ts.take i).filter λx=>!decide (x.1∈og)))
     ⟨⟨_,rfl⟩,sQ,[],by unfold z7;rw[d6 ZN];exact Zu,.nil⟩ (λi σ H' hi hp=>⟨hp.2.1 _ _ d0,hi⟩) ?_ ?_
    .rintro i v σ H5' H5 hi ⟨⟨v7,rfl⟩,s5,kq,h5,w5⟩ ⟨rfl,kv,f_,rfl⟩ _ _;have R_:=(K5 (o:=o3) S4.hq).trans s5.le;have S5:=S4.at_.mono R_;obtain⟨x,hx,ex,bb,eb,sb⟩:=S5.ts.get f_;have D_:=JM f_;obtain⟨kk,QD⟩:=kv;have N':kk=Sum.inr x.1:=ex;have QF:QD= .ref bb:=eb;subst N' QF;have e7:S.W.ts.take (i+1)=S.W.ts.take i++[x]:=by rw[Kb,hx];rfl
     have PJ:x.1∉((S.W.ts.take i).filter λx=>!decide (x.1∈og)).map (·.1):=λz=>by
      obtain⟨y,hy,ey⟩:=Jz.mp z;have K_:=(JH.mp hy).1;have z2:((S.W.ts.take (i+1)).map (·.1)).Nodup:=(K2 hS.nd).sublist ((KO _ _).map _);rw[e7,w4] at z2;exact(JQ.mp z2).2.2 _ (Jz.mpr ⟨y,K_,rfl⟩) _ (by simp) ey
     have ZO:=JJ (λx:Str×M8=>!decide (x.1∈og)) (S.W.ts.take i);have hw5:=w5.length;rw[JP] at ZO;rfl';refine E2 (R_.lst (SqL.of lo4)) ?_;rfl';refine N2 (λc1=>?_) (λc1=>?_)
     .rfl';refine i9 S5.tup ?_;rfl';refine k8 (v:= .ref bb) (by have z:=E1 (k:=Sum.inr x.1) S5.ties;rw[aG (kv:=(Sum.inr x.1,.ref bb)) Rv D_] at z;exact z) ?_;rfl';refine O9 (z6 (k:=Sum.inr x.1) h5 (d8 (by lia)) ?_);walk_at "X";refine⟨⟨_,rfl⟩,D5 s5 gQ,_,d0,?_⟩;rw[e7,Ka,Ki (by simp [c1]),KD];obtain⟨x0,x1,x2,x3⟩:=x;exact I0 h5 (kW w5 PJ sb)
     .rfl';refine⟨⟨_,rfl⟩,s5,kq,h5,?_⟩;rw[e7,Ka,Kp (by simp [c1]),KD,Ku];exact w5
    .rintro σ H5 ⟨⟨v7,rfl⟩,s5,kq,h5,w5⟩;refine⟨⟨s5 _ _ d0,JA _⟩,?_⟩;rw[ZL,JK (JA _)] at w5;have s6:=s5.thaw S4.hq;have h6:thaw S.q H5 qq=some (.dK kq):=by rw[O0 ZN];exact h5
     have w6:=w5.mono (pd (d:=S.q));change jh _ _ _ _ (thaw S.q H5);generalize thaw S.q H5=G4 at s6 h6 w6⊢;have S6:=S4.same s6;have T6:=T4.same s6;have p6:=s6 _ _ h4;have hqp:pp≠qq:=b5 h4 nqq;refine P5 ?_;rfl';refine D0 (.inl T6.m) (λnd Sb=>?_);obtain⟨G5,eG5,fG5,mG5,_⟩:=b9 (o:= .dK _) Sb;rw[eG5];have T7:=T6.same mG5;have Wk:nd≠f:=(b5 T6.f Sb).symm;rfl';refine P5 ?_;rfl';refine⟨.inr (.inr (.inl ⟨rfl,.inl ⟨_,fG5⟩⟩)),?_⟩;rfl';refine⟨nd,f,_,_,rfl,rfl,fG5,.inl T7.f,Wk,by rw[j7,j7,Jx];lia,?_⟩;rw[iw (by have z:=P8 (lj mp fo OY);unfold g5 at z⊢;rw[JF] at z;exact z)];have s8:Same G4 (p5 G5 nd (.dK (g5 (pr.map N1)++g5 fr))):=D5 mG5 Sb;have f8:p5 G5 nd (.dK (g5 (pr.map N1)++g5 fr)) nd=some (.dK (g5 (pr.map N1)++g5 fr)):=d0;generalize p5 G5 nd (.dK (g5 (pr.map N1)++g5 fr))=G6 at s8 f8⊢;have p8:=s8 _ _ p6;have h8:=s8 _ _ h6;have w8:=w6.mono s8.le;have T8:=T6.same s8;have Wl:G pp=none:=npp;have Wm:G qq=none:=s4.free nqq;have s08:Same G G6:=s4.trans (s6.trans s8);have Ui:f≠pp:=b5 TG.f Wl;have TJ:f≠qq:=b5 TG.f Wm;have Tw:nd≠pp:=(b5 p6 Sb).symm;have TC:nd≠qq:=(b5 h6 Sb).symm;rfl';refine P5 ?_;rfl';refine Q3 T8.f (λndf o4=>?_);have gp:z7 f o4 (g5 fr) G pp=none:=by unfold z7;rw[d6 Ui.symm];exact Wl
     have gq:z7 f o4 (g5 fr) G qq=none:=by unfold z7;rw[d6 TJ.symm];exact Wm
     have sF:Same (z7 f o4 (g5 fr) G) (z7 f o4 (g5 fr) G6):=λb u e=>by
      unfold z7 at e⊢;by_cases hb:b=f
      .subst hb;rw[d0] at e⊢;exact e
      .rw[d6 hb] at e⊢;exact s08 _ _ e
     have fz:∀{b:Addr},b≠f->z7 f o4 (g5 fr) G6 b=G6 b:=λhb=>by unfold z7;rw[d6 hb]
     have P1n:∀x∈(S.W.pts.filter λx=>!decide (x.1∈og)),x.1∈b7 S.W:=λx hx=>JB _ (Jz.mpr ⟨x,(JH.mp hx).1,rfl⟩);have T1n:∀x∈(S.W.ts.filter λx=>!decide (x.1∈og)),x.1∈b7 S.W:=λx hx=>JE _ (Jz.mpr ⟨x,(JH.mp hx).1,rfl⟩);have P1d:=R0 (p:=λx:Str×Str=>!decide (x.1∈og)) (A6 hS.nd);have T1d:=R0 (p:=λx:Str×M8=>!decide (x.1∈og)) (K2 hS.nd);have lP:=JJ (λx:Str×Str=>!decide (x.1∈og)) S.W.pts;have lT:=JJ (λx:Str×M8=>!decide (x.1∈og)) S.W.ts;have Wn:∀x,x∈(S.W.pts.filter λx=>!decide (x.1∈og))↔x∈S.W.pts/\x.1∉Z1 L.W R.W (g5 (pr.map N1)):=λx=>by
      rw[JH,KI,Kt,ZM]
     have Wo:∀x,x∈(S.W.ts.filter λx=>!decide (x.1∈og))↔x∈S.W.ts/\x.1∉Z1 L.W R.W (g5 (pr.map N1)):=λx=>by
      rw[JH,KI,Kt,ZM]
     generalize (S.W.pts.filter λx=>!decide (x.1∈og))=P1 at p8 P1n P1d lP Wn;generalize (S.W.ts.filter λx=>!decide (x.1∈og))=T1 at w8 T1n T1d lT Wo;refine K6 (n:=(g5 fr).length) (λi σ H'=>(∃v7 v10 v11 Rc QY,σ=[some (.ref S.a),some (.ref st),some (.ref r),some (.ref m),some (.ref f),some (.ref lo),some (.ref pp),v7,some (.ref qq),some (.ref nd),v10,v11,Rc,QY])/\Same (z7 f o4 (g5 fr) G) H'/\H' nd=some (.dK (g5 (pr.map N1)++g5 fr))/\∃(P2:List (Str×Str)) (T2:List (Str×M8)) (kq:List (j0×V)),H' pp=some (.dK (g5 (P1++P2)))/\H' qq=some (.dK kq)/\TiesIs K H' kq (T1++T2)/\((P1++P2).map (·.1)).Nodup/\((T1++T2).map (·.1)).Nodup/\P2.length+T2.length<=i/\(∀x,x∈P2↔∃w,(w,x.1)∈fr.take i/\(w,x.2)∈R.W.pts)/\∀x,x∈T2↔∃w b e,(w,x.1)∈fr.take i/\(w,(x.2.1,b,e))∈R.W.ts/\x.2.2.1=bh L.W (g5 (pr.map N1)) (g5 fr) b/\x.2.2.2=bh L.W (g5 (pr.map N1)) (g5 fr) e)
      ⟨⟨_,_,_,_,_,rfl⟩,sF,by rw[fz Wk];exact f8,[],[],_,by rw[fz Ui.symm,Ku];exact p8,by rw[fz TJ.symm];exact h8,by rw[Ku];exact w8.mono (K5 (o:=o4) T8.f),by rw[Ku];exact P1d,by rw[Ku];exact T1d,JA _,(λx=>by simp),λx=>by simp⟩ (λi σ H' hi hp=>⟨hp.2.1 _ _ d0,hi⟩) ?_ ?_
     .rintro i v σ H9' H9 hi ⟨⟨v7,v10,v11,Rc,QY,rfl⟩,s9,n9,P2,T2,kq9,p9,q9,w9,Sk,ndT,l9,mP,mT⟩ ⟨rfl,kv,f_,rfl⟩ _ _;obtain⟨⟨wd,nm⟩,hx,rfl⟩:=V0 f_;have o_:=JM hx;have e7:fr.take (i+1)=fr.take i++[(wd,nm)]:=by rw[Kb,hx];rfl
      rw[j7] at hi;have UU:=(K5 (o:=o4) TG.f).trans s9.le;have R9:=TG.r.r.at_.mono UU;have ZP:=UU.tup TG.r.tup;have F9:=UU.dic (.inl TG.f);have Wq:=L5 (fo.nd1 OY) o_;have hnW:=fo.no _ o_;have hold:∀w',(w',nm)∉fr.take i:=λw' z=>by
       have z2:((fr.take (i+1)).map (·.2)).Nodup:=fo.nd.sublist ((KO _ _).map _);rw[e7,Y0] at z2;exact(JQ.mp z2).2.2 nm (Jz.mpr ⟨(w',nm),z,rfl⟩) nm (by simp) rfl
      have x_:∀w',(w',nm)∈fr.take (i+1)↔w'=wd:=λw'=>by
       rw[e7,JD,JN];walk_at "X";exact⟨λz=>z.elim (λz=>absurd z (hold w')) λz=>(LG z).1,λz=> .inr (by rw[z])⟩
      have n_:∀w' n',n'≠nm->((w',n')∈fr.take (i+1)↔(w',n')∈fr.take i):=λw' n' q_=>by
       rw[e7,JD,JN];walk_at "X";exact⟨λz=>z.elim id λz=>absurd (LG z).2 q_,.inl⟩
      have Zb:wd∈b7 R.W:=(fo.mem.mp (Jz.mpr ⟨_,o_,rfl⟩)).1;have nP:nm∉(P1++P2).map (·.1):=λz=>by
       obtain⟨y,hy,ey⟩:=Jz.mp z;rcases JD.mp hy with q|q
       .exact hnW (by have:=P1n y q;rw[show y.1=nm from ey] at this;exact this)
       .obtain⟨w',h1,_⟩:=(mP y).mp q;rw[show y.1=nm from ey] at h1;exact hold w' h1
      have nT:nm∉(T1++T2).map (·.1):=λz=>by
       obtain⟨y,hy,ey⟩:=Jz.mp z;rcases JD.mp hy with q|q
       .exact hnW (by have:=T1n y q;rw[show y.1=nm from ey] at this;exact this)
       .obtain⟨w',_,_,h1,_⟩:=(mT y).mp q;rw[show y.1=nm from ey] at h1;exact hold w' h1
      have ZQ:∀y∈P2,y.1≠nm:=λy hy z=>nP (Jz.mpr ⟨y,JE _ hy,z⟩);have ZR:∀y∈T2,y.1≠nm:=λy hy z=>nT (Jz.mpr ⟨y,JE _ hy,z⟩);have w9l:=w9.length;rw[JG] at w9l;rfl';refine i9 ZP ?_;rfl';refine j3 R9.tup ?_;refine V2 (E1 (k:=Sum.inr wd) R9.pts) ?_;rw[J3];rfl';refine K4 (λc1=>?_) (λc1=>?_)
      .obtain⟨⟨wd',kd⟩,hk,ek⟩:=Jz.mp c1;have Vp:wd'=wd:=ek;subst Vp;have noT:wd'∉R.W.ts.map (·.1):=λz=>(JQ.mp OY).2.2 wd' c1 wd' z rfl;rfl';refine i9 ZP ?_;rfl';refine j3 R9.tup ?_;rfl';refine k8 (v:= .str kd) (by have z:=E1 (k:=Sum.inr wd') R9.pts;rw[L5 (A6 OY) hk] at z;exact z) ?_;rfl';refine k8 (v:= .str nm) (by have z:=E1 (k:=Sum.inr wd') F9;rw[Wq] at z;exact z) ?_;rfl';refine O9 (z6 (k:=Sum.inr nm) p9 (d8 (by rw[j7,JG];lia)) ?_);walk_at "X";refine⟨⟨_,_,_,_,_,rfl⟩,D5 s9 gp,by rw[d6 Tw];exact n9,P2++[(nm,kd)],T2,kq9,?_,by rw[d6 hqp.symm];exact q9,I0 p9 w9,?_,ndT,by rw[JG,JO];lia,λy=>?_,λy=>?_⟩
       .rw[d0,←KH];exact KQ (λz=>some (HO.dK z)) (X3 (kd:=kd) nP)
       .rw[←KH,w4];exact F4 Sk nP
       .rw[JD,JN];by_cases hy:y.1=nm
        .constructor
         .rintro(z|z)
          .exact absurd hy (ZQ y z)
          .rw[z];exact⟨wd',(x_ wd').mpr rfl,hk⟩
         .rintro⟨w',h1,h2⟩;rw[hy] at h1;have:=(x_ w').mp h1;subst this;right;obtain⟨y1,y2⟩:=y;rw[show y1=nm from hy,show y2=kd from A9 (A6 OY) h2 hk]
        .rw[mP];constructor
         .rintro(⟨w',h1,h2⟩|z)
          .walk_at "X";exact⟨w',(n_ w' _ hy).mpr h1,h2⟩
          .exact absurd (by rw[z]) hy
         .rintro⟨w',h1,h2⟩;exact .inl ⟨w',(n_ w' _ hy).mp h1,h2⟩
       .rw[mT];by_cases hy:y.1=nm
        .constructor
         .rintro⟨w',b,e,h1,h2⟩;rw[hy] at h1;exact absurd h1 (hold w')
         .rintro⟨w',b,e,h1,h2,_⟩;rw[hy] at h1;have:=(x_ w').mp h1;subst this;exact absurd (Jz.mpr ⟨_,h2,rfl⟩) noT
        .constructor
         .rintro⟨w',b,e,h1,h2⟩;walk_at "X";exact⟨w',b,e,(n_ w' _ hy).mpr h1,h2⟩
         .rintro⟨w',b,e,h1,h2⟩;walk_at "X";exact⟨w',b,e,(n_ w' _ hy).mp h1,h2⟩
      .have hwT:wd∈R.W.ts.map (·.1):=(JD.mp Zb).elim (λz=>absurd z c1) id;obtain⟨aa,⟨y1,y2,y3⟩,v1,v2,v3⟩:=TiesIs.val (ts:=R.W.ts) R9.ts hwT;have Rt:=TG.r.r.ends _ v2;obtain⟨g21,g22⟩:=mW mp fo OY (JB _ Rt.1);obtain⟨g31,g32⟩:=mW mp fo OY (JB _ Rt.2);rfl';refine P5 ?_;rfl';refine i9 ZP ?_;rfl';refine i9 R9.tup ?_;rfl';refine k8 (v:= .ref aa) (by have z:=E1 (k:=Sum.inr wd) R9.ties;rw[v1] at z;exact z) ?_;refine F5 (xs:=[.str y1,.str y2,.str y3]) v3 rfl ?_;rfl';refine zf (.inl n9) g21 ?_;rw[g22];rfl';refine zf (.inl n9) g31 ?_;rw[g32];rfl';refine⟨d8 (by simp),λlt nlt=>?_⟩;obtain⟨HA,eA,fA,mA,_⟩:=b9 (o:= .tup _) nlt;rw[eA];rfl';refine k8 (v:= .str nm) (by have z:=E1 (k:=Sum.inr wd) (mA.rd F9);rw[Wq] at z;exact z) ?_;rfl';refine O9 (z6 (k:=Sum.inr nm) (mA _ _ q9) (d8 (by lia)) ?_);walk_at "X";refine⟨⟨_,_,_,_,_,rfl⟩,D5 (s9.trans mA) gq,by rw[d6 TC];exact mA _ _ n9,P2,T2++[(nm,(y1,bh L.W (g5 (pr.map N1)) (g5 fr) y2,bh L.W (g5 (pr.map N1)) (g5 fr) y3))],_,by rw[d6 hqp];exact mA _ _ p9,d0,?_,Sk,?_,by rw[JG,JO];lia,λy=>?_,λy=>?_⟩
       .rw[←KH];exact I0 (mA _ _ q9) (kW (w9.mono mA.le) nT (SqT.of fA))
       .rw[←KH,w4];exact F4 ndT nT
       .rw[mP];by_cases hy:y.1=nm
        .constructor
         .rintro⟨w',h1,h2⟩;rw[hy] at h1;exact absurd h1 (hold w')
         .rintro⟨w',h1,h2⟩;rw[hy] at h1;have:=(x_ w').mp h1;subst this;exact absurd (Jz.mpr ⟨_,h2,rfl⟩) c1
        .constructor
         .rintro⟨w',h1,h2⟩;walk_at "X";exact⟨w',(n_ w' _ hy).mpr h1,h2⟩
         .rintro⟨w',h1,h2⟩;walk_at "X";exact⟨w',(n_ w' _ hy).mp h1,h2⟩
       .rw[JD,JN];by_cases hy:y.1=nm
        .constructor
         .rintro(z|z)
          .exact absurd hy (ZR y z)
          .rw[z];exact⟨wd,y2,y3,(x_ wd).mpr rfl,v2,rfl,rfl⟩
         .rintro⟨w',b,e,h1,h2,h3,h4⟩;rw[hy] at h1;have:=(x_ w').mp h1;subst this;right;have z:=A9 (K2 OY) h2 v2;obtain⟨z1,z2⟩:=LG z;obtain⟨z3,z4⟩:=LG z2;obtain⟨q0,q1,q2,q3⟩:=y;have h3':q2=bh L.W (g5 (pr.map N1)) (g5 fr) b:=h3;have h4':q3=bh L.W (g5 (pr.map N1)) (g5 fr) e:=h4;have z1':q1=y1:=z1;rw[show q0=nm from hy,z1',h3',h4',z3,z4]
        .rw[mT];constructor
         .rintro(⟨w',b,e,h1,h2⟩|z)
          .walk_at "X";exact⟨w',b,e,(n_ w' _ hy).mpr h1,h2⟩
          .exact absurd (by rw[z]) hy
         .rintro⟨w',b,e,h1,h2⟩;exact .inl ⟨w',b,e,(n_ w' _ hy).mp h1,h2⟩
     .rintro σ H9 ⟨⟨v7,v10,v11,Rc,QY,rfl⟩,s9,n9,P2,T2,kq9,p9,q9,w9,Sk,ndT,l9,mP,mT⟩;refine⟨⟨s9 _ _ d0,JA _⟩,?_⟩;rw[j7,JK (JA _)] at mP mT;have sA:=s9.thaw TG.f;have pA:thaw f H9 pp=some (.dK (g5 (P1++P2))):=by rw[O0 Ui.symm];exact p9
      have qA:thaw f H9 qq=some (.dK kq9):=by rw[O0 TJ.symm];exact q9
      have wA:=w9.mono (pd (d:=f));change yz _ _ _ (thaw f H9);generalize thaw f H9=HA at sA pA qA wA⊢;rfl';refine⟨d8 (by simp),λa' na=>?_⟩;obtain⟨HB,eB,fB,mB,_⟩:=b9 (o:= .tup _) na;rw[eB];refine k ⟨a',pp,qq,kq9,⟨P1++P2,T1++T2⟩⟩ HB (s2.trans (sA.trans mB)) ⟨SqT.of fB,.inl (mB _ _ pA),.inl (mB _ _ qA),wA.mono mB.le⟩ Sk ndT (λx=>?_) (λx=>?_)
      .show x∈P1++P2↔_;unfold Ei;rw[JD,Wn,mP]
      .show x∈T1++T2↔_;unfold Cz;rw[JD,Wo,mT]
theorem ml {f:Str->Str}:∀{l:List Str},l.Nodup->(∀a∈l,∀b∈l,f a=f b->a=b)->(l.map f).Nodup
 |[],_,_=>Lc
 |x::r,nd,h=>by
  have nd':=KN.mp nd;refine KN.mpr ⟨λm=>?_,ml nd'.2 λa ha b hb=>h a (JZ _ ha) b (JZ _ hb)⟩;obtain⟨y,hy,e⟩:=Jz.mp m;exact nd'.1 ((h y (JZ _ hy) x JT e)▸hy)
theorem cx {l:List (Str×Str)}{n m s:Str}(nd:(l.map (·.2)).Nodup)(h1:(n,s)∈l)(h2:(m,s)∈l):n=m:=
 A9 (l:=l.map N1) (n:=s) (by rw[gH];exact nd) (Jz.mpr ⟨_,h1,rfl⟩) (Jz.mpr ⟨_,h2,rfl⟩)
section
variable {W L R:B0} {os:List Str} {pr fr:List (Str×Str)}
theorem MP.inW (h:MP W os pr L.pts L.ts (b7 R)){n w:Str}(hx:(n,w)∈pr):n∈b7 W:=by
 have hw:=h.inL hx;rcases JD.mp hw with z|z
 .obtain⟨⟨w',k⟩,hy,e⟩:=Jz.mp z;have e':w'=w:=e;subst e';obtain⟨n',h1,h2⟩:=h.pt _ hy;rw[cx h.n2 hx h1];exact JB _ (Jz.mpr ⟨_,h2,rfl⟩)
 .obtain⟨⟨w',k⟩,hy,e⟩:=Jz.mp z;have e':w'=w:=e;subst e';obtain⟨n',b,e2,h1,_,_,h2⟩:=h.ti _ hy;rw[cx h.n2 hx h1];exact JE _ (Jz.mpr ⟨_,h2,rfl⟩)
theorem MP.fit (h:MP W os pr L.pts L.ts (b7 R)):ei L W (g5 (pr.map N1)):=by
 refine⟨?_,h.txt,?_,λx hx=>?_,λx hx=>?_⟩
 .have z:=KQ List.length h.wd;rw[Jx] at z;rw[j7,Jx,z];rfl
 .have e:(b7 L).map (i7 (g5 (pr.map N1)))=pr.map (·.1):=by
   rw[show b7 L=pr.map (·.2) from h.wd.symm,Km];exact KA λx hx=>(h.at_ (n:=x.1) (w:=x.2) hx).2
  rw[e];exact h.n1
 .obtain⟨n,h1,h2⟩:=h.pt x hx;rw[(h.at_ h1).2];exact h2
 .obtain⟨n,b,e,h1,h2,h3,h4⟩:=h.ti x hx;rw[(h.at_ h1).2,(h.at_ h2).2,(h.at_ h3).2];exact h4
theorem ay (km kf:List (j0×V)){n:Str}(h:n∈b7 L):bh L km kf n=i7 km n:=by unfold bh;rw[if_pos h]
theorem az (km kf:List (j0×V)){n:Str}(h:n∉b7 L):bh L km kf n=i7 kf n:=by unfold bh;rw[if_neg h]
theorem Gr (h:MP W os pr L.pts L.ts (b7 R))(fo:FrOk W L R fr)(ndR:(b7 R).Nodup)(lo:∀n x,(n,x)∈W.ts->(x.2.1∈os\/x.2.2∈os)->n∈os)(hs:∀n∈os,n∈pr.map (·.1)):Bc W L R (g5 (pr.map N1)) fr:=by
 refine⟨h.fit,λx hx hn=>?_,fo,ml ndR λa ha b hb e=>?_⟩
 .rw[h.gsos hs] at hn⊢;rw[h.gsos hs];exact⟨λz=>hn (lo x.1 x.2 hx (.inl z)),λz=>hn (lo x.1 x.2 hx (.inr z))⟩
 .by_cases hA:a∈b7 L<;>by_cases hB:b∈b7 L
  .rw[ay _ _ hA,ay _ _ hB] at e;have z1:=h.of_ hA;rw[e] at z1;exact A9 h.n1 z1 (h.of_ hB)
  .rw[ay _ _ hA,az _ _ hB] at e;exact absurd (e▸h.inW (h.of_ hA)) (fo.no _ (fo.txt ndR (fo.mem.mpr ⟨hb,hB⟩)).2)
  .rw[az _ _ hA,ay _ _ hB] at e;exact absurd (e▸h.inW (h.of_ hB)) (fo.no _ (fo.txt ndR (fo.mem.mpr ⟨ha,hA⟩)).2)
  .rw[az _ _ hA,az _ _ hB] at e;have z1:=(fo.txt ndR (fo.mem.mpr ⟨ha,hA⟩)).2;rw[e] at z1;exact cx fo.nd z1 (fo.txt ndR (fo.mem.mpr ⟨hb,hB⟩)).2
theorem ui (h:MP W os pr L.pts L.ts (b7 R)){w:Str}(hL:w∈b7 L)(hR:w∈b7 R):i7 (g5 (pr.map N1)) w∉Z1 L R (g5 (pr.map N1)):=by grind [cases MP,b7,i7,g5,N1,Z1,MP.gs,A9,MP.of_]
theorem oW {α:Type}{A B:List (Str×α)}{x:Str×α}:x∈(A.filter λx=>!decide (x.1∈B.map (·.1)))++B↔(x∈A/\x.1∉B.map (·.1))\/x∈B:=by
 rw[JD,JH,KI,Kt]
theorem rN (fo:FrOk W L R fr)(ndR:(b7 R).Nodup){w n:Str}(h:(w,n)∈fr)(km:List (j0×V)):bh L km (g5 fr) w=n:=by
 rw[az _ _ (fo.mem.mp (Jz.mpr ⟨_,h,rfl⟩)).2];exact(aK (fo.nd1 ndR) h).2
theorem AZ {bs:List Sd}(h:MP W os pr L.pts L.ts (b7 R))(ok:ke L R bs)(fo:FrOk W L R fr)(ndR:(b7 R).Nodup)(ndW:(b7 W).Nodup)(x:Str×Str):x∈(F8 W L R (g5 (pr.map N1)) (g5 fr)).pts↔Ei W L R (g5 (pr.map N1)) fr x:=by
 show x∈((ao (Z1 L R (g5 (pr.map N1))) W).pts.filter λx=>!decide (x.1∈(K3 (bh L (g5 (pr.map N1)) (g5 fr)) R).pts.map (·.1)))++(K3 (bh L (g5 (pr.map N1)) (g5 fr)) R).pts↔_;rw[oW];have Rp:∀y,y∈(ao (Z1 L R (g5 (pr.map N1))) W).pts↔y∈W.pts/\y.1∉Z1 L R (g5 (pr.map N1)):=λy=>by
  show y∈W.pts.filter _↔_;rw[JH,KI,Kt]
 have SY:∀w k,(w,k)∈R.pts->w∈b7 L->(i7 (g5 (pr.map N1)) w,k)∈W.pts/\i7 (g5 (pr.map N1)) w∉Z1 L R (g5 (pr.map N1)):=λw k hw hL=>by
  have hR:w∈b7 R:=JB _ (Jz.mpr ⟨_,hw,rfl⟩);exact⟨h.fit.pts _ (((ok.ag w hL hR).p k).mpr hw),ui h hL hR⟩
 rw[Rp];constructor
 .rintro(⟨⟨h1,h2⟩,_⟩|hx)
  .exact .inl ⟨h1,h2⟩
  .obtain⟨⟨w,k⟩,hw,rfl⟩:=Jz.mp hx;by_cases hL:w∈b7 L
   .left;show(bh L _ _ w,k)∈W.pts/\bh L _ _ w∉_;rw[ay _ _ hL];exact SY w k hw hL
   .right;have hR:w∈b7 R:=JB _ (Jz.mpr ⟨_,hw,rfl⟩);refine⟨w,?_,hw⟩;show(w,bh L _ _ w)∈fr;rw[az _ _ hL];exact(fo.txt ndR (fo.mem.mpr ⟨hR,hL⟩)).2
 .rintro(⟨h1,h2⟩|⟨w,h1,h2⟩)
  .by_cases hx:x.1∈(K3 (bh L (g5 (pr.map N1)) (g5 fr)) R).pts.map (·.1)
   .right;obtain⟨y,hy,ey⟩:=Jz.mp hx;obtain⟨⟨w,k⟩,hw,rfl⟩:=Jz.mp hy;have QR:bh L (g5 (pr.map N1)) (g5 fr) w=x.1:=ey;have hR:w∈b7 R:=JB _ (Jz.mpr ⟨_,hw,rfl⟩);by_cases hL:w∈b7 L
    .have z:=(SY w k hw hL).1;rw[←ay (g5 (pr.map N1)) (g5 fr) hL,QR] at z;have e2:x.2=k:=A9 (A6 ndW) h1 z;refine Jz.mpr ⟨(w,k),hw,?_⟩;show(bh L _ _ w,k)=x;rw[QR,←e2]
    .rw[az _ _ hL] at QR;exact absurd (JB _ (Jz.mpr ⟨x,h1,rfl⟩)) (QR▸fo.no _ (fo.txt ndR (fo.mem.mpr ⟨hR,hL⟩)).2)
   .exact .inl ⟨⟨h1,h2⟩,hx⟩
  .right;refine Jz.mpr ⟨(w,x.2),h2,?_⟩;show(bh L _ _ w,x.2)=x;rw[rN fo ndR h1]
theorem Em {bs:List Sd}(h:MP W os pr L.pts L.ts (b7 R))(ok:ke L R bs)(fo:FrOk W L R fr)(ndR:(b7 R).Nodup)(ndW:(b7 W).Nodup)(eL:∀x∈L.ts,x.2.2.1∈L.pts.map (·.1)/\x.2.2.2∈L.pts.map (·.1))(x:Str×M8):x∈(F8 W L R (g5 (pr.map N1)) (g5 fr)).ts↔Cz W L R (g5 (pr.map N1)) fr x:=by
 show x∈((ao (Z1 L R (g5 (pr.map N1))) W).ts.filter λx=>!decide (x.1∈(K3 (bh L (g5 (pr.map N1)) (g5 fr)) R).ts.map (·.1)))++(K3 (bh L (g5 (pr.map N1)) (g5 fr)) R).ts↔_;rw[oW];have Rp:∀y,y∈(ao (Z1 L R (g5 (pr.map N1))) W).ts↔y∈W.ts/\y.1∉Z1 L R (g5 (pr.map N1)):=λy=>by
  show y∈W.ts.filter _↔_;rw[JH,KI,Kt]
 have S':∀w k b e,(w,(k,b,e))∈R.ts->w∈b7 L->(bh L (g5 (pr.map N1)) (g5 fr) w,(k,bh L (g5 (pr.map N1)) (g5 fr) b,bh L (g5 (pr.map N1)) (g5 fr) e))∈W.ts/\bh L (g5 (pr.map N1)) (g5 fr) w∉Z1 L R (g5 (pr.map N1)):=λw k b e hw hL=>by
  have hR:w∈b7 R:=JE _ (Jz.mpr ⟨_,hw,rfl⟩);have hl:=((ok.ag w hL hR).t (k,b,e)).mpr hw;have Rt:=eL _ hl;have z:=h.fit.ts _ hl;rw[ay _ _ hL,ay _ _ (JB _ Rt.1),ay _ _ (JB _ Rt.2)];exact⟨z,ui h hL hR⟩
 rw[Rp];constructor
 .rintro(⟨⟨h1,h2⟩,_⟩|hx)
  .exact .inl ⟨h1,h2⟩
  .obtain⟨⟨w,k,b,e⟩,hw,rfl⟩:=Jz.mp hx;by_cases hL:w∈b7 L
   .exact .inl (S' w k b e hw hL)
   .right;have hR:w∈b7 R:=JE _ (Jz.mpr ⟨_,hw,rfl⟩);refine⟨w,b,e,?_,hw,rfl,rfl⟩;show(w,bh L _ _ w)∈fr;rw[az _ _ hL];exact(fo.txt ndR (fo.mem.mpr ⟨hR,hL⟩)).2
 .rintro(⟨h1,h2⟩|⟨w,b,e,h1,h2,h3,h4⟩)
  .by_cases hx:x.1∈(K3 (bh L (g5 (pr.map N1)) (g5 fr)) R).ts.map (·.1)
   .right;obtain⟨y,hy,ey⟩:=Jz.mp hx;obtain⟨⟨w,k,b,e⟩,hw,rfl⟩:=Jz.mp hy;have QR:bh L (g5 (pr.map N1)) (g5 fr) w=x.1:=ey;have hR:w∈b7 R:=JE _ (Jz.mpr ⟨_,hw,rfl⟩);by_cases hL:w∈b7 L
    .have z:=(S' w k b e hw hL).1;rw[QR] at z;have e2:x.2=(k,bh L (g5 (pr.map N1)) (g5 fr) b,bh L (g5 (pr.map N1)) (g5 fr) e):=A9 (K2 ndW) h1 z;refine Jz.mpr ⟨(w,(k,b,e)),hw,?_⟩;show(bh L _ _ w,(k,bh L _ _ b,bh L _ _ e))=x;rw[QR,←e2]
    .rw[az _ _ hL] at QR;exact absurd (JE _ (Jz.mpr ⟨x,h1,rfl⟩)) (QR▸fo.no _ (fo.txt ndR (fo.mem.mpr ⟨hR,hL⟩)).2)
   .exact .inl ⟨⟨h1,h2⟩,hx⟩
  .right;refine Jz.mpr ⟨(w,(x.2.1,b,e)),h2,?_⟩;show(bh L _ _ w,(x.2.1,bh L _ _ b,bh L _ _ e))=x;rw[rN fo ndR h1,←h3,←h4]
theorem dG {α:Type}{l:List (Str×α)}(h:(l.map (·.1)).Nodup):l.Nodup:=List.Pairwise.of_map (·.1) (λa b hab e=>hab (by rw[e])) h
end
theorem SdIs.copy {H H':Hp}{L:Sd}{a p q:Addr}(h:SdIs K H L)(s:Same H H')(t:SqT K H' a [.ref p,.ref q])(hp:H' p=some (.dK (g5 L.W.pts)))(hq:H' q=some (.dK L.kvs))(ne:p≠q):SdIs K H' ⟨a,p,q,L.kvs,L.W⟩:=
 ⟨⟨t,.inl hp,.inl hq,h.at_.ts.mono s.le⟩,hp,hq,ne,h.nd,h.len,h.ends,h.nl⟩
structure Cpy (K:Qe) (H H':Hp) (L C:Sd):Prop where
 i:SdIs K H' C
 k:C.kvs=L.kvs
 w:C.W=L.W
 p:H C.p=none
 q:H C.q=none
theorem Cpy.same {H H1 H2:Hp}{L C:Sd}(h:Cpy K H H1 L C)(s:Same H1 H2):Cpy K H H2 L C:=⟨h.i.same s,h.k,h.w,h.p,h.q⟩
theorem gZ {α β:Type}{F:α->β->Prop}:∀{l:List α} {m:List β},l.length=m.length->(∀(j:Nat) (a:α) (b:β),l[j]?=some a->m[j]?=some b->F a b)->Paired F l m
 |[],[],_,_=> .nil
 |a::l,b::m,h,f=> .cons (f 0 a b rfl rfl) (gZ (by simpa using h) λj x y hx hy=>f (j+1) x y hx hy)
theorem T9 {α β : Type} {F : α -> β -> Prop} : ∀ {l : List α} {m : List β} {j : Nat} {b : β}, Paired F l m -> m[j]? = some b -> ∃ a, l[j]? = some a /\ F a b
 := by
  intro l m j b hp h;induction hp generalizing j with
  | nil => cases h
  | cons z t ih => cases j with
    | zero => cases h; exact ⟨_, rfl, z⟩
    | succ j => exact ih h
theorem Hj (a b:V)(l:List V):cO (a::b::l) (some 2) none=l:=by
 unfold cO;have e1:HT.sIx (a::b::l).length 0 (some ((2:Nat):Int))=min 2 (a::b::l).length:=HT.sIx_nat _ _ _;have e2:HT.sIx (a::b::l).length (a::b::l).length none=(a::b::l).length:=rfl;rw[show(some (2:Int))=some ((2:Nat):Int) from rfl,e1,e2];have e3:min 2 (a::b::l).length=2:=by simp
 rw[e3];show l.take _=l;exact JK (by simp)
def gN (K:Qe):Sp:=λvs H Q _=>∃(st r m f bl:Addr) (L R:Sd) (km kf:List (j0×V)) (bs:List Sd),vs=[.ref st]/\StI K H st r m f bl L R km kf bs/\bs.length<=10/\∀(p_ r' m' f' PZ:Addr) (L' R':Sd) (Qn:List Sd) (H':Hp),Same H H'->StI K H' p_ r' m' f' PZ L' R' km kf Qn->Cpy K H H' L L'->Cpy K H H' R R'->Paired (Cpy K H H') bs Qn->H m'=none->H f'=none->H PZ=none->(∀c∈Qn,m'≠c.p/\m'≠c.q)->Q (.ref p_) H'
abbrev iD (P:Program)(w:World)(K:Qe)(mg:Str->Option Value)(base:Heap):Prop:=V9 P w K mg base E7 1 "_law_copy" ["_law_step_here"] [] (gN K)
theorem nS {f:Addr}{fd:FuncData}(T:Txt K mg)(F:Fun K "_law_copy" "_law_copy" cU f fd):C0 P w K mg base E7 1 f fd ["_law_step_here"] (gN K):=by
 walk_at "#sc__law_copy"
 .obtain⟨st,r,m,f,bl,L,R,km,kf,bs,rfl,_⟩:=h;rfl
 .obtain⟨st,r,m,f,bl,L,R,km,kf,bs,rfl,hT,RZ,k⟩:=h;walk_at "@sc__law_copy 7=00yb19b29b39z7^4_law_web_here;;rf+i111111Bg0l_law_web_here;BJBjiF310F310ajpjp14i14&04Y2*iF52F53"
  refine P5 ?_;rfl';refine F5 hT.tup rfl ?_;rfl';refine P5 ?_;rfl';refine j3 hT.r.tup ?_;rfl';refine i9 hT.r.tup ?_;rfl';refine⟨d8 (by simp),λl1 n1=>?_⟩;obtain⟨H1,e1,f1,m1,_⟩:=b9 (o:= .lst _) n1;rw[e1];have T1:=hT.same m1;rfl';refine V5 T1.r.tup ?_;rfl';refine mD f1 T1.b (d8 (by simp;lia)) (λl2 n2=>?_);rw[show [V.ref L.a,.ref R.a]++(bs.map λs=>V.ref s.a)=(L::R::bs).map λs=>V.ref s.a from rfl];obtain⟨H2,e2,f2,m2,_⟩:=b9 (o:= .lst _) n2;rw[e2];have SS:=m1.trans m2;have Yt:(L::R::bs).length<=12:=by simp;lia
  have m_:∀(i:Nat) (v:V),((L::R::bs).map λs=>V.ref s.a)[i]?=some v->∃s:Sd,(L::R::bs)[i]?=some s/\v= .ref s.a/\SdIs K H s:=λi v hv=>by
   rw[JC] at hv;obtain⟨s,hs,e⟩:=Kd.mp hv;refine⟨s,hs,e.symm,?_⟩;rcases Kl.mp (JM hs) with rfl|z
   .exact hT.r.l
   .rcases Kl.mp z with rfl|z
    .exact hT.r.r
    .exact hT.r.bars s z
  refine A8 (SqL.of f2) ?_;refine z8 (n:=((L::R::bs).map λs=>V.ref s.a).length) (λi out H'=>Same H2 H'/\∃cs:List Sd,out=cs.map (λs=>V.ref s.a)/\cs.length=i/\∀(j:Nat) (c s:Sd),cs[j]?=some c->(L::R::bs)[j]?=some s->Cpy K H H' s c) ⟨Same.refl _,[],rfl,rfl,λj c s h=>by simp at h⟩ (λi out H' hi hp=>⟨_,_,SqL.of (hp.1 _ _ f2),Jy hi⟩) ?_ ?_
  .rintro N i v out H3' H3 hi ⟨s3,cs,rfl,B_,RT⟩ y hN';obtain⟨rfl,hx⟩:=Itl.get y (SqL.of (s3 _ _ f2));obtain⟨S,hS1,rfl,hS⟩:=m_ i v hx;have Xp:=SS.trans s3;have S3:=hS.same Xp;rw[Jx] at hi;rfl';refine⟨rfl,?_⟩;rfl';refine j3 S3.at_.tup ?_;rfl';refine D0 S3.at_.pts (λp np=>?_);obtain⟨H4,e4,f4,m4,_⟩:=b9 (o:= .dK _) np;rw[e4];have S4:=S3.same m4;rfl';refine i9 S4.at_.tup ?_;rfl';refine D0 S4.at_.ties (λq nq=>?_);obtain⟨H5,e5,f5,m5,_⟩:=b9 (o:= .dK _) nq;rw[e5];rfl';refine⟨d8 (by simp),λa na=>?_⟩;obtain⟨H6,e6,f6,m6,_⟩:=b9 (o:= .tup _) na;rw[e6];have QU:=m4.trans (m5.trans m6);refine⟨d8 (by rw[Jx];lia),hN' _ _ ⟨s3.trans QU,cs++[⟨a,p,q,S.kvs,S.W⟩],by rw[JF];rfl,by rw[JG,B_];rfl,λj c s hj hs=>?_⟩⟩;by_cases hji:j<cs.length
   .rw[KJ hji] at hj;exact(RT j c s hj hs).same QU
   .rw[Lf (by lia)] at hj;have hj0:j=i:=by
     by_cases z:j -cs.length=0
     .lia
     .rw[Ld (by simp;lia)] at hj;cases hj
    subst hj0;rw[show j -cs.length=0 by lia] at hj;cases hj;rw[hS1] at hs;cases hs;exact⟨hS.copy (Xp.trans QU) (SqT.of f6) (m6 _ _ (m5 _ _ f4)) (m6 _ _ f5) (b5 f4 nq),rfl,rfl,Xp.free np,Xp.free (m4.free nq)⟩
  .rintro out H3 ⟨s3,cs,rfl,B_,RT⟩;rw[Jx] at B_;refine⟨⟨_,SqL.of (s3 _ _ f2),JA _⟩,λlp nlp=>⟨d8 (by rw[Jx];lia),?_⟩⟩;obtain⟨C1,C2,cb,rfl⟩:∃C1 C2 cb,cs=C1::C2::cb:=by
    match cs,B_ with
    |C1::C2::cb,_=>exact⟨C1,C2,cb,rfl⟩
   have c1:=RT 0 C1 L rfl rfl;have c2:=RT 1 C2 R rfl rfl;have hcb:cb.length=bs.length:=by simpa using B_
   have cbs:Paired (Cpy K H H3) bs cb:=gZ hcb.symm λj s c hs hc=>RT (j+2) c s hc hs;obtain⟨H4,e4,f4,m4,_⟩:=b9 (H:=H3) (o:= .lst ((C1::C2::cb).map λs=>V.ref s.a)) nlp;change O8 _ _ _ (p5 H3 lp (.lst ((C1::C2::cb).map λs=>V.ref s.a))) _;rw[e4];have Wr:=SS.trans (s3.trans m4);have T4:=hT.same Wr;rfl';refine j4 (SqL.of f4) (F0 (j:=0) rfl) ?_;rfl';refine j4 (SqL.of f4) (F0 (j:=1) rfl) ?_;rfl';refine kY (SqL.of f4) (λPZ nbl=>?_);rw[show cO ((C1::C2::cb).map λs=>V.ref s.a) (some 2) none=cb.map λs=>V.ref s.a from Hj _ _ _];obtain⟨H5,e5,f5,m5,_⟩:=b9 (o:= .lst (cb.map λs=>V.ref s.a)) nbl;rw[e5];rfl';refine⟨d8 (by simp),λr' nr=>?_⟩;obtain⟨H6,e6,f6,m6,_⟩:=b9 (o:= .tup _) nr;rw[e6];have UW:=m5.trans m6;rfl';refine D0 (.inl (UW _ _ T4.m)) (λm' nm=>?_);obtain⟨H7,e7,f7,m7,_⟩:=b9 (o:= .dK _) nm;rw[e7];rfl';refine D0 (.inl (m7 _ _ (UW _ _ T4.f))) (λf' nf=>?_);obtain⟨H8,e8,f8,m8,_⟩:=b9 (o:= .dK _) nf;rw[e8];rfl';refine⟨d8 (by simp),λp_ nst=>?_⟩;obtain⟨H9,e9,f9,m9,_⟩:=b9 (o:= .tup _) nst;rw[e9];have Xq:=m7.trans (m8.trans m9);have Xr:=UW.trans Xq;have d1:=c1.same (m4.trans Xr);have d2:=c2.same (m4.trans Xr);have d3:Paired (Cpy K H H9) bs cb:=Paired.imp' (λ_ _ z=>z.same (m4.trans Xr)) cbs;have d4:∀c∈cb,m'≠c.p/\m'≠c.q:=λc hc=>by
    obtain⟨j,hj⟩:=Lj hc;obtain⟨s,_,z⟩:=T9 cbs hj;have z':=z.i.same (m4.trans UW);exact⟨(b5 z'.hp nm).symm,(b5 z'.hq nm).symm⟩
   exact k p_ r' m' f' PZ C1 C2 cb H9 (Wr.trans Xr) ⟨SqT.of f9,⟨SqT.of (Xq _ _ f6),d1.i,d2.i,SqL.of (Xq _ _ (m6 _ _ f5)),λc hc=>by
    obtain⟨j,hj⟩:=Lj hc;obtain⟨s,_,z⟩:=T9 d3 hj;exact z.i⟩,m9 _ _ (m8 _ _ f7),m9 _ _ f8,Xq _ _ (m6 _ _ f5)⟩ d1 d2 d3 (Wr.free (UW.free nm)) (Wr.free (UW.free (m7.free nf))) (Wr.free nbl) d4
def gF (K:Qe):Sp:=λvs H Q _=>∃(A B:Sd),vs=[.ref A.a,.ref B.a]/\WebAt K H A.a A.p A.q A.kvs A.W/\WebAt K H B.a B.p B.q B.kvs B.W/\A.W.pts.Perm B.W.pts/\A.W.ts.Perm B.W.ts/\(B.W.pts.map (·.1)).Nodup/\(B.W.ts.map (·.1)).Nodup/\A.p≠B.p/\A.q≠B.q/\Q (.bl true) H
abbrev iM (P:Program)(w:World)(K:Qe)(mg:Str->Option Value)(base:Heap):Prop:=V9 P w K mg base E7 1 "_law_same" ["_law_found","_law_web_here"] [] (gF K)
theorem oG {f:Addr}{fd:FuncData}(T:Txt K mg)(F:Fun K "_law_same" "_law_same" dg f fd):C0 P w K mg base E7 1 f fd ["_law_found","_law_web_here"] (gF K):=by
 walk_at "#sc__law_same"
 .obtain⟨A,B,rfl,_⟩:=h;rfl
 .obtain⟨A,B,rfl,hA,hB,p1,p2,nd1,Rz,n1,n2,k⟩:=h;walk_at "@sc__law_same 7sATOt[@?803>~y'0T.b_tuple ~xuXq502hSa'2zq t[@?i10>~l~1~k'2zq t[@?i10>~l~1~k'1By HK0001h"
  symm;refine eE (eO (t:="tuple") (.inr (.inl ⟨rfl,_,hA.tup⟩)) (by simp) ?_);symm;rw[if_neg (by decide)];symm;refine E4 (wJ hA.tup ?_);symm;rw[if_neg (by simp)];symm;refine j3 hA.tup ?_;symm;refine eE (eO (t:="dict") (.inr (.inr ⟨rfl,_,hA.pts⟩)) (by simp) ?_);symm;rw[if_pos (by decide)];symm;refine i9 hA.tup ?_;symm;refine eE (eO (t:="dict") (.inr (.inr ⟨rfl,_,hA.ties⟩)) (by simp) ?_);symm;rw[if_pos (by decide)];symm;exact lQ (qP hA.tup hB.tup (dQ n1 hA.pts hB.pts p1 nd1) (dw n2 hA.ties hB.ties hA.ts hB.ts p2 Rz) k)
theorem uE {H:Hp}{d a:Addr}{ys xs:List V}{u:HO}(h:H d=some (.lst ys))(s:SqT K H a xs):SqT K (p5 H d u) a xs:=by grind [SqT,p5,Rd]
theorem wO {H:Hp}{d:Addr}{ys:List V}{u:HO}{kvs:List (j0×V)}{ts:List (Str×M8)}(h:H d=some (.lst ys))(t:TiesIs K H kvs ts):TiesIs K (p5 H d u) kvs ts:=Paired.imp' (λ_ _ ⟨e,a,e2,z⟩=>⟨e,a,e2,uE h z⟩) t
def vP (L B:B0):Prop:=B=L\/(∃w kd:Str,w∉b7 L/\B=⟨L.pts++[(w,kd)],L.ts⟩)\/∃(w kd o1 o2:Str),w∉b7 L/\o1∈L.pts.map (·.1)/\o2∈L.pts.map (·.1)/\B=⟨L.pts,L.ts++[(w,(kd,o1,o2))]⟩
def fT (K:Qe):Sp:=λvs H Q _=>∃(L:Sd) (lx lw lk:Addr) (xs:List Int) (ws ks:List Str),vs=[.ref L.a,.ref lx,.ref lw,.ref lk]/\SdIs K H L/\(b7 L.W).length<=8/\(∀n∈b7 L.W,Wd ws 0 8 n)/\SqL K H lx (xs.map V.int)/\xs.length=16/\(∀x∈xs,0<=x)/\SqL K H lw (ws.map V.str)/\AS ws/\H lk=some (.lst (ks.map V.str))/\EB ks/\
 ∀(l:Addr) (bs:List Sd) (H':Hp),H l=none->Same H H'->H' l=some (.lst (bs.map λs=>V.ref s.a))->bs.length<=3->(∀s∈bs,SdIs K H' s/\vP L.W s.W/\H s.p=none/\H s.q=none)->Q (.ref l) H'
theorem Aw {x:Int}(h:0<=x):∃c:Int,oj [V.int 0,.int 1,.int 1,.int 2,.int 3] (x % 5)=some (.int c)/\0<=c/\c<=3:=by
 have h0:0<=x % 5:=KG _ (by decide);have h1:x % 5<5:=Kv _ (by decide);obtain⟨n,hn⟩:∃n:Nat,x % 5=n:=⟨(x % 5).toNat,by lia⟩
 rw[hn];have hn5:n<5:=by lia
 match n,hn5 with
 |0,_=>exact⟨0,F0 rfl,by decide,by decide⟩
 |1,_=>exact⟨1,F0 rfl,by decide,by decide⟩
 |2,_=>exact⟨1,F0 rfl,by decide,by decide⟩
 |3,_=>exact⟨2,F0 rfl,by decide,by decide⟩
 |4,_=>exact⟨3,F0 rfl,by decide,by decide⟩
theorem uJ {L:B0}{w:Str}(nd:(b7 L).Nodup)(h:w∉b7 L):(∀kd:Str,(b7 ⟨L.pts++[(w,kd)],L.ts⟩).Nodup)/\∀t:M8,(b7 ⟨L.pts,L.ts++[(w,t)]⟩).Nodup:=by
 obtain⟨n1,n2,n3⟩:=JQ.mp nd;have h1:w∉L.pts.map (·.1):=λz=>h (JB _ z);have h2:w∉L.ts.map (·.1):=λz=>h (JE _ z);constructor
 .intro kd;show((L.pts++[(w,kd)]).map (·.1)++L.ts.map (·.1)).Nodup;rw[JF];refine JQ.mpr ⟨F4 n1 h1,n2,λa ha b hb e=>?_⟩;subst e;rcases JD.mp ha with z|z
  .exact n3 a z a hb rfl
  .rw[show a=w by simpa using z] at hb;exact h2 hb
 .intro t;show(L.pts.map (·.1)++(L.ts++[(w,t)]).map (·.1)).Nodup;rw[JF];refine JQ.mpr ⟨n1,F4 n2 h2,λa ha b hb e=>?_⟩;subst e;rcases JD.mp hb with z|z
  .exact n3 a ha a z rfl
  .rw[show a=w by simpa using z] at ha;exact h1 ha
abbrev iK (P:Program)(w:World)(K:Qe)(mg:Str->Option Value)(base:Heap):Prop:=V9 P w K mg base E7 1 "_law_bars" ["_law_left","_law_xs","_law_words_here","_law_kinds"] [] (fT K)
theorem pG {f:Addr}{fd:FuncData}(T:Txt K mg)(F:Fun K "_law_bars" "_law_bars" cX f fd):C0 P w K mg base E7 1 f fd ["_law_left","_law_xs","_law_words_here","_law_kinds"] (fT K):=by
 walk_at "#sc__law_bars"
 .obtain⟨L,lx,lw,lk,xs,ws,ks,rfl,_⟩:=h;rfl
 .obtain⟨L,lx,lw,lk,xs,ws,ks,rfl,hL,hL8,hLw,hX,s_,t_,hWs,⟨wl,wnd,wk⟩,hKs,⟨k0,k3,kkd⟩,k⟩:=h;have hLn:=hL8;rw[A5] at hLn;have OL:=hL.at_.ts.length;obtain⟨Rf,Uj,S_⟩:=Z8 s_ t_ 14 (by lia);obtain⟨x15,ZS,Ws⟩:=Z8 s_ t_ 15 (by lia);obtain⟨Xs,hw12,Wt⟩:=qh wl 12 (by lia);obtain⟨UX,Wu,Wv⟩:=qh wl 13 (by lia);obtain⟨Se,Uk,RM⟩:=qh wl 14 (by lia);have TV:∀{j:Nat} {w':Str},8<=j->ws[j]?=some w'->w'∉b7 L.W:=fun{j w'} hj hw z=>(hLw w' z).no wnd ⟨j,JA _,KP _,hw⟩ (.inl hj);have Ww:∀{j:Nat} {w':Str},ws[j]?=some w'->w'.length<=100:=λhw=>by
   have:=mY (wk _ (JM hw));lia
  walk_at "@sc__law_bars 44E7vw,3e+p2p2p2i22m112g5946G11f05247jiF310F31048tWVU31049ef03+312mG062fq5327'3bQ AZu~3m0622hoX8EhdCj89ic8mG062q58c8mG062q581712dsATu~3m0622hoK52hdC091712dQN(:/.0457a04"
  refine B8 λUH hx=>?_;rfl';refine⟨d8 (by simp),λlo no=>?_⟩;obtain⟨H1,e1,f1,m1,_⟩:=b9 (o:= .lst []) no;rw[e1];rfl';refine hx [some (.ref L.a),some (.ref lx),some (.ref lw),some (.ref lk),some (.ref lo),none,none,none,none,none] _ ?_;clear hx;refine B8 λRA hx=>?_;rfl';refine⟨d8 (by simp),λl2 n2=>?_⟩;obtain⟨H2,e2,f2,m2,_⟩:=b9 (o:= .lst [.int 0,.int 1,.int 1,.int 2,.int 3]) n2;rw[e2];have m02:=m1.trans m2;rfl';refine j4 (m02.seq hX) Uj ?_;rfl';obtain⟨c,hc,hc0,hc3⟩:=Aw S_;refine j4 (SqL.of f2) hc ?_;rfl';refine Y3 (by lia) (by lia) ?_;refine dI (n:=c.toNat) (λi σ H'=>Same H H'/\(∃v5 v6 v7 v8 v9,σ=[some (.ref L.a),some (.ref lx),some (.ref lw),some (.ref lk),some (.ref lo),v5,v6,v7,v8,v9])/\∃bs:List Sd,H' lo=some (.lst (bs.map λs=>V.ref s.a))/\bs.length=i/\∀s∈bs,SdIs K H' s/\vP L.W s.W/\H s.p=none/\H s.q=none) ⟨m02,⟨_,_,_,_,_,rfl⟩,[],m2 _ _ f1,rfl,λ_ h=>nomatch h⟩ (λi σ H' hi _=>by exact hi) ?_ ?_
  .rintro bk i v σ G0' G0 hi ⟨s0,⟨v5,v6,v7,v8,v9,rfl⟩,bs,g0,RZ,PK⟩ ⟨rfl,rfl⟩ _ _;have L0:=hL.same s0;rfl';refine B8 λWx hx3=>?_;rfl';refine j4 (s0.seq hX) ZS ?_;rfl';have hxx:0<=x15/(0+(i:Int)+1):=Int.ediv_nonneg Ws (by lia);generalize x15/(0+(i:Int)+1)=x at hxx⊢;refine hx3 [some (.ref L.a),some (.ref lx),some (.ref lw),some (.ref lk),some (.ref lo),some (.int (0+(i:Int))),some (.int x),v7,v8,v9] _ ?_;clear hx3;refine B8 λZT hx3=>?_;rfl';refine j3 L0.at_.tup ?_;rfl';refine D0 L0.at_.pts (λbp nbp=>?_);obtain⟨G1,x1,fp1,q1,_⟩:=b9 (o:= .dK (g5 L.W.pts)) nbp;rw[x1];have L1:=L0.same q1;rfl';refine i9 L1.at_.tup ?_;rfl';refine D0 L1.at_.ties (λbq nbq=>?_);obtain⟨G2,x2,fq2,q2,_⟩:=b9 (o:= .dK L.kvs) nbq;rw[x2];rfl';refine⟨d8 (by simp),λba nba=>?_⟩;obtain⟨G3,x3,f3,q3,_⟩:=b9 (o:= .tup [.ref bp,.ref bq]) nba;rw[x3];have Ul:bp≠bq:=b5 fp1 nbq;have q03:=q1.trans (q2.trans q3);have s3:=s0.trans q03;have p3:=q3 _ _ (q2 _ _ fp1);have q3':=q3 _ _ fq2;have Um:H bp=none:=s0.free nbp;have Uo:H bq=none:=s0.free (q1.free nbq);have L3:=hL.same s3;rfl';refine hx3 [some (.ref L.a),some (.ref lx),some (.ref lw),some (.ref lk),some (.ref lo),some (.int (0+(i:Int))),some (.int x),some (.ref ba),v8,v9] _ ?_;clear hx3;refine B8 λnx5 hx3=>?_;rfl';refine j3 L3.at_.tup ?_;rfl';refine B9 (ss:=L.W.pts.map (·.1)) L3.at_.pts (by rw[J6,B6]) (by rw[Jx];lia) (λs1 a1 a2 l4 n4=>?_);obtain⟨G4,x4,f4,q4,_⟩:=b9 (o:= .lst _) n4;rw[x4];have s4:=s3.trans q4;rfl';refine hx3 [some (.ref L.a),some (.ref lx),some (.ref lw),some (.ref lk),some (.ref lo),some (.int (0+(i:Int))),some (.int x),some (.ref ba),some (.ref l4),v9] _ ?_;clear hx3;refine B8 λnx6 hx3=>?_;rfl';refine j4 (s4.seq hWs) (Wt _ rfl) ?_;rfl';refine⟨d8 (by simp),λl5 n5=>?_⟩;obtain⟨G5,x5,f5,q5,_⟩:=b9 (o:= .lst [.str Xs]) n5;rw[x5];have s5:=s4.trans q5;refine mD (s5 _ _ hKs) f5 (d8 (by rw[Jx];simp;lia)) (λl6 n6=>?_);rw[show ks.map V.str++[V.str Xs]=(ks++[Xs]).map V.str by rw[JF];rfl];obtain⟨G6,x6,f6,q6,_⟩:=b9 (o:= .lst _) n6;rw[x6];have s6:=s5.trans q6;have Wy:=q5.trans q6;rfl';refine E4 (r9 (SqL.of (s6 _ _ hKs)) ?_);rw[Jx];rfl';obtain⟨kd,OU,_⟩:=N4 (ss:=ks++[Xs]) (i:=x/6 % ((ks.length:Int)+1)) (KG _ (by lia)) (by rw[JG];simpa using Kv (x/6) (show(0:Int)<(ks.length:Int)+1 by lia));refine j4 (SqL.of f6) OU ?_;rfl';refine hx3 [some (.ref L.a),some (.ref lx),some (.ref lw),some (.ref lk),some (.ref lo),some (.int (0+(i:Int))),some (.int x),some (.ref ba),some (.ref l4),some (.str kd)] _ ?_;clear hx3;have l6':=Wy _ _ f4;have t6:SqT K G6 ba [.ref bp,.ref bq]:=SqT.of ((q4.trans Wy) _ _ f3);have p6:=(q4.trans Wy) _ _ p3;have Xt:=(q4.trans Wy) _ _ q3';have Wz:=q03.trans (q4.trans Wy);have g6:=Wz _ _ g0;have hbs6:∀s∈bs,SdIs K G6 s/\vP L.W s.W/\H s.p=none/\H s.q=none:=λs hs=>⟨(PK s hs).1.same Wz,(PK s hs).2⟩
   have ZU:=(hL.same s6).at_.ts;have hg1:=a1.length_eq;rw[Jx] at hg1;refine Cq (λσ H'=>σ=[some (.ref L.a),some (.ref lx),some (.ref lw),some (.ref lk),some (.ref lo),some (.int (0+(i:Int))),some (.int x),some (.ref ba),some (.ref l4),some (.str kd)]/\Same G0 H'/\H' lo=some (.lst (bs.map λs=>V.ref s.a))/\∃B:Sd,B.a=ba/\SdIs K H' B/\vP L.W B.W/\H B.p=none/\H B.q=none) ?_ ?_
   .rintro σ G7 ⟨rfl,g7,lo7,B,rfl,hB,hb1,OH,VM⟩;rfl';refine⟨.inl ⟨rfl,_,SqL.of lo7⟩,?_⟩;rfl';refine⟨lo,_,_,rfl,rfl,lo7,U0 (by rw[Jx];lia),?_⟩;have g_:∀{s:Sd},SdIs K G7 s->SdIs K (p5 G7 lo (.lst ((bs.map λs=>V.ref s.a)++[V.ref B.a]))) s:=fun{s} hs=>⟨⟨uE lo7 hs.at_.tup,.inl (by rw[d6 (λz=>by have z2:=hs.hp;rw[z,lo7] at z2;cases z2)];exact hs.hp),.inl (by rw[d6 (λz=>by have z2:=hs.hq;rw[z,lo7] at z2;cases z2)];exact hs.hq),wO lo7 hs.at_.ts⟩,by rw[d6 (λz=>by have z2:=hs.hp;rw[z,lo7] at z2;cases z2)];exact hs.hp,by rw[d6 (λz=>by have z2:=hs.hq;rw[z,lo7] at z2;cases z2)];exact hs.hq,hs.ne,hs.nd,hs.len,hs.ends,hs.nl⟩
    walk_at "X";refine⟨D5 (s0.trans g7) no,⟨_,_,_,_,_,rfl⟩,bs++[B],by rw[d0,JF];rfl,by rw[JG,RZ];rfl,λs hs=>?_⟩;rcases JD.mp hs with z|z
    .walk_at "X";exact⟨g_ ((PK s z).1.same g7),(PK s z).2⟩
    .rw[JN.mp z];exact⟨g_ hB,hb1,OH,VM⟩
   .intro Sq hnx;have stay:∀{HZ:Hp},Same G6 HZ->Sq [some (.ref L.a),some (.ref lx),some (.ref lw),some (.ref lk),some (.ref lo),some (.int (0+(i:Int))),some (.int x),some (.ref ba),some (.ref l4),some (.str kd)] HZ:=fun{HZ} sz=>hnx _ _ ⟨rfl,Wz.trans sz,sz _ _ g6,⟨ba,bp,bq,L.kvs,L.W⟩,rfl,⟨⟨sz.tup t6,.inl (sz _ _ p6),.inl (sz _ _ Xt),ZU.mono sz.le⟩,sz _ _ p6,sz _ _ Xt,Ul,hL.nd,hL.len,hL.ends,hL.nl⟩,.inl rfl,Um,Uo⟩;have point:∀{HZ:Hp},Same G6 HZ->Sq [some (.ref L.a),some (.ref lx),some (.ref lw),some (.ref lk),some (.ref lo),some (.int (0+(i:Int))),some (.int x),some (.ref ba),some (.ref l4),some (.str kd)] (p5 HZ bp (.dK (g5 (L.W.pts++[(Se,kd)])))):=fun{HZ} sz=>by
     have hf:=TV (by lia) Uk;have p7:=sz _ _ p6;have g7:=sz _ _ g6;have qq7:=sz _ _ Xt;refine hnx _ _ ⟨rfl,D5 (Wz.trans sz) nbp,by rw[d6 (λz=>by rw[z,p7] at g7;cases g7)];exact g7,⟨ba,bp,bq,L.kvs,⟨L.W.pts++[(Se,kd)],L.W.ts⟩⟩,rfl,⟨⟨Q5 p7 (sz.tup t6),.inl d0,.inl (by rw[d6 Ul.symm];exact qq7),I0 p7 (ZU.mono sz.le)⟩,d0,by rw[d6 Ul.symm];exact qq7,Ul,(uJ hL.nd hf).1 kd,?_,λy hy=>?_,λn hn=>?_⟩,.inr (.inl ⟨Se,kd,hf,rfl⟩),Um,Uo⟩
     .rw[A5];show(L.W.pts++[(Se,kd)]).length+L.W.ts.length<=24;rw[JG];simp;lia
     .have he:=hL.ends y hy;show y.2.2.1∈(L.W.pts++[(Se,kd)]).map (·.1)/\y.2.2.2∈(L.W.pts++[(Se,kd)]).map (·.1);rw[JF];walk_at "X";exact⟨JB _ he.1,JB _ he.2⟩
     .have Sh:n∈(L.W.pts++[(Se,kd)]).map (·.1)++L.W.ts.map (·.1):=hn;rw[JF] at Sh;rcases JD.mp Sh with z|z
      .rcases JD.mp z with z|z
       .exact hL.nl n (JB _ z)
       .rw[show n=Se by simpa using z];exact Ww Uk
      .exact hL.nl n (JE _ z)
    have RN:∀{HZ:Hp},Same G6 HZ->qO P w (.ref bp) (.str Se) (.str kd) HZ λH'=>Sq [some (.ref L.a),some (.ref lx),some (.ref lw),some (.ref lk),some (.ref lo),some (.int (0+(i:Int))),some (.int x),some (.ref ba),some (.ref l4),some (.str kd)] H':=fun{HZ} sz=>by
     refine O9 (z6 (k:=Sum.inr Se) (sz _ _ p6) (d8 (by rw[j7];lia)) ?_);rw[X3 (λz=>TV (by lia) Uk (JB _ z))];exact point sz
    rfl';refine K4 (λb1=>?_) (λb1=>?_)
    .rfl';refine⟨d8 (by simp),λl7 n7=>?_⟩;obtain⟨G7,x7,f7,q7,_⟩:=b9 (o:= .lst []) n7;rw[x7];refine xS (kX (SqL.of (q7 _ _ l6')) (SqL.of f7) (U6 _) rfl ?_);have VF:U5 (s1.map V.str) []=decide (s1=[]):=by cases s1<;>rfl
     rw[VF];rfl';refine N2 (λb2=>?_) (λb2=>?_)
     .have Su:0<s1.length:=List.length_pos_iff.mpr b2;obtain⟨o1,Qz,WA⟩:=N4 (ss:=s1) (i:=x/50 % (s1.length:Int)) (KG _ (by lia)) (Kv _ (by lia));obtain⟨o2,Qi,WC⟩:=N4 (ss:=s1) (i:=x/210 % (s1.length:Int)) (KG _ (by lia)) (Kv _ (by lia));have Xu:=q7 _ _ l6';rfl';refine E4 (r9 (SqL.of Xu) ?_);rw[Jx];rfl';refine j4 (SqL.of Xu) Qz ?_;rfl';refine E4 (r9 (SqL.of Xu) ?_);rw[Jx];rfl';refine j4 (SqL.of Xu) Qi ?_;rfl';refine⟨d8 (by simp),λl8 n8=>?_⟩;obtain⟨G8,x8,f8,q8,_⟩:=b9 (o:= .tup (Z5 (kd,o1,o2))) n8;change Aj _ _ _ _ (p5 G7 l8 (.tup (Z5 (kd,o1,o2)))) _;rw[x8];have sz:=q7.trans q8;have hf:=TV (by lia) Wu;rfl';refine i9 (sz.tup t6) ?_;rfl';refine j4 ((s6.trans sz).seq hWs) (Wv _ rfl) ?_;have Xv:=sz _ _ Xt;have g8:=sz _ _ g6;refine O9 (z6 (k:=Sum.inr UX) Xv (d8 (by lia)) ?_);refine hnx _ _ ⟨rfl,D5 (Wz.trans sz) (q1.free nbq),by rw[d6 (λz=>by rw[z,Xv] at g8;cases g8)];exact g8,⟨ba,bp,bq,_,⟨L.W.pts,L.W.ts++[(UX,(kd,o1,o2))]⟩⟩,rfl,⟨⟨Q5 Xv (sz.tup t6),.inl (by rw[d6 Ul];exact sz _ _ p6),.inl d0,I0 Xv (kW (ZU.mono sz.le) (λz=>hf (JE _ z)) (SqT.of f8))⟩,by rw[d6 Ul];exact sz _ _ p6,d0,Ul,(uJ hL.nd hf).2 _,?_,λy hy=>?_,λn hn=>?_⟩,.inr (.inr ⟨UX,kd,o1,o2,hf,a1.mem_iff.mp WA,a1.mem_iff.mp WC,rfl⟩),Um,Uo⟩
      .rw[A5];show L.W.pts.length+(L.W.ts++[(UX,(kd,o1,o2))]).length<=24;rw[JG];simp;lia
      .rcases JD.mp hy with z|z
       .exact hL.ends y z
       .rw[JN.mp z];exact⟨a1.mem_iff.mp WA,a1.mem_iff.mp WC⟩
      .have Sh:n∈L.W.pts.map (·.1)++(L.W.ts++[(UX,(kd,o1,o2))]).map (·.1):=hn;rw[JF] at Sh;rcases JD.mp Sh with z|z
       .exact hL.nl n (JB _ z)
       .rcases JD.mp z with z|z
        .exact hL.nl n (JE _ z)
        .rw[show n=UX by simpa using z];exact Ww Wu
     .rfl';refine K4 (λb3=>?_) (λb3=>absurd (by lia) b3);rfl';refine j3 (q7.tup t6) ?_;rfl';refine j4 ((s6.trans q7).seq hWs) (RM _ rfl) ?_;exact RN q7
    .rfl';refine K4 (λb3=>?_) (λb3=>?_)
     .rfl';refine j3 t6 ?_;rfl';refine j4 (s6.seq hWs) (RM _ rfl) ?_;exact RN (Same.refl _)
     .rfl';refine K4 (λb4=>?_) (λb4=>?_)
      .rfl';refine j3 t6 ?_;rfl';refine j4 (s6.seq hWs) (RM _ rfl) ?_;exact RN (Same.refl _)
      .rfl';exact stay (Same.refl _)
  rintro σ G0 ⟨s0,⟨v5,v6,v7,v8,v9,rfl⟩,bs,g0,RZ,PK⟩;refine⟨JA _,?_⟩;refine hx [some (.ref L.a),some (.ref lx),some (.ref lw),some (.ref lk),some (.ref lo),v5,v6,v7,v8,v9] G0 ?_;rfl';exact k lo bs G0 no s0 g0 (by lia) PK
def yf (W B:B0)(fx:List (Str×Str)):Prop:=(∃x∈B.pts,x.1∉fx.map (·.1)/\∀y∈W.pts,y.2=x.2->y.1∈fx.map (·.2))\/∃x∈B.ts,x.1∉fx.map (·.1)/\∀y∈W.ts,y.2=(x.2.1,i7 (g5 fx) x.2.2.1,i7 (g5 fx) x.2.2.2)->y.1∈fx.map (·.2)
def iR (K:Qe):Sp:=λvs H Q _=>∃(W B:Sd) (m:Addr) (fx:List (Str×Str)),vs=[.ref W.a,.ref B.a,.ref m]/\SdIs K H W/\SdIs K H B/\H m=some (.dK (g5 fx))/\(fx.map (·.1)).Nodup/\W.W.pts.length+W.W.ts.length<=12/\W.p≠B.p/\W.q≠B.q/\(∀x∈B.W.ts,x.1∉fx.map (·.1)->x.2.2.1∈fx.map (·.1)/\x.2.2.2∈fx.map (·.1))/\
 ∀(b:Bool) (H':Hp),Same H H'->(b=false->yf W.W B.W fx)->Q (.bl b) H'
theorem ju {H:Hp}{d p:Addr}{o:Obj}{kvs:List (j0×V)}{u:HO}(n:p≠d)(h:H p=some u):z7 d o kvs H p=some u:=by
 unfold z7;rw[d6 n];exact h
theorem oC {m:List (Str×Str)}{n:Str}(nk:(m.map (·.1)).Nodup)(h:n∈m.map (·.1)):(n,i7 (g5 m) n)∈m:=by
 obtain⟨x,hx,rfl⟩:=Jz.mp h;rw[K7 nk (show(x.1,x.2)∈m from hx)];exact hx
abbrev ky (P:Program)(w:World)(K:Qe)(mg:Str->Option Value)(base:Heap):Prop:=V9 P w K mg base E7 1 "_law_met" ["_law_web_here","_law_bar","_law_match"] [] (iR K)
theorem rH {f:Addr}{fd:FuncData}(T:Txt K mg)(F:Fun K "_law_met" "_law_met" fF f fd):C0 P w K mg base E7 1 f fd ["_law_web_here","_law_bar","_law_match"] (iR K):=by
 walk_at "#sc__law_met"
 .obtain⟨W,B,m,fx,rfl,_⟩:=h;rfl
 .obtain⟨W,B,m,fx,rfl,hW,hB,hm,Pw,hsz,np,nq,hends,k⟩:=h;have hWk:=hW.at_.ts.length;walk_at "@sc__law_met 43-~hL~g~f3~0#~e~d~c027vwr11g49dsoD402naH'2EX %~5x_law_name_here;3401;r10g0l_law_name_here,_law_held,_law_word,_law_web_here,_law_bar;PAZuKe1300e1402hoD001n00Eh7vwr11g49dsoD402n45jpee11042ic2ee11042c2ee11042aH'2EX %~5x_law_name_here;530;r10g0l_law_name_here,_law_tie,_law_held,_law_web_here;PAZuKe130001hoD002n00EhS"
  refine B8 λUH hx=>?_;rfl';refine⟨.inr (.inr (.inl ⟨rfl,.inl ⟨_,hm⟩⟩)),?_⟩;rfl';refine⟨m,_,rfl,rfl,.inl hm,λv1 n1=>?_⟩;obtain⟨H1,e1,f1,m1,_⟩:=b9 (o:= .ext (lZ v1 m)) n1;rw[e1];rfl';refine aE f1 (.inl (m1 _ _ hm)) (λlh n2=>?_);obtain⟨H2,e2,f2,m2,_⟩:=b9 (o:= .lst _) n2;rw[e2];rw[qG] at f2;have s2:=m1.trans m2;rfl';refine hx [some (.ref W.a),some (.ref B.a),some (.ref m),some (.ref lh),none,none] _ ?_;clear hx;refine B8 λRA hx=>?_;have W2:=hW.same s2;have B2:=hB.same s2;have M2:=s2 _ _ hm;rfl';refine j3 B2.at_.tup ?_;refine Q3 B2.hp (λTx o3=>?_);refine K6 (n:=(g5 B.W.pts).length) (λi σ H'=>(∃v4,σ=[some (.ref W.a),some (.ref B.a),some (.ref m),some (.ref lh),v4,none])/\Same (z7 B.p o3 (g5 B.W.pts) H2) H') ⟨⟨_,rfl⟩,Same.refl _⟩ (λi σ H' hi hp=>⟨hp.2 _ _ d0,hi⟩) ?_ ?_
  .rintro i v σ G3' G3 hi ⟨⟨v4,rfl⟩,s3⟩ ⟨rfl,kv,f_,rfl⟩ _ _;obtain⟨x,QN,rfl⟩:=V0 f_;have o_:=JM QN;have Pk:=(K5 (o:=o3) B2.hp).trans s3.le;have B3:=B2.at_.mono Pk;have W3:=W2.at_.mono Pk;have ZV:G3 W.p=some (.dK (g5 W.W.pts)):=s3 _ _ (ju np W2.hp);rfl';refine N6 (E1 (k:=Sum.inr x.1) (Pk.dic (.inl M2))) ?_;rw[J3];rfl';refine N2 (λhb=>?_) (λhb=>?_)
   .have hu:x.1∉fx.map (·.1):=by simpa using hb
    rfl';refine j3 W3.tup ?_;refine Q3 ZV (λZs o4=>?_);refine z8 (n:=(g5 W.W.pts).length) (λj out H'=>Same (z7 W.p o4 (g5 W.W.pts) G3) H'/\out.length<=j/\∀y∈W.W.pts.take j,y.2=x.2->y.1∉fx.map (·.2)->out≠[]) ⟨Same.refl _,JA _,λy h=>by simp at h⟩ (λj out H' hj hp=>⟨hp.1 _ _ d0,hj⟩) ?_ ?_
    .rintro N j v out G4' G4 hj ⟨s4,ol,on⟩ ⟨rfl,kv,hkv',rfl⟩ hN';obtain⟨y,hy,rfl⟩:=V0 hkv';have SV:=JM hy;have QH:=Pk.trans ((K5 (o:=o4) ZV).trans s4.le);have W4:=W2.at_.mono QH;have B4:=B2.at_.mono QH;have h4:SqL K G4 lh _:=QH.lst (SqL.of f2);have tk:W.W.pts.take (j+1)=W.W.pts.take j++[y]:=by rw[Kb,hy];rfl
     have ZW:j<=100:=by rw[j7] at hj;lia
     rfl';refine⟨rfl,?_⟩;rfl';refine j3 W4.tup ?_;rfl';refine k8 (v:= .str y.2) (by have z:=E1 (k:=Sum.inr y.1) W4.pts;rw[L5 (k:=y.2) (A6 hW.nd) SV] at z;exact z) ?_;rfl';refine j3 B4.tup ?_;rfl';refine k8 (v:= .str x.2) (by have z:=E1 (k:=Sum.inr x.1) B4.pts;rw[L5 (k:=x.2) (A6 hB.nd) o_] at z;exact z) ?_;refine gn ?_;rfl';refine K4 (λb1=>?_) (λb1=>?_)
     .rfl';refine E2 h4 ?_;rfl';refine N2 (λb2=>?_) (λb2=>?_)
      .rfl';refine⟨d8 (by lia),hN' _ _ ⟨s4,by rw[JG,JO];lia,λy' K_ _ _=>by simp⟩⟩
      .refine hN' _ _ ⟨s4,by lia,λy' K_ q1 q2=>?_⟩;rw[tk] at K_;rcases JD.mp K_ with z|z
       .exact on y' z q1 q2
       .rw[JN.mp z] at q2;exact absurd b2 q2
     .refine hN' _ _ ⟨s4,by lia,λy' K_ q1 q2=>?_⟩;rw[tk] at K_;rcases JD.mp K_ with z|z
      .exact on y' z q1 q2
      .rw[JN.mp z] at q1;exact absurd q1 b1
    .rintro out G4 ⟨s4,ol,on⟩;rw[j7] at ol on;rw[JK (JA _)] at on;refine⟨⟨s4 _ _ d0,JA _⟩,λD2 hD2=>⟨d8 (by lia),?_⟩⟩;have sM:=O1 ZV s4 hD2 (u:= .lst out);have fM:=Z3 s4 hD2 (u:= .lst out);generalize thaw W.p (p5 G4 D2 (.lst out))=G5 at sM fM⊢;rfl';refine⟨d8 (by simp),λl6 n6=>?_⟩;obtain⟨G6,e6,f6,m6,_⟩:=b9 (o:= .lst []) n6;rw[e6];refine⟨D2,l6,out,rfl,rfl,SqL.of (m6 _ _ fM),SqL.of f6,?_⟩;refine k _ _ (s2.trans ((s3.trans (sM.trans m6)).thaw B2.hp)) (λhf=> .inl ⟨x,o_,hu,λy hy q=>?_⟩);refine KZ λq2=>on y hy q q2 ?_;cases out with
     |nil=>rfl
     |cons _ _=>cases hf
   .rfl';walk_at "X";exact⟨⟨_,rfl⟩,s3⟩
  .rintro σ G3 ⟨⟨v4,rfl⟩,s3⟩;refine⟨⟨s3 _ _ d0,JA _⟩,?_⟩;have s4:=s2.trans (s3.thaw B2.hp);have f5:=(s3.thaw B2.hp) _ _ f2;change RA _ (thaw B.p G3);generalize thaw B.p G3=G4 at s4 f5⊢;refine hx _ _ ?_;clear hx s3 s2 m1 m2 f1 f2 e1 e2 W2 B2 M2 n1 n2;have W2:=hW.same s4;have B2:=hB.same s4;have M2:=s4 _ _ hm;refine B8 λWx hx=>?_;rfl';refine i9 B2.at_.tup ?_;refine Q3 B2.hq (λRv o5=>?_);refine K6 (n:=B.kvs.length) (λi σ H'=>(∃v4 v5,σ=[some (.ref W.a),some (.ref B.a),some (.ref m),some (.ref lh),v4,v5])/\Same (z7 B.q o5 B.kvs G4) H') ⟨⟨_,_,rfl⟩,Same.refl _⟩ (λi σ H' hi hp=>⟨hp.2 _ _ d0,hi⟩) ?_ ?_
   .rintro i v σ G5' G5 hi ⟨⟨v4,v5,rfl⟩,s5⟩ ⟨rfl,kv,f_,rfl⟩ _ _;have R_:=(K5 (o:=o5) B2.hq).trans s5.le;have B5:=B2.at_.mono R_;have W5:=W2.at_.mono R_;have M5:Rd G5 m (.dK (g5 fx)):=R_.dic (.inl M2);have wq5:G5 W.q=some (.dK W.kvs):=s5 _ _ (ju nq W2.hq);obtain⟨x,QN,ex,bt,ebt,ZX⟩:=B5.ts.get f_;have D_:=JM f_;have o_:=JM QN;obtain⟨kk,QD⟩:=kv;have N':kk=Sum.inr x.1:=ex;have QF:QD= .ref bt:=ebt;subst N' QF;obtain⟨x0,kd,eb,ee⟩:=x;rfl';refine N6 (E1 (k:=Sum.inr x0) M5) ?_;rw[J3];rfl';refine N2 (λhb=>?_) (λhb=>?_)
    .have hu:x0∉fx.map (·.1):=by simpa using hb
     have he:=hends _ o_ hu;have hq:DGet G5 B.q (.str x0) (some (.ref bt)):=by have z:=E1 (k:=Sum.inr x0) B5.ties;rw[aG (kv:=(Sum.inr x0,.ref bt)) Rv D_] at z;exact z
     refine B8 λZT hx4=>?_;rfl';refine i9 B5.tup ?_;rfl';refine k8 (v:= .ref bt) hq ?_;rfl';refine bx (v:= .str kd) ZX (F0 (j:=0) rfl) ?_;rfl';refine i9 B5.tup ?_;rfl';refine k8 (v:= .ref bt) hq ?_;rfl';refine bx (v:= .str eb) ZX (F0 (j:=1) rfl) ?_;refine zf M5 ⟨_,L5 Pw (oC Pw he.1)⟩ ?_;rfl';refine i9 B5.tup ?_;rfl';refine k8 (v:= .ref bt) hq ?_;rfl';refine bx (v:= .str ee) ZX (F0 (j:=2) rfl) ?_;refine zf M5 ⟨_,L5 Pw (oC Pw he.2)⟩ ?_;rfl';refine⟨d8 (by simp),λl6 n6=>?_⟩;obtain⟨G6,e6,f6,m6,_⟩:=b9 (o:= .tup (Z5 (kd,i7 (g5 fx) eb,i7 (g5 fx) ee))) n6;change O8 5 _ _ (p5 G5 l6 (.tup (Z5 (kd,i7 (g5 fx) eb,i7 (g5 fx) ee)))) _;rw[e6];rfl';refine hx4 [some (.ref W.a),some (.ref B.a),some (.ref m),some (.ref lh),some (.str x0),some (.ref l6)] _ ?_;clear hx4;have ZY:=m6 _ _ wq5;have W6:=W5.mono m6.le;rfl';refine i9 W6.tup ?_;refine Q3 ZY (λZs o7=>?_);refine z8 (n:=W.kvs.length) (λj out H'=>Same (z7 W.q o7 W.kvs G6) H'/\out.length<=j/\∀y∈W.W.ts.take j,y.2=(kd,i7 (g5 fx) eb,i7 (g5 fx) ee)->y.1∉fx.map (·.2)->out≠[]) ⟨Same.refl _,JA _,λy h=>by simp at h⟩ (λj out H' hj hp=>⟨hp.1 _ _ d0,hj⟩) ?_ ?_
     .rintro N j v out G7' G7 hj ⟨s7,ol,on⟩ ⟨rfl,kv,hkv',rfl⟩ hN';have Up:=(K5 (o:=o7) ZY).trans s7.le;have ZF:=R_.trans (m6.le.trans Up);have W7:=W6.mono Up;have h7:SqL K G7 lh _:=ZF.lst (SqL.of f5);obtain⟨y,hy,ey,bb,ebb,sb⟩:=W7.ts.get hkv';have ZZ:=JM hkv';obtain⟨kk',Z_⟩:=kv;have QR:kk'=Sum.inr y.1:=ey;have ebb':Z_= .ref bb:=ebb;subst QR ebb';obtain⟨y0,y1⟩:=y;have tk:W.W.ts.take (j+1)=W.W.ts.take j++[(y0,y1)]:=by rw[Kb,hy];rfl
      have ZW:j<=100:=by lia
      have t7:SqT K G7 l6 (Z5 (kd,i7 (g5 fx) eb,i7 (g5 fx) ee)):=Up.tup (SqT.of f6);rfl';refine⟨rfl,?_⟩;rfl';refine i9 W7.tup ?_;rfl';refine k8 (v:= .ref bb) (by have z:=E1 (k:=Sum.inr y0) W7.ties;rw[aG (kv:=(Sum.inr y0,.ref bb)) Zs ZZ] at z;exact z) ?_;rfl';refine lQ (pX sb t7 (gD _) (gD _) ?_);rw[qI];rfl';refine K4 (λb1=>?_) (λb1=>?_)
      .rfl';refine E2 h7 ?_;rfl';refine N2 (λb2=>?_) (λb2=>?_)
       .rfl';refine⟨d8 (by lia),hN' _ _ ⟨s7,by rw[JG,JO];lia,λy' K_ _ _=>by simp⟩⟩
       .refine hN' _ _ ⟨s7,by lia,λy' K_ q1 q2=>?_⟩;rw[tk] at K_;rcases JD.mp K_ with z|z
        .exact on y' z q1 q2
        .rw[JN.mp z] at q2;exact absurd b2 q2
      .refine hN' _ _ ⟨s7,by lia,λy' K_ q1 q2=>?_⟩;rw[tk] at K_;rcases JD.mp K_ with z|z
       .exact on y' z q1 q2
       .rw[JN.mp z] at q1;exact absurd q1 b1
     .rintro out G7 ⟨s7,ol,on⟩;rw[hWk,JK (JA _)] at on;refine⟨⟨s7 _ _ d0,JA _⟩,λD2 hD2=>⟨d8 (by lia),?_⟩⟩;have sM:=O1 ZY s7 hD2 (u:= .lst out);have fM:=Z3 s7 hD2 (u:= .lst out);generalize thaw W.q (p5 G7 D2 (.lst out))=G8 at sM fM⊢;rfl';refine⟨d8 (by simp),λl9 n9=>?_⟩;obtain⟨G9,e9,f9,m9,_⟩:=b9 (o:= .lst []) n9;rw[e9];refine⟨D2,l9,out,rfl,rfl,SqL.of (m9 _ _ fM),SqL.of f9,?_⟩;refine k _ _ (s4.trans ((s5.trans (m6.trans (sM.trans m9))).thaw B2.hq)) (λhf=> .inr ⟨_,o_,hu,λy hy q=>?_⟩);refine KZ λq2=>on y hy q q2 ?_;cases out with
      |nil=>rfl
      |cons _ _=>cases hf
    .rfl';walk_at "X";exact⟨⟨_,_,rfl⟩,s5⟩
   .rintro σ G5 ⟨⟨v4,v5,rfl⟩,s5⟩;refine⟨⟨s5 _ _ d0,JA _⟩,?_⟩;have s6:=s4.trans (s5.thaw B2.hq);change Wx _ (thaw B.q G5);generalize thaw B.q G5=G6 at s6⊢;refine hx _ _ ?_;rfl';exact k true _ s6 (λh=>nomatch h)
open Classical in
theorem zD {W B:B0}{fx:List (Str×Str)}(h:yf W B fx)(nk:(fx.map (·.1)).Nodup)(fin:∀x∈fx,x.1∈b7 B)(he:∀x∈B.ts,x.1∉fx.map (·.1)->x.2.2.1∈fx.map (·.1)/\x.2.2.2∈fx.map (·.1)):O7 B W fx=[]:=by
 refine List.eq_nil_iff_forall_not_mem.mpr λrow hr=>?_;unfold O7 iW at hr;obtain⟨_,hr⟩:=JH.mp hr;rw[Ko] at hr;obtain⟨f,d⟩:=hr;have d':∀x∈fx,i7 (g5 ((vT B++vo B).zip row)) x.1=x.2:=d;have out:∀w∈b7 B,w∉fx.map (·.1)->i7 (g5 ((vT B++vo B).zip row)) w∉fx.map (·.2):=λw hw nw z=>by
  obtain⟨x,hx,e⟩:=Jz.mp z;have e2:=Ci f.nd (fin x hx) hw ((d' x hx).trans e);exact nw (e2▸Jz.mpr ⟨x,hx,rfl⟩)
 rcases h with⟨x,hx,nx,hy⟩|⟨x,hx,nx,hy⟩
 .exact out x.1 (JB _ (Jz.mpr ⟨x,hx,rfl⟩)) nx (hy _ (f.pts x hx) rfl)
 .have key:∀n∈fx.map (·.1),i7 (g5 ((vT B++vo B).zip row)) n=i7 (g5 fx) n:=λn hn=>d' _ (oC nk hn);refine out x.1 (JE _ (Jz.mpr ⟨x,hx,rfl⟩)) nx (hy _ (f.ts x hx) ?_);have:=he x hx nx;show(x.2.1,i7 _ x.2.2.1,i7 _ x.2.2.2)=_;rw[key _ this.1,key _ this.2]
theorem iB {L B:B0}{fx:List (Str×Str)}(h:vP L B)(hk:∀n,n∈fx.map (·.1)↔n∈b7 L):(∀x∈fx,x.1∈b7 B)/\∀x∈B.ts,x.1∉fx.map (·.1)->x.2.2.1∈fx.map (·.1)/\x.2.2.2∈fx.map (·.1):=by
 have j_:∀x∈fx,x.1∈b7 L:=λx hx=>(hk _).mp (Jz.mpr ⟨x,hx,rfl⟩);have old:∀x∈L.ts,x.1∈fx.map (·.1):=λx hx=>(hk _).mpr (JE _ (Jz.mpr ⟨x,hx,rfl⟩));rcases h with rfl|⟨w,kd,nw,rfl⟩|⟨w,kd,o1,o2,nw,h1,h2,rfl⟩
 .exact⟨j_,λx hx n=>absurd (old x hx) n⟩
 .refine⟨λx hx=>?_,λx hx n=>absurd (old x hx) n⟩;have z:=j_ x hx;unfold b7 at z⊢;rcases JD.mp z with z|z
  .exact JB _ (by rw[JF];exact JB _ z)
  .exact JE _ z
 .refine⟨λx hx=>?_,λx hx n=>?_⟩
  .have z:=j_ x hx;unfold b7 at z⊢;rcases JD.mp z with z|z
   .exact JB _ z
   .exact JE _ (by rw[JF];exact JB _ z)
  .rcases JD.mp hx with z|z
   .exact absurd (old x z) n
   .rw[JN.mp z];exact⟨(hk _).mpr (JB _ h1),(hk _).mpr (JB _ h2)⟩
def bN (K:Qe):Sp:=λvs H Q _=>∃(st r m f bl:Addr) (L R:Sd) (fx fr:List (Str×Str)) (bs:List Sd),vs=[.ref st]/\StI K H st r m f bl L R (g5 fx) (g5 fr) bs/\(fx.map (·.1)).Nodup/\(fr.map (·.1)).Nodup/\(∀x∈fr,x.1∉fx.map (·.1))/\fx.length+fr.length<=100/\
 ∀(p_ r' m' f' PZ:Addr) (H':Hp),Same H H'->StI K H' p_ r' m' f' PZ R L (g5 (fx.filter (λx=>decide (x.1∈b7 R.W))++fr)) (g5 (fx.filter λx=>!decide (x.1∈b7 R.W))) []->H m'=none->H f'=none->H PZ=none->Q (.ref p_) H'
abbrev iE (P:Program)(w:World)(K:Qe)(mg:Str->Option Value)(base:Heap):Prop:=V9 P w K mg base E7 1 "_law_back" ["_law_step_here"] [] (bN K)
theorem nO {f:Addr}{fd:FuncData}(T:Txt K mg)(F:Fun K "_law_back" "_law_back" dD f fd):C0 P w K mg base E7 1 f fd ["_law_step_here"] (bN K):=by
 walk_at "#sc__law_back"
 .obtain⟨st,r,m,f,bl,L,R,fx,fr,bs,rfl,_⟩:=h;rfl
 .obtain⟨st,r,m,f,bl,L,R,fx,fr,bs,rfl,hT,nx,nr,dj,hl,k⟩:=h;walk_at "@sc__law_back 7=00yb19b29b39z44M45M7vwr02g69d'3bQ AToI6e112noI6e112ndCc2060406dCc20605067QN#~a~9~80453ajpjp11i11Ek45"
  refine B8 λUH hx=>?_;rfl';refine F5 hT.tup rfl ?_;show jV (O8 1) (jV (O8 2) (jV (O8 3) Az)) [V.ref r,.ref m,.ref f] _ _ _;rfl';refine hx [some (.ref st),some (.ref r),some (.ref m),some (.ref f),none,none,none] _ ?_;clear hx;refine B8 λRA hx=>?_;rfl';intro dt ndt;obtain⟨H1,e1,f1,m1,_⟩:=b9 (o:= .dK []) ndt;rw[e1];rfl';refine hx [some (.ref st),some (.ref r),some (.ref m),some (.ref f),some (.ref dt),none,none] _ ?_;clear hx;refine B8 λRA hx=>?_;rfl';intro dd ndd;obtain⟨H2,e2,f2,m2,_⟩:=b9 (o:= .dK []) ndd;rw[e2];have s2:=m1.trans m2;have Uq:H dd=none:=m1.free ndd;have ntd:dt≠dd:=b5 f1 ndd;rfl';refine hx [some (.ref st),some (.ref r),some (.ref m),some (.ref f),some (.ref dt),some (.ref dd),none] _ ?_;clear hx;refine B8 λRA hx=>?_;rfl';have htm:dt≠m:=(b5 hT.m ndt).symm;have hdm:dd≠m:=(b5 hT.m Uq).symm;refine Q3 (s2 _ _ hT.m) (λUS o3=>?_);have gt0:z7 m o3 (g5 fx) H dt=none:=by unfold z7;rw[d6 htm];exact ndt
  have gd0:z7 m o3 (g5 fx) H dd=none:=by unfold z7;rw[d6 hdm];exact Uq
  have sP:Same (z7 m o3 (g5 fx) H) (z7 m o3 (g5 fx) H2):=λb u e=>by
   unfold z7 at e⊢;by_cases hb:b=m
   .subst hb;rw[d0] at e⊢;exact e
   .rw[d6 hb] at e⊢;exact s2 _ _ e
  refine sf (n:=(g5 fx).length) (λi σ H'=>(∃v6,σ=[some (.ref st),some (.ref r),some (.ref m),some (.ref f),some (.ref dt),some (.ref dd),v6])/\Same (z7 m o3 (g5 fx) H) H'/\H' dt=some (.dK (g5 ((fx.take i).filter λx=>decide (x.1∈b7 R.W))))/\H' dd=some (.dK (g5 ((fx.take i).filter λx=>!decide (x.1∈b7 R.W))))) ⟨⟨_,rfl⟩,sP,ju htm (m2 _ _ f1),ju hdm f2⟩ (λi σ H' hi hp=>⟨hp.2.1 _ _ d0,hi⟩) ?_ ?_
  .rintro i v σ H3' H3 hi ⟨⟨v6,rfl⟩,s3,t3,d3⟩ ⟨rfl,kv,f_,rfl⟩;obtain⟨x,QN,rfl⟩:=V0 f_;have o_:=JM QN;have Pk:=(K5 (o:=o3) hT.m).trans s3.le;have R3:=hT.r.r.at_.mono Pk;have r3:=Pk.tup hT.r.tup;have M3:Rd H3 m (.dK (g5 fx)):=Pk.dic (.inl hT.m);have e7:fx.take (i+1)=fx.take i++[x]:=by rw[Kb,QN];rfl
   have PJ:x.1∉(fx.take i).map (·.1):=λz=>by
    have z2:((fx.take (i+1)).map (·.1)).Nodup:=nx.sublist ((KO _ _).map _);rw[e7,w4] at z2;exact(JQ.mp z2).2.2 _ z _ (by simp) rfl
   have Ui:∀p:Str×Str->Bool,x.1∉((fx.take i).filter p).map (·.1):=λp z=>PJ ((Ke.map _).subset z);have J':∀p:Str×Str->Bool,((fx.take i).filter p).length<=100:=λp=>Kg (JJ _ _) (by rw[JP];lia);have Q_:=J' λx=>decide (x.1∈b7 R.W);have Rj:=J' λx=>!decide (x.1∈b7 R.W);have yes:x.1∈b7 R.W->qO P w (.ref dt) (.str x.1) (.str x.2) H3 λH'=>(∃v6,[some (V.ref st),some (.ref r),some (.ref m),some (.ref f),some (.ref dt),some (.ref dd),some (.str x.1)]=[some (.ref st),some (.ref r),some (.ref m),some (.ref f),some (.ref dt),some (.ref dd),v6])/\Same (z7 m o3 (g5 fx) H) H'/\H' dt=some (.dK (g5 ((fx.take (i+1)).filter λx=>decide (x.1∈b7 R.W))))/\H' dd=some (.dK (g5 ((fx.take (i+1)).filter λx=>!decide (x.1∈b7 R.W)))):=λj_=>by
    refine O9 (z6 (k:=Sum.inr x.1) t3 (d8 (by rw[j7];lia)) ?_);refine⟨⟨_,rfl⟩,D5 s3 gt0,?_,?_⟩
    .rw[d0,e7,Ka,Ki (by simp [j_]),KD];exact KQ (λz=>some (HO.dK z)) (X3 (kd:=x.2) (Ui _))
    .rw[d6 ntd.symm,d3,e7,Ka,Kp (by simp [j_]),KD,Ku]
   rfl';refine i9 r3 ?_;rfl';refine j3 R3.tup ?_;refine V2 (E1 (k:=Sum.inr x.1) R3.pts) ?_;rw[J3];rfl';have ixm:DGet H3 m (.str x.1) (some (.str x.2)):=by have z:=E1 (k:=Sum.inr x.1) M3;rw[L5 (k:=x.2) nx o_] at z;exact z
   refine K4 (λc1=>?_) (λc1=>?_)
   .rfl';refine k8 ixm ?_;rfl';exact yes (JB _ c1)
   .rfl';refine i9 r3 ?_;rfl';refine i9 R3.tup ?_;refine V2 (E1 (k:=Sum.inr x.1) R3.ties) ?_;rw[U4 R3.ts];rfl';refine K4 (λc2=>?_) (λc2=>?_)
    .rfl';refine k8 ixm ?_;rfl';exact yes (JE _ c2)
    .have j_:x.1∉b7 R.W:=λz=>(JD.mp z).elim c1 c2;rfl';refine k8 ixm ?_;rfl';refine O9 (z6 (k:=Sum.inr x.1) d3 (d8 (by rw[j7];lia)) ?_);walk_at "X";refine⟨⟨_,rfl⟩,D5 s3 gd0,?_,?_⟩
     .rw[d6 ntd,t3,e7,Ka,Kp (by simp [j_]),KD,Ku]
     .rw[d0,e7,Ka,Ki (by simp [j_]),KD];exact KQ (λz=>some (HO.dK z)) (X3 (kd:=x.2) (Ui _))
  .rintro σ H3 ⟨⟨v6,rfl⟩,s3,t3,d3⟩;refine⟨⟨s3 _ _ d0,JA _⟩,?_⟩;rw[j7,JK (JA _)] at t3 d3;have s4:=s3.thaw hT.m;have t4:thaw m H3 dt=_:=(O0 htm).trans t3;have d4:thaw m H3 dd=_:=(O0 hdm).trans d3;change RA _ (thaw m H3);generalize thaw m H3=G at s4 t4 d4⊢;refine hx _ _ ?_;clear hx;have T4:=hT.same s4;refine B8 λRA hx=>?_;rfl';have hA:=JJ (λx:Str×Str=>decide (x.1∈b7 R.W)) fx;refine⟨.inr (.inr (.inl ⟨rfl,.inl ⟨_,t4⟩⟩)),?_⟩;rfl';refine⟨dt,f,_,_,rfl,rfl,t4,.inl T4.f,(b5 hT.f ndt).symm,by rw[j7,j7];lia,?_⟩;rw[iw (by
    rw[show g5 (fx.filter λx=>decide (x.1∈b7 R.W))++g5 fr=g5 ((fx.filter λx=>decide (x.1∈b7 R.W))++fr) by unfold g5;rw[JF]];refine P8 ?_;rw[JF];refine JQ.mpr ⟨nx.sublist (Ke.map _),nr,λa ha b hb e=>?_⟩;subst e;obtain⟨y,hy,rfl⟩:=Jz.mp hb;exact dj y hy ((Ke.map _).subset ha)),show g5 (fx.filter λx=>decide (x.1∈b7 R.W))++g5 fr=g5 ((fx.filter λx=>decide (x.1∈b7 R.W))++fr) by unfold g5;rw[JF]]
   have s5:Same H (p5 G dt (.dK (g5 ((fx.filter λx=>decide (x.1∈b7 R.W))++fr)))):=D5 s4 ndt;have t5:p5 G dt (.dK (g5 ((fx.filter λx=>decide (x.1∈b7 R.W))++fr))) dt=_:=d0;have d5:p5 G dt (.dK (g5 ((fx.filter λx=>decide (x.1∈b7 R.W))++fr))) dd=_:=(d6 ntd.symm).trans d4;generalize p5 G dt (.dK (g5 ((fx.filter λx=>decide (x.1∈b7 R.W))++fr)))=G5 at s5 t5 d5⊢;rfl';refine hx _ _ ?_;clear hx;have T5:=hT.same s5;rfl';refine i9 T5.r.tup ?_;rfl';refine j3 T5.r.tup ?_;rfl';refine⟨d8 (by simp),λPZ nbl=>?_⟩;obtain⟨G6,e6,f6,m6,_⟩:=b9 (o:= .lst []) nbl;rw[e6];rfl';refine⟨d8 (by simp),λr' nr'=>?_⟩;obtain⟨G7,e7,f7,m7,_⟩:=b9 (o:= .tup [.ref R.a,.ref L.a,.ref PZ]) nr';change pT _ _ _ (p5 G6 r' (.tup [.ref R.a,.ref L.a,.ref PZ])) _;rw[e7];rfl';refine⟨d8 (by simp),λp_ nst=>?_⟩;obtain⟨G8,e8,f8,m8,_⟩:=b9 (o:= .tup [.ref r',.ref dt,.ref dd]) nst;rw[e8];have s8:=m6.trans (m7.trans m8);have T8:=T5.same s8;exact k p_ r' dt dd PZ _ (s5.trans s8) ⟨SqT.of f8,⟨m8.tup (SqT.of f7),T8.r.r,T8.r.l,(m7.trans m8).seq (SqL.of f6),λb h=>nomatch h⟩,s8 _ _ t5,s8 _ _ d5,(m7.trans m8) _ _ f6⟩ ndt Uq (s5.free nbl)
theorem cu {l:List Str}{g:Str->Str}{n:Str}(nd:l.Nodup)(h:n∈l):i7 (g5 (l.map λn=>(n,g n))) n=g n:=by
 refine K7 ?_ (Jz.mpr ⟨n,h,rfl⟩);rw[Km,show((λx:Str×Str=>x.1)∘λn=>(n,g n))=id from rfl,Pb];exact nd
theorem oN {L R:B0}{km kf:List (j0×V)}{t u:List Str}{n:Str}(nt:t.Nodup)(ht:∀x,x∈t↔x∈b7 R)(nu:u.Nodup)(hu:∀x,x∈u↔x∈b7 L)(hn:n∈b7 L):bh R (g5 (t.map λn=>(n,bh L km kf n))) (g5 ((u.filter λn=>!decide (n∈b7 R)).map λn=>(n,i7 km n))) n=i7 km n:=by
 unfold bh;by_cases z:n∈b7 R
 .rw[if_pos z];have:=cu (g:=bh L km kf) nt ((ht n).mpr z);unfold bh at this;rw[this,if_pos hn]
 .rw[if_neg z];exact cu (g:=i7 km) (nu.sublist Ke) (JH.mpr ⟨(hu n).mpr hn,by simp [z]⟩)
theorem vg {L R:B0}{km kf:List (j0×V)}{t:List Str}(nt:t.Nodup)(ht:∀x,x∈t↔x∈b7 R):Z1 R L (g5 (t.map λn=>(n,bh L km kf n)))=((b7 R).filter λn=>!decide (n∈b7 L)).map (i7 kf):=by
 unfold Z1;refine KA λn hn=>?_;obtain⟨h1,h2⟩:=JH.mp hn;have h3:n∉b7 L:=by simpa using h2
 rw[cu (g:=bh L km kf) nt ((ht n).mpr h1)];unfold bh;rw[if_neg h3]
theorem zT {L R W:B0}{km kf:List (j0×V)}{t:List Str}(nt:t.Nodup)(ht:t.Perm (b7 R))(nd:((b7 R).map (bh L km kf)).Nodup)(he:∀x∈R.ts,x.2.2.1∈R.pts.map (·.1)/\x.2.2.2∈R.pts.map (·.1))
  (hp:∀x∈(K3 (bh L km kf) R).pts,x∈W.pts) (hs:∀x∈(K3 (bh L km kf) R).ts,x∈W.ts):ei R W (g5 (t.map λn=>(n,bh L km kf n))):=by
 have g:∀n∈b7 R,i7 (g5 (t.map λn=>(n,bh L km kf n))) n=bh L km kf n:=λn h=>cu nt (ht.mem_iff.mpr h)
 refine⟨by rw[j7,Jx];exact ht.length_eq,λn hn=>?_,?_,λx hx=>?_,λx hx=>?_⟩
 .refine⟨bh L km kf n,L5 ?_ (Jz.mpr ⟨n,ht.mem_iff.mpr hn,rfl⟩)⟩
  rw[Km,show((λx:Str×Str=>x.1)∘λn=>(n,bh L km kf n))=id from rfl,Pb]
  exact nt
 .rw[KA g];exact nd
 .rw[g _ (JB _ (Jz.mpr ⟨x,hx,rfl⟩))]
  exact hp _ (Jz.mpr ⟨x,hx,rfl⟩)
 .rw[g _ (JE _ (Jz.mpr ⟨x,hx,rfl⟩)),g _ (JB _ (he x hx).1),g _ (JB _ (he x hx).2)]
  exact hs _ (Jz.mpr ⟨x,hx,rfl⟩)
theorem ji {β:Type}{A B:List (Str×β)}(ha:(A.map (·.1)).Nodup)(hb:(B.map (·.1)).Nodup):(((A.filter λx=>!decide (x.1∈B.map (·.1)))++B).map (·.1)).Nodup:=by grind
theorem bU {β:Type}{A:List (Str×β)}(h:(A.map (·.1)).Nodup):A.Nodup:=by induction A with grind
theorem nX {β:Type}{A:List (Str×β)}(h:(A.map (·.1)).Nodup){x y:Str×β}(hx:x∈A)(hy:y∈A)(e:x.1=y.1):x=y:=by induction A with grind
theorem vR {β:Type}{A RL RR:List (Str×β)}{gs Uh:List Str}(WD:(A.map (·.1)).Nodup)(ndL:(RL.map (·.1)).Nodup)(ndR:(RR.map (·.1)).Nodup)(h1:∀x∈RL,x∈A)
  (h2:∀n∈gs,n∈A.map (·.1)->n∈RL.map (·.1)) (h3:∀n∈RR.map (·.1),n∈A.map (·.1)->n∈RL.map (·.1)) (h4:∀n∈Uh,n∉A.map (·.1)) (h5:∀n∈RR.map (·.1),n∈Uh\/n∈RL.map (·.1)):
  ((((((A.filter λx=>!decide (x.1∈gs)).filter λx=>!decide (x.1∈RR.map (·.1)))++RR).filter λx=>!decide (x.1∈Uh)).filter λx=>!decide (x.1∈RL.map (·.1)))++RL).Perm A:=by
 have nA:=bU WD
 have nU:=ji (WD.sublist ((Ke (p:=λx:Str×β=>!decide (x.1∈gs))).map _)) ndR
 have nV:=ji (nU.sublist ((Ke (p:=λx:Str×β=>!decide (x.1∈Uh))).map _)) ndL
 refine(LN (bU nV) nA).mpr λx=>?_
 simp only[JD,JH,KI,Kt]
 constructor
 .rintro(⟨⟨⟨⟨hx,_⟩,_⟩|hx,hg⟩,hl⟩|hx)
  .exact hx
  .rcases h5 x.1 (Jz.mpr ⟨x,hx,rfl⟩) with z|z
   .exact absurd z hg
   .exact absurd z hl
  .exact h1 x hx
 .intro hx
  have hn:x.1∈A.map (·.1):=Jz.mpr ⟨x,hx,rfl⟩
  by_cases hl:x.1∈RL.map (·.1)
  .refine .inr ?_
   obtain⟨y,hy,e⟩:=Jz.mp hl
   rw[←nX WD (h1 y hy) hx e];exact hy
  .exact .inl ⟨⟨.inl ⟨⟨hx,λz=>hl (h2 _ z hn)⟩,λz=>hl (h3 _ z hn)⟩,λz=>h4 _ z hn⟩,hl⟩
theorem xP {f:Str->Str}{l:List Str}(h:(l.map f).Nodup){a b:Str}(ha:a∈l)(hb:b∈l)(e:f a=f b):a=b:=by
 have z:=nX (A:=l.map λx=>(f x,x)) (x:=(f a,a)) (y:=(f b,b)) (by rw[Km];exact h) (Jz.mpr ⟨a,ha,rfl⟩) (Jz.mpr ⟨b,hb,rfl⟩) e;exact KQ Prod.snd z
abbrev wD (L:B0)(km kf:List (j0×V))(t:List Str):List (j0×V):=g5 (t.map λn=>(n,bh L km kf n))
abbrev xk (R:B0)(km:List (j0×V))(u:List Str):List (Str×Str):=(u.filter λn=>!decide (n∈b7 R)).map λn=>(n,i7 km n)
structure StW (W L R:B0) (km:List (j0×V)) (fr:List (Str×Str)):Prop where
 ok:Bc W L R km fr
 ag:∀n∈b7 L,n∈b7 R->Agree n L R
 ndW:(b7 W).Nodup
 ndL:(b7 L).Nodup
 ndR:(b7 R).Nodup
 eW:∀x∈W.ts,x.2.2.1∈W.pts.map (·.1)/\x.2.2.2∈W.pts.map (·.1)
 eL:∀x∈L.ts,x.2.2.1∈L.pts.map (·.1)/\x.2.2.2∈L.pts.map (·.1)
 eR:∀x∈R.ts,x.2.2.1∈R.pts.map (·.1)/\x.2.2.2∈R.pts.map (·.1)
 nm:∀n∈b7 W,V4 n=true
 lL:(b7 L).length<=8
 lR:(b7 R).length<=8
section
variable {W L R:B0} {km:List (j0×V)} {fr:List (Str×Str)}
theorem StW.inP (h:StW W L R km fr){n:Str}(hn:n∈L.pts.map (·.1)):i7 km n∈W.pts.map (·.1):=by
 obtain⟨x,hx,rfl⟩:=Jz.mp hn;exact Jz.mpr ⟨_,h.ok.fit.pts x hx,rfl⟩
theorem StW.inT (h:StW W L R km fr){n:Str}(hn:n∈L.ts.map (·.1)):i7 km n∈W.ts.map (·.1):=by
 obtain⟨x,hx,rfl⟩:=Jz.mp hn;exact Jz.mpr ⟨_,h.ok.fit.ts x hx,rfl⟩
theorem StW.inW (h:StW W L R km fr){n:Str}(hn:n∈b7 L):i7 km n∈b7 W:=(JD.mp hn).elim (λz=>JB _ (h.inP z)) λz=>JE _ (h.inT z)
theorem StW.frsh (h:StW W L R km fr){n:Str}(h1:n∈b7 R)(h2:n∉b7 L):i7 (g5 fr) n∉b7 W:=h.ok.fo.no _ (h.ok.fo.txt h.ndR (h.ok.fo.mem.mpr ⟨h1,h2⟩)).2
theorem StW.agP (h:StW W L R km fr){n:Str}(hn:n∈R.pts.map (·.1))(hL:n∈b7 L):n∈L.pts.map (·.1):=by
 obtain⟨x,hx,rfl⟩:=Jz.mp hn;exact Jz.mpr ⟨x,((h.ag _ hL (JB _ hn)).p x.2).mpr hx,rfl⟩
theorem StW.agT (h:StW W L R km fr){n:Str}(hn:n∈R.ts.map (·.1))(hL:n∈b7 L):n∈L.ts.map (·.1):=by
 obtain⟨x,hx,rfl⟩:=Jz.mp hn;exact Jz.mpr ⟨x,((h.ag _ hL (JE _ hn)).t x.2).mpr hx,rfl⟩
theorem hV {W:B0}(nd:(b7 W).Nodup){n:Str}(h1:n∈W.pts.map (·.1))(h2:n∈W.ts.map (·.1)):False:=(JQ.mp nd).2.2 n h1 n h2 rfl
theorem StW.bhP (h:StW W L R km fr){n:Str}(hn:n∈R.pts.map (·.1))(hT:bh L km (g5 fr) n∈W.ts.map (·.1)):False:=by
 by_cases z:n∈b7 L
 .rw[ay _ _ z] at hT;exact hV h.ndW (h.inP (h.agP hn z)) hT
 .rw[az _ _ z] at hT;exact h.frsh (JB _ hn) z (JE _ hT)
theorem StW.bhT (h:StW W L R km fr){n:Str}(hn:n∈R.ts.map (·.1))(hT:bh L km (g5 fr) n∈W.pts.map (·.1)):False:=by
 by_cases z:n∈b7 L
 .rw[ay _ _ z] at hT;exact hV h.ndW hT (h.inT (h.agT hn z))
 .rw[az _ _ z] at hT;exact h.frsh (JE _ hn) z (JB _ hT)
abbrev Hn (L R:B0)(fr:List (Str×Str)):List Str:=((b7 R).filter λn=>!decide (n∈b7 L)).map (i7 (g5 fr))
theorem StW.gsNo (h:StW W L R km fr){n:Str}(hn:n∈Hn L R fr):n∉b7 W:=by
 obtain⟨m,hm,rfl⟩:=Jz.mp hn;obtain⟨h1,h2⟩:=JH.mp hm;exact h.frsh h1 (by simpa using h2)
theorem StW.part (h:StW W L R km fr){β:Type}{A RL RR:List (Str×β)}{LP RP:List Str}(hA:∀n∈A.map (·.1),n∈b7 W)(WD:(A.map (·.1)).Nodup)(eL:RL.map (·.1)=LP.map (i7 km))(eR:RR.map (·.1)=RP.map (bh L km (g5 fr)))(sR:∀n∈RP,n∈b7 R)(nL:(RL.map (·.1)).Nodup)(nR:(RR.map (·.1)).Nodup)(h1:∀x∈RL,x∈A)
  (j_:∀m∈b7 L,i7 km m∈A.map (·.1)->m∈LP) (hag:∀m∈RP,m∈b7 L->m∈LP):
  ((((((A.filter λx=>!decide (x.1∈Z1 L R km)).filter λx=>!decide (x.1∈RR.map (·.1)))++RR).filter λx=>!decide (x.1∈Hn L R fr)).filter λx=>!decide (x.1∈RL.map (·.1)))++RL).Perm A:=by
 refine vR WD nL nR h1 (λn hn ha=>?_) (λn hn ha=>?_) (λn hn z=>h.gsNo hn (hA _ z)) λn hn=>?_
 .obtain⟨m,hm,rfl⟩:=Jz.mp hn
  rw[eL];exact Jz.mpr ⟨m,j_ m (JH.mp hm).1 ha,rfl⟩
 .rw[eR] at hn
  obtain⟨m,hm,rfl⟩:=Jz.mp hn
  by_cases z:m∈b7 L
  .rw[ay _ _ z,eL];exact Jz.mpr ⟨m,hag m hm z,rfl⟩
  .rw[az _ _ z] at ha;exact absurd (hA _ ha) (h.frsh (sR m hm) z)
 .rw[eR] at hn
  obtain⟨m,hm,rfl⟩:=Jz.mp hn
  by_cases z:m∈b7 L
  .rw[ay _ _ z,eL];exact .inr (Jz.mpr ⟨m,hag m hm z,rfl⟩)
  .rw[az _ _ z];exact .inl (Jz.mpr ⟨m,JH.mpr ⟨sR m hm,by simp [z]⟩,rfl⟩)
theorem jq (f:Str->Str)(W:B0):(K3 f W).pts.map (·.1)=(W.pts.map (·.1)).map f/\(K3 f W).ts.map (·.1)=(W.ts.map (·.1)).map f:=by
 unfold K3;exact⟨by rw[Km,Km];rfl,by rw[Km,Km];rfl⟩
theorem StW.again (h:StW W L R km fr){t u:List Str}(ht:t.Perm (b7 R))(hu:u.Perm (b7 L)):(F8 (F8 W L R km (g5 fr)) R L (wD L km (g5 fr) t) (g5 (xk R km u))).pts.Perm W.pts/\(F8 (F8 W L R km (g5 fr)) R L (wD L km (g5 fr) t) (g5 (xk R km u))).ts.Perm W.ts:=by
 have nt:=ht.nodup_iff.mpr h.ndR;have nu:=hu.nodup_iff.mpr h.ndL;have eg:=vg (L:=L) (km:=km) (kf:=g5 fr) nt λx=>ht.mem_iff;have er:=yj (f:=bh R (wD L km (g5 fr) t) (g5 (xk R km u))) (g:=i7 km) (λn hn=>oN nt (λx=>ht.mem_iff) nu (λx=>hu.mem_iff) hn) h.eL;have e0:F8 (F8 W L R km (g5 fr)) R L (wD L km (g5 fr) t) (g5 (xk R km u))=BE (ao (Hn L R fr) (BE (ao (Z1 L R km) W) (K3 (bh L km (g5 fr)) R))) (K3 (i7 km) L):=by
  unfold F8;rw[eg,er]
 rw[e0];have nl:=jn h.ok.fit.nd;have nr:=jn h.ok.nd;constructor
 .refine h.part (λn hn=>JB _ hn) (A6 h.ndW) (jq _ _).1 (jq _ _).1 (λn hn=>JB _ hn) nl.1 nr.1 (λx hx=>?_) (λm hm ha=>?_) λm hm hL=>h.agP hm hL
  .obtain⟨y,hy,rfl⟩:=Jz.mp hx;exact h.ok.fit.pts y hy
  .exact(JD.mp hm).elim id λz=>(hV h.ndW ha (h.inT z)).elim
 .refine h.part (λn hn=>JE _ hn) (K2 h.ndW) (jq _ _).2 (jq _ _).2 (λn hn=>JE _ hn) nl.2 nr.2 (λx hx=>?_) (λm hm ha=>?_) λm hm hL=>h.agT hm hL
  .obtain⟨y,hy,rfl⟩:=Jz.mp hx;exact h.ok.fit.ts y hy
  .exact(JD.mp hm).elim (λz=>(hV h.ndW (h.inP z) ha).elim) id
theorem mem_doneP {kf:List (j0×V)}{x:Str×Str}:x∈(F8 W L R km kf).pts↔((x∈W.pts/\x.1∉Z1 L R km)/\x.1∉(K3 (bh L km kf) R).pts.map (·.1))\/x∈(K3 (bh L km kf) R).pts:=by
 show x∈((W.pts.filter λx=>!decide (x.1∈Z1 L R km)).filter λx=>!decide (x.1∈(K3 (bh L km kf) R).pts.map (·.1)))++(K3 (bh L km kf) R).pts↔_;rw[oW,JH,KI,Kt]
theorem mem_doneT {kf:List (j0×V)}{x:Str×M8}:x∈(F8 W L R km kf).ts↔((x∈W.ts/\x.1∉Z1 L R km)/\x.1∉(K3 (bh L km kf) R).ts.map (·.1))\/x∈(K3 (bh L km kf) R).ts:=by
 show x∈((W.ts.filter λx=>!decide (x.1∈Z1 L R km)).filter λx=>!decide (x.1∈(K3 (bh L km kf) R).ts.map (·.1)))++(K3 (bh L km kf) R).ts↔_;rw[oW,JH,KI,Kt]
theorem qf {kf:List (j0×V)}{n:Str}(h:n∈(F8 W L R km kf).pts.map (·.1)):(n∈W.pts.map (·.1)/\n∉Z1 L R km)\/∃m∈R.pts.map (·.1),n=bh L km kf m:=by
 obtain⟨x,hx,rfl⟩:=Jz.mp h;rcases mem_doneP.mp hx with⟨z,_⟩|z
 .exact .inl ⟨Jz.mpr ⟨x,z.1,rfl⟩,z.2⟩
 .obtain⟨y,hy,rfl⟩:=Jz.mp z;exact .inr ⟨y.1,Jz.mpr ⟨y,hy,rfl⟩,rfl⟩
theorem qR {kf:List (j0×V)}{n:Str}(h:n∈(F8 W L R km kf).ts.map (·.1)):(n∈W.ts.map (·.1)/\n∉Z1 L R km)\/∃m∈R.ts.map (·.1),n=bh L km kf m:=by
 obtain⟨x,hx,rfl⟩:=Jz.mp h;rcases mem_doneT.mp hx with⟨z,_⟩|z
 .exact .inl ⟨Jz.mpr ⟨x,z.1,rfl⟩,z.2⟩
 .obtain⟨y,hy,rfl⟩:=Jz.mp z;exact .inr ⟨y.1,Jz.mpr ⟨y,hy,rfl⟩,rfl⟩
theorem ve {kf:List (j0×V)}{n:Str}(h:n∈b7 (F8 W L R km kf)):(n∈b7 W/\n∉Z1 L R km)\/∃m∈b7 R,n=bh L km kf m:=by grind [b7,F8,Z1,bh,qf,qR]
theorem StW.ndD (h:StW W L R km fr):(b7 (F8 W L R km (g5 fr))).Nodup:=by
 have nr:=jn h.ok.nd;refine JQ.mpr ⟨ji ((A6 h.ndW).sublist (Ke.map _)) nr.1,ji ((K2 h.ndW).sublist (Ke.map _)) nr.2,λa h1 b h2 e=>?_⟩;subst e;rcases qf h1 with⟨z1,_⟩|⟨m1,z1,e1⟩<;>rcases qR h2 with⟨z2,_⟩|⟨m2,z2,e2⟩
 .exact hV h.ndW z1 z2
 .rw[e2] at z1;exact h.bhT z2 z1
 .rw[e1] at z2;exact h.bhP z1 z2
 .rw[e1] at e2;have:=xP h.ok.nd (JB _ z1) (JE _ z2) e2;rw[this] at z1;exact hV h.ndR z1 z2
theorem StW.eD (h:StW W L R km fr):∀x∈(F8 W L R km (g5 fr)).ts,x.2.2.1∈(F8 W L R km (g5 fr)).pts.map (·.1)/\x.2.2.2∈(F8 W L R km (g5 fr)).pts.map (·.1):=by
 have inR:∀n∈R.pts.map (·.1),bh L km (g5 fr) n∈(F8 W L R km (g5 fr)).pts.map (·.1):=λn hn=>by
  obtain⟨y,hy,rfl⟩:=Jz.mp hn;exact Jz.mpr ⟨_,mem_doneP.mpr (.inr (Jz.mpr ⟨y,hy,rfl⟩)),rfl⟩
 have inS:∀n∈W.pts.map (·.1),n∉Z1 L R km->n∈(F8 W L R km (g5 fr)).pts.map (·.1):=λn hn hg=>by
  by_cases z:n∈(K3 (bh L km (g5 fr)) R).pts.map (·.1)
  .obtain⟨y,hy,e⟩:=Jz.mp z;exact Jz.mpr ⟨y,mem_doneP.mpr (.inr hy),e⟩
  .obtain⟨y,hy,rfl⟩:=Jz.mp hn;exact Jz.mpr ⟨y,mem_doneP.mpr (.inl ⟨⟨hy,hg⟩,z⟩),rfl⟩
 intro x hx;rcases mem_doneT.mp hx with⟨⟨h1,h2⟩,_⟩|z
 .have e:=h.eW x h1;have g:=h.ok.lo x h1 h2;exact⟨inS _ e.1 g.1,inS _ e.2 g.2⟩
 .obtain⟨y,hy,rfl⟩:=Jz.mp z;exact⟨inR _ (h.eR y hy).1,inR _ (h.eR y hy).2⟩
theorem StW.nmD (h:StW W L R km fr):∀n∈b7 (F8 W L R km (g5 fr)),V4 n=true:=λn hn=>by
 rcases ve hn with⟨z,_⟩|⟨m,z,rfl⟩
 .exact h.nm n z
 .by_cases q:m∈b7 L
  .rw[ay _ _ q];exact h.nm _ (h.inW q)
  .rw[az _ _ q];exact h.ok.fo.nm _ (h.ok.fo.txt h.ndR (h.ok.fo.mem.mpr ⟨z,q⟩)).2
theorem zv {kf:List (j0×V)}:(b7 (F8 W L R km kf)).length<=(b7 W).length+(b7 R).length:=by
 rw[A5,A5,A5];have e1:(F8 W L R km kf).pts.length=((W.pts.filter λx=>!decide (x.1∈Z1 L R km)).filter λx=>!decide (x.1∈(K3 (bh L km kf) R).pts.map (·.1))).length+R.pts.length:=by
  show(_++_:List _).length=_;rw[JG];congr 1;exact Jx _
 have e2:(F8 W L R km kf).ts.length=((W.ts.filter λx=>!decide (x.1∈Z1 L R km)).filter λx=>!decide (x.1∈(K3 (bh L km kf) R).ts.map (·.1))).length+R.ts.length:=by
  show(_++_:List _).length=_;rw[JG];congr 1;exact Jx _
 have l1:=Kg (JJ (λx=>!decide (x.1∈(K3 (bh L km kf) R).pts.map (·.1))) _) (JJ (λx:Str×Str=>!decide (x.1∈Z1 L R km)) W.pts);have l2:=Kg (JJ (λx=>!decide (x.1∈(K3 (bh L km kf) R).ts.map (·.1))) _) (JJ (λx:Str×M8=>!decide (x.1∈Z1 L R km)) W.ts);lia
end
theorem Agree.symm {n:Str}{L R:B0}(h:Agree n L R):Agree n R L:=⟨λk=>(h.p k).symm,λt=>(h.t t).symm⟩
structure WPm (A B:B0):Prop where
 p:A.pts.Perm B.pts
 t:A.ts.Perm B.ts
theorem WPm.nm {A B:B0}(h:WPm A B):(b7 A).Perm (b7 B):=(h.p.map _).append (h.t.map _)
theorem WPm.tr {A B C:B0}(h:WPm A B)(k:WPm B C):WPm A C:=⟨h.p.trans k.p,h.t.trans k.t⟩
theorem WPm.rf (A:B0):WPm A A:=⟨Ln _,Ln _⟩
theorem WPm.sy {A B:B0}(h:WPm A B):WPm B A:=⟨h.p.symm,h.t.symm⟩
theorem WPm.ends {A B:B0}(h:WPm A B)(e:∀x∈B.ts,x.2.2.1∈B.pts.map (·.1)/\x.2.2.2∈B.pts.map (·.1)):∀x∈A.ts,x.2.2.1∈A.pts.map (·.1)/\x.2.2.2∈A.pts.map (·.1):=λx hx=>by
 have z:=e x (h.t.mem_iff.mp hx);exact⟨(h.p.map _).mem_iff.mpr z.1,(h.p.map _).mem_iff.mpr z.2⟩
theorem Ordr.pm {A B:B0}{s1 s2:List Str}(o:Ordr B s1 s2)(h:WPm A B):Ordr A s1 s2:=⟨o.p1.trans (h.p.map _).symm,o.p2.trans (h.t.map _).symm,o.o1,o.o2⟩
section
variable {W L R:B0} {km:List (j0×V)} {fr:List (Str×Str)}
theorem StW.turn (h:StW W L R km fr){t u1 u2:List Str}(ht:t.Perm (b7 R))(ou:Ordr L u1 u2):StW (F8 W L R km (g5 fr)) R L (wD L km (g5 fr) t) (xk R km (u1++u2)):=by
 have nt:=ht.nodup_iff.mpr h.ndR;have nu:=ou.perm.nodup_iff.mpr h.ndL;have eg:=vg (L:=L) (km:=km) (kf:=g5 fr) nt λx=>ht.mem_iff;have ebk:∀n∈b7 L,bh R (wD L km (g5 fr) t) (g5 (xk R km (u1++u2))) n=i7 km n:=λn hn=>oN nt (λx=>ht.mem_iff) nu (λx=>ou.mem) hn;refine⟨⟨zT nt ht h.ok.nd h.eR (λx hx=>mem_doneP.mpr (.inr hx)) λx hx=>mem_doneT.mpr (.inr hx),λx hx hn=>?_,⟨⟨u1,u2,ou,K0 _ _⟩,λx hx=>?_,?_,λx hx z=>?_,?_⟩,?_⟩,λn h1 h2=>(h.ag n h2 h1).symm,h.ndD,h.ndR,h.ndL,h.eD,h.eR,h.eL,h.nmD,h.lR,h.lL⟩
 .rw[eg] at hn⊢;have key:∀n∈W.pts.map (·.1),n∉Hn L R fr:=λn hn z=>h.gsNo z (JB _ hn);rcases mem_doneT.mp hx with⟨⟨h1,_⟩,_⟩|z
  .exact⟨key _ (h.eW x h1).1,key _ (h.eW x h1).2⟩
  .obtain⟨y,hy,rfl⟩:=Jz.mp z;have hyR:y.1∈b7 R:=JE _ (Jz.mpr ⟨y,hy,rfl⟩);have hyL:y.1∈b7 L:=KZ λq=>hn (by
    show bh L km (g5 fr) y.1∈_;rw[az _ _ q];exact Jz.mpr ⟨y.1,JH.mpr ⟨hyR,by simp [q]⟩,rfl⟩)
   have e:=h.eL y (((h.ag _ hyL hyR).t y.2).mpr hy);constructor
   .show bh L km (g5 fr) y.2.2.1∉_;rw[ay _ _ (JB _ e.1)];exact key _ (h.inP e.1)
   .show bh L km (g5 fr) y.2.2.2∉_;rw[ay _ _ (JB _ e.2)];exact key _ (h.inP e.2)
 .obtain⟨n,hn,rfl⟩:=Jz.mp hx;exact h.nm _ (h.inW (ou.mem.mp (JH.mp hn).1))
 .rw[Km];exact((ou.perm.map (i7 km)).nodup_iff.mpr h.ok.fit.nd).sublist (Ke.map _)
 .obtain⟨n,hn,rfl⟩:=Jz.mp hx;obtain⟨h1,h2⟩:=JH.mp hn;have h1:=ou.mem.mp h1;have h2:n∉b7 R:=by simpa using h2
  rcases ve z with⟨_,q⟩|⟨m,hm,e⟩
  .exact q (Jz.mpr ⟨n,JH.mpr ⟨h1,by simp [h2]⟩,rfl⟩)
  .by_cases q:m∈b7 L
   .rw[ay _ _ q] at e;exact h2 (xP h.ok.fit.nd h1 q e▸hm)
   .rw[az _ _ q] at e;exact h.frsh hm q (e▸h.inW h1)
 .rw[Jx];have:=ou.perm.length_eq;have:=JJ (λn=>!decide (n∈b7 R)) (u1++u2);have:=h.lL;lia
 .rw[KA ebk];exact h.ok.fit.nd
theorem StW.congr (h:StW W L R km fr){W' L' R':B0}{Ur:List (j0×V)}(hw:WPm W' W)(hl:WPm L' L)(hr:WPm R' R)(e:∀n∈b7 L,TxtAt Ur n/\i7 Ur n=i7 km n)(el:Ur.length=km.length):StW W' L' R' Ur fr/\WPm (F8 W' L' R' Ur (g5 fr)) (F8 W L R km (g5 fr)):=by
 have mL:∀{n},n∈b7 L'↔n∈b7 L:=hl.nm.mem_iff;have mR:∀{n},n∈b7 R'↔n∈b7 R:=hr.nm.mem_iff;have eb:bh L' Ur (g5 fr)=bh L km (g5 fr):=funext λn=>by
  by_cases z:n∈b7 L
  .rw[ay _ _ z,ay _ _ (mL.mpr z),(e n z).2]
  .rw[az _ _ z,az _ _ λq=>z (mL.mp q)]
 have dR:∀n,(!decide (n∈b7 R'))=!decide (n∈b7 R):=λn=>KQ not (NZ.mpr mR);have dL:∀n,(!decide (n∈b7 L'))=!decide (n∈b7 L):=λn=>KQ not (NZ.mpr mL);have eg:∀n,n∈Z1 L' R' Ur↔n∈Z1 L R km:=λn=>by
  constructor
  .intro z;obtain⟨m,hm,rfl⟩:=Jz.mp z;obtain⟨h1,h2⟩:=JH.mp hm;exact Jz.mpr ⟨m,JH.mpr ⟨mL.mp h1,by rw[←dR];exact h2⟩,((e m (mL.mp h1)).2).symm⟩
  .intro z;obtain⟨m,hm,rfl⟩:=Jz.mp z;obtain⟨h1,h2⟩:=JH.mp hm;exact Jz.mpr ⟨m,JH.mpr ⟨mL.mpr h1,by rw[dR];exact h2⟩,(e m h1).2⟩
 have fo:=h.ok.fo;refine⟨⟨⟨⟨by rw[el,h.ok.fit.len,hl.nm.length_eq],λn hn=>(e n (mL.mp hn)).1,?_,λx hx=>?_,λx hx=>?_⟩,λx hx hn=>?_,⟨?_,fo.nm,fo.nd,λx hx z=>fo.no x hx (hw.nm.mem_iff.mp z),fo.len⟩,?_⟩,λn h1 h2=>?_,hw.nm.nodup_iff.mpr h.ndW,hl.nm.nodup_iff.mpr h.ndL,hr.nm.nodup_iff.mpr h.ndR,hw.ends h.eW,hl.ends h.eL,hr.ends h.eR,λn hn=>h.nm n (hw.nm.mem_iff.mp hn),by rw[hl.nm.length_eq];exact h.lL,by rw[hr.nm.length_eq];exact h.lR⟩,⟨?_,?_⟩⟩
 .rw[KA λn hn=>(e n (mL.mp hn)).2];exact(hl.nm.map _).nodup_iff.mpr h.ok.fit.nd
 .have hx:=hl.p.mem_iff.mp hx;rw[(e _ (JB _ (Jz.mpr ⟨x,hx,rfl⟩))).2];exact hw.p.mem_iff.mpr (h.ok.fit.pts x hx)
 .have hx:=hl.t.mem_iff.mp hx;rw[(e _ (JE _ (Jz.mpr ⟨x,hx,rfl⟩))).2,(e _ (JB _ (h.eL x hx).1)).2,(e _ (JB _ (h.eL x hx).2)).2];exact hw.t.mem_iff.mpr (h.ok.fit.ts x hx)
 .have z:=h.ok.lo x (hw.t.mem_iff.mp hx) λz=>hn ((eg _).mpr z);exact⟨λq=>z.1 ((eg _).mp q),λq=>z.2 ((eg _).mp q)⟩
 .obtain⟨u1,u2,o,eu⟩:=fo.ks;exact⟨u1,u2,o.pm hr,by rw[eu];exact NM λn _=>(dL n).symm⟩
 .rw[eb];exact(hr.nm.map _).nodup_iff.mpr h.ok.nd
 .have a:=h.ag n (mL.mp h1) (mR.mp h2);exact⟨λk=>by rw[hl.p.mem_iff,hr.p.mem_iff];exact a.p k,λk=>by rw[hl.t.mem_iff,hr.t.mem_iff];exact a.t k⟩
 .unfold F8;rw[eb,tU W' eg];exact dF (hw.p.filter _) (hr.p.map _)
 .unfold F8;rw[eb,tU W' eg];exact dF (hw.t.filter _) (hr.t.map _)
theorem vd {A B:List (Str×Str)}(nA:(A.map (·.1)).Nodup)(nB:(B.map (·.1)).Nodup)(h:∀x∈A,x∈B)(hk:∀n∈B.map (·.1),n∈A.map (·.1)):A.Perm B:=by
 refine(LN (bU nA) (bU nB)).mpr λx=>⟨h x,λhx=>?_⟩
 obtain⟨y,hy,e⟩:=Jz.mp (hk _ (Jz.mpr ⟨x,hx,rfl⟩));exact nX nB (h y hy) hx e▸hy
variable {fx:List (Str×Str)}
theorem StW.wayM (h:StW W L R (g5 fx) fr)(hk:(fx.map (·.1)).Perm (b7 L)){t:List Str}(ht:t.Perm (b7 R)):(t.map λn=>(n,bh L (g5 fx) (g5 fr) n)).Perm (fx.filter (λx=>decide (x.1∈b7 R))++fr)/\((fx.filter (λx=>decide (x.1∈b7 R))++fr).map (·.1)).Nodup:=by
 have nk:=hk.nodup_iff.mpr h.ndL;have nf:=h.ok.fo.nd1 h.ndR;have nA:((fx.filter (λx=>decide (x.1∈b7 R))++fr).map (·.1)).Nodup:=by
  rw[JF];refine JQ.mpr ⟨nk.sublist (Ke.map _),nf,λa h1 b h2 e=>?_⟩;subst e;obtain⟨x,hx,rfl⟩:=Jz.mp h1;exact(h.ok.fo.mem.mp h2).2 (hk.mem_iff.mp (Jz.mpr ⟨x,(JH.mp hx).1,rfl⟩))
 refine⟨(vd nA (by rw[K0];exact ht.nodup_iff.mpr h.ndR) (λx hx=>?_) λn hn=>?_).symm,nA⟩
 .rcases JD.mp hx with z|z
  .obtain⟨h1,h2⟩:=JH.mp z;have hL:=hk.mem_iff.mp (Jz.mpr ⟨x,h1,rfl⟩);refine Jz.mpr ⟨x.1,ht.mem_iff.mpr (by simpa using h2),?_⟩;rw[ay _ _ hL,K7 (n:=x.1) (m:=x.2) nk h1]
  .have hm:=h.ok.fo.mem.mp (Jz.mpr ⟨x,z,rfl⟩);refine Jz.mpr ⟨x.1,ht.mem_iff.mpr hm.1,?_⟩;rw[az _ _ hm.2,K7 (n:=x.1) (m:=x.2) nf z]
 .rw[K0] at hn;have hR:=ht.mem_iff.mp hn;rw[JF];by_cases z:n∈b7 L
  .obtain⟨x,hx,rfl⟩:=Jz.mp (hk.mem_iff.mpr z);exact JB _ (Jz.mpr ⟨x,JH.mpr ⟨hx,by simp [hR]⟩,rfl⟩)
  .exact JE _ (h.ok.fo.mem.mpr ⟨hR,z⟩)
theorem StW.wayF (h:StW W L R (g5 fx) fr)(hk:(fx.map (·.1)).Perm (b7 L)){u:List Str}(hu:u.Perm (b7 L)):(xk R (g5 fx) u).Perm (fx.filter λx=>!decide (x.1∈b7 R))/\((fx.filter λx=>!decide (x.1∈b7 R)).map (·.1)).Nodup:=by
 have nk:=hk.nodup_iff.mpr h.ndL;have nA:((fx.filter λx=>!decide (x.1∈b7 R)).map (·.1)).Nodup:=nk.sublist (Ke.map _);refine⟨(vd nA (by rw[K0];exact(hu.nodup_iff.mpr h.ndL).sublist Ke) (λx hx=>?_) λn hn=>?_).symm,nA⟩
 .obtain⟨h1,h2⟩:=JH.mp hx;refine Jz.mpr ⟨x.1,JH.mpr ⟨hu.mem_iff.mpr (hk.mem_iff.mp (Jz.mpr ⟨x,h1,rfl⟩)),h2⟩,?_⟩;rw[K7 (n:=x.1) (m:=x.2) nk h1]
 .rw[K0] at hn;obtain⟨h1,h2⟩:=JH.mp hn;obtain⟨x,hx,rfl⟩:=Jz.mp (hk.mem_iff.mpr (hu.mem_iff.mp h1));exact Jz.mpr ⟨x,JH.mpr ⟨hx,h2⟩,rfl⟩
theorem rM {fr:List (Str×Str)}(nd:(fr.map (·.1)).Nodup):(fr.map (·.1)).map (λn=>(n,i7 (g5 fr) n))=fr:=by
 rw[Km];conv=>rhs;rw[←Pb fr]
 exact KA λx hx=>by show(x.1,i7 (g5 fr) x.1)=x;rw[K7 (n:=x.1) (m:=x.2) nd hx]
theorem StW.twiceF (h:StW W L R km fr){L2 R2:B0}(hl:WPm L2 R)(hr:WPm R2 L){t v1 v2:List Str}(ht:t.Perm (b7 R))(ov:Ordr L2 v1 v2):xk R2 (wD L km (g5 fr) t) (v1++v2)=fr:=by
 have nt:=ht.nodup_iff.mpr h.ndR;have ek:=h.ok.fo.at_ h.ndR (ov.pm hl.sy);have e1:((v1++v2).filter λn=>!decide (n∈b7 R2))=(v1++v2).filter λn=>!decide (n∈b7 L):=NM λn _=>KQ not (NZ.mpr hr.nm.mem_iff);show(((v1++v2).filter λn=>!decide (n∈b7 R2)).map λn=>(n,i7 (wD L km (g5 fr) t) n))=fr;rw[e1,←ek];refine Eq.trans (KA λn hn=>?_) (rM (h.ok.fo.nd1 h.ndR));have hm:=h.ok.fo.mem.mp hn;show(n,i7 (wD L km (g5 fr) t) n)=_;rw[cu nt (ht.mem_iff.mpr hm.1),az _ _ hm.2]
theorem StW.twiceM (h:StW W L R km fr){L2:B0}(hl:WPm L2 R){t u s:List Str}(ht:t.Perm (b7 R))(hu:u.Perm (b7 L))(hs:s.Perm (b7 L)):(s.map λn=>(n,bh L2 (wD L km (g5 fr) t) (g5 (xk R km u)) n))=s.map λn=>(n,i7 km n):=by
 refine KA λn hn=>?_;have hL:=hs.mem_iff.mp hn;have e:bh L2 (wD L km (g5 fr) t) (g5 (xk R km u)) n=bh R (wD L km (g5 fr) t) (g5 (xk R km u)) n:=by
  by_cases z:n∈b7 R
  .rw[ay _ _ z,ay _ _ (hl.nm.mem_iff.mpr z)]
  .rw[az _ _ z,az _ _ λq=>z (hl.nm.mem_iff.mp q)]
 show(n,bh L2 (wD L km (g5 fr) t) (g5 (xk R km u)) n)=_;rw[e,oN (ht.nodup_iff.mpr h.ndR) (λx=>ht.mem_iff) (hu.nodup_iff.mpr h.ndL) (λx=>hu.mem_iff) hL]
end
theorem qW {H:Hp}{d e:Addr}{a b:List (Str×Str)}(hd:H d=some (.dK (g5 a)))(he:H e=some (.dK (g5 b)))(p:a.Perm b)(nd:(b.map (·.1)).Nodup):EqD K H d e true:=by
 by_cases z:d=e
 .exact .inl ⟨z,rfl⟩
 .exact dQ z (.inl hd) (.inl he) p nd
structure xo (A B:Sd):Prop where
 w:WPm A.W B.W
 p:A.p≠B.p
 q:A.q≠B.q
theorem tB {H:Hp}{st r m f bl p_ r' m' f' PZ:Addr}{L R L' R':Sd}{pm pf pm' pf':List (Str×Str)}{bs Qn:List Sd}(h:StI K H st r m f bl L R (g5 pm) (g5 pf) bs)(h':StI K H p_ r' m' f' PZ L' R' (g5 pm') (g5 pf') Qn)(w1:xo L' L)(w2:xo R' R)(em:pm'.Perm pm)(ef:pf'.Perm pf)(nb:PZ≠bl)(dm:(pm.map (·.1)).Nodup)(df:(pf.map (·.1)).Nodup)(hb:Paired xo Qn bs):Hq K H (.ref p_) (.ref st) [true,true,true]:=by
 refine⟨p_,st,_,_,rfl,rfl,.inl ⟨h'.tup,h.tup⟩,rfl,rfl,λj x y b h1 h2 h3=>?_⟩;match j,h1,h2,h3 with
 |0,h1,h2,h3=>
  cases h1;cases h2;cases h3
  by_cases e:r'=r
  .exact EqN.of0 (.inr ⟨r',r,rfl,rfl,.inl ⟨e,rfl⟩⟩) 8
  .refine .inr ⟨r',r,_,_,[true,true,true],rfl,rfl,e,.inl ⟨h'.r.tup,h.r.tup⟩,rfl,rfl,λj x y b h1 h2 h3=>?_,rfl⟩
   match j,h1,h2,h3 with
   |0,h1,h2,h3=>cases h1;cases h2;cases h3;exact kP (n:=6) h'.r.l h.r.l w1.w.p w1.w.t w1.p w1.q
   |1,h1,h2,h3=>cases h1;cases h2;cases h3;exact kP (n:=6) h'.r.r h.r.r w2.w.p w2.w.t w2.p w2.q
   |2,h1,h2,h3=>
    cases h1;cases h2;cases h3
    have hl:=hb.length
    refine .inr ⟨PZ,bl,_,_,List.replicate Qn.length true,rfl,rfl,nb,.inr ⟨SqL.of h'.b,SqL.of h.b⟩,by rw[Jx,Jx,hl],by rw[Lp,Jx],λj x y b h1 h2 h3=>?_,by simp⟩
    rw[JC] at h1 h2
    obtain⟨s',G_,rfl⟩:=Kd.mp h1
    obtain⟨s,hs,rfl⟩:=Kd.mp h2
    have e3:=(Pp.mp (JM h3)).2
    subst e3
    obtain⟨Vb,r_,z⟩:=T9 hb hs
    rw[G_] at r_
    cases r_
    exact kP (n:=5) (h'.r.bars _ (JM G_)) (h.r.bars _ (JM hs)) z.w.p z.w.t z.p z.q
   |j+3,h1,_,_=>cases h1
 |1,h1,h2,h3=>cases h1;cases h2;cases h3;exact EqN.of0 (.inr ⟨m',m,rfl,rfl,qW h'.m h.m em dm⟩) 8
 |2,h1,h2,h3=>cases h1;cases h2;cases h3;exact EqN.of0 (.inr ⟨f',f,rfl,rfl,qW h'.f h.f ef df⟩) 8
 |j+3,h1,_,_=>cases h1
theorem Bh {H:Hp}{W L R:B0}{km:List (j0×V)}{fr:List (Str×Str)}{D:Sd}(h:StW W L R km fr)(hl:(b7 W).length<=16)(w:WebAt K H D.a D.p D.q D.kvs D.W)(hp:H D.p=some (.dK (g5 D.W.pts)))(hq:H D.q=some (.dK D.kvs))(ne:D.p≠D.q)(pm:WPm D.W (F8 W L R km (g5 fr))):SdIs K H D:=
 WebIs.perm w hp hq ne pm.p pm.t h.ndD (by have:=zv (W:=W) (L:=L) (R:=R) (km:=km) (kf:=g5 fr);have:=h.lR;lia) h.eD λn hn=>by
  have:=dO (OM.mp (h.nmD n hn)).1;lia
section
variable {H:Hp} {W:B0} {L R:Sd} {fx fr:List (Str×Str)}
theorem uK {Pl r4 m4 f4 SE Of r5 m5 f5 SF:Addr}{L4 R4:Sd}{t1 t2 u1 u2:List Str}(sw:StW W L.W R.W (g5 fx) fr)(hk:(fx.map (·.1)).Perm (b7 L.W))(T5:StI K H Of r5 m5 f5 SF R L (g5 (fx.filter (λx=>decide (x.1∈b7 R.W))++fr)) (g5 (fx.filter λx=>!decide (x.1∈b7 R.W))) [])
  (T4:StI K H Pl r4 m4 f4 SE L4 R4 (g5 ((t1++t2).map λn=>(n,bh L.W (g5 fx) (g5 fr) n))) (g5 (((u1++u2).filter λn=>!decide (n∈b7 R.W)).map λn=>(n,i7 (g5 fx) n))) []) (ot:Ordr R.W t1 t2) (ou:Ordr L.W u1 u2) (wl:xo L4 R) (wr:xo R4 L) (nb:SE≠SF):Hq K H (.ref Pl) (.ref Of) [true,true,true]:=
 tB T5 T4 wl wr (sw.wayM hk ot.perm).1 (sw.wayF hk ou.perm).1 nb (sw.wayM hk ot.perm).2 (sw.wayF hk ou.perm).2 .nil
end
theorem IY {α β:Type}{P:α->β->Prop}{a a':α}{b b':β}(e:a=a')(f:b=b')(h:P a b):P a' b':=by subst e f;exact h
theorem NoBar.nil {m:Addr}{W:B0}{fx:List (Str×Str)}:NoBar m [] W fx:=⟨KU _,λb hb=>(by cases hb),λb hb=>(by cases hb)⟩
def eT (K:Qe):Sp:=λvs H Q _=>∃(S L R:Sd) (st r m f bl:Addr) (fx fr:List (Str×Str)) (bs:List Sd),vs=[.ref S.a,.ref st]/\SdIs K H S/\StI K H st r m f bl L R (g5 fx) (g5 fr) bs/\StW S.W L.W R.W (g5 fx) fr/\(fx.map (·.1)).Perm (b7 L.W)/\S.W.pts.length+S.W.ts.length<=12/\NoBar m bs S.W fx/\∀H',Same H H'->Q (.bl true) H'
abbrev gx (P:Program)(w:World)(K:Qe)(mg:Str->Option Value)(base:Heap):Prop:=V9 P w K mg base (rV P w) 12 "_law_right" ["_law_web_here","_law_step_here"] [] (eT K)
theorem lN {f:Addr}{fd:FuncData}(T:Txt K mg)(cQ:iD P w K mg base)(cN:tE P w K mg base)(jX:zH P w K mg base)(aF:iM P w K mg base)(aB:iE P w K mg base)(F:Fun K "_law_right" "_law_right" bF f fd):C0 P w K mg base (rV P w) 12 f fd ["_law_web_here","_law_step_here"] (eT K):=by
 refine F.okE sc__law_right (λvs H Q E h=>?_) (λc_ A outer s H vs Q E hr h=>?_)
 .obtain⟨S,L,R,st,r,m,f,bl,fx,fr,bs,rfl,_⟩:=h;rfl
 .obtain⟨S,L,R,st,r,m,f,bl,fx,fr,bs,rfl,hS,hT,sw,hk,hl,nb,k⟩:=h;have nk:=hk.nodup_iff.mpr sw.ndL;have nf:=sw.ok.fo.nd1 sw.ndR;have OL:fx.length<=8:=by
   have z:=hk.length_eq;rw[Jx] at z;rw[z];exact sw.lL
  have J':=sw.ok.fo.len;have lS:(b7 S.W).length<=12:=by rw[A5];exact hl
  walk_at "@sc__law_right 426'0cQ 5143_~n~bk0244jiF313F313456'0jX 527sA'2cF Ot[@?853>~y'0T.b_tuple ~xToX56'0aB 51hO6'0aF p_~n~bk3550S466'0jX 557sAToX6jpjpe112ie112Ei1111hO6'0aF p_~n~bk0654S7v~vr+pee1522pee1522p15p15pee1622i1616g79dQ~0#'0NO '0PySem.F.type_dict_clear '0kE 07a'2zq HK0201h'2zq HK0304h'1By HK6'0jX 526'0aB 51h"
  refine B8 λUH hx=>?_;rfl';refine⟨st,r,m,f,bl,L,R,_,_,bs,rfl,hT,nb.len,λC_ r1 m1 f1 bl1 L1 R1 bs1 H1 s1 T1 cL cR cB nm1 nf1 nb1 mb1=>?_⟩;refine hx [some (.ref S.a),some (.ref st),some (.ref C_),none,none,none,none,none] _ ?_;clear hx;have S1:=hS.same s1;have NB1:NoBar m1 bs1 S.W fx:=by
   refine⟨by rw[←cB.length];exact nb.len,λb hb=>?_,λb hb=>?_⟩
   .obtain⟨j,hj⟩:=Lj hb;obtain⟨s,hs,z⟩:=T9 cB hj;rw[z.w];exact⟨(mb1 b hb).1,(mb1 b hb).2,(nb.b s (JM hs)).2.2⟩
   .obtain⟨j,hj⟩:=Lj hb;obtain⟨s,hs,z⟩:=T9 cB hj;rw[z.w];exact nb.no s (JM hs)
  have lkL:xo L1 L:=⟨by rw[cL.w];exact WPm.rf _,(b5 hT.r.l.hp cL.p).symm,(b5 hT.r.l.hq cL.q).symm⟩
  have lkR:xo R1 R:=⟨by rw[cR.w];exact WPm.rf _,(b5 hT.r.r.hp cR.p).symm,(b5 hT.r.r.hq cR.q).symm⟩
  have lkB:Paired xo bs1 bs:=gZ cB.length.symm λj c s hc hs=>by
   obtain⟨s',G_,z⟩:=T9 cB hc;rw[hs] at G_;cases G_;have y:=hT.r.bars s (JM hs);exact⟨by rw[z.w];exact WPm.rf _,(b5 y.hp z.p).symm,(b5 y.hq z.q).symm⟩
  refine B8 λRA hx=>?_;rfl';refine⟨S,L1,R1,C_,r1,m1,f1,bl1,_,fr,bs1,fx,rfl,S1,T1,rfl,NB1,P8 nk,by rw[j7];lia,jl,by rw[cL.w,cR.w];exact sw.ok,by lia,?_⟩;intro a2 p2 q2 k2 W2 H2 s2 w2 SK Qr ne2 np2 nq2 e21 e22;simp only[cL.w,cR.w] at e21 e22;refine hx [some (.ref S.a),some (.ref st),some (.ref C_),some (.ref a2),none,none,none,none] _ ?_;clear hx;have D2:SdIs K H2 ⟨a2,p2,q2,k2,W2⟩:=Bh (D:=⟨a2,p2,q2,k2,W2⟩) sw (by lia) w2 SK Qr ne2 ⟨e21,e22⟩;have lD:W2.pts.length+W2.ts.length<=24:=by
   have z:=D2.len;rw[A5] at z;exact z
  refine B8 λWx hx=>?_;rfl';refine j3 w2.tup ?_;rfl';refine D0 (.inl SK) (λp3 np3=>?_);obtain⟨Ha,ea,fa,ma,_⟩:=b9 (o:= .dK _) np3;rw[ea];rfl';refine i9 (ma.tup w2.tup) ?_;rfl';refine D0 (.inl (ma _ _ Qr)) (λq3 nq3=>?_);obtain⟨Hb,eb,fb,mb,_⟩:=b9 (o:= .dK _) nq3;rw[eb];rfl';refine⟨d8 (by simp),λa3 na3=>?_⟩;obtain⟨G,eg,fg,mc,_⟩:=b9 (o:= .tup _) na3;rw[eg];have WE:=ma.trans (mb.trans mc);have C3:SdIs K G ⟨a3,p3,q3,k2,W2⟩:=SdIs.copy (L:=⟨a2,p2,q2,k2,W2⟩) D2 WE (SqT.of fg) (mc _ _ (mb _ _ fa)) (mc _ _ fb) (b5 fa nq3);have np23:=b5 SK np3;have nq23:=b5 (ma _ _ Qr) nq3;rfl';refine hx [some (.ref S.a),some (.ref st),some (.ref C_),some (.ref a2),some (.ref a3),none,none,none] _ ?_;clear hx;have sG:=s1.trans (s2.trans WE);have SG:=hS.same sG;have TG:=hT.same sG;have T1G:=T1.same (s2.trans WE);have DG:=D2.same WE;clear D2 ea eb eg fa fb fg ma mb mc np3 nq3 na3 w2 SK Qr ne2 np2 nq2 WE S1;have bk1:∀{H':Hp},Same G H'->∀{Q:VK},(∀(Pl r4 m4 f4 SE:Addr) (L4 R4:Sd) (t1 t2 u1 u2:List Str) (H4:Hp),Same H' H4->Ordr R.W t1 t2->Ordr L.W u1 u2->StI K H4 Pl r4 m4 f4 SE L4 R4 (g5 ((t1++t2).map λn=>(n,bh L.W (g5 fx) (g5 fr) n))) (g5 (((u1++u2).filter λn=>!decide (n∈b7 R.W)).map λn=>(n,i7 (g5 fx) n))) []->xo L4 R->xo R4 L->H' L4.p=none->H' R4.q=none->H' m4=none->H' f4=none->Q (.ref Pl) H4)->∀{E},pC K [.ref C_] H' Q E:=fun{H'} sg {Q} kk {E}=>by
   have ok1:Bc S.W L1.W R1.W (g5 fx) fr:=by rw[cL.w,cR.w];exact sw.ok
   refine⟨C_,r1,m1,f1,bl1,L1,R1,_,_,bs1,rfl,T1G.same sg,ok1.fit.txt,λn h1 h2=>(ok1.fo.txt (by rw[cR.w];exact sw.ndR) (ok1.fo.mem.mpr ⟨h1,h2⟩)).1,?_⟩;intro Pl r4 m4 f4 SE L4 R4 t1 t2 u1 u2 H4 s4 ot ou T4 YZ RY pr1 pr2 nl1 nl2 nr1 nr2 nm4 nf4 nb4 _ _ _ _ _ _ _ _ _ _ _ _ _;simp only[cL.w,cR.w] at ot ou T4 YZ RY pr1 pr2;have TH:=TG.same sg;exact kk Pl r4 m4 f4 SE L4 R4 t1 t2 u1 u2 H4 s4 ot ou T4 ⟨⟨YZ,RY⟩,(b5 TH.r.r.hp nl1).symm,(b5 TH.r.r.hq nl2).symm⟩ ⟨⟨pr1,pr2⟩,(b5 TH.r.l.hp nr1).symm,(b5 TH.r.l.hq nr2).symm⟩ nl1 nr2 nm4 nf4
  have lb1:∀{H':Hp},Same G H'->∀{Q:VK},(∀(Of r5 m5 f5 SF:Addr) (H5:Hp),Same H' H5->StI K H5 Of r5 m5 f5 SF R L (g5 (fx.filter (λx=>decide (x.1∈b7 R.W))++fr)) (g5 (fx.filter λx=>!decide (x.1∈b7 R.W))) []->H' SF=none->Q (.ref Of) H5)->∀{E},bN K [.ref st] H' Q E:=fun{H'} sg {Q} kk {E}=>
   ⟨st,r,m,f,bl,L,R,fx,fr,bs,rfl,TG.same sg,nk,nf,λx hx z=>(sw.ok.fo.mem.mp (Jz.mpr ⟨x,hx,rfl⟩)).2 (hk.mem_iff.mp z),by lia,λOf r5 m5 f5 SF H5 s5 T5 _ _ nb5=>kk Of r5 m5 f5 SF H5 s5 T5 nb5⟩
  refine B8 λZT hx=>?_;rfl';refine bk1 (Same.refl _) λPl r4 m4 f4 SE L4 R4 t1 t2 u1 u2 H4 s4 ot ou T4 wl4 wr4 Wi nr4 nm4 nf4=>?_;refine hx [some (.ref S.a),some (.ref st),some (.ref C_),some (.ref a2),some (.ref a3),some (.ref Pl),none,none] _ ?_;clear hx;have ht:=ot.perm;have turn:=sw.turn ht ou;have c4:=turn.congr (W':=W2) (L':=L4.W) (R':=R4.W) ⟨e21,e22⟩ wl4.w wr4.w (λn hn=>⟨turn.ok.fit.txt n hn,rfl⟩) rfl;have WG:=c4.1;have bkw:=c4.2.tr ⟨(sw.again ht ou.perm).1,(sw.again ht ou.perm).2⟩;refine B8 λnx5 hx=>?_;rfl';refine eE (eO (t:="tuple") (.inr (.inl ⟨rfl,_,T4.tup⟩)) (by simp) ?_);rfl';rw[if_neg (by decide)];rfl';refine lb1 s4 λOf r5 m5 f5 SF H5 s5 T5 nb5=>?_;have T45:=T4.same s5;rfl';refine .inr ⟨[true,true,true],uK sw hk T5 T45 ot ou wl4 wr4 (b5 T4.b nb5),?_⟩;rw[show(!List.all [true,true,true] id)=false from rfl];rfl';have Us:=s4.trans s5;have lt:(t1++t2).length<=8:=by rw[ht.length_eq];exact sw.lR
  refine⟨⟨a2,p2,q2,k2,W2⟩,L4,R4,Pl,r4,m4,f4,SE,_,_,[],_,rfl,DG.same Us,T45,rfl,NoBar.nil,P8 (by rw[K0];exact ht.nodup_iff.mpr sw.ndR),by rw[j7,Jx];lia,jl,WG.ok,lD,?_⟩;intro a6 p6 q6 k6 W6 H6 s6 w6 hp6 hq6 ne6 np6 nq6 e61 e62;have S5:=SG.same Us;have T46:=T45.same s6;have WH:=Us.trans s6;rfl';refine⟨⟨a6,p6,q6,k6,W6⟩,S,rfl,w6,(S5.same s6).at_,e61.trans bkw.p,e62.trans bkw.t,A6 sw.ndW,K2 sw.ndW,(b5 S5.hp np6).symm,(b5 S5.hq nq6).symm,?_⟩;rfl';refine hx [some (.ref S.a),some (.ref st),some (.ref C_),some (.ref a2),some (.ref a3),some (.ref Pl),none,none] _ ?_;clear hx;clear w6 hp6 hq6 ne6 np6 nq6 e61 e62 T5 nb5;refine B8 λnx6 hx=>?_;rfl';refine⟨Pl,r4,m4,f4,SE,L4,R4,_,_,[],rfl,T46,WG.ok.fit.txt,λn h1 h2=>(WG.ok.fo.txt WG.ndR (WG.ok.fo.mem.mpr ⟨h1,h2⟩)).1,?_⟩;intro Ut r7 m7 f7 bl7 L7 R7 t3 t4 u3 u4 H7 s7 ot7 ou7 T7 pl3 pl4 pr3 pr4 nl3 nl7 nr3 nr7 nm7 nf7 nb7 _ _ _ _ _ _ _ _ _ _ _ _ _;refine hx [some (.ref S.a),some (.ref st),some (.ref C_),some (.ref a2),some (.ref a3),some (.ref Pl),some (.ref Ut),none] _ ?_;clear hx;have hs:=ot7.perm.trans wr4.w.nm;have e1:=sw.twiceM (L2:=L4.W) wl4.w ht ou.perm hs;have e2:=sw.twiceF wl4.w wr4.w ht ou7;have U7:StI K H7 Ut r7 m7 f7 bl7 L7 R7 (g5 ((t3++t4).map λn=>(n,i7 (g5 fx) n))) (g5 fr) []:=IY (P:=λa b=>StI K H7 Ut r7 m7 f7 bl7 L7 R7 (g5 a) (g5 b) []) e1 e2 T7;clear T7 e1 e2;have T6:=TG.same WH;have wl7:xo L7 L:=⟨WPm.tr ⟨pl3,pl4⟩ wr4.w,(b5 T6.r.l.hp nl3).symm,(b5 T6.r.l.hq nl7).symm⟩
  have wr7:xo R7 R:=⟨WPm.tr ⟨pr3,pr4⟩ wl4.w,(b5 T6.r.r.hp nr3).symm,(b5 T6.r.r.hq nr7).symm⟩
  have ns:=hs.nodup_iff.mpr sw.ndL;have ls:(t3++t4).length<=8:=by rw[hs.length_eq];exact sw.lL
  have em7:((t3++t4).map λn=>(n,i7 (g5 fx) n)).Perm fx:=((hs.trans hk.symm).map _).trans (by rw[rM nk]);have c7:=sw.congr (WPm.rf S.W) wl7.w wr7.w (λn hn=>fO ns (hs.mem_iff.mpr hn)) (by rw[j7,j7];exact em7.length_eq);have sG7:=WH.trans s7;have T7:=TG.same sG7;have S7:=SG.same sG7;refine B8 λnx7 hx=>?_;rfl';refine j3 T7.tup ?_;rfl';refine j3 T7.r.tup ?_;rfl';refine j3 T7.tup ?_;rfl';refine i9 T7.r.tup ?_;rfl';refine⟨d8 (by simp),λl8 n8=>?_⟩;obtain⟨Ha,ea,fa,ma,_⟩:=b9 (o:= .lst _) n8;rw[ea];rfl';refine⟨d8 (by simp),λr8 n8'=>?_⟩;obtain⟨Hb,eb,fb,mb,_⟩:=b9 (o:= .tup _) n8';rw[eb];rfl';refine i9 (mb.tup (ma.tup T7.tup)) ?_;rfl';refine V5 (mb.tup (ma.tup T7.tup)) ?_;rfl';refine⟨d8 (by simp),λst8 n8''=>?_⟩;obtain⟨H8,ec,fc,mc,_⟩:=b9 (o:= .tup _) n8'';rw[ec];have s8:=ma.trans (mb.trans mc);have T8:=T7.same s8;have V8:StI K H8 st8 r8 m f l8 L R (g5 fx) (g5 fr) []:=⟨SqT.of fc,⟨SqT.of (mc _ _ fb),T8.r.l,T8.r.r,SqL.of (mc _ _ (mb _ _ fa)),λb hb=>(by cases hb)⟩,T8.m,T8.f,mc _ _ (mb _ _ fa)⟩
  have U8:=U7.same s8;rfl';refine .inr ⟨[true,true,true],tB V8 U8 wl7 wr7 em7 (Ln _) (b5 U7.b n8) nk nf .nil,?_⟩;rw[show(!List.all [true,true,true] id)=false from rfl];rfl';have sG8:=sG7.trans s8;have S8:=SG.same sG8;refine⟨S,L7,R7,Ut,r7,m7,f7,bl7,_,fr,[],_,rfl,S8,U8,rfl,NoBar.nil,P8 (by rw[K0];exact ns),by rw[j7,Jx];lia,jl,c7.1.ok,by lia,?_⟩;intro a9 p9 q9 k9 W9 H9 s9 w9 hp9 hq9 ne9 np9 nq9 e91 e92;have C8:=C3.same sG8;rfl';refine⟨⟨a9,p9,q9,k9,W9⟩,⟨a3,p3,q3,k2,W2⟩,rfl,w9,(C8.same s9).at_,e91.trans (c7.2.p.trans e21.symm),e92.trans (c7.2.t.trans e22.symm),A6 C8.nd,K2 C8.nd,(b5 C8.hp np9).symm,(b5 C8.hq nq9).symm,?_⟩;rfl';refine hx [some (.ref S.a),some (.ref st),some (.ref C_),some (.ref a2),some (.ref a3),some (.ref Pl),some (.ref Ut),none] _ ?_;clear hx;have U9:=U8.same s9;have Rg:=T46.same (s7.trans (s8.trans s9));have sG9:=sG8.trans s9;refine B8 λnx8 hx=>?_;rfl';refine j3 Rg.tup ?_;rfl';refine j3 Rg.r.tup ?_;rfl';refine j3 Rg.r.l.at_.tup ?_;rfl';refine j3 Rg.tup ?_;rfl';refine i9 Rg.r.tup ?_;rfl';refine i9 Rg.r.r.at_.tup ?_;rfl';refine i9 Rg.tup ?_;rfl';refine V5 Rg.tup ?_;rfl';refine j3 U9.tup ?_;rfl';refine j3 U9.r.tup ?_;rfl';refine i9 U9.r.l.at_.tup ?_;rfl';refine i9 U9.tup ?_;rfl';refine V5 U9.tup ?_;rfl';refine⟨d8 (by simp),λlz nz=>?_⟩;obtain⟨B,ez,fz,mz,_⟩:=b9 (o:= .lst _) nz;rw[ez];obtain⟨ds,Uu⟩:∃ds:List Addr,ds=[L4.p,R4.q,m4,f4,L7.q,m7,f7]:=⟨_,rfl⟩
  have fz:B lz=some (.lst (ds.map V.ref)):=by rw[Uu];exact fz
  have gfr:∀d∈ds,G d=none:=by
   rw[Uu];intro d hd;simp only[Kl,List.mem_nil_iff,Te] at hd;rcases hd with rfl|rfl|rfl|rfl|rfl|rfl|rfl
   .exact Wi
   .exact nr4
   .exact nm4
   .exact nf4
   .exact WH.free nl7
   .exact WH.free nm7
   .exact WH.free nf7
  have Bds:∀d∈ds,∃kv,B d=some (.dK kv):=by
   rw[Uu];intro d hd;simp only[Kl,List.mem_nil_iff,Te] at hd;rcases hd with rfl|rfl|rfl|rfl|rfl|rfl|rfl
   .exact⟨_,mz _ _ Rg.r.l.hp⟩
   .exact⟨_,mz _ _ Rg.r.r.hq⟩
   .exact⟨_,mz _ _ Rg.m⟩
   .exact⟨_,mz _ _ Rg.f⟩
   .exact⟨_,mz _ _ U9.r.l.hq⟩
   .exact⟨_,mz _ _ U9.m⟩
   .exact⟨_,mz _ _ U9.f⟩
  refine A8 (SqL.of fz) ?_;refine K6 (n:=ds.length) (λi σ H'=>(∃v7,σ=[some (.ref S.a),some (.ref st),some (.ref C_),some (.ref a2),some (.ref a3),some (.ref Pl),some (.ref Ut),v7])/\Same G H'/\H' lz=some (.lst (ds.map V.ref))/\∀d∈ds,∃kv,H' d=some (.dK kv)) ⟨⟨_,rfl⟩,sG9.trans mz,fz,Bds⟩ (λi σ H' hi hp=>⟨_,.ref (ds[i]),SqL.of hp.2.2.1,by rw[JC,Jy hi];rfl⟩) ?_ ?_
  .rintro i v σ E9' E9 hi ⟨⟨v7,rfl⟩,sg,hlz,RU⟩ y _ _;obtain⟨rfl,QN⟩:=Itl.get y (SqL.of hlz);rw[JC,Jy hi] at QN;cases QN;have Py:=Kn hi;obtain⟨kv,hd⟩:=RU _ Py;generalize ds[i]=dd at Py hd;rfl';refine⟨.inr (.inr (.inl ⟨rfl,.inl ⟨_,hd⟩⟩)),?_⟩;rfl';refine⟨dd,_,rfl,rfl,hd,?_⟩;rfl';refine⟨⟨_,rfl⟩,D5 sg (gfr _ Py),?_,λd' Tb=>?_⟩
   .rw[d6 λz=>by rw[z,hd] at hlz;cases hlz];exact hlz
   .by_cases z:d'=dd
    .rw[z];exact⟨_,d0⟩
    .obtain⟨kv',h'⟩:=RU d' Tb;walk_at "X";exact⟨kv',by rw[d6 z];exact h'⟩
  .rintro σ E9 ⟨⟨v7,rfl⟩,sg,hlz,RU⟩;refine⟨⟨_,SqL.of hlz,by rw[Jx];exact JA _⟩,?_⟩;refine hx [some (.ref S.a),some (.ref st),some (.ref C_),some (.ref a2),some (.ref a3),some (.ref Pl),some (.ref Ut),v7] E9 ?_;clear hx;have D9:=DG.same sg;have C9:=C3.same sg;rfl';refine .inr ⟨[true,true,true],tB (TG.same sg) (T1G.same sg) lkL lkR (Ln _) (Ln _) (b5 hT.b nb1).symm nk nf lkB,?_⟩;rw[show List.all [true,true,true] id=true from rfl];rfl';refine lQ (qP D9.at_.tup C9.at_.tup (dQ np23 D9.at_.pts C9.at_.pts (Ln _) (A6 D9.nd)) (dw nq23 D9.at_.ties C9.at_.ties D9.at_.ts C9.at_.ts (Ln _) (K2 D9.nd)) ?_);rw[show(true&&true)=true from rfl];rfl';refine bk1 sg λst6 r6 m6 f6 bl6 L6 R6 t5 t6 u5 u6 PC s10 ot6 ou6 WI wl6 wr6 _ _ _ _=>?_;rfl';refine lb1 (sg.trans s10) λOf r5 m5 f5 SF Sz RE Xw nb5=>?_;rfl';refine .inr ⟨[true,true,true],uK sw hk Xw (WI.same RE) ot6 ou6 wl6 wr6 (b5 WI.b nb5),?_⟩;exact k _ (sG.trans (sg.trans (s10.trans RE)))
theorem qY (ns:List Int)(a b:Option Int):∃cs:List Int,cO (ns.map V.int) a b=cs.map V.int/\cs.length<=ns.length:=by
 unfold cO;rw[←List.map_drop,←List.map_take];exact⟨_,rfl,by rw[JP,Ni];lia⟩
def ES (c:Int)(j i:Nat):Str:=dZ c (j+i)
theorem FO (c:Int)(j:Nat)(h:j<=280):((List.range 4).map (ES c j)).Nodup:=jA λa b ha hb e=>by
 have z:=pN (c:=c) (i:=j+a) (j:=j+b) (by lia) (by lia) e;lia
theorem Ey {L B W:B0}{fx:List (Str×Str)}(h:vP L B)(hk:∀n,n∈fx.map (·.1)↔n∈b7 L)(nk:(fx.map (·.1)).Nodup)(hl:(b7 L).length<=8)(hw:W.pts.length+W.ts.length<=12):DB B W fx:=by
 have f0:∀l:List Str,(∀n∈l,n∈b7 L)->l.filter (cS fx)=[]:=λl hl=>MY.mpr λn hn=>by
  unfold cS;rw[JX ((hk n).mpr (hl n hn))];decide
 have pL:∀n∈L.pts.map (·.1),n∈b7 L:=λn hn=>JB _ hn;have tL:∀n∈L.ts.map (·.1),n∈b7 L:=λn hn=>JE _ hn;have key:(b7 B).length<=9/\((b7 B).filter (cS fx)).length<=1:=by
  rcases h with rfl|⟨w,kd,_,rfl⟩|⟨w,kd,o1,o2,_,_,_,rfl⟩
  .exact⟨by lia,by rw[f0 _ λn hn=>hn];exact KU _⟩
  .have e:b7 ⟨L.pts++[(w,kd)],L.ts⟩=(L.pts.map (·.1)++[w])++L.ts.map (·.1):=by unfold b7;rw[JF];rfl
   rw[e];rw[A5] at hl;refine⟨by simp;lia,?_⟩;rw[Ka,Ka,f0 _ pL,f0 _ tL];have:=JJ (cS fx) [w];simpa using this
  .have e:b7 ⟨L.pts,L.ts++[(w,(kd,o1,o2))]⟩=L.pts.map (·.1)++(L.ts.map (·.1)++[w]):=by unfold b7;rw[JF];rfl
   rw[e];rw[A5] at hl;refine⟨by simp;lia,?_⟩;rw[Ka,Ka,f0 _ pL,f0 _ tL];have:=JJ (cS fx) [w];simpa using this
 refine⟨?_,nk,(iB h hk).1⟩;have k1:((b7 B).filter (cS fx)).length=0\/((b7 B).filter (cS fx)).length=1:=by lia
 have k2:max W.pts.length W.ts.length<=12:=by lia
 rcases k1 with e|e
 .rw[e,Nat.pow_zero];lia
 .rw[e,Nat.pow_one];exact Kg (Nat.mul_le_mul (show(b7 B).length+1<=10 by lia) (show max W.pts.length W.ts.length+1<=13 by lia)) (by decide)
def pI (K:Qe):Sp:=λvs H Q _=>∃(a:Addr) (ns:List Int),vs=[.ref a]/\SqL K H a (ns.map V.int)/\ns.length<=63/\∀H',Q (.bl true) H'
theorem Di {f:Addr}{fd:FuncData}(T:Txt K mg)(fL:lA P w K mg base)(aX:eQ P w K mg base)(Q1:bV P w K mg base)(P6:dB P w K mg base)(cM:iX P w K mg base)(fI:ky P w K mg base)(cZ:iK P w K mg base)(bS:gx P w K mg base)(cz:iG P w K mg base)(cN:tE P w K mg base)(F:Fun K "law" "law" xB f fd):C0 P w K mg base E7 13 f fd ["_law_script"] (pI K):=by
 walk_at "#sc_law"
 .obtain⟨a,ns,rfl,_⟩:=h;rfl
 .obtain⟨a,ns,rfl,hA,hl,k⟩:=h;walk_at "@sc_law 7=6'0fL 50yb19b29b39z44jiF313F3137vwr&f&00Y2Y2+51*Y2g59466'0aX 8532476'0Q1 iG16227^8_law_k;16;,32Bg0l_law_k,_law_first,_law_xs;BJB6'0P6 813ff2m122007=6'0cM 838687k28yb99b:9b;9z7^<_law_bar;3:;r6'0cZ p1986k72Bg0l_law_bar,_law_web_here,_law_match;BPO6'0fI 81k02B004=jpjp19p195<k:;dsA'2cF uX6'0cz k3=_~n'0Ca k3=hTO_'0bS '0Ca k3=oX304hSS"
  refine B8 λUH hx=>?_;rfl';refine⟨a,ns,rfl,hA,hl,λt lk b p q kvs W c ks H1 m1 f1 g1 k0 k3 kk c0 hW hG Vu RF=>?_⟩;refine F5 (SqT.of f1) rfl ?_;rfl';refine hx [some (.ref a),some (.int c),some (.ref lk),some (.ref b),none,none,none,none,none,none,none,none,none,none] _ ?_;clear hx;refine B8 λRA hx=>?_;rfl';refine j3 hW.at_.tup ?_;rfl';refine D0 hW.at_.pts (λhp nhp=>?_);obtain⟨Ha,ea,fa,ma,_⟩:=b9 (o:= .dK _) nhp;rw[ea];rfl';refine i9 (ma.tup hW.at_.tup) ?_;rfl';refine D0 (.inl (ma _ _ hW.hq)) (λhq nhq=>?_);obtain⟨Hb,eb,fb,mb,_⟩:=b9 (o:= .dK _) nhq;rw[eb];rfl';refine⟨d8 (by simp),λha nha=>?_⟩;obtain⟨Hc,ec,fc,mc,_⟩:=b9 (o:= .tup _) nha;rw[ec];have m1c:=ma.trans (mb.trans mc);have Ac:SdIs K Hc ⟨ha,hp,hq,kvs,W⟩:=SdIs.copy (L:=⟨b,p,q,kvs,W⟩) hW m1c (SqT.of fc) (mc _ _ (mb _ _ fa)) (mc _ _ fb) (b5 fa nhq);have nhp1:p≠hp:=b5 hW.hp nhp;have nhq1:q≠hq:=b5 (ma _ _ hW.hq) nhq;rfl';refine hx [some (.ref a),some (.int c),some (.ref lk),some (.ref b),some (.ref ha),none,none,none,none,none,none,none,none,none] _ ?_;clear hx;have m1':=m1.trans m1c;refine B8 λWx hx=>?_;rfl';refine kY (m1'.seq hA) (λl2 n2=>?_);obtain⟨cs,RT,B_⟩:=qY ns (some 12) (some 42);rw[RT];obtain⟨H2,x2,f2,m2,_⟩:=b9 (o:= .lst _) n2;rw[x2];rfl';refine⟨d8 (by simp),λl3 n3=>?_⟩;obtain⟨H3,x3,f3,m3,_⟩:=b9 (o:= .lst _) n3;rw[x3];rfl';refine mD (m3 _ _ f2) f3 (d8 (by rw[Jx];simp;lia)) (λl4 n4=>?_);rw[show cs.map V.int++[V.int c]=(cs++[c]).map V.int by rw[JF];rfl];obtain⟨H4,x4,f4,m4,_⟩:=b9 (o:= .lst _) n4;rw[x4];rfl';refine kY (SqL.of f4) (λlz n5=>?_);obtain⟨ds,RU,SQ⟩:=qY (cs++[c]) none (some 30);rw[RU];obtain⟨B,x5,f5,m5,_⟩:=b9 (o:= .lst _) n5;rw[x5];have mB:=m1c.trans (m2.trans (m3.trans (m4.trans m5)));have SB:SdIs K B ⟨b,p,q,kvs,W⟩:=WebIs.same hW mB;have AB:SdIs K B ⟨ha,hp,hq,kvs,W⟩:=Ac.same (m2.trans (m3.trans (m4.trans m5)));have KB:B lk=some (.lst (ks.map V.str)):=mB _ _ g1;refine A8 (SqL.of f5) ?_;refine K6 (n:=ds.length) (λi σ H'=>(∃v5 v6 v7 v8 v9 v10 v11 Rc QY,σ=[some (.ref a),some (.int c),some (.ref lk),some (.ref b),some (.ref ha),v5,v6,v7,v8,v9,v10,v11,Rc,QY])/\Same B H')
   ⟨⟨_,_,_,_,_,_,_,_,_,rfl⟩,Same.refl _⟩ (λi σ H' hi hp=>⟨_,.int (ds[i]),SqL.of (hp.2 _ _ f5),by rw[JC,Jy hi];rfl⟩) ?_ ?_
  .clear hx;rintro i v σ G' G hi ⟨⟨v5,v6,v7,v8,v9,v10,v11,Rc,QY,rfl⟩,sG⟩ y _ _;obtain⟨rfl,hx⟩:=Itl.get y (SqL.of (sG _ _ f5));rw[JC,Jy hi] at hx;cases hx;rfl';refine B8 λUH hx=>?_;rfl';refine⟨_,rfl,λlx G1 xs n6 m6 f6 s_ t_=>?_⟩;refine hx [some (.ref a),some (.int c),some (.ref lk),some (.ref b),some (.ref ha),some (.int ds[i]),some (.ref lx),v7,v8,v9,v10,v11,Rc,QY] _ ?_;clear hx;obtain⟨x11,T',VR⟩:=Z8 s_ t_ 11 (by lia);obtain⟨Rf,Uj,S_⟩:=Z8 s_ t_ 14 (by lia);refine B8 λRA hx=>?_;rfl';refine j4 (SqL.of f6) T' ?_;rfl';refine⟨_,16,rfl,by lia,by lia,λlw G2 ws n7 m7 f7 hws=>?_⟩;refine hx [some (.ref a),some (.int c),some (.ref lk),some (.ref b),some (.ref ha),some (.int ds[i]),some (.ref lx),some (.ref lw),v8,v9,v10,v11,Rc,QY] _ ?_;clear hx;have WJ:AS ws:=⟨hws.1,hws.2.1,hws.2.2⟩
   have f62:=m7 _ _ f6;refine B8 λWx hx=>?_;rfl';refine Y3 (by lia) (by lia) ?_;refine z8 (n:=4) (λi out H'=>Same G2 H'/\out=((List.range i).map (ES c (40+(Rf % 200).toNat))).map V.str) ⟨Same.refl _,rfl⟩ (λi out H' hi _=>by exact hi) ?_ ?_
   .rintro N i v out G3' G3 hi ⟨s2,rfl⟩ ⟨rfl,rfl⟩ hN';rfl';refine⟨rfl,?_⟩;rfl';refine j4 (SqL.of (s2 _ _ f62)) Uj ?_;rfl';refine⟨c,40+(Rf % 200).toNat+i,?_,by lia,λG4 m3'=>?_⟩
    .show [V.int c,V.int (40+Rf % 200+(0+(i:Int)))]=_;congr 3;lia
    .refine⟨d8 (by rw[Jx,Jx,Ls];lia),hN' _ _ ⟨s2.trans m3',?_⟩⟩;rw[LL,JF,JF];rfl
   .rintro out G3 ⟨s3,rfl⟩;refine⟨JA _,λln nln=>⟨d8 (by rw[Jx,Jx,Ls];lia),?_⟩⟩;have hj:40+(Rf % 200).toNat<=280:=by lia
    have Yo:13<40+(Rf % 200).toNat:=by lia
    obtain⟨G4,e4,VW,Xe,_⟩:=b9 (H:=G3) (o:= .lst (((List.range 4).map (ES c (40+(Rf % 200).toNat))).map V.str)) nln;change O8 _ _ _ (p5 G3 ln _) _;rw[e4];have Sb:=FO c (40+(Rf % 200).toNat) hj;have Wj:∀n∈(List.range 4).map (ES c (40+(Rf % 200).toNat)),V4 n=true/\n∉b7 W:=λn hn=>by
     obtain⟨i',RV,rfl⟩:=Jz.mp hn;have hi2:=LH.mp RV;refine⟨qK _ _,λz=>?_⟩;obtain⟨j',hj',e'⟩:=RF _ z;have z2:=pN (c:=c) (i:=40+(Rf % 200).toNat+i') (j:=j') (by lia) (by lia) e';lia
    have Wi:((List.range 4).map (ES c (40+(Rf % 200).toNat))).length=4:=by rw[Jx,Ls]
    generalize (List.range 4).map (ES c (40+(Rf % 200).toNat))=nms at VW Sb Wj Wi;have Xx:=s3.trans Xe;have sG4:=sG.trans (m6.trans (m7.trans Xx));rfl';refine hx [some (.ref a),some (.int c),some (.ref lk),some (.ref b),some (.ref ha),some (.int ds[i]),some (.ref lx),some (.ref lw),some (.ref ln),v9,v10,v11,Rc,QY] _ ?_;clear hx;refine B8 λZT hx=>?_;rfl';refine⟨⟨b,p,q,kvs,W⟩,lx,lw,lk,ln,xs,ws,ks,nms,rfl,SB.same sG4,hG,SqL.of (Xx _ _ f62),s_,t_,SqL.of (Xx _ _ f7),WJ,SqL.of (sG4 _ _ KB),⟨k0,k3,kk⟩,SqL.of VW,Wi,Sb,Wj,λst r m f bl L R pr fr os G5 m8 hT rok mp lo osub fo hold=>?_⟩;refine F5 hT.tup rfl ?_;rfl';refine hx [some (.ref a),some (.int c),some (.ref lk),some (.ref b),some (.ref ha),some (.int ds[i]),some (.ref lx),some (.ref lw),some (.ref ln),some (.ref r),some (.ref m),some (.ref f),Rc,QY] _ ?_;clear hx;have Us:=sG4.trans m8;have S5:=SB.same Us;have dok:=Gr mp fo hT.r.r.nd lo osub;have lL8:(b7 L.W).length<=8:=by
     have z1:=rok.l.l1;have z2:=rok.l.l2;rw[A5];lia
    have lR8:(b7 R.W).length<=8:=by
     have z1:=rok.r.l1;have z2:=rok.r.l2;rw[A5];lia
    have sw:StW W L.W R.W (g5 (pr.map N1)) fr:=⟨dok,rok.ag,hW.nd,hT.r.l.nd,hT.r.r.nd,hW.ends,hT.r.l.ends,hT.r.r.ends,hG.nm,lL8,lR8⟩
    have hk:(pr.map N1).map (·.1)=b7 L.W:=by rw[gH];exact mp.wd
    have nk:=mp.nds;have D_:∀n,n∈(pr.map N1).map (·.1)↔n∈b7 L.W:=λn=>by rw[hk]
    have Wf:(g5 (pr.map N1)).length<=100:=by
     have z1:=dok.fit.len;lia
    have s45:=Xx.trans m8;refine B8 λnx5 hx=>?_;rfl';refine j3 hT.r.tup ?_;rfl';refine⟨L,lx,lw,lk,xs,ws,ks,rfl,hT.r.l,lL8,hold,SqL.of (s45 _ _ f62),s_,t_,SqL.of (s45 _ _ f7),WJ,Us _ _ KB,⟨k0,k3,kk⟩,λlb bs G6 n9 m9 f9 VM PK=>?_⟩;have T6:=hT.same m9;have S6:=S5.same m9;refine A8 (SqL.of f9) ?_;refine z8 (n:=(bs.map λs=>V.ref s.a).length) (λi out H'=>Same G6 H'/\∃cs:List Sd,out=cs.map (λs=>V.ref s.a)/\cs.length<=i/\∀c∈cs,c∈bs/\yf W c.W (pr.map N1)) ⟨Same.refl _,[],rfl,JA _,λc h=>by cases h⟩ (λi out H' hi hp=>⟨_,_,SqL.of (hp.1 _ _ f9),Jy hi⟩) ?_ ?_
    .rintro N i' v' out G7' G7 RV ⟨s7,cs',rfl,hcl',hcs'⟩ y' hN';obtain⟨rfl,k_⟩:=Itl.get y' (SqL.of (s7 _ _ f9));rw[JC] at k_;obtain⟨bb,XG,rfl⟩:=Kd.mp k_;have VE:=JM XG;obtain⟨hB,hB1,hBp,hBq⟩:=PK bb VE;rw[Jx] at RV;rfl';refine⟨rfl,?_⟩;rfl';refine⟨⟨b,p,q,kvs,W⟩,bb,m,pr.map N1,rfl,S6.same s7,hB.same s7,s7 _ _ T6.m,nk,Vu,b5 S5.hp hBp,b5 S5.hq hBq,(iB hB1 D_).2,λtv G8 PD hmet=>?_⟩;rfl';cases tv
     .rw[if_pos (by decide)];rfl';refine⟨d8 (by rw[Jx];lia),hN' _ _ ⟨s7.trans PD,cs'++[bb],by rw[JF];rfl,by rw[JG];exact Nat.succ_le_succ hcl',λc hc=>?_⟩⟩;rcases JD.mp hc with z|z
      .exact hcs' c z
      .rw[JN.mp z];exact⟨VE,hmet rfl⟩
     .rw[if_neg (by decide)];exact hN' _ _ ⟨s7.trans PD,cs',rfl,Nat.le_succ_of_le hcl',hcs'⟩
    .rintro out G7 ⟨s7,cs',rfl,hcl',hcs'⟩;rw[Jx] at hcl';refine⟨⟨_,SqL.of (s7 _ _ f9),JA _⟩,λTa nlb=>⟨d8 (by rw[Jx];lia),?_⟩⟩;obtain⟨G8,e8,f8,PD,_⟩:=b9 (H:=G7) (o:= .lst (cs'.map λs=>V.ref s.a)) nlb;change O8 _ _ _ (p5 G7 Ta (.lst (cs'.map λs=>V.ref s.a))) _;rw[e8];rfl';refine hx [some (.ref a),some (.int c),some (.ref lk),some (.ref b),some (.ref ha),some (.int ds[i]),some (.ref lx),some (.ref lw),some (.ref ln),some (.ref r),some (.ref m),some (.ref f),some (.ref Ta),QY] _ ?_;clear hx;have T8:=T6.same (s7.trans PD);refine B8 λnx6 hx=>?_;rfl';refine j3 T8.r.tup ?_;rfl';refine i9 T8.r.tup ?_;rfl';refine⟨d8 (by simp),λr2 nr2=>?_⟩;obtain⟨G9,e9,f9',RD,_⟩:=b9 (o:= .tup _) nr2;rw[e9];rfl';refine⟨d8 (by simp),λC' nst2=>?_⟩;obtain⟨G10,Rx,Ry,OT,_⟩:=b9 (o:= .tup _) nst2;rw[Rx];rfl';refine hx [some (.ref a),some (.int c),some (.ref lk),some (.ref b),some (.ref ha),some (.int ds[i]),some (.ref lx),some (.ref lw),some (.ref ln),some (.ref r),some (.ref m),some (.ref f),some (.ref Ta),some (.ref C')] _ ?_;clear hx;have Xy:=s7.trans (PD.trans (RD.trans OT));have Tz:=T6.same Xy;have S10:=S6.same Xy;have fl:G10 Ta=some (.lst (cs'.map λs=>V.ref s.a)):=OT _ _ (RD _ _ f8);have WI:StI K G10 C' r2 m f Ta L R (g5 (pr.map N1)) (g5 fr) cs':=⟨SqT.of Ry,⟨SqT.of (OT _ _ f9'),Tz.r.l,Tz.r.r,SqL.of fl,λb hb=>(PK b (hcs' b hb).1).1.same Xy⟩,Tz.m,Tz.f,fl⟩
     have nb:NoBar m cs' W (pr.map N1):=⟨by lia,λb hb=>by
      have z:=PK b (hcs' b hb).1;exact⟨b5 hT.m z.2.2.1,b5 hT.m z.2.2.2,Ey z.2.1 D_ nk lL8 Vu⟩,λb hb=>by
      have z:=iB (PK b (hcs' b hb).1).2.1 D_;exact zD (hcs' b hb).2 nk z.1 z.2⟩
     have sG10:=Us.trans (m9.trans Xy);rfl';refine⟨⟨b,p,q,kvs,W⟩,L,R,C',r2,m,f,Ta,pr,fr,os,cs',rfl,S10,WI,mp,fo,λD G11 OS hD nD1 nD2 eD1 eD2=>?_⟩;have Xw:=WI.same OS;have UL:=S10.same OS;rfl';refine⟨⟨b,p,q,kvs,W⟩,L,R,C',r2,m,f,Ta,_,fr,cs',pr.map N1,rfl,UL,Xw,rfl,nb,P8 nk,Wf,jl,dok,by show W.pts.length+W.ts.length<=24;lia,?_⟩;intro fa fp fq fk FW G12 UE hF Ui TJ fne nfp nfq pF1 pF2;have nF1:(FW.pts.map (·.1)).Nodup:=(pF1.map _).nodup_iff.mpr (A6 sw.ndD);have nF2:(FW.ts.map (·.1)).Nodup:=(pF2.map _).nodup_iff.mpr (K2 sw.ndD);have dueP:D.W.pts.Perm FW.pts:=(LN (dG nD1) (dG nF1)).mpr λx=>by rw[pF1.mem_iff];exact(eD1 x).trans (AZ mp rok fo hT.r.r.nd hW.nd x).symm
     have dueT:D.W.ts.Perm FW.ts:=(LN (dG nD2) (dG nF2)).mpr λx=>by rw[pF2.mem_iff];exact(eD2 x).trans (Em mp rok fo hT.r.r.nd hW.nd hT.r.l.ends x).symm
     have nDp:D.p≠fp:=λz=>by
      have z2:=hD.pts;rw[z] at z2;rcases z2 with z2|⟨_,z2⟩<;>(rw[nfp] at z2;cases z2)
     have nDq:D.q≠fq:=λz=>by
      have z2:=hD.ties;rw[z] at z2;rcases z2 with z2|⟨_,z2⟩<;>(rw[nfq] at z2;cases z2)
     have Ue:=hD.mono UE.le;rfl';refine xS (rg Ue.tup hF.tup (dQ nDp Ue.pts hF.pts dueP nF1) (dw nDq Ue.ties hF.ties Ue.ts hF.ts dueT nF2) ?_);rw[show(!(true&&true))=false from rfl];rfl';refine⟨⟨b,p,q,kvs,W⟩,L,R,C',r2,m,f,Ta,pr.map N1,fr,cs',rfl,UL.same UE,Xw.same UE,sw,by rw[hk],Vu,nb,λG13 Zh=>?_⟩;have Uv:=sG10.trans (OS.trans (UE.trans Zh));have TY:=SB.same Uv;have Xz:=AB.same Uv;rfl';refine xS (rg TY.at_.tup Xz.at_.tup (dQ nhp1 TY.at_.pts Xz.at_.pts (Ln _) (A6 hW.nd)) (dw nhq1 TY.at_.ties Xz.at_.ties TY.at_.ts Xz.at_.ts (Ln _) (K2 hW.nd)) ?_);rw[show(!(true&&true))=false from rfl];rfl';exact⟨⟨_,_,_,_,_,_,_,_,_,rfl⟩,Uv⟩
  .rintro σ G ⟨⟨v5,v6,v7,v8,v9,v10,v11,Rc,QY,rfl⟩,sG⟩;refine⟨⟨_,SqL.of (sG _ _ f5),by rw[Jx];exact JA _⟩,?_⟩;refine hx [some (.ref a),some (.int c),some (.ref lk),some (.ref b),some (.ref ha),v5,v6,v7,v8,v9,v10,v11,Rc,QY] G ?_;rfl';exact k _
end
theorem all_mk {l:PySem.W.OpenLaw}{w:World}{K:Qe}{h:Heap}{mg:Str->Option Value}{fa f0 f1 f2 f3 f4 f5 f6 f7 f8 f9 Ry SU VS TZ f14 Zg f16 f17 f18 f19 f20 f21 f22 f23 f24 f25 f26 f27 f28 f29 f30 f31 f32 f33 f34 f35 f36 f37 f38 f39 f40 f41 f42 f43 f44 f45 f46 f47 f48 f49 f50 f51 f52 f53 f54:Addr}{t_MOST_NAME_SIGNS t_NAME_SIGNS t_SMALL_LETTERS:Tok}{C_Barred C_Loose C_NoMatch C_NoNames:Addr}(X:K.In h)(G:h.Ns mainGlobals mg)(Yl:mg "law"=some (.ref fa))
  (a0:FnIn K "is_text_of" bK f0)
  (a1:FnIn K "is_name" hZ f1)
  (a2:FnIn K "in_order" fK f2)
  (a3:FnIn K "copied" jU f3)
  (a4:FnIn K "things" kh f4)
  (a5:FnIn K "without" iu f5)
  (a6:FnIn K "united" kZ f6)
  (a7:FnIn K "tie_renamed" aS f7)
  (a8:FnIn K "renamed" ic f8)
  (a9:FnIn K "is_match" fu f9)
  (a10:FnIn K "line" rZ Ry)
  (a11:FnIn K "first_match" aQ SU)
  (a12:FnIn K "first_found" aT VS)
  (a13:FnIn K "found" oK TZ)
  (a14:FnIn K "may_be" jO f14)
  (a15:FnIn K "point_choices" Z4 Zg)
  (a16:FnIn K "tie_places" bY f16)
  (a17:FnIn K "enough" kB f17)
  (a18:FnIn K "lines" oY f18)
  (a19:FnIn K "images" jG f19)
  (a20:FnIn K "tie_choices" aO f20)
  (a21:FnIn K "has_room" fw f21)
  (a22:FnIn K "both" sh f22)
  (a23:FnIn K "alone" pM f23)
  (a24:FnIn K "kept" tR f24)
  (a25:FnIn K "taken" oB f25)
  (a26:FnIn K "fresh_of" fe f26)
  (a27:FnIn K "turned" ku f27)
  (a28:FnIn K "picked" kC f28)
  (a29:FnIn K "barred" jT f29)
  (a30:FnIn K "taken_out" cT f30)
  (a31:FnIn K "names_serve" aW f31)
  (a32:FnIn K "rest_of" gX f32)
  (a33:FnIn K "done" tM f33)
  (a34:FnIn K "behind" jL f34)
  (a35:FnIn K "back" ua f35)
  (a36:FnIn K "_law_cell_at" ae f36)
  (a37:FnIn K "_law_mixed" bL f37)
  (a38:FnIn K "_law_stream" aV f38)
  (a39:FnIn K "_law_name" cI f39)
  (a40:FnIn K "_law_words" bM f40)
  (a41:FnIn K "_law_web" fG f41)
  (a42:FnIn K "_law_picked" aP f42)
  (a43:FnIn K "_law_out" fj f43)
  (a44:FnIn K "_law_rule" cn f44)
  (a45:FnIn K "_law_step" cG f45)
  (a46:FnIn K "_law_done" cW f46)
  (a47:FnIn K "_law_copy" cU f47)
  (a48:FnIn K "_law_same" dg f48)
  (a49:FnIn K "_law_met" fF f49)
  (a50:FnIn K "_law_bars" cX f50)
  (a51:FnIn K "_law_set" fE f51)
  (a52:FnIn K "_law_back" dD f52)
  (a53:FnIn K "_law_right" bF f53)
  (a54:FnIn K "law" xB f54)
  (z_all:PySem.W.nsIn K mainGlobals "all"=some none)
  (z_any:PySem.W.nsIn K mainGlobals "any"=some none)
  (z_dict:PySem.W.nsIn K mainGlobals "dict"=some none)
  (z_enumerate:PySem.W.nsIn K mainGlobals "enumerate"=some none)
  (z_int:PySem.W.nsIn K mainGlobals "int"=some none)
  (z_isinstance:PySem.W.nsIn K mainGlobals "isinstance"=some none)
  (z_len:PySem.W.nsIn K mainGlobals "len"=some none)
  (z_list:PySem.W.nsIn K mainGlobals "list"=some none)
  (z_max:PySem.W.nsIn K mainGlobals "max"=some none)
  (z_min:PySem.W.nsIn K mainGlobals "min"=some none)
  (z_range:PySem.W.nsIn K mainGlobals "range"=some none)
  (z_reversed:PySem.W.nsIn K mainGlobals "reversed"=some none)
  (z_set:PySem.W.nsIn K mainGlobals "set"=some none)
  (z_sorted:PySem.W.nsIn K mainGlobals "sorted"=some none)
  (z_str:PySem.W.nsIn K mainGlobals "str"=some none)
  (z_tuple:PySem.W.nsIn K mainGlobals "tuple"=some none)
  (z_zip:PySem.W.nsIn K mainGlobals "zip"=some none)
  (v_MOST_NAME_SIGNS:PySem.W.nsIn K mainGlobals "MOST_NAME_SIGNS"=some (some (.int 24 t_MOST_NAME_SIGNS)))
  (v_NAME_SIGNS:PySem.W.nsIn K mainGlobals "NAME_SIGNS"=some (some (.str fP t_NAME_SIGNS)))
  (v_SMALL_LETTERS:PySem.W.nsIn K mainGlobals "SMALL_LETTERS"=some (some (.str bZ t_SMALL_LETTERS)))
  (n_Barred:PySem.W.nsIn K mainGlobals "Barred"=some (some (.ref C_Barred)))
  (n_Loose:PySem.W.nsIn K mainGlobals "Loose"=some (some (.ref C_Loose)))
  (n_NoMatch:PySem.W.nsIn K mainGlobals "NoMatch"=some (some (.ref C_NoMatch)))
  (n_NoNames:PySem.W.nsIn K mainGlobals "NoNames"=some (some (.ref C_NoNames)))
  (xr_Barred:PySem.W.excIn K C_Barred ET "ValueError.__new__"=true)
  (xr_Loose:PySem.W.excIn K C_Loose ET "ValueError.__new__"=true)
  (xr_NoMatch:PySem.W.excIn K C_NoMatch ET "ValueError.__new__"=true)
  (xr_NoNames:PySem.W.excIn K C_NoNames ET "ValueError.__new__"=true)
  :
  ∃fd:FuncData,(∀(s:Shared) (v:Value),BindsTo s fd ⟨[v],[]⟩ [("_law_script",v)])/\∀base:Heap,K.In base->base.Ns mainGlobals mg->C0 l.prog w K mg base E7 13 fa fd ["_law_script"] (pI K):=by
 have ec_Barred:cA K "Barred"=C_Barred:=by unfold cA;rw[n_Barred]
 have ec_Loose:cA K "Loose"=C_Loose:=by unfold cA;rw[n_Loose]
 have ec_NoMatch:cA K "NoMatch"=C_NoMatch:=by unfold cA;rw[n_NoMatch]
 have ec_NoNames:cA K "NoNames"=C_NoNames:=by unfold cA;rw[n_NoNames]
 have T:Txt K mg:=⟨by rw[ec_Barred];exact⟨LQ X G n_Barred,xr_Barred⟩,by rw[ec_Loose];exact⟨LQ X G n_Loose,xr_Loose⟩,by rw[ec_NoMatch];exact⟨LQ X G n_NoMatch,xr_NoMatch⟩,by rw[ec_NoNames];exact⟨LQ X G n_NoNames,xr_NoNames⟩,KC X G z_all,KC X G z_any,KC X G z_dict,KC X G z_enumerate,KC X G z_int,KC X G z_isinstance,KC X G z_len,KC X G z_list,KC X G z_max,KC X G z_min,KC X G z_range,KC X G z_reversed,KC X G z_set,KC X G z_sorted,KC X G z_str,KC X G z_tuple,KC X G z_zip,⟨_,LQ X G v_MOST_NAME_SIGNS,_,rfl⟩,⟨_,LQ X G v_NAME_SIGNS,_,rfl⟩,⟨_,LQ X G v_SMALL_LETTERS,_,rfl⟩⟩
 refine CC X G Yl a54 (fun{base f fd} F=>?_) λ_ _ _ _ _ _ s v=> .of_eq rfl
 have bR:gr l.prog w K mg base:=l0 X G a0 (λF=>lH T F) (by walk_at "b")
 have bX:kc l.prog w K mg base:=l0 X G a2 (λF=>rh T F) (by walk_at "b")
 have A4:V1 l.prog w K mg base:=l0 X G a4 (λF=>vO T F) (by walk_at "b")
 have E6:Y2 l.prog w K mg base:=l0 X G a7 (λF=>jP T F) (by walk_at "b")
 have bB:jD l.prog w K mg base:=l0 X G a14 (λF=>vq T F) (by walk_at "b")
 have aZ:jE l.prog w K mg base:=l0 X G a17 (λF=>wX T F) (by walk_at "b")
 have Y8:jS l.prog w K mg base:=l0 X G a28 (λF=>we T F) (by walk_at "b")
 have J5:aj l.prog w K mg base:=l0 X G a36 (λF=>jd T F) (by walk_at "b")
 have N7:bI l.prog w K mg base:=l0 X G a37 (λF=>lJ T F) (by walk_at "b")
 have aX:eQ l.prog w K mg base:=l0 X G a38 (λF=>kF T F) (by walk_at "b")
 have P6:dB l.prog w K mg base:=l0 X G a39 (λF=>oP T F) (by walk_at "b")
 have Q1:bV l.prog w K mg base:=l0 X G a40 (λF=>lO T F) (by walk_at "b")
 have aN:eN l.prog w K mg base:=l0 X G a42 (λF=>kn T F) (by walk_at "b")
 have fi:lq l.prog w K mg base:=l0 X G a43 (λF=>rl T F) (by walk_at "b")
 have cz:iG l.prog w K mg base:=l0 X G a46 (λF=>oR T F) (by walk_at "b")
 have cQ:iD l.prog w K mg base:=l0 X G a47 (λF=>nS T F) (by walk_at "b")
 have aF:iM l.prog w K mg base:=l0 X G a48 (λF=>oG T F) (by walk_at "b")
 have fI:ky l.prog w K mg base:=l0 X G a49 (λF=>rH T F) (by walk_at "b")
 have cZ:iK l.prog w K mg base:=l0 X G a50 (λF=>pG T F) (by walk_at "b")
 have aB:iE l.prog w K mg base:=l0 X G a52 (λF=>nO T F) (by walk_at "b")
 have iy:mC l.prog w K mg base:=l0 X G a1 (λF=>sr T bR F) (by walk_at "b")
 have N0:dC l.prog w K mg base:=l0 X G a3 (λF=>vY T bX F) (by walk_at "b")
 have sD:zN l.prog w K mg base:=l0 X G a10 (λF=>BD T A4 F) (by walk_at "b")
 have Z6:cf l.prog w K mg base:=l0 X G a15 (λF=>ie T bB F) (by walk_at "b")
 have bD:fY l.prog w K mg base:=l0 X G a16 (λF=>lI T bB F) (by walk_at "b")
 have O6:aM l.prog w K mg base:=l0 X G a20 (λF=>jZ T E6 F) (by walk_at "b")
 have sY:xE l.prog w K mg base:=l0 X G a22 (λF=>Av T A4 F) (by walk_at "b")
 have dX:nZ l.prog w K mg base:=l0 X G a23 (λF=>xC T A4 F) (by walk_at "b")
 have fJ:kr l.prog w K mg base:=l0 X G a41 (λF=>rJ T N7 J5 P6 F) (by walk_at "b")
 have cK:iP l.prog w K mg base:=l0 X G a44 (λF=>oQ T aN fi F) (by walk_at "b")
 have ia:nH l.prog w K mg base:=l0 X G a5 (λF=>se T N0 F) (by walk_at "b")
 have jB:qc l.prog w K mg base:=l0 X G a6 (λF=>vH T N0 F) (by walk_at "b")
 have iA:mH l.prog w K mg base:=l0 X G a8 (λF=>tK T E6 N0 F) (by walk_at "b")
 have ft:kH l.prog w K mg base:=l0 X G a9 (λF=>qE T A4 sD E6 F) (by walk_at "b")
 have fm:kx l.prog w K mg base:=l0 X G a21 (λF=>qj T aZ O6 F) (by walk_at "b")
 have tY:yC l.prog w K mg base:=l0 X G a24 (λF=>BK T sY F) (by walk_at "b")
 have dM:oS l.prog w K mg base:=l0 X G a25 (λF=>xA T dX F) (by walk_at "b")
 have X4:fD l.prog w K mg base:=l0 X G a26 (λF=>qo T dX F) (by walk_at "b")
 have lF:rq l.prog w K mg base:=l0 X G a27 (λF=>wZ T N0 F) (by walk_at "b")
 have cM:iX l.prog w K mg base:=l0 X G a45 (λF=>pj T cK F) (by walk_at "b")
 have fL:lA l.prog w K mg base:=l0 X G a51 (λF=>qk T N7 J5 Q1 fJ F) (by walk_at "b")
 have kl:qX l.prog w K mg base:=l0 X G a19 (λF=>wV T A4 O6 fm F) (by walk_at "b")
 have cv:iN l.prog w K mg base:=l0 X G a30 (λF=>pq T dM F) (by walk_at "b")
 have aU:eC l.prog w K mg base:=l0 X G a31 (λF=>kN T X4 iy F) (by walk_at "b")
 have bc:kD l.prog w K mg base:=l0 X G a34 (λF=>wm T Y8 tY X4 A4 F) (by walk_at "b")
 have oU:uv l.prog w K mg base:=l0 X G a18 (λF=>yB T A4 kl F) (by walk_at "b")
 have jX:zH l.prog w K mg base:=l0 X G a35 (λF=>Bo T Y8 dM bc lF F) (by walk_at "b")
 have nQ:uy l.prog w K mg base:=l0 X G a13 (λF=>xN T Z6 aZ bD A4 oU F) (by walk_at "b")
 have aL:eJ l.prog w K mg base:=l0 X G a12 (λF=>jM T nQ F) (by walk_at "b")
 have aR:eU l.prog w K mg base:=l0 X G a11 (λF=>jI T aL F) (by walk_at "b")
 have kM:rC l.prog w K mg base:=l0 X G a29 (λF=>vS T aR F) (by walk_at "b")
 have ik:mU l.prog w K mg base:=l0 X G a32 (λF=>sO T ft ia cv kM F) (by walk_at "b")
 have cN:tE l.prog w K mg base:=l0 X G a33 (λF=>Au T ik aU jB iA bc F) (by walk_at "b")
 have bS:gx l.prog w K mg base:=l0 X G a53 (λF=>lN T cQ cN jX aF aB F) (by walk_at "b")
 exact Di T fL aX Q1 P6 cM fI cZ bS cz cN F
theorem walk {l:PySem.W.OpenLaw}{q:Program}{loose:List Str}{XP:(Str->Option Value)->Heap->Prop}{YP:World->Heap->Prop}{d:DefRec}{K:Params->Qe}(hn:l.most=some 63)(Vg:d.params.defaults=[])
  (hY:∀(w:World) (h:Heap),YP w h->(K w.params).In h)
  (F:∀(w:World) (mg:Str->Option Value) (fa:Addr) (h:Heap),(K w.params).In h->h.Ns mainGlobals mg->mg d.name=some (.ref fa)->
   ∃fd:FuncData,(∀(s:Shared) (u:Value),BindsTo s fd ⟨[u],[]⟩ [("_law_script",u)])/\∀base:Heap,(K w.params).In base->base.Ns mainGlobals mg->C0 l.prog w (K w.params) mg base E7 13 fa fd ["_law_script"] (pI (K w.params))):
  PySem.W.WalkO q loose XP YP l.row.toRowW d [] (λf vs=>PySem.call f vs):=
 L2.walk_of (n:=63) (k:=13) (x:="_law_script") (CX:=λ_=>E7) (sp:=λw=>pI (K w.params)) hn (by decide) Vg ⟨rfl,by decide,by decide⟩ hY F (λ_ _ a ns hl _ hS=>⟨a,ns,rfl,hS,hl,λ_=>rfl⟩) λ_ _ _ _ _ z=>z
end K26
namespace PySem.W.Fast
def tw11847207567210819107:=True
def tw14944513072482942698:=True
def tw16881958391057366895:=True
def tw11515613329735206735:=True
def tw9452682012114089893:=True
def tw12754436764041324923:=True
def tw14587571636284781849:=True
def tw10884365406706216677:=True
def tw5298740212697332385:=True
def tw657832763241655611:=True
def tw5990516292419831013:=True
def tw17539216904746472644:=True
def tw1278144886895414777:=True
def tw11672391120513652939:=True
def tw2276154867057225969:=True
def tw832041944135484304:=True
def tw11195582177816582967:=True
def tw16415267766820271900:=True
def tw12828390171703097122:=True
def tw15175070660032620090:=True
def tw15922713222690890900:=True
def tw18307267505856098423:=True
def tw15373012409646432567:=True
def tw15360799608854061014:=True
def tw5476831730228160707:=True
def tw10814216776031282642:=True
def tw1739023196018987633:=True
def tw458104648284374665:=True
def tw16475444908837826062:=True
def tw11132450627170701108:=True
def tw14408948197944101742:=True
def tw4260098895616319345:=True
def tw1994087679345524884:=True
def tw4608051780736695448:=True
def tw8005823951391965886:=True
def tw2760543827254841644:=True
def tw13675546765446335734:=True
def tw16249969406540489197:=True
def tw15762167640940570326:=True
def tw6478437269325473822:=True
def tw4055155785214069739:=True
def tw8878392437537821794:=True
def tw8557345941080188415:=True
def tw5797901997846608678:=True
def tw17802986315484419832:=True
def tw12588725218282272803:=True
def tw6225994862719081047:=True
def tw18348114759175351368:=True
def tw14023646141206513549:=True
def tw1482847158580602977:=True
def tw16556361127738994803:=True
def tw10920441418420894509:=True
def tw12201600605710698061:=True
def tw12769177738881582861:=True
def tw5036068585843884376:=True
def tw5550596661662691819:=True
def tw6486851484974371480:=True
def tw9386096036719466768:=True
def tw1412621509681769207:=True
def tw11248147283125770288:=True
def tw12928309137311501459:=True
def tw14812472056347924417:=True
def tw15549516342711347241:=True
def tw14889023931182337:=True
def tw13845728479609086233:=True
def tw6121696773361362711:=True
def tw11287629807800868590:=True
def tw9838858104147557823:=True
def tw63339584911142547:=True
def tw411713889971213211:=True
def tw13267247627023241944:=True
def tw7022827537101743816:=True
def tw6029540211194336030:=True
def tw2380861494019964687:=True
def tw2228923140786765616:=True
def tw4455392344534090681:=True
def tw17626772987283308333:=True
def tw4824713018138302920:=True
def tw4114030083830724033:=True
def tw16443199992072573823:=True
def tw10287704329413294131:=True
def tw4113060060462308648:=True
def tw4273872587576829843:=True
def tw587315764963572943:=True
def tw2344001360395905227:=True
def tw5213368571251262375:=True
def tw4828013368586166772:=True
def tw9097126222605511165:=True
def tw6540218435234391382:=True
def tw2749028092182911026:=True
def tw491221488004903353:=True
def tw12651460181011570760:=True
def tw4906332599865321445:=True
def tw13632932427668966575:=True
def tw15407474159539351670:=True
def tw10939091986005448144:=True
def tw1217549753927967289:=True
def tw16707468680681193484:=True
def tw16411557076251269043:=True
def tw8034838368738982407:=True
def tw2142111883169721370:=True
def tw4336961852484839936:=True
def tw13903579046077290190:=True
def tw13194079526629004404:=True
def tw12441823631283766542:=True
def tw9309911491836356781:=True
def tw11316285386537426261:=True
def tw5642972184723249260:=True
def tw9449737107356269854:=True
def tw14326275807983652826:=True
def tw2444016944734222303:=True
def tw3513401649156063448:=True
def tw16213139401938438384:=True
def tw17875452846396907362:=True
def tw11913987882517802761:=True
def tw1806417200535024262:=True
def tw12668261506897235475:=True
def tw12912321347697340860:=True
def tw13557437375170796911:=True
def tw14984223345367660129:=True
def tw3535818946972258723:=True
def tw2939378979159428037:=True
def tw8830860561477422282:=True
def tw8973190621707849433:=True
def tw10743514116312933781:=True
def tw17406442496089017288:=True
def tw17515222496147096:=True
def tw13868213971701224047:=True
def tw12756715536725414299:=True
def tw10384819185120880386:=True
def tw15834002782371666685:=True
def tw9609303679964163624:=True
def tw14095016436095324671:=True
def tw5226896569486457374:=True
def tw10036452124479747716:=True
def tw16212818168839618063:=True
def tw4462513235055980637:=True
def tw10784123309463159801:=True
def tw4589702821972830311:=True
def tw1205583339610983870:=True
def tw7632583261742138316:=True
def tw9231187548537106222:=True
def tw3691414250465243802:=True
def tw7768692203312277714:=True
def tw7246546462825403274:=True
def tw5975919371944109473:=True
def tw5645988568708520839:=True
def tw543176433236961237:=True
def tw9745507477628607578:=True
def tw266711120194265122:=True
def tw905165605832527398:=True
def tw17261852817017110713:=True
def tw12021815567783124345:=True
def tw10756727751516200294:=True
def tw1498801053819068734:=True
def tw9608958932703358004:=True
def tw6355501727993675405:=True
def tw266783130536113403:=True
def tw3601722324055267770:=True
def tw8177445347855077003:=True
def tw4168624997293773263:=True
def tw14358264966831080227:=True
def tw13869954245952734495:=True
def tw3069751682939109737:=True
def tw8568215002263727802:=True
def tw8903691357250569254:=True
def tw6022701558379671219:=True
def tw3039554088462379172:=True
def tw102989583153674153:=True
def tw17961984651053918163:=True
def tw16581078934036051884:=True
def tw6442891214534044137:=True
def tw6937836739876129717:=True
def tw153372366344934858:=True
def tw8158411273998786067:=True
def tw11853312709822964823:=True
def tw6110244779027114068:=True
def tw1413046518372407269:=True
def tw6633828575530394716:=True
def tw15459896366805730401:=True
def tw792438082523163480:=True
def tw12247749450453819768:=True
def tw8910393866437788199:=True
def tw14550697226820406345:=True
def tw9143018426852525958:=True
def tw8087907144847250547:=True
def tw1968653815629946303:=True
def tw1707929429807999423:=True
def tw10051855821751182376:=True
def tw3401706070987813188:=True
def tw2476354257814615061:=True
def tw12336216231384869078:=True
def tw3676202126778455821:=True
def tw299247440735301631:=True
def tw15010655796849151911:=True
def tw15659523837085042120:=True
def tw1277124557846560449:=True
def tw16254652775999117406:=True
def tw1511971844663785761:=True
def tw12446716350194014311:=True
def tw3145714167911078119:=True
def tw16102125256145065:=True
def tw12656543580659795429:=True
def tw644255389274221183:=True
def tw14914417884895624724:=True
def tw9701941943766032946:=True
def tw9164229465578957654:=True
def tw1465589109246337553:=True
def tw1061963110770467347:=True
def tw6452886938417305319:=True
def tw8403928208309463822:=True
def tw11940627816077888115:=True
def tw7224464383654043192:=True
def tw4909022099745404941:=True
def tw16044285738294879880:=True
def tw12830119666392562438:=True
def tw5875434869234469425:=True
def tw11123391371692768492:=True
def tw555242242285869490:=True
def tw12683813152064167941:=True
def tw13406534422966459846:=True
def tw14714983880475813008:=True
def tw8356274926124774715:=True
def tw10272913566144484947:=True
def tw13303253363438616800:=True
def tw7450461200568787821:=True
def tw10219103687857568187:=True
def tw4487823214449600365:=True
def tw3127267815639209929:=True
def tw885357607363521245:=True
def tw4604488360945880410:=True
def tw15369756543336599196:=True
def tw8266662181032584339:=True
def tw14249364876851123321:=True
def tw13694943440704936454:=True
def tw12722431140706299287:=True
def tw13035278715781128652:=True
def tw9444977574226336017:=True
def tw2250939382638587467:=True
def tw11695283235528372394:=True
def tw10650566111435543578:=True
def tw6795060476941001578:=True
def tw18331223255908937122:=True
def tw10024421536464908299:=True
def tw12114726777487763601:=True
def tw7532326291299292892:=True
def tw6653069286407443794:=True
def tw5282522644202129079:=True
def tw2119289502146093096:=True
def tw2033191610696555425:=True
def tw12334097855671882303:=True
def tw11801488415505522730:=True
def tw11386878713629652265:=True
def tw8574331318896803795:=True
def tw6940051140951362794:=True
def tw9517922183280462496:=True
def tw1559004992212579933:=True
def tw8812091266653229286:=True
def tw6277668915688434429:=True
def tw5940343130464297856:=True
def tw3239813197504200678:=True
def tw12940798739277145433:=True
def tw17029612414213585887:=True
def tw15505796292822378885:=True
def tw7153692553257414748:=True
def tw61814889012346180:=True
def tw419951389803391036:=True
def tw13796960974334455198:=True
def tw12080383093286884158:=True
def tw10594898383160710991:=True
end PySem.W.Fast
open PySem PySem.W PyProof.Rows
local macro_rules| `(tactic|walk_at "F")=> `(tactic|(refine' L2.FnIn.mk' ?a ?l ?c ?k;(case a=>k_is);(case l=>k_is);(case c=>k_is);(case k=>k_is)))
set_option maxRecDepth 100000 in
set_option maxHeartbeats 0 in
theorem PySem.Challenge.cw_gluework_k26_whole_back_holds : PySem.Challenge.rw_gluework_k26_whole_back.Holds := by
 w_on;o_law;k_head;(case hw=>w_witness2);k_fill;refine K26.walk (l:=PySem.Challenge.rw_gluework_k26_whole_back) rfl rfl (λw h Y=>PySem.W.kIn_of Y) ?F;case F=>
  intro w mg fa h KX G hmg
  refine' K26.all_mk KX G hmg ?a0 ?a1 ?a2 ?a3 ?a4 ?a5 ?a6 ?a7 ?a8 ?a9 ?a10 ?a11 ?a12 ?a13 ?a14 ?a15 ?a16 ?a17 ?a18 ?a19 ?a20 ?a21 ?a22 ?a23 ?a24 ?a25 ?a26 ?a27 ?a28 ?a29 ?a30 ?a31 ?a32 ?a33 ?a34 ?a35 ?a36 ?a37 ?a38 ?a39 ?a40 ?a41 ?a42 ?a43 ?a44 ?a45 ?a46 ?a47 ?a48 ?a49 ?a50 ?a51 ?a52 ?a53 ?a54 ?z_all ?z_any ?z_dict ?z_enumerate ?z_int ?z_isinstance ?z_len ?z_list ?z_max ?z_min ?z_range ?z_reversed ?z_set ?z_sorted ?z_str ?z_tuple ?z_zip ?v_MOST_NAME_SIGNS ?v_NAME_SIGNS ?v_SMALL_LETTERS ?n_Barred ?n_Loose ?n_NoMatch ?n_NoNames ?xr_Barred ?xr_Loose ?xr_NoMatch ?xr_NoNames
  (case a0=>walk_at "F")
  (case a1=>walk_at "F")
  (case a2=>walk_at "F")
  (case a3=>walk_at "F")
  (case a4=>walk_at "F")
  (case a5=>walk_at "F")
  (case a6=>walk_at "F")
  (case a7=>walk_at "F")
  (case a8=>walk_at "F")
  (case a9=>walk_at "F")
  (case a10=>walk_at "F")
  (case a11=>walk_at "F")
  (case a12=>walk_at "F")
  (case a13=>walk_at "F")
  (case a14=>walk_at "F")
  (case a15=>walk_at "F")
  (case a16=>walk_at "F")
  (case a17=>walk_at "F")
  (case a18=>walk_at "F")
  (case a19=>walk_at "F")
  (case a20=>walk_at "F")
  (case a21=>walk_at "F")
  (case a22=>walk_at "F")
  (case a23=>walk_at "F")
  (case a24=>walk_at "F")
  (case a25=>walk_at "F")
  (case a26=>walk_at "F")
  (case a27=>walk_at "F")
  (case a28=>walk_at "F")
  (case a29=>walk_at "F")
  (case a30=>walk_at "F")
  (case a31=>walk_at "F")
  (case a32=>walk_at "F")
  (case a33=>walk_at "F")
  (case a34=>walk_at "F")
  (case a35=>walk_at "F")
  (case a36=>walk_at "F")
  (case a37=>walk_at "F")
  (case a38=>walk_at "F")
  (case a39=>walk_at "F")
  (case a40=>walk_at "F")
  (case a41=>walk_at "F")
  (case a42=>walk_at "F")
  (case a43=>walk_at "F")
  (case a44=>walk_at "F")
  (case a45=>walk_at "F")
  (case a46=>walk_at "F")
  (case a47=>walk_at "F")
  (case a48=>walk_at "F")
  (case a49=>walk_at "F")
  (case a50=>walk_at "F")
  (case a51=>walk_at "F")
  (case a52=>walk_at "F")
  (case a53=>walk_at "F")
  (case a54=>walk_at "F")
  (case z_all|z_any|z_dict|z_enumerate|z_int|z_isinstance|z_len|z_list|z_max|z_min|z_range|z_reversed|z_set|z_sorted|z_str|z_tuple|z_zip|v_MOST_NAME_SIGNS|v_NAME_SIGNS|v_SMALL_LETTERS|n_Barred|n_Loose|n_NoMatch|n_NoNames=>k_is)
  (case xr_Barred=>k_exc)
  (case xr_Loose=>k_exc)
  (case xr_NoMatch=>k_exc)
  (case xr_NoNames=>k_exc)
